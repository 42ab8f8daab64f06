import PyProof.Rows.All
import Wide.All
import OpenK.AllK
import Wide.FinOn
import PyProof.Rows.SortShellK
import KE.KSortTup
import Lean
import PyProof.EqAt
import PyProof.EqKinds
import PyProof.TupleCall
import PyProof.SetRoads
import PyProof.DictRoadsH
import PyProof.IsRules
import PyProof.CollectWalk
import PyProof.FactsAll.set
import PyProof.NeData
import PyProof.P3In
import PyProof.TupleOfSeq
import PyProof.ZipIter
import PyProof.Rows.ZipGen
import KE.KDictOf
import PyProof.AttrMissHeap
import PyProof.Rows.SumAny
import PyProof.DictIter
import PyProof.DictWalks
import PyProof.DictValues
import PyProof.ListRange
import PyProof.ListStr
import PyProof.DictTruth
import PySem.Challenge.RW_strikeweave_k55_weaves_kept
namespace PySem.W.Fast
def tw5615090096739386050:=0
def tw1374503695591935935:=0
def tw14982512527305328653:=0
def tw10723119507944833421:=0
def tw10040505977060343625:=0
def tw2296157793343446813:=0
def tw17579850342099759263:=0
def tw17718548566047291846:=0
def tw6288868209088684564:=0
def tw16273541055162061785:=0
def tw6344859020327735209:=0
def tw1895231399267602264:=0
def tw9586268444018978870:=0
def tw17666289062825077231:=0
def tw13609496522263520681:=0
def tw13410340665718602639:=0
def tw16316065308185913995:=0
def tw7751226566867040247:=0
def tw3306881049481986739:=0
def tw10572486678949781498:=0
def tw5999718069579574782:=0
def tw7412437076127821843:=0
def tw2653939723782612330:=0
def tw12287722437226106666:=0
def tw5214008519837004876:=0
def tw13127180360949749264:=0
def tw14428527830356893912:=0
def tw4288276840637330784:=0
def tw12193261660139268749:=0
def tw10881155851650360573:=0
def tw4174511822145609601:=0
def tw1212887691355044656:=0
def tw3162619709258688798:=0
def tw17033079437823650312:=0
def tw5891724614492530534:=0
def tw7631324057574295098:=0
def tw13325395093635552145:=0
def tw11803419415614718950:=0
def tw16760401122845012790:=0
def tw11130559066133841297:=0
def tw3083826121891178754:=0
def tw15597501818745433188:=0
def tw1081109946413087351:=0
def tw7077064567676233220:=0
def tw6220860857753605860:=0
def tw2293699992954940023:=0
def tw87506120903219219:=0
def tw583061934628139338:=0
def tw10512385104551603397:=0
def tw8913148143347415291:=0
def tw4933129967391988090:=0
def tw1779102499666049527:=0
def tw13511460754287984294:=0
def tw13019047106109090634:=0
def tw6105638567570417175:=0
def tw12821693929485314842:=0
def tw1422709518005131148:=0
def tw9724887138577662383:=0
def tw17074736307275601880:=0
def tw13151944858840008369:=0
def tw7908496993843684073:=0
def tw1956845508402060593:=0
def tw4523137553275411120:=0
def tw6495639501483729647:=0
def tw9517454537444076614:=0
def tw18425499719691825511:=0
def tw12141906218685189960:=0
def tw13997571334801542897:=0
def tw11023073427790012003:=0
def tw12931443501212076974:=0
def tw5710668617131580596:=0
def tw14622855650198101625:=0
def tw10232037275828671064:=0
def tw2182084615849381877:=0
def tw3047820483503909687:=0
def tw17999769518350395797:=0
def tw10020523695678073444:=0
def tw10076629888188683054:=0
def tw17341336492989333919:=0
def tw4310062719749492220:=0
def tw11399593973486051273:=0
def tw4019143690874212590:=0
def tw3272721954027426755:=0
def tw16930703016373086765:=0
def tw13381055823318475971:=0
def tw5510547680280257917:=0
def tw10512101917720097995:=0
def tw9636950363997459500:=0
def tw11743632628982273178:=0
def tw5432804800634072036:=0
def tw3309152384006614270:=0
def tw10455334059752587082:=0
def tw7670281942212284271:=0
def tw17558075977896132385:=0
def tw13215912560775603656:=0
def tw7789799346746525711:=0
def tw13353544625394759413:=0
def tw14683687407341101827:=0
def tw8232634666861766540:=0
def tw14626629303359829930:=0
def tw2339210782714992227:=0
def tw12864464533361650269:=0
def tw9412654778940276630:=0
def tw18299032361006091074:=0
def tw14888654045835681475:=0
def tw15897918697067229916:=0
def tw1146843109260158727:=0
def tw16087527382426268928:=0
def tw13728446775565733774:=0
def tw6043555274600896483:=0
def tw15495616534187014105:=0
def tw15143291110530951922:=0
def tw17865865508662318501:=0
def tw16683284767604903082:=0
def tw983110184981545124:=0
def tw2756279403847304406:=0
def tw9255915344713072406:=0
def tw8995844445319073056:=0
def tw7391837947393933562:=0
def tw535368026852166207:=0
def tw5417884667607566418:=0
def tw5805558269407655696:=0
def tw7445527874480866749:=0
def tw1640849635184575465:=0
def tw15525215829119498151:=0
def tw16859161268153352809:=0
def tw3057880966511787567:=0
def tw16498098802473990894:=0
def tw8523595686366028639:=0
def tw17386711913374595491:=0
def tw398996037193938826:=0
def tw7477440670549503460:=0
def tw3821988754447651426:=0
def tw7501272251608608253:=0
def tw11344958361636228498:=0
def tw1453301517390435881:=0
def tw8943830713066373997:=0
def tw3593561168494040601:=0
def tw10697402072650179912:=0
def tw2138749717500931914:=0
def tw3690906418508212800:=0
def tw14531493267937381222:=0
def tw7387733501570928927:=0
def tw51351772471764003:=0
def tw9264177884693366318:=0
def tw142580353621589558:=0
def tw6094430455097585568:=0
def tw3857550322415849036:=0
def tw15992685103039439160:=0
def tw16116210853028686648:=0
def tw15992703981801335816:=0
def tw18403285455868865209:=0
def tw11283980626820921159:=0
def tw6429325760326149454:=0
def tw3255910884850951627:=0
def tw3410078279717638454:=0
def tw439891657491589806:=0
def tw4982120522928168799:=0
def tw8613656768030800725:=0
def tw19775591487505796:=0
def tw16294959862273872279:=0
def tw15355883288705049820:=0
def tw7661077952753065001:=0
def tw15084836773171458205:=0
def tw18334719009144106056:=0
def tw12520085188962197286:=0
def tw6933180811272167457:=0
def tw1024277856555168962:=0
def tw2191043511390038869:=0
def tw9864963252019537469:=0
def tw4713464882378006893:=0
def tw13359887975372787748:=0
def tw12833705574185577521:=0
def tw8831688129400280245:=0
def tw5629514149178093126:=0
def tw8427602564261564878:=0
def tw6152745330550250951:=0
def tw17809383773667110307:=0
def tw10694772378023370213:=0
def tw3297071141290388932:=0
def tw5609261268233171134:=0
def tw410444476748572397:=0
def tw10489028532070913199:=0
def tw8479901090230677940:=0
def tw9983000405485049213:=0
def tw16650168306417586593:=0
def tw10199396204093355091:=0
def tw8492272722765708748:=0
def tw2237371394038702339:=0
def tw15118392623143092490:=0
def tw2437657895245521809:=0
def tw18296130747185327883:=0
def tw5834129058407072531:=0
def tw17074910376810100612:=0
def tw4110293664334216092:=0
def tw11297268469519819183:=0
def tw15204420408905011730:=0
def tw4604696738180206458:=0
def tw2959833782708013764:=0
def tw1154037308323454490:=0
def tw13256736537229648444:=0
def tw8606228177813657961:=0
def tw4111705152566546717:=0
def tw2498457778931401872:=0
def tw12105311914470697996:=0
def tw4008813308745500869:=0
def tw4080997716660328029:=0
def tw8130537943136100281:=0
def tw6241127366605378754:=0
def tw7606327182376670420:=0
def tw13103136793440744487:=0
def tw6347303646505209200:=0
def tw4905294620147027791:=0
def tw7765863593053054124:=0
def tw91782430441041654:=0
def tw4170364134567145787:=0
def tw8578689291652818657:=0
def tw9392295105784766680:=0
def tw4117171250617116559:=0
def tw8287673083178418924:=0
def tw11876201803226152674:=0
def tw6487910895383659712:=0
end PySem.W.Fast
set_option autoImplicit false
set_option genSizeOf false
set_option genSizeOfSpec false
set_option bootstrap.genMatcherCode false
set_option compiler.extract_closed false
set_option linter.all false
set_option maxRecDepth 100000
set_option Elab.async false
section
open PySem PySem.Spec PyProof.Rows
def AA:=@List.length_map
def AB:=@wpAny_bind
def AC:=@List.mem_singleton
def AD:=@Heap.get?_push_of_some
def AE:=@wpAny_pure
def AF:=@Heap.lt_size
def AG:=@Nat.le_refl
def AH:=@List.getElem?_map
def AI:=@List.not_mem_nil
def AJ:=@List.mem_cons
def AK:=@List.size_toArray
def AL:=@List.map_append
def AM:=@List.getElem?_eq_some_iff
def AN:=@List.mem_of_getElem?
def AO:=@Heap.get?_push_size
def AQ:=@decide_eq_true
def AR:=@List.getElem?_eq_getElem
def AS:=@Nat.ne_of_lt
def AU:=@Option.map_eq_some_iff
def AV:=@List.length_take
def AW:=@List.mem_cons_of_mem
def AX:=@List.mem_cons_self
def AY:=@Bool.false_ne_true
def AZ:=@List.map_map
def A_:=@List.mem_append
def BA:=@List.length_append
def BB:=@List.mem_map
def BC:=@decide_eq_false
def BD:=@Nat.lt_of_lt_of_le
def BE:=@List.mem_append_right
def BF:=@if_neg
def BG:=@Option.some.inj
def BH:=@List.mem_of_mem_take
def BI:=@if_pos
def BJ:=@wpAny_field
def BK:=@Bool.and_eq_true
def BL:=@Array.length_toList
def BM:=@List.length_cons
def BN:=@Option.ne_none_iff_exists'
def BO:=@Nat.le_trans
def BP:=@wpAny_setField_rec
def BQ:=@wpAny_ite_false
def BR:=@List.map_cons
def BS:=@wpAny_callSpecial?_slot
def BT:=@List.mem_append_left
def BU:=@Nat.zero_le
def BV:=@wpAny_mono
def BW:=@wpAny_truthy_bool
def BX:=@Heap.size_push
def BZ:=@List.map_take
def B_:=@List.nodup_cons
def CA:=@List.all_eq_true
def CB:=@List.take_length
def CC:=@List.filter_eq_self
def CD:=@List.length_singleton
def CF:=@List.length_drop
def CG:=@wpAny_holding
def CH:=@wpAny_newObj_type
def CI:=@Int.toNat_natCast
def CJ:=@of_decide_eq_true
def CK:=@Nat.le_of_lt
def CL:=@wpAny_call_entry
def CM:=@wpAny_Call_Name_kw
def CN:=@List.getElem?_append_right
def CO:=@Nat.le_of_ble_eq_true
def CP:=@List.getElem?_append_left
def CQ:=@List.append_nil
def CS:=@Option.isSome_iff_exists
def CT:=@List.filterMap_cons
def CU:=@wpAny_seqItems
def CV:=@Nat.zero_lt_succ
def CW:=@wpAny_pyIter_tuple
def CY:=@Nat.lt_irrefl
def CZ:=@List.getElem?_toArray
def C_:=@List.nodup_append
def DA:=@wpAny_rule
def DB:=@List.getD_eq_getElem?_getD
def DC:=@wpAny_ite_true
def DD:=@codeAny_mono
def DE:=@Array.getElem?_eq_getElem
def DF:=@List.length_reverse
def DG:=@Heap.SameBut.update
def DH:=@wpAny_standAt
def DI:=@wpAny_passesOwn
def DJ:=@Bool.eq_iff_iff
def DK:=@List.of_mem_zip
def DL:=@Nat.min_eq_left
def DM:=@Int.emod_lt_of_pos
def DN:=@Bool.false_and
def DP:=@wpAny_pyIter_list
def DQ:=@List.take_sublist
def DR:=@List.reverse_cons
def DS:=@wpAny_newTuple
def DT:=@wpAny_pyIter_enum
def DU:=@List.append_assoc
def DV:=@Nat.lt_succ_self
def DW:=@List.lookup_cons
def DX:=@wpAny_pyIter_zip
def DY:=@Nat.le_add_right
def DZ:=@Nat.le_succ
def D_:=@wpAny_of_eq
end
noncomputable section
namespace L2
open PySem PySem.Spec PyProof.Rows
abbrev Key:=Sum Int Str
def Fh:Key->Value->Bool
 | .inl k,v=>Value.isInt k v
 | .inr x,v=>Value.isStrOf x v
def Qc(w:World):Key->Int
 | .inl k=>hashInt k
 | .inr x=>hashStr w x
theorem D6:∀{k:Key} {v:Value},Fh k v=true->(∃i t,k=Sum.inl i/\v=Value.int i t)\/(∃x t,k=Sum.inr x/\v=Value.str x t)
 | .inl i,v,h=>by
  obtain⟨t,e⟩:=Value.isInt_shape (k:=i) (v:=v) h;exact .inl ⟨i,t,rfl,e⟩
 | .inr x,v,h=>by
  obtain⟨t,e⟩:=Value.isStrOf_shape (x:=x) (v:=v) h;exact .inr ⟨x,t,rfl,e⟩
theorem Y3(x:Str)(t:Tok):Fh (.inr x) (.str x t)=true:=by simp[Fh,Value.isStrOf]
theorem Lu(a b:Int):decide ((Sum.inl a:Key)=Sum.inl b) =(a == b):=by
 by_cases e:a=b
 .subst e;simp
 .have h:¬(Sum.inl a:Key)=Sum.inl b:=fun q=>e (Sum.inl.inj q);rw[BC h];exact(beq_eq_false_iff_ne.mpr e).symm
theorem Na(a b:Str):decide ((Sum.inr a:Key)=Sum.inr b)=decide (a=b):=by
 by_cases e:a=b
 .subst e;simp
 .have h:¬(Sum.inr a:Key)=Sum.inr b:=fun q=>e (Sum.inr.inj q);rw[BC h,BC e]
theorem Mc(a:Int)(b:Str):decide ((Sum.inl a:Key)=Sum.inr b)=false:=BC (fun q=>nomatch q)
theorem Nj(a:Str)(b:Int):decide ((Sum.inr a:Key)=Sum.inl b)=false:=BC (fun q=>nomatch q)
def Q8(prog:Program)(w:World):PySem.KeyKind prog w Key where
 is:=Fh
 hash:=Qc w
 inj:=fun v a b ha hb=>by
  rcases D6 ha with⟨i,t,rfl,rfl⟩ | ⟨x,t,rfl,rfl⟩
  .rcases D6 hb with⟨j,u,rfl,e⟩ | ⟨y,u,rfl,e⟩
   .injection e with e1 _;rw[e1]
   .exact nomatch e
  .rcases D6 hb with⟨j,u,rfl,e⟩ | ⟨y,u,rfl,e⟩
   .exact nomatch e
   .injection e with e1 _;rw[e1]
 byValue:=fun k v h=>by
  rcases D6 h with⟨i,t,rfl,rfl⟩ | ⟨x,t,rfl,rfl⟩<;>rfl
 pyHash:=fun hv h=>by
  rcases D6 hv with⟨i,t,rfl,rfl⟩ | ⟨x,t,rfl,rfl⟩
  .exact wpAny_pyHash_int h
  .exact wpAny_pyHash_str h
 eqBool:=fun hu hv h=>by
  rcases D6 hu with⟨i,t,rfl,rfl⟩ | ⟨x,t,rfl,rfl⟩
  .rcases D6 hv with⟨j,u,rfl,rfl⟩ | ⟨y,u,rfl,rfl⟩
   .rw[Lu]at h;exact wpAny_eqBool_int h
   .rw[Mc]at h;exact SeqAt.EqAt.int_str i t y u _ _ _ _ h
  .rcases D6 hv with⟨j,u,rfl,rfl⟩ | ⟨y,u,rfl,rfl⟩
   .rw[Nj]at h;exact SeqAt.EqAt.str_int x t j u _ _ _ _ h
   .rw[Na]at h;exact wpAny_eqBool_str h
 «strs»:=fun k x t v h=>by
  rcases D6 h with⟨i,u,rfl,e⟩ | ⟨y,u,rfl,e⟩
  .exact nomatch e
  .injection e with e1 _;subst e1;cases v<;>rfl
inductive V where
 | non | bl (b:Bool) | int (i:Int) | str (x:Str) | byt (b:Array UInt8) | flt (b:UInt64) | ref (a:Addr) | ty (n:String)
 deriving DecidableEq
def RelV:V->Value->Prop
 | .non,u=>u=Value.none
 | .bl b,u=>u=Value.bool b
 | .int i,u=>∃t,u=Value.int i t
 | .str x,u=>∃t,u=Value.str x t
 | .byt b,u=>∃t,u=Value.bytes b t
 | .flt b,u=>∃t,u=Value.float b t
 | .ref a,u=>u=Value.ref a
 | .ty n,u=>u=Value.type n
abbrev Vals:List V->List Value->Prop:=Paired RelV
theorem Vals.length{xs:List V}{us:List Value}(r:Vals xs us):xs.length=us.length:=Paired.length r
theorem Vals.get:∀{xs:List V} {us:List Value} {i:Nat} {x:V},Vals xs us->xs[i]?=some x->∃u,us[i]?=some u/\RelV x u
 | _,_,_,_,.nil,e=>by simp at e
 | _,_,0,_,.cons r _,e=>by simp at e;subst e;exact⟨_,rfl,r⟩
 | _,_,i+1,x,.cons _ t,e=>by
  obtain⟨u,h1,h2⟩:=Vals.get (i:=i) (x:=x) t (by simpa using e);exact⟨u,by simpa using h1,h2⟩
theorem Vals.set{x:V}{u:Value}(r:RelV x u):∀{xs:List V} {us:List Value} (i:Nat),Vals xs us->Vals (xs.set i x) (us.set i u)
 | _,_,_,.nil=>.nil
 | _,_,0,.cons _ t=>.cons r t
 | _,_,i+1,.cons q t=>.cons q (Vals.set r i t)
theorem Vals.append:∀{xs ys:List V} {us ws:List Value},Vals xs us->Vals ys ws->Vals (xs++ys) (us++ws)
 | _,_,_,_,.nil,s=>s
 | _,_,_,_,.cons r t,s=>.cons r (Vals.append t s)
theorem Vals.take:∀{xs:List V} {us:List Value} (n:Nat),Vals xs us->Vals (xs.take n) (us.take n)
 | _,_,0,_=>.nil
 | _,_,_+1,.nil=>.nil
 | _,_,n+1,.cons r t=>.cons r (Vals.take n t)
theorem Vals.drop:∀{xs:List V} {us:List Value} (n:Nat),Vals xs us->Vals (xs.drop n) (us.drop n)
 | _,_,0,r=>r
 | _,_,_+1,.nil=>.nil
 | _,_,n+1,.cons _ t=>Vals.drop n t
theorem Vals.none_of:∀{xs:List V} {us:List Value} {i:Nat},Vals xs us->xs[i]?=none->us[i]?=none:=fun{xs us i} r e=>by
 have h1:=r.length;have h2:xs.length<=i:=List.getElem?_eq_none_iff.mp e;exact List.getElem?_eq_none_iff.mpr (by omega)
def RelO:Option V->Option Value->Prop
 | some v,some u=>RelV v u
 | none,none=>True
 | _,_=>False
def KV{U:Type}:List (U×V)->List (U×Value)->Prop:=Paired fun(p:U×V) (q:U×Value)=>p.1=q.1/\RelV p.2 q.2
def kV:Key->V
 | .inl i=>.int i
 | .inr x=>.str x
inductive HO where
 | lst (xs:List V)
 | tup (xs:List V)
 | dK (kvs:List (Key×V)) | dT (kvs:List (List Key×V))
 | set (S:Int->Bool) (n:Nat)
 | ins (C dx:Addr) (fs:List (Str×V))
 | own (x:Addr)
 | xd (fs:List (Str×V))
 | met (f x:Addr)
 | rng (lo hi:Int)
 | frz (o:Obj) (u:HO)
 | tbl (ps:Array Value)
 | ext (φ:Heap->Prop)
set_option genInjectivity false
abbrev Hp:=Addr->Option HO
def upd(H:Hp)(a:Addr)(o:HO):Hp:=fun b=>if b=a then some o else H b
theorem A7{H:Hp}{a:Addr}{o:HO}:upd H a o a=some o:=by unfold upd;rw[BI rfl]
theorem B4{H:Hp}{a b:Addr}{o:HO}(h:b≠a):upd H a o b=H b:=by unfold upd;rw[BF h]
theorem O7{H:Hp}{a b:Addr}{o u:HO}(h:H a=some o)(h':H b=some u)(d:o≠u):a≠b:=by
 intro e;subst e;rw[h]at h';exact d (BG h')
theorem A9{H:Hp}{a b:Addr}{o:HO}(h:H a=some o)(h':H b=none):a≠b:=by
 intro e;subst e;rw[h]at h';cases h'
section
variable(P:Program)(w:World)
def ObjOk(H:Hp)(h:Heap)(a:Addr):HO->Prop
 | .lst xs=>xs.length<=sizeLine/\∃(its:List Value) (n:Nat),Vals xs its/\h.get? a=some { cls:=.type "list",data:=.seq its.toArray n }
 | .tup xs=>xs.length<=sizeLine/\∃its:List Value,Vals xs its/\IsTup h a its.toArray
 | .dK kvs=>kvs.length<=sizeLine/\(a == sysModules)=false/\∃vs,KV kvs vs/\h.DictOf (Q8 P w) a vs
 | .dT kvs=>kvs.length<=sizeLine/\(a == sysModules)=false/\∃xs:List (List Key×Addr×Value),
   Paired (fun(p:List Key×V) (q:List Key×Addr×Value)=>p.1=q.1/\H q.2.1=some (.tup (p.1.map kV))/\RelV p.2 q.2.2) kvs xs /\
   ∃o es ep,h.get? a=some o/\o.ExactDict/\o.data = .dict es ep/\es.toList=xs.map (entryOfKey (tupleKind (Q8 P w)))/\(xs.map (·.1)).Nodup
 | .set S n=>h.SetOf (intKind P w) a S n
 | .ins C dx fs=>H dx=some (.own a)/\fs.length<=1000/\dx≠a/\h.get? a=some (PySem.W.instObj C dx) /\
   ∃mA,h.Ns1 dx mA/\(∀f,RelO (fs.lookup f) (mA f))/\PySem.Within mA (fs.map (·.1))
 | .own _=>∃o,h.get? a=some o
 | .xd fs=>∃mA,h.Ns1 a mA/\∀f,RelO (fs.lookup f) (mA f)
 | .rng lo hi=>∃t u v,h.get? a=some { cls:=.type "range",data:=.fields #[.int lo t,.int hi u,.int 1 v] }
 | .frz o u=>h.get? a=some o/\ObjOk H h a u
 | .tbl ps=>h.get? a=some { cls:=.none,data:=.fields ps }
 | .met f x=>h.get? a=some (PySem.W.methodObj (.ref f) (.ref x))
 | .ext φ=>φ h/\(∃o,h.get? a=some o)/\∀h1 h2:Heap,φ h1->(∀o,h1.get? a=some o->h2.get? a=some o)->φ h2
def HOk(H:Hp)(h:Heap):Prop:=∀a o,H a=some o->ObjOk P w H h a o
end
section
variable{P:Program}{w:World}{H H':Hp}{h h':Heap}{a:Addr}{o:HO}
theorem ObjOk.lt(x:ObjOk P w H h a o):a<h.objs.size:=by
 cases o with
 | lst xs=>obtain⟨_,_,_,_,e⟩:=x;exact AF e
 | tup xs=>obtain⟨_,_,_,p⟩:=x;exact p.lt
 | dK kvs=>obtain⟨_,_,_,_,o,_,_,e,_⟩:=x;exact AF e
 | dT kvs=>obtain⟨_,_,_,_,o,_,_,e,_⟩:=x;exact AF e
 | set S n=>obtain⟨o,_,_,_,e,_⟩:=x;exact AF e
 | ins C dx fs=>obtain⟨_,_,_,e,_⟩:=x;exact AF e
 | own y=>obtain⟨_,e⟩:=x;exact AF e
 | xd fs=>obtain⟨_,⟨_,_,_,e,_⟩,_⟩:=x;exact AF e
 | rng lo hi=>obtain⟨_,_,_,e⟩:=x;exact AF e
 | frz ob u=>obtain⟨e,_⟩:=x;exact AF e
 | tbl ps=>exact AF (show h.get? a=some _ from x)
 | met f y=>exact AF (show h.get? a=some _ from x)
 | ext φ=>obtain⟨_,⟨_,e⟩,_⟩:=x;exact AF e
theorem Paired.mapP{α β:Type}{F G:α->β->Prop}:∀{l₁:List α} {l₂:List β},Paired F l₁ l₂->(∀a b,F a b->G a b)->Paired G l₁ l₂
 | _,_,.nil,_=>.nil
 | _,_,.cons r t,f=>.cons (f _ _ r) (Paired.mapP t f)
theorem ObjOk.stay(x:ObjOk P w H h a o)(k:∀b u,(b=a\/H b=some (.own a))->h.get? b=some u->h'.get? b=some u)
  (ho:∀b,H b=some (.own a)->H' b=some (.own a)) (ht:∀b xs,H b=some (.tup xs)->H' b=some (.tup xs)):ObjOk P w H' h' a o:=by
 induction o with
 | lst xs=>obtain⟨z,its,n,r,e⟩:=x;exact⟨z,its,n,r,k _ _ (.inl rfl) e⟩
 | tup xs=>obtain⟨z,its,r,ob,e,c⟩:=x;exact⟨z,its,r,ob,k _ _ (.inl rfl) e,c⟩
 | dK kvs=>obtain⟨z,y,vs,r,ob,es,ep,e,c⟩:=x;exact⟨z,y,vs,r,ob,es,ep,k _ _ (.inl rfl) e,c⟩
 | dT kvs =>
  obtain⟨z,y,xs,r,ob,es,ep,e,c⟩:=x;exact⟨z,y,xs,Paired.mapP r fun p q z=>⟨z.1,ht _ _ z.2.1,z.2.2⟩,ob,es,ep,k _ _ (.inl rfl) e,c⟩
 | set S n=>obtain⟨ob,es,ep,t,e,c⟩:=x;exact⟨ob,es,ep,t,k _ _ (.inl rfl) e,c⟩
 | ins C dx fs =>
  obtain⟨d,z,ne,e,mA,⟨od,es,ep,e2,c⟩,r⟩:=x;exact⟨ho _ d,z,ne,k _ _ (.inl rfl) e,mA,⟨od,es,ep,k _ _ (.inr d) e2,c⟩,r⟩
 | own y=>obtain⟨ob,e⟩:=x;exact⟨ob,k _ _ (.inl rfl) e⟩
 | xd fs=>obtain⟨mA,⟨od,es,ep,e,c⟩,r⟩:=x;exact⟨mA,⟨od,es,ep,k _ _ (.inl rfl) e,c⟩,r⟩
 | rng lo hi=>obtain⟨t,u,v,e⟩:=x;exact⟨t,u,v,k _ _ (.inl rfl) e⟩
 | frz ob u ih=>obtain⟨e,q⟩:=x;exact⟨k _ _ (.inl rfl) e,ih q⟩
 | tbl ps =>
  have e:h.get? a=some { cls:=.none,data:=.fields ps }:=x;show h'.get? a=some { cls:=.none,data:=.fields ps };exact k a _ (.inl rfl) e
 | met f y =>
  have e:h.get? a=some (PySem.W.methodObj (.ref f) (.ref y)):=x;show h'.get? a=some (PySem.W.methodObj (.ref f) (.ref y));exact k a _ (.inl rfl) e
 | ext φ=>obtain⟨p,⟨o,e⟩,st⟩:=x;exact⟨st _ _ p fun o q=>k _ _ (.inl rfl) q,⟨o,k _ _ (.inl rfl) e⟩,st⟩
theorem HOk.lt(x:HOk P w H h)(e:H a=some o):a<h.objs.size:=(x a o e).lt
theorem HOk.fresh(x:HOk P w H h)(e:h.objs.size<=a):H a=none:=by
 cases q:H a with
 | none=>rfl
 | some u=>exact absurd (BD (x.lt q) e) (CY _)
theorem HOk.kept(x:HOk P w H h)(k:∀b u,h.get? b=some u->h'.get? b=some u):HOk P w H h':=fun a o e =>
 (x a o e).stay (fun b u _ q=>k b u q) (fun _ q=>q) fun _ _ q=>q
theorem HOk.laid(x:HOk P w H h)(k:∀b u,h.get? b=some u->h'.get? b=some u)(hp:h.objs.size<=a)(new:ObjOk P w (upd H a o) h' a o):HOk P w (upd H a o) h':=fun b u e=>by
 have hn:=x.fresh hp;by_cases hb:b=a
 .subst hb;rw[A7]at e;cases e;exact new
 .rw[B4 hb]at e;exact(x b u e).stay (fun c v _ q=>k c v q) (fun c q=>by rw[B4 (A9 q hn)];exact q) fun c xs q=>by rw[B4 (A9 q hn)];exact q
end
def Rd(H:Hp)(a:Addr)(u:HO):Prop:=H a=some u\/∃o,H a=some (.frz o u)
theorem Rd.ok{P:Program}{w:World}{H:Hp}{h:Heap}{a:Addr}{u:HO}(r:Rd H a u)(x:HOk P w H h):ObjOk P w H h a u:=by
 rcases r with r | ⟨o,r⟩
 .exact x a u r
 .obtain⟨_,q⟩:=x a _ r;exact q
def Mut:Option HO->Prop
 | some (.lst _)=>True
 | some (.dK _)=>True
 | some (.dT _)=>True
 | some (.set _ _)=>True
 | some (.ins _ _ _)=>True
 | some (.ext _)=>True
 | _=>False
section
variable{P:Program}{w:World}{H:Hp}{h h':Heap}{x e:Addr}{o':HO}
theorem HOk.write(ok:HOk P w H h)(mu:Mut (H x))(he:e=x\/H e=some (.own x))(k:∀b u,b≠e->h.get? b=some u->h'.get? b=some u)(heo:∃u,h'.get? e=some u)
  (new:ObjOk P w (upd H x o') h' x o'):HOk P w (upd H x o') h':=fun b u q=>by
 have nown:∀c y,H c=some (.own y)->c≠x:=fun c y r z=>by subst z;rw[r]at mu;exact mu
 have ntup:∀c xs,H c=some (.tup xs)->c≠x:=fun c xs r z=>by subst z;rw[r]at mu;exact mu
 by_cases hb:b=x
 .subst hb;rw[A7]at q;cases q;exact new
 .rw[B4 hb]at q;by_cases hbe:b=e
  .have q':H b=some (.own x):=by
    rcases he with z | z
    .exact absurd (hbe.trans z) hb
    .rw[hbe];exact z
   rw[q]at q';cases q';obtain⟨v,hv⟩:=heo;exact⟨v,by rw[hbe];exact hv⟩
  .refine(ok b u q).stay (fun c v hc r=>k c v ?_ r) (fun c r=>by rw[B4 (nown c b r)];exact r) fun c xs r=>by rw[B4 (ntup c xs r)];exact r
   rcases hc with rfl | hc
   .exact hbe
   .rintro rfl;rcases he with z | z
    .exact nown c b hc z
    .rw[hc]at z;cases z;exact hb rfl
end
structure Un(fs ex:List Addr)(H H':Hp)(h h':Heap):Prop where
 keep:∀b o,h.get? b=some o->H b=none->b∉fs->b∉ex->h'.get? b=some o
 slot:∀b o,h.get? b=some o->H b=none->b∈fs->b∉ex->∃sl,h'.get? b=some { o with slots:=sl }
 free:∀b o,h.get? b=some o->H b=none->b∉ex->H' b=none
 there:∀b o,h.get? b=some o->b∉ex->∃o',h'.get? b=some o'
 tups:∀b xs,H b=some (.tup xs)->H' b=some (.tup xs)
 frzs:∀b o u,H b=some (.frz o u)->H' b=some (.frz o u)
 tbls:∀b ps,H b=some (.tbl ps)->∃more,H' b=some (.tbl (ps++more))
section
variable{fs fs' ex ex':List Addr}{H H1 H2:Hp}{h h1 h2 h':Heap}{a x e:Addr}{o:HO}
theorem Un.any(u:Un fs ex H H1 h h1){b:Addr}{ob:Obj}(q:h.get? b=some ob)(n:H b=none)(hx:b∉ex):∃sl,h1.get? b=some { ob with slots:=sl }:=by
 by_cases hb:b∈fs
 .exact u.slot b ob q n hb hx
 .exact⟨ob.slots,u.keep b ob q n hb hx⟩
theorem Un.kept(k:∀b u,h.get? b=some u->h'.get? b=some u):Un fs ex H H h h' :=
 ⟨fun b ob q _ _ _=>k b ob q,fun b ob q _ _ _=>⟨ob.slots,k b ob q⟩,fun _ _ _ n _=>n,fun b ob q _=>⟨ob,k b ob q⟩,fun _ _ q=>q,fun _ _ _ q=>q,fun _ ps q=>⟨#[],by rw[q];simp⟩⟩
theorem Un.refl:Un fs ex H H h h:=Un.kept fun _ _ q=>q
theorem Un.laid(k:∀b u,h.get? b=some u->h'.get? b=some u)(hp:h.objs.size<=a)(hn:H a=none):Un fs ex H (upd H a o) h h' where
 keep:=fun b u q _ _ _=>k b u q
 slot:=fun b u q _ _ _=>⟨u.slots,k b u q⟩
 free:=fun b u q n _=>by rw[B4 (AS (BD (AF q) hp))];exact n
 there:=fun b u q _=>⟨u,k b u q⟩
 tups:=fun b xs q=>by rw[B4 (A9 q hn)];exact q
 frzs:=fun b u xs q=>by rw[B4 (A9 q hn)];exact q
 tbls:=fun b ps q=>⟨#[],by rw[B4 (A9 q hn),q];simp⟩
theorem Un.write(mu:Mut (H x))(he:e=x\/H e=some (.own x))(k:∀b u,b≠e->h.get? b=some u->h'.get? b=some u)(heo:∃u,h'.get? e=some u):Un fs ex H (upd H x o) h h':=by
 have hx:∀b,H b=none->b≠x:=fun b n z=>by subst z;rw[n]at mu;exact mu
 have hb:∀b,H b=none->b≠e:=fun b n z=>by
  subst z;rcases he with r | r
  .exact hx b n r
  .rw[n]at r;cases r
 have hm:∀b u,H b=some u->¬Mut (some u)->b≠x:=fun b u q nm z=>by subst z;rw[q]at mu;exact nm mu
 refine⟨fun b u q n _ _=>k b u (hb b n) q,fun b u q n _ _=>⟨u.slots,k b u (hb b n) q⟩,fun b u q n _=>by rw[B4 (hx b n)];exact n,fun b u q _=>?_,
  fun b xs q=>by rw[B4 (hm b _ q fun z=>z)];exact q,fun b u xs q=>by rw[B4 (hm b _ q fun z=>z)];exact q,fun b ps q=>⟨#[],by rw[B4 (hm b _ q fun z=>z),q];simp⟩⟩
 by_cases hbe:b=e
 .subst hbe;exact heo
 .exact⟨u,k b u hbe q⟩
end
def trk(h:Heap)(H:Hp):List Addr:=(List.range h.objs.size).filter fun a=>(H a).isSome
def Gn(h:Heap)(H:Hp):Heap:=PySem.W.hideAll h (trk h H)
theorem Aa(h:Heap)(H:Hp):(Gn h H).objs.size=h.objs.size:=PySem.W.hideAll_size _ _
theorem Y1{h:Heap}{H:Hp}{b:Addr}{o:Obj}(e:h.get? b=some o)(n:H b=none):(Gn h H).get? b=some o :=
 PySem.W.hideAll_get _ e fun hm=>by
  have q:(H b).isSome=true:=(List.mem_filter.mp hm).2;rw[n]at q;simp at q
theorem Eu{h:Heap}{H:Hp}{b:Addr}{o:Obj}(e:(Gn h H).get? b=some o):h.get? b=some o/\H b=none:=by
 have e':h.get? b=some o:=PySem.W.of_hideAll (trk h H) e;refine⟨e',?_⟩;cases q:H b with
 | none=>rfl
 | some x =>
  have hm:b∈trk h H:=List.mem_filter.mpr ⟨List.mem_range.mpr (AF e'),by simp[q]⟩;have z:(Gn h H).get? b=none:=PySem.W.hideAll_none (trk h H) hm;rw[z]at e;cases e
structure Mod(K:PySem.W.Frag)(mg:Str->Option Value)(base:Heap):Prop where
 kin:K.In base
 glob:base.Ns mainGlobals mg
 blt:∃mb,base.Ns builtinsNs mb/\∀x:Str,x≠ "__name__"->mb x=bootBuiltins x
 nolimit:base.NoLimit
structure Cx where
 prog:Program
 w:World
 K:PySem.W.Frag
 mg:Str->Option Value
 base:Heap
 A:Around
 N:List Str
 s₀:Shared
 H₀:Hp
 env:Env
 outer:List Env
 stack:List Env
 ex:List Addr
 fn:Str->Bool
 calm:Bool
 pn:List (Addr×Obj)
 xe:Value->Shared->Prop
def frs(l:List Env):List Addr:=l.filterMap (·.frame)
abbrev Cx.fs(X:Cx):List Addr:=frs X.outer
def Vis(sc:Scope)(x:Str):Prop:=sc.names.lookup x=some .local\/sc.names.lookup x=some .cell\/sc.names.lookup x=some .free
def Loc(sc:Scope)(x:Str):Prop:=sc.names.lookup x=some .local\/sc.names.lookup x=some .cell
def Py(env:Env)(h:Heap)(m:Str->Option Value)(x:Str)(u:Value):Prop :=
 (env.kindOf x=some .local/\m x=some u)\/((env.kindOf x=some .cell\/env.kindOf x=some .free)/\∃c,env.cells.lookup x=some c/\h.IsCell c (some u))
structure Cx.Ok(X:Cx):Prop where
 mod:Mod X.K X.mg X.base
 kind:X.env.scope.kind = .function
 glob:X.env.globals=mainGlobals
 blt:X.env.builtins=builtinsNs
 above:X.s₀.heap.objs.size<=X.env.locals
 inj:∀x y c,X.env.cells.lookup x=some c->X.env.cells.lookup y=some c->x=y
 has:∀x,(X.env.kindOf x=some .cell\/X.env.kindOf x=some .free)->∃c,X.env.cells.lookup x=some c
 cab:∀x c,X.fn x=true->X.env.cells.lookup x=some c->X.s₀.heap.objs.size<=c
 hd:X.calm=true->X.A.handled=none
 frames:X.A.frames=some X.stack
 stk:X.stack=X.outer\/(X.stack=X.env::X.outer/\X.env.frame=some X.env.locals)
 exf:∀b∈X.ex,b≠X.env.locals/\∀x c,X.env.cells.lookup x=some c->c≠b
 bs:∀b o,X.base.get? b=some o->X.s₀.heap.get? b=some o/\X.H₀ b=none
 bsz:X.base.objs.size<=X.s₀.heap.objs.size
 noex:∀b o,X.base.get? b=some o->b∉X.ex
 exfs:∀b∈X.ex,b∉X.fs
 funs:X.s₀.heap.FunFrames X.base X.outer
 frf:∀b∈X.fs,X.H₀ b=none
structure Inv(X:Cx)(pins:List (Addr×Obj))(σ:List (Option V))(H:Hp)(s:Shared):Prop where
 ok:X.Ok
 os:s.os=X.s₀.os
 bare:AllBare s.gens
 base:Un X.fs X.ex X.H₀ H X.s₀.heap s.heap
 loc:∃m,s.heap.Ns X.env.locals m/\∀(i:Nat) (x:Str) (v:V),X.N[i]?=some x->σ[i]?=some (some v)->Vis X.env.scope x->∃u,RelV v u/\Py X.env s.heap m x u
 cell:∀x c,X.env.cells.lookup x=some c->∃v,s.heap.IsCell c v
 free:H X.env.locals=none
 freeC:∀x c,X.env.cells.lookup x=some c->H c=none
 pin:∀p∈X.pn++pins,s.heap.get? p.1=some p.2/\H p.1=none/\p.1≠X.env.locals/\p.1∉X.fs/\∀v,p.2.data≠ .cell v
 hok:HOk X.prog X.w H s.heap
 len:σ.length=X.N.length
section
variable{X:Cx}{pins:List (Addr×Obj)}{σ:List (Option V)}{H H':Hp}{s:Shared}{h':Heap}
theorem Cx.Ok.nofr(ok:X.Ok){b:Addr}{o:Obj}(e:X.base.get? b=some o):b∉X.fs:=fun hb=>by
 have:=(ok.funs.mem hb).1;rw[e]at this;cases this
theorem Inv.bs(I:Inv X pins σ H s):∀b o,X.base.get? b=some o->s.heap.get? b=some o/\H b=none:=fun b o e =>
 ⟨I.base.keep b o (I.ok.bs b o e).1 (I.ok.bs b o e).2 (I.ok.nofr e) (I.ok.noex b o e),I.base.free b o (I.ok.bs b o e).1 (I.ok.bs b o e).2 (I.ok.noex b o e)⟩
theorem Inv.bk(I:Inv X pins σ H s):∀b o,X.base.get? b=some o->s.heap.get? b=some o:=fun b o e=>(I.bs b o e).1
theorem Inv.mod(I:Inv X pins σ H s):Mod X.K X.mg X.base:=I.ok.mod
theorem Inv.kIn(I:Inv X pins σ H s):X.K.In s.heap:=I.ok.mod.kin.keeps I.bk
theorem Inv.lt(I:Inv X pins σ H s):X.env.locals<s.heap.objs.size:=let⟨_,hn,_⟩:=I.loc;hn.lt
theorem Inv.sz(I:Inv X pins σ H s):X.s₀.heap.objs.size<=s.heap.objs.size:=BO I.ok.above (CK I.lt)
theorem Inv.nofs(I:Inv X pins σ H s){a:Addr}(h:s.heap.objs.size<=a):a∉X.fs:=fun hb=>by
 obtain⟨_,o,ho,_⟩:=I.ok.funs.mem hb;exact absurd (BD (AF ho) (BO I.sz h)) (CY _)
theorem Inv.cne(I:Inv X pins σ H s):∀x c,X.env.cells.lookup x=some c->c≠X.env.locals:=fun x c e z=>by
 obtain⟨v,o,ho,hd⟩:=I.cell x c e;obtain⟨m,⟨o',es,ep,ho',hd',_⟩,_⟩:=I.loc;rw[z,ho']at ho;cases ho;rw[hd']at hd;cases hd
theorem Inv.funs(I:Inv X pins σ H s):s.heap.FunFrames X.base X.outer:=by
 have all:∀(l:List Env),(∀b∈frs l,b∈X.fs)->X.s₀.heap.FunFrames X.base l->s.heap.FunFrames X.base l:=by
  intro l
  induction l with
  | nil=>intro _ _;trivial
  | cons env r ih =>
   intro hs hl;obtain⟨hk,⟨L,o,hf,hn,ho,hd⟩,hr⟩:=hl;have hL:L∈X.fs:=hs L (by unfold frs;rw[CT,hf];exact AX);obtain⟨sl,e⟩:=I.base.slot L o ho (I.ok.frf L hL) hL fun z=>I.ok.exfs L z hL;exact⟨hk,⟨L,_,hf,hn,e,hd⟩,ih (fun b hb=>hs b (by unfold frs;rw[CT,hf];exact AW _ hb)) hr⟩
 exact all X.outer (fun _ hb=>hb) I.ok.funs
theorem Inv.stack(I:Inv X pins σ H s):s.heap.FunFrames X.base X.stack:=by
 rcases I.ok.stk with e | ⟨e,hf⟩
 .rw[e];exact I.funs
 .rw[e];obtain⟨m,hn,_⟩:=I.loc;refine .cons (by rw[I.ok.kind];decide) hf hn ?_ I.funs;exact Heap.get?_none_of_le (BO I.ok.bsz I.ok.above)
theorem Inv.stkSub(I:Inv X pins σ H s):∀b∈frs X.stack,b∈X.env.locals::X.fs:=fun b hb=>by
 rcases I.ok.stk with e | ⟨e,hf⟩
 .rw[e]at hb;exact AW _ hb
 .rw[e]at hb;unfold frs at hb;rw[CT,hf]at hb;exact hb
theorem Inv.stkFree(I:Inv X pins σ H s):∀b∈frs X.stack,H b=none:=fun b hb=>by
 rcases AJ.mp (I.stkSub b hb)with e | hb
 .rw[e];exact I.free
 .obtain⟨_,o,ho,_⟩:=I.ok.funs.mem hb;exact I.base.free b o ho (I.ok.frf b hb) fun z=>I.ok.exfs b z hb
theorem Inv.step{g':Array GenState}{t':Nat}{d':Drawn}{ch:List Addr}(I:Inv X pins σ H s)
  (hch:∀b∈ch,(b∈X.ex\/X.s₀.heap.objs.size<=b)/\b≠X.env.locals/\(∀x c,X.env.cells.lookup x=some c->c≠b)/\∀p∈X.pn++pins,p.1≠b)
  (keep:∀b o,b≠X.env.locals->b∉X.fs->b∉ch->s.heap.get? b=some o->H b=none->h'.get? b=some o)
  (slot:∀b o,b≠X.env.locals->b∈X.fs->b∉ch->s.heap.get? b=some o->H b=none->∃sl,h'.get? b=some { o with slots:=sl }) (free:∀b o,b∉ch->s.heap.get? b=some o->H b=none->H' b=none)
  (there:∀b o,b∉ch->s.heap.get? b=some o->∃o',h'.get? b=some o')
  (tups:∀b xs,H b=some (.tup xs)->H' b=some (.tup xs)) (frzs:∀b o u,H b=some (.frz o u)->H' b=some (.frz o u)) (tbls:∀b ps,H b=some (.tbl ps)->∃more,H' b=some (.tbl (ps++more)))
  (ns:∀m,s.heap.Ns X.env.locals m->h'.Ns X.env.locals m) (hok:HOk X.prog X.w H' h') (hg:AllBare g') :
  Inv X pins σ H' { s with heap:=h',gens:=g',drawn:=d',toks:=t' }:=by
 have neL:∀b o,X.s₀.heap.get? b=some o->b≠X.env.locals:=fun b o e=>AS (BD (AF e) I.ok.above);have neC:∀b o,X.s₀.heap.get? b=some o->b∉X.ex->b∉ch:=fun b o e hx hb=>by
  rcases(hch b hb).1 with z | z
  .exact hx z
  .exact absurd (BD (AF e) z) (CY _)
 have cellK:∀x c,X.env.cells.lookup x=some c->∀v,s.heap.IsCell c v->h'.IsCell c v:=fun x c e v ⟨o,ho,hd⟩=>by
  have nch:c∉ch:=fun z=>(hch c z).2.2.1 x c e rfl;by_cases hc:c∈X.fs
  .obtain⟨sl,q⟩:=slot c o (I.cne x c e) hc nch ho (I.freeC x c e);exact⟨_,q,hd⟩
  .exact⟨o,keep c o (I.cne x c e) hc nch ho (I.freeC x c e),hd⟩
 refine⟨I.ok,I.os,hg,⟨fun b o e n hb hx=>?_,fun b o e n hb hx=>?_,fun b o e n hx=>?_,fun b o e hx=>?_,fun b xs e=>tups b xs (I.base.tups b xs e),fun b o xs e=>frzs b o xs (I.base.frzs b o xs e),fun b ps e=>?_⟩,?_,fun x c e=>?_,?_,fun x c e=>?_,fun p hp=>?_,hok,I.len⟩
 .exact keep b o (neL b o e) hb (neC b o e hx) (I.base.keep b o e n hb hx) (I.base.free b o e n hx)
 .obtain⟨sl,e1⟩:=I.base.slot b o e n hb hx;obtain⟨sl',e2⟩:=slot b _ (neL b o e) hb (neC b o e hx) e1 (I.base.free b o e n hx);exact⟨sl',e2⟩
 .obtain⟨o',e1⟩:=I.base.there b o e hx;exact free b o' (neC b o e hx) e1 (I.base.free b o e n hx)
 .obtain⟨o',e1⟩:=I.base.there b o e hx;exact there b o' (neC b o e hx) e1
 .obtain⟨m1,e1⟩:=I.base.tbls b ps e;obtain⟨m2,e2⟩:=tbls b _ e1;exact⟨m1++m2,by rw[e2,Array.append_assoc]⟩
 .obtain⟨m,hn,hl⟩:=I.loc;refine⟨m,ns m hn,fun i x v e1 e2 e3=>?_⟩;obtain⟨u,r,l⟩:=hl i x v e1 e2 e3;refine⟨u,r,?_⟩;rcases l with l | ⟨k,c,e,z⟩
  .exact .inl l
  .exact .inr ⟨k,c,e,cellK x c e _ z⟩
 .obtain⟨v,z⟩:=I.cell x c e;exact⟨v,cellK x c e v z⟩
 .obtain⟨m,⟨o,_,_,ho,_⟩,_⟩:=I.loc;exact free _ o (fun z=>(hch _ z).2.1 rfl) ho I.free
 .obtain⟨v,o,ho,hd⟩:=I.cell x c e;exact free c o (fun z=>(hch c z).2.2.1 x c e rfl) ho (I.freeC x c e)
 .obtain⟨e,n,ne,nf,d⟩:=I.pin p hp;have nch:p.1∉ch:=fun z=>(hch p.1 z).2.2.2 p hp rfl;exact⟨keep p.1 p.2 ne nf nch e n,free p.1 p.2 nch e n,ne,nf,d⟩
theorem Inv.un{t':Nat}(I:Inv X pins σ H s)(u:Un X.fs [] H H' s.heap h')(hok:HOk X.prog X.w H' h'):Inv X pins σ H' { s with heap:=h',toks:=t' }:=by
 obtain⟨m,⟨o,es,ep,ho,r⟩,_⟩:=id I.loc;obtain⟨sl,hL⟩:=u.any ho I.free (by simp);exact I.step (g':=s.gens) (d':=s.drawn) (ch:=[]) (fun _ z=>nomatch z) (fun b o _ hb _ e n=>u.keep b o e n hb (by simp)) (fun b o _ hb _ e n=>u.slot b o e n hb (by simp)) (fun b o _ e n=>u.free b o e n (by simp)) (fun b o _ e=>u.there b o e (by simp)) u.tups u.frzs u.tbls (fun m' hm=>by
  obtain⟨o',es',ep',ho',r'⟩:=hm;rw[ho]at ho';cases ho';exact⟨_,es',ep',hL,r'⟩) hok I.bare
theorem Inv.call{g':Array GenState}{t':Nat}{d':Drawn}{ch:List Addr}(I:Inv X pins σ H s)(u:Un (frs X.stack) ch H H' s.heap h')(hok:HOk X.prog X.w H' h')(hg:AllBare g')
  (hch:∀b∈ch,(b∈X.ex\/X.s₀.heap.objs.size<=b)/\b≠X.env.locals/\(∀x c,X.env.cells.lookup x=some c->c≠b)/\∀p∈X.pn++pins,p.1≠b) :
  Inv X pins σ H' { s with heap:=h',gens:=g',drawn:=d',toks:=t' }:=by
 obtain⟨m,⟨o,es,ep,ho,r⟩,_⟩:=id I.loc;obtain⟨sl,hL⟩:=u.any ho I.free fun z=>(hch _ z).2.1 rfl;exact I.step (ch:=ch) hch (fun b o hL hb hc e n=>u.keep b o e n (fun z=>(AJ.mp (I.stkSub b z)).elim hL hb) hc) (fun b o _ _ hc e n=>u.any e n hc) (fun b o hc e n=>u.free b o e n hc) (fun b o hc e=>u.there b o e hc) u.tups u.frzs u.tbls (fun m' hm=>by
  obtain⟨o',es',ep',ho',r'⟩:=hm;rw[ho]at ho';cases ho';exact⟨_,es',ep',hL,r'⟩) hok hg
theorem Inv.turned{t':Nat}{it:Addr}(I:Inv X pins σ H s)(k:∀b o,b≠it->s.heap.get? b=some o->h'.get? b=some o)(hn:H it=none)(hL:it≠X.env.locals)
  (h1:it∈X.ex\/X.s₀.heap.objs.size<=it) (h2:∀x c,X.env.cells.lookup x=some c->c≠it) (h3:∀p∈X.pn++pins,p.1≠it):Inv X pins σ H { s with heap:=h',toks:=t' }:=by
 have nit:∀b u,H b=some u->b≠it:=fun b u e z=>by rw[z,hn]at e;cases e
 refine I.step (g':=s.gens) (d':=s.drawn) (ch:=[it]) (fun b hb=>?_) (fun b o _ _ hc e _=>k b o (fun z=>hc (by simp[z])) e) (fun b o _ _ hc e _=>⟨o.slots,k b o (fun z=>hc (by simp[z])) e⟩) (fun _ _ _ _ n=>n)
  (fun b o hc e=>⟨o,k b o (fun z=>hc (by simp[z])) e⟩) (fun _ _ e=>e) (fun _ _ _ e=>e) (fun b ps e=>⟨#[],by rw[e];simp⟩) (fun m hm=>?_) (fun b u e=>?_) I.bare
 .have e:b=it:=by simpa using hb
  subst e;exact⟨h1,hL,h2,h3⟩
 .obtain⟨o,es,ep,ho,r⟩:=hm;exact⟨o,es,ep,k _ o (Ne.symm hL) ho,r⟩
 .refine(I.hok b u e).stay (fun c v hc q=>k c v ?_ q) (fun _ q=>q) fun _ _ q=>q;rcases hc with z | z
  .rw[z];exact nit b u e
  .exact nit c _ z
theorem Inv.tok(I:Inv X pins σ H s)(t:Nat):Inv X pins σ H { s with toks:=t }:=I.un (h':=s.heap) (t':=t) Un.refl I.hok
theorem Inv.kept{t':Nat}(I:Inv X pins σ H s)(k:∀b u,s.heap.get? b=some u->h'.get? b=some u):Inv X pins σ H { s with heap:=h',toks:=t' }:=I.un (Un.kept k) (I.hok.kept k)
theorem Inv.laid{a:Addr}{o:HO}{t':Nat}(I:Inv X pins σ H s)(k:∀b u,s.heap.get? b=some u->h'.get? b=some u)(hp:s.heap.objs.size<=a)(new:ObjOk X.prog X.w (upd H a o) h' a o) :
  Inv X pins σ (upd H a o) { s with heap:=h',toks:=t' }:=I.un (Un.laid k hp (I.hok.fresh hp)) (I.hok.laid k hp new)
theorem Inv.write{x e:Addr}{o:HO}{t':Nat}(I:Inv X pins σ H s)(mu:Mut (H x))(he:e=x\/H e=some (.own x))(k:∀b u,b≠e->s.heap.get? b=some u->h'.get? b=some u)(heo:∃u,h'.get? e=some u)
  (new:ObjOk X.prog X.w (upd H x o) h' x o):Inv X pins σ (upd H x o) { s with heap:=h',toks:=t' }:=I.un (Un.write mu he k heo) (I.hok.write mu he k heo new)
theorem Inv.pins_of{pins':List (Addr×Obj)}(I:Inv X pins σ H s)(h:∀p∈pins',s.heap.get? p.1=some p.2/\H p.1=none/\p.1≠X.env.locals/\p.1∉X.fs/\∀v,p.2.data≠ .cell v):Inv X pins' σ H s :=
 ⟨I.ok,I.os,I.bare,I.base,I.loc,I.cell,I.free,I.freeC,fun p hp=>(A_.mp hp).elim (fun z=>I.pin p (BT _ z)) (h p),I.hok,I.len⟩
theorem Br{N:List Str}(hN:N.Nodup){i j:Nat}{x:Str}(a:N[i]?=some x)(b:N[j]?=some x):i=j:=by
 obtain⟨h1,e1⟩:=AM.mp a;obtain⟨h2,e2⟩:=AM.mp b;exact(List.getElem_inj hN).mp (e1.trans e2.symm)
theorem Ap{M:Model}{A:Around}{E:Value->Shared->Prop}{i:Nat}{x:Str}{v:V}{u:Value}{Q:Unit->Shared->Prop}(I:Inv X pins σ H s)(hN:X.N.Nodup)(hi:X.N[i]?=some x)(hx:Loc X.env.scope x)(r:RelV v u)
  (h:∀s',Inv X pins (σ.set i (some v)) H s'->(∃a,Heap.SameBut a s.heap s'.heap/\(a=X.env.locals\/X.env.cells.lookup x=some a))->Q () s') (hf:X.fn x=true\/X.env.scope.names.lookup x=some .local:=by first | exact .inl rfl | exact .inr rfl | assumption):wpAny M A (storeName X.env x u) Q E s:=by
 obtain⟨m,hn,hl⟩:=id I.loc;have hcls:(X.env.scope.kind == .class||(X.env.scope.kind == .module&&X.env.locals != X.env.globals))=false:=by rw[I.ok.kind];rfl
 have hiσ:i<σ.length:=by rw[I.len];exact(AM.mp hi).1
 have cne:=I.cne;have tracked:∀{a:Addr} {h':Heap},(∃o,s.heap.get? a=some o/\H a=none)->Heap.SameBut a s.heap h'->HOk X.prog X.w H h':=fun{a h'} ha hs b ob e=>by
  obtain⟨_,_,hfree⟩:=ha;refine(I.hok b ob e).stay (fun c w' hc q=>(hs.2 c ?_).trans q) (fun _ q=>q) fun _ _ q=>q;rintro rfl;rcases hc with rfl | hc
  .rw[hfree]at e;cases e
  .rw[hfree]at hc;cases hc
 rcases hx with hk | hk
 .refine wpAny_storeName_local hk hn (fun h' hn' hs=>?_) hcls;obtain⟨oL,_,_,hoL,_⟩:=id hn;refine h _ ⟨I.ok,I.os,I.bare,⟨fun b o e n hb hx=>?_,fun b o e n hb hx=>?_,I.base.free,fun b o e hx=>?_,I.base.tups,I.base.frzs,I.base.tbls⟩,⟨_,hn',fun j y v' e1 e2 e3=>?_⟩,fun y c e=>?_,I.free,I.freeC,fun p hp=>?_,tracked ⟨oL,hoL,I.free⟩ hs,by simpa using I.len⟩ ⟨_,hs,.inl rfl⟩
  .exact(hs.2 b (AS (BD (AF e) I.ok.above))).trans (I.base.keep b o e n hb hx)
  .obtain⟨sl,e1⟩:=I.base.slot b o e n hb hx;exact⟨sl,(hs.2 b (AS (BD (AF e) I.ok.above))).trans e1⟩
  .obtain⟨o',e1⟩:=I.base.there b o e hx;exact⟨o',(hs.2 b (AS (BD (AF e) I.ok.above))).trans e1⟩
  .by_cases hj:j=i
   .subst hj;rw[hi]at e1;cases e1;rw[List.getElem?_set_self hiσ]at e2;cases e2;exact⟨u,r,.inl ⟨hk,by simp⟩⟩
   .rw[List.getElem?_set_ne (Ne.symm hj)]at e2;obtain⟨u',r',q⟩:=hl j y v' e1 e2 e3;refine⟨u',r',?_⟩;rcases q with⟨k,e⟩ | ⟨k,c,e,z⟩
    .refine .inl ⟨k,?_⟩;have:y≠x:=fun e=>hj (Br hN e1 (e▸hi));simp[this,e]
    .exact .inr ⟨k,c,e,z.sameBut hs (cne y c e)⟩
  .obtain⟨w',z⟩:=I.cell y c e;exact⟨w',z.sameBut hs (cne y c e)⟩
  .obtain⟨e,n,ne,nf,d⟩:=I.pin p hp;exact⟨(hs.2 p.1 ne).trans e,n,ne,nf,d⟩
 .have hfn:X.fn x=true:=by
   rcases hf with z | z
   .exact z
   .rw[z]at hk;cases hk
  obtain⟨c,hc⟩:=I.ok.has x (.inl hk);obtain⟨w',z⟩:=I.cell x c hc;refine wpAny_storeName_cell I.ok.kind hk hc z (fun h' hc' hs=>?_);obtain⟨oc,hoc,hocd⟩:=id z;refine h { s with heap:=h' } ⟨I.ok,I.os,I.bare,⟨fun b o e n hb hx=>?_,fun b o e n hb hx=>?_,I.base.free,fun b o e hx=>?_,I.base.tups,I.base.frzs,I.base.tbls⟩,⟨m,hn.sameBut hs (Ne.symm (cne x c hc)),fun j y v' e1 e2 e3=>?_⟩,fun y c' e=>?_,I.free,I.freeC,fun p hp=>?_,tracked ⟨oc,hoc,I.freeC x c hc⟩ hs,by simpa using I.len⟩ ⟨c,hs,.inr hc⟩
  .exact(hs.2 b (AS (BD (AF e) (I.ok.cab x c hfn hc)))).trans (I.base.keep b o e n hb hx)
  .obtain⟨sl,e1⟩:=I.base.slot b o e n hb hx;exact⟨sl,(hs.2 b (AS (BD (AF e) (I.ok.cab x c hfn hc)))).trans e1⟩
  .obtain⟨o',e1⟩:=I.base.there b o e hx;exact⟨o',(hs.2 b (AS (BD (AF e) (I.ok.cab x c hfn hc)))).trans e1⟩
  .by_cases hj:j=i
   .subst hj;rw[hi]at e1;cases e1;rw[List.getElem?_set_self hiσ]at e2;cases e2;exact⟨u,r,.inr ⟨.inl hk,c,hc,hc'⟩⟩
   .rw[List.getElem?_set_ne (Ne.symm hj)]at e2;obtain⟨u',r',q⟩:=hl j y v' e1 e2 e3;refine⟨u',r',?_⟩;rcases q with q | ⟨k,c',e,z'⟩
    .exact .inl q
    .refine .inr ⟨k,c',e,z'.sameBut hs ?_⟩;rintro rfl;exact hj (Br hN e1 (I.ok.inj _ _ _ e hc▸hi))
  .by_cases hcc:c'=c
   .subst hcc;exact⟨_,hc'⟩
   .obtain⟨w2,z2⟩:=I.cell y c' e;exact⟨w2,z2.sameBut hs hcc⟩
  .obtain⟨e,n,ne,nf,d⟩:=I.pin p hp;refine⟨(hs.2 p.1 ?_).trans e,n,ne,nf,d⟩;intro q;rw[q,hoc]at e;have q':oc=p.2:=BG e;exact d w' (by rw[<-q'];exact hocd)
theorem Y2{M:Model}{A:Around}{E:Value->Shared->Prop}{i:Nat}{x:Str}{v:V}{u:Value}{Q:Unit->Shared->Prop}(I:Inv X pins σ H s)(hN:X.N.Nodup)(hi:X.N[i]?=some x)(hx:Loc X.env.scope x)(r:RelV v u)
  (h:∀s',Inv X pins (σ.set i (some v)) H s'->Q () s') (hf:X.fn x=true\/X.env.scope.names.lookup x=some .local:=by first | exact .inl rfl | exact .inr rfl | assumption):wpAny M A (storeName X.env x u) Q E s :=
 Ap I hN hi hx r (fun s' I' _=>h s' I') hf
theorem Inv.call'{s':Shared}{ch:List Addr}(I:Inv X pins σ H s)(ho:s'.os=s.os)(u:Un (frs X.stack) ch H H' s.heap s'.heap)(hok:HOk X.prog X.w H' s'.heap)(hg:AllBare s'.gens)
  (hch:∀b∈ch,(b∈X.ex\/X.s₀.heap.objs.size<=b)/\b≠X.env.locals/\(∀x c,X.env.cells.lookup x=some c->c≠b)/\∀p∈X.pn++pins,p.1≠b):Inv X pins σ H' s':=by
 obtain⟨h',g',d',t',o'⟩:=s';have e:o'=s.os:=ho;subst e;exact I.call (g':=g') (t':=t') (d':=d') u hok hg hch
end
abbrev XK:=Value->Option Addr->Hp->Prop
abbrev St:=List (Option V)
abbrev VK:=V->Hp->Prop
abbrev TE:=St->Hp->VK->Prop
abbrev TT:=St->Hp->(Bool->Hp->Prop)->Prop
abbrev TA:=St->Hp->(List V->Hp->Prop)->Prop
structure Ends where
 nx:St->Hp->Prop
 rt:VK
 bk:St->Hp->Prop:=fun _ _=>False
 ct:St->Hp->Prop:=fun _ _=>False
abbrev TS:=Ends->St->Hp->Prop
def EP(X:Cx)(pins:List (Addr×Obj))(σ:St)(Q:VK)(u:Value)(s':Shared):Prop:=∃v H',Inv X pins σ H' s'/\RelV v u/\Q v H'
def TP(X:Cx)(pins:List (Addr×Obj))(σ:St)(Q:Bool->Hp->Prop)(b:Bool)(s':Shared):Prop:=∃H',Inv X pins σ H' s'/\Q b H'
def AP(X:Cx)(pins:List (Addr×Obj))(σ:St)(Q:List V->Hp->Prop)(us:List Value)(s':Shared):Prop:=∃vs H',Inv X pins σ H' s'/\Vals vs us/\Q vs H'
def SP(X:Cx)(pins:List (Addr×Obj))(D:Ends)(f:Flow)(s':Shared):Prop :=
 match f with
 | .next=>∃σ' H',Inv X pins σ' H' s'/\D.nx σ' H'
 | .brk=>∃σ' H',Inv X pins σ' H' s'/\D.bk σ' H'
 | .cont=>∃σ' H',Inv X pins σ' H' s'/\D.ct σ' H'
 | .ret u=>∃v σ' H',Inv X pins σ' H' s'/\RelV v u/\D.rt v H'
def PE(X:Cx)(e:Expr)(t:TE):Prop :=
 ∀(pins:List (Addr×Obj)) (s:Shared) (σ:St) (H:Hp) (Q:VK),Inv X pins σ H s->t σ H Q->wpAny (model X.prog X.w) X.A (eval e X.env) (EP X pins σ Q) X.xe s
def PT(X:Cx)(e:Expr)(t:TT):Prop :=
 ∀(pins:List (Addr×Obj)) (s:Shared) (σ:St) (H:Hp) (Q:Bool->Hp->Prop),Inv X pins σ H s->t σ H Q->wpAny (model X.prog X.w) X.A (isTrue e X.env (eval e X.env)) (TP X pins σ Q) X.xe s
def PW(X:Cx)(e:Expr)(t:TT):Prop :=
 ∀(whole:Sem Value) (pins:List (Addr×Obj)) (s:Shared) (σ:St) (H:Hp) (Q:Bool->Hp->Prop),Inv X pins σ H s->t σ H Q->wpAny (model X.prog X.w) X.A (isTrue e X.env whole) (TP X pins σ Q) X.xe s
theorem PW.pt{X:Cx}{e:Expr}{t:TT}(h:PW X e t):PT X e t:=h _
def PA(X:Cx)(es:List Expr)(t:TA):Prop :=
 ∀(pos:Pos) (pins:List (Addr×Obj)) (s:Shared) (σ:St) (H:Hp) (Q:List V->Hp->Prop),Inv X pins σ H s->t σ H Q->wpAny (model X.prog X.w) X.A (spliced (backTo pos (starEach es X.env))) (AP X pins σ Q) X.xe s
def PS(X:Cx)(st:Stmt)(t:TS):Prop :=
 ∀(pins:List (Addr×Obj)) (s:Shared) (σ:St) (H:Hp) (D:Ends),Inv X pins σ H s->t D σ H->wpAny (model X.prog X.w) X.A (exec st X.env) (SP X pins D) X.xe s
def PSs(X:Cx)(st:List Stmt)(t:TS):Prop :=
 ∀(pins:List (Addr×Obj)) (s:Shared) (σ:St) (H:Hp) (D:Ends),Inv X pins σ H s->t D σ H->wpAny (model X.prog X.w) X.A (execs st X.env) (SP X pins D) X.xe s
theorem thn{α:Type}{t:Sem α}{Q Q':α->Shared->Prop}{M:Model}{A:Around}{E:Value->Shared->Prop}{s:Shared}(h:wpAny M A t Q E s)(hQ:∀a s,Q a s->Q' a s):wpAny M A t Q' E s:=BV h hQ fun _ _ x=>x
section
variable{X:Cx}
def Nw(i:Nat):TE:=fun σ H Q=>∃v,σ[i]?=some (some v)/\Q v H
def tC(v:V):TE:=fun _ H Q=>Q v H
theorem Ik{i:Nat}{x:Str}{pos:Pos}(hN:X.N[i]?=some x)(hv:Vis X.env.scope x)(hd:(x ==("__debug__":Str))=false:=by decide)(hcd:(x ==("__classdict__":Str))=false:=by decide):PE X (.Name x pos) (Nw i):=by
 intro pins s σ H Q I h;obtain⟨v,e,h⟩:=h;obtain⟨m,hn,hl⟩:=I.loc;obtain⟨u,r,l⟩:=hl i x v hN e hv;have fin:EP X pins σ Q u s:=⟨v,H,I,r,h⟩;rcases l with⟨hk,hm⟩ | ⟨hk,c,hc,hcell⟩
 .exact wpAny_Name (wpAny_loadName_local I.ok.kind hk hn hm fin) hd
 .rcases hk with hk | hk
  .exact wpAny_Name (wpAny_loadName_cell I.ok.kind hk hc hcell fin) hd
  .exact wpAny_Name (wpAny_loadName_free I.ok.kind hk hc hcell fin hcd) hd
theorem B2{i j pos}:PE X (.Constant (.int i) j pos) (tC (.int i)):=fun _ _ _ H _ I h=>wpAny_Constant_int ⟨.int i,H,I.tok _,⟨_,rfl⟩,h⟩
theorem g9{b j pos}:PE X (.Constant (.bool b) j pos) (tC (.bl b)):=fun _ _ _ H _ I h=>Constant_bool ⟨.bl b,H,I,rfl,h⟩
theorem Lf{j pos}:PE X (.Constant .none j pos) (tC .non):=fun _ _ _ H _ I h=>Constant_none ⟨.non,H,I,rfl,h⟩
theorem D0{x j pos}:PE X (.Constant (.str x) j pos) (tC (.str x)):=fun _ _ _ H _ I h=>Calls.Constant_str ⟨.str x,H,I.tok _,⟨_,rfl⟩,h⟩
def Gl(X:Cx)(x:Str):Prop:=X.env.kindOf x=some .globalImplicit
theorem r8{E:Value->Shared->Prop}{pins:List (Addr×Obj)}{s:Shared}{σ:St}{H:Hp}{x:Str}{u:Value}{pos:Pos}{Q:Value->Shared->Prop}(I:Inv X pins σ H s)(hg:Gl X x)(hm:X.mg x=some u)(h:Q u s)
  (hd:(x ==("__debug__":Str))=false:=by decide):wpAny (model X.prog X.w) X.A (eval (.Name x pos) X.env) Q E s :=
 Calls.Name_function_global I.ok.kind hg (Calls.loadGlobal_global (by rw[I.ok.glob];exact I.mod.glob.keeps I.bk) hm h) hd
theorem j6{E:Value->Shared->Prop}{pins:List (Addr×Obj)}{s:Shared}{σ:St}{H:Hp}{x:Str}{u:Value}{pos:Pos}{Q:Value->Shared->Prop}(I:Inv X pins σ H s)(hg:Gl X x)(hm:X.mg x=none)(hv:bootBuiltins x=some u)(h:Q u s)
  (hn:x≠ "__name__":=by decide) (hd:(x ==("__debug__":Str))=false:=by decide):wpAny (model X.prog X.w) X.A (eval (.Name x pos) X.env) Q E s:=by
 obtain⟨mb,h1,h2⟩:=I.mod.blt;exact Calls.Name_function_global I.ok.kind hg (Calls.loadGlobal_builtin (by rw[I.ok.glob];exact I.mod.glob.keeps I.bk) hm (by rw[I.ok.blt];exact h1.keeps I.bk) ((h2 x hn).trans hv) h) hd
theorem Bc{x:Str}{v:V}{u:Value}{pos:Pos}(hg:Gl X x)(hm:X.mg x=some u)(r:RelV v u)(hd:(x ==("__debug__":Str))=false:=by decide):PE X (.Name x pos) (tC v) :=
 fun _ _ _ H _ I h=>r8 I hg hm ⟨v,H,I,r,h⟩ hd
theorem Ji{x:Str}{v:V}{u:Value}{pos:Pos}(hg:Gl X x)(hm:X.mg x=none)(hv:bootBuiltins x=some u)(r:RelV v u)(hn:x≠ "__name__":=by decide)(hd:(x ==("__debug__":Str))=false:=by decide):PE X (.Name x pos) (tC v) :=
 fun _ _ _ H _ I h=>j6 I hg hm hv ⟨v,H,I,r,h⟩ hn hd
variable{a b:Expr}{ta tb:TE}{pos:Pos}
def tB(t:TE):TT:=fun σ H Q=>t σ H fun x H1=>∃c,x = .bl c/\Q c H1
theorem F9{e:Expr}{t:TE}(h:PE X e t)(he:∀whole,isTrue e X.env whole =(do let v <-whole;standAt e.pos;holding [v] (truthy v)):=by intro _;rfl):PT X e (tB t):=by
 intro pins s σ H Q I hw;refine isTrue_plain (thn (h pins s σ H _ I hw) fun v s1 ⟨x,H1,I1,r1,q1⟩=>?_) (he _);obtain⟨d,rfl,q⟩:=q1;cases r1;exact BW ⟨H1,I1,q⟩
variable{tA tB':TT}{rest:List Expr}
def Pp(t u:TT):TT:=fun σ H Q=>t σ H fun c H1=>if c=true then u σ H1 Q else Q false H1
def tOr(t u:TT):TT:=fun σ H Q=>t σ H fun c H1=>if c=true then Q true H1 else u σ H1 Q
def Qp(t:TT):TT:=fun σ H Q=>t σ H fun c H1=>Q (!c) H1
theorem Bi(ha:PT X a tA):PW X (.BoolOp .And [a] pos) tA:=by
 intro wh pins s σ H Q I h;refine isTrue_and (thn (ha pins s σ H Q I h) fun c s1 e=>?_);cases c with
 | true=>exact isTrue_and_nil e
 | false=>exact e
theorem Y7(ha:PT X a tA):PW X (.BoolOp .Or [a] pos) tA:=by
 intro wh pins s σ H Q I h;refine isTrue_or (thn (ha pins s σ H Q I h) fun c s1 e=>?_);cases c with
 | false=>exact isTrue_or_nil e
 | true=>exact e
theorem Ep(ha:PT X a tA)(hb:PW X (.BoolOp .And (b::rest) pos) tB'):PW X (.BoolOp .And (a::b::rest) pos) (Pp tA tB'):=by
 intro wh pins s σ H Q I h;refine isTrue_and (thn (ha pins s σ H _ I h) fun c s1 ⟨H1,I1,q1⟩=>?_);cases c with
 | true=>exact hb wh pins s1 σ H1 Q I1 q1
 | false=>exact⟨H1,I1,q1⟩
theorem Bf(ha:PT X a tA)(hb:PW X (.BoolOp .Or (b::rest) pos) tB'):PW X (.BoolOp .Or (a::b::rest) pos) (tOr tA tB'):=by
 intro wh pins s σ H Q I h;refine isTrue_or (thn (ha pins s σ H _ I h) fun c s1 ⟨H1,I1,q1⟩=>?_);cases c with
 | true=>exact⟨H1,I1,q1⟩
 | false=>exact hb wh pins s1 σ H1 Q I1 q1
theorem O0(ha:PT X a tA):PT X (.UnaryOp .Not a pos) (Qp tA):=by
 intro pins s σ H Q I h;exact isTrue_not (ha pins s σ H (fun c H1=>Q (!c) H1) I h)
def Mp(ta tb:TE):TE:=fun σ H Q=>ta σ H fun x H1=>∃c,x = .bl c/\if c=true then tb σ H1 Q else Q (.bl false) H1
def Po(ta tb:TE):TE:=fun σ H Q=>ta σ H fun x H1=>∃c,x = .bl c/\if c=true then Q (.bl true) H1 else tb σ H1 Q
def Ou(ta:TE):TE:=fun σ H Q=>ta σ H fun x H1=>∃c,x = .bl c/\Q (.bl (!c)) H1
theorem K0{op}{t:TE}(h:PE X a t):PE X (.BoolOp op [a] pos) t:=fun pins s σ H Q I hw=>BoolOp_one (h pins s σ H Q I hw)
theorem F8(ha:PE X a ta)(hb:PE X (.BoolOp .And (b::rest) pos) tb):PE X (.BoolOp .And (a::b::rest) pos) (Mp ta tb):=by
 intro pins s σ H Q I h;refine BoolOp_and (thn (ha pins s σ H _ I h) fun v s1 ⟨x,H1,I1,r1,q1⟩=>?_);obtain⟨c,rfl,q1⟩:=q1;cases r1;refine BW ?_;cases c with
 | true=>exact hb pins s1 σ H1 Q I1 q1
 | false=>exact⟨.bl false,H1,I1,rfl,q1⟩
theorem Of(ha:PE X a ta)(hb:PE X (.BoolOp .Or (b::rest) pos) tb):PE X (.BoolOp .Or (a::b::rest) pos) (Po ta tb):=by
 intro pins s σ H Q I h;refine BoolOp_or (thn (ha pins s σ H _ I h) fun v s1 ⟨x,H1,I1,r1,q1⟩=>?_);obtain⟨c,rfl,q1⟩:=q1;cases r1;refine BW ?_;cases c with
 | false=>exact hb pins s1 σ H1 Q I1 q1
 | true=>exact⟨.bl true,H1,I1,rfl,q1⟩
theorem Ie(ha:PE X a ta):PE X (.UnaryOp .Not a pos) (Ou ta):=by
 intro pins s σ H Q I h;refine UnaryOp_ (thn (ha pins s σ H _ I h) fun v s1 ⟨x,H1,I1,r1,q1⟩=>?_);obtain⟨c,rfl,q1⟩:=q1;cases r1;exact not_of (BW ⟨.bl (!c),H1,I1,rfl,q1⟩)
def tIf(t:TT)(ta tb:TE):TE:=fun σ H Q=>t σ H fun c H1=>if c=true then ta σ H1 Q else tb σ H1 Q
theorem Gs{c:Expr}(hc:PT X c tA)(ha:PE X a ta)(hb:PE X b tb):PE X (.IfExp c a b pos) (tIf tA ta tb):=by
 intro pins s σ H Q I h;refine wpAny_IfExp (thn (hc pins s σ H _ I h) fun d s1 ⟨H1,I1,q1⟩=>?_);cases d with
 | true=>exact ha pins s1 σ H1 Q I1 q1
 | false=>exact hb pins s1 σ H1 Q I1 q1
end
def SqL(K:PySem.W.Frag)(H:Hp)(a:Addr)(xs:List V):Prop :=
 Rd H a (.lst xs) \/
  ∃(o:Obj) (its:Array Value) (n:Nat),K.lookup a=some o/\o.cls = .type "list"/\o.dict=none/\o.data = .seq its n/\its.size<=sizeLine/\Vals xs its.toList
def SqT(K:PySem.W.Frag)(H:Hp)(a:Addr)(xs:List V):Prop :=
 Rd H a (.tup xs) \/
  ∃(o:Obj) (its:Array Value) (n:Nat),K.lookup a=some o/\o.cls = .type "tuple"/\o.data = .seq its n/\its.size<=sizeLine/\Vals xs its.toList
def Qm:Value->Option V
 | .none=>some .non
 | .bool b=>some (.bl b)
 | .int i _=>some (.int i)
 | .str x _=>some (.str x)
 | .bytes b _=>some (.byt b)
 | .float b _=>some (.flt b)
 | .ref a=>some (.ref a)
 | .type n=>some (.ty n)
 | _=>none
theorem RelV.abs{x:V}{u:Value}(r:RelV x u):Qm u=some x:=by
 cases x with
 | non=>cases r;rfl
 | bl _=>cases r;rfl
 | int _=>obtain⟨t,rfl⟩:=r;rfl
 | str _=>obtain⟨t,rfl⟩:=r;rfl
 | byt _=>obtain⟨t,rfl⟩:=r;rfl
 | flt _=>obtain⟨t,rfl⟩:=r;rfl
 | ref _=>cases r;rfl
 | ty _=>cases r;rfl
theorem RelV.inj{x y:V}{u:Value}(r:RelV x u)(q:RelV y u):x=y:=BG (r.abs.symm.trans q.abs)
theorem Vals.inj:∀{xs ys:List V} {us:List Value},Vals xs us->Vals ys us->xs=ys
 | _,_,_,.nil,.nil=>rfl
 | _,_,_,.cons r t,.cons r' t'=>by rw[r.inj r',Vals.inj t t']
section
variable{X:Cx}{pins:List (Addr×Obj)}{σ:St}{H:Hp}{s:Shared}{a:Addr}{xs ys:List V}
theorem SqL.of{K:PySem.W.Frag}(h:H a=some (.lst xs)):SqL K H a xs:=.inl (.inl h)
theorem SqT.of{K:PySem.W.Frag}(h:H a=some (.tup xs)):SqT K H a xs:=.inl (.inl h)
theorem Inv.list(I:Inv X pins σ H s)(h:SqL X.K H a xs):∃its:List Value,Vals xs its/\PlainL s.heap a its.toArray/\xs.length<=sizeLine:=by
 rcases h with h | ⟨o,its,n,hk,hc,hd,hs,hz,r⟩
 .obtain⟨z,its,n,r,e⟩:=h.ok I.hok;exact⟨its,r,⟨_,n,e,rfl,rfl,rfl⟩,z⟩
 .refine⟨its.toList,r,⟨o,n,I.kIn a o hk,hc,hd,by simpa using hs⟩,?_⟩;have e:=r.length;simp only[BL]at e;omega
theorem Inv.tuple(I:Inv X pins σ H s)(h:SqT X.K H a xs):∃its:List Value,Vals xs its/\IsTup s.heap a its.toArray/\xs.length<=sizeLine:=by
 rcases h with h | ⟨o,its,n,hk,hc,hs,hz,r⟩
 .obtain⟨z,its,r,p⟩:=h.ok I.hok;exact⟨its,r,p,z⟩
 .refine⟨its.toList,r,⟨o,I.kIn a o hk,hc,n,by simpa using hs⟩,?_⟩;have e:=r.length;simp only[BL]at e;omega
theorem Inv.list_inj(I:Inv X pins σ H s)(h:SqL X.K H a xs)(h':SqL X.K H a ys):xs=ys:=by
 obtain⟨its,r,⟨o,n,e,_,_,d⟩,_⟩:=I.list h;obtain⟨its',r',⟨o',n',e',_,_,d'⟩,_⟩:=I.list h';rw[e]at e';cases e';rw[d]at d';injection d' with d1 _;have:its=its':=by simpa using congrArg Array.toList d1
 subst this;exact r.inj r'
theorem Inv.tuple_inj(I:Inv X pins σ H s)(h:SqT X.K H a xs)(h':SqT X.K H a ys):xs=ys:=by
 obtain⟨its,r,⟨o,e,_,n,d⟩,_⟩:=I.tuple h;obtain⟨its',r',⟨o',e',_,n',d'⟩,_⟩:=I.tuple h';rw[e]at e';cases e';rw[d]at d';injection d' with d1 _;have:its=its':=by simpa using congrArg Array.toList d1
 subst this;exact r.inj r'
end
abbrev Cx.wish(X:Cx)(E:Value->Shared->Prop):Cx:={ X with xe:=E }
abbrev Cx.nox(X:Cx):Cx:=X.wish fun _ _=>False
theorem Cx.Ok.wish{X:Cx}(ok:X.Ok)(E:Value->Shared->Prop):(X.wish E).Ok :=
 ⟨ok.mod,ok.kind,ok.glob,ok.blt,ok.above,ok.inj,ok.has,ok.cab,ok.hd,ok.frames,ok.stk,ok.exf,ok.bs,ok.bsz,ok.noex,ok.exfs,ok.funs,ok.frf⟩
theorem Cx.Ok.unwish{X:Cx}{E:Value->Shared->Prop}(ok:(X.wish E).Ok):X.Ok :=
 ⟨ok.mod,ok.kind,ok.glob,ok.blt,ok.above,ok.inj,ok.has,ok.cab,ok.hd,ok.frames,ok.stk,ok.exf,ok.bs,ok.bsz,ok.noex,ok.exfs,ok.funs,ok.frf⟩
section
variable{X:Cx}{pins:List (Addr×Obj)}{σ:St}{H:Hp}{s:Shared}{E:Value->Shared->Prop}
theorem Inv.wish(I:Inv X pins σ H s)(E:Value->Shared->Prop):Inv (X.wish E) pins σ H s:=⟨I.ok.wish E,I.os,I.bare,I.base,I.loc,I.cell,I.free,I.freeC,I.pin,I.hok,I.len⟩
theorem Inv.unwish(I:Inv (X.wish E) pins σ H s):Inv X pins σ H s:=⟨I.ok.unwish,I.os,I.bare,I.base,I.loc,I.cell,I.free,I.freeC,I.pin,I.hok,I.len⟩
theorem SP.unwish{D:Ends}{f:Flow}{s':Shared}(h:SP (X.wish E) pins D f s'):SP X pins D f s':=by
 cases f with
 | next=>obtain⟨σ',H',I,q⟩:=h;exact⟨σ',H',I.unwish,q⟩
 | brk=>obtain⟨σ',H',I,q⟩:=h;exact⟨σ',H',I.unwish,q⟩
 | cont=>obtain⟨σ',H',I,q⟩:=h;exact⟨σ',H',I.unwish,q⟩
 | ret u=>obtain⟨v,σ',H',I,r,q⟩:=h;exact⟨v,σ',H',I.unwish,r,q⟩
theorem PSs.nox{st:List Stmt}{t:TS}(h:PSs X.nox st t):PSs X st t:=fun pins s σ H D I hw =>
 BV (h pins s σ H D (I.wish _) hw) (fun _ _ q=>q.unwish) fun _ _ z=>False.elim z
end
section
variable{X:Cx}{st:Stmt}{rest:List Stmt}{t u:TS}{e:Expr}{te:TE}{pos:Pos}
def Ot:TS:=fun D σ H=>D.nx σ H
def Nr(t u:TS):TS:=fun D σ H=>t { D with nx:=u D } σ H
theorem C7:PSs X [] Ot:=fun _ _ σ H _ I h=>wpAny_execs_nil ⟨σ,H,I,h⟩
theorem B3(h1:PS X st t)(h2:PSs X rest u):PSs X (st::rest) (Nr t u):=by
 intro pins s σ H D I h;refine wpAny_execs_cons (thn (h1 pins s σ H { D with nx:=u D } I h) fun f s1 q=>?_);cases f with
 | next =>
  obtain⟨σ',H',I',q⟩:=q;exact h2 pins s1 σ' H' D I' q
 | ret v=>exact q
 | brk=>exact q
 | cont=>exact q
theorem B7(h1:PS X st t):PSs X [st] t:=by
 intro pins s σ H D I h;refine wpAny_execs_cons (thn (h1 pins s σ H D I h) fun f s1 q=>?_);cases f with
 | next=>exact wpAny_execs_nil q
 | ret v=>exact q
 | brk=>exact q
 | cont=>exact q
theorem Inv.quiet{pins:List (Addr×Obj)}{σ:St}{H:Hp}{s:Shared}(I:Inv X pins σ H s):interactive X.env=false:=by simp[interactive,I.ok.kind]
def Oo(te:TE):TS:=fun D σ H=>te σ H fun _ H1=>D.nx σ H1
theorem E3(he:PE X e te)(hs:swapsWith e none pos.line X.env=pure false:=by rfl):PS X (.Expr e pos) (Oo te):=by
 intro pins s σ H D I h;exact wpAny_Expr_any (thn (he pins s σ H _ I h) fun v s1 ⟨x,H1,I1,r1,q1⟩=>⟨σ,H1,I1,q1⟩) I.quiet hs
def Ob(te:TE):TS:=fun D σ H=>te σ H D.rt
theorem C3(he:PE X e te):PS X (.Return (some e) pos) (Ob te):=by
 intro pins s σ H D I h;exact wpAny_Return_some (thn (he pins s σ H _ I h) fun v s1 ⟨x,H1,I1,r1,q1⟩=>⟨x,σ,H1,I1,r1,q1⟩)
def Qk(c:TT)(t u:TS):TS:=fun D σ H=>c σ H fun b H1=>if b=true then t D σ H1 else u D σ H1
theorem J2{c:Expr}{a b:List Stmt}{tc:TT}(hc:PT X c tc)(ha:PSs X a t)(hb:PSs X b u):PS X (.If c a b pos) (Qk tc t u):=by
 intro pins s σ H D I h;refine wpAny_If (thn (hc pins s σ H _ I h) fun d s1 ⟨H1,I1,q1⟩=>?_);cases d with
 | true=>exact ha pins s1 σ H1 D I1 q1
 | false=>exact hb pins s1 σ H1 D I1 q1
def Lb:TS:=fun _ _ _=>False
theorem Hr:PS X st Lb:=fun _ _ _ _ _ _ h=>h.elim
end
abbrev TG:=V->St->Hp->(St->Hp->Prop)->Prop
abbrev TGs:=List V->St->Hp->(St->Hp->Prop)->Prop
def PG(X:Cx)(target:Expr)(t:TG):Prop :=
 ∀(pins:List (Addr×Obj)) (s:Shared) (σ:St) (H:Hp) (v:V) (u:Value) (Q:St->Hp->Prop),Inv X pins σ H s->RelV v u->t v σ H Q ->
  wpAny (model X.prog X.w) X.A (assign target X.env u) (fun _ s'=>∃σ' H',Inv X pins σ' H' s'/\Q σ' H') X.xe s
def PGs(X:Cx)(ts:List Expr)(t:TGs):Prop :=
 ∀(pins:List (Addr×Obj)) (s:Shared) (σ:St) (H:Hp) (vs:List V) (us:List Value) (Q:St->Hp->Prop),Inv X pins σ H s->Vals vs us->t vs σ H Q ->
  wpAny (model X.prog X.w) X.A (assignInOrder ((assignEach ts X.env).map (·.2)) us) (fun _ s'=>∃σ' H',Inv X pins σ' H' s'/\Q σ' H') X.xe s
abbrev TSet:=V->V->V->Hp->(Hp->Prop)->Prop
def Pd(X:Cx)(t:TSet):Prop :=
 ∀(pins:List (Addr×Obj)) (s:Shared) (σ:St) (H:Hp) (o i v:V) (ov iv u:Value) (Q:Hp->Prop),Inv X pins σ H s->RelV o ov->RelV i iv->RelV v u->t o i v H Q ->
  wpAny (model X.prog X.w) X.A (setItem ov iv u) (fun _ s'=>∃H',Inv X pins σ H' s'/\Q H') X.xe s
section
variable{X:Cx}{pos:Pos}
def Bg(i:Nat):TG:=fun v σ H Q=>Q (σ.set i (some v)) H
theorem J3{i:Nat}{x:Str}(hN:X.N.Nodup)(hi:X.N[i]?=some x)(hx:Loc X.env.scope x)(hf:X.fn x=true\/X.env.scope.names.lookup x=some .local:=by first | exact .inl rfl | exact .inr rfl | assumption):PG X (.Name x pos) (Bg i):=by
 intro pins s σ H v u Q I r h;exact wpAny_assign_Name (Y2 I hN hi hx r (fun s' I'=>⟨_,H,I',h⟩) hf)
def Qj:TGs:=fun vs σ H Q=>vs = []/\Q σ H
def Oe(t:TG)(u:TGs):TGs:=fun vs σ H Q=>∃v r,vs=v::r/\t v σ H fun σ' H'=>u r σ' H' Q
theorem Ba:PGs X [] Qj:=by
 intro pins s σ H vs us Q I r h;obtain⟨e,h⟩:=h;subst e;cases r;exact assignInOrder_nil ⟨σ,H,I,h⟩
theorem O4{e:Expr}{es:List Expr}{t:TG}{u:TGs}(h1:PG X e t)(h2:PGs X es u)
  (hs:(assignEach (e::es) X.env).map (·.2)=assign e X.env ::(assignEach es X.env).map (·.2):=by rfl):PGs X (e::es) (Oe t u):=by
 intro pins s σ H vs us Q I r h;obtain⟨v,vr,e1,h⟩:=h;subst e1;cases r with
 | cons r rr =>
  rw[hs];refine assignInOrder_cons (thn (h1 pins s σ H _ _ _ I r h) fun _ s1 ⟨σ1,H1,I1,q1⟩=>?_);exact h2 pins s1 σ1 H1 _ _ Q I1 rr q1
def Pj(K:PySem.W.Frag)(n:Nat)(t:TGs):TG:=fun v σ H Q=>∃a xs,v = .ref a/\SqT K H a xs/\xs.length=n/\t xs σ H Q
theorem Lo{es:List Expr}{k:Nat}{t:TGs}{n:Nat}(hc:X.calm=true)(h:PGs X es t)
  (hn:(assignEach es X.env).length=n:=by rfl) (hst:(assignEach es X.env).findIdx? (·.1)=none:=by rfl):PG X (.Tuple es k pos) (Pj X.K n t):=by
 intro pins s σ H v u Q I r hw;obtain⟨a,xs,e1,hq,hl,hw⟩:=hw;subst e1;cases r;obtain⟨its,rv,ht,hz⟩:=I.tuple hq;refine assign_Tuple_tuple (I.ok.hd hc) ht (by simp[hn,<-hl,rv.length]) hst fun h' hx=>?_;have I1:Inv X pins σ H { s with heap:=h' }:=I.kept (t':=s.toks) fun b o e=>hx b o (AS (AF e)) e;exact h pins _ σ H xs _ Q I1 (by simpa using rv) hw
def Pr(to ti:TE)(t:TSet):TG:=fun v σ H Q=>to σ H fun o H1=>ti σ H1 fun i H2=>t o i v H2 fun H3=>Q σ H3
theorem Fs{o i:Expr}{to ti:TE}{t:TSet}(ho:PE X o to)(hi:PE X i ti)(hs:Pd X t)
  (ha:∀v,assign (.Subscript o i pos) X.env v =(do
   let ov <-holding [v] (eval o X.env)
   let iv <-holding [v,ov] (eval i X.env)
   standAt pos
   holding [v,ov,iv] (setItem ov iv v)
   release [v,ov,iv] []):=by intro _;rfl):PG X (.Subscript o i pos) (Pr to ti t):=by
 intro pins s σ H v u Q I r h;rw[ha];refine AB (CG (thn (ho pins s σ H _ I h) fun ov s1 ⟨x,H1,I1,r1,q1⟩=>?_));refine AB (CG (thn (hi pins s1 σ H1 _ I1 q1) fun iv s2 ⟨y,H2,I2,r2,q2⟩=>?_));refine AB (DH (AB (CG (thn (hs pins s2 σ H2 x y v ov iv u _ I2 r1 r2 r q2) fun _ s3 ⟨H3,I3,q3⟩=>?_))));exact wpAny_release ⟨σ,H3,I3,q3⟩
def Oz(te:TE)(g:TG):TS:=fun D σ H=>te σ H fun x H1=>g x σ H1 D.nx
theorem Ez{tg e:Expr}{te:TE}{g:TG}(he:PE X e te)(hg:PG X tg g)(hs:swapsWithSole [tg] e pos.line X.env=pure false:=by rfl)(hw:swappedStores [tg] e X.env=pure none:=by rfl)
  (h1:(assignEach [tg] X.env).map (·.2) = [assign tg X.env]:=by rfl):PS X (.Assign [tg] e pos) (Oz te g):=by
 intro pins s σ H D I h;refine wpAny_Assign_stores (thn (he pins s σ H _ I h) fun v s1 ⟨x,H1,I1,r1,q1⟩=>?_) hs hw;rw[h1];exact thn (hg pins s1 σ H1 x v _ I1 r1 q1) fun _ s2 q=>q
theorem C5{i:Nat}{x:Str}{e:Expr}{te:TE}{pos':Pos}(hN:X.N.Nodup)(hi:X.N[i]?=some x)(hx:Loc X.env.scope x)(he:PE X e te)(hs:swapsWith e (some (.Name x pos')) pos.line X.env=pure false:=by rfl)(hf:X.fn x=true\/X.env.scope.names.lookup x=some .local:=by first | exact .inl rfl | exact .inr rfl | assumption) :
  PS X (.Assign [.Name x pos'] e pos) (Oz te (Bg i)):=by
 intro pins s σ H D I h;refine wpAny_Assign_Name (thn (he pins s σ H _ I h) fun v s1 ⟨y,H1,I1,r1,q1⟩=>?_) hs;exact Y2 I1 hN hi hx r1 (fun s2 I2=>⟨_,H1,I2,q1⟩) hf
def Qi(i j:Nat)(ta:TA):TS:=fun D σ H=>ta σ H fun vs H1=>∃v w,vs = [v,w]/\D.nx ((σ.set i (some v)).set j (some w)) H1
theorem Nn{i j:Nat}{x y:Str}{a b:Expr}{ta:TA}{px py pt:Pos}{kt k2 pt2}(hc:X.calm=true)(hN:X.N.Nodup)(hi:X.N[i]?=some x)(hj:X.N[j]?=some y)(hij:i≠j)
  (hx:X.env.scope.names.lookup x=some .local) (hy:X.env.scope.names.lookup y=some .local) (ha:PA X [a,b] ta)
  (hw:swappedStores [.Tuple [.Name x px,.Name y py] kt pt] (.Tuple [a,b] k2 pt2) X.env=pure (some [x,y]))
  (hs:swapsWithSole [.Tuple [.Name x px,.Name y py] kt pt] (.Tuple [a,b] k2 pt2) pos.line X.env=pure false:=by rfl) :
  PS X (.Assign [.Tuple [.Name x px,.Name y py] kt pt] (.Tuple [a,b] k2 pt2) pos) (Qi i j ta):=by
 intro pins s σ H D I h;rw[exec_Assign_arm];refine AB (DH ?_);rw[hs];refine AB (AE ?_);rw[BF (by decide)];refine AB (Tuple_ (thn (ha _ pins s σ H _ I h) fun us s1 ⟨vs,H1,I1,r1,q1⟩=>?_));obtain⟨v,w,e1,q1⟩:=q1;subst e1;obtain⟨u1,u2,rfl,rv,rw'⟩:∃u1 u2,us = [u1,u2]/\RelV v u1/\RelV w u2:=by
  cases r1 with
  | cons p q =>
   cases q with
   | cons p' q' =>
    cases q';exact⟨_,_,rfl,p,p'⟩
 refine CH ?_ (by show 2<=sizeLine;decide);have I2:Inv X pins σ H1 { s1 with heap:=s1.heap.push { cls:=.type "tuple",data:=.seq [u1,u2].toArray } }:=I1.kept (t':=s1.toks) fun b o e=>AD _ e;rw[hw];refine AB (AE ?_);show wpAny (model X.prog X.w) X.A (do rule "assign.swapped-stores";let items <-unpackItems (.ref s1.heap.objs.size) 2 none;assignInOrder [fun v=>bindName X.env y v,fun v=>bindName X.env x v] items.reverse;pure Flow.next) _ _ _;refine AB (DA (AB (unpackItems_tuple (items:=#[u1,u2]) (I.ok.hd hc) (IsTup.new s1.heap _) fun h' hx'=>?_)));have I3:=I2.kept (h':=h') (t':=s1.toks) fun b o e=>hx' b o (AS (AF e)) e;show wpAny _ _ (assignInOrder [fun v=>bindName X.env y v,fun v=>bindName X.env x v] [u2,u1] >>= fun _=>pure Flow.next) _ _ _;refine AB (assignInOrder_cons (wpAny_bindName (Y2 I3 hN hj (.inl hy) rw' (fun s2 I4=>?_) (.inr hy))));refine assignInOrder_cons (wpAny_bindName (Y2 I4 hN hi (.inl hx) rv (fun s3 I5=>assignInOrder_nil (AE ?_)) (.inr hx)));rw[List.set_comm _ _ (Ne.symm hij)]at I5;exact⟨_,H1,I5,q1⟩
end
structure It where
 go:Nat->Hp->Prop
 yld:Nat->Hp->V->Hp->Prop
 stop:Nat->Hp->Prop
def l9(X:Cx)(pins:List (Addr×Obj))(H:Hp)(b:Addr):Prop :=
 H b=none/\b≠X.env.locals/\b∉X.fs/\(b∈X.ex\/X.s₀.heap.objs.size<=b)/\(∀x c,X.env.cells.lookup x=some c->c≠b)/\∀p∈X.pn++pins,p.1≠b
theorem Inv.fpOk{X:Cx}{pins:List (Addr×Obj)}{σ:St}{H H':Hp}{s:Shared}{b:Addr}(I:Inv X pins σ H s)(hb:s.heap.objs.size<=b)(hn:H' b=none):l9 X pins H' b:=by
 refine⟨hn,Nat.ne_of_gt (BD I.lt hb),I.nofs hb,.inr (BO I.sz hb),fun x c e z=>?_,fun p hp z=>?_⟩
 .obtain⟨v,q⟩:=I.cell x c e;exact absurd (BD q.lt (by rw[z];exact hb)) (CY _)
 .exact absurd (BD (AF (I.pin p hp).1) (by rw[z];exact hb)) (CY _)
structure Turn(P:Program)(w:World)(K:PySem.W.Frag)(tg:Expr)(J:It)(fp:List Addr)(it:Addr)(tn:Nat->Heap->Prop):Prop where
 mem:it∈fp
 obj:∀i h,tn i h->∀b∈fp,∃o,h.get? b=some o/\∀v,o.data≠ .cell v
 keep:∀i h h',tn i h->(∀b∈fp,∀o,h.get? b=some o->h'.get? b=some o)->tn i h'
 item:∀(X:Cx),X.prog=P->X.w=w->X.K=K->X.calm=true->∀(i:Nat) (pins:List (Addr×Obj)) (s:Shared) (σ:St) (H:Hp) (E:Value->Shared->Prop),Inv X pins σ H s->(∀b∈fp,l9 X pins H b)->tn i s.heap->J.go i H ->
  wpAny (model P w) X.A (pyNext (.ref it)) (fun r s1=>∃u,r=some u /\
   wpAny (model P w) X.A (letOwnedTupleGo tg (.ref it) u) (fun _ s2=>∃x H',Inv X pins σ H' s2/\RelV x u/\J.yld i H x H'/\tn (i+1) s2.heap/\∀b∈fp,H' b=none) E s1) E s
 done:∀(X:Cx),X.prog=P->X.w=w->X.K=K->X.calm=true->∀(i:Nat) (pins:List (Addr×Obj)) (s:Shared) (σ:St) (H:Hp) (E:Value->Shared->Prop),Inv X pins σ H s->(∀b∈fp,l9 X pins H b)->tn i s.heap->J.stop i H ->
  wpAny (model P w) X.A (pyNext (.ref it)) (fun r s1=>r=none/\Inv X pins σ H s1) E s
 self:∀(A:Around) (i:Nat) (s:Shared) (Q:Value->Shared->Prop) (E:Value->Shared->Prop),tn i s.heap->Q (.ref it) s->wpAny (model P w) A (pyIter (.ref it)) Q E s
abbrev TI:=St->Hp->(It->Hp->Prop)->Prop
def PIE(X:Cx)(pins:List (Addr×Obj))(σ:St)(tg:Expr)(R:It->Hp->Prop)(itv:Value)(s2:Shared):Prop :=
 ∃(it:Addr) (fp:List Addr) (tn:Nat->Heap->Prop) (J:It) (H':Hp),itv = .ref it/\Inv X pins σ H' s2/\Turn X.prog X.w X.K tg J fp it tn/\tn 0 s2.heap/\(∀b∈fp,l9 X pins H' b)/\R J H'
def PI(X:Cx)(tg iter:Expr)(wi:TI):Prop :=
 ∀(pins:List (Addr×Obj)) (s:Shared) (σ:St) (H:Hp) (R:It->Hp->Prop),Inv X pins σ H s->wi σ H R ->
  wpAny (model X.prog X.w) X.A (eval iter X.env) (fun v s1=>wpAny (model X.prog X.w) X.A (pyIter v) (PIE X pins σ tg R) X.xe s1) X.xe s
theorem Ht{M:Model}{A:Around}{E:Value->Shared->Prop}{s:Shared}{tg:Expr}{it:Addr}{u:Value}{o:Obj}{n:String}{vs:Array Value}{Q:Unit->Shared->Prop}(ho:s.heap.get? it=some o)(hc:o.cls = .type n)(hd:o.data = .fields vs)
    (hn:["enumerate", "zip", "dict_itemiterator", "dict_reverseitemiterator", "odict_iterator", "itertools.zip_longest", "itertools.pairwise"].contains n=false) (hQ:Q () s):wpAny M A (letOwnedTupleGo tg (.ref it) u) Q E s:=by
  unfold letOwnedTupleGo;cases tg<;>first
    | exact AE hQ
    | (cases u<;>first
        | exact AE hQ
        | (refine AB (wpAny_load ho ?_)
           rw[hc,hd];show wpAny M A (if(["enumerate", "zip", "dict_itemiterator", "dict_reverseitemiterator", "odict_iterator", "itertools.zip_longest", "itertools.pairwise"].contains n&&vs[0]? == some (rawInt _))=true then _ else _) Q E s;rw[BF (by intro h;rw[hn,DN]at h;cases h)];exact AE hQ))
def Itl(K:PySem.W.Frag)(a:Addr):It :=
 ⟨fun i H=>∃xs x,SqL K H a xs/\xs[i]?=some x,fun i H x H'=>H'=H/\∀xs,SqL K H a xs->xs[i]?=some x,fun i H=>∃xs,SqL K H a xs/\xs.length<=i⟩
def Itt(K:PySem.W.Frag)(a:Addr):It :=
 ⟨fun i H=>∃xs x,SqT K H a xs/\xs[i]?=some x,fun i H x H'=>H'=H/\∀xs,SqT K H a xs->xs[i]?=some x,fun i H=>∃xs,SqT K H a xs/\xs.length<=i⟩
def Itr(lo:Int)(n:Nat):It:=⟨fun i _=>i<n,fun i H x H'=>H'=H/\x = .int (lo+i),fun i _=>n<=i⟩
theorem u9{P:Program}{w:World}{K:PySem.W.Frag}{tg:Expr}(a it:Addr):Turn P w K tg (Itl K a) [it] it (fun i h=>h.IsListIter it a i) where
 mem:=by simp
 obj:=fun i h st b hb=>by
  have e:b=it:=by simpa using hb
  subst e;obtain⟨o,e,c,d⟩:=st;exact⟨o,e,fun v z=>by rw[d]at z;cases z⟩
 keep:=fun i h h' st k=>st.at fun o e=>k it (by simp) o e
 item:=by
  intro X hP hw hK hc i pins s σ H E I hf st hg;subst hP hw hK;obtain⟨xs,x,hq,hx⟩:=hg;obtain⟨its,rv,p,hz⟩:=I.list hq;obtain⟨u,hu,ru⟩:=rv.get hx;obtain⟨f0,f1,f2,f3,f4,f5⟩:=hf it (by simp);refine wpAny_pyNext_list_item st p.isList (x:=u) (by simpa using hu) fun h' st' sb=>?_;have I1:Inv X pins σ H { s with heap:=h' }:=I.turned (t':=s.toks) (fun b o hb e=>(sb.2 b hb).trans e) f0 f1 f3 f4 f5;obtain⟨o,e,c,d⟩:=id st';exact⟨u,rfl,Ht (s:={ s with heap:=h' }) e c d (by decide) ⟨x,H,I1,ru,⟨rfl,fun ys hy=>by rw[I.list_inj hy hq];exact hx⟩,st',fun b hb=>(hf b hb).1⟩⟩
 done:=by
  intro X hP hw hK hc i pins s σ H E I hf st hg;subst hP hw hK;obtain⟨xs,hq,hx⟩:=hg;obtain⟨its,rv,p,hz⟩:=I.list hq;obtain⟨f0,f1,f2,f3,f4,f5⟩:=hf it (by simp);have hl:=rv.length;exact wpAny_pyNext_list_end (I.ok.hd hc) st p.isList (by simp;omega) fun h' eb=>⟨rfl,I.turned (t':=s.toks) (fun b o hb e=>eb b o hb e) f0 f1 f3 f4 f5⟩
 self:=fun _ _ _ _ _ st h=>wpAny_pyIter_listiter st h
theorem Di{P:Program}{w:World}{K:PySem.W.Frag}{tg:Expr}(a it:Addr):Turn P w K tg (Itt K a) [it] it (fun i h=>h.IsTupleIter it a i) where
 mem:=by simp
 obj:=fun i h st b hb=>by
  have e:b=it:=by simpa using hb
  subst e;obtain⟨o,e,c,d⟩:=st;exact⟨o,e,fun v z=>by rw[d]at z;cases z⟩
 keep:=fun i h h' st k=>st.at fun o e=>k it (by simp) o e
 item:=by
  intro X hP hw hK hc i pins s σ H E I hf st hg;subst hP hw hK;obtain⟨xs,x,hq,hx⟩:=hg;obtain⟨its,rv,p,hz⟩:=I.tuple hq;obtain⟨u,hu,ru⟩:=rv.get hx;obtain⟨f0,f1,f2,f3,f4,f5⟩:=hf it (by simp);refine wpAny_pyNext_tuple_item st (show s.heap.IsTuple a its.toArray from p) (x:=u) (by simpa using hu) fun h' st' sb=>?_;have I1:Inv X pins σ H { s with heap:=h' }:=I.turned (t':=s.toks) (fun b o hb e=>(sb.2 b hb).trans e) f0 f1 f3 f4 f5;obtain⟨o,e,c,d⟩:=id st';exact⟨u,rfl,Ht (s:={ s with heap:=h' }) e c d (by decide) ⟨x,H,I1,ru,⟨rfl,fun ys hy=>by rw[I.tuple_inj hy hq];exact hx⟩,st',fun b hb=>(hf b hb).1⟩⟩
 done:=by
  intro X hP hw hK hc i pins s σ H E I hf st hg;subst hP hw hK;obtain⟨xs,hq,hx⟩:=hg;obtain⟨its,rv,p,hz⟩:=I.tuple hq;obtain⟨f0,f1,f2,f3,f4,f5⟩:=hf it (by simp);have hl:=rv.length;exact wpAny_pyNext_tuple_end (I.ok.hd hc) st (show s.heap.IsTuple a its.toArray from p) (by simp;omega) fun h' eb=>⟨rfl,I.turned (t':=s.toks) (fun b o hb e=>eb b o hb e) f0 f1 f3 f4 f5⟩
 self:=fun _ _ _ _ _ st h=>wpAny_pyIter_tupleiter st h
theorem Db{P:Program}{w:World}{K:PySem.W.Frag}{tg:Expr}(it:Addr)(lo:Int)(n:Nat):Turn P w K tg (Itr lo n) [it] it (fun i h=>IsRangeIter h it (lo +(i:Nat)*1) ((n:Int)-(i:Nat)) 1) where
 mem:=by simp
 obj:=fun i h st b hb=>by
  have e:b=it:=by simpa using hb
  subst e;exact⟨_,st,fun v z=>by
   have z':Data.fields _=Data.cell v:=z;cases z'⟩
 keep:=fun i h h' st k=>k it (by simp) _ st
 item:=by
  intro X hP hw hK hc i pins s σ H E I hf st hg;subst hP hw hK;obtain⟨f0,f1,f2,f3,f4,f5⟩:=hf it (by simp);have W:=Walks.range (prog:=X.prog) (w:=X.w) (I.ok.hd hc) it lo 1 n;refine W.item i s _ _ hg st fun v h' tk hv st' kk=>?_;obtain⟨t,rfl⟩:=hv;have I1:Inv X pins σ H { s with heap:=h',toks:=tk }:=I.turned (fun b o hb e=>kk b o (by simpa using hb) e) f0 f1 f3 f4 f5;refine⟨_,rfl,Ht (s:={ s with heap:=h',toks:=tk }) (n := "range_iterator") st' rfl rfl (by decide) ⟨.int (lo+i),H,I1,⟨t,?_⟩,⟨rfl,rfl⟩,st',fun b hb=>(hf b hb).1⟩⟩;rw[Int.mul_one]
 done:=by
  intro X hP hw hK hc i pins s σ H E I hf st hg;subst hP hw hK;obtain⟨f0,f1,f2,f3,f4,f5⟩:=hf it (by simp);exact wpAny_pyNext_range_end (I.ok.hd hc) st (by have:n<=i:=hg;omega) fun h' eb=>⟨rfl,I.turned (t':=s.toks) (fun b o hb e=>eb b o hb e) f0 f1 f3 f4 f5⟩
 self:=fun _ _ _ _ _ st h=>wpAny_pyIter_rangeiter st h
section
variable{X:Cx}{tg:Expr}
def Np(K:PySem.W.Frag)(tl:TE):TI:=fun σ H R=>tl σ H fun x H1=>∃a,x = .ref a/\(∃xs,SqL K H1 a xs)/\R (Itl K a) H1
theorem Je{l:Expr}{tl:TE}(hl:PE X l tl):PI X tg l (Np X.K tl):=by
 intro pins s σ H R I h;refine thn (hl pins s σ H _ I h) fun v s1 ⟨x,H1,I1,r1,q1⟩=>?_;obtain⟨a,e,⟨xs,hq⟩,q⟩:=q1;subst e;cases r1;obtain⟨its,rv,p,hz⟩:=I1.list hq;refine DP p.isList ?_;refine⟨s1.heap.objs.size,[s1.heap.objs.size],_,_,H1,rfl,I1.kept (t':=s1.toks) fun b o e=>AD _ e,u9 a _,⟨_,AO _ rfl,rfl,rfl⟩,fun b hb=>?_,q⟩;have e:b=s1.heap.objs.size:=by simpa using hb
 subst e;exact I1.fpOk (AG _) (I1.hok.fresh (AG _))
theorem Gp{pins:List (Addr×Obj)}{σ:St}{H:Hp}{s:Shared}{R:It->Hp->Prop}{E:Value->Shared->Prop}{lo hi:Int}{t u v:Tok}{tk:Nat}(I:Inv X pins σ H s)(h1:-(2^62)<=lo)(h2:lo<2^62)(h3:-(2^62)<=hi)(h4:hi<2^62)
  (q:R (Itr lo (hi-lo).toNat) H):wpAny (model X.prog X.w) X.A (pyIter (.ref s.heap.objs.size)) (PIE X pins σ tg R) E { s with heap:=s.heap.push { cls:=.type "range",data:=.fields #[.int lo t,.int hi u,.int 1 v] },toks:=tk }:=by
 refine wpAny_pyIter_range (IsRange.new ..) (small_one h1 h2 h3 h4) ?_;have I1:Inv X pins σ H { s with heap:=s.heap.push { cls:=.type "range",data:=.fields #[.int lo t,.int hi u,.int 1 v] },toks:=tk }:=I.kept fun b o e=>AD _ e;refine⟨(s.heap.push { cls:=.type "range",data:=.fields #[.int lo t,.int hi u,.int 1 v] }).objs.size,[(s.heap.push { cls:=.type "range",data:=.fields #[.int lo t,.int hi u,.int 1 v] }).objs.size],_,_,H,rfl,
  I1.kept (t':=tk) fun b o e=>AD _ e,Db _ lo (hi-lo).toNat,?_,fun b hb=>?_,q⟩
 .have e1:lo +((0:Nat):Int)*1=lo:=by simp
  have e2:(((hi-lo).toNat:Nat):Int)-((0:Nat):Int)=Builtin.Range.rangeSize lo hi 1:=by rw[rangeSize_one];split<;>omega
  show IsRangeIter _ _ (lo +((0:Nat):Int)*1) ((((hi-lo).toNat:Nat):Int)-((0:Nat):Int)) 1;rw[e1,e2];exact AO _ rfl
 .have e:b =(s.heap.push { cls:=.type "range",data:=.fields #[.int lo t,.int hi u,.int 1 v] }).objs.size:=by simpa using hb
  subst e;exact I1.fpOk (AG _) (I1.hok.fresh (AG _))
def Ni(ta:TA):TI:=fun σ H R=>ta σ H fun vs H1=>∃j:Int,vs = [.int j]/\-(2^62)<=j/\j<2^62/\R (Itr 0 j.toNat) H1
theorem Gb{a:Expr}{ta:TA}{p pos:Pos}(hg:Gl X "range")(hm:X.mg "range" = none)(ha:PA X [a] ta)(hs:starEach [a] X.env = [(false,eval a X.env)]:=by rfl):PI X tg (.Call (.Name "range" p) [a] [] pos) (Ni ta):=by
 intro pins s σ H R I h;refine Call_ (j6 I hg hm boot_range (PyProof.Rows.callWith_type1 (thn (ha pos pins s σ H _ I h) fun us s1 ⟨vs,H1,I1,r1,q1⟩=>?_) hs rfl));obtain⟨j,e,q1,q2,q⟩:=q1;subst e;cases r1 with
 | cons r rr =>
  cases rr;obtain⟨t,rfl⟩:=r;exact call_range_1 (Gp I1 (by omega) (by omega) q1 q2 (by simpa using q))
def Qn(wi:TI)(g:TG)(tb:TS):TS:=fun D σ H=>wi σ H fun J H1=>∃W:Nat->Nat->St->Hp->Prop,(∃m,W 0 m σ H1)/\∀i m σ H,W i m σ H ->
 (J.stop i H/\D.nx σ H)\/(J.go i H/\∃N:St->Hp->Prop,(∀σ' H',N σ' H'->∃m',m' < m/\W (i+1) m' σ' H')/\∀x H',J.yld i H x H'->g x σ H' fun σ2 H2=>tb { D with nx:=N,ct:=N,bk:=D.nx } σ2 H2)
def w6(fp:List Addr)(h:Heap):List (Addr×Obj):=fp.filterMap fun b=>(h.get? b).map fun o=>(b,o)
theorem P7{fp:List Addr}{h:Heap}{b:Addr}{o:Obj}(hb:b∈fp)(e:h.get? b=some o):(b,o)∈w6 fp h:=List.mem_filterMap.mpr ⟨b,hb,by rw[e];rfl⟩
theorem Fg{fp:List Addr}{h:Heap}{p:Addr×Obj}(hp:p∈w6 fp h):p.1∈fp/\h.get? p.1=some p.2:=by
 obtain⟨b,hb,e⟩:=List.mem_filterMap.mp hp;cases q:h.get? b with
 | none=>rw[q]at e;cases e
 | some o =>
  rw[q]at e;have e':(b,o)=p:=BG e;subst e';exact⟨hb,q⟩
theorem Inv.pinned{pins:List (Addr×Obj)}{σ:St}{H:Hp}{s:Shared}{fp:List Addr}(I:Inv X pins σ H s)(hf:∀b∈fp,l9 X pins H b)(ho:∀b∈fp,∃o,s.heap.get? b=some o/\∀v,o.data≠ .cell v):Inv X (pins++w6 fp s.heap) σ H s :=
 I.pins_of fun p hp=>(A_.mp hp).elim (fun z=>I.pin p (BE _ z)) fun z=>by
  obtain⟨hb,e⟩:=Fg z;obtain⟨f0,f1,f2,_⟩:=hf p.1 hb;obtain⟨o,e',d⟩:=ho p.1 hb;rw[e]at e';cases e';exact⟨e,f0,f1,f2,d⟩
theorem Inv.unpinned{pins pl:List (Addr×Obj)}{σ:St}{H:Hp}{s:Shared}(I:Inv X (pins++pl) σ H s):Inv X pins σ H s:=I.pins_of fun p hp=>I.pin p (BE _ (BT _ hp))
theorem S3{iter:Expr}{body:List Stmt}{wi:TI}{g:TG}{tb:TS}{pos:Pos}(hp:PassesOwn (model X.prog X.w) X.A X.env X.xe)(hc:X.calm=true)(hi:PI X tg iter wi)(hg:PG X tg g)(hb:PSs X body tb)
  (hs:∀x,foldedSetIterable iter X.env x=pure x:=by intro _;rfl):PS X (.For tg iter body [] pos) (Qn wi g tb):=by
 intro pins s σ H D I h;refine wpAny_For (thn (hi pins s σ H _ I h) fun v s1 h1=>thn h1 fun itv s2 h2=>?_) hs;obtain⟨it,fp,tn,J,H2,e,I2,T,st2,f2,W,⟨m0,w0⟩,turn⟩:=h2;subst e;have stat:∀{H':Hp},(∀b∈fp,H' b=none)->∀b∈fp,l9 X pins H' b:=fun hn b hb=>⟨hn b hb,(f2 b hb).2⟩;refine codeAny_forLoop_any (fun n s'=>∃i σ' H',Inv X pins σ' H' s'/\tn i s'.heap/\(∀b∈fp,H' b=none)/\W i n σ' H') ?_ m0 ⟨0,σ,H2,I2,st2,fun b hb=>(f2 b hb).1,w0⟩;rintro n s3 ⟨i,σ3,H3,I3,st3,fr3,w3⟩;rcases turn i n σ3 H3 w3 with⟨stop,qn⟩ | ⟨go,N,hN,step⟩
 .refine DI hp (thn (T.done X rfl rfl rfl hc i pins s3 σ3 H3 X.xe I3 (stat fr3) st3 stop) fun r s4 ⟨hr,I4⟩=>?_);subst hr;exact wpAny_execs_nil ⟨σ3,H3,I4,qn⟩
 .refine DI hp (thn (T.item X rfl rfl rfl hc i pins s3 σ3 H3 X.xe I3 (stat fr3) st3 go) fun r s4 ⟨u,hr,h4⟩=>?_);subst hr;refine DI hp (thn h4 fun _ s5 ⟨x,H5,I5,r5,y5,st5,fr5⟩=>?_);have I5':=I5.pinned (stat fr5) (T.obj _ _ st5);refine DI hp (thn (hg _ s5 σ3 H5 x u _ I5' r5 (step x H5 y5)) fun _ s6 ⟨σ6,H6,I6,q6⟩=>?_);refine DI hp (thn (hb _ s6 σ6 H6 _ I6 q6) fun f s7 q7=>?_);have again:∀{σ7:St} {H7:Hp},Inv X (pins++w6 fp s5.heap) σ7 H7 s7->N σ7 H7->∃m,m<n/\∃i σ' H',Inv X pins σ' H' s7/\tn i s7.heap/\(∀b∈fp,H' b=none)/\W i m σ' H':=fun{σ7 H7} I7 n7=>by
   obtain⟨m',hm,w7⟩:=hN σ7 H7 n7;refine⟨m',hm,i+1,σ7,H7,I7.unpinned,T.keep _ _ _ st5 fun b hb o e=>(I7.pin (b,o) (BE _ (BE _ (P7 hb e)))).1,fun b hb=>?_,w7⟩;obtain⟨o,e,d⟩:=T.obj _ _ st5 b hb;exact(I7.pin (b,o) (BE _ (BE _ (P7 hb e)))).2.1
  cases f with
  | next=>obtain⟨σ7,H7,I7,n7⟩:=q7;exact again I7 n7
  | cont=>obtain⟨σ7,H7,I7,n7⟩:=q7;exact again I7 n7
  | brk=>obtain⟨σ7,H7,I7,q7⟩:=q7;exact⟨σ7,H7,I7.unpinned,q7⟩
  | ret v=>obtain⟨x7,σ7,H7,I7,r7,q7⟩:=q7;exact⟨x7,σ7,H7,I7.unpinned,r7,q7⟩
end
theorem Fj{lo:Int}{n:Nat}{g:TG}{tb:TS}{D:Ends}{σ:St}{H:Hp}(Pv:Nat->St->Hp->Prop)(h0:Pv 0 σ H)
  (hs:∀i σ H,i<n->Pv i σ H->g (.int (lo+i)) σ H fun σ2 H2=>tb { D with nx:=Pv (i+1),ct:=Pv (i+1),bk:=D.nx } σ2 H2) (hd:∀σ H,Pv n σ H->D.nx σ H) :
  ∃W:Nat->Nat->St->Hp->Prop,(∃m,W 0 m σ H)/\∀i m σ H,W i m σ H ->
   ((Itr lo n).stop i H/\D.nx σ H)\/((Itr lo n).go i H/\∃N:St->Hp->Prop,(∀σ' H',N σ' H'->∃m',m' < m/\W (i+1) m' σ' H')/\∀x H',(Itr lo n).yld i H x H'->g x σ H' fun σ2 H2=>tb { D with nx:=N,ct:=N,bk:=D.nx } σ2 H2):=by
 refine⟨fun i m σ H=>m=n-i/\i<=n/\Pv i σ H,⟨n,by simp,BU _,h0⟩,?_⟩;rintro i m σ H ⟨rfl,hi,p⟩;by_cases hlt:i<n
 .refine .inr ⟨hlt,Pv (i+1),fun σ' H' p'=>⟨n-(i+1),by omega,rfl,hlt,p'⟩,fun x H' y=>?_⟩;obtain⟨e,y⟩:=y;subst e y;exact hs i σ _ hlt p
 .have e:i=n:=by omega
  subst e;exact .inl ⟨AG _,hd σ H p⟩
abbrev R2:=V->V->Hp->VK->Prop
def OpR(X:Cx)(f:Value->Value->Sem Value)(r:R2):Prop :=
 ∀(pins:List (Addr×Obj)) (s:Shared) (σ:St) (H:Hp) (x y:V) (v u:Value) (Q:VK),Inv X pins σ H s->RelV x v->RelV y u->r x y H Q ->
  wpAny (model X.prog X.w) X.A (f v u) (EP X pins σ Q) X.xe s
def UnR(X:Cx)(f:Value->Sem Value)(r:V->Hp->VK->Prop):Prop :=
 ∀(pins:List (Addr×Obj)) (s:Shared) (σ:St) (H:Hp) (x:V) (v:Value) (Q:VK),Inv X pins σ H s->RelV x v->r x H Q ->
  wpAny (model X.prog X.w) X.A (f v) (EP X pins σ Q) X.xe s
def J0(X:Cx)(f:Value)(r:List V->Hp->VK->Prop):Prop :=
 ∀(pins:List (Addr×Obj)) (s:Shared) (σ:St) (H:Hp) (xs:List V) (us:List Value) (Q:VK),Inv X pins σ H s->Vals xs us->r xs H Q ->
  wpAny (model X.prog X.w) X.A (call f us) (EP X pins σ Q) X.xe s
def tOp(r:R2)(ta tb:TE):TE:=fun σ H Q=>ta σ H fun x H1=>tb σ H1 fun y H2=>r x y H2 Q
def tUn(r:V->Hp->VK->Prop)(ta:TE):TE:=fun σ H Q=>ta σ H fun x H1=>r x H1 Q
def rI(C:Int->Int->Prop)(g:Int->Int->V):R2:=fun x y H Q=>∃i j,x = .int i/\y = .int j/\C i j/\Q (g i j) H
def rI0(g:Int->Int->V):R2:=fun x y H Q=>∃i j,x = .int i/\y = .int j/\Q (g i j) H
def rU(g:Int->V):V->Hp->VK->Prop:=fun x H Q=>∃i,x = .int i/\Q (g i) H
section
variable{X:Cx}{a b c:Expr}{ta tb tc:TE}{pos:Pos}
theorem Ow(ha:PE X a ta)(hb:PE X b tb){pins:List (Addr×Obj)}{s:Shared}{σ:St}{H:Hp}{R:V->V->Hp->Prop}(I:Inv X pins σ H s)
  (h:ta σ H fun x H1=>tb σ H1 fun y H2=>R x y H2) {Q:Value->Shared->Prop} {f:Value->Value->Sem Value}
  (hf:∀v u s2 x y H2,Inv X pins σ H2 s2->RelV x v->RelV y u->R x y H2->wpAny (model X.prog X.w) X.A (f v u) Q X.xe s2) :
  wpAny (model X.prog X.w) X.A (eval a X.env) (fun v s₁=>wpAny (model X.prog X.w) X.A (eval b X.env) (fun u s₂=>wpAny (model X.prog X.w) X.A (f v u) Q X.xe s₂) X.xe s₁) X.xe s:=by
 refine thn (ha pins s σ H _ I h) fun v s1 ⟨x,H1,I1,r1,q1⟩=>?_;refine thn (hb pins s1 σ H1 _ I1 q1) fun u s2 ⟨y,H2,I2,r2,q2⟩=>?_;exact hf v u s2 x y H2 I2 r1 r2 q2
theorem E8{op:Operator}{r:R2}(ho:OpR X (binaryOp op) r)(ha:PE X a ta)(hb:PE X b tb):PE X (.BinOp a op b pos) (tOp r ta tb):=by
 intro pins s σ H Q I h;exact wpAny_BinOp (Ow ha hb I h fun v u s2 x y H2 I2 rx ry q=>ho pins s2 σ H2 x y v u Q I2 rx ry q)
theorem Lm{op:UnaryOp}{r:V->Hp->VK->Prop}(ho:UnR X (unaryOp op) r)(ha:PE X a ta):PE X (.UnaryOp op a pos) (tUn r ta):=by
 intro pins s σ H Q I h;exact UnaryOp_ (thn (ha pins s σ H _ I h) fun v s1 ⟨x,H1,I1,r1,q1⟩=>ho pins s1 σ H1 x v Q I1 r1 q1)
theorem opI{f:Value->Value->Sem Value}{C:Int->Int->Prop}{g:Int->Int->Int}
  (rule:∀(i j:Int) (t u:Tok) (s:Shared) (Q:Value->Shared->Prop) (E:Value->Shared->Prop),C i j->Q (.int (g i j) s.toks) { s with toks:=s.toks+1 }->wpAny (model X.prog X.w) X.A (f (.int i t) (.int j u)) Q E s) :
  OpR X f (rI C fun i j=>.int (g i j)):=by
 intro pins s σ H x y v u Q I rx ry h;obtain⟨i,j,rfl,rfl,hc,q⟩:=h;obtain⟨t,rfl⟩:=rx;obtain⟨t',rfl⟩:=ry;exact rule i j t t' s _ _ hc ⟨.int (g i j),H,I.tok _,⟨_,rfl⟩,q⟩
theorem Ph{f:Value->Value->Sem Value}{g:Int->Int->Int}
  (rule:∀(i j:Int) (t u:Tok) (s:Shared) (Q:Value->Shared->Prop) (E:Value->Shared->Prop),Q (.int (g i j) s.toks) { s with toks:=s.toks+1 }->wpAny (model X.prog X.w) X.A (f (.int i t) (.int j u)) Q E s) :
  OpR X f (rI0 fun i j=>.int (g i j)):=by
 intro pins s σ H x y v u Q I rx ry h;obtain⟨i,j,rfl,rfl,q⟩:=h;obtain⟨t,rfl⟩:=rx;obtain⟨t',rfl⟩:=ry;exact rule i j t t' s _ _ ⟨.int (g i j),H,I.tok _,⟨_,rfl⟩,q⟩
theorem Nx{f:Value->Value->Sem Value}{g:Int->Int->Bool}
  (rule:∀(i j:Int) (t u:Tok) (s:Shared) (Q:Value->Shared->Prop) (E:Value->Shared->Prop),Q (.bool (g i j)) s->wpAny (model X.prog X.w) X.A (f (.int i t) (.int j u)) Q E s) :
  OpR X f (rI0 fun i j=>.bl (g i j)):=by
 intro pins s σ H x y v u Q I rx ry h;obtain⟨i,j,rfl,rfl,q⟩:=h;obtain⟨t,rfl⟩:=rx;obtain⟨t',rfl⟩:=ry;exact rule i j t t' s _ _ ⟨.bl (g i j),H,I,rfl,q⟩
def Qb(i j:Int):Prop:=0<j/\j<1073741824
def Qg(i j:Int):Prop:=0<=j/\j<=1000000/\i.natAbs<2^64
def CMul(i j:Int):Prop:=(-(2^64)<i/\i<2^64)\/(-(2^64)<j/\j<2^64)
theorem CMul.ok{i j:Int}(h:CMul i j):IntMulOk i j:=by
 rcases h with⟨h1,h2⟩ | ⟨h1,h2⟩
 .exact .of_left (intBits_le_64 h1 h2)
 .exact .of_right (intBits_le_64 h1 h2)
theorem S0:OpR X (binaryOp .Add) (rI0 fun i j=>.int (i+j)):=Ph fun _ _ _ _ _ _ _ q=>add_int q
theorem Fv:OpR X (binaryOp .Sub) (rI0 fun i j=>.int (i-j)):=Ph fun _ _ _ _ _ _ _ q=>sub_int q
theorem j7:OpR X (binaryOp .Mult) (rI CMul fun i j=>.int (i*j)):=opI fun _ _ _ _ _ _ _ hc q=>mul_int q hc.ok
theorem Gi:OpR X (binaryOp .FloorDiv) (rI Qb fun i j=>.int (i / j)):=opI fun i j _ _ _ _ _ hc q=>by
 have h1:(0:Int)<j:=hc.1;have h2:j<1073741824:=hc.2;exact floordiv_int (by omega) (by rw[Int.fdiv_eq_ediv_of_nonneg i (by omega)];exact q) (.inl (PyProof.noPylong_small (by omega)))
theorem Ai:OpR X (binaryOp .Mod) (rI (fun _ j=>0<j) fun i j=>.int (i % j)):=opI fun i j _ _ _ _ _ hc q=>by
 have h1:(0:Int)<j:=hc;exact mod_int' (by omega) (by rw[Int.fmod_eq_emod_of_nonneg i (by omega)];exact q)
theorem Ld:OpR X (binaryOp .Pow) (rI Qg fun i j=>.int (i^j.toNat)):=opI fun _ _ _ _ _ _ _ hc q=>pow_int_small hc.1 hc.2.1 hc.2.2 q
theorem unI{f:Value->Sem Value}{g:Int->Int}
  (rule:∀(i:Int) (t:Tok) (s:Shared) (Q:Value->Shared->Prop) (E:Value->Shared->Prop),Q (.int (g i) s.toks) { s with toks:=s.toks+1 }->wpAny (model X.prog X.w) X.A (f (.int i t)) Q E s) :
  UnR X f (rU fun i=>.int (g i)):=by
 intro pins s σ H x v Q I rx h;obtain⟨i,rfl,q⟩:=h;obtain⟨t,rfl⟩:=rx;exact rule i t s _ _ ⟨.int (g i),H,I.tok _,⟨_,rfl⟩,q⟩
theorem Ij:UnR X (unaryOp .USub) (rU fun i=>.int (-i)):=unI fun _ _ _ _ _ q=>neg_int q
end
def Pc:V->V->Bool
 | .non,.non=>true | .non,.int _=>true | .int _,.non=>true | .non,.bl _=>true | .bl _,.non=>true | .non,.str _=>true | .str _,.non=>true
 | .int _,.int _=>true | .bl _,.bl _=>true | .str _,.str _=>true | .byt _,.byt _=>true
 | .int _,.str _=>true | .str _,.int _=>true | .bl _,.str _=>true | .str _,.bl _=>true
 | _,_=>false
def rEq:R2:=fun x y H Q=>Pc x y=true/\Q (.bl (decide (x=y))) H
def rNe:R2:=fun x y H Q=>Pc x y=true/\Q (.bl (!decide (x=y))) H
theorem Es{i j:Int}:decide (V.int i=V.int j) =(i == j):=by
 rw[DJ];simp
theorem Io{i j:Bool}:decide (V.bl i=V.bl j) =(i == j):=by
 rw[DJ];simp
theorem Fb{i j:Str}:decide (V.str i=V.str j) =(i == j):=by
 rw[DJ];simp
theorem Fl{i j:Array UInt8}:decide (V.byt i=V.byt j) =(i.toList == j.toList):=by
 rw[DJ];cases i;cases j;simp
section
variable{X:Cx}{a b c:Expr}{ta tb tc:TE}{pos:Pos}
theorem C6{pins:List (Addr×Obj)}{σ:St}{H:Hp}{s:Shared}{Q:VK}{k k':Bool}(I:Inv X pins σ H s)(q:Q (.bl k) H)(e:k=k'):EP X pins σ Q (.bool k') s:=by
 subst e;exact⟨.bl k,H,I,rfl,q⟩
theorem Af:OpR X (compareOp .Eq) rEq:=by
 intro pins s σ H x y v u Q I rx ry h;obtain⟨hs,q⟩:=h;cases x with
 | non =>
  cases rx;cases y with
  | non=>cases ry;exact PySem.EqNone.eq_none_none (C6 I q (by simp))
  | bl j=>cases ry;exact PySem.EqNone.eq_none_bool (C6 I q (by simp))
  | int j=>obtain⟨t',rfl⟩:=ry;exact PySem.EqNone.eq_none_int (C6 I q (by simp))
  | str j=>obtain⟨t',rfl⟩:=ry;exact PySem.EqNone.eq_none_str (C6 I q (by simp))
  | _=>exact absurd (show false=true from hs) AY
 | bl i =>
  cases rx;cases y with
  | non=>cases ry;exact PySem.EqNone.eq_bool_none (C6 I q (by simp))
  | bl j=>cases ry;exact eq_bool (C6 I q Io)
  | str j=>obtain⟨t',rfl⟩:=ry;exact PySem.EqMixed.eq_bool_str (C6 I q (by simp))
  | _=>exact absurd (show false=true from hs) AY
 | int i =>
  obtain⟨t,rfl⟩:=rx;cases y with
  | non=>cases ry;exact PySem.EqNone.eq_int_none (C6 I q (by simp))
  | int j=>obtain⟨t',rfl⟩:=ry;exact eq_int (C6 I q Es)
  | str j=>obtain⟨t',rfl⟩:=ry;exact PySem.EqMixed.eq_int_str (C6 I q (by simp))
  | _=>exact absurd (show false=true from hs) AY
 | str i =>
  obtain⟨t,rfl⟩:=rx;cases y with
  | non=>cases ry;exact PySem.EqNone.eq_str_none (C6 I q (by simp))
  | bl j=>cases ry;exact PySem.EqMixed.eq_str_bool (C6 I q (by simp))
  | int j=>obtain⟨t',rfl⟩:=ry;exact PySem.EqMixed.eq_str_int (C6 I q (by simp))
  | str j=>obtain⟨t',rfl⟩:=ry;exact eq_str (C6 I q Fb)
  | _=>exact absurd (show false=true from hs) AY
 | byt i =>
  obtain⟨t,rfl⟩:=rx;cases y with
  | byt j=>obtain⟨t',rfl⟩:=ry;exact PySem.W.eq_bytes (C6 I q Fl)
  | _=>exact absurd (show false=true from hs) AY
 | _=>cases y<;>exact absurd (show false=true from hs) AY
theorem Hv:OpR X (compareOp .NotEq) rNe:=by
 intro pins s σ H x y v u Q I rx ry h;obtain⟨hs,q⟩:=h;cases x with
 | non =>
  cases rx;cases y with
  | non=>cases ry;exact PySem.EqNone.ne_none_none (C6 I q (by simp))
  | bl j=>cases ry;exact PySem.EqNone.ne_none_bool (C6 I q (by simp))
  | int j=>obtain⟨t',rfl⟩:=ry;exact PySem.EqNone.ne_none_int (C6 I q (by simp))
  | str j=>obtain⟨t',rfl⟩:=ry;exact PySem.EqNone.ne_none_str (C6 I q (by simp))
  | _=>exact absurd (show false=true from hs) AY
 | bl i =>
  cases rx;cases y with
  | non=>cases ry;exact PySem.EqNone.ne_bool_none (C6 I q (by simp))
  | bl j=>cases ry;exact ne_bool (C6 I q (congrArg not Io))
  | str j=>obtain⟨t',rfl⟩:=ry;exact PySem.EqMixed.ne_bool_str (C6 I q (by simp))
  | _=>exact absurd (show false=true from hs) AY
 | int i =>
  obtain⟨t,rfl⟩:=rx;cases y with
  | non=>cases ry;exact PySem.EqNone.ne_int_none (C6 I q (by simp))
  | int j=>obtain⟨t',rfl⟩:=ry;exact ne_int (C6 I q (congrArg not Es))
  | str j=>obtain⟨t',rfl⟩:=ry;exact PySem.EqMixed.ne_int_str (C6 I q (by simp))
  | _=>exact absurd (show false=true from hs) AY
 | str i =>
  obtain⟨t,rfl⟩:=rx;cases y with
  | non=>cases ry;exact PySem.EqNone.ne_str_none (C6 I q (by simp))
  | bl j=>cases ry;exact PySem.EqMixed.ne_str_bool (C6 I q (by simp))
  | int j=>obtain⟨t',rfl⟩:=ry;exact PySem.EqMixed.ne_str_int (C6 I q (by simp))
  | str j=>obtain⟨t',rfl⟩:=ry;exact ne_str (C6 I q (congrArg not Fb))
  | _=>exact absurd (show false=true from hs) AY
 | byt i =>
  obtain⟨t,rfl⟩:=rx;cases y with
  | byt j=>obtain⟨t',rfl⟩:=ry;exact PySem.W.ne_bytes (C6 I q (congrArg not Fl))
  | _=>exact absurd (show false=true from hs) AY
 | _=>cases y<;>exact absurd (show false=true from hs) AY
theorem Om:OpR X (compareOp .Lt) (rI0 fun i j=>.bl (decide (i<j))):=Nx fun _ _ _ _ _ _ _ q=>lt_int q
theorem Hu:OpR X (compareOp .LtE) (rI0 fun i j=>.bl (decide (i<=j))):=Nx fun _ _ _ _ _ _ _ q=>le_int q
theorem Gq:OpR X (compareOp .Gt) (rI0 fun i j=>.bl (decide (j<i))):=Nx fun _ _ _ _ _ _ _ q=>gt_int q
theorem Oi:OpR X (compareOp .GtE) (rI0 fun i j=>.bl (decide (j<=i))):=Nx fun _ _ _ _ _ _ _ q=>ge_int q
theorem Fr:OpR X (compareOp .In) (fun x y H Q=>∃i j,x = .str i/\y = .str j/\Q (.bl (!(Builtin.Str.occurrences j i 0 j.length 1).isEmpty)) H):=by
 intro pins s σ H x y v u Q I rx ry h;obtain⟨i,j,rfl,rfl,q⟩:=h;obtain⟨t,rfl⟩:=rx;obtain⟨t',rfl⟩:=ry;exact in_str (C6 I q rfl)
theorem Nh:OpR X (compareOp .Is) (fun x y H Q=>y = .non/\Q (.bl (decide (x = .non))) H):=by
 intro pins s σ H x y v u Q I rx ry h;obtain⟨rfl,q⟩:=h;cases ry;refine is_none_gen (C6 I q ?_);cases x<;>first
  | (cases rx;rfl)
  | (obtain⟨t,rfl⟩:=rx;rfl)
theorem D9(b:Expr){op:CmpOp}(h:op≠ .In:=by decide)(h2:op≠ .NotIn:=by decide):behindInMarks op b=false:=by
 have e1:(op == CmpOp.In)=false:=by cases op<;>first | rfl | exact absurd rfl h
 have e2:(op == CmpOp.NotIn)=false:=by cases op<;>first | rfl | exact absurd rfl h2
 cases b<;>simp[behindInMarks,e1,e2]
theorem D7{op:CmpOp}{r:R2}(ho:OpR X (compareOp op) r)(ha:PE X a ta)(hb:PE X b tb)(hm:behindInMarks op b=false):PE X (.Compare a [op] [b] pos) (tOp r ta tb):=by
 intro pins s σ H Q I h;exact wpAny_Compare1 (Ow ha hb I h fun v u s2 x y H2 I2 rx ry q=>ho pins s2 σ H2 x y v u Q I2 rx ry q) hm
def Mu(t:TE):TT:=fun σ H Q=>t σ H fun x H'=>∃k,x = .bl k/\Q k H'
theorem E2{op:CmpOp}{r:R2}(ho:OpR X (compareOp op) r)(ha:PE X a ta)(hb:PE X b tb)(hm:behindInMarks op b=false):PT X (.Compare a [op] [b] pos) (Mu (tOp r ta tb)):=by
 intro pins s σ H Q I h;refine wpAny_isTrue_Compare1 (thn (ha pins s σ H _ I h) fun v s1 ⟨x,H1,I1,r1,q1⟩=>thn (hb pins s1 σ H1 _ I1 q1) fun u s2 ⟨y,H2,I2,r2,q2⟩ =>
  thn (ho pins s2 σ H2 x y v u _ I2 r1 r2 q2) fun c s3 ⟨z,H3,I3,r3,k,e,q3⟩=>?_) hm
 subst e;cases r3;exact BW ⟨H3,I3,q3⟩
def Ig(r r':R2)(ta tb tc:TE):TE:=fun σ H Q=>ta σ H fun x H1=>tb σ H1 fun y H2=>r x y H2 fun z H3=>∃k,z = .bl k /\
 (if k=true then tc σ H3 fun w' H4=>r' y w' H4 Q else Q (.bl false) H3)
theorem Hj{op op':CmpOp}{r r':R2}(ho:OpR X (compareOp op) r)(ho':OpR X (compareOp op') r')(ha:PE X a ta)(hb:PE X b tb)(hc:PE X c tc)
  (hm:lastMarks [op,op'] [b,c]=false:=by with_unfolding_all rfl):PE X (.Compare a [op,op'] [b,c] pos) (Ig r r' ta tb tc):=by
 intro pins s σ H Q I h;refine Compare_chain (thn (ha pins s σ H _ I h) fun v s1 ⟨x,H1,I1,r1,q1⟩=>chain_link (thn (hb pins s1 σ H1 _ I1 q1) fun u s2 ⟨y,H2,I2,r2,q2⟩ =>
  thn (ho pins s2 σ H2 x y v u _ I2 r1 r2 q2) fun d s3 ⟨z,H3,I3,r3,k,e,q3⟩=>?_)) hm
 subst e;cases r3;refine BW ?_;cases k with
 | false=>exact ite_ff ⟨.bl false,H3,I3,rfl,q3⟩
 | true=>exact ite_tt (chain_last (thn (hc pins s3 σ H3 _ I3 q3) fun w' s4 ⟨z',H4,I4,r4,q4⟩=>ho' pins s4 σ H4 y z' u w' Q I4 r2 r4 q4))
theorem Ha{op op':CmpOp}{r r':R2}(ho:OpR X (compareOp op) r)(ho':OpR X (compareOp op') r')(ha:PE X a ta)(hb:PE X b tb)(hc:PE X c tc)
  (hm:lastMarks [op,op'] [b,c]=false:=by with_unfolding_all rfl):PT X (.Compare a [op,op'] [b,c] pos) (Mu (Ig r r' ta tb tc)):=by
 intro pins s σ H Q I h;refine isTrue_chain (thn (ha pins s σ H _ I h) fun v s1 ⟨x,H1,I1,r1,q1⟩=>test_link (thn (hb pins s1 σ H1 _ I1 q1) fun u s2 ⟨y,H2,I2,r2,q2⟩ =>
  thn (ho pins s2 σ H2 x y v u _ I2 r1 r2 q2) fun d s3 ⟨z,H3,I3,r3,k,e,q3⟩=>?_)) hm
 subst e;cases r3;refine BW ?_;cases k with
 | false =>
  obtain⟨k',e',q'⟩:=q3;cases e';exact ite_ff ⟨H3,I3,q'⟩
 | true =>
  refine ite_tt (test_last (thn (hc pins s3 σ H3 _ I3 q3) fun w' s4 ⟨z',H4,I4,r4,q4⟩=>thn (ho' pins s4 σ H4 y z' u w' _ I4 r2 r4 q4) fun d' s5 ⟨z2,H5,I5,r5,k2,e2,q5⟩=>?_));subst e2;cases r5;exact BW ⟨H5,I5,q5⟩
theorem i4:(sizeLine:Nat)<2^63:=by rw[sizeLine_eq];decide
theorem g0{x:V}{us:List Value}(r:Vals [x] us):∃u,us = [u]/\RelV x u:=by
 cases r with
 | cons r1 r2=>cases r2;exact⟨_,rfl,r1⟩
theorem Nb{x y:V}{us:List Value}(r:Vals [x,y] us):∃u w',us = [u,w']/\RelV x u/\RelV y w':=by
 cases r with
 | cons r1 r2 =>
  cases r2 with
  | cons r3 r4=>cases r4;exact⟨_,_,rfl,r1,r3⟩
theorem Ck:J0 X (.builtin "abs") (fun xs H Q=>∃i,xs = [.int i]/\Q (.int (if i<0 then -i else i)) H):=by
 intro pins s σ H xs us Q I r h;obtain⟨i,rfl,q⟩:=h;obtain⟨u,rfl,t,rfl⟩:=g0 r;exact call_abs_int fun u tk=>⟨.int (if i<0 then -i else i),H,I.tok _,⟨_,rfl⟩,q⟩
theorem Gg(hc:X.calm=true):J0 X (.builtin "max") (fun xs H Q=>∃i j,xs = [.int i,.int j]/\Q (.int (if j>i then j else i)) H):=by
 intro pins s σ H xs us Q I r h;obtain⟨i,j,rfl,q⟩:=h;obtain⟨u,w',rfl,⟨t,rfl⟩,⟨t',rfl⟩⟩:=Nb r;refine max_two_ints (I.ok.hd hc) fun h' tk k=>⟨_,H,I.kept k,?_,q⟩;by_cases hj:j>i
 .rw[BI hj,BI hj];exact⟨_,rfl⟩
 .rw[BF hj,BF hj];exact⟨_,rfl⟩
theorem Fo(hc:X.calm=true):J0 X (.builtin "min") (fun xs H Q=>∃i j,xs = [.int i,.int j]/\Q (.int (if j<i then j else i)) H):=by
 intro pins s σ H xs us Q I r h;obtain⟨i,j,rfl,q⟩:=h;obtain⟨u,w',rfl,⟨t,rfl⟩,⟨t',rfl⟩⟩:=Nb r;refine min_two_ints (I.ok.hd hc) fun h' tk k=>⟨_,H,I.kept k,?_,q⟩;by_cases hj:j<i
 .rw[BI hj,BI hj];exact⟨_,rfl⟩
 .rw[BF hj,BF hj];exact⟨_,rfl⟩
theorem Ey:J0 X (.type "int") (fun xs H Q=>(∃i,xs = [.int i]/\Q (.int i) H)\/∃k,xs = [.bl k]/\Q (.int (if k then 1 else 0)) H):=by
 intro pins s σ H xs us Q I r h;rcases h with⟨i,rfl,q⟩ | ⟨k,rfl,q⟩
 .obtain⟨u,rfl,t,rfl⟩:=g0 r;exact call_int_int ⟨.int i,H,I,⟨_,rfl⟩,q⟩
 .obtain⟨u,rfl,r1⟩:=g0 r;cases r1;exact call_int_bool ⟨.int (if k then 1 else 0),H,I.tok _,⟨_,rfl⟩,q⟩
end
structure ObjM(h:Heap)(x dx C:Addr)(mA:Str->Option Value):Prop where
 obj:h.get? x=some (PySem.W.instObj C dx)
 ns:h.Ns1 dx mA
 ne:dx≠x
theorem Fm{h:Heap}{dx:Addr}{mA:Str->Option Value}(n:h.Ns1 dx mA):∃od,h.get? dx=some od/\∀name,PySem.W.lookIn name od=some (mA name):=by
 obtain⟨o,es,ep,ho,hd,hk,_,hm⟩:=n;refine⟨o,ho,fun name=>?_⟩;have e:=hm name;unfold nsFind findBy at e;rw[<-Array.find?_toList]at e;unfold PySem.W.lookIn;rw[hd];dsimp only;split
 .rename_i y q;rw[q]at e;exact congrArg some e
 .rename_i q;rw[q]at e;have a:es.toList.any (·.refKey)=false:=by
   rw[List.any_eq_false];intro y hy;obtain⟨z,t,hkey⟩:=hk y (Array.mem_toList_iff.mp hy);simp[DictEntry.refKey,hkey]
  have a':¬es.toList.any (·.refKey)=true:=by rw[a];exact AY
  rw[BF a'];exact congrArg some e
theorem ObjM.look{h:Heap}{x dx C:Addr}{mA:Str->Option Value}(I:ObjM h x dx C mA):∃od,PySem.W.InstAt h x (PySem.W.instObj C dx) C (some od)/\∀name,PySem.W.lookIn name od=some (mA name) :=
 let⟨od,ho,hl⟩:=Fm I.ns
 ⟨od,⟨I.obj,rfl,rfl,ho⟩,hl⟩
section
variable{prog:Program}{w:World}{A:Around}{E:Value->Shared->Prop}{s:Shared}{K:PySem.W.Frag}{x dx C f:Addr}{mA:Str->Option Value}{name:Str}{v:Value}
theorem Jq{expr:Bool}{Q:Value->Shared->Prop}(X:K.In s.heap)(I:ObjM s.heap x dx C mA)(hg:PySem.W.plainGet K C name=true)(hh:PySem.W.hasDictIn K C=true)
  (ha:PySem.W.findIn K (.ref C) name=some none) (hv:mA name=some v) (hv':PySem.W.handedIn v=true) (h:Q v { s with toks:=s.toks+1 }) :
  wpAny (model prog w) A (getAttr (.ref x) name expr) Q E s:=by
 obtain⟨od,J,hl⟩:=I.look;exact PySem.W.get_value X J (PySem.W.plainGet_of hg).1 (PySem.W.findObj_own hh ha rfl (by rw[hl,hv])) hv' h
theorem Kc{ns:List Str}{Q:Unit->Shared->Prop}(X:K.In s.heap)(I:ObjM s.heap x dx C mA)
  (hs:PySem.W.findIn K (.ref C) "__setattr__" = some (some (.builtin "object.__setattr__"))) (hp:PySem.W.plainOver K C=true) (ht:PySem.W.takerIn K C name=some none) (hh:PySem.W.hasDictIn K C=true)
  (hw:PySem.Within mA ns) (hsz:ns.length<=sizeLine)
  (h:∀h',ObjM h' x dx C (fun y=>if y=name then some v else mA y)->Heap.SameBut dx s.heap h'->Q () { s with heap:=h',toks:=s.toks+2 }) :
  wpAny (model prog w) A (setAttr (.ref x) name v) Q E s:=by
 obtain⟨od,J,hl⟩:=I.look;refine PySem.W.set_plain X J hs (PySem.W.osa_open (s:={ s with toks:=s.toks+1 }) (r:=none) X J hp ht fun b=>?_);obtain⟨cd,hc,hd'⟩:=PySem.W.any_some hh;have hx:s.heap.get? x=some ⟨.ref C,some dx,.plain,#[]⟩:=I.obj;refine AB (AE (AB (AB (wpAny_loadPart hx (AB (PySem.W.Looks.here (s:={ s with toks:=s.toks+1 }) (PySem.W.looks_clsIn X hc) ?_))))));rw[hd'];refine AE (a:=some dx) (AB (AE (AB ?_)));refine wpAny_nsSet1 (s:={ s with toks:=s.toks+1 }) I.ns fun h' hn2 hs2=>?_;obtain⟨oD,esD,epD,hoD,hdD,hcD⟩:=hn2.count (PySem.Within.cons name v hw);refine AB (wpAny_lookBehind hoD (by rw[hdD];exact pastItsLine_dict (BO hcD (by rw[BM];omega))) ?_);exact AE (h _ ⟨(hs2.2 _ (Ne.symm I.ne)).trans I.obj,hn2,I.ne⟩ hs2)
theorem Gy{R:Result->Shared->Prop}{vs:List Value}{kw:List (Str×Value)}(X:K.In s.heap)(hm:PySem.W.makesIn K C=true)
  (hi:PySem.W.findIn K (.ref C) "__init__" = some (some (.ref f))) (hf:PySem.W.typeIn K (.ref f)=some (.type "function"))
  (h:codeAny (model prog w) (A.under (.builtin "type.__call__" ⟨.ref C::vs,kw⟩)) (.call (.ref f) ⟨.ref (s.heap.objs.size+1)::vs,kw⟩) (PySem.W.InitBack (s.heap.objs.size+1) R)
   { s with heap:=(s.heap.push PySem.W.emptyDict).push (PySem.W.instObj C s.heap.objs.size) }) :
  codeAny (model prog w) A (.call (.ref C) ⟨vs,kw⟩) R s:=by
 obtain⟨hh,g,d,t,os⟩:=s;exact PySem.W.make_core (PySem.W.makes_of X hm) (PySem.W.looks_findIn X hi) (fun self=>PySem.W.bind_fn X self hf) (.inl rfl) h
end
def O5(f:Str)(v:V):List (Str×V)->List (Str×V)
 | []=>[(f,v)]
 | (g,x)::r=>if g=f then(g,v)::r else(g,x)::O5 f v r
theorem Z9(f g:Str)(v:V):∀fs:List (Str×V),(O5 f v fs).lookup g=if g=f then some v else fs.lookup g
 | []=>by
  show List.lookup g [(f,v)]=_;by_cases h:g=f
  .have hb:(g == f)=true:=beq_iff_eq.mpr h;simp only[List.lookup,hb,BI h]
  .have hb:(g == f)=false:=beq_eq_false_iff_ne.mpr h;simp only[List.lookup,hb,BF h]
 | (k,x)::r=>by
  have ih:=Z9 f g v r;rw[show O5 f v ((k,x)::r) =(if k=f then(k,v)::r else(k,x)::O5 f v r)from rfl];by_cases hk:k=f
  .rw[BI hk];by_cases h:g=k
   .have hb:(g == k)=true:=beq_iff_eq.mpr h;simp only[List.lookup,hb,BI (h.trans hk)]
   .have hb:(g == k)=false:=beq_eq_false_iff_ne.mpr h;simp only[List.lookup,hb,BF (fun e:g=f=>h (e.trans hk.symm))]
  .rw[BF hk];by_cases h:g=k
   .have hb:(g == k)=true:=beq_iff_eq.mpr h;simp only[List.lookup,hb,BF (fun e:g=f=>hk (h.symm.trans e))]
   .have hb:(g == k)=false:=beq_eq_false_iff_ne.mpr h;simp only[List.lookup,hb];exact ih
theorem b8(f:Str)(v:V):∀fs:List (Str×V),f∈(O5 f v fs).map (·.1)/\∀g,g∈fs.map (·.1)->g∈(O5 f v fs).map (·.1)
 | []=>⟨by simp[O5],fun g h=>by simp at h⟩
 | (k,x)::r=>by
  obtain⟨i1,i2⟩:=b8 f v r;rw[show O5 f v ((k,x)::r) =(if k=f then(k,v)::r else(k,x)::O5 f v r)from rfl];by_cases hk:k=f
  .rw[BI hk];subst hk;exact⟨by simp,fun g h=>by simpa using h⟩
  .rw[BF hk];refine⟨?_,fun g h=>?_⟩
   .rw[BR];exact AW _ i1
   .rw[BR]at h⊢;rcases AJ.mp h with e | e
    .exact AJ.mpr (.inl e)
    .exact AW _ (i2 g e)
theorem Z8(f:Str)(v:V):∀fs:List (Str×V),(O5 f v fs).length<=fs.length+1
 | []=>by simp[O5]
 | (k,x)::r=>by
  have ih:=Z8 f v r;rw[show O5 f v ((k,x)::r) =(if k=f then(k,v)::r else(k,x)::O5 f v r)from rfl];by_cases hk:k=f
  .rw[BI hk,BM,BM];omega
  .rw[BF hk,BM,BM];omega
theorem RelO.some_of{v:V}{o:Option Value}(r:RelO (some v) o):∃u,o=some u/\RelV v u:=by
 cases o with
 | none=>exact(show False from r).elim
 | some u=>exact⟨u,rfl,r⟩
theorem Eo{v:V}{u:Value}(r:RelV v u):PySem.W.handedIn u=true:=by
 cases v with
 | non=>cases(show u=Value.none from r);rfl
 | bl b=>cases(show u=Value.bool b from r);rfl
 | int i=>obtain⟨t,e⟩:=(show ∃t,u=Value.int i t from r);cases e;rfl
 | str x=>obtain⟨t,e⟩:=(show ∃t,u=Value.str x t from r);cases e;rfl
 | byt b=>obtain⟨t,e⟩:=(show ∃t,u=Value.bytes b t from r);cases e;rfl
 | flt b=>obtain⟨t,e⟩:=(show ∃t,u=Value.float b t from r);cases e;rfl
 | ref a=>cases(show u=Value.ref a from r);rfl
 | ty n=>cases(show u=Value.type n from r);rfl
section
variable{P:Program}{w:World}{H H':Hp}{h h':Heap}{a C dx:Addr}{fs fs':List (Str×V)}
theorem Bh(hok:HOk P w H h)(e:H a=some (.ins C dx fs)):∃mA,ObjM h a dx C mA/\(∀f,RelO (fs.lookup f) (mA f))/\PySem.Within mA (fs.map (·.1))/\fs.length<=1000/\H dx=some (.own a):=by
 obtain⟨d,z,ne,ob,mA,n,r,q⟩:=(show ObjOk P w H h a (.ins C dx fs)from hok a _ e);exact⟨mA,⟨ob,n,ne⟩,r,q,z,d⟩
end
structure Cls(K:PySem.W.Frag)(C:Addr):Prop where
 pg:PySem.W.plainGet K C Str.empty=true
 hd:PySem.W.hasDictIn K C=true
 po:PySem.W.plainOver K C=true
 sa:PySem.W.findIn K (.ref C) "__setattr__" = some (some (.builtin "object.__setattr__"))
theorem Cls.get{K:PySem.W.Frag}{C:Addr}(c:Cls K C)(f:Str):PySem.W.plainGet K C f=true:=c.pg
def NoAttr(K:PySem.W.Frag)(C:Addr)(f:Str):Prop:=PySem.W.findIn K (.ref C) f=some none
theorem NoAttr.taker{K:PySem.W.Frag}{C:Addr}{f:Str}(n:NoAttr K C f):PySem.W.takerIn K C f=some none:=by
 unfold PySem.W.takerIn;rw[show PySem.W.findIn K (.ref C) f=some none from n];rfl
section
variable{X:Cx}{pins:List (Addr×Obj)}{σ:St}{H:Hp}{s:Shared}{a C dx:Addr}{fs:List (Str×V)}{f:Str}{v:V}{A:Around}{E:Value->Shared->Prop}
theorem Dc{b:Bool}{Q:Value->Shared->Prop}(I:Inv X pins σ H s)(e:H a=some (.ins C dx fs))(c:Cls X.K C)(n:NoAttr X.K C f)(l:fs.lookup f=some v)
  (h:∀u s',Inv X pins σ H s'->RelV v u->Q u s'):wpAny (model X.prog X.w) A (getAttr (.ref a) f b) Q E s:=by
 obtain⟨mA,O,r,_,_,_⟩:=Bh I.hok e;obtain⟨u,hu,ru⟩:=RelO.some_of (v:=v) (o:=mA f) (by rw[<-l];exact r f);exact Jq I.kIn O (c.get f) c.hd n hu (Eo ru) (h u _ (I.tok _) ru)
theorem Ct{y:V}{u:Value}{Q:Unit->Shared->Prop}(I:Inv X pins σ H s)(e:H a=some (.ins C dx fs))(c:Cls X.K C)(n:NoAttr X.K C f)(hl:fs.length<1000)(ry:RelV y u)
  (h:∀s',Inv X pins σ (upd H a (.ins C dx (O5 f y fs))) s'->Q () s'):wpAny (model X.prog X.w) A (setAttr (.ref a) f u) Q E s:=by
 obtain⟨mA,O,r,wi,_,ho⟩:=Bh I.hok e;have hz:(fs.map (·.1)).length<=sizeLine:=by rw[AA,sizeLine_eq];omega
 refine Kc I.kIn O c.sa c.po n.taker c.hd wi hz fun h' O' sb=>h _ ?_;have hd:∃o,h'.get? dx=some o:=let⟨o,_,_,e',_⟩:=O'.ns;⟨o,e'⟩;refine I.write (x:=a) (e:=dx) (by rw[e];exact True.intro) (.inr ho) (fun b q hb z=>(sb.2 b hb).trans z) hd ?_;refine⟨by rw[B4 O.ne];exact ho,?_,O.ne,O'.obj,_,O'.ns,fun g=>?_,fun g hg=>?_⟩
 .have:=Z8 f y fs;omega
 .show RelO ((O5 f y fs).lookup g) (if g=f then some u else mA g);rw[Z9];by_cases q:g=f
  .rw[BI q,BI q];exact ry
  .rw[BF q,BF q];exact r g
 .by_cases q:g=f
  .rw[q];exact(b8 f y fs).1
  .refine(b8 f y fs).2 g (wi g fun z=>hg ?_);show(if g=f then some u else mA g)=none;rw[BF q];exact z
theorem Inv.made(I:Inv X pins σ H s):Inv X pins σ (upd (upd H s.heap.objs.size (.own (s.heap.objs.size+1))) (s.heap.objs.size+1) (.ins C s.heap.objs.size []))
  { s with heap:=(s.heap.push PySem.W.emptyDict).push (PySem.W.instObj C s.heap.objs.size) }:=by
 have e1:(s.heap.push PySem.W.emptyDict).get? s.heap.objs.size=some PySem.W.emptyDict:=AO s.heap rfl;have e2:((s.heap.push PySem.W.emptyDict).push (PySem.W.instObj C s.heap.objs.size)).get? (s.heap.objs.size+1)=some (PySem.W.instObj C s.heap.objs.size):=by
  have:=AO (s.heap.push PySem.W.emptyDict) (o:=PySem.W.instObj C s.heap.objs.size) rfl
  rwa [BX]at this
 have e3:(s.heap.push PySem.W.emptyDict).Ns s.heap.objs.size (fun _=>none):=⟨PySem.W.emptyDict,#[],_,e1,rfl,(fun e he=>absurd he (by simp)),fun _=>rfl⟩;have I1:=I.laid (a:=s.heap.objs.size) (o:=.own (s.heap.objs.size+1)) (h':=s.heap.push PySem.W.emptyDict) (t':=s.toks) (fun b u q=>AD _ q) (AG _) ⟨_,e1⟩;refine I1.laid (a:=s.heap.objs.size+1) (o:=.ins C s.heap.objs.size []) (t':=s.toks) (fun b u q=>AD _ q) (Nat.le_of_eq (BX _ _)) ?_;have ne:s.heap.objs.size≠s.heap.objs.size+1:=AS (DV _);refine⟨by rw[B4 ne,A7],BU _,ne,e2,fun _=>none,(Heap.Ns1.of_empty e3).at fun o q=>AD _ q,fun _=>True.intro,fun y hy=>absurd rfl hy⟩
theorem Jp{prog:Program}{w:World}{env:Env}{e:Expr}{f:Str}{pos:Pos}{s:Shared}{Q:Value->Shared->Prop}(hb:attributeBase e f env (eval e env)=eval e env)
  (h:wpAny (model prog w) A (eval e env) (fun o s₁=>wpAny (model prog w) A (getAttr o f true) Q E s₁) E s):wpAny (model prog w) A (eval (.Attribute e f pos) env) Q E s :=
 Attribute_any_ h (by rw[arm_eval_Attribute,hb])
end
def Pm(K:PySem.W.Frag)(ta:TE)(f:Str):TE:=fun σ H Q=>ta σ H fun x H1=>∃a C dx fs v,x = .ref a/\H1 a=some (.ins C dx fs)/\Cls K C/\NoAttr K C f/\fs.lookup f=some v/\Q v H1
def Nu(K:PySem.W.Frag)(ta tv:TE)(f:Str):TS:=fun D σ H=>tv σ H fun y H1=>ta σ H1 fun x H2=>∃a C dx fs,x = .ref a/\H2 a=some (.ins C dx fs)/\Cls K C/\NoAttr K C f/\fs.length<1000 /\
 D.nx σ (upd H2 a (.ins C dx (O5 f y fs)))
section
variable{X:Cx}{o e value:Expr}{f:Str}{pos pos' tpos:Pos}{ta tv:TE}
theorem Nf(he:PE X e ta)(hb:attributeBase e f X.env (eval e X.env)=eval e X.env):PE X (.Attribute e f pos) (Pm X.K ta f):=by
 intro pins s σ H Q I h;refine Jp hb (thn (he pins s σ H _ I h) fun u s1 ⟨x,H1,I1,rx,a,C,dx,fs,v,ex,ea,c,n,l,q⟩=>?_);subst ex;obtain rfl:u=Value.ref a:=rx;exact Dc I1 ea c n l fun u' s2 I2 ru=>⟨v,H1,I2,ru,q⟩
theorem Mb(ha:PE X o ta)(hv:PE X value tv)(hs:swapsWith value (some (.Attribute o f pos')) pos.line X.env=pure false):PS X (.Assign [.Attribute o f pos'] value pos) (Nu X.K ta tv f):=by
 intro pins s σ H D I h;refine plainObj_wpAny_Assign_Attribute (thn (hv pins s σ H _ I h) fun u s1 ⟨y,H1,I1,ry,q⟩=>thn (ha pins s1 σ H1 _ I1 q) fun ov s2 ⟨x,H2,I2,rx,a,C,dx,fs,ex,ea,c,n,l,q2⟩=>?_) hs;subst ex;obtain rfl:ov=Value.ref a:=rx;exact Ct I2 ea c n l ry fun s3 I3=>⟨σ,_,I3,q2⟩
end
section
variable{X:Cx}{pins:List (Addr×Obj)}{σ:St}{H:Hp}{s:Shared}{A:Around}{E:Value->Shared->Prop}{Q:Value->Shared->Prop}{c:Value}{b:Bool}
inductive TyOf(K:PySem.W.Frag)(H:Hp):V->Value->Prop where
 | non:TyOf K H .non (.type "NoneType")
 | bl (x:Bool):TyOf K H (.bl x) (.type "bool")
 | int (i:Int):TyOf K H (.int i) (.type "int")
 | str (x:Str):TyOf K H (.str x) (.type "str")
 | flt (x:UInt64):TyOf K H (.flt x) (.type "float")
 | lst {a:Addr} {xs:List V} (e:H a=some (.lst xs)):TyOf K H (.ref a) (.type "list")
 | frz {a:Addr} {o:Obj} {xs:List V} (e:H a=some (.frz o (.lst xs))):TyOf K H (.ref a) (.type "list")
 | tup {a:Addr} {xs:List V} (e:H a=some (.tup xs)):TyOf K H (.ref a) (.type "tuple")
 | dK {a:Addr} {kvs:List (Key×V)} (e:H a=some (.dK kvs)):TyOf K H (.ref a) (.type "dict")
 | dT {a:Addr} {kvs:List (List Key×V)} (e:H a=some (.dT kvs)):TyOf K H (.ref a) (.type "dict")
 | ins {a C dx:Addr} {fs:List (Str×V)} (e:H a=some (.ins C dx fs)) (cl:Cls K C) (ha:PySem.W.findIn K (.ref C) "__class__" = some (some (.builtin "object.__class__")))
   (hn:PySem.W.specialIn K (.builtin "object.__class__") "__get__" = some (some (.builtin "getset_descriptor.__get__"))) (htk:PySem.W.takesIn K (.builtin "object.__class__")=some true)
   (hm:PySem.W.mroIn K C (.type "object")=some true):TyOf K H (.ref a) (.ref C)
theorem Dz{x:V}{u t:Value}(I:Inv X pins σ H s)(rx:RelV x u)(ty:TyOf X.K H x t)(e:PySem.W.kitOne X.K t c=some b)(h:∀tk,Q (.bool b) { s with toks:=tk }) :
  wpAny (model X.prog X.w) A (call (.builtin "isinstance") [u,c]) Q E s:=by
 cases ty with
 | non=>cases(show u=Value.none from rx);exact PySem.W.kia_one PySem.W.kitx_none I.kIn True.intro e (fun z=>nomatch z) h
 | bl y=>cases(show u=Value.bool y from rx);exact PySem.W.kia_one PySem.W.kitx_bool I.kIn True.intro e (fun z=>nomatch z) h
 | int i=>obtain⟨t,q⟩:=(show ∃t,u=Value.int i t from rx);cases q;exact PySem.W.kia_one PySem.W.kitx_int I.kIn True.intro e (fun z=>nomatch z) h
 | str y=>obtain⟨t,q⟩:=(show ∃t,u=Value.str y t from rx);cases q;exact PySem.W.kia_one PySem.W.kitx_str I.kIn True.intro e (fun z=>nomatch z) h
 | flt y=>obtain⟨t,q⟩:=(show ∃t,u=Value.float y t from rx);cases q;exact PySem.W.kia_one PySem.W.kitx_float I.kIn True.intro e (fun z=>nomatch z) h
 | @lst a xs ea =>
  cases(show u=Value.ref a from rx);obtain⟨_,_,n,_,h1⟩:=(show ObjOk X.prog X.w H s.heap a (.lst xs)from I.hok a _ ea);exact PySem.W.kia_one PySem.W.kitx_list I.kIn ⟨_,h1,rfl⟩ e (fun z=>nomatch z) h
 | @frz a ob xs ea =>
  cases(show u=Value.ref a from rx);obtain⟨_,_,_,n,_,h1⟩:=(show ObjOk X.prog X.w H s.heap a (.frz ob (.lst xs))from I.hok a _ ea);exact PySem.W.kia_one PySem.W.kitx_list I.kIn ⟨_,h1,rfl⟩ e (fun z=>nomatch z) h
 | @tup a xs ea =>
  cases(show u=Value.ref a from rx);obtain⟨_,_,_,p⟩:=(show ObjOk X.prog X.w H s.heap a (.tup xs)from I.hok a _ ea);obtain⟨o,h1,h2,_⟩:=p;exact PySem.W.kia_one PySem.W.kitx_tuple I.kIn ⟨o,h1,h2⟩ e (fun z=>nomatch z) h
 | @dK a kvs ea =>
  cases(show u=Value.ref a from rx);obtain⟨_,_,vs,_,p⟩:=(show ObjOk X.prog X.w H s.heap a (.dK kvs)from I.hok a _ ea);obtain⟨o,es,ep,h1,h2,_⟩:=p;exact PySem.W.kia_one PySem.W.kitx_dict I.kIn ⟨o,h1,h2.1⟩ e (fun z=>nomatch z) h
 | @dT a kvs ea =>
  cases(show u=Value.ref a from rx);obtain⟨_,_,xs,_,o,es,ep,h1,h2,_⟩:=(show ObjOk X.prog X.w H s.heap a (.dT kvs)from I.hok a _ ea);exact PySem.W.kia_one PySem.W.kitx_dict I.kIn ⟨o,h1,h2.1⟩ e (fun z=>nomatch z) h
 | @ins a C dx fs ea cl ha hn htk hm =>
  cases(show u=Value.ref a from rx);obtain⟨mA,O,_⟩:=Bh I.hok ea;obtain⟨od,J,_⟩:=O.look;exact PySem.W.kia_one (PySem.W.kitx_own (cl.get _) cl.hd ha hn htk hm) I.kIn J e (fun z=>nomatch z) h
end
structure Room(k:Nat)(A:Around):Prop where
 hd:A.handled=none
 dp:A.depth+3*k+5<recursionLimit
 un:A.units+16*k+200<cLine
theorem Room.mono{j k:Nat}{A:Around}(r:Room k A)(h:j<=k):Room j A:=⟨r.hd,by have:=r.dp;omega,by have:=r.un;omega⟩
theorem Room.deeper{k:Nat}{A:Around}(r:Room (k+1) A)(env:Env):Room k (A.deeper env) :=
 ⟨r.hd,by have:=r.dp;show A.depth+1+3*k+5<_;omega,by have:=r.un;show A.units+3+16*k+200<_;omega⟩
theorem Do{A:Around}{C:Addr}{us:List Value}{kw:List (Str×Value)}:(A.under (.builtin "type.__call__" ⟨.ref C::us,kw⟩)).depth=A.depth+1:=by
 first | rfl | simp[Around.under,Code.weight,Code.isCreation,Code.isGuard,Code.isCaller,Code.frames,Code.isFrame,guardIds]
theorem Dt{A:Around}{C:Addr}{us:List Value}{kw:List (Str×Value)}:(A.under (.builtin "type.__call__" ⟨.ref C::us,kw⟩)).units=A.units+1:=by
 first | rfl | simp[Around.under,Code.cUnits,Code.frames,Code.isFrame]
theorem Room.make{k:Nat}{A:Around}(r:Room (k+1) A)(C:Addr)(us:List Value)(kw:List (Str×Value)):Room k (A.under (.builtin "type.__call__" ⟨.ref C::us,kw⟩)) :=
 ⟨r.hd,by have:=r.dp;rw[Do];omega,by have:=r.un;rw[Dt];omega⟩
theorem Room.depth{k:Nat}{A:Around}(r:Room k A):A.depth<recursionLimit:=by have:=r.dp;omega
theorem Room.units{k:Nat}{A:Around}(r:Room k A):A.units+64<cLine:=by have:=r.un;omega
def Ny:TA:=fun _ H Q=>Q [] H
def Fe(ta:TE)(tr:TA):TA:=fun σ H Q=>ta σ H fun x H1=>tr σ H1 fun xs H2=>Q (x::xs) H2
section
variable{X:Cx}{e:Expr}{es:List Expr}{te:TE}{t:TA}{pos:Pos}
theorem A8:PA X [] Ny:=fun _ _ _ _ H Q I h=>Calls.spliced_nil ⟨[],H,I,.nil,h⟩
theorem A6(ha:PE X e te)(hr:PA X es t)(hs:starEach (e::es) X.env =(false,eval e X.env)::starEach es X.env:=by rfl):PA X (e::es) (Fe te t):=by
 intro pos pins s σ H Q I h;rw[hs];show wpAny _ _ (spliced ((false,eval e X.env)::backTo pos (starEach es X.env))) _ _ s;refine Calls.spliced_cons (thn (ha pins s σ H _ I h) fun u s1 ⟨x,H1,I1,r1,q1⟩=>?_);exact thn (hr pos pins s1 σ H1 _ I1 q1) fun us s2 ⟨xs,H2,I2,r2,q2⟩=>⟨x::xs,H2,I2,.cons r1 r2,q2⟩
def Qh(t:TA):TE:=fun σ H Q=>t σ H fun xs H1=>xs.length<=sizeLine/\∀p,H1 p=none->Q (.ref p) (upd H1 p (.tup xs))
def Px(t:TA):TE:=fun σ H Q=>t σ H fun xs H1=>xs.length<=sizeLine/\∀p,H1 p=none->Q (.ref p) (upd H1 p (.lst xs))
theorem J4{x1}(h:PA X es t):PE X (.Tuple es x1 pos) (Qh t):=by
 intro pins s σ H Q I hq;refine wpAny_Tuple_spliced (thn (h pos pins s σ H _ I hq) fun us s1 ⟨xs,H1,I1,r,z,q⟩=>⟨by rw[<-r.length];exact z,?_⟩);have hf:H1 s1.heap.objs.size=none:=I1.hok.fresh (AG _);refine⟨.ref s1.heap.objs.size,upd H1 s1.heap.objs.size (.tup xs),I1.laid (t':=s1.toks) (fun b u e=>AD _ e) (AG _) ?_,rfl,q _ hf⟩;exact⟨z,us,r,⟨_,AO _ rfl,rfl,_,rfl⟩⟩
theorem D8(h:PA X es t):PE X (.List es pos) (Px t):=by
 intro pins s σ H Q I hq;refine wpAny_List_spliced (thn (h pos pins s σ H _ I hq) fun us s1 ⟨xs,H1,I1,r,z,q⟩=>⟨by rw[<-r.length];exact z,?_⟩);have hf:H1 s1.heap.objs.size=none:=I1.hok.fresh (AG _);refine⟨.ref s1.heap.objs.size,upd H1 s1.heap.objs.size (.lst xs),I1.laid (t':=s1.toks) (fun b u e=>AD _ e) (AG _) ?_,rfl,q _ hf⟩;exact⟨z,us,0,r,AO _ rfl⟩
end
abbrev Sp:=List V->Hp->VK->XK->Prop
abbrev CXT:=List Env->Hp->Shared->XK->Value->Shared->Prop
structure Env0(P:Program)(w:World)(K:PySem.W.Frag)(mg:Str->Option Value)(base:Heap)(A:Around)(outer:List Env)(s:Shared)(H:Hp):Prop where
 frames:A.frames=some outer
 mod:Mod K mg base
 bs:∀b o,base.get? b=some o->s.heap.get? b=some o/\H b=none
 bsz:base.objs.size<=s.heap.objs.size
 funs:s.heap.FunFrames base outer
 frf:∀b∈frs outer,H b=none
 hok:HOk P w H s.heap
 bare:AllBare s.gens
def CE(outer:List Env)(P:Program)(w:World)(H:Hp)(s:Shared)(Q:VK)(u:Value)(s':Shared):Prop :=
 ∃v H',s'.os=s.os/\AllBare s'.gens/\Un (frs outer) [] H H' s.heap s'.heap/\HOk P w H' s'.heap/\RelV v u/\Q v H'
def CR(CX:CXT)(outer:List Env)(P:Program)(w:World)(H:Hp)(s:Shared)(Q:VK)(E:XK)(r:Result)(s':Shared):Prop :=
 match r with
 | .ok (.ret u)=>CE outer P w H s Q u s'
 | .ok _=>False
 | .error e=>CX outer H s E e s'
structure FnOk(P:Program)(w:World)(K:PySem.W.Frag)(mg:Str->Option Value)(base:Heap)(CX:CXT)(k:Nat)(f:Addr)(fd:FuncData)(ps:List Str)(sp:Sp):Prop where
 len:∀vs H Q E,sp vs H Q E->vs.length=ps.length
 run:∀(A:Around) (outer:List Env) (s:Shared) (H:Hp) (args:Args) (us:List Value) (vs:List V) (Q:VK) (E:XK),Room k A->Env0 P w K mg base A outer s H->BindsTo s fd args (ps.zip us)->Vals vs us->sp vs H Q E ->
  codeAny (model P w) A (.call (.ref f) args) (CR CX outer P w H s Q E) s
theorem FnOk.mono{P:Program}{w:World}{K:PySem.W.Frag}{mg:Str->Option Value}{base:Heap}{CX:CXT}{j k:Nat}{f:Addr}{fd:FuncData}{ps:List Str}{sp:Sp}(F:FnOk P w K mg base CX j f fd ps sp)(h:j<=k) :
  FnOk P w K mg base CX k f fd ps sp:=⟨F.len,fun A outer s H args us vs Q E hr=>F.run A outer s H args us vs Q E (hr.mono h)⟩
theorem Env0.make{P:Program}{w:World}{K:PySem.W.Frag}{mg:Str->Option Value}{base:Heap}{A:Around}{outer:List Env}{s:Shared}{H:Hp}(e:Env0 P w K mg base A outer s H)(C:Addr)(us:List Value)(kw:List (Str×Value)) :
  Env0 P w K mg base (A.under (.builtin "type.__call__" ⟨.ref C::us,kw⟩)) outer s H:=⟨by first | exact e.frames | (simpa [Around.under,Code.envs,Code.isFrame,pushEnvs] using e.frames),e.mod,e.bs,e.bsz,e.funs,e.frf,e.hok,e.bare⟩
section
variable{X:Cx}{pins:List (Addr×Obj)}{σ:St}{H:Hp}{s s':Shared}
theorem Inv.env0(I:Inv X pins σ H s):Env0 X.prog X.w X.K X.mg X.base X.A X.stack s H :=
 ⟨I.ok.frames,I.ok.mod,I.bs,BO I.ok.bsz I.sz,I.stack,I.stkFree,I.hok,I.bare⟩
theorem Inv.after{Q:VK}{u:Value}(I:Inv X pins σ H s)(h:CE X.stack X.prog X.w H s Q u s'):EP X pins σ Q u s':=by
 obtain⟨v,H',os,bare,un,hok,r,q⟩:=h;obtain⟨hh,g,d,t,os'⟩:=s';obtain rfl:os'=s.os:=os;exact⟨v,H',I.call (h':=hh) (g':=g) (d':=d) (t':=t) (ch:=[]) un hok bare (fun b z=>absurd z (by simp)),r,q⟩
end
def Mg(sp:Sp)(dvs:List V)(E:XK)(t:TA):TE:=fun σ H Q=>t σ H fun vs H1=>sp (vs++dvs) H1 Q E
def Os(C:Addr)(sp:Sp)(dvs:List V)(E:XK)(t:TA):TE:=fun σ H Q=>t σ H fun vs H1=>∀x dx,H1 x=none->H1 dx=none->dx≠x ->
 sp (.ref x ::(vs++dvs)) (upd (upd H1 dx (.own x)) x (.ins C dx [])) (fun v H2=>v = .non/\Q (.ref x) H2) E
def Binds(K:PySem.W.Frag)(fd:FuncData)(ps:List Str)(ds:List Value):Prop :=
 ∀(s:Shared) (us:List Value),K.In s.heap->(us++ds).length=ps.length->BindsTo s fd ⟨us,[]⟩ (ps.zip (us++ds))
theorem Binds.all{K:PySem.W.Frag}{fd:FuncData}{ps:List Str}(h:∀us:List Value,us.length=ps.length->bindArgs fd ⟨us,[]⟩=pure (ps.zip us)):Binds K fd ps []:=fun s us _ hl=>by
 rw[CQ]at hl⊢;exact .of_eq (h us hl)
def As(CX:CXT)(X:Cx)(E:XK):Prop:=∀(pins:List (Addr×Obj)) (σ:St) (H:Hp) (s:Shared) (e:Value) (s':Shared),Inv X pins σ H s->CX X.stack H s E e s'->X.xe e s'
section
variable{X:Cx}{CX:CXT}{k:Nat}{f C:Addr}{fd:FuncData}{ps:List Str}{sp:Sp}{dvs:List V}{ds:List Value}{E:XK}{x m:Str}{p pos apos:Pos}{e o:Expr}{es:List Expr}{ta:TE}{t:TA}
theorem Im{pins:List (Addr×Obj)}{σ:St}{H:Hp}{s:Shared}{Q:VK}{us:List Value}{vs:List V}(F:FnOk X.prog X.w X.K X.mg X.base CX k f fd ps sp)(hr:Room k X.A)(hb:Binds X.K fd ps ds)(hd:Vals dvs ds)(hx:As CX X E)
  (I:Inv X pins σ H s) (r:Vals vs us) (h:sp (vs++dvs) H Q E):wpAny (model X.prog X.w) X.A (call (.ref f) us) (EP X pins σ Q) X.xe s:=by
 have r2:Vals (vs++dvs) (us++ds):=r.append hd;have hl:(us++ds).length=ps.length:=by rw[<-r2.length];exact F.len _ _ _ _ h
 refine wpAny_call (DD (F.run X.A X.stack s H ⟨us,[]⟩ (us++ds) (vs++dvs) Q E hr I.env0 (hb s us I.kIn hl) r2 h) fun r s' hq=>?_);cases r with
 | error e=>exact hx pins σ H s e s' I hq
 | ok fl =>
  cases fl with
  | ret u=>exact I.after hq
  | next=>exact False.elim hq
  | brk=>exact False.elim hq
  | cont=>exact False.elim hq
theorem Kf(F:FnOk X.prog X.w X.K X.mg X.base CX k f fd ps sp)(hr:Room k X.A)(hg:Gl X x)(hm:X.mg x=some (.ref f))(hk:PySem.W.keepIn X.K (.ref f)=true)(hb:Binds X.K fd ps ds)(hd:Vals dvs ds)(hx:As CX X E)
  (ha:PA X (e::es) t) (hdb:(x ==("__debug__":Str))=false:=by decide) (he:starEach (e::es) X.env =(false,eval e X.env)::starEach es X.env:=by rfl) (hpl:(backTo pos (starEach es X.env)).any (·.1)=false:=by rfl) :
  PE X (.Call (.Name x p) (e::es) [] pos) (Mg sp dvs E t):=by
 intro pins s σ H Q I h;refine CM (r8 I hg hm ?_ hdb);refine PySem.W.callWith_K (h₀:=X.base) I.ok.mod.kin hk (thn (ha pos pins s σ H _ I h) fun us s1 ⟨vs,H1,I1,r,q⟩=>⟨I1.kIn,?_⟩) he hpl;exact Im F hr hb hd hx I1 r q
structure Mk(K:PySem.W.Frag)(C f:Addr):Prop where
 makes:PySem.W.makesIn K C=true
 init:PySem.W.findIn K (.ref C) "__init__" = some (some (.ref f))
 fn:PySem.W.isFn K (.ref f)=true
 kp:PySem.W.keepIn K (.ref C)=true
theorem Hs{pins:List (Addr×Obj)}{σ:St}{H:Hp}{s:Shared}{Q:VK}{us:List Value}{vs:List V}(M:Mk X.K C f)(F:FnOk X.prog X.w X.K X.mg X.base CX k f fd ps sp)(hr:Room (k+1) X.A)(hb:Binds X.K fd ps ds)(hd:Vals dvs ds)
  (hx:As CX X E) (I:Inv X pins σ H s) (r:Vals vs us)
  (h:∀x dx,H x=none->H dx=none->dx≠x->sp (.ref x ::(vs++dvs)) (upd (upd H dx (.own x)) x (.ins C dx [])) (fun v H2=>v = .non/\Q (.ref x) H2) E) :
  wpAny (model X.prog X.w) X.A (call (.ref C) us) (EP X pins σ Q) X.xe s:=by
 have hq:=h (s.heap.objs.size+1) s.heap.objs.size (I.hok.fresh (DZ _)) (I.hok.fresh (AG _)) (AS (DV _));have I2:=Inv.made (C:=C) I;have r2:Vals (V.ref (s.heap.objs.size+1) ::(vs++dvs)) (Value.ref (s.heap.objs.size+1) ::(us++ds)):=.cons rfl (r.append hd);have hl:(Value.ref (s.heap.objs.size+1)::us++ds).length=ps.length:=by
  have e:=r2.length;rw[F.len _ _ _ _ hq]at e;exact e.symm
 refine wpAny_call (Gy (f:=f) I.kIn M.makes M.init (beq_iff_eq.mp M.fn) (DD (F.run _ X.stack _ _ ⟨Value.ref (s.heap.objs.size+1)::us,[]⟩ (Value.ref (s.heap.objs.size+1) ::(us++ds)) _ _ E (hr.make C us [])
  (I2.env0.make C us []) (hb _ (Value.ref (s.heap.objs.size+1)::us) I2.kIn hl) r2 hq) fun r s' hq'=>?_))
 cases r with
 | error e=>exact hx pins σ _ _ e s' I2 hq'
 | ok fl =>
  cases fl with
  | ret u =>
   obtain⟨v,H',I3,rv,ev,q3⟩:=I2.after hq';subst ev;exact⟨rv,⟨V.ref (s.heap.objs.size+1),H',I3,rfl,q3⟩⟩
  | next=>exact False.elim hq'
  | brk=>exact False.elim hq'
  | cont=>exact False.elim hq'
theorem t6(M:Mk X.K C f)(F:FnOk X.prog X.w X.K X.mg X.base CX k f fd ps sp)(hr:Room (k+1) X.A)(hg:Gl X x)(hm:X.mg x=some (.ref C))(hb:Binds X.K fd ps ds)(hd:Vals dvs ds)(hx:As CX X E)
  (ha:PA X (e::es) t) (hdb:(x ==("__debug__":Str))=false:=by decide) (he:starEach (e::es) X.env =(false,eval e X.env)::starEach es X.env:=by rfl) (hpl:(backTo pos (starEach es X.env)).any (·.1)=false:=by rfl) :
  PE X (.Call (.Name x p) (e::es) [] pos) (Os C sp dvs E t):=by
 intro pins s σ H Q I h;refine CM (r8 I hg hm ?_ hdb);refine PySem.W.callWith_K (h₀:=X.base) I.ok.mod.kin M.kp (thn (ha pos pins s σ H _ I h) fun us s1 ⟨vs,H1,I1,r,q⟩=>⟨I1.kIn,?_⟩) he hpl;exact Hs M F hr hb hd hx I1 r q
end
structure FnScope(N P:List Str)(sc:Scope):Prop where
 kind:sc.kind = .function
 co:sc.isCoroutine=false
 gen:sc.isGenerator=false
 nd:N.Nodup
 pre:N.take P.length=P
 par:∀x∈P,sc.names.lookup x=some .local\/sc.names.lookup x=some .cell
 nofree:∀y∈sc.names,y.2≠ .free
theorem Ab{kindOf:Str->Option NameKind}{x:Str}:∀{binds:List (Str×Value)} {m:Str->Option Value},(∀v,(x,v)∉binds)->bindL kindOf binds m x=m x
 | [],_,_=>rfl
 | (n,v)::r,m,h=>by
  unfold bindL;rw[Ab fun w hw=>h w (AW _ hw)];split
  .have:x≠n:=by rintro rfl;exact h v AX
   simp[this]
  .rfl
theorem Ak{kindOf:Str->Option NameKind}{x:Str}:∀{binds:List (Str×Value)} {m:Str->Option Value},(∀v,(x,v)∉binds)->bindC kindOf binds m x=m x
 | [],_,_=>rfl
 | (n,v)::r,m,h=>by
  unfold bindC;rw[Ak fun w hw=>h w (AW _ hw)];split
  .rfl
  .have:x≠n:=by rintro rfl;exact h v AX
   simp[this]
theorem u8{kindOf:Str->Option NameKind}{x:Str}{v:Value}:∀{P:List Str} {vs:List Value} {i:Nat} {m:Str->Option Value},P.Nodup->P[i]?=some x->vs[i]?=some v->kindOf x=some .local ->
  bindL kindOf (P.zip vs) m x=some v
 | [],_,_,_,_,h,_,_=>by simp at h
 | _::_,[],_,_,_,_,h,_=>by simp at h
 | p::P,w::vs,0,m,nd,h1,h2,hk=>by
  simp at h1 h2;subst h1;subst h2;show bindL kindOf ((p,w)::P.zip vs) m p=_;unfold bindL;rw[Ab fun v hv=>(B_.mp nd).1 (DK hv).1,BI hk];simp
 | p::P,w::vs,i+1,m,nd,h1,h2,hk=>by
  show bindL kindOf ((p,w)::P.zip vs) m x=_;unfold bindL;exact u8 (i:=i) (B_.mp nd).2 (by simpa using h1) (by simpa using h2) hk
theorem y9{kindOf:Str->Option NameKind}{x:Str}{v:Value}:∀{P:List Str} {vs:List Value} {i:Nat} {m:Str->Option Value},P.Nodup->P[i]?=some x->vs[i]?=some v->kindOf x≠some .local ->
  bindC kindOf (P.zip vs) m x=some v
 | [],_,_,_,_,h,_,_=>by simp at h
 | _::_,[],_,_,_,_,h,_=>by simp at h
 | p::P,w::vs,0,m,nd,h1,h2,hk=>by
  simp at h1 h2;subst h1;subst h2;show bindC kindOf ((p,w)::P.zip vs) m p=_;unfold bindC;rw[Ak fun v hv=>(B_.mp nd).1 (DK hv).1,BF hk];simp
 | p::P,w::vs,i+1,m,nd,h1,h2,hk=>by
  show bindC kindOf ((p,w)::P.zip vs) m x=_;unfold bindC;exact y9 (i:=i) (B_.mp nd).2 (by simpa using h1) (by simpa using h2) hk
def t9(N:List Str)(vs:List V):St:=vs.map some++List.replicate (N.length-vs.length) none
def Jg(CX:CXT)(P:Program)(w:World)(K:PySem.W.Frag)(mg:Str->Option Value)(base:Heap)(N:List Str)(qual:Str)(scope:Scope)(f:Addr)(cd:Value)(A:Around)(outer:List Env)(s:Shared)(H:Hp)(E:XK):Cx where
 prog:=P
 w:=w
 K:=K
 mg:=mg
 base:=base
 A:=A.deeper (envOfC qual scope s.heap.objs.size f cd)
 N:=N
 s₀:=s
 H₀:=H
 env:=envOfC qual scope s.heap.objs.size f cd
 outer:=outer
 stack:=envOfC qual scope s.heap.objs.size f cd::outer
 ex:=[]
 calm:=true
 fn:=fun _=>true
 pn:=[]
 xe:=fun e s'=>wpAny (model P w) (A.deeper (envOfC qual scope s.heap.objs.size f cd)) (leaving (envOfC qual scope s.heap.objs.size f cd) e) (fun _ s''=>CX outer H s E e s'') (fun e' s''=>CX outer H s E e' s'') s'
theorem Bt{sc:Scope}{n:Nat}{x:Str}(h:sc.names.lookup x=some .cell):∃c,(cellsFrom n sc.names []).lookup x=some c:=by
 have q:=PySem.W.cellsFrom_some sc.names n [] (.inl h);exact CS.mp q
theorem Gd{CX:CXT}{P:Program}{w:World}{K:PySem.W.Frag}{mg:Str->Option Value}{base:Heap}{N ps:List Str}{qual:Str}{scope:Scope}{f:Addr}{cd:Value}{A:Around}{outer:List Env}{s s1:Shared}{H:Hp}{E:XK}{us:List Value}{vs:List V}
  (S:FnScope N ps scope) (hd:A.handled=none) (e0:Env0 P w K mg base A outer s H) (hl:vs.length=ps.length) (r:Vals vs us)
  (x:InCallC s s.heap.objs.size (bindL (envOfC qual scope s.heap.objs.size f cd).kindOf (ps.zip us) fun _=>none) (cellsFrom (s.heap.objs.size+1) scope.names []) (bindC (envOfC qual scope s.heap.objs.size f cd).kindOf (ps.zip us) fun _=>none) s1) :
  Inv (Jg CX P w K mg base N qual scope f cd A outer s H E) [] (t9 N vs) H s1:=by
 have hpl:ps.length<=N.length:=by have:=congrArg List.length S.pre;rw[AV]at this;omega
 obtain⟨h1,tk,rfl,hk⟩:=x.done;have noA:∀b:Addr,b∉(Jg CX P w K mg base N qual scope f cd A outer s H E).ex:=fun b z=>absurd (show b∈([]:List Addr)from z) (by simp);refine⟨⟨e0.mod,S.kind,rfl,rfl,AG _,fun y z c h1 h2=>?_,fun y hy=>?_,fun y c _ h=>?_,fun _=>hd,Around.frames_deeper e0.frames,.inr ⟨rfl,rfl⟩,fun b z=>absurd z (noA b),e0.bs,e0.bsz,fun b _ _=>noA b,fun b z=>absurd z (noA b),e0.funs,e0.frf⟩,
  rfl,e0.bare,Un.kept hk,⟨_,x.toInCall.ns,fun i y v h1 h2 h3=>?_⟩,fun y c h=>⟨_,x.cell y c h⟩,e0.hok.fresh (AG _),fun y c h=>?_,fun p hp=>absurd (show p∈([]:List (Addr×Obj))from hp) (by simp),e0.hok.kept hk,?_⟩
 .exact name_of_addr x.apart (PySem.mem_of_lookup h1) (PySem.mem_of_lookup h2)
 .have hy:scope.names.lookup y=some .cell\/scope.names.lookup y=some .free:=hy;rcases hy with hy | hy
  .exact Bt hy
  .exact absurd rfl (S.nofree _ (PySem.mem_of_lookup hy))
 .exact CK (x.above y c (PySem.mem_of_lookup h))
 .have hi:i<vs.length:=by
   unfold t9 at h2;by_cases hi:i<vs.length
   .exact hi
   .rw[CN (by simpa using hi)]at h2;rw[List.getElem?_replicate]at h2;split at h2<;>cases h2
  have ha:vs[i]?=some v:=by
   unfold t9 at h2;rw[CP (by simpa using hi),AH]at h2;cases e:vs[i]? with
   | none=>rw[e]at h2;cases h2
   | some a=>rw[e]at h2;cases h2;rfl
  obtain⟨u,hu,rv⟩:=r.get ha;have hp:ps[i]?=some y:=by
   rw[<-S.pre,List.getElem?_take_of_lt (by omega)];exact h1
  have ndP:ps.Nodup:=by rw[<-S.pre];exact S.nd.sublist (DQ _ _)
  refine⟨u,rv,?_⟩;rcases S.par y (AN hp)with k | k
  .exact .inl ⟨k,u8 ndP hp hu k⟩
  .obtain⟨c,e⟩:=Bt (n:=s.heap.objs.size+1) k;refine .inr ⟨.inl k,c,e,?_⟩;have q:=x.cell y c e;rw[y9 ndP hp hu (by show scope.names.lookup y≠_;rw[k];decide)]at q;exact q
 .exact e0.hok.fresh (CK (x.above y c (PySem.mem_of_lookup h)))
 .unfold t9;show _=N.length;rw[BA,AA,List.length_replicate];omega
theorem Lg{CX:CXT}{P:Program}{w:World}{K:PySem.W.Frag}{mg:Str->Option Value}{base:Heap}{k:Nat}{f:Addr}{name qual:Str}{params:Arguments}{body:List Stmt}{scope:Scope}{dV kV doc pm cdv ct oc:Value}{an od:Option Addr}
  {osl:Array (Option Value)} {N ps:List Str} {sp:Sp} (lk:K.lookup f=some ⟨oc,od,.func (PySem.W.fnOf name qual params body scope dV kV doc pm an cdv ct),osl⟩) (hcd:PySem.W.codeIn K cdv qual=true) (S:FnScope N ps scope)
  (len:∀vs H Q E,sp vs H Q E->vs.length=ps.length)
  (hbody:∀(A:Around) (outer:List Env) (s:Shared) (H:Hp) (vs:List V) (Q:VK) (E:XK),Room k (A.deeper (envOfC qual scope s.heap.objs.size f cdv))->sp vs H Q E ->
   ∃t,PSs (Jg CX P w K mg base N qual scope f cdv A outer s H E) body t/\t { nx:=fun _ H'=>Q .non H',rt:=Q } (t9 N vs) H) :
  FnOk P w K mg base CX (k+1) f (PySem.W.fnOf name qual params body scope dV kV doc pm an cdv ct) ps sp:=by
 refine⟨len,fun A outer s H args us vs Q E hr e0 hb r hsp=>?_⟩;have hl:=len _ _ _ _ hsp;have KX:K.In s.heap:=e0.mod.kin.keeps fun b o e=>(e0.bs b o e).1;have lim:s.heap.NoLimit:=e0.mod.nolimit.keeps fun b o e=>(e0.bs b o e).1;have hkind:∀y∈ps.zip us,scope.names.lookup y.1=some .local\/(scope.names.lookup y.1=some .cell/\((cellsFrom (s.heap.objs.size+1) scope.names []).lookup y.1).isSome=true):=fun⟨n,v⟩ hy=>by
  rcases S.par n (DK hy).1 with q | q
  .exact .inl q
  .exact .inr ⟨q,PySem.W.cellsFrom_some _ _ _ (.inl q)⟩
 refine codeAny_call_function hr.depth (KX _ _ lk) rfl S.co S.gen rfl (PySem.W.codeRec_of KX hcd) (hb _ _ _ _ ?_);refine wpAny_newFunctionEnv_cells S.kind hkind fun env he s1 x=>?_;subst he;refine⟨lim.keeps x.toInCall.keep,codeAny_func ?_⟩;obtain⟨t,ht,hq⟩:=hbody A outer s H vs Q E (hr.deeper _) hsp;have I:Inv (Jg CX P w K mg base N qual scope f cdv A outer s H E) [] (t9 N vs) H s1:=Gd S hr.hd e0 hl r x;refine BV (ht [] s1 (t9 N vs) H _ I hq) (fun fl s' hs=>?_) fun e s' hs=>hs;have fin:∀{σ':St} {H':Hp} {v:V} {u:Value},Inv (Jg CX P w K mg base N qual scope f cdv A outer s H E) [] σ' H' s'->RelV v u->Q v H'->CE outer P w H s Q u s' :=
  fun{σ' H' v u} J rv q=>⟨v,H',J.os,J.bare,J.base,J.hok,rv,q⟩
 cases fl with
 | ret u =>
  obtain⟨v,σ',H',J,rv,q⟩:=hs;exact fin J rv q
 | next =>
  obtain⟨σ',H',J,q⟩:=hs;exact fin (v:=V.non) (u:=Value.none) J rfl q
 | brk =>
  obtain⟨_,_,_,q⟩:=hs;exact False.elim q
 | cont =>
  obtain⟨_,_,_,q⟩:=hs;exact False.elim q
section
variable{X:Cx}{x:Str}{p pos:Pos}{e:Expr}{es:List Expr}{t:TA}{id T:String}{r:List V->Hp->VK->Prop}
def tCB(r:List V->Hp->VK->Prop)(t:TA):TE:=fun σ H Q=>t σ H fun vs H1=>r vs H1 Q
theorem Ia(hc:J0 X (.builtin id) r)(hg:Gl X x)(hm:X.mg x=none)(hv:bootBuiltins x=some (.builtin id))(ha:PA X (e::es) t)(hn:x≠ "__name__":=by decide)(hdb:(x ==("__debug__":Str))=false:=by decide)
  (he:starEach (e::es) X.env =(false,eval e X.env)::starEach es X.env:=by rfl) (hpl:(backTo pos (starEach es X.env)).any (·.1)=false:=by rfl):PE X (.Call (.Name x p) (e::es) [] pos) (tCB r t):=by
 intro pins s σ H Q I h;refine CM (j6 I hg hm hv ?_ hn hdb);exact PyProof.Rows.callWith_builtin1 (thn (ha pos pins s σ H _ I h) fun us s1 ⟨vs,H1,I1,r1,q1⟩=>hc pins s1 σ H1 vs us Q I1 r1 q1) he hpl
theorem Gk(hc:J0 X (.type T) r)(hg:Gl X x)(hm:X.mg x=none)(hv:bootBuiltins x=some (.type T))(ha:PA X (e::es) t)(hn:x≠ "__name__":=by decide)(hdb:(x ==("__debug__":Str))=false:=by decide)
  (he:starEach (e::es) X.env =(false,eval e X.env)::starEach es X.env:=by rfl) (hpl:(backTo pos (starEach es X.env)).any (·.1)=false:=by rfl):PE X (.Call (.Name x p) (e::es) [] pos) (tCB r t):=by
 intro pins s σ H Q I h;refine CM (j6 I hg hm hv ?_ hn hdb);exact PyProof.Rows.callWith_type1 (thn (ha pos pins s σ H _ I h) fun us s1 ⟨vs,H1,I1,r1,q1⟩=>hc pins s1 σ H1 vs us Q I1 r1 q1) he hpl
end
end L2
namespace HT
open PySem PyProof.Rows
section
variable{prog:Program}{w:World}{A:Around}{E:Value->Shared->Prop}{s:Shared}
def sIx(n d:Nat):Option Int->Nat
 | none=>d
 | some v=>if v<0 then(v +(n:Int)).toNat else min v.toNat n
theorem sIx_none(n d:Nat):sIx n d none=d:=rfl
theorem sIx_nat(n d k:Nat):sIx n d (some (k:Int))=min k n:=by
 show(if(k:Int)<0 then((k:Int) +(n:Int)).toNat else min (k:Int).toNat n)=min k n;rw[BF (by omega),CI]
theorem Nl(n d:Nat)(hd:d<=n)(o:Option Int):sIx n d o<=n:=by
 cases o with
 | none=>exact hd
 | some v =>
  show(if v<0 then(v +(n:Int)).toNat else min v.toNat n)<=n;by_cases hv:v<0
  .rw[BI hv];omega
  .rw[BF hv];exact Nat.min_le_right _ _
theorem Fc(v:Int)(n d:Nat):(if v<0 then max (v +(n:Int)) 0 else min v (n:Int)) =((sIx n d (some v):Nat):Int):=by
 show(if v<0 then max (v +(n:Int)) 0 else min v (n:Int)) =(((if v<0 then(v +(n:Int)).toNat else min v.toNat n):Nat):Int);by_cases hv:v<0
 .simp only[BI hv];omega
 .simp only[BF hv];omega
theorem Ds(lo hi:Option Int)(n:Nat):Builtin.Slice.sliceAdjust lo hi 1 (n:Int) =(((sIx n 0 lo:Nat):Int),((sIx n n hi:Nat):Int)):=by
 have h1:¬((1:Int)<0):=by omega
 unfold Builtin.Slice.sliceAdjust;simp only[h1,if_false];refine Prod.ext ?_ ?_
 .cases lo with
  | none=>rfl
  | some v=>exact Fc v n 0
 .cases hi with
  | none=>rfl
  | some v=>exact Fc v n n
theorem Cy(i j:Nat):Builtin.Slice.slicePlaces (i:Int) (j:Int) 1=j-i:=by
 unfold Builtin.Slice.slicePlaces;have h1:(1:Int)>0:=by omega
 simp only[h1,if_true,Int.ediv_one];split<;>omega
theorem i6{v:Value}{o:Option Int}{Q:Option Int->Shared->Prop}(p:IsPart v o)(h:Q o s):wpAny (model prog w) A (Builtin.Slice.slicePartIndex v) Q E s:=by
 cases p with
 | none=>exact slicePart_none h
 | int i t=>exact slicePart_int h
theorem V9{sl:Addr}{vl vu:Value}{lo hi:Option Int}{n:Nat}{Q:Int×Int×Nat->Shared->Prop}(hs:s.heap.IsSliceOf sl vl vu .none)(pl:IsPart vl lo)(pu:IsPart vu hi)
  (h:Q (((sIx n 0 lo:Nat):Int),1,sIx n n hi-sIx n 0 lo) s):wpAny (model prog w) A (Builtin.Slice.sliceApplied (.ref sl) (pure (n:Int))) Q E s:=by
 obtain⟨os,hos,hcs,hds⟩:=id hs;unfold Builtin.Slice.sliceApplied Builtin.Slice.sliceFields;refine AB (AB (BJ hos hds (x:=vl) rfl (AB (BJ hos hds (x:=vu) rfl (AB (BJ hos hds (x:=.none) rfl (AE ?_)))))));refine AB (slicePart_none ?_);show wpAny _ _ (if((1:Int) == 0)=true then _ else _) _ _ s;rw[BF (by decide)];refine AB (i6 pl (AB (i6 pu (AB (AE ?_)))));show wpAny _ _ (match Builtin.Slice.sliceAdjust lo hi 1 (n:Int)with | (lo,hi)=>pure (lo,(1:Int),Builtin.Slice.slicePlaces lo hi 1)) _ _ s;rw[Ds lo hi n];show wpAny _ _ (pure (((sIx n 0 lo:Nat):Int),(1:Int),Builtin.Slice.slicePlaces ((sIx n 0 lo:Nat):Int) ((sIx n n hi:Nat):Int) 1)) _ _ s;rw[Cy];exact AE h
theorem Hm(xs:Array Value)(i k:Nat):((List.range k).filterMap fun(m:Nat)=>xs[((i:Int) +(m:Int)*1).toNat]?).toArray =((xs.toList.drop i).take k).toArray:=by
 have e:(fun(m:Nat)=>xs[((i:Int) +(m:Int)*1).toNat]?)=fun m=>xs[i+m]?:=by
  funext m;have:((i:Int) +(m:Int)*1).toNat=i+m:=by omega
  rw[this]
 rw[e];have:=pick_run xs i k;rw[List.filterMap_map]at this;have e2:((fun x=>xs[x]?)∘fun x=>i+x)=fun m=>xs[i+m]?:=rfl;rw[e2]at this;rw[this]
theorem getItem_tuple_cut{t sl:Addr}{items:Array Value}{vl vu:Value}{lo hi:Option Int}{Q:Value->Shared->Prop}(ht:IsTup s.heap t items)(hs:s.heap.IsSliceOf sl vl vu .none)(pl:IsPart vl lo)(pu:IsPart vu hi)
  (hw:¬(sIx items.size 0 lo=0/\sIx items.size items.size hi=items.size))
  (h:Q (.ref s.heap.objs.size) { s with heap:=s.heap.push { cls:=.type "tuple",data:=.seq ((items.toList.drop (sIx items.size 0 lo)).take (sIx items.size items.size hi-sIx items.size 0 lo)).toArray } })
  (hsz:items.size<=sizeLine):wpAny (model prog w) A (getItem (.ref t) (.ref sl)) Q E s:=by
 have htake:sizeOk (.seq ((items.toList.drop (sIx items.size 0 lo)).take (sIx items.size items.size hi-sIx items.size 0 lo)).toArray):=by
  show((items.toList.drop (sIx items.size 0 lo)).take (sIx items.size items.size hi-sIx items.size 0 lo)).toArray.size<=sizeLine;rw[AK,AV,CF,BL];omega
 have hj:sIx items.size items.size hi<=items.size:=Nl _ _ (AG _) hi;obtain⟨os,hos,hcs,hds⟩:=id hs;have hTs:s.TypeIs (.ref sl) "slice":=⟨os,hos,hcs⟩;unfold getItem
 try with_reducible refine CG ?_
 first | refine AB (AE ?_) | skip
 refine AB (wpAny_sequenceKey ht.typeIs (by decide) ?_);refine AB (BS (name:=Str.ofString "__getitem__") ht.typeIs PyProof.Rows.slot_tuple_getitem
  (CL PyProof.Rows.slot_tuple_getitem ht.typeIs entry_tuple_getitem ?_ (args_tuple_getitem _ _)))
 show wpAny _ _ (Builtin.Tuple.tupleItemsOf (.ref t) >>= _) _ _ s;refine AB (tupleItemsOf_ ht ?_);refine AB (wpAny_typeOf hTs ?_);rw[BI (by decide)];refine AB (V9 hs pl pu ?_);have hno:¬((((sIx items.size 0 lo:Nat):Int) == 0 &&(1:Int) == 1 &&(sIx items.size items.size hi-sIx items.size 0 lo) == items.size)=true):=by
  intro q;rw[BK,BK]at q;have q1:((sIx items.size 0 lo:Nat):Int)=0:=eq_of_beq q.1.1;have q2:sIx items.size items.size hi-sIx items.size 0 lo=items.size:=eq_of_beq q.2;exact hw ⟨by omega,by omega⟩
 show wpAny _ _ (if(((sIx items.size 0 lo:Nat):Int) == 0 &&(1:Int) == 1 &&(sIx items.size items.size hi-sIx items.size 0 lo) == items.size)=true then _ else _) _ _ s;rw[BF hno,Hm]
 first
  | exact AB (m:=Builtin.Tuple.tupleExact _) (CH (AE ⟨_,rfl,AE h⟩) htake)
  | exact AB (m:=Builtin.Tuple.tupleExact _) (CH (AB (AE (AE ⟨_,rfl,AE h⟩))) htake)
  | exact AB (AB (m:=Builtin.Tuple.tupleExact _) (CH (AE (AE ⟨_,rfl,AE h⟩)) htake))
  | exact AB (AB (m:=Builtin.Tuple.tupleExact _) (CH (AE ⟨_,rfl,AE h⟩) htake))
end
end HT
namespace L2
open PySem PySem.Spec PyProof.Rows
abbrev TO:=St->Hp->(Option Int->Hp->Prop)->Prop
def PO(X:Cx)(e:Option Expr)(t:TO):Prop :=
 ∀(pins:List (Addr×Obj)) (s:Shared) (σ:St) (H:Hp) (Q:Option Int->Hp->Prop),Inv X pins σ H s->t σ H Q ->
  wpAny (model X.prog X.w) X.A (evalPart e X.env) (fun u s'=>∃o H',Inv X pins σ H' s'/\IsPart u o/\Q o H') X.xe s
def Jj:TO:=fun _ H Q=>Q none H
def On(t:TE):TO:=fun σ H Q=>t σ H fun x H1=>∃i,x = .int i/\Q (some i) H1
section
variable{X:Cx}{e:Expr}{te:TE}{lo hi:Option Expr}{tl th:TO}{pos p2:Pos}
theorem Q5:PO X none Jj:=by
 intro pins s σ H Q I h;rw[evalPart_none];exact AE ⟨none,H,I,.none,h⟩
theorem R0(h:PE X e te):PO X (some e) (On te):=by
 intro pins s σ H Q I hw;rw[evalPart_some];refine thn (h pins s σ H _ I hw) fun u s1 ⟨x,H1,I1,r1,q1⟩=>?_;obtain⟨i,rfl,q⟩:=q1;obtain⟨t,rfl⟩:=r1;exact⟨some i,H1,I1,.int i t,q⟩
def SlR(X:Cx)(r:V->Option Int->Option Int->Hp->VK->Prop):Prop :=
 ∀(pins:List (Addr×Obj)) (s:Shared) (σ:St) (H:Hp) (x:V) (v vl vu:Value) (lo hi:Option Int) (sl:Addr) (Q:VK),Inv X pins σ H s->RelV x v->s.heap.IsSliceOf sl vl vu .none->IsPart vl lo->IsPart vu hi->r x lo hi H Q ->
  ∃T id,typeLookup (.type T) "__getitem__" = pure (some (.builtin id))/\s.TypeIs v T/\wpAny (model X.prog X.w) X.A (getItem v (.ref sl)) (EP X pins σ Q) X.xe s
theorem SlR.or{r r':V->Option Int->Option Int->Hp->VK->Prop}(h:SlR X r)(h':SlR X r'):SlR X (fun x lo hi H Q=>r x lo hi H Q\/r' x lo hi H Q):=by
 intro pins s σ H x v vl vu lo hi sl Q I rx hs pl pu q;rcases q with q | q
 .exact h pins s σ H x v vl vu lo hi sl Q I rx hs pl pu q
 .exact h' pins s σ H x v vl vu lo hi sl Q I rx hs pl pu q
def tSl(r:V->Option Int->Option Int->Hp->VK->Prop)(te:TE)(tl th:TO):TE:=fun σ H Q=>te σ H fun x H1=>tl σ H1 fun l H2=>th σ H2 fun u H3=>r x l u H3 Q
theorem O1{r:V->Option Int->Option Int->Hp->VK->Prop}(hr:SlR X r)(he:PE X e te)(hl:PO X lo tl)(hu:PO X hi th):PE X (.Subscript e (.Slice lo hi none p2) pos) (tSl r te tl th):=by
 intro pins s σ H Q I h;refine Subscript_ (thn (he pins s σ H _ I h) fun v s1 ⟨x,H1,I1,r1,q1⟩=>?_);refine wpAny_Slice (thn (hl pins s1 σ H1 _ I1 q1) fun vl s2 ⟨l,H2,I2,pl,q2⟩=>thn (hu pins s2 σ H2 _ I2 q2) fun vu s3 ⟨u,H3,I3,pu,q3⟩=>?_);rw[evalPart_none];refine AE ?_;have I4:Inv X pins σ H3 { s3 with heap:=s3.heap.push { cls:=.type "slice",data:=.fields #[vl,vu,.none] } }:=I3.kept (t':=s3.toks) fun b ob q=>AD _ q;obtain⟨T,id,hT,ht,hg⟩:=hr pins { s3 with heap:=s3.heap.push { cls:=.type "slice",data:=.fields #[vl,vu,.none] } } σ H3 x v vl vu l u s3.heap.objs.size Q I4 r1 (Heap.IsSliceOf.new ..) pl pu q3;show wpAny (model X.prog X.w) X.A (subscriptTail e (.Slice lo hi none p2) v (.ref s3.heap.objs.size)) (EP X pins σ Q) X.xe { s3 with heap:=s3.heap.push { cls:=.type "slice",data:=.fields #[vl,vu,.none] } };exact tail_any (ops:=[.ref s3.heap.objs.size,v]) ht hT hg (by with_unfolding_all rfl)
def R8(xs:List V)(lo hi:Option Int):List V:=(xs.drop (HT.sIx xs.length 0 lo)).take (HT.sIx xs.length xs.length hi-HT.sIx xs.length 0 lo)
theorem c8(xs:List V)(lo hi:Option Int):(R8 xs lo hi).length<=xs.length:=by
 unfold R8;rw[AV,CF];omega
def Oy(K:PySem.W.Frag):V->Option Int->Option Int->Hp->VK->Prop:=fun x lo hi H Q=>∃a xs,x = .ref a/\SqT K H a xs /\
 ¬(HT.sIx xs.length 0 lo=0/\HT.sIx xs.length xs.length hi=xs.length)/\∀p,H p=none->Q (.ref p) (upd H p (.tup (R8 xs lo hi)))
theorem No:SlR X (Oy X.K):=by
 intro pins s σ H x v vl vu lo hi sl Q I rx hs pl pu h;obtain⟨a,xs,rfl,hx,hw,q⟩:=h;cases rx;obtain⟨its,r,ht,hz⟩:=I.tuple hx;have hlen:its.toArray.size=xs.length:=by rw[AK];exact r.length.symm
 refine⟨"tuple",_,PyProof.Rows.slot_tuple_getitem.lookup,ht.typeIs,?_⟩;refine HT.getItem_tuple_cut ht hs pl pu (by rw[hlen];exact hw) ?_ (by rw[hlen];exact hz);rw[hlen];refine⟨.ref s.heap.objs.size,_,I.laid (t':=s.toks) (o:=.tup (R8 xs lo hi)) (fun b ob q=>AD _ q) (AG _) ?_,rfl,q _ (I.hok.fresh (AG _))⟩;exact⟨BO (c8 xs lo hi) hz,_,(r.drop (HT.sIx xs.length 0 lo)).take (HT.sIx xs.length xs.length hi-HT.sIx xs.length 0 lo),IsTup.new _ _⟩
end
def ixN(n:Nat)(i:Int):Option Nat:=if 0<=i then(if i<n then some i.toNat else none)else if -(n:Int)<=i then some (i+n).toNat else none
def atI{α:Type}(xs:List α)(i:Int):Option α:=(ixN xs.length i).bind fun j=>xs[j]?
theorem Ff{n:Nat}{i:Int}{j:Nat}(h:ixN n i=some j):seqIndex? i n=some j/\j<n/\-(n:Int)<=i/\i<n:=by
 unfold ixN at h;by_cases h0:0<=i
 .rw[BI h0]at h;by_cases h1:i<n
  .rw[BI h1]at h;have e:i.toNat=j:=BG h;exact⟨by rw[seqIndex_of h0 h1,e],by omega,by omega,h1⟩
  .rw[BF h1]at h;cases h
 .rw[BF h0]at h;by_cases h1:-(n:Int)<=i
  .rw[BI h1]at h;have e:(i+n).toNat=j:=BG h;exact⟨by rw[seqIndex_neg (by omega) h1,e],by omega,h1,by omega⟩
  .rw[BF h1]at h;cases h
theorem Az{α:Type}{xs:List α}{i:Int}{v:α}(h:atI xs i=some v):∃j,seqIndex? i xs.length=some j/\xs[j]?=some v/\j<xs.length/\-(xs.length:Int)<=i/\i<xs.length:=by
 unfold atI at h;cases e:ixN xs.length i with
 | none=>rw[e]at h;cases h
 | some j =>
  rw[e]at h;obtain⟨h1,h2,h3,h4⟩:=Ff e;exact⟨j,h1,h,h2,h3,h4⟩
theorem B5{α:Type}{xs:List α}{j:Nat}{v:α}(h:xs[j]?=some v):atI xs (j:Int)=some v:=by
 have hj:j<xs.length:=(AM.mp h).1;have e:ixN xs.length (j:Int)=some j:=by
  unfold ixN;rw[BI (by omega),BI (by omega)];simp
 unfold atI;rw[e];exact h
def Jl(b:Expr):Prop:=∀o i,subscripted b false o i=operate [o,i] (getItem o i)
def IxR(X:Cx)(r:R2):Prop :=
 ∀(value slice:Expr) (pins:List (Addr×Obj)) (s:Shared) (σ:St) (H:Hp) (x y:V) (v u:Value) (Q:VK),Inv X pins σ H s->RelV x v->RelV y u->r x y H Q ->
  subscripted slice false v u=operate [v,u] (getItem v u)->wpAny (model X.prog X.w) X.A (subscriptTail value slice v u) (EP X pins σ Q) X.xe s
def MtR(X:Cx)(id:String)(r:V->List V->Hp->VK->Prop):Prop :=
 ∀(pins:List (Addr×Obj)) (s:Shared) (σ:St) (H:Hp) (x:V) (xs:List V) (v:Value) (us:List Value) (Q:VK),Inv X pins σ H s->RelV x v->Vals xs us->r x xs H Q ->
  wpAny (model X.prog X.w) X.A (call (.builtin id) (v::us)) (EP X pins σ Q) X.xe s
section
variable{X:Cx}{a b:Expr}{ta tb:TE}{pos:Pos}
theorem C1{r:R2}(hr:IxR X r)(ha:PE X a ta)(hb:PE X b tb)(hs:Jl b):PE X (.Subscript a b pos) (tOp r ta tb):=by
 intro pins s σ H Q I h;exact Subscript_ (Ow ha hb I h fun v u s2 x y H2 I2 rx ry q=>hr a b pins s2 σ H2 x y v u Q I2 rx ry q (hs _ _))
def Pn(K:PySem.W.Frag):R2:=fun x y H Q=>∃p xs i v,x = .ref p/\y = .int i/\SqL K H p xs/\atI xs i=some v/\Q v H
def Pg(K:PySem.W.Frag):R2:=fun x y H Q=>∃p xs i v,x = .ref p/\y = .int i/\SqT K H p xs/\atI xs i=some v/\Q v H
def Qd:R2:=fun x y H Q=>∃z i c,x = .str z/\y = .int i/\z.length<=sizeLine/\atI z.cps.toList i=some c/\Q (.str ⟨#[c]⟩) H
theorem Jr:IxR X (Pn X.K):=by
 intro value slice pins s σ H x y v u Q I rx ry h hs;obtain⟨p,xs,i,z,rfl,rfl,hq,he,q⟩:=h;cases rx;obtain⟨t,rfl⟩:=ry;obtain⟨its,r,pl,hz⟩:=I.list hq;obtain⟨j,h1,h2,h3,h4,h5⟩:=Az he;obtain⟨w,ew,rw'⟩:=r.get h2;have hl:=r.length;have hn:=i4;have fin:EP X pins σ Q w s:=⟨z,H,I,rw',q⟩;by_cases h0:0<=i
 .have hj:i.toNat=j:=by
   rw[seqIndex_of h0 h5]at h1;exact BG h1
  exact item_listR pl.isList h0 (by omega) (by rw[hj];simpa using ew) fin hs
 .have hj:(i +(its.toArray.size:Int)).toNat=j:=by
   rw[seqIndex_neg (by omega) h4]at h1;rw[AK,<-hl];exact BG h1
  exact subscriptTail_builtinR (x:=w) pl.isList.typeIs slot_list_getitem.lookup
   (wpAny_getItem_list_neg (Q:=fun r s'=>r=w/\EP X pins σ Q r s') pl.isList (by omega) (by rw[AK]<;>omega) (by omega) (by rw[hj];simpa using ew) ⟨rfl,fin⟩) hs
theorem Lz:IxR X (Pg X.K):=by
 intro value slice pins s σ H x y v u Q I rx ry h hs;obtain⟨p,xs,i,z,rfl,rfl,hq,he,q⟩:=h;cases rx;obtain⟨t,rfl⟩:=ry;obtain⟨its,r,pl,hz⟩:=I.tuple hq;obtain⟨j,h1,h2,h3,h4,h5⟩:=Az he;obtain⟨w,ew,rw'⟩:=r.get h2;have hl:=r.length;have hn:=i4;have fin:EP X pins σ Q w s:=⟨z,H,I,rw',q⟩;exact subscriptTail_builtinR (x:=w) pl.typeIs slot_tuple_getitem.lookup
  (getItem_tuple (j:=j) (Q:=fun r s'=>r=w/\EP X pins σ Q r s') pl (by omega) (by omega) (by rw[AK,<-hl];exact h1) (by simpa using ew) ⟨rfl,fin⟩) hs
theorem Nq:IxR X Qd:=by
 intro value slice pins s σ H x y v u Q I rx ry h hs;obtain⟨z,i,c,rfl,rfl,hz,he,q⟩:=h;obtain⟨t,rfl⟩:=rx;obtain⟨t',rfl⟩:=ry;obtain⟨j,h1,h2,h3,h4,h5⟩:=Az he;have hl:z.cps.toList.length=z.length:=by simp[Str.length]
 rw[hl]at h1 h4 h5;have hn:=i4;exact tail_any (typeIs_str s z t) slot_str_getitem.lookup (getItem_str (c:=c) (by
  have e1:decide (i < -(2^63:Int))=false:=BC (by omega);have e2:decide (i ≥ 2^63)=false:=BC (by omega);rw[e1,e2,Bool.or_false]) (by rw[h1];simpa using h2) ⟨.str ⟨#[c]⟩,H,I.tok _,⟨_,rfl⟩,q⟩) hs
theorem Cs(its:List Value)(n j:Nat)(u:Value):Obj.mapSeq (·.setIfInBounds j u) { cls:=.type "list",data:=.seq its.toArray n } ={ cls:=.type "list",data:=.seq (its.set j u).toArray n }:=by
 simp[Obj.mapSeq]
theorem Inv.lst{pins:List (Addr×Obj)}{σ:St}{H:Hp}{s:Shared}{p:Addr}{xs:List V}(I:Inv X pins σ H s)(h:H p=some (.lst xs)) :
  ∃(its:List Value) (n:Nat),Vals xs its/\s.heap.get? p=some { cls:=.type "list",data:=.seq its.toArray n }/\xs.length<=sizeLine:=by
 obtain⟨z,its,n,r,e⟩:=I.hok p _ h;exact⟨its,n,r,e,z⟩
theorem Inv.lstUpd{pins:List (Addr×Obj)}{σ:St}{H:Hp}{s:Shared}{p:Addr}{xs ys:List V}{its its':List Value}{n n':Nat}{f:Obj->Obj}(I:Inv X pins σ H s)(h:H p=some (.lst xs))
  (ho:s.heap.get? p=some { cls:=.type "list",data:=.seq its.toArray n }) (hf:f { cls:=.type "list",data:=.seq its.toArray n } ={ cls:=.type "list",data:=.seq its'.toArray n' }) (r:Vals ys its') (hz:ys.length<=sizeLine) (t:Nat) :
  Inv X pins σ (upd H p (.lst ys)) { s with heap:=s.heap.update p f,toks:=t }:=by
 have e:(s.heap.update p f).get? p=some { cls:=.type "list",data:=.seq its'.toArray n' }:=by
  rw[Heap.get?_update_self f ho (by rw[hf]<;>rfl),hf]
 refine I.write (x:=p) (e:=p) (by rw[h];trivial) (.inl rfl) (fun b u hb q=>(Heap.get?_update_other _ _ (Ne.symm hb)).trans q) ⟨_,e⟩ ?_;exact⟨hz,its',n',r,e⟩
def Og:V->V->V->Hp->(Hp->Prop)->Prop:=fun o i v H Q=>∃p xs k j,o = .ref p/\i = .int k/\H p=some (.lst xs)/\ixN xs.length k=some j/\Q (upd H p (.lst (xs.set j v)))
theorem n8:Pd X Og:=by
 intro pins s σ H o i v ov iv u Q I ro ri rv h;obtain⟨p,xs,k,j,rfl,rfl,hp,hj,q⟩:=h;cases ro;obtain⟨t,rfl⟩:=ri;obtain⟨its,n,r,ho,hz⟩:=I.lst hp;obtain⟨h1,h2,h3,h4⟩:=Ff hj;have hl:=r.length;have hn:=i4;have I':Inv X pins σ (upd H p (.lst (xs.set j v))) { s with heap:=s.heap.update p (Obj.mapSeq (·.setIfInBounds j u)) } :=
  I.lstUpd hp ho (Cs its n j u) (r.set rv j) (by rw[List.length_set];exact hz) s.toks
 by_cases h0:0<=k
 .have hk:k.toNat=j:=by
   rw[seqIndex_of h0 h4]at h1;exact BG h1
  exact PySem.W.ki_setAt ho h0 (by omega) (by rw[AK,<-hl];exact h4) (by rw[hk];exact⟨_,I',q⟩)
 .have hk:(k +(its.toArray.size:Int)).toNat=j:=by
   rw[seqIndex_neg (by omega) h3]at h1;rw[AK,<-hl];exact BG h1
  exact PySem.W.ki_setBack ho (by omega) (by rw[AK,<-hl];exact h3) (by omega) (by rw[hk];exact⟨_,I',q⟩)
theorem w8(lo hi:Option Int)(n:Nat):(sliceBounds lo hi none n).1 =((HT.sIx n 0 lo:Nat):Int)/\(sliceBounds lo hi none n).2.1 =((HT.sIx n n hi:Nat):Int)/\(sliceBounds lo hi none n).2.2=1:=by
 refine⟨?_,?_,rfl⟩
 .cases lo with
  | none=>simp[sliceBounds,HT.sIx]
  | some i =>
   simp only[sliceBounds,HT.sIx,Option.getD_none,show(1:Int)>0 by decide,if_true];by_cases h:i<0
   .simp only[h,if_true]<;>omega
   .simp only[h,if_false]<;>omega
 .cases hi with
  | none=>simp[sliceBounds,HT.sIx]
  | some i =>
   simp only[sliceBounds,HT.sIx,Option.getD_none,show(1:Int)>0 by decide,if_true];by_cases h:i<0
   .simp only[h,if_true]<;>omega
   .simp only[h,if_false]<;>omega
theorem p5(its:List Value)(lo hi:Option Int):slicePick its.toArray lo hi none =((its.drop (HT.sIx its.length 0 lo)).take (HT.sIx its.length its.length hi-HT.sIx its.length 0 lo)).toArray:=by
 obtain⟨h1,h2,h3⟩:=w8 lo hi its.toArray.size;unfold slicePick;rw[h1,h2,h3];simp only[sliceRange_one,pick_run,AK]<;>rfl
def Ov(K:PySem.W.Frag):V->Option Int->Option Int->Hp->VK->Prop:=fun x lo hi H Q=>∃a xs,x = .ref a/\SqL K H a xs/\∀p,H p=none->Q (.ref p) (upd H p (.lst (R8 xs lo hi)))
theorem Jx:SlR X (Ov X.K):=by
 intro pins s σ H x v vl vu lo hi sl Q I rx hs pl pu h;obtain⟨a,xs,rfl,hx,q⟩:=h;cases rx;obtain⟨its,r,ht,hz⟩:=I.list hx;have hlen:=r.length;refine⟨"list",_,slot_list_getitem.lookup,ht.isList.typeIs,?_⟩;refine wpAny_getItem_list_slice ht.isList hs pl pu .none (by simp) ?_ (by rw[AK]<;>omega);rw[p5,<-hlen];refine⟨.ref s.heap.objs.size,_,I.laid (t':=s.toks) (o:=.lst (R8 xs lo hi)) (fun b ob q=>AD _ q) (AG _) ?_,rfl,q _ (I.hok.fresh (AG _))⟩;exact⟨BO (c8 xs lo hi) hz,_,0,(r.drop (HT.sIx xs.length 0 lo)).take (HT.sIx xs.length xs.length hi-HT.sIx xs.length 0 lo),AO _ rfl⟩
def r6:V->Bool
 | .non=>true
 | .bl _=>true
 | .int _=>true
 | .str _=>true
 | _=>false
def eqV:V->V->Bool
 | .non,.non=>true
 | .bl a,.bl b=>a == b
 | .bl a,.int b=>(if a then 1 else 0) == b
 | .int a,.bl b=>a ==(if b then 1 else 0)
 | .int a,.int b=>a == b
 | .str a,.str b=>a == b
 | _,_=>false
theorem Ky{A:Around}{s:Shared}{y x:V}{u v:Value}(ry:RelV y u)(rx:RelV x v)(fy:r6 y=true)(fx:r6 x=true):SeqAt.EqAt A s u v (eqV y x):=by
 cases y with
 | non =>
  cases ry;cases x with
  | non=>cases rx;exact SeqAt.EqAt.same _
  | bl b=>cases rx;exact SeqAt.EqAt.none_bool b
  | int b=>obtain⟨t,rfl⟩:=rx;exact SeqAt.EqAt.none_int b t
  | str b=>obtain⟨t,rfl⟩:=rx;exact SeqAt.EqAt.none_str b t
  | _=>exact absurd (show false=true from fx) AY
 | bl a =>
  cases ry;cases x with
  | non=>cases rx;exact SeqAt.EqAt.bool_none a
  | bl b=>cases rx;exact SeqAt.EqAt.bool_bool a b
  | int b=>obtain⟨t,rfl⟩:=rx;exact SeqAt.EqAt.bool_int a b t
  | str b=>obtain⟨t,rfl⟩:=rx;exact SeqAt.EqAt.bool_str a b t
  | _=>exact absurd (show false=true from fx) AY
 | int a =>
  obtain⟨t',rfl⟩:=ry;cases x with
  | non=>cases rx;exact SeqAt.EqAt.int_none a t'
  | bl b=>cases rx;exact SeqAt.EqAt.int_bool a t' b
  | int b=>obtain⟨t,rfl⟩:=rx;exact SeqAt.EqAt.int_int a t' b t
  | str b=>obtain⟨t,rfl⟩:=rx;exact SeqAt.EqAt.int_str a t' b t
  | _=>exact absurd (show false=true from fx) AY
 | str a =>
  obtain⟨t',rfl⟩:=ry;cases x with
  | non=>cases rx;exact SeqAt.EqAt.str_none a t'
  | bl b=>cases rx;exact SeqAt.EqAt.str_bool a t' b
  | int b=>obtain⟨t,rfl⟩:=rx;exact SeqAt.EqAt.str_int a t' b t
  | str b=>obtain⟨t,rfl⟩:=rx;exact SeqAt.EqAt.str_str a t' b t
  | _=>exact absurd (show false=true from fx) AY
 | _=>exact absurd (show false=true from fy) AY
def eqU(x:V)(u:Value):Bool:=match u with
 | .none=>eqV .non x
 | .bool b=>eqV (.bl b) x
 | .int i _=>eqV (.int i) x
 | .str z _=>eqV (.str z) x
 | _=>false
theorem Ii{x y:V}{u:Value}(r:RelV y u)(f:r6 y=true):eqU x u=eqV y x:=by
 cases y with
 | non=>cases r;rfl
 | bl b=>cases r;rfl
 | int i=>obtain⟨t,rfl⟩:=r;rfl
 | str z=>obtain⟨t,rfl⟩:=r;rfl
 | _=>exact absurd (show false=true from f) AY
theorem a8{x:V}:∀{xs:List V} {us:List Value},Vals xs us->xs.all r6=true->us.any (eqU x)=xs.any fun y=>eqV y x
 | _,_,.nil,_=>rfl
 | y::xs,u::us,.cons r t,f=>by
  rw[List.all_cons,BK]at f;rw[List.any_cons,List.any_cons,Ii r f.1,a8 t f.2]
theorem S7{A:Around}{s:Shared}{x:V}{v:Value}(rx:RelV x v)(fx:r6 x=true):∀{xs:List V} {us:List Value},Vals xs us->xs.all r6=true->∀u∈us,SeqAt.EqAt A s u v (eqU x u)
 | _,_,.nil,_=>fun u hu=>by cases hu
 | y::xs,u::us,.cons r t,f=>fun u' hu=>by
  rw[List.all_cons,BK]at f;rcases AJ.mp hu with rfl | hu
  .rw[Ii r f.1];exact Ky r rx f.1 fx
  .exact S7 rx fx t f.2 u' hu
def inV(x:V)(xs:List V):Bool:=xs.any fun y=>eqV y x
def rIn(K:PySem.W.Frag)(neg:Bool):R2:=fun x y H Q=>∃p xs,y = .ref p/\(SqL K H p xs\/SqT K H p xs)/\r6 x=true/\xs.all r6=true/\Q (.bl (if neg then !inV x xs else inV x xs)) H
theorem Ef:OpR X (compareOp .In) (rIn X.K false):=by
 intro pins s σ H x y v u Q I rx ry h;obtain⟨p,xs,rfl,hq,fx,fs,q⟩:=h;cases ry;rcases hq with hq | hq
 .obtain⟨its,r,pl,hz⟩:=I.list hq;refine SeqAt.in_listAt (eqU x) pl.isList (fun w hw=>S7 rx fx r fs w (by simpa using hw)) ⟨.bl _,H,I,rfl,?_⟩;rw[show its.toArray.any (eqU x)=its.any (eqU x) by simp,a8 r fs];exact q
 .obtain⟨its,r,pl,hz⟩:=I.tuple hq;refine SeqAt.in_tupleAt (eqU x) pl (fun w hw=>S7 rx fx r fs w (by simpa using hw)) ⟨.bl _,H,I,rfl,?_⟩;rw[show its.toArray.any (eqU x)=its.any (eqU x) by simp,a8 r fs];exact q
theorem y6:OpR X (compareOp .NotIn) (rIn X.K true):=by
 intro pins s σ H x y v u Q I rx ry h;obtain⟨p,xs,rfl,hq,fx,fs,q⟩:=h;cases ry;rcases hq with hq | hq
 .obtain⟨its,r,pl,hz⟩:=I.list hq;refine SeqAt.notIn_listAt (eqU x) pl.isList (fun w hw=>S7 rx fx r fs w (by simpa using hw)) ⟨.bl _,H,I,rfl,?_⟩;rw[show its.toArray.any (eqU x)=its.any (eqU x) by simp,a8 r fs];exact q
 .obtain⟨its,r,pl,hz⟩:=I.tuple hq;refine SeqAt.notIn_tupleAt (eqU x) pl (fun w hw=>S7 rx fx r fs w (by simpa using hw)) ⟨.bl _,H,I,rfl,?_⟩;rw[show its.toArray.any (eqU x)=its.any (eqU x) by simp,a8 r fs];exact q
theorem Aj:J0 X (.builtin "len") (fun xs H Q=>∃p ys,xs = [.ref p]/\(SqL X.K H p ys\/SqT X.K H p ys)/\Q (.int ys.length) H):=by
 intro pins s σ H xs us Q I r h;obtain⟨p,ys,rfl,hq,q⟩:=h;obtain⟨u,rfl,rx⟩:=g0 r;cases rx;have hn:=i4;rcases hq with hq | hq
 .obtain⟨its,r',pl,hz⟩:=I.list hq;have hlen:=r'.length;exact Calls.call_len_list pl.isList (by simp only[AK]<;>omega) ⟨.int ys.length,H,I.tok _,⟨s.toks+1,by rw[AK,hlen]⟩,q⟩
 .obtain⟨its,r',pl,hz⟩:=I.tuple hq;have hlen:=r'.length;exact len_tuple pl (by simp only[AK]<;>omega) ⟨.int ys.length,H,I.tok _,⟨s.toks+1,by rw[AK,hlen]⟩,q⟩
theorem An:J0 X (.builtin "len") (fun xs H Q=>∃z,xs = [.str z]/\z.length<=sizeLine/\Q (.int z.length) H):=by
 intro pins s σ H xs us Q I r h;obtain⟨z,rfl,hz,q⟩:=h;obtain⟨u,rfl,t,rfl⟩:=g0 r;have hn:=i4;exact len_str (by omega) ⟨.int z.length,H,I.tok _,⟨_,rfl⟩,q⟩
theorem Ar:J0 X (.type "list") (fun xs H Q=>∃p ys,xs = [.ref p]/\(SqL X.K H p ys\/SqT X.K H p ys)/\∀l,H l=none->Q (.ref l) (upd H l (.lst ys))):=by
 intro pins s σ H xs us Q I r h;obtain⟨p,ys,rfl,hq,q⟩:=h;obtain⟨u,rfl,rx⟩:=g0 r;cases rx;have fin:∀(its:List Value),Vals ys its->ys.length<=sizeLine->∀(h':Heap) (c':Nat),(∀b o',s.heap.get? b=some o'->h'.get? b=some o') ->
   h'.get? s.heap.objs.size=some { cls:=.type "list",dict:=none,data:=.seq its.toArray c',slots:=#[] }->EP X pins σ Q (.ref s.heap.objs.size) { s with heap:=h' }:=fun its r' hz h' c' kp e =>
  ⟨.ref s.heap.objs.size,_,I.laid (t':=s.toks) kp (AG _) (show ObjOk X.prog X.w _ h' _ (.lst ys)from⟨hz,its,c',r',e⟩),rfl,q _ (I.hok.fresh (AG _))⟩
 rcases hq with hq | hq
 .obtain⟨its,r',pl,hz⟩:=I.list hq;have hlen:=r'.length;obtain⟨o,ho,hc,n,hd⟩:=pl.isList;exact call_list_seq p (.inl rfl) ho hc hd (fun h' c' kp e=>fin its r' hz h' c' kp e) (by simp only[AK]<;>omega)
 .obtain⟨its,r',pl,hz⟩:=I.tuple hq;have hlen:=r'.length;obtain⟨o,ho,hc,n,hd⟩:=pl;exact call_list_seq p (.inr rfl) ho hc hd (fun h' c' kp e=>fin its r' hz h' c' kp e) (by simp only[AK]<;>omega)
theorem p9:J0 X (.type "tuple") (fun xs H Q=>∃p ys,xs = [.ref p]/\((SqL X.K H p ys/\∀l,H l=none->Q (.ref l) (upd H l (.tup ys)))\/(SqT X.K H p ys/\Q (.ref p) H))):=by
 intro pins s σ H xs us Q I r h;obtain⟨p,ys,rfl,h⟩:=h;obtain⟨u,rfl,rx⟩:=g0 r;cases rx;rcases h with⟨hq,q⟩ | ⟨hq,q⟩
 .obtain⟨its,r',pl,hz⟩:=I.list hq;have hlen:=r'.length;refine call_tuple_list pl.isList (fun h' kp=>?_) (by simp only[AK]<;>omega);have I1:Inv X pins σ H { s with heap:=h' }:=I.kept (t':=s.toks) kp;have I2:Inv X pins σ (upd H h'.objs.size (.tup ys)) { s with heap:=h'.push { cls:=.type "tuple",data:=.seq its.toArray } } :=
   I1.laid (t':=s.toks) (fun b o e=>AD _ e) (AG _) (show ObjOk X.prog X.w _ _ _ (.tup ys)from⟨hz,its,r',IsTup.new _ _⟩)
  exact⟨.ref h'.objs.size,_,I2,rfl,q _ (I1.hok.fresh (AG _))⟩
 .obtain⟨its,r',pl,hz⟩:=I.tuple hq;exact call_tuple_same pl ⟨.ref p,H,I,rfl,q⟩
def tyV(K:PySem.W.Frag)(T:String)(x:V)(H:Hp):Prop:=match x with
 | .str _=>T = "str"
 | .int _=>T = "int"
 | .ref p=>(T = "list"/\∃xs,SqL K H p xs)\/(T = "tuple"/\∃o,K.lookup p=some o/\o.cls = .type "tuple"/\o.dict=none) \/
   (T = "dict"/\((∃kvs,H p=some (.dK kvs))\/∃kvs,H p=some (.dT kvs)))\/(T = "set"/\∃S n,H p=some (.set S n))
 | _=>False
theorem Ib{pins:List (Addr×Obj)}{σ:St}{H:Hp}{s:Shared}{T:String}{x:V}{v:Value}(I:Inv X pins σ H s)(r:RelV x v)(ty:tyV X.K T x H) :
  s.TypeIs v T/\∀a,v = .ref a->∃ob,s.heap.get? a=some ob/\ob.dict=none:=by
 cases x with
 | str z =>
  obtain⟨t,rfl⟩:=r;cases(show T = "str" from ty);exact⟨typeIs_str s z t,fun _ e=>nomatch e⟩
 | int i =>
  obtain⟨t,rfl⟩:=r;cases(show T = "int" from ty);exact⟨typeIs_int s i t,fun _ e=>nomatch e⟩
 | ref p =>
  cases r;rcases ty with⟨rfl,xs,hq⟩ | ⟨rfl,o,hk,hc,hd⟩ | ⟨rfl,hk⟩ | ⟨rfl,S,n,hk⟩
  .obtain⟨its,_,pl,_⟩:=I.list hq;refine⟨pl.isList.typeIs,fun a e=>?_⟩;cases e;obtain⟨o,n,e,c,hd,_⟩:=pl;exact⟨o,e,hd⟩
  .refine⟨⟨o,I.kIn p o hk,hc⟩,fun a e=>?_⟩;cases e;exact⟨o,I.kIn _ o hk,hd⟩
  .have z:∃o,s.heap.get? p=some o/\o.ExactDict:=by
    rcases hk with⟨kvs,hk⟩ | ⟨kvs,hk⟩
    .obtain⟨_,_,_,_,o,_,_,e,ex,_⟩:=I.hok p _ hk;exact⟨o,e,ex⟩
    .obtain⟨_,_,_,_,o,_,_,e,ex,_⟩:=I.hok p _ hk;exact⟨o,e,ex⟩
   obtain⟨o,e,ex⟩:=z;refine⟨⟨o,e,ex.1⟩,fun a e2=>?_⟩;cases e2;exact⟨o,e,ex.2.1⟩
  .obtain⟨o,_,_,_,e,ex,_⟩:=I.hok p _ hk;refine⟨⟨o,e,ex.1⟩,fun a e2=>?_⟩;cases e2;exact⟨o,e,ex.2.1⟩
 | _=>exact False.elim ty
def Pk(K:PySem.W.Frag)(T:String)(r:V->List V->Hp->VK->Prop)(to:TE):TE:=fun σ H Q=>to σ H fun x H1=>tyV K T x H1/\r x [] H1 Q
def tBM(K:PySem.W.Frag)(T:String)(r:V->List V->Hp->VK->Prop)(to:TE)(t:TA):TE:=fun σ H Q=>to σ H fun x H1=>tyV K T x H1/\t σ H1 fun xs H2=>r x xs H2 Q
variable{o e:Expr}{es:List Expr}{to:TE}{t:TA}{name:Str}{apos cpos:Pos}{T id:String}{r:V->List V->Hp->VK->Prop}
theorem Lc(pa:PlainAttrs T)(slot:Slot T name id)(hty:typeOf (.builtin id)=pure (.type "method_descriptor"))(hm:MtR X id r)(ho:PE X o to)
  (hbase:attributeBase o name X.env (eval o X.env)=eval o X.env:=by rfl) (hline:(apos.endLine == cpos.line)=true:=by rfl):PE X (.Call (.Attribute o name apos) [] [] cpos) (Pk X.K T r to):=by
 intro pins s σ H Q I h;refine wpAny_Call_method0_late hbase hline (thn (ho pins s σ H _ I h) fun v s1 ⟨x,H1,I1,r1,ty,q1⟩=>?_);obtain⟨h1,h2⟩:=Ib I1 r1 ty;exact⟨T,id,pa,slot,hty,h1,h2,Calls.callWith_builtin rfl (PySem.evalArgs_none (hm pins s1 σ H1 x [] v [] Q I1 r1 .nil q1))⟩
theorem Ol(pa:PlainAttrs T)(slot:Slot T name id)(hty:typeOf (.builtin id)=pure (.type "method_descriptor"))(hm:MtR X id r)(ho:PE X o to)(ha:PA X (e::es) t)
  (hbase:attributeBase o name X.env (eval o X.env)=eval o X.env:=by rfl)
  (hfew:((backTo cpos (starEach (e::es) X.env)).all (fun x=>!x.1) &&(backToKw cpos (keywordEach [] X.env)).all (fun x=>x.1.isSome)
   && decide ((e::es).length +([]:List Keyword).length +(if([]:List Keyword).isEmpty then 0 else 1)<30))=true:=by rfl)
  (hline:(apos.endLine == cpos.line)=true:=by rfl) (hs:starEach (e::es) X.env =(false,eval e X.env)::starEach es X.env:=by rfl) (hplain:(backTo cpos (starEach es X.env)).any (·.1)=false:=by rfl) :
  PE X (.Call (.Attribute o name apos) (e::es) [] cpos) (tBM X.K T r to t):=by
 intro pins s σ H Q I h;refine wpAny_Call_method_late hbase hfew hline rfl (thn (ho pins s σ H _ I h) fun v s1 ⟨x,H1,I1,r1,ty,q1⟩=>?_);obtain⟨h1,h2⟩:=Ib I1 r1 ty;refine⟨T,id,pa,slot,hty,h1,h2,?_⟩;have hA:=ha cpos pins s1 σ H1 _ I1 q1;rw[hs]at hA⊢;refine Calls.callWith_builtin (by show(false||(backTo cpos (starEach es X.env)).any (·.1))=false;rw[hplain]<;>rfl) (Calls.evalArgs_plain ?_);exact thn hA fun us s2 ⟨vs,H2,I2,r2,q2⟩=>hm pins s2 σ H2 x vs v us Q I2 r1 r2 q2
end
def MtM(X:Cx)(id:String)(r:V->List V->Hp->VK->Prop):Prop :=
 ∀(pins:List (Addr×Obj)) (s:Shared) (σ:St) (H:Hp) (x:V) (xs:List V) (v:Value) (us:List Value) (Q:VK),Inv X pins σ H s->RelV x v->Vals xs us->r x xs H Q ->
  wpAny (model X.prog X.w) X.A (call (.builtin id) (v::us)) (EP X pins σ Q) X.xe s
theorem Vals.one:∀{x:V} {us:List Value},Vals [x] us->∃u,us = [u]/\RelV x u
 | _,_,.cons r .nil=>⟨_,rfl,r⟩
theorem Vals.two:∀{x y:V} {us:List Value},Vals [x,y] us->∃u v,us = [u,v]/\RelV x u/\RelV y v
 | _,_,_,.cons r (.cons q .nil)=>⟨_,_,rfl,r,q⟩
theorem Vals.zero:∀{us:List Value},Vals [] us->us = []
 | _,.nil=>rfl
theorem Vals.eraseIdx:∀{xs:List V} {us:List Value} (i:Nat),Vals xs us->Vals (xs.eraseIdx i) (us.eraseIdx i)
 | _,_,_,.nil=>.nil
 | _,_,0,.cons _ t=>t
 | _,_,i+1,.cons r t=>.cons r (Vals.eraseIdx i t)
theorem Vals.reverse{xs:List V}{us:List Value}(h:Vals xs us):Vals xs.reverse us.reverse:=by
 induction h with
 | nil=>exact .nil
 | cons r t ih=>rw[DR,DR];exact Vals.append ih (.cons r .nil)
theorem z0{α:Type}:∀(l:List α) (i:Nat),(l.eraseIdx i).length<=l.length
 | [],_=>AG _
 | _::_,0=>DZ _
 | _::r,i+1=>Nat.succ_le_succ (z0 r i)
section
variable{X:Cx}{pins:List (Addr×Obj)}{σ:St}{H:Hp}{s:Shared}{l b:Addr}{xs ys zs:List V}
theorem Inv.lset{its its':List Value}{n:Nat}{f:Array Value->Array Value}{t':Nat}(I:Inv X pins σ H s)(hH:H l=some (.lst xs))
  (e:s.heap.get? l=some { cls:=.type "list",data:=.seq its.toArray n }) (hf:f its.toArray=its'.toArray) (hv:Vals ys its') (hz:ys.length<=sizeLine) :
  Inv X pins σ (upd H l (.lst ys)) { s with heap:=s.heap.update l (Obj.mapSeq f),toks:=t' }:=by
 have q:=PySem.IsL.update e f;rw[hf]at q;refine I.write (x:=l) (e:=l) (by rw[hH];exact trivial) (.inl rfl) (fun b' u hb hu=>(Heap.get?_update_other s.heap (Obj.mapSeq f) (Ne.symm hb)).trans hu) ⟨_,q⟩ ?_;exact⟨hz,its',_,hv,q⟩
theorem Inv.lnew{its:List Value}{t':Nat}(I:Inv X pins σ H s)(hv:Vals ys its)(hz:ys.length<=sizeLine) :
  Inv X pins σ (upd H s.heap.objs.size (.lst ys)) { s with heap:=s.heap.push { cls:=.type "list",data:=.seq its.toArray },toks:=t' } :=
 I.laid (fun _ _ q=>AD _ q) (AG _) ⟨hz,its,0,hv,AO _ rfl⟩
theorem Inv.fresh(I:Inv X pins σ H s):H s.heap.objs.size=none:=I.hok.fresh (AG _)
theorem Inv.lstM(I:Inv X pins σ H s)(hH:H l=some (.lst xs)):xs.length<=sizeLine/\∃(its:List Value) (n:Nat),Vals xs its/\xs.length=its.length/\s.heap.get? l=some { cls:=.type "list",data:=.seq its.toArray n }:=by
 obtain⟨z,its,n,r,e⟩:=I.hok l _ hH;exact⟨z,its,n,r,r.length,e⟩
end
section
variable{X:Cx}
def Jt:V->List V->Hp->VK->Prop:=fun x vs H Q=>∃l xs y,x = .ref l/\vs = [y]/\H l=some (.lst xs)/\xs.length<sizeLine/\Q .non (upd H l (.lst (xs ++ [y])))
theorem E5:MtM X "list.append" Jt:=by
 intro pins s σ H x vs v us Q I rx rv h;obtain⟨l,xs,y,rfl,rfl,hH,hz,q⟩:=h;cases rx;obtain⟨u,rfl,ru⟩:=rv.one;obtain⟨z,its,n,r,hl,e⟩:=I.lstM hH;refine call_meets F.slot_list_append ⟨_,e,rfl⟩ F.entry_list_append (F.args_list_append_2 _ _) (PySem.list_append l its.toArray n u (by rw[AK];omega)) ⟨e,?_⟩;refine⟨.non,_,I.lset (its':=its ++ [u]) hH e (by simp) (r.append (.cons ru .nil)) ?_,rfl,q⟩;rw[BA,CD];omega
def Ma:V->List V->Hp->VK->Prop:=fun x vs H Q=>∃l xs i k y,x = .ref l/\vs = [.int i]/\H l=some (.lst xs)/\-(2^63)<=i/\i<2^63/\seqIndex? i xs.length=some k/\xs[k]?=some y/\Q y (upd H l (.lst (xs.eraseIdx k)))
theorem Gv:MtM X "list.pop" Ma:=by
 intro pins s σ H x vs v us Q I rx rv h;obtain⟨l,xs,i,k,y,rfl,rfl,hH,h1,h2,hk,hy,q⟩:=h;cases rx;obtain⟨u,rfl,ru⟩:=rv.one;obtain⟨t,rfl⟩:=ru;obtain⟨z,its,n,r,hl,e⟩:=I.lstM hH;obtain⟨w,hw,rw'⟩:=r.get hy;refine call_meets F.slot_list_pop ⟨_,e,rfl⟩ F.entry_list_pop (F.args_list_pop_2 _ _)
  (MeetsSeq.list_pop_at l its.toArray n i t k w (fitsIndex_both h1 h2) (by rw[AK,<-hl];exact hk) (by rw[<-Array.getElem?_toList];exact hw) (by rw[AK];omega)) ⟨e,?_⟩
 refine⟨y,_,I.lset (its':=its.eraseIdx k) hH e ?_ (r.eraseIdx k) ?_,rw',q⟩
 .show its.toArray.eraseIdxIfInBounds k =(its.eraseIdx k).toArray;rw[List.eraseIdxIfInBounds_toArray]
 .have:=z0 xs k;omega
def Hd:V->List V->Hp->VK->Prop:=fun x vs H Q=>∃l xs,x = .ref l/\vs = []/\H l=some (.lst xs)/\Q .non (upd H l (.lst xs.reverse))
theorem U9:MtM X "list.reverse" Hd:=by
 intro pins s σ H x vs v us Q I rx rv h;obtain⟨l,xs,rfl,rfl,hH,q⟩:=h;cases rx;have hus:=rv.zero;subst hus;obtain⟨z,its,n,r,hl,e⟩:=I.lstM hH;refine call_meets F.slot_list_reverse ⟨_,e,rfl⟩ F.entry_list_reverse (F.args_list_reverse_1 _) (AutoSeq1.list_reverse_list_0 l its.toArray n (by rw[AK];omega)) ⟨e,?_⟩;refine⟨.non,_,I.lset (its':=its.reverse) hH e (by simp) r.reverse ?_,rfl,q⟩;rw[DF];omega
def Qf:R2:=fun x y H Q=>∃l b xs zs,x = .ref l/\y = .ref b/\H l=some (.lst xs)/\H b=some (.lst zs)/\xs.length+zs.length<=sizeLine/\∀p,H p=none->Q (.ref p) (upd H p (.lst (xs++zs)))
theorem Co:OpR X (binaryOp .Add) Qf:=by
 intro pins s σ H x y v u Q I rx ry h;obtain⟨l,b,xs,zs,rfl,rfl,hH,hB,hz,q⟩:=h;cases rx;cases ry;obtain⟨z,its,n,r,hl,e⟩:=I.lstM hH;obtain⟨z2,its2,n2,r2,hl2,e2⟩:=I.lstM hB;refine PySem.P.add_list e e2 ?_ (by rw[AK,AK];omega);have ea:its.toArray++its2.toArray =(its++its2).toArray:=by simp
 rw[ea];exact⟨.ref _,_,I.lnew (t':=s.toks) (r.append r2) (by rw[BA];omega),rfl,q _ I.fresh⟩
end
end L2
namespace Att
open PySem PySem.W PySem.Calls PyProof.Rows
theorem Z4{P:Params}{h:Heap}:∀(ns:List Int) (vs:List Value),WellAll P h vs (ns.map WData.int)->IntsAre vs ns:=by
 intro ns
 induction ns with
 | nil =>
  intro vs w;rw[List.map_nil]at w;cases w;exact .nil
 | cons n ns ih =>
  intro vs w;rw[BR]at w;cases w with
  | cons a b =>
   cases a;exact .cons _ _ (ih _ b)
theorem Fd{l:OpenLaw}{n:Nat}(hn:l.most=some n){P:Params}{h:Heap}{args:List WData}{vals:List Value}
  (hpre:l.row.toRowW.claim.pre args=true) (hwl:WellAll P h vals args) :
  ∃a vs ns,vals = [Value.ref a]/\args = [WData.list (ns.map WData.int)]/\h.get? a=some { cls:=.type "list",data:=.seq vs.toArray }/\IntsAre vs ns/\ns.length<=n:=by
 have hsh:WShape.hasAll [] args [.list .int]=true:=(pre_splitW hpre).1;have hc:l.pre.holds [] { args:=args }=true:=(pre_splitW hpre).2;obtain⟨d,r,rfl,h1,h2⟩:=hasAllW_cons hsh;obtain rfl:=hasAllW_nil h2;obtain⟨xs,rfl,h3⟩:=hasW_list h1;obtain⟨ns,rfl⟩:=items_int h3;have hlen:ns.length<=n:=by
  unfold OpenLaw.pre at hc;have h4:(WTm.not (.lt (.lit (.int (n:Int))) (.len (.arg 0)))).holds [] { args:=[.list (ns.map .int)] }=true:=by
   have h4:=(holds_andW hc).1;rw[hn]at h4;exact h4
  have h5:=condW_of h4 (w_not (w_lt w_lit (w_len_list (w_arg rfl))));rw[AA]at h5;refine Nat.le_of_not_lt fun q=>?_;have q':(n:Int) <((ns.length:Nat):Int):=by omega
  first
   | (rw[AQ q']at h5;exact absurd h5 (by decide))
   | (simp at h5;omega)
 cases hwl with
 | cons w1 w2 =>
  cases w2;cases w1 with
  | list ho hall=>exact⟨_,_,ns,rfl,rfl,ho,Z4 ns _ hall,hlen⟩
theorem Gc(l:OpenLaw)(args:List WData):l.row.toRowW.claim.post args (.bool true) args=true :=
 postW_of (r:=l.row.toRowW) (X:=(true == true))
  (show WShape.has [] (.bool true) .bool=true by first | rfl | decide | simp[WShape.has,WShape.arms,WShape.armsAll])
  (show(WTm.eq .res (.lit (.bool true))).value [] { args:=args,res:=some (.bool true),after:=args }=some (.bool (true == true))from w_eq_bool (w_res rfl) w_lit) rfl
theorem attach_call{l:OpenLaw}{n:Nat}{q:Program}{loose:List Str}{XP:(Str->Option Value)->Heap->Prop}{YP:World->Heap->Prop}{d:DefRec}
  (hn:l.most=some n) (hdf:d.params.defaults = [])
  (call:∀(w:World) (s₀ s₁:Shared) (mg mb:Str->Option Value) (fa:Addr) (o:Obj) (pm cd doc:Value) (a:Addr) (vs:List Value) (ns:List Int),
   Ground q loose [] XP w s₀ mg mb s₁.heap->YP w s₁.heap ->
   s₁.heap.get? fa=some o->o.data = .func (docDef d.name d.params d.body d.scope pm cd doc)->s₁.heap.CodeRec cd d.name->mg d.name=some (.ref fa) ->
   s₁.heap.get? a=some { cls:=.type "list",data:=.seq vs.toArray }->IntsAre vs ns->ns.length<=n->s₁.gens = #[] ->
   codeAny (model l.prog w) callerA (.call (.ref fa) ⟨[.ref a],[]⟩) (fun r s'=>r = .ok (.ret (.bool true))/\OldK s₁.heap s'.heap/\s'.os=s₁.os/\AllBare s'.gens) s₁) :
  WalkO q loose XP YP l.row.toRowW d [] (fun f vs=>PySem.call f vs):=by
 intro w s₀ s₁ mg mb G Y fa o pm cd doc dV kV ho hd hcd hD hmg hg args vals as hpre hlay hrd hwl hlo;obtain rfl:dV = .none:=Dflts.none hD hdf;obtain rfl:kV = .none:=Dflts.noKw hD;obtain⟨a,vs,ns,rfl,rfl,hobj,hints,hlen⟩:=Fd hn hpre hwl;refine enter_call (DD (call w s₀ s₁ mg mb fa o pm cd doc a vs ns G Y ho (fd_plain hd) hcd hmg hobj hints hlen hg) fun r s' hq=>?_);obtain⟨rfl,h2,h3,h4⟩:=hq;exact⟨.inl ⟨.bool true,.bool true,[],rfl,fun _=>rfl,.bool true,Gc l _,fun _=>⟨List.Pairwise.nil,fun _ hm=>(nomatch hm)⟩⟩,h2,h3,h4⟩
end Att
namespace L2
open PySem PySem.Spec PyProof.Rows
theorem x6:∀{vs:List Value} {ns:List Int},IntsAre vs ns->Vals (ns.map V.int) vs
 | _,_,.nil=>.nil
 | _,_,.cons n t h=>.cons ⟨t,rfl⟩ (x6 h)
def Jv(s:Stmt)(j:Nat):Stmt:=match s with
 | .ClassDef _ _ _ body _ _ _ _ _ _ _=>body.getD j (.Pass ⟨0,0,0,0⟩)
 | _=>.Pass ⟨0,0,0,0⟩
def O8(s:Stmt):Arguments:=match s with
 | .FunctionDef _ a _ _ _ _ _ _ _ _=>a
 | _=>{ posonlyargs:=[],args:=[],vararg:=none,kwonlyargs:=[],kw_defaults:=[],kwarg:=none,defaults:=[] }
def K6(s:Stmt):List Stmt:=match s with
 | .FunctionDef _ _ b _ _ _ _ _ _ _=>b
 | _=>[]
def B6(s:Stmt):Scope:=match s with
 | .FunctionDef _ _ _ _ _ _ sc _ _ _=>sc
 | _=>{ kind:=.function,names:=[],isGenerator:=false,isCoroutine:=false }
abbrev CX0:CXT:=fun _ _ _ _ _ _=>False
abbrev E0:XK:=fun _ _ _=>False
theorem Dn{X:Cx}:As CX0 X E0:=fun _ _ _ _ _ _ _ h=>h.elim
structure Fun(K:PySem.W.Frag)(x qual:Str)(st:Stmt)(f:Addr)(fd:FuncData):Prop where
 ex:∃(oc:Value) (od:Option Addr) (kV doc pm:Value) (an:Option Addr) (cdv ct:Value) (osl:Array (Option Value)),
  fd=PySem.W.fnOf x qual (O8 st) (K6 st) (B6 st) .none kV doc pm an cdv ct/\K.lookup f=some ⟨oc,od,.func fd,osl⟩/\PySem.W.codeIn K cdv qual=true
 kp:PySem.W.keepIn K (.ref f)=true
section
variable{P:Program}{w:World}{K:PySem.W.Frag}{mg:Str->Option Value}{base:Heap}
theorem Fun.ok{x qual:Str}{st:Stmt}{f:Addr}{fd:FuncData}{N ps:List Str}{k:Nat}{sp:Sp}(F:Fun K x qual st f fd)(S:FnScope N ps (B6 st))(len:∀vs H Q E,sp vs H Q E->vs.length=ps.length)
  (hbody:∀(cdv:Value) (A:Around) (outer:List Env) (s:Shared) (H:Hp) (vs:List V) (Q:VK) (E:XK),Room k (A.deeper (envOfC qual (B6 st) s.heap.objs.size f cdv))->sp vs H Q E ->
   ∃t,PSs (Jg CX0 P w K mg base N qual (B6 st) f cdv A outer s H E).nox (K6 st) t/\t { nx:=fun _ H'=>Q .non H',rt:=Q } (t9 N vs) H):FnOk P w K mg base CX0 (k+1) f fd ps sp:=by
 obtain⟨oc,od,kV,doc,pm,an,cdv,ct,osl,rfl,lk,hcd⟩:=F.ex;refine Lg lk hcd S len fun A outer s H vs Q E hr hsp=>?_;obtain⟨t,h,q⟩:=hbody cdv A outer s H vs Q E hr hsp;exact⟨t,h.nox,q⟩
theorem Fun.binds{x qual:Str}{st:Stmt}{f:Addr}{fd:FuncData}{ps:List Str}(F:Fun K x qual st f fd)
  (h:∀(kV doc pm:Value) (an:Option Addr) (cdv ct:Value) (us:List Value),us.length=ps.length->bindArgs (PySem.W.fnOf x qual (O8 st) (K6 st) (B6 st) .none kV doc pm an cdv ct) ⟨us,[]⟩=pure (ps.zip us)):Binds K fd ps []:=by
 obtain⟨oc,od,kV,doc,pm,an,cdv,ct,osl,rfl,lk,hcd⟩:=F.ex;exact .all (h kV doc pm an cdv ct)
theorem fun_mk{x qual:Str}{st:Stmt}{f:Addr}{oc:Value}{od an:Option Addr}{osl:Array (Option Value)}{kV doc pm cdv ct:Value}(l:K.lookup f=some ⟨oc,od,.func (PySem.W.fnOf x qual (O8 st) (K6 st) (B6 st) .none kV doc pm an cdv ct),osl⟩)
  (c:PySem.W.codeIn K cdv qual=true) (k:PySem.W.keepIn K (.ref f)=true):Fun K x qual st f (PySem.W.fnOf x qual (O8 st) (K6 st) (B6 st) .none kV doc pm an cdv ct):=⟨⟨oc,od,kV,doc,pm,an,cdv,ct,osl,rfl,l,c⟩,k⟩
end
theorem Oj{A:Around}{k:Nat}(hr:Room k A):A.units+1<cLine:=Nat.lt_of_le_of_lt (Nat.add_le_add_left (by decide:1<=64) _) hr.units
section
variable{X:Cx}
theorem pv(i:Nat){x:Str}{pos:Pos}(hN:X.N[i]?=some x:=by rfl)(hv:Vis X.env.scope x:=by first | exact Or.inl rfl | exact Or.inr (Or.inl rfl) | exact Or.inr (Or.inr rfl))(hd:(x ==("__debug__":Str))=false:=by decide)
  (hcd:(x ==("__classdict__":Str))=false:=by decide):PE X (.Name x pos) (Nw i):=Ik hN hv hd hcd
end
theorem X1{A B:Prop}(h:B):if false=true then A else B:=by
 rw[BF AY];exact h
theorem X2{A B:Prop}(h:A):if true=true then A else B:=by
 rw[BI rfl];exact h
theorem Au{c A B:Prop}[Decidable c](h1:c->A)(h2:¬c->B):if c then A else B:=by
 by_cases h:c
 .rw[BI h];exact h1 h
 .rw[BF h];exact h2 h
def Same(H H':Hp):Prop:=∀b o,H b=some o->H' b=some o
theorem Same.refl(H:Hp):Same H H:=fun _ _ h=>h
theorem Same.trans{H H1 H2:Hp}(a:Same H H1)(b:Same H1 H2):Same H H2:=fun c o h=>b c o (a c o h)
theorem Same.free{H H':Hp}(e:Same H H'){l:Addr}(h:H' l=Option.none):H l=Option.none:=by
 cases q:H l with
 | none=>rfl
 | some o =>
  rw[e l o q]at h;cases h
section
variable{U:Type}[DecidableEq U]
theorem Fi:∀{l:List U} {k:U},l.Nodup->¬k∈l->(l ++ [k]).Nodup
 | [],k,_,_=>by simp
 | a::r,k,h,hk=>by
  obtain⟨h1,h2⟩:=B_.mp h;show(a ::(r ++ [k])).Nodup;refine B_.mpr ⟨fun m=>?_,Fi h2 fun m=>hk (AJ.mpr (Or.inr m))⟩;rcases A_.mp m with q | q
  .exact h1 q
  .exact hk (AJ.mpr (Or.inl (AC.mp q).symm))
end
def cxC(X:Cx)(scope:Scope)(cl:List (Str×Addr))(N':List Str)(pins:List (Addr×Obj))(ex:List Addr)(s3:Shared)(H3:Hp):Cx where
 prog:=X.prog
 w:=X.w
 K:=X.K
 mg:=X.mg
 base:=X.base
 A:=X.A
 N:=N'
 s₀:=s3
 H₀:=H3
 env:=compEnvC scope cl s3.heap.objs.size X.env
 outer:=X.stack
 stack:=X.stack
 ex:=ex
 fn:=fun _=>false
 calm:=X.calm
 pn:=X.pn++pins
 xe:=fun _ _=>False
def Caps(X:Cx)(scope:Scope)(cl:List (Str×Addr)):List Str->List (Option Nat)->Prop
 | [],[]=>True
 | _::N,none::c=>Caps X scope cl N c
 | x::N,some j::c=>(X.N[j]?=some x/\X.env.scope.names.lookup x=some .cell/\(relabel scope X.env).names.lookup x=some .cell/\cl.lookup x=X.env.cells.lookup x)/\Caps X scope cl N c
 | _,_=>False
def ClIn(X:Cx):List (Str×Addr)->Prop
 | []=>True
 | p::r=>X.env.cells.lookup p.1=some p.2/\ClIn X r
structure CScope(X:Cx)(scope:Scope)(cl:List (Str×Addr))(N':List Str)(cap:List (Option Nat)):Prop where
 kind:scope.kind = .function
 nocell:∀y∈scope.names,y.2≠ .cell
 loc:∀y∈scope.names,y.2 = .local->scope.names.lookup y.1=some .local
 clos:closureFor scope X.env=pure cl
 cin:ClIn X cl
 has:((relabel scope X.env).names.all fun y=>!(y.2 == .cell||y.2 == .free)||(cl.lookup y.1).isSome)=true
 caps:Caps X scope cl N' cap
def Ho(cap:List (Option Nat))(σ:St):St:=cap.map fun o=>o.bind fun j=>(σ[j]?).join
theorem ClIn.get{X:Cx}:∀{cl:List (Str×Addr)} {x:Str} {c:Addr},ClIn X cl->cl.lookup x=some c->X.env.cells.lookup x=some c
 | [],_,_,_,h=>by simp at h
 | (y,d)::r,x,c,⟨h1,h2⟩,h=>by
  rw[DW]at h;cases e:x == y with
  | true =>
   rw[e]at h;cases h;rw[beq_iff_eq.mp e];exact h1
  | false =>
   rw[e]at h;exact ClIn.get h2 h
theorem Caps.len{X:Cx}{scope:Scope}{cl:List (Str×Addr)}:∀{N:List Str} {cap:List (Option Nat)},Caps X scope cl N cap->cap.length=N.length
 | [],[],_=>rfl
 | _::N,none::c,h=>by rw[BM,BM,Caps.len (N:=N) (cap:=c) h]
 | _::N,some j::c,h=>by rw[BM,BM,Caps.len h.2]
 | [],_::_,h=>h.elim
 | _::_,[],h=>h.elim
theorem Caps.get{X:Cx}{scope:Scope}{cl:List (Str×Addr)}{j:Nat}{x:Str}:∀{N:List Str} {cap:List (Option Nat)} {i:Nat},Caps X scope cl N cap->N[i]?=some x->cap[i]?=some (some j) ->
  X.N[j]?=some x/\X.env.scope.names.lookup x=some .cell/\(relabel scope X.env).names.lookup x=some .cell/\cl.lookup x=X.env.cells.lookup x
 | [],_,_,_,h,_=>by simp at h
 | _::_,[],_,_,_,h=>by simp at h
 | y::N,none::c,0,_,_,h=>by simp at h
 | y::N,none::c,i+1,h,h1,h2=>Caps.get (N:=N) (cap:=c) (i:=i) h (by simpa using h1) (by simpa using h2)
 | y::N,some k::c,0,h,h1,h2=>by
  simp at h1 h2;subst h1;subst h2;exact h.1
 | y::N,some k::c,i+1,h,h1,h2=>Caps.get (N:=N) (cap:=c) (i:=i) h.2 (by simpa using h1) (by simpa using h2)
section
variable{X:Cx}{scope:Scope}{cl:List (Str×Addr)}{N':List Str}{cap:List (Option Nat)}{pins:List (Addr×Obj)}{σ:St}{H3:Hp}{s3:Shared}{ex:List Addr}
theorem i7{p:NameKind->Bool}:∀{names:List (Str×NameKind)} {q:Str->NameKind->Bool} {x:Str} {k:NameKind},(names.all fun y=>q y.1 y.2)=true->names.lookup x=some k->q x k=true
 | [],_,_,_,_,h=>by simp at h
 | (y,d)::r,q,x,k,ha,h=>by
  rw[List.all_cons,BK]at ha;rw[DW]at h;cases e:x == y with
  | true =>
   rw[e]at h;cases h;rw[beq_iff_eq.mp e];exact ha.1
  | false =>
   rw[e]at h;exact i7 (p:=p) (names:=r) (q:=q) ha.2 h
theorem Inv.block(I:Inv X pins σ H3 s3)(S:CScope X scope cl N' cap)(hc:X.calm=true)(hex:∀b∈ex,l9 X pins H3 b/\∃o,s3.heap.get? b=some o){h1:Heap}{tk:Nat}
  (hns:h1.Ns s3.heap.objs.size (fun _=>none)) (hk:∀b o,s3.heap.get? b=some o->h1.get? b=some o) :
  Inv (cxC X scope cl N' pins ex s3 H3) [] (Ho cap σ) H3 { s3 with heap:=h1,toks:=tk }:=by
 have lt3:∀b o,s3.heap.get? b=some o->b≠s3.heap.objs.size:=fun b o e=>AS (AF e);have hcell:∀x c,cl.lookup x=some c->∃v,s3.heap.IsCell c v:=fun x c e=>I.cell x c (S.cin.get e);have hfree:H3 s3.heap.objs.size=none:=I.hok.fresh (AG _);refine⟨⟨I.ok.mod,?_,I.ok.glob,I.ok.blt,AG _,fun x y c e1 e2=>I.ok.inj x y c (S.cin.get e1) (S.cin.get e2),fun x hx=>?_,fun x c h _=>absurd h AY,I.ok.hd,I.ok.frames,.inl rfl,fun b hb=>?_,I.bs,BO I.ok.bsz I.sz,fun b o e hb=>?_,fun b hb=>?_,I.stack,I.stkFree⟩,
  rfl,I.bare,Un.kept hk,⟨_,hns,fun i x v e1 e2 e3=>?_⟩,fun x c e=>?_,hfree,fun x c e=>I.freeC x c (S.cin.get e),fun p hp=>?_,I.hok.kept hk,?_⟩
 .exact S.kind
 .have q:∀k,(relabel scope X.env).names.lookup x=some k->(!(k == .cell||k == .free)||(cl.lookup x).isSome)=true:=fun k e=>i7 (p:=fun _=>true) (q:=fun a k=>!(k == .cell||k == .free)||(cl.lookup a).isSome) S.has e;have hx':(relabel scope X.env).names.lookup x=some .cell\/(relabel scope X.env).names.lookup x=some .free:=hx;have:(cl.lookup x).isSome=true:=by
   rcases hx' with e | e
   .exact q _ e
   .exact q _ e
  exact CS.mp this
 .obtain⟨⟨_,_,_,_,f4,_⟩,o,e⟩:=hex b hb;exact⟨lt3 b o e,fun x c ec=>f4 x c (S.cin.get ec)⟩
 .obtain⟨⟨f0,f1,f2,f3,_⟩,_⟩:=hex b hb;rcases f3 with f3 | f3
  .exact I.ok.noex b o e f3
  .have:=(I.ok.bs b o e).1;exact absurd (BD (AF this) f3) (CY _)
 .intro hf;obtain⟨⟨_,f1,f2,_⟩,_⟩:=hex b hb;rcases AJ.mp (I.stkSub b hf)with z | z
  .exact f1 z
  .exact f2 z
 .unfold Ho at e2;rw[AH]at e2;cases ec:cap[i]? with
  | none=>rw[ec]at e2;cases e2
  | some o =>
   rw[ec]at e2;cases o with
   | none=>cases e2
   | some j =>
    have e2':(σ[j]?).join=some v:=BG e2;obtain⟨c1,c2,c3,c4⟩:=S.caps.get e1 ec;have ej:σ[j]?=some (some v):=by
     cases ej:σ[j]? with
     | none=>rw[ej]at e2';cases e2'
     | some z=>rw[ej]at e2';cases z with
      | none=>cases e2'
      | some z=>cases e2';rfl
    obtain⟨m,hn,hl⟩:=I.loc;obtain⟨u,r,l⟩:=hl j x v c1 ej (.inr (.inl c2));refine⟨u,r,?_⟩;rcases l with⟨k,_⟩ | ⟨_,c,hc',hcell'⟩
    .have:X.env.scope.names.lookup x=some .local:=k;rw[c2]at this;cases this
    .exact .inr ⟨.inl c3,c,c4.trans hc',let⟨o,ho,hd⟩:=hcell';⟨o,hk _ _ ho,hd⟩⟩
 .obtain⟨v,o,ho,hd⟩:=hcell x c e;exact⟨v,o,hk _ _ ho,hd⟩
 .have hp':p∈X.pn++pins:=by simpa [cxC] using hp
  obtain⟨e,n,ne,nf,d⟩:=I.pin p hp';refine⟨hk _ _ e,n,lt3 _ _ e,fun hf=>?_,d⟩;rcases AJ.mp (I.stkSub p.1 hf)with z | z
  .exact ne z
  .exact nf z
 .unfold Ho;rw[AA];exact S.caps.len
theorem Inv.unblock{σ':St}{H':Hp}{s':Shared}{h':Heap}(I:Inv X pins σ H3 s3)(hex:∀b∈ex,l9 X pins H3 b)(J:Inv (cxC X scope cl N' pins ex s3 H3) [] σ' H' s')(hb:Heap.SameBut s3.heap.objs.size s'.heap h') :
  Inv X pins σ H' { s' with heap:=h' }:=by
 have hfr:H' s3.heap.objs.size=none:=J.free;refine I.call' (ch:=ex) J.os ⟨fun b o e n h1 h2=>?_,fun b o e n h1 h2=>?_,fun b o e n h2=>?_,fun b o e h2=>?_,J.base.tups,J.base.frzs,J.base.tbls⟩ (fun b ob e=>?_) J.bare fun b hbx=>?_
 .exact(hb.2 b (AS (AF e))).trans (J.base.keep b o e n h1 h2)
 .obtain⟨sl,q⟩:=J.base.slot b o e n h1 h2;exact⟨sl,(hb.2 b (AS (AF e))).trans q⟩
 .exact J.base.free b o e n h2
 .obtain⟨o',q⟩:=J.base.there b o e h2;exact⟨o',(hb.2 b (AS (AF e))).trans q⟩
 .refine(J.hok b ob e).stay (fun c w' hc q=>(hb.2 c ?_).trans q) (fun _ q=>q) fun _ _ q=>q;rintro rfl;rcases hc with z | z
  .rw[<-z,hfr]at e;cases e
  .rw[hfr]at z;cases z
 .obtain⟨_,f1,_,f3,f4,f5⟩:=hex b hbx;exact⟨f3,f1,f4,f5⟩
end
def Fy(e:Expr)(d:Nat)(iter tg:Expr)(ifs:List Expr)(emit:Sem Fin->Sem Fin)(it acc:Value)(env:Env):Sem Fin:=do
 standAt iter.pos
 match <-pyNext it with
 | none=>pure (.done .next)
 | some v =>
  letOwnedTupleGo tg it v
  assign tg env v
  let mut ok:=true
  for c in ifs do
   if ok then ok <-isTrue c env (eval c env)
  if ok then emit (again (.compLoop e d it acc env))else again (.compLoop e d it acc env)
def emL(elt:Expr)(acc:Value)(env:Env)(k:Sem Fin):Sem Fin:=(do let _ <-call (.builtin "list.append") [acc,<-eval elt env]:Sem Unit) >>= fun _=>k
theorem j5(elt tg iter:Expr)(ifs:List Expr)(scope:Scope)(pos:Pos)(it acc:Value)(env:Env) :
  compTurn (.ListComp elt [⟨tg,iter,ifs,0⟩] scope pos) 0 it acc env=Fy (.ListComp elt [⟨tg,iter,ifs,0⟩] scope pos) 0 iter tg ifs (emL elt acc env) it acc env:=rfl
abbrev TEm:=St->Hp->(St->Hp->Prop)->Prop
def PEm(X:Cx)(emit:Sem Fin->Sem Fin)(t:TEm):Prop :=
 ∀(pins:List (Addr×Obj)) (s:Shared) (σ:St) (H:Hp) (Q:St->Hp->Prop) (k:Sem Fin) (F:Fin->Shared->Prop) (E:Value->Shared->Prop),Inv X pins σ H s->t σ H Q ->
  (∀s' σ' H',Inv X pins σ' H' s'->Q σ' H'->wpAny (model X.prog X.w) X.A k F E s')->wpAny (model X.prog X.w) X.A (emit k) F E s
def PTs(X:Cx)(ifs:List Expr)(t:TT):Prop :=
 ∀(pins:List (Addr×Obj)) (s:Shared) (σ:St) (H:Hp) (Q:Bool->Hp->Prop),Inv X pins σ H s->t σ H Q ->
  wpAny (model X.prog X.w) X.A (forIn ifs true fun c r=>if r=true then do let ok <-isTrue c X.env (eval c X.env);pure (ForInStep.yield ok)else pure (ForInStep.yield r)) (TP X pins σ Q) X.xe s
def Kb:TT:=fun _ H Q=>Q true H
theorem E1{X:Cx}:PTs X [] Kb:=fun _ _ _ H _ I h=>wpAny_tests_nil ⟨H,I,h⟩
theorem Ix{X:Cx}{c:Expr}{t:TT}(h:PT X c t):PTs X [c] t:=fun pins s σ H Q I q=>wpAny_tests_one (h pins s σ H Q I q)
def Kt(g:TG)(tc:TT)(em:TEm)(J:It)(σ:St)(H:Hp)(Q:St->Hp->Prop):Prop :=
 ∃W:Nat->Nat->St->Hp->Prop,(∃m,W 0 m σ H)/\∀i m σ H,W i m σ H->(J.stop i H/\Q σ H)\/(J.go i H/\∀x H',J.yld i H x H'->g x σ H' fun σ2 H2=>tc σ2 H2 fun b H3 =>
  if b=true then em σ2 H3 fun σ3 H4=>∃m',m' < m/\W (i+1) m' σ3 H4 else ∃m',m' < m/\W (i+1) m' σ2 H3)
section
variable{X:Cx}{e tg iter:Expr}{d:Nat}{ifs:List Expr}{emit:Sem Fin->Sem Fin}{it:Addr}{acc:Value}{g:TG}{tc:TT}{em:TEm}{J:It}{fp:List Addr}{tn:Nat->Heap->Prop}{R:Result->Shared->Prop}
theorem Ag(hun:X.A.under (.compLoop e d (.ref it) acc X.env)=X.A)(hden:(model X.prog X.w).den (.compLoop e d (.ref it) acc X.env) =(compTurn e d (.ref it) acc X.env).onRaise (fun x=>do noteFrame x X.env;theTreesLotGoes x))(hc:X.calm=true)(hxe:X.xe=fun _ _=>False)(hct:compTurn e d (.ref it) acc X.env=Fy e d iter tg ifs emit (.ref it) acc X.env)(hg:PG X tg g)(ht:PTs X ifs tc)(hem:PEm X emit em)
  (T:Turn X.prog X.w X.K tg J fp it tn) {pins:List (Addr×Obj)} {s:Shared} {σ:St} {H:Hp} {Q:St->Hp->Prop} (I:Inv X pins σ H s) (st:tn 0 s.heap) (hf:∀b∈fp,l9 X pins H b) (h:Kt g tc em J σ H Q)
  (hR:∀s' σ' H',Inv X pins σ' H' s'->Q σ' H'->R (.ok .next) s'):codeAny (model X.prog X.w) X.A (.compLoop e d (.ref it) acc X.env) R s:=by
 obtain⟨W,⟨m0,w0⟩,turn⟩:=h;have stat:∀{H':Hp},(∀b∈fp,H' b=none)->∀b∈fp,l9 X pins H' b:=fun hn b hb=>⟨hn b hb,(hf b hb).2⟩;have no:∀{α:Type} {m:Sem α} {P:α->Shared->Prop} {E:Value->Shared->Prop} {s:Shared},wpAny (model X.prog X.w) X.A m P X.xe s->wpAny (model X.prog X.w) X.A m P E s:=fun q=>by
  rw[hxe]at q;exact BV q (fun _ _ z=>z) fun _ _ z=>z.elim
 refine codeAny_loop rfl (fun n s'=>∃i σ' H',Inv X pins σ' H' s'/\tn i s'.heap/\(∀b∈fp,H' b=none)/\W i n σ' H') (fun n s3 hI=>?_) m0 ⟨0,σ,H,I,st,fun b hb=>(hf b hb).1,w0⟩;obtain⟨i,σ3,H3,I3,st3,fr3,w3⟩:=hI;rw[hun,hden];refine wpAny_noted ?_;rw[hct];unfold Fy;refine AB (DH (AB ?_));rcases turn i n σ3 H3 w3 with⟨stop,qn⟩ | ⟨go,step⟩
 .refine BV (T.done X rfl rfl rfl hc i pins s3 σ3 H3 _ I3 (stat fr3) st3 stop) (fun r s4 ⟨hr,I4⟩=>?_) fun _ _ z=>z;subst hr;exact AE (hR s4 σ3 H3 I4 qn)
 .refine BV (T.item X rfl rfl rfl hc i pins s3 σ3 H3 _ I3 (stat fr3) st3 go) (fun r s4 ⟨u,hr,h4⟩=>?_) fun _ _ z=>z;subst hr;refine AB (BV h4 (fun _ s5 ⟨x,H5,I5,r5,y5,st5,fr5⟩=>?_) fun _ _ z=>z);have I5':=I5.pinned (stat fr5) (T.obj _ _ st5);have again:∀{σ7:St} {H7:Hp} {s7:Shared},Inv X (pins++w6 fp s5.heap) σ7 H7 s7->(∃m',m' < n/\W (i+1) m' σ7 H7)->∃m,m<n/\∃i σ' H',Inv X pins σ' H' s7/\tn i s7.heap/\(∀b∈fp,H' b=none)/\W i m σ' H':=fun{σ7 H7 s7} I7 n7=>by
   obtain⟨m',hm,w7⟩:=n7;refine⟨m',hm,i+1,σ7,H7,I7.unpinned,T.keep _ _ _ st5 fun b hb o e=>(I7.pin (b,o) (BE _ (BE _ (P7 hb e)))).1,fun b hb=>?_,w7⟩;obtain⟨o,e,d⟩:=T.obj _ _ st5 b hb;exact(I7.pin (b,o) (BE _ (BE _ (P7 hb e)))).2.1
  refine AB (BV (no (hg _ s5 σ3 H5 x u _ I5' r5 (step x H5 y5))) (fun _ s6 ⟨σ6,H6,I6,q6⟩=>?_) fun _ _ z=>z);refine AB (BV (no (ht _ s6 σ6 H6 _ I6 q6)) (fun ok s7 ⟨H7,I7,q7⟩=>?_) fun _ _ z=>z);cases ok with
  | false=>exact AE ⟨rfl,again I7 q7⟩
  | true =>
   exact hem _ s7 σ6 H7 _ _ _ _ I7 q7 fun s8 σ8 H8 I8 q8=>AE ⟨rfl,again I8 q8⟩
theorem i8(hun:X.A.under (.compStart e d (.ref it) acc X.env)=X.A)(hden:(model X.prog X.w).den (.compStart e d (.ref it) acc X.env) =(compStart e d (.ref it) acc X.env).onRaise (fun x=>do noteFrame x X.env;standAt theWindowsPlace)){gs:List Comprehension}(hgs:clausesOf e=gs)(hd:gs[d]?=some ⟨tg,iter,ifs,0⟩){s:Shared}(T:Turn X.prog X.w X.K tg J fp it tn)(st:tn 0 s.heap)
  (h:codeAny (model X.prog X.w) X.A (.compLoop e d (.ref it) acc X.env) R s):codeAny (model X.prog X.w) X.A (.compStart e d (.ref it) acc X.env) R s:=by
 refine codeAny_of_tree ?_;rw[hun,hden];refine wpAny_notedAt ?_;unfold compStart;rw[hgs,hd];show wpAny _ X.A (ask >>= _) _ _ s;refine AB (wpAny_askSetting (wpAny_ite ?_));have h1:=T.self X.A 0 s (fun it' s'=>codeAny (model X.prog X.w) X.A (.compLoop e d it' acc X.env) R s') (notedBy (model X.prog X.w) X.A X.env fun x s'=>R (.error x) s') st h;split
 .first
   | exact AB (AE (AE (And.intro rfl h)))
   | exact AE (And.intro rfl h)
 .first
   | exact AB (DA (AB (DH (AB (BV h1 (fun it' s' h'=>AE (And.intro rfl h')) fun _ _ x=>x)))))
   | (refine AB (DA ?_);show wpAny _ _ (standAt iter.pos >>= _) _ _ s;exact AB (DH (AB (BV h1 (fun it' s' h'=>AE (And.intro rfl h')) fun _ _ x=>x))))
end
section
variable{X:Cx}{tg iter:Expr}{ifs:List Expr}{g:TG}{tc:TT}{em:TEm}{scope:Scope}{cl:List (Str×Addr)}{N':List Str}{cap:List (Option Nat)}{pos:Pos}{wi:TI}
def Fp(wi:TI)(o:Addr->HO)(cap:List (Option Nat))(lp:Addr->It->St->Hp->(St->Hp->Prop)->Prop):TE:=fun σ H Q=>wi σ H fun J H1=>∀D,H1 D=none->lp D J (Ho cap σ) (upd H1 D (o D)) fun _ H2=>Q (.ref D) H2
theorem Hi{e:Expr}{gs:List Comprehension}{newAcc:Sem Value}{p2:Pos}(hcl:clausesOf e =⟨tg,iter,ifs,0⟩::gs)(o:Addr->HO)(hs:∀x,foldedSetIterable iter X.env x=pure x)(S:CScope X scope cl N' cap)(hc:X.calm=true)(hi:PI X tg iter wi)
  {lp:Addr->It->St->Hp->(St->Hp->Prop)->Prop}
  (hnew:∀(pins:List (Addr×Obj)) (s:Shared) (σ:St) (H:Hp) (Q:Value->Shared->Prop) (E:Value->Shared->Prop),Inv X pins σ H s->(∀s',Inv X pins σ (upd H s.heap.objs.size (o s.heap.objs.size)) s'->(∀b ob,s.heap.get? b=some ob->s'.heap.get? b=some ob)->Q (.ref s.heap.objs.size) s')->wpAny (model X.prog X.w) X.A newAcc Q E s)
  (hlp:∀(pins:List (Addr×Obj)) (ex:List Addr) (s3:Shared) (H3:Hp) (D it:Addr) (fp:List Addr) (tn:Nat->Heap->Prop) (J:It) (σ:St) (s:Shared) (H:Hp) (Q:St->Hp->Prop) (R:Result->Shared->Prop),
   Turn X.prog X.w X.K tg J fp it tn->Inv (cxC X scope cl N' pins ex s3 H3) [] σ H s->tn 0 s.heap->(∀b∈fp,l9 (cxC X scope cl N' pins ex s3 H3) [] H b)->lp D J σ H Q ->
   (∀s' σ' H',Inv (cxC X scope cl N' pins ex s3 H3) [] σ' H' s'->Q σ' H'->R (.ok .next) s') ->
   codeAny (model X.prog X.w) X.A (.compLoop e 0 (.ref it) (.ref D) (compEnvC scope cl s3.heap.objs.size X.env)) R s)
  (hun:∀it D env,X.A.under (.compStart e 0 (.ref it) (.ref D) env)=X.A) (hden:∀it D env,(model X.prog X.w).den (.compStart e 0 (.ref it) (.ref D) env) =(compStart e 0 (.ref it) (.ref D) env).onRaise (fun x=>do noteFrame x env;standAt theWindowsPlace))
  (hev:∀E Q s,wpAny (model X.prog X.w) X.A (comprehension e scope X.env p2 newAcc false (eval iter X.env)) Q E s->wpAny (model X.prog X.w) X.A (eval e X.env) Q E s) :
  PE X e (Fp wi o cap lp):=by
 intro pins s σ H Q I h;refine hev _ _ _ (wpAny_comprehension_free (use:=none) hcl hs S.clos S.kind S.loc (thn (hi pins s σ H _ I h) fun v s1 h1=>thn h1 fun itv s2 h2=>?_));obtain⟨it,fp,tn,J,H2,eit,I2,T,st2,f2,R2⟩:=h2;subst eit;refine hnew pins s2 σ H2 _ _ I2 fun s3 I3 k3=>?_;have hD:H2 s2.heap.objs.size=none:=I2.hok.fresh (AG _);have fok:∀b∈fp,l9 X pins (upd H2 s2.heap.objs.size (o s2.heap.objs.size)) b/\∃ob,s3.heap.get? b=some ob:=fun b hb=>by
  obtain⟨ob,e,_⟩:=T.obj _ _ st2 b hb;obtain⟨f0,fr⟩:=f2 b hb;exact⟨⟨by rw[B4 (AS (AF e))];exact f0,fr⟩,ob,k3 b ob e⟩
 refine wpAny_newFunctionEnv S.nocell (by intro y hy;simp at hy) (fun h1 hns hsb=>?_) S.kind;have hk:∀b ob,s3.heap.get? b=some ob->h1.get? b=some ob:=fun b ob e=>(hsb.2 b (AS (AF e))).trans (AD _ e);have I4:Inv (cxC X scope cl N' pins fp s3 (upd H2 s2.heap.objs.size (o s2.heap.objs.size))) [] (Ho cap σ) (upd H2 s2.heap.objs.size (o s2.heap.objs.size)) { s3 with heap:=h1,toks:=s3.toks +([]:List (Str×Value)).length } :=
  I3.block S hc fok hns hk
 have st4:tn 0 h1:=T.keep 0 _ _ st2 fun b hb ob e=>hk b ob (k3 b ob e);refine i8 (X:=cxC X scope cl N' pins fp s3 (upd H2 s2.heap.objs.size (o s2.heap.objs.size))) (gs:=⟨tg,iter,ifs,0⟩::gs) (e:=e) (d:=0) (tg:=tg) (iter:=iter) (ifs:=ifs) (hun _ _ _) (hden _ _ _) hcl rfl T st4 ?_;refine hlp pins fp s3 _ s2.heap.objs.size it fp tn J (Ho cap σ) _ _ _ _ T I4 st4 (fun b hb=>?_) (R2 _ hD) fun s' σ' H' I' q'=>?_
 .obtain⟨⟨f0,f1,f2',f3,f4,f5⟩,ob,eo⟩:=fok b hb;refine⟨f0,AS (AF eo),fun hf=>?_,.inl hb,fun x c e=>f4 x c (S.cin.get e),fun p hp=>f5 p (by simpa [cxC] using hp)⟩;rcases AJ.mp (I3.stkSub b hf)with z | z
  .exact f1 z
  .exact f2' z
 .obtain⟨m,hn,_⟩:=I'.loc;exact⟨m,hn,fun h' hb=>⟨.ref _,H',I3.unblock (fun b hb=>(fok b hb).1) I' hb,rfl,q'⟩⟩
end
section
variable{X:Cx}{tg iter elt:Expr}{ifs:List Expr}{g:TG}{tc:TT}{te:TE}{scope:Scope}{cl:List (Str×Addr)}{N':List Str}{cap:List (Option Nat)}{pos:Pos}{wi:TI}
def He(D:Addr)(te:TE):TEm:=fun σ H Q=>te σ H fun y H1=>∃ys,H1 D=some (.lst ys)/\ys.length<sizeLine/\Q σ (upd H1 D (.lst (ys ++ [y])))
theorem Ir{α:Type}{X:Cx}(hxe:X.xe=fun _ _=>False){m:Sem α}{P:α->Shared->Prop}{E:Value->Shared->Prop}{s:Shared}(q:wpAny (model X.prog X.w) X.A m P X.xe s):wpAny (model X.prog X.w) X.A m P E s:=by
 rw[hxe]at q;exact BV q (fun _ _ z=>z) fun _ _ z=>z.elim
theorem Cb{D:Addr}(hxe:X.xe=fun _ _=>False)(he:PE X elt te):PEm X (emL elt (.ref D) X.env) (He D te):=by
 intro pins s σ H Q k F E I h hk;unfold emL;refine AB (AB (BV (Ir hxe (he pins s σ H _ I h)) (fun u s1 ⟨y,H1,I1,r1,ys,e1,z1,q1⟩=>?_) fun _ _ z=>z));refine AB (BV (Ir hxe (E5 pins s1 σ H1 (.ref D) [y] (.ref D) [u] (fun v H2=>v = .non/\Q σ H2) I1 rfl (.cons r1 .nil) ⟨D,ys,y,rfl,rfl,e1,z1,rfl,q1⟩)) (fun v s2 ⟨y2,H2,I2,r2,_,q2⟩=>?_) fun _ _ z=>z);exact AE (hk s2 σ H2 I2 q2)
theorem U5(S:CScope X scope cl N' cap)(hc:X.calm=true)(hi:PI X tg iter wi)
  (hb:∀(pins:List (Addr×Obj)) (ex:List Addr) (s3:Shared) (H3:Hp),PG (cxC X scope cl N' pins ex s3 H3) tg g/\PTs (cxC X scope cl N' pins ex s3 H3) ifs tc/\PE (cxC X scope cl N' pins ex s3 H3) elt te)
  (hs:∀x,foldedSetIterable iter X.env x=pure x:=by intro _;rfl) :
  PE X (.ListComp elt [⟨tg,iter,ifs,0⟩] scope pos) (Fp wi (fun _=>.lst []) cap fun D J σ H Q=>Kt g tc (He D te) J σ H Q):=by
 refine Hi (newAcc:=newList []) (p2:=firstIterPos [⟨tg,iter,ifs,0⟩] pos) rfl (fun _=>.lst []) hs S hc hi (fun pins s σ H Q E I h=>?_) (fun pins ex s3 H3 D it fp tn J σ s H Q R T I st hf h hR=>?_) (fun _ _ _=>rfl) (fun _ _ _=>rfl) (fun E Q s h=>h)
 .refine wpAny_newList ?_;exact h _ (I.lnew (t':=s.toks) (its:=[]) .nil (BU _)) fun b ob e=>AD _ e
 .obtain⟨b1,b2,b3⟩:=hb pins ex s3 H3;exact Ag (X:=cxC X scope cl N' pins ex s3 H3) rfl rfl hc rfl (j5 elt tg iter ifs scope pos _ _ _) b1 b2 (Cb rfl b3) T I st hf h hR
end
instance:LawfulBEq Key where
 rfl {a}:=by cases a with
  | inl i=>show(i == i)=true;simp
  | inr x=>show(x == x)=true;simp
 eq_of_beq {a b} h:=by
  cases a with
  | inl i=>cases b with
   | inl j=>exact congrArg Sum.inl (eq_of_beq (show(i == j)=true from h))
   | inr j=>exact absurd h (by intro z;cases z)
  | inr i=>cases b with
   | inl j=>exact absurd h (by intro z;cases z)
   | inr j=>exact congrArg Sum.inr (eq_of_beq (show(i == j)=true from h))
def Its(x:Str):It:=⟨fun i _=>i<x.cps.size,fun i H v H'=>H'=H/\∃c,x.cps[i]?=some c/\v = .str ⟨#[c]⟩,fun i _=>i=x.cps.size⟩
theorem Cr{P:Program}{w:World}{K:PySem.W.Frag}{tg:Expr}(it:Addr)(x:Str)(t:Tok)(ty:String)(hty:["enumerate", "zip", "dict_itemiterator", "dict_reverseitemiterator", "odict_iterator", "itertools.zip_longest", "itertools.pairwise"].contains ty=false)
  (W:∀A':Around,A'.handled=none->Walks P w A' it [it] [it] x.cps.size (SignAt x) (fun i h=>h.IsStrIter it ty x t i))
  (hself:∀(A:Around) (i:Nat) (s:Shared) (Q:Value->Shared->Prop) (E:Value->Shared->Prop),s.heap.IsStrIter it ty x t i->Q (.ref it) s->wpAny (model P w) A (pyIter (.ref it)) Q E s):Turn P w K tg (Its x) [it] it (fun i h=>h.IsStrIter it ty x t i) where
 mem:=by simp
 obj:=fun i h st b hb=>by
  have e:b=it:=by simpa using hb
  subst e;obtain⟨o,e,c,d⟩:=st;exact⟨o,e,fun v z=>by rw[d]at z;cases z⟩
 keep:=fun i h h' st k=>let⟨o,e,r⟩:=st;⟨o,k it (by simp) o e,r⟩
 item:=by
  intro X hP hw hK hc i pins s σ H E I hf st hg;subst hP hw hK;obtain⟨f0,f1,f2,f3,f4,f5⟩:=hf it (by simp);refine(W X.A (I.ok.hd hc)).item i s _ _ hg st fun v h' tk hv st' k=>?_;obtain⟨c,u,ec,ev⟩:=hv;have I1:Inv X pins σ H { s with heap:=h',toks:=tk }:=I.turned (fun b o hb e=>k b o (by simpa using hb) e) f0 f1 f3 f4 f5;obtain⟨o,e,c',d⟩:=id st';exact⟨v,rfl,Ht (s:={ s with heap:=h',toks:=tk }) e c' d hty ⟨.str ⟨#[c]⟩,H,I1,⟨u,ev⟩,⟨rfl,c,ec,rfl⟩,st',fun b hb=>(hf b hb).1⟩⟩
 done:=by
  intro X hP hw hK hc i pins s σ H E I hf st hg;subst hP hw hK;obtain⟨f0,f1,f2,f3,f4,f5⟩:=hf it (by simp);have hg':i=x.cps.size:=hg;subst hg';exact(W X.A (I.ok.hd hc)).done s _ _ st fun h' tk k=>⟨rfl,I.turned (fun b o hb e=>k b o (by simpa using hb) e) f0 f1 f3 f4 f5⟩
 self:=fun A i s Q E st h=>hself A i s Q E st h
section
variable{X:Cx}{tg:Expr}
def Ql(te:TE):TI:=fun σ H R=>te σ H fun x H1=>∃z,x = .str z/\R (Its z) H1
theorem Ls{l:Expr}{tl:TE}(hl:PE X l tl):PI X tg l (Ql tl):=by
 intro pins s σ H R I h;refine thn (hl pins s σ H _ I h) fun v s1 ⟨x,H1,I1,r1,q1⟩=>?_;obtain⟨z,e,q⟩:=q1;subst e;obtain⟨t,rfl⟩:=r1;have fin:∀(o:Obj) (ty:String),o.cls = .type ty->o.data = .fields #[.str z t,.int (0:Nat) 0]->o.isFreed=false->Turn X.prog X.w X.K tg (Its z) [s1.heap.objs.size] s1.heap.objs.size (fun i h=>h.IsStrIter s1.heap.objs.size ty z t i) ->
   PIE X pins σ tg R (.ref s1.heap.objs.size) { s1 with heap:=s1.heap.push o }:=fun o ty c d hf T=>by
  refine⟨s1.heap.objs.size,[s1.heap.objs.size],_,_,H1,rfl,I1.kept (t':=s1.toks) fun b o e=>AD _ e,T,⟨o,AO _ hf,c,d⟩,fun b hb=>?_,q⟩;have e:b=s1.heap.objs.size:=by simpa using hb
  subst e;exact I1.fpOk (AG _) (I1.hok.fresh (AG _))
 cases ha:z.cps.all (· < 128)
 .exact wpAny_pyIter_wide ha (fin _ _ rfl rfl rfl (Cr _ z t "str_iterator" (by decide) (fun A' hA=>Walks.strWide hA _ z t) fun A i s Q E st h=>wpAny_pyIter_striter_wide st h))
 .exact wpAny_pyIter_ascii ha (fin _ _ rfl rfl rfl (Cr _ z t "str_ascii_iterator" (by decide) (fun A' hA=>Walks.strAscii hA _ z t) fun A i s Q E st h=>wpAny_pyIter_striter_ascii st h))
end
section
variable{X:Cx}
theorem Gw(hc:X.calm=true):J0 X (.builtin "all") (fun xs H Q=>∃(p:Addr) (bs:List Bool),xs = [.ref p]/\SqL X.K H p (bs.map V.bl)/\Q (.bl (bs.all id)) H):=by
 intro pins s σ H xs us Q I r h;obtain⟨p,bs,rfl,hq,q⟩:=h;obtain⟨u,rfl,ru⟩:=g0 r;cases ru;obtain⟨its,rv,pl,hz⟩:=I.list hq;refine call_all_walk (DP pl.isList ?_);have hne:p≠s.heap.objs.size:=by
  obtain⟨o,n,e,_⟩:=pl;exact AS (AF e)
 refine⟨s.heap.objs.size,_,_,_,_,_,fun i=>bs.getD i true,rfl,Walks.list (A:=X.A.in1) (show X.A.in1.handled=none from I.ok.hd hc) _ p hne its.toArray,⟨⟨_,AO _ rfl,rfl,rfl⟩,?_⟩,fun i v s' Q' E' hv q'=>?_,fun h' tk k=>?_⟩
 .obtain⟨o,n,e,c,d,e2⟩:=pl;exact⟨o,AD _ e,c,n,e2⟩
 .have hb:(bs.map V.bl)[i]?=some (V.bl (bs.getD i true))/\RelV (V.bl (bs.getD i true)) v:=by
   have hv':its[i]?=some v:=by simpa using hv
   have hi:i<its.length:=(AM.mp hv').1;have hl:=rv.length;rw[AA]at hl;have e:(bs.map V.bl)[i]?=some (V.bl (bs.getD i true)):=by
    rw[AH,AR (by omega)];simp[DB,AR (show i<bs.length by omega)]
   obtain⟨u,hu,ru⟩:=rv.get e;rw[hv']at hu;cases hu;exact⟨e,ru⟩
  cases hb.2;exact BW q'
 .have hl:=rv.length;rw[AA]at hl;have e:(List.range its.toArray.size).all (fun i=>bs.getD i true)=bs.all id:=by
   rw[AK,<-hl];rw[DJ,CA,CA];constructor
   .intro z b hb;obtain⟨i,hi,rfl⟩:=List.mem_iff_getElem.mp hb;have:=z i (List.mem_range.mpr hi);simpa [DB,AR hi] using this
   .intro z i hi;have hi':=List.mem_range.mp hi;have:=z bs[i] (List.getElem_mem hi');simpa [DB,AR hi'] using this
  rw[e];exact⟨.bl (bs.all id),H,I.kept fun b o eb=>k b o (by
   intro hb;have:b=s.heap.objs.size:=by simpa using hb
   exact absurd (AF eb) (by rw[this];exact CY _)) (AD _ eb),rfl,q⟩
theorem i9:∀{ss:List Str} {us:List Value},Vals (ss.map V.str) us->StrsAre us ss
 | [],_,.nil=>.nil
 | _::_,_,.cons ⟨t,e⟩ r=>by subst e;exact .cons _ _ (i9 r)
end
abbrev PA2:=Addr×Str×Str
def K7(H:Hp)(q:PA2):Prop:=H q.1=some (.tup [.str q.2.1,.str q.2.2])
theorem Inv.turnLaid{X:Cx}{pins:List (Addr×Obj)}{σ:St}{H:Hp}{s:Shared}{h':Heap}{t':Nat}{fp:List Addr}{T:Addr}{o:HO}(I:Inv X pins σ H s)(k:∀b ob,b∉fp->s.heap.get? b=some ob->h'.get? b=some ob)
  (hf:∀b∈fp,l9 X pins H b) (hfo:∀b∈fp,∃ob,s.heap.get? b=some ob) (hT:s.heap.objs.size<=T) (new:ObjOk X.prog X.w (upd H T o) h' T o):Inv X pins σ (upd H T o) { s with heap:=h',toks:=t' }:=by
 have hn:=I.hok.fresh hT;have nT:∀b ob,s.heap.get? b=some ob->b≠T:=fun b ob e=>AS (BD (AF e) hT);have nf:∀b u,H b=some u->b∉fp:=fun b u e hb=>by rw[(hf b hb).1]at e;cases e
 refine I.step (g':=s.gens) (d':=s.drawn) (ch:=fp) (fun b hb=>let⟨_,f1,_,f3,f4,f5⟩:=hf b hb;⟨f3,f1,f4,f5⟩) (fun b ob _ _ hc e _=>k b ob hc e) (fun b ob _ _ hc e _=>⟨ob.slots,k b ob hc e⟩) (fun b ob _ e n=>by rw[B4 (nT b ob e)];exact n)
  (fun b ob hc e=>⟨ob,k b ob hc e⟩) (fun b xs e=>by rw[B4 (A9 e hn)];exact e) (fun b u xs e=>by rw[B4 (A9 e hn)];exact e) (fun b ps e=>⟨#[],by rw[B4 (A9 e hn),e];simp⟩) (fun m hm=>?_) (fun b u e=>?_) I.bare
 .obtain⟨ob,es,ep,ho,r⟩:=hm;exact⟨ob,es,ep,k _ ob (fun hb=>(hf _ hb).2.1 rfl) ho,r⟩
 .by_cases hb:b=T
  .subst hb;rw[A7]at e;cases e;exact new
  .rw[B4 hb]at e;refine(I.hok b u e).stay (fun c v hc q=>k c v ?_ q) (fun c q=>by rw[B4 (A9 q hn)];exact q) fun c xs q=>by rw[B4 (A9 q hn)];exact q
   rcases hc with z | z
   .rw[z];exact nf b u e
   .exact nf c _ z
end L2
namespace ST
open PySem
section
variable{prog:Program}{w:World}{K:Type}[DecidableEq K]{knd:KeyKind prog w K}{A:Around}{E:Value->Shared->Prop}{s:Shared}
theorem Fw{h:Heap}{a:Addr}{o:Obj}{es:Array (Int×Value)}{ep:Nat}{t:SetTable}(ho:h.get? a=some o)(hd:o.data = .set es ep t)(es':Array (Int×Value))(t':SetTable) :
  (h.update a (Obj.putSet es' t')).get? a=some { o with data:=.set es' (ep+1) t' }:=by
 have:=Heap.get?_update_self (Obj.putSet es' t') ho (by rw[putSet_of es' t' hd];rfl);rw[putSet_of es' t' hd]at this;exact this
end
section
variable{prog:Program}{w:World}{A:Around}{E:Value->Shared->Prop}{s:Shared}
theorem erase_perm{α:Type}:∀{l:List α} {i:Nat} {x:α},l[i]?=some x->(x::l.eraseIdx i).Perm l
 | [],i,x,h=>by simp at h
 | y::l,0,x,h=>by
  have:y=x:=by simpa using h
  subst this;exact .refl _
 | y::l,i+1,x,h=>by
  have h':l[i]?=some x:=by simpa using h
  exact(List.Perm.swap y x _).trans ((erase_perm h').cons y)
structure SAt(w:World)(h:Heap)(a:Addr)(o:Obj)(es:Array (Int×Value))(ep:Nat)(t:SetTable):Prop where
 ho:h.get? a=some o
 ex:o.ExactSet
 hd:o.data = .set es ep t
 ft:t.fits es.size=true
 led:t.led=!(w.params.followText "set-order")
 pln:t.plain=true->es.size=0
 few:es.size<4096
variable{a it:Addr}{o:Obj}{es:Array (Int×Value)}{ep:Nat}{t:SetTable}
end
section
variable{prog:Program}{w:World}{A:Around}{E:Value->Shared->Prop}{s:Shared}{a it T:Addr}{o:Obj}{es:Array (Int×Value)}{ep:Nat}{t:SetTable}
theorem SAt.at{h h':Heap}(S:SAt w h a o es ep t)(e:h'.get? a=some o):SAt w h' a o es ep t:=⟨e,S.ex,S.hd,S.ft,S.led,S.pln,S.few⟩
end
end ST
namespace ST
open PySem L2
theorem Kx(t:SetTable)(n:Nat):(t.orStandIn n).led=t.led:=by
 unfold SetTable.orStandIn;split<;>rfl
theorem Ja(t:SetTable)(es:Array (Int×Value))(h:Int)(x:Value):(layNew t es h x).2.1.led=t.led:=by
 unfold layNew;split
 .rename_i sl wd e;show((t.put sl).1.orStandIn _).led=_;rw[Kx];rfl
 .rfl
theorem Dm{t t':SetTable}{hs:Array Int}{n:Nat}{ord:Array Nat}(h:t.relaid hs n=some (t',ord)):t'.led=t.led/\t'.plain=t.plain:=by
 unfold SetTable.relaid SetTable.laid at h;cases e:SetTable.layClean (SetTable.sizeAbove n-1) hs with
 | none=>rw[e]at h;cases h
 | some ow =>
  rw[e]at h;cases h;exact⟨rfl,rfl⟩
theorem Gj(t:SetTable)(es:Array (Int×Value))(n:Nat)(hp:t.plain=false):(relayAll t es n).2.1.led=t.led/\(relayAll t es n).2.1.plain=false:=by
 unfold relayAll;split
 .rename_i t' ord e;obtain⟨e1,e2⟩:=Dm e;dsimp only;split
  .exact⟨e1,e2.trans hp⟩
  .exact⟨rfl,rfl⟩
 .exact⟨rfl,rfl⟩
def Pw:Value->Str
 | .str x _=>x
 | _=>Str.empty
section
variable{prog:Program}{w:World}{A:Around}{E:Value->Shared->Prop}{s:Shared}{a:Addr}
structure TxtEs(w:World)(es:Array (Int×Value))(ss:List Str):Prop where
 el:∀e∈es.toList,∃x tk,e =(hashStr w x,Value.str x tk)
 pm:(es.toList.map fun e=>Pw e.2).Perm ss
 nd:ss.Nodup
def WS(w:World)(h:Heap)(a:Addr)(ss:List Str):Prop:=∃o es ep t,SAt w h a o es ep t/\TxtEs w es ss
theorem TxtEs.elems{es:Array (Int×Value)}{ss:List Str}(h:TxtEs w es ss):ElemsOf (Q8 prog w) es.toList:=fun e he=>by
 obtain⟨x,tk,rfl⟩:=h.el e he;exact⟨⟨.inr x,Y3 x tk,rfl⟩,rfl⟩
theorem TxtEs.mem{es:Array (Int×Value)}{ss:List Str}(h:TxtEs w es ss)(x:Str):x∈ss↔∃e∈es.toList,(Q8 prog w).is (.inr x) e.2=true:=by
 rw[<-h.pm.mem_iff];constructor
 .intro hm;obtain⟨e,he,rfl⟩:=BB.mp hm;obtain⟨y,tk,rfl⟩:=h.el e he;exact⟨_,he,Y3 y tk⟩
 .rintro⟨e,he,hk⟩;obtain⟨y,tk,rfl⟩:=h.el e he;have:y=x:=by
   rcases D6 (show Fh (.inr x) (.str y tk)=true from hk)with⟨i,t,e1,e2⟩ | ⟨z,t,e1,e2⟩
   .cases e2
   .cases e1;cases e2;rfl
  subst this;exact BB.mpr ⟨_,he,rfl⟩
theorem TxtEs.len{es:Array (Int×Value)}{ss:List Str}(h:TxtEs w es ss):es.size=ss.length:=by
 have:=h.pm.length_eq;rw[AA,BL]at this;exact this
theorem add_txt{ss:List Str}{x:Str}{tk:Tok}{Q:Bool->Shared->Prop}(S:WS w s.heap a ss)(hl:ss.length+1<4096)
  (h:∀h' b,Heap.SameBut a s.heap h'->WS w h' a (if x∈ss then ss else ss ++ [x])->Q b { s with heap:=h' }) :
  wpAny (model prog w) A (setAddHashed a (.str x tk) (hashStr w x)) Q E s:=by
 obtain⟨o,es,ep,t,S,T⟩:=id S;have hkey:(Q8 prog w).is (.inr x) (.str x tk)=true:=Y3 x tk;have hsz:=T.len;unfold setAddHashed setAddHashedIn;refine CG (AB (wpAny_setState_of S.ho S.hd S.ft ?_));dsimp only;rw[byScan_of (knd:=Q8 prog w) rfl S.few T.elems,BI rfl];unfold setAddByScan;refine AB (AB (DA ?_));refine AB (wpAny_setScan_of hkey S.ho S.hd S.ft T.elems ?_);cases hr:List.findIdx? (fun e=>(Q8 prog w).is (.inr x) e.2) es.toList with
 | some j =>
  dsimp only;obtain⟨hj,hpj,_⟩:=List.findIdx?_eq_some_iff_getElem.mp hr;have hx:x∈ss:=(T.mem (prog:=prog) x).mpr ⟨es.toList[j],List.getElem_mem hj,hpj⟩;refine AE (AE ?_);have:=h s.heap false (Heap.SameBut.refl a s.heap) (by rw[BI hx];exact⟨o,es,ep,t,S,T⟩);exact this
 | none =>
  dsimp only;have hx:¬x∈ss:=fun hx=>by
   obtain⟨e,he,hp⟩:=(T.mem (prog:=prog) x).mp hx;have:=List.findIdx?_eq_none_iff.mp hr e he;rw[hp]at this;exact Bool.noConfusion this
  have hgw:∀(b:Bool) {s1:Shared} {Q':Unit->Shared->Prop},Q' () s1->wpAny (model prog w) A (match b with | true=>rule "set.scan.the-table-gave-way" | false=>pure ()) Q' E s1 :=
   fun b s1 Q' hq=>by cases b<;>first | exact AE hq | exact DA hq
  have hperm:=layNew_perm t es (hashStr w x) (.str x tk);have hfits:=layNew_fits t es (hashStr w x) (.str x tk);have hled:=Ja t es (hashStr w x) (.str x tk);show wpAny _ _ (match layNew t es (hashStr w x) (.str x tk)with | (es,t,wasDummy,gave)=>_) _ _ _;generalize layNew t es (hashStr w x) (.str x tk)=L at hperm hfits hled⊢;obtain⟨es1,t1,wasDummy,gave⟩:=L;dsimp only at hperm hfits hled⊢;rw[Array.toList_push]at hperm;have hT1:∀es2:Array (Int×Value),es2.toList.Perm es1.toList->TxtEs w es2 (ss ++ [x]):=fun es2 hp2=>by
   refine⟨fun e he=>?_,?_,?_⟩
   .rcases A_.mp (hperm.mem_iff.mp (hp2.mem_iff.mp he))with z | z
    .exact T.el e z
    .exact⟨x,tk,AC.mp z⟩
   .refine((hp2.trans hperm).map _).trans ?_;rw[AL];exact T.pm.append (.refl _)
   .rw[C_];refine⟨T.nd,by simp,fun y hy z hz=>?_⟩;rw[AC.mp hz];rintro rfl;exact hx hy
  have hsz1:es1.size=ss.length+1:=by
   have:=(hT1 es1 (.refl _)).len;rw[BA]at this;exact this
  refine AB (hgw _ ?_);have key:∀t2:SetTable,t2.led=t.led->t2.plain=false->t2.fits es1.size=true->wpAny (model prog w) A (do
    storeSet a es1 t2
    if(!wasDummy&&t2.tooFull)=true then do
      (match(relayAll t2 es1 (SetTable.grown es1.size)).2.2 with | true=>rule "set.scan.the-table-gave-way" | false=>pure ())
      storeSet a (relayAll t2 es1 (SetTable.grown es1.size)).1 (relayAll t2 es1 (SetTable.grown es1.size)).2.1
      pure (some true)
     else pure (some true)) (fun r s'=>wpAny (model prog w) A (match r with | some added=>pure added | none=>setAddHashedIn a (.str x tk) (hashStr w x) 99999) Q E s') E s:=by
   intro t2 l2 p2 f2;refine AB (wpAny_storeSet_of S.ho S.hd ?_ (by rw[hsz1,sizeLine_eq];omega));have ho1:=Fw S.ho S.hd es1 t2;have sb1:=DG s.heap a (Obj.putSet es1 t2);split
   .have hp:=relayAll_perm t2 es1 (SetTable.grown es1.size);have hf:=relayAll_fits t2 es1 (SetTable.grown es1.size);obtain⟨hl3,hp3⟩:=Gj t2 es1 (SetTable.grown es1.size) p2;have hz2:(relayAll t2 es1 (SetTable.grown es1.size)).1.size=es1.size:=by rw[<-BL,hp.length_eq,BL]
    refine AB (hgw _ ?_);refine AB (wpAny_storeSet_of ho1 rfl ?_ (by rw[hz2,hsz1,sizeLine_eq];omega));refine AE (AE (h _ true (sb1.trans (DG _ a _)) ?_));rw[BF hx];exact⟨_,_,_,_,⟨Fw ho1 rfl _ _,S.ex,rfl,hf,hl3.trans (l2.trans S.led),(fun z=>by rw[hp3]at z;cases z),by rw[hz2,hsz1];omega⟩,hT1 _ hp⟩
   .refine AE (AE (h _ true sb1 ?_));rw[BF hx];exact⟨_,es1,_,t2,⟨ho1,S.ex,rfl,f2,l2.trans S.led,(fun z=>by rw[p2]at z;cases z),by rw[hsz1];omega⟩,hT1 _ (.refl _)⟩
  cases hpl:t1.plain with
  | true =>
   rw[BI rfl,hashByValue_scannable 8 (x:=Value.str x tk) rfl];refine AB (AE ?_);exact key { t1 with plain:=false } hled rfl (SetTable.fits_plain_off hfits)
  | false =>
   rw[BF (by decide)];refine AB (AE ?_);exact key t1 hled hpl hfits
end
end ST
namespace L2
open PySem PySem.Spec PyProof.Rows
def Kr(w:World)(a:Addr)(ss:List Str):HO:=.ext fun h=>ST.WS w h a ss
section
variable{X:Cx}{pins:List (Addr×Obj)}{σ:St}{H:Hp}{s:Shared}{a:Addr}{ss:List Str}
theorem Ml{P:Program}{w:World}{H:Hp}{h:Heap}(z:ST.WS w h a ss):ObjOk P w H h a (Kr w a ss) :=
 ⟨z,let⟨o,_,_,_,S,_⟩:=z;⟨o,S.ho⟩,fun h1 h2 ⟨o,es,ep,t,S,r⟩ k=>⟨o,es,ep,t,S.at (k o S.ho),r⟩⟩
theorem Inv.setw(I:Inv X pins σ H s)(e:H a=some (Kr X.w a ss)):ST.WS X.w s.heap a ss:=by
 obtain⟨z,_⟩:=(show ObjOk X.prog X.w H s.heap a (Kr X.w a ss)from I.hok a _ e);exact z
def Kw(l:List Str)(x:Str):List Str:=if x∈l then l else l ++ [x]
end
section
variable{X:Cx}{tg:Expr}
def Nv(K:PySem.W.Frag)(tl:TE):TI:=fun σ H R=>tl σ H fun x H1=>∃a,x = .ref a/\(((∃xs,SqL K H1 a xs)/\R (Itl K a) H1)\/((∃xs,SqT K H1 a xs)/\R (Itt K a) H1))
theorem Lj{l:Expr}{tl:TE}(hl:PE X l tl):PI X tg l (Nv X.K tl):=by
 intro pins s σ H R I h;refine thn (hl pins s σ H _ I h) fun v s1 ⟨x,H1,I1,r1,q1⟩=>?_;obtain⟨a,e,q1⟩:=q1;subst e;cases r1;have fin:∀b,b∈[s1.heap.objs.size]->l9 X pins H1 b:=fun b hb=>by
  have e:b=s1.heap.objs.size:=by simpa using hb
  subst e;exact I1.fpOk (AG _) (I1.hok.fresh (AG _))
 rcases q1 with⟨⟨xs,hq⟩,q⟩ | ⟨⟨xs,hq⟩,q⟩
 .obtain⟨its,rv,p,hz⟩:=I1.list hq;refine DP p.isList ?_;exact⟨s1.heap.objs.size,[s1.heap.objs.size],_,_,H1,rfl,I1.kept (t':=s1.toks) fun b o e=>AD _ e,u9 a _,⟨_,AO _ rfl,rfl,rfl⟩,fin,q⟩
 .obtain⟨its,rv,p,hz⟩:=I1.tuple hq;refine CW (show s1.heap.IsTuple a its.toArray from p) ?_;exact⟨s1.heap.objs.size,[s1.heap.objs.size],_,_,H1,rfl,I1.kept (t':=s1.toks) fun b o e=>AD _ e,Di a _,⟨_,AO _ rfl,rfl,rfl⟩,fin,q⟩
end
section
variable{X:Cx}
theorem Eb:J0 X (.builtin "isinstance") (fun xs H Q=>∃x n t b,xs = [x,.ty n]/\TyOf X.K H x t/\PySem.W.kitOne X.K t (.type n)=some b/\Q (.bl b) H):=by
 intro pins s σ H xs us Q I r h;obtain⟨x,n,t,b,rfl,ht,he,q⟩:=h;obtain⟨u,v,rfl,ru,rv⟩:=r.two;cases rv;exact Dz I ru ht he fun tk=>⟨.bl b,H,I.tok _,rfl,q⟩
end
mutual
def Rp(K:PySem.W.Frag)(H:Hp):PyData->V->Prop
 | .none,v=>v = .non
 | .bool b,v=>v = .bl b
 | .int i,v=>v = .int i
 | .str x,v=>v = .str x
 | .list ds,v=>∃a xs,v = .ref a/\SqL K H a xs/\Rps K H ds xs
 | .tuple ds,v=>∃a xs,v = .ref a/\SqT K H a xs/\Rps K H ds xs
 | .dict _,_=>False
def Rps(K:PySem.W.Frag)(H:Hp):List PyData->List V->Prop
 | [],vs=>vs = []
 | d::ds,vs=>∃v r,vs=v::r/\Rp K H d v/\Rps K H ds r
end
section
variable{X:Cx}{pins:List (Addr×Obj)}{σ:St}{H:Hp}{s:Shared}
mutual
theorem Inv.reads(I:Inv X pins σ H s):∀(d:PyData) (v:V) (u:Value),Rp X.K H d v->RelV v u->∃as,Reads s.heap u d as
 | .none,v,u,h,r=>by
  cases(show v = .non by simpa [Rp] using h);cases r;exact⟨_,.none⟩
 | .bool b,v,u,h,r=>by
  cases(show v = .bl b by simpa [Rp] using h);cases r;exact⟨_,.bool b⟩
 | .int i,v,u,h,r=>by
  cases(show v = .int i by simpa [Rp] using h);obtain⟨t,rfl⟩:=r;exact⟨_,.int i t⟩
 | .str x,v,u,h,r=>by
  cases(show v = .str x by simpa [Rp] using h);obtain⟨t,rfl⟩:=r;exact⟨_,.str x t⟩
 | .list ds,v,u,h,r=>by
  obtain⟨a,xs,e,hq,hs⟩:=(show ∃a xs,v=V.ref a/\SqL X.K H a xs/\Rps X.K H ds xs by simpa [Rp] using h);subst e;cases r;obtain⟨its,rv,⟨o,n,e,hc,hd,hda⟩,_⟩:=I.list hq;obtain⟨as,z⟩:=I.readsAll ds xs its hs rv;exact⟨_,.list e hc hda (by simpa using z)⟩
 | .tuple ds,v,u,h,r=>by
  obtain⟨a,xs,e,hq,hs⟩:=(show ∃a xs,v=V.ref a/\SqT X.K H a xs/\Rps X.K H ds xs by simpa [Rp] using h);subst e;cases r;obtain⟨its,rv,⟨o,e,hc,n,hda⟩,_⟩:=I.tuple hq;obtain⟨as,z⟩:=I.readsAll ds xs its hs rv;exact⟨_,.tuple e hc hda (by simpa using z)⟩
 | .dict _,v,u,h,r=>by simp[Rp]at h
theorem Inv.readsAll(I:Inv X pins σ H s):∀(ds:List PyData) (vs:List V) (us:List Value),Rps X.K H ds vs->Vals vs us->∃as,ReadsAll s.heap us ds as
 | [],vs,us,h,r=>by
  cases(show vs = [] by simpa [Rps] using h);cases r;exact⟨_,.nil⟩
 | d::ds,vs,us,h,r=>by
  obtain⟨v,vr,e,h1,h2⟩:=(show ∃v r,vs=v::r/\Rp X.K H d v/\Rps X.K H ds r by simpa [Rps] using h);subst e;cases r with
  | cons r1 r2 =>
   obtain⟨as,z⟩:=I.reads d v _ h1 r1;obtain⟨bs,z'⟩:=I.readsAll ds vr _ h2 r2;exact⟨_,.cons z z'⟩
end
def Pl(d:PyData):Prop:=d.canLay0=true/\d.depth<=50
def Ln(K:PySem.W.Frag):R2:=fun x y H Q=>∃d e,Rp K H d x/\Rp K H e y/\Pl d/\Pl e/\Q (.bl (PyData.eqv d e)) H
def Pf(K:PySem.W.Frag):R2:=fun x y H Q=>∃d e,Rp K H d x/\Rp K H e y/\Pl d/\Pl e/\Q (.bl (!PyData.eqv d e)) H
theorem Mq(hu:X.A.units+64<cLine):OpR X (compareOp .Eq) (Ln X.K):=by
 intro pins s σ H x y v u Q I rx ry h;obtain⟨d,e,h1,h2,p1,p2,q⟩:=h;obtain⟨as,z1⟩:=I.reads d x v h1 rx;obtain⟨bs,z2⟩:=I.reads e y u h2 ry;exact PySem.SeqAt.compareEq_reads z1 z2 p1.1 p2.1 (by have:=p1.2;have:=p2.2;omega) ⟨.bl (PyData.eqv d e),H,I,rfl,q⟩
theorem Ll(hu:X.A.units+64<cLine):OpR X (compareOp .NotEq) (Pf X.K):=by
 intro pins s σ H x y v u Q I rx ry h;obtain⟨d,e,h1,h2,p1,p2,q⟩:=h;obtain⟨as,z1⟩:=I.reads d x v h1 rx;obtain⟨bs,z2⟩:=I.reads e y u h2 ry;exact PySem.SeqAt.compareNe_reads z1 z2 p1.1 p2.1 (by have:=p1.2;have:=p2.2;omega) ⟨.bl (!PyData.eqv d e),H,I,rfl,q⟩
def Kv(K:PySem.W.Frag)(neg:Bool):R2:=fun x y H Q=>∃d ds,Rp K H d x/\(Rp K H (.list ds) y\/Rp K H (.tuple ds) y)/\Pl d/\PyData.canLayAll0 ds=true/\Q (.bl (if neg then !(ds.any fun z=>PyData.eqv z d)else ds.any fun z=>PyData.eqv z d)) H
theorem Nd(hu:X.A.units+64<cLine):OpR X (compareOp .In) (Kv X.K false):=by
 intro pins s σ H x y v u Q I rx ry h;obtain⟨d,ds,h1,h2,p1,p2,q⟩:=h;obtain⟨as,z1⟩:=I.reads d x v h1 rx;have hu':X.A.units+1+min (PyData.depthAll ds) d.depth<cLine:=by have:=p1.2;omega
 rcases h2 with h2 | h2
 .obtain⟨bs,z2⟩:=I.reads (.list ds) y u h2 ry;exact PySem.SeqAt.in_list_reads z2 z1 p2 p1.1 hu' ⟨.bl _,H,I,rfl,q⟩
 .obtain⟨bs,z2⟩:=I.reads (.tuple ds) y u h2 ry;exact PySem.SeqAt.in_tuple_reads z2 z1 p2 p1.1 hu' ⟨.bl _,H,I,rfl,q⟩
theorem Fk(hu:X.A.units+64<cLine):OpR X (compareOp .NotIn) (Kv X.K true):=by
 intro pins s σ H x y v u Q I rx ry h;obtain⟨d,ds,h1,h2,p1,p2,q⟩:=h;obtain⟨as,z1⟩:=I.reads d x v h1 rx;have hu':X.A.units+1+min (PyData.depthAll ds) d.depth<cLine:=by have:=p1.2;omega
 rcases h2 with h2 | h2
 .obtain⟨bs,z2⟩:=I.reads (.list ds) y u h2 ry;exact PySem.SeqAt.notIn_list_reads z2 z1 p2 p1.1 hu' ⟨.bl _,H,I,rfl,q⟩
 .obtain⟨bs,z2⟩:=I.reads (.tuple ds) y u h2 ry;exact PySem.SeqAt.notIn_tuple_reads z2 z1 p2 p1.1 hu' ⟨.bl _,H,I,rfl,q⟩
end
section
variable{X:Cx}
def Bq:V->List V->Hp->VK->Prop:=fun x vs H Q=>∃z y ps,x = .str z/\vs = [.str y]/\(decide (z.length<y.length)||decide (Builtin.Str.strKind z<Builtin.Str.strKind y))=false/\(y.length == 0)=false /\
 (Builtin.Str.occurrences z y 0 z.length (z.length+1)).isEmpty=false/\z.length<=4000/\Builtin.Str.partsBetween z (Builtin.Str.occurrences z y 0 z.length (z.length+1)) y.length=ps/\ps.length<=4000/\∀l,H l=none->Q (.ref l) (upd H l (.lst (ps.map V.str)))
theorem z6:∀(ps:List Str) (tk:Nat),Vals (ps.map V.str) (strsFrom tk ps)
 | [],_=>.nil
 | _::r,tk=>.cons ⟨tk,rfl⟩ (z6 r (tk+1))
theorem q9:MtM X "str.split" Bq:=by
 intro pins s σ H x vs v us Q I rx rv h;obtain⟨z,y,ps,rfl,rfl,h1,h2,h3,h4,rfl,h6,q⟩:=h;obtain⟨t,rfl⟩:=rx;obtain⟨u,rfl,⟨tk,rfl⟩⟩:=rv.one;have hz:z.length<=sizeLine:=by rw[sizeLine_eq];omega
 have hp:(Builtin.Str.partsBetween z (Builtin.Str.occurrences z y 0 z.length (z.length+1)) y.length).length<=sizeLine:=by rw[sizeLine_eq];omega
 refine call_meets F.slot_str_split (typeIs_str _ _ _) F.entry_str_split (F.args_str_split_2 _ _) (PySem.meets_str_split_sep z y t tk h1 h2 h3 hz hp) ?_;exact⟨.ref s.heap.objs.size,_,I.lnew (z6 _ _) (by rw[AA];exact hp),rfl,q _ I.fresh⟩
end
end L2
namespace L2
open PySem PySem.Spec PyProof.Rows
structure Fn(K:PySem.W.Frag)(mg:Str->Option Value)(x:Str)(st:Stmt)(ps:List Str) where
 f:Addr
 fd:FuncData
 F:Fun K x x st f fd
 b:Binds K fd ps []
 m:mg x=some (.ref f)
section
variable{X:Cx}
theorem C2{x:Str}{st:Stmt}{ps:List Str}{k:Nat}{sp:Sp}{e:Expr}{es:List Expr}{t:TA}{p pos:Pos}(D:Fn X.K X.mg x st ps)(G:FnOk X.prog X.w X.K X.mg X.base CX0 k D.f D.fd ps sp)(hr:Room k X.A)(ha:PA X (e::es) t)
  (hg:Gl X x:=by rfl) (hdb:(x ==("__debug__":Str))=false:=by decide) (hs:starEach (e::es) X.env =(false,eval e X.env)::starEach es X.env:=by rfl) (hpl:(backTo pos (starEach es X.env)).any (·.1)=false:=by rfl) :
  PE X (.Call (.Name x p) (e::es) [] pos) (Mg sp [] E0 t):=Kf G hr hg D.m D.F.kp D.b .nil Dn ha hdb hs hpl
theorem La{x:Str}{i:Int}{pos:Pos}(h:∃t,X.mg x=some (.int i t))(hg:Gl X x:=by rfl)(hd:(x ==("__debug__":Str))=false:=by decide):PE X (.Name x pos) (tC (.int i)):=by
 obtain⟨t,e⟩:=h;exact Bc hg e ⟨t,rfl⟩ hd
theorem Op{x y:Str}{pos:Pos}(h:∃t,X.mg x=some (.str y t))(hg:Gl X x:=by rfl)(hd:(x ==("__debug__":Str))=false:=by decide):PE X (.Name x pos) (tC (.str y)):=by
 obtain⟨t,e⟩:=h;exact Bc hg e ⟨t,rfl⟩ hd
theorem K9{x:Str}{n:String}{pos:Pos}(hm:X.mg x=none)(hv:bootBuiltins x=some (.type n))(hg:Gl X x:=by rfl)(hn:x≠ "__name__":=by decide)(hd:(x ==("__debug__":Str))=false:=by decide):PE X (.Name x pos) (tC (.ty n)) :=
 Ji hg hm hv rfl hn hd
theorem D4{x:Str}{id:String}{r:List V->Hp->VK->Prop}{e:Expr}{es:List Expr}{t:TA}{p pos:Pos}(hc:J0 X (.builtin id) r)(hm:X.mg x=none)(hv:bootBuiltins x=some (.builtin id))(ha:PA X (e::es) t)(hg:Gl X x:=by rfl)(hn:x≠ "__name__":=by decide)(hdb:(x ==("__debug__":Str))=false:=by decide)
  (hs:starEach (e::es) X.env =(false,eval e X.env)::starEach es X.env:=by rfl) (hpl:(backTo pos (starEach es X.env)).any (·.1)=false:=by rfl):PE X (.Call (.Name x p) (e::es) [] pos) (tCB r t):=Ia hc hg hm hv ha hn hdb hs hpl
theorem P1{x:Str}{T:String}{r:List V->Hp->VK->Prop}{e:Expr}{es:List Expr}{t:TA}{p pos:Pos}(hc:J0 X (.type T) r)(hm:X.mg x=none)(hv:bootBuiltins x=some (.type T))(ha:PA X (e::es) t)(hg:Gl X x:=by rfl)(hn:x≠ "__name__":=by decide)(hdb:(x ==("__debug__":Str))=false:=by decide)
  (hs:starEach (e::es) X.env =(false,eval e X.env)::starEach es X.env:=by rfl) (hpl:(backTo pos (starEach es X.env)).any (·.1)=false:=by rfl):PE X (.Call (.Name x p) (e::es) [] pos) (tCB r t):=Gk hc hg hm hv ha hn hdb hs hpl
theorem O6{scope:Scope}{cl:List (Str×Addr)}{N':List Str}{cap:List (Option Nat)}(caps:Caps X scope cl N' cap)(cin:ClIn X cl)(clos:closureFor scope X.env=pure cl:=by rfl)(kind:scope.kind = .function:=by rfl)(nocell:∀y∈scope.names,y.2≠ .cell:=by decide +kernel)
  (loc:∀y∈scope.names,y.2 = .local->scope.names.lookup y.1=some .local:=by decide +kernel) (has:((relabel scope X.env).names.all fun y=>!(y.2 == .cell||y.2 == .free)||(cl.lookup y.1).isSome)=true:=by rfl):CScope X scope cl N' cap:=⟨kind,nocell,loc,clos,cin,has,caps⟩
theorem pgC{scope:Scope}{cl:List (Str×Addr)}{N':List Str}{pins:List (Addr×Obj)}{ex:List Addr}{s3:Shared}{H3:Hp}{x:Str}{pos:Pos}(i:Nat)(hN:N'.Nodup:=by decide +kernel)(hi:N'[i]?=some x:=by rfl)(hx:Loc (cxC X scope cl N' pins ex s3 H3).env.scope x:=by exact Or.inl rfl)
  (hf:(cxC X scope cl N' pins ex s3 H3).env.scope.names.lookup x=some .local:=by rfl):PG (cxC X scope cl N' pins ex s3 H3) (.Name x pos) (Bg i):=J3 (X:=cxC X scope cl N' pins ex s3 H3) hN hi hx (.inr hf)
end
theorem I9:bootBuiltins "len" = some (.builtin "len"):=by decide +kernel
theorem Al:bootBuiltins "enumerate" = some (.type "enumerate"):=by decide +kernel
theorem Lp:bootBuiltins "min" = some (.builtin "min"):=by decide +kernel
theorem Ms:bootBuiltins "max" = some (.builtin "max"):=by decide +kernel
theorem Ih:bootBuiltins "abs" = some (.builtin "abs"):=by decide +kernel
theorem Dw:bootBuiltins "int" = some (.type "int"):=by decide +kernel
theorem Cm:bootBuiltins "str" = some (.type "str"):=by decide +kernel
theorem o9:bootBuiltins "bool" = some (.type "bool"):=by decide +kernel
theorem E6:bootBuiltins "list" = some (.type "list"):=by decide +kernel
theorem F7:bootBuiltins "tuple" = some (.type "tuple"):=by decide +kernel
theorem Mn:bootBuiltins "set" = some (.type "set"):=by decide +kernel
theorem C0:bootBuiltins "isinstance" = some (.builtin "isinstance"):=by decide +kernel
theorem At:bootBuiltins "all" = some (.builtin "all"):=by decide +kernel
def KeepAt(a:Addr)(H0 H:Hp):Prop:=∀o,H0 a=some o->H a=some o
def Sm(D:List Addr)(H H':Hp):Prop:=∀b o,H b=some o->b∉D->H' b=some o
theorem Same.at{H0 H:Hp}(h:Same H0 H)(a:Addr):KeepAt a H0 H:=fun o e=>h a o e
theorem Same.new{H:Hp}{p:Addr}{o:HO}(h:H p=none):Same H (upd H p o):=fun b u e=>by rw[B4 (A9 e h)];exact e
theorem Same.upd{H0 H:Hp}{p:Addr}{o:HO}(s:Same H0 H)(h:H0 p=none):Same H0 (upd H p o):=fun b u e=>by rw[B4 (A9 e h)];exact s b u e
theorem Same.sm{D:List Addr}{H H':Hp}(h:Same H H'):Sm D H H':=fun b o e _=>h b o e
theorem Sm.refl(D:List Addr)(H:Hp):Sm D H H:=fun _ _ e _=>e
theorem Sm.trans{D:List Addr}{H H1 H2:Hp}(a:Sm D H H1)(b:Sm D H1 H2):Sm D H H2:=fun c o h n=>b c o (a c o h n) n
theorem Sm.new{D:List Addr}{H H1:Hp}{p:Addr}{o:HO}(a:Sm D H H1)(h:H1 p=none):Sm D H (L2.upd H1 p o):=fun b u e n=>by
 have:=a b u e n;rw[B4 (A9 this h)];exact this
theorem Sm.upd{D:List Addr}{H H1:Hp}{p:Addr}{o:HO}(a:Sm D H H1)(h:p∈D):Sm D H (L2.upd H1 p o):=fun b u e n=>by
 rw[B4 (show b≠p from fun z=>n (by rw[z];exact h))];exact a b u e n
theorem Sm.updN{D:List Addr}{H H1:Hp}{p:Addr}{o:HO}(a:Sm D H H1)(h:H p=none):Sm D H (L2.upd H1 p o):=fun b u e n=>by rw[B4 (A9 e h)];exact a b u e n
theorem KeepAt.seqL{K:PySem.W.Frag}{H H':Hp}{a:Addr}{xs:List V}(e:KeepAt a H H')(h:SqL K H a xs):SqL K H' a xs:=by
 rcases h with(h | ⟨o,h⟩) | h
 .exact .inl (.inl (e _ h))
 .exact .inl (.inr ⟨o,e _ h⟩)
 .exact .inr h
theorem KeepAt.seqT{K:PySem.W.Frag}{H H':Hp}{a:Addr}{xs:List V}(e:KeepAt a H H')(h:SqT K H a xs):SqT K H' a xs:=by
 rcases h with(h | ⟨o,h⟩) | h
 .exact .inl (.inl (e _ h))
 .exact .inl (.inr ⟨o,e _ h⟩)
 .exact .inr h
def Sqs(K:PySem.W.Frag)(H:Hp)(a:Addr)(xs:List V):Prop:=SqL K H a xs\/SqT K H a xs
structure AsSeq(J:It)(xs:List V)(a:Addr)(H0:Hp):Prop where
 go:∀H i,KeepAt a H0 H->i<xs.length->J.go i H
 stop:∀H,KeepAt a H0 H->J.stop xs.length H
 yld:∀H i x H',KeepAt a H0 H->i<xs.length->J.yld i H x H'->H'=H/\xs[i]?=some x
theorem asL{K:PySem.W.Frag}{H0:Hp}{a:Addr}{xs:List V}(h:SqL K H0 a xs):AsSeq (Itl K a) xs a H0 :=
 ⟨fun H i k hi=>⟨xs,xs[i],k.seqL h,AR hi⟩,fun H k=>⟨xs,k.seqL h,AG _⟩,fun H i x H' k hi ⟨e,y⟩=>⟨e,y xs (k.seqL h)⟩⟩
theorem asT{K:PySem.W.Frag}{H0:Hp}{a:Addr}{xs:List V}(h:SqT K H0 a xs):AsSeq (Itt K a) xs a H0 :=
 ⟨fun H i k hi=>⟨xs,xs[i],k.seqT h,AR hi⟩,fun H k=>⟨xs,k.seqT h,AG _⟩,fun H i x H' k hi ⟨e,y⟩=>⟨e,y xs (k.seqT h)⟩⟩
theorem Mz{K:PySem.W.Frag}{H:Hp}{σ:St}{a:Addr}{xs:List V}{R:It->Hp->Prop}{i:Nat}(hv:σ[i]?=some (some (.ref a)))(h:Sqs K H a xs)(r:∀J,AsSeq J xs a H->R J H):Nv K (Nw i) σ H R:=by
 refine⟨_,hv,a,rfl,?_⟩;rcases h with h | h
 .exact .inl ⟨⟨xs,h⟩,r _ (asL h)⟩
 .exact .inr ⟨⟨xs,h⟩,r _ (asT h)⟩
theorem Y0{K:PySem.W.Frag}{o:Addr->HO}{cap:List (Option Nat)}{lp:Addr->It->St->Hp->(St->Hp->Prop)->Prop}{σ:St}{H:Hp}{Q:VK}{a:Addr}{xs:List V}{i:Nat}(hv:σ[i]?=some (some (.ref a)))(h:Sqs K H a xs)
  (r:∀J,AsSeq J xs a H->∀D,H D=none->lp D J (Ho cap σ) (upd H D (o D)) fun _ H2=>Q (.ref D) H2):Fp (Nv K (Nw i)) o cap lp σ H Q:=Mz hv h r
theorem Lr{J:It}{n:Nat}{g:TG}{tb:TS}{D:Ends}{σ:St}{H:Hp}(Pv:Nat->St->Hp->Prop)(h0:Pv 0 σ H)(hgo:∀i σ H,i<n->Pv i σ H->J.go i H)(hst:∀σ H,Pv n σ H->J.stop n H)
  (hs:∀i σ H x H',i<n->Pv i σ H->J.yld i H x H'->g x σ H' fun σ2 H2=>tb { D with nx:=Pv (i+1),ct:=Pv (i+1),bk:=D.nx } σ2 H2) (hd:∀σ H,Pv n σ H->D.nx σ H) :
  ∃W:Nat->Nat->St->Hp->Prop,(∃m,W 0 m σ H)/\∀i m σ H,W i m σ H ->
   (J.stop i H/\D.nx σ H)\/(J.go i H/\∃N:St->Hp->Prop,(∀σ' H',N σ' H'->∃m',m' < m/\W (i+1) m' σ' H')/\∀x H',J.yld i H x H'->g x σ H' fun σ2 H2=>tb { D with nx:=N,ct:=N,bk:=D.nx } σ2 H2):=by
 refine⟨fun i m σ H=>m=n-i/\i<=n/\Pv i σ H,⟨n,by simp,BU _,h0⟩,?_⟩;rintro i m σ H ⟨rfl,hi,p⟩;by_cases hlt:i<n
 .exact .inr ⟨hgo i σ H hlt p,Pv (i+1),fun σ' H' p'=>⟨n-(i+1),by omega,rfl,hlt,p'⟩,fun x H' y=>hs i σ H x H' hlt p y⟩
 .have e:i=n:=by omega
  subst e;exact .inl ⟨hst σ H p,hd σ H p⟩
theorem Ng{J:It}{xs:List V}{a:Addr}{H0:Hp}(as:AsSeq J xs a H0){g:TG}{tb:TS}{D:Ends}{σ:St}{H:Hp}(Pv:Nat->St->Hp->Prop)(h0:Pv 0 σ H)(hk:∀i σ H,i<=xs.length->Pv i σ H->KeepAt a H0 H)
  (hs:∀i σ H x,xs[i]?=some x->Pv i σ H->g x σ H fun σ2 H2=>tb { D with nx:=Pv (i+1),ct:=Pv (i+1),bk:=D.nx } σ2 H2) (hd:∀σ H,Pv xs.length σ H->D.nx σ H) :
  ∃W:Nat->Nat->St->Hp->Prop,(∃m,W 0 m σ H)/\∀i m σ H,W i m σ H ->
   (J.stop i H/\D.nx σ H)\/(J.go i H/\∃N:St->Hp->Prop,(∀σ' H',N σ' H'->∃m',m' < m/\W (i+1) m' σ' H')/\∀x H',J.yld i H x H'->g x σ H' fun σ2 H2=>tb { D with nx:=N,ct:=N,bk:=D.nx } σ2 H2) :=
 Lr (n:=xs.length) Pv h0 (fun i σ H hi p=>as.go H i (hk i σ H (CK hi) p) hi) (fun σ H p=>as.stop H (hk _ σ H (AG _) p)) (fun i σ H x H' hi p y=>by
  obtain⟨rfl,e⟩:=as.yld H i x H' (hk i σ H (CK hi) p) hi y;exact hs i σ _ x e p) hd
theorem V4{J:It}{n:Nat}{g:TG}{tc:TT}{em:TEm}{σ:St}{H:Hp}{Q:St->Hp->Prop}(Pv:Nat->St->Hp->Prop)(h0:Pv 0 σ H)(hgo:∀i σ H,i<n->Pv i σ H->J.go i H)(hst:∀σ H,Pv n σ H->J.stop n H)
  (hs:∀i σ H x H' (N:St->Hp->Prop),i<n->Pv i σ H->J.yld i H x H'->(∀σ' H',Pv (i+1) σ' H'->N σ' H')->g x σ H' fun σ2 H2=>tc σ2 H2 fun b H3=>if b=true then em σ2 H3 N else N σ2 H3)
  (hd:∀σ H,Pv n σ H->Q σ H):Kt g tc em J σ H Q:=by
 refine⟨fun i m σ H=>m=n-i/\i<=n/\Pv i σ H,⟨n,by simp,BU _,h0⟩,?_⟩;rintro i m σ H ⟨rfl,hi,p⟩;by_cases hlt:i<n
 .exact .inr ⟨hgo i σ H hlt p,fun x H' y=>hs i σ H x H' _ hlt p y fun σ3 H4 p'=>⟨n-(i+1),by omega,rfl,hlt,p'⟩⟩
 .have e:i=n:=by omega
  subst e;exact .inl ⟨hst σ H p,hd σ H p⟩
theorem f8{J:It}{xs:List V}{a:Addr}{H0:Hp}(as:AsSeq J xs a H0){g:TG}{tc:TT}{em:TEm}{σ:St}{H:Hp}{Q:St->Hp->Prop}(Pv:Nat->St->Hp->Prop)(h0:Pv 0 σ H)(hk:∀i σ H,i<=xs.length->Pv i σ H->KeepAt a H0 H)
  (hs:∀i σ H x (N:St->Hp->Prop),xs[i]?=some x->Pv i σ H->(∀σ' H',Pv (i+1) σ' H'->N σ' H')->g x σ H fun σ2 H2=>tc σ2 H2 fun b H3=>if b=true then em σ2 H3 N else N σ2 H3)
  (hd:∀σ H,Pv xs.length σ H->Q σ H):Kt g tc em J σ H Q :=
 V4 (n:=xs.length) Pv h0 (fun i σ H hi p=>as.go H i (hk i σ H (CK hi) p) hi) (fun σ H p=>as.stop H (hk _ σ H (AG _) p)) (fun i σ H x H' N hi p y hN=>by
  obtain⟨rfl,e⟩:=as.yld H i x H' (hk i σ H (CK hi) p) hi y;exact hs i σ _ x N e p hN) hd
theorem U1{em:TEm}{N:St->Hp->Prop}{σ:St}{H:Hp}{i:Nat}{x:V}(h:em (σ.set i (some x)) H N):Bg i x σ H fun σ2 H2=>Kb σ2 H2 fun b H3=>if b=true then em σ2 H3 N else N σ2 H3:=by
 show if true=true then em (σ.set i (some x)) H N else N (σ.set i (some x)) H
 rw[BI rfl];exact h
section
variable{X:Cx}(K:PySem.W.Frag)(P:Program)(w:World){tg:Expr}
theorem piL{l:Expr}{tl:TE}(hl:PE X l tl)(hK:X.K=K:=by rfl):PI X tg l (Np K tl):=by subst hK;exact Je hl
theorem piS{l:Expr}{tl:TE}(hl:PE X l tl)(hK:X.K=K:=by rfl):PI X tg l (Nv K tl):=by subst hK;exact Lj hl
theorem Hh{a:Expr}{ta:TA}{p pos:Pos}(hm:X.mg "range" = none)(ha:PA X [a] ta)(hg:Gl X "range":=by rfl)(hs:starEach [a] X.env = [(false,eval a X.env)]:=by rfl):PI X tg (.Call (.Name "range" p) [a] [] pos) (Ni ta):=Gb hg hm ha hs
theorem pgT{es:List Expr}{k:Nat}{t:TGs}{n:Nat}{pos:Pos}(h:PGs X es t)(hc:X.calm=true:=by rfl)(hn:(assignEach es X.env).length=n:=by rfl)(hst:(assignEach es X.env).findIdx? (·.1)=none:=by rfl)(hK:X.K=K:=by rfl):PG X (.Tuple es k pos) (Pj K n t):=by subst hK;exact Lo hc h hn hst
theorem peF{e:Expr}{ta:TE}{f:Str}{pos:Pos}(he:PE X e ta)(hb:attributeBase e f X.env (eval e X.env)=eval e X.env:=by rfl)(hK:X.K=K:=by rfl):PE X (.Attribute e f pos) (Pm K ta f):=by subst hK;exact Nf he hb
theorem psF{o value:Expr}{ta tv:TE}{f:Str}{pos pos':Pos}(ha:PE X o ta)(hv:PE X value tv)(hs:swapsWith value (some (.Attribute o f pos')) pos.line X.env=pure false:=by rfl)(hK:X.K=K:=by rfl):PS X (.Assign [.Attribute o f pos'] value pos) (Nu K ta tv f):=by subst hK;exact Mb ha hv hs
theorem K3(hK:X.K=K:=by rfl):J0 X (.builtin "len") (fun xs H Q=>∃p ys,xs = [.ref p]/\(SqL K H p ys\/SqT K H p ys)/\Q (.int ys.length) H):=by subst hK;exact Aj
theorem K4(hK:X.K=K:=by rfl):J0 X (.type "list") (fun xs H Q=>∃p ys,xs = [.ref p]/\(SqL K H p ys\/SqT K H p ys)/\∀l,H l=none->Q (.ref l) (upd H l (.lst ys))):=by subst hK;exact Ar
theorem T0(hK:X.K=K:=by rfl):J0 X (.type "tuple") (fun xs H Q=>∃p ys,xs = [.ref p]/\((SqL K H p ys/\∀l,H l=none->Q (.ref l) (upd H l (.tup ys)))\/(SqT K H p ys/\Q (.ref p) H))):=by subst hK;exact p9
theorem Ae(hc:X.calm=true:=by rfl)(hK:X.K=K:=by rfl):J0 X (.builtin "all") (fun xs H Q=>∃(p:Addr) (bs:List Bool),xs = [.ref p]/\SqL K H p (bs.map V.bl)/\Q (.bl (bs.all id)) H):=by subst hK;exact Gw hc
theorem E4(hK:X.K=K:=by rfl):J0 X (.builtin "isinstance") (fun xs H Q=>∃x n t b,xs = [x,.ty n]/\TyOf K H x t/\PySem.W.kitOne K t (.type n)=some b/\Q (.bl b) H):=by subst hK;exact Eb
theorem Oa(hu:X.A.units+64<cLine)(hK:X.K=K:=by rfl):OpR X (compareOp .In) (Kv K false):=by subst hK;exact Nd hu
theorem Hb(hu:X.A.units+64<cLine)(hK:X.K=K:=by rfl):OpR X (compareOp .NotIn) (Kv K true):=by subst hK;exact Fk hu
theorem Hf(hu:X.A.units+64<cLine)(hK:X.K=K:=by rfl):OpR X (compareOp .Eq) (Ln K):=by subst hK;exact Mq hu
theorem Od(hu:X.A.units+64<cLine)(hK:X.K=K:=by rfl):OpR X (compareOp .NotEq) (Pf K):=by subst hK;exact Ll hu
theorem Be(hK:X.K=K:=by rfl):OpR X (compareOp .In) (rIn K false):=by subst hK;exact Ef
theorem Cg(hK:X.K=K:=by rfl):OpR X (compareOp .NotIn) (rIn K true):=by subst hK;exact y6
theorem ixL(hK:X.K=K:=by rfl):IxR X (Pn K):=by subst hK;exact Jr
theorem ixT(hK:X.K=K:=by rfl):IxR X (Pg K):=by subst hK;exact Lz
theorem slL(hK:X.K=K:=by rfl):SlR X (Ov K):=by subst hK;exact Jx
theorem Bp{T id:String}{name:Str}{o e:Expr}{es:List Expr}{to:TE}{t:TA}{apos cpos:Pos}{r:V->List V->Hp->VK->Prop}(pa:PlainAttrs T)(slot:Slot T name id)(hty:typeOf (.builtin id)=pure (.type "method_descriptor"))(hm:MtM X id r)(ho:PE X o to)(ha:PA X (e::es) t)
  (hbase:attributeBase o name X.env (eval o X.env)=eval o X.env:=by rfl)
  (hfew:((backTo cpos (starEach (e::es) X.env)).all (fun x=>!x.1) &&(backToKw cpos (keywordEach [] X.env)).all (fun x=>x.1.isSome)
   && decide ((e::es).length +([]:List Keyword).length +(if([]:List Keyword).isEmpty then 0 else 1)<30))=true:=by rfl)
  (hline:(apos.endLine == cpos.line)=true:=by rfl) (hs:starEach (e::es) X.env =(false,eval e X.env)::starEach es X.env:=by rfl) (hplain:(backTo cpos (starEach es X.env)).any (·.1)=false:=by rfl) (hK:X.K=K:=by rfl) :
  PE X (.Call (.Attribute o name apos) (e::es) [] cpos) (tBM K T r to t):=by subst hK;exact Ol pa slot hty hm ho ha hbase hfew hline hs hplain
theorem Jz{T id:String}{name:Str}{o:Expr}{to:TE}{apos cpos:Pos}{r:V->List V->Hp->VK->Prop}(pa:PlainAttrs T)(slot:Slot T name id)(hty:typeOf (.builtin id)=pure (.type "method_descriptor"))(hm:MtM X id r)(ho:PE X o to)
  (hbase:attributeBase o name X.env (eval o X.env)=eval o X.env:=by rfl) (hline:(apos.endLine == cpos.line)=true:=by rfl) (hK:X.K=K:=by rfl):PE X (.Call (.Attribute o name apos) [] [] cpos) (Pk K T r to):=by subst hK;exact Lc pa slot hty hm ho hbase hline
end
section
variable{X:Cx}
theorem Da{pins:List (Addr×Obj)}{σ:St}{H:Hp}{s:Shared}{A:Around}{E:Value->Shared->Prop}{Q:Value->Shared->Prop}{b:Bool}{x:V}{u t:Value}{tp:Addr}{its:List Value}(I:Inv X pins σ H s)(rx:RelV x u)(ty:TyOf X.K H x t)(htp:IsTup s.heap tp its.toArray)(e:PySem.W.kitAny X.K t its=some b)(hv:(∃y,x = .str y)\/(∃a xs,x = .ref a/\(H a=some (.lst xs)\/H a=some (.tup xs))))(h:∀tk,Q (.bool b) { s with toks:=tk }) :
  wpAny (model X.prog X.w) A (call (.builtin "isinstance") [u,.ref tp]) Q E s:=by
 obtain⟨⟨oc,od,odt,osl⟩,ho,hc,n,hd⟩:=htp;cases hc;cases hd;rcases hv with⟨y,rfl⟩ | ⟨a,xs,rfl,ea | ea⟩
 .cases ty;obtain⟨t,q⟩:=(show ∃t,u=Value.str y t from rx);cases q;exact PySem.W.kia_tup PySem.W.kitx_str I.kIn True.intro ho e (fun z=>nomatch z) h
 .cases(show u=Value.ref a from rx);have hty:t = .type "list":=by cases ty with
   | lst=>rfl
   | frz=>rfl
   | tup ea'=>rw[ea]at ea';cases ea'
   | dK ea'=>rw[ea]at ea';cases ea'
   | dT ea'=>rw[ea]at ea';cases ea'
   | ins ea'=>rw[ea]at ea';cases ea'
  subst hty;obtain⟨_,_,n,_,h1⟩:=(show ObjOk X.prog X.w H s.heap a (.lst xs)from I.hok a _ ea);exact PySem.W.kia_tup PySem.W.kitx_list I.kIn ⟨_,h1,rfl⟩ ho e (fun z=>nomatch z) h
 .cases(show u=Value.ref a from rx);have hty:t = .type "tuple":=by cases ty with
   | tup=>rfl
   | frz ea'=>rw[ea]at ea';cases ea'
   | lst ea'=>rw[ea]at ea';cases ea'
   | dK ea'=>rw[ea]at ea';cases ea'
   | dT ea'=>rw[ea]at ea';cases ea'
   | ins ea'=>rw[ea]at ea';cases ea'
  subst hty;obtain⟨_,_,_,p⟩:=(show ObjOk X.prog X.w H s.heap a (.tup xs)from I.hok a _ ea);obtain⟨o,h1,h2,_⟩:=p;exact PySem.W.kia_tup PySem.W.kitx_tuple I.kIn ⟨o,h1,h2⟩ ho e (fun z=>nomatch z) h
def Kg(K:PySem.W.Frag):List V->Hp->VK->Prop:=fun xs H Q=>∃(x:V) (p:Addr) (ns:List String) (t:Value) (b:Bool),xs = [x,.ref p]/\H p=some (.tup (ns.map V.ty))/\TyOf K H x t/\((∃y,x = .str y)\/(∃a xs,x = .ref a/\(H a=some (.lst xs)\/H a=some (.tup xs))))/\PySem.W.kitAny K t (ns.map Value.type)=some b/\Q (.bl b) H
theorem Bd:∀{ns:List String} {us:List Value},Vals (ns.map V.ty) us->us=ns.map Value.type
 | [],_,.nil=>rfl
 | _::_,_,.cons r t=>by rw[BR,Bd t];cases r;rfl
theorem Dk:J0 X (.builtin "isinstance") (Kg X.K):=by
 intro pins s σ H xs us Q I r h;obtain⟨x,p,ns,t,b,rfl,hp,ht,hv,he,q⟩:=h;obtain⟨u,v,rfl,ru,rv⟩:=r.two;cases rv;obtain⟨its,rv,pl,hz⟩:=I.tuple (SqT.of hp);rw[Bd rv]at pl;exact Da I ru ht pl he hv fun tk=>⟨.bl b,H,I.tok _,rfl,q⟩
variable(K:PySem.W.Frag)
theorem Hn(hK:X.K=K:=by rfl):J0 X (.builtin "isinstance") (Kg K):=by subst hK;exact Dk
end
section
variable{prog:Program}{w:World}{A:Around}{E:Value->Shared->Prop}{s:Shared}{it l:Addr}{i:Nat}{items:Array Value}{x:Value}{Q:Value->Shared->Prop}
theorem Iu{α:Type}{Q:α->Shared->Prop}(hA:A.handled=none)(h:∀h' e,(∀b o,s.heap.get? b=some o->h'.get? b=some o)->(∃o,h'.get? e=some o/\o.cls = .type "StopIteration")->E (.ref e) { s with heap:=h' }):wpAny (model prog w) A (Builtin.SmallTypes.stopIteration (α:=α)) Q E s:=by
 refine AB (AB (DS (AB (AE (CH ?_ (sizeOk_excFields ..)))) (by show 0<=sizeLine;decide)));refine AB (wpAny_handled ?_);rw[hA];exact wpAny_throw (h _ _ (fun b o e=>AD _ (AD _ e)) ⟨_,AO _ rfl,rfl⟩)
theorem J6(hit:s.heap.IsTupleIter it l i)(hl:s.heap.IsTuple l items)(hx:items[i]?=some x)
  (hQ:∀h',h'.IsTupleIter it l (i+1)->Heap.SameBut it s.heap h'->Q x { s with heap:=h' }):wpAny (model prog w) A (Builtin.SmallTypes.nextOf (.ref it)) Q E s:=by
 obtain⟨o,ho,hc,hd⟩:=id hit;obtain⟨ol,hol,_,nl,hdl⟩:=hl;refine AB (BS hit.typeIs F.slot_tuple_iterator_next (CL F.slot_tuple_iterator_next hit.typeIs F.entry_tuple_iterator_next ?_ (F.args_tuple_iterator_next_1 _)));refine AB (AE (AB (BJ ho hd rfl ?_)));refine BQ (c:=(Value.ref l == Value.none)=true) rfl ?_;refine AB (BJ ho hd rfl (AB (CU hol hdl ?_)));dsimp only;rw[show items[(i:Int).toNat]?=some x from hx];refine AB (wpAny_setField ho hd (DV 1) (AE ⟨x,rfl,AE (hQ _ ⟨_,Heap.get?_update_self _ ho (Obj.isFreed_of_fields (Obj.data_mapFields hd _)),(Obj.cls_mapFields o _).trans hc,(Obj.data_mapFields hd _).trans ?_⟩ (DG _ _ _))⟩));rfl
theorem Q3(hA:A.handled=none)(hit:s.heap.IsTupleIter it l i)(hl:s.heap.IsTuple l items)(hx:items[i]?=none)
  (hE:∀h' e,Heap.ExtBut it s.heap h'->(∃o,h'.get? e=some o/\o.cls = .type "StopIteration")->E (.ref e) { s with heap:=h' }):wpAny (model prog w) A (Builtin.SmallTypes.nextOf (.ref it)) Q E s:=by
 obtain⟨o,ho,hc,hd⟩:=id hit;obtain⟨ol,hol,_,nl,hdl⟩:=hl;refine AB (BS hit.typeIs F.slot_tuple_iterator_next (CL F.slot_tuple_iterator_next hit.typeIs F.entry_tuple_iterator_next ?_ (F.args_tuple_iterator_next_1 _)));refine AB (AE (AB (BJ ho hd rfl ?_)));refine BQ (c:=(Value.ref l == Value.none)=true) rfl ?_;refine AB (BJ ho hd rfl (AB (CU hol hdl ?_)));dsimp only;rw[show items[(i:Int).toNat]?=none from hx];refine AB (DA (AB (wpAny_setField ho hd (CV 1) ?_)));exact Iu hA fun h' e k ho=>hE h' e (fun b o hb e=>k b o (((DG _ _ _).2 b hb).trans e)) ho
theorem Ee{M:Model}{α β:Type}{a b:α}{i u v:β}{f:α->β->Sem (ForInStep β)}{Q:β->Shared->Prop}(h:wpAny M A (f a i) (fun r s'=>r = .yield u/\wpAny M A (f b u) (fun r s'=>r = .yield v/\Q v s') E s') E s):wpAny M A (forIn [a,b] i f) Q E s:=by
 rw[List.forIn_cons];refine AB (BV h (fun r s' z=>?_) fun e s' z=>z);obtain⟨rfl,z⟩:=z;show wpAny M A (forIn [b] u f) Q E s';rw[List.forIn_cons];refine AB (BV z (fun r s' z=>?_) fun e s' z=>z);obtain⟨rfl,z⟩:=z;exact AE z
theorem i0{z TI TO i1 i2 l1 l2:Addr}{k1 k2:Nat}{xs ys:Array Value}{x y a b:Value}(D:ZipApart z TI TO i1 i2 l1 l2)(hz:IsZip s.heap z TI TO .none)(hti:IsPair s.heap TI (.ref i1) (.ref i2))(hto:IsPair s.heap TO a b)
  (h1:s.heap.IsTupleIter i1 l1 k1) (h2:s.heap.IsTupleIter i2 l2 k2) (g1:s.heap.IsTuple l1 xs) (g2:s.heap.IsTuple l2 ys) (hx:xs[k1]?=some x) (hy:ys[k2]?=some y)
  (hQ:∀h',IsZip h' z TI TO (rawInt s.heap.objs.size)->IsPair h' TO x y->h'.IsTupleIter i1 l1 (k1+1)->h'.IsTupleIter i2 l2 (k2+1)->IsPair h' s.heap.objs.size x y->h'.objs.size=s.heap.objs.size+1->(∀c o,c≠z->c≠TO->c≠i1->c≠i2->s.heap.get? c=some o->h'.get? c=some o)->Q (.ref s.heap.objs.size) { s with heap:=h' }) :
  wpAny (model prog w) A (Builtin.«zip.__next__» ⟨[.ref z],[]⟩) (fun fin s'=>∃v,fin = .done (.ret v)/\Q v s') E s:=by
 obtain⟨h0,gg,dd,tt,oo⟩:=s;refine AB (AE (AB (BJ hz rfl rfl (AB (BJ hz rfl rfl (AB (CU hti rfl ?_)))))));refine BQ rfl (AB (AB (BJ hz rfl rfl (AE (DC rfl ?_)))));refine AB (DA (AB (BJ hz rfl rfl (AB (BP hz (CV 4) fun h3 z3 s3=>?_)))));have a3:=h1.extBut s3.extBut D.i1z;have b3:=h2.extBut s3.extBut D.i2z;have c3:=g1.extBut s3.extBut D.l1z;have d3:=g2.extBut s3.extBut D.l2z;have e3:=(s3.2 TO D.TOz).trans hto;refine AB ?_;rw[show(#[Value.ref i1,Value.ref i2].toList.zipIdx) = [(Value.ref i1,0),(Value.ref i2,1)]from rfl];refine Ee (u:=(none,())) (v:=(none,())) ?_;refine AB (wpAny_onRaise (BQ rfl (AB (J6 a3 c3 hx fun h4 a4 s4=>AE ?_))));have e4:=(s4.2 TO D.TOi1).trans e3;refine AB (CU e4 rfl (AB (wpAny_updateSeq_pair e4 fun h5 e5 s5=>AB (wpAny_letGo (AE ⟨rfl,?_⟩)))));have b5:=(b3.extBut s4.extBut D.i12.symm).extBut s5.extBut D.TOi2.symm;have d5:=(d3.extBut s4.extBut D.l2i1).extBut s5.extBut D.l2TO;refine AB (wpAny_onRaise (BQ rfl (AB (J6 b5 d5 hy fun h6 b6 s6=>AE ?_))));have e6:=(s6.2 TO D.TOi2).trans e5;refine AB (CU e6 rfl (AB (wpAny_updateSeq_pair e6 fun h7 e7 s7=>AB (wpAny_letGo (AE ⟨rfl,?_⟩)))));have z7:=(s7.2 z D.TOz.symm).trans ((s6.2 z D.i2z.symm).trans ((s5.2 z D.TOz.symm).trans ((s4.2 z D.i1z.symm).trans z3)));have hs:h7.objs.size=h0.objs.size:=s7.1.trans (s6.1.trans (s5.1.trans (s4.1.trans s3.1)));have n0:∀{c:Addr} {o:Obj},h0.get? c=some o->c≠h7.objs.size:=fun e=>by rw[hs];exact AS (AF e)
 refine AB (CU e7 rfl (AB (DS (AB (AB (BP (AD _ z7) (CV 4) fun h8 z8 s8=>BP z8 (Nat.succ_lt_succ (CV 3)) fun h9 z9 s9=>AE ⟨_,rfl,?_⟩))) (by show 2<=sizeLine;decide))));have k9:∀{c:Addr} {o:Obj},c≠z->h7.get? c=some o->h9.get? c=some o:=fun nz e=>(s9.2 _ nz).trans ((s8.2 _ nz).trans (AD _ e));have sz9:h9.objs.size=h0.objs.size+1:=s9.1.trans (s8.1.trans ((BX ..).trans (congrArg (· + 1) hs)));have tk:h9.get? h7.objs.size=some ⟨.type "tuple",none,.seq #[x,y],#[]⟩:=(s9.2 _ (n0 hz).symm).trans ((s8.2 _ (n0 hz).symm).trans (AO _ rfl));rw[hs]at z9 tk⊢;refine hQ h9 z9 (k9 D.TOz e7) (a4.at fun o e=>?_) (b6.at fun o e=>?_) tk sz9 fun c o nz nt n1 n2 e=>k9 nz ?_
 .exact k9 D.i1z ((s7.2 _ D.TOi1.symm).trans ((s6.2 _ D.i12).trans ((s5.2 _ D.TOi1.symm).trans e)))
 .exact k9 D.i2z ((s7.2 _ D.TOi2.symm).trans e)
 .exact(s7.2 _ nt).trans ((s6.2 _ n2).trans ((s5.2 _ nt).trans ((s4.2 _ n1).trans ((s3.2 _ nz).trans e))))
theorem t8{z TI TO i1 i2 l1 l2:Addr}{k1:Nat}{xs:Array Value}{Q:PySem.Fin->Shared->Prop}(hA:A.handled=none)(D:ZipApart z TI TO i1 i2 l1 l2)(hz:IsZip s.heap z TI TO .none)(hti:IsPair s.heap TI (.ref i1) (.ref i2))
  (h1:s.heap.IsTupleIter i1 l1 k1) (g1:s.heap.IsTuple l1 xs) (hx:xs[k1]?=none)
  (hE:∀h' e,(∀c o,c≠z->c≠TO->c≠i1->c≠i2->s.heap.get? c=some o->h'.get? c=some o)->(∃o,h'.get? e=some o/\o.cls = .type "StopIteration")->E (.ref e) { s with heap:=h' }) :
  wpAny (model prog w) A (Builtin.«zip.__next__» ⟨[.ref z],[]⟩) Q E s:=by
 obtain⟨h0,gg,dd,tt,oo⟩:=s;refine AB (AE (AB (BJ hz rfl rfl (AB (BJ hz rfl rfl (AB (CU hti rfl ?_)))))));refine BQ rfl (AB (AB (BJ hz rfl rfl (AE (DC rfl ?_)))));refine AB (DA (AB (BJ hz rfl rfl (AB (BP hz (CV 4) fun h3 z3 s3=>?_)))));refine AB ?_;rw[show(#[Value.ref i1,Value.ref i2].toList.zipIdx) = [(Value.ref i1,0),(Value.ref i2,1)]from rfl,List.forIn_cons];refine AB (AB (wpAny_onRaise (BQ rfl (AB (Q3 hA (h1.extBut s3.extBut D.i1z) (g1.extBut s3.extBut D.l1z) hx fun h4 e k4 ho=>?_)))));refine BP (k4 z _ D.i1z.symm z3) (CV 4) fun h5 z5 s5=>hE h5 e (fun c o nz _ n1 _ e=>(s5.2 _ nz).trans (k4 c o n1 ((s3.2 _ nz).trans e))) ?_;obtain⟨o,ho,hc⟩:=ho;have ne:e≠z:=fun q=>by
  subst q;rw[k4 e _ D.i1z.symm z3]at ho;cases ho;exact absurd (show Value.type "zip" = .type "StopIteration" from hc) (by decide)
 exact⟨o,(s5.2 _ ne).trans ho,hc⟩
theorem Cj{z TI TO:Addr}{f0:Value}(hz:IsZip s.heap z TI TO f0):s.TypeIs (.ref z) "zip":=⟨_,hz,rfl⟩
theorem Iv(hA:A.handled=none)(z TI TO i1 i2 l1 l2:Addr)(D:ZipApart z TI TO i1 i2 l1 l2)(xs ys:Array Value)(hl:xs.size<=ys.size) :
  WalksT prog w A z [z,TI,TO,i1,i2,l1,l2] [z,TO,i1,i2] xs.size (fun i vals=>∃x y,xs[i]?=some x/\ys[i]?=some y/\vals = #[x,y])
   (fun i h=>IsZip h z TI TO .none/\IsPair h TI (.ref i1) (.ref i2)/\(∃a b,IsPair h TO a b)/\h.IsTupleIter i1 l1 i/\h.IsTupleIter i2 l2 i/\h.IsTuple l1 xs/\h.IsTuple l2 ys)
   (fun i T h=>IsZip h z TI TO (rawInt T)/\IsPair h TI (.ref i1) (.ref i2)/\(∃a b,IsPair h TO a b)/\h.IsTupleIter i1 l1 (i+1)/\h.IsTupleIter i2 l2 (i+1)/\h.IsTuple l1 xs/\h.IsTuple l2 ys/\T≠z/\T≠TO/\T≠i1/\T≠i2) where
 sub:=by simp
 frame:=fun i h h' ⟨h1,h2,⟨a,b,h3⟩,h4,h5,h6,h7⟩ k=>⟨k z (by simp) _ h1,k TI (by simp) _ h2,⟨a,b,k TO (by simp) _ h3⟩,h4.at (k i1 (by simp)),h5.at (k i2 (by simp)),h6.at (k l1 (by simp)),h7.at (k l2 (by simp))⟩
 item:=fun i s Q E hi ⟨h1,h2,⟨a,b,h3⟩,h4,h5,h6,h7⟩ hQ=>by
  have hx:xs[i]?=some xs[i]:=DE hi;have hy:ys[i]?=some (ys[i]'(BD hi hl)):=DE _;refine AB (wpAny_attempt (BS (Cj h1) F.slot_zip_next (CL F.slot_zip_next (Cj h1) F.entry_zip_next (i0 D h1 h2 h3 h4 h5 h6 h7 hx hy fun h' z' o' a' b' t' sz k=>AE ?_) (F.args_zip_next_1 _))));refine hQ _ _ h' s.toks ⟨_,_,hx,hy,rfl⟩ (AG _) ⟨_,t',rfl,_,rfl⟩ ⟨z',k TI _ D.TIz D.TITO D.TIi1 D.TIi2 h2,⟨_,_,o'⟩,a',b',h6.at fun o e=>k l1 o D.l1z D.l1TO D.l1i1 D.l1i2 e,h7.at fun o e=>k l2 o D.l2z D.l2TO D.l2i1 D.l2i2 e,?_,?_,?_,?_⟩ fun b o hb e=>?_
  .exact(AS (AF h1)).symm
  .exact(AS (AF h3)).symm
  .obtain⟨o,e,_⟩:=h4;exact(AS (AF e)).symm
  .obtain⟨o,e,_⟩:=h5;exact(AS (AF e)).symm
  .simp only[AJ,AI,or_false,not_or]at hb;exact k b o hb.1 hb.2.1 hb.2.2.1 hb.2.2.2 e
 go:=fun elts k pos i T s Q E ⟨h1,h2,⟨a,b,h3⟩,h4,h5,h6,h7,_⟩ hQ=>wpAny_letOwnedTupleGo_zip h1 fun h' z' k'=>hQ h' ⟨z',(k'.2 _ D.TIz).trans h2,⟨a,b,(k'.2 _ D.TOz).trans h3⟩,h4.extBut k'.extBut D.i1z,h5.extBut k'.extBut D.i2z,h6.extBut k'.extBut D.l1z,h7.extBut k'.extBut D.l2z⟩ fun b o hb e=>(k'.2 b fun q=>hb (by rw[q];exact AX ..)).trans e
 apart:=fun i T h ⟨_,_,_,_,_,_,_,n1,n2,n3,n4⟩ hm=>by
  simp only[AJ,AI,or_false]at hm;rcases hm with e | e | e | e
  .exact n1 e
  .exact n2 e
  .exact n3 e
  .exact n4 e
 done:=fun s Q E ⟨h1,h2,⟨a,b,h3⟩,h4,h5,h6,h7⟩ hQ=>by
  have hx:xs[xs.size]?=none:=Array.getElem?_eq_none (AG _);refine AB (wpAny_attempt (BS (Cj h1) F.slot_zip_next (CL F.slot_zip_next (Cj h1) F.entry_zip_next (t8 hA D h1 h2 h4 h6 hx fun h' e k ho=>?_) (F.args_zip_next_1 _))));obtain⟨o,ho,hc⟩:=ho;refine AB (wpAny_isInstance ⟨o,ho,hc⟩ isSubtype_stop (AE (hQ h' s.toks fun b o hb e=>?_)));simp only[AJ,AI,or_false,not_or]at hb;exact k b o hb.1 hb.2.1 hb.2.2.1 hb.2.2.2 e
 self:=fun i s Q E ⟨h1,_⟩ q=>DX h1 q
end
section
variable{prog:Program}{w:World}{A:Around}{E:Value->Shared->Prop}{s:Shared}
theorem V1{M:Model}{T:String}{vs:List Value}{Q:Value->Shared->Prop}(h:Q (.ref s.heap.objs.size) { s with heap:=s.heap.push { cls:=.type T,data:=.fields vs.toArray } })(hs:sizeOk (.fields vs.toArray)):wpAny M A (Builtin.SmallTypes.newRecord (.type T) vs) Q E s:=CH h hs
theorem Em{l1 l2:Addr}{xs ys:Array Value}{Q:Value->Shared->Prop}(g1:s.heap.IsTuple l1 xs)(g2:s.heap.IsTuple l2 ys)
  (hQ:∀h',IsZip h' (s.heap.objs.size+4) (s.heap.objs.size+2) (s.heap.objs.size+3) .none->IsPair h' (s.heap.objs.size+2) (.ref s.heap.objs.size) (.ref (s.heap.objs.size+1))->IsPair h' (s.heap.objs.size+3) .none .none ->
   h'.IsTupleIter s.heap.objs.size l1 0->h'.IsTupleIter (s.heap.objs.size+1) l2 0->(∀c o,s.heap.get? c=some o->h'.get? c=some o)->Q (.ref (s.heap.objs.size+4)) { s with heap:=h' }) :
  wpAny (model prog w) A (call (.type "zip") [.ref l1,.ref l2]) Q E s:=by
 refine callType_new (S:=fun A R s'=>s'=s/\∀h',IsZip h' (s.heap.objs.size+4) (s.heap.objs.size+2) (s.heap.objs.size+3) .none->IsPair h' (s.heap.objs.size+2) (.ref s.heap.objs.size) (.ref (s.heap.objs.size+1))->IsPair h' (s.heap.objs.size+3) .none .none ->
   h'.IsTupleIter s.heap.objs.size l1 0->h'.IsTupleIter (s.heap.objs.size+1) l2 0->(∀c o,s.heap.get? c=some o->h'.get? c=some o)->R (.ok (.ret (.ref (s.heap.objs.size+4)))) { s with heap:=h' }) F.called_zip rfl (F.typeCall_zip_2 _ _) (F.newCall_zip_2 _ _) (fun _=>F.args_object_init_3 _ _ _) F.entry_zip_new (.of_wp fun prog w A R s' hR=>?_) ⟨rfl,fun h' z1 z2 z3 z4 z5 k=>⟨⟨_,z1,rfl⟩,hQ h' z1 z2 z3 z4 z5 k⟩⟩
 obtain⟨rfl,hR⟩:=hR;obtain⟨h0,gg,dd,tt,oo⟩:=s';refine AB (AB (AE (BQ rfl (AB (D_ sub_zip (BQ rfl (AE ?_)))))))
 let h1:=h0.push { cls:=.type "tuple_iterator",data:=.fields #[.ref l1,.int 0 0] }
 let h2:=h1.push { cls:=.type "tuple_iterator",data:=.fields #[.ref l2,.int 0 0] }
 let h3:=h2.push { cls:=.type "tuple",data:=.seq #[.ref h0.objs.size,.ref h1.objs.size] }
 let h4:=h3.push { cls:=.type "tuple",data:=.seq #[.none,.none] }
 have e1:h1.objs.size=h0.objs.size+1:=BX ..;have e2:h2.objs.size=h0.objs.size+2:=(BX ..).trans (congrArg (· + 1) e1);have e3:h3.objs.size=h0.objs.size+3:=(BX ..).trans (congrArg (· + 1) e2);have e4:h4.objs.size=h0.objs.size+4:=(BX ..).trans (congrArg (· + 1) e3);have g2':h1.IsTuple l2 ys:=g2.at fun o e=>AD _ e;have p0:h1.get? h0.objs.size=some { cls:=.type "tuple_iterator",data:=.fields #[.ref l1,.int 0 0] }:=AO _ rfl;have p1:h2.get? h1.objs.size=some { cls:=.type "tuple_iterator",data:=.fields #[.ref l2,.int 0 0] }:=AO _ rfl;have p2:h3.get? h2.objs.size=some { cls:=.type "tuple",data:=.seq #[.ref h0.objs.size,.ref h1.objs.size] }:=AO _ rfl;have p3:h4.get? h3.objs.size=some { cls:=.type "tuple",data:=.seq #[.none,.none] }:=AO _ rfl;have u:∀{h:Heap} {o:Obj} {c:Addr} {q:Obj},h.get? c=some q->(h.push o).get? c=some q:=fun e=>AD _ e;refine BQ rfl (AB (AB (Ee (u:=#[.ref h0.objs.size]) (v:=#[.ref h0.objs.size,.ref h1.objs.size]) (AB (CG (CW g1 (AE ⟨rfl,AB (CG (CW g2' (AE ⟨rfl,AE ?_⟩)))⟩)))))));refine AB (DS (AB (DS (AB (V1 (AE ⟨_,rfl,?_⟩) ?_)) (by show 2<=sizeLine;decide))) (by show 2<=sizeLine;decide))
 .have hz:=AO h4 (o:={ cls:=.type "zip",data:=.fields #[.none,.bool false,.bool false,.ref h2.objs.size,.ref h3.objs.size] }) rfl;have q:=hR (h4.push { cls:=.type "zip",data:=.fields #[.none,.bool false,.bool false,.ref h2.objs.size,.ref h3.objs.size] });rw[show(Shared.mk h0 gg dd tt oo).heap.objs.size=h0.objs.size from rfl,<-e1,<-e2,<-e3,<-e4]at q;exact q hz (u (u p2)) (u p3) ⟨_,u (u (u (u p0))),rfl,rfl⟩ ⟨_,u (u (u p1)),rfl,rfl⟩ fun c o e=>u (u (u (u (u e))))
 .show 5<=sizeLine+2;decide
end
def Ku(sq:Hp->Addr->List V->Prop)(a b:Addr):It :=
  ⟨fun i H=>∃xs ys x y,sq H a xs/\sq H b ys/\xs.length<=ys.length/\xs[i]?=some x/\ys[i]?=some y,fun i H v H'=>∃T x y,v = .ref T/\H T=none/\H'=upd H T (.tup [x,y])/\(∀xs,sq H a xs->xs[i]?=some x)/\∀ys,sq H b ys->ys[i]?=some y,
   fun i H=>∃xs ys,sq H a xs/\sq H b ys/\xs.length<=ys.length/\xs.length=i⟩
def Dy(isIt:Heap->Addr->Addr->Nat->Prop)(z TI TO i1 i2 a b:Addr)(i:Nat)(h:Heap):Prop:=IsZip h z TI TO .none/\IsPair h TI (.ref i1) (.ref i2)/\(∃u v,IsPair h TO u v)/\isIt h i1 a i/\isIt h i2 b i
section
variable{P:Program}{w:World}{K:PySem.W.Frag}{elts:List Expr}{kk:Nat}{tp:Pos}{isIt:Heap->Addr->Addr->Nat->Prop}{isq:Heap->Addr->Array Value->Prop}{sq:Hp->Addr->List V->Prop}
theorem Ah(oI:∀h c l i,isIt h c l i->∃o,h.get? c=some o/\∀v,o.data≠ .cell v)(kI:∀h h' c l i,isIt h c l i->(∀o,h.get? c=some o->h'.get? c=some o)->isIt h' c l i)
  (gI:∀(X:Cx) pins σ H s c xs,X.K=K->Inv X pins σ H s->sq H c xs->∃its,Vals xs its/\isq s.heap c its.toArray) (uI:∀(X:Cx) pins σ H s c xs ys,X.K=K->Inv X pins σ H s->sq H c xs->sq H c ys->xs=ys)
  (z TI TO i1 i2 a b:Addr) (WI:∀(A:Around),A.handled=none->∀xs ys:Array Value,xs.size<=ys.size->WalksT P w A z [z,TI,TO,i1,i2,a,b] [z,TO,i1,i2] xs.size (fun i vals=>∃x y,xs[i]?=some x/\ys[i]?=some y/\vals = #[x,y])
   (fun i h=>IsZip h z TI TO .none/\IsPair h TI (.ref i1) (.ref i2)/\(∃a b,IsPair h TO a b)/\isIt h i1 a i/\isIt h i2 b i/\isq h a xs/\isq h b ys)
   (fun i T h=>IsZip h z TI TO (rawInt T)/\IsPair h TI (.ref i1) (.ref i2)/\(∃a b,IsPair h TO a b)/\isIt h i1 a (i+1)/\isIt h i2 b (i+1)/\isq h a xs/\isq h b ys/\T≠z/\T≠TO/\T≠i1/\T≠i2)) :
  Turn P w K (.Tuple elts kk tp) (Ku sq a b) [z,TI,TO,i1,i2] z (Dy isIt z TI TO i1 i2 a b) where
 mem:=AX ..
 obj:=fun i h st c hc=>by
  obtain⟨h1,h2,⟨u,v,h3⟩,h4,h5⟩:=st;simp only[AJ,AI,or_false]at hc;rcases hc with rfl | rfl | rfl | rfl | rfl
  .exact⟨_,h1,fun v z=>by cases z⟩
  .exact⟨_,h2,fun v z=>by cases z⟩
  .exact⟨_,h3,fun v z=>by cases z⟩
  .exact oI _ _ _ _ h4
  .exact oI _ _ _ _ h5
 keep:=fun i h h' st k=>by
  obtain⟨h1,h2,⟨u,v,h3⟩,h4,h5⟩:=st;exact⟨k z (by simp) _ h1,k TI (by simp) _ h2,⟨u,v,k TO (by simp) _ h3⟩,kI _ _ _ _ _ h4 (k i1 (by simp)),kI _ _ _ _ _ h5 (k i2 (by simp))⟩
 item:=by
  intro X hP hw hK hc i pins s σ H E I hf st hg;subst hP hw;obtain⟨xs,ys,x,y,hq,hr,hle,hx,hy⟩:=hg;obtain⟨its,rv,p⟩:=gI _ _ _ _ _ _ _ hK I hq;obtain⟨jts,rw_,p'⟩:=gI _ _ _ _ _ _ _ hK I hr;obtain⟨u,hu,ru⟩:=rv.get hx;obtain⟨v,hv,rv'⟩:=rw_.get hy;have hl:=rv.length;have hl':=rw_.length;have W:=WI X.A (I.ok.hd hc) its.toArray jts.toArray (by rw[AK,AK,<-hl,<-hl'];exact hle);have hi:i<its.toArray.size:=by rw[AK];exact(AM.mp hu).1
  obtain⟨s1,s2,s3,s4,s5⟩:=id st;refine W.item i s _ _ hi ⟨s1,s2,s3,s4,s5,p,p'⟩ fun T vals h' tk hvs hT ht hm k=>?_;obtain⟨x',y',hx',hy',rfl⟩:=hvs;have ex:x'=u:=BG (hx'.symm.trans ((CZ ..).trans hu));have ey:y'=v:=BG (hy'.symm.trans ((CZ ..).trans hv));subst ex ey;refine⟨.ref T,rfl,W.go elts kk tp i T _ _ _ hm fun h2 st2 k2=>?_⟩;have kk2:∀b o,b∉[z,TI,TO,i1,i2]->s.heap.get? b=some o->h2.get? b=some o:=fun c o hc' ec=>by
   have n4:c∉[z,TO,i1,i2]:=fun m=>hc' (by
    simp only[AJ,AI,or_false]at m⊢;exact m.imp_right .inr)
   exact k2 c o n4 (k c o n4 ec)
  have hT2:h2.IsTuple T #[x',y']:=ht.at fun o e=>k2 T o (W.apart i T h' hm) e;have gone:∀c∈[z,TI,TO,i1,i2],∃ob,s.heap.get? c=some ob:=fun c hc'=>by
   obtain⟨u3,v3,h3⟩:=s3;obtain⟨o4,h4,_⟩:=oI _ _ _ _ s4;obtain⟨o5,h5,_⟩:=oI _ _ _ _ s5;simp only[AJ,AI,or_false]at hc';rcases hc' with rfl | rfl | rfl | rfl | rfl
   .exact⟨_,s1⟩
   .exact⟨_,s2⟩
   .exact⟨_,h3⟩
   .exact⟨_,h4⟩
   .exact⟨_,h5⟩
  refine⟨.ref T,upd H T (.tup [x,y]),I.turnLaid (fp:=[z,TI,TO,i1,i2]) kk2 hf gone hT ⟨?_,[x',y'],.cons ru (.cons rv' .nil),hT2⟩,rfl,⟨T,x,y,rfl,I.hok.fresh hT,rfl,fun zs hz=>by rw[uI _ _ _ _ _ _ _ _ hK I hz hq];exact hx,fun zs hz=>by rw[uI _ _ _ _ _ _ _ _ hK I hz hr];exact hy⟩,⟨st2.1,st2.2.1,st2.2.2.1,st2.2.2.2.1,st2.2.2.2.2.1⟩,fun c hc'=>?_⟩
  .show 2<=sizeLine;decide
  .obtain⟨ob,eb⟩:=gone c hc';rw[B4 (AS (BD (AF eb) hT))];exact(hf c hc').1
 done:=by
  intro X hP hw hK hc i pins s σ H E I hf st hg;subst hP hw;obtain⟨xs,ys,hq,hr,hle,hx⟩:=hg;obtain⟨its,rv,p⟩:=gI _ _ _ _ _ _ _ hK I hq;obtain⟨jts,rw_,p'⟩:=gI _ _ _ _ _ _ _ hK I hr;have hl:=rv.length;have hl':=rw_.length;have W:=WI X.A (I.ok.hd hc) its.toArray jts.toArray (by rw[AK,AK,<-hl,<-hl'];exact hle);have hi:i=its.toArray.size:=by rw[AK,<-hl,hx]
  obtain⟨s1,s2,s3,s4,s5⟩:=id st;rw[hi]at s4 s5;refine W.done s _ _ ⟨s1,s2,s3,s4,s5,p,p'⟩ fun h' tk k=>⟨rfl,?_⟩;have nf:∀b u,H b=some u->b∉[z,TI,TO,i1,i2]:=fun b u e hb=>by rw[(hf b hb).1]at e;cases e
  have k':∀c o,c∉[z,TI,TO,i1,i2]->s.heap.get? c=some o->h'.get? c=some o:=fun c o hc' ec=>k c o (fun m=>hc' (by
    simp only[AJ,AI,or_false]at m⊢;exact m.imp_right .inr)) ec
  refine I.step (h':=h') (H':=H) (t':=tk) (g':=s.gens) (d':=s.drawn) (ch:=[z,TI,TO,i1,i2]) (fun b hb=>let⟨_,f1,_,f3,f4,f5⟩:=hf b hb;⟨f3,f1,f4,f5⟩) (fun b ob _ _ hc e _=>k' b ob hc e) (fun b ob _ _ hc e _=>⟨ob.slots,k' b ob hc e⟩) (fun _ _ _ _ n=>n)
   (fun b ob hc e=>⟨ob,k' b ob hc e⟩) (fun _ _ e=>e) (fun _ _ _ e=>e) (fun b ps e=>⟨#[],by rw[e];simp⟩) (fun m hm=>?_) (fun b u eb=>?_) I.bare
  .obtain⟨ob,es,ep,ho,r⟩:=hm;exact⟨ob,es,ep,k' _ ob (fun hb=>(hf _ hb).2.1 rfl) ho,r⟩
  .refine(I.hok b u eb).stay (fun c v hc q=>k' c v ?_ q) (fun _ q=>q) fun _ _ q=>q;rcases hc with z | z
   .rw[z];exact nf b u eb
   .exact nf c _ z
 self:=fun A i s Q E st h=>DX st.1 h
theorem Er(z TI TO i1 i2 a b:Addr)(D:ZipApart z TI TO i1 i2 a b):Turn P w K (.Tuple elts kk tp) (Ku (SqL K) a b) [z,TI,TO,i1,i2] z (Dy Heap.IsListIter z TI TO i1 i2 a b) :=
 Ah (isq:=Heap.IsList) (fun h c l i ⟨o,e,_,d⟩=>⟨o,e,fun v z=>by rw[d]at z;cases z⟩) (fun h h' c l i z k=>z.at k) (fun X pins σ H s c xs hK I hq=>by subst hK;obtain⟨its,rv,p,_⟩:=I.list hq;exact⟨its,rv,p.isList⟩) (fun X pins σ H s c xs ys hK I hq hr=>by subst hK;exact I.list_inj hq hr)
  z TI TO i1 i2 a b fun A hA xs ys hl=>by
   have W:=WalksT.zip2 (prog:=P) (w:=w) hA z TI TO i1 i2 a b D xs ys
   rwa [DL hl]at W
theorem Ed(z TI TO i1 i2 a b:Addr)(D:ZipApart z TI TO i1 i2 a b):Turn P w K (.Tuple elts kk tp) (Ku (SqT K) a b) [z,TI,TO,i1,i2] z (Dy Heap.IsTupleIter z TI TO i1 i2 a b) :=
 Ah (isq:=Heap.IsTuple) (fun h c l i ⟨o,e,_,d⟩=>⟨o,e,fun v z=>by rw[d]at z;cases z⟩) (fun h h' c l i z k=>z.at k) (fun X pins σ H s c xs hK I hq=>by subst hK;obtain⟨its,rv,p,_⟩:=I.tuple hq;exact⟨its,rv,p⟩) (fun X pins σ H s c xs ys hK I hq hr=>by subst hK;exact I.tuple_inj hq hr)
  z TI TO i1 i2 a b fun A hA xs ys hl=>Iv hA z TI TO i1 i2 a b D xs ys hl
end
section
variable{X:Cx}{elts:List Expr}{kk:Nat}{tp:Pos}
def Pa(K:PySem.W.Frag)(R:It->Hp->Prop)(a b:Addr)(xs ys:List V)(H:Hp):Prop:=SqL K H a xs/\SqL K H b ys/\R (Ku (SqL K) a b) H\/SqT K H a xs/\SqT K H b ys/\R (Ku (SqT K) a b) H
def Lh(K:PySem.W.Frag)(ta:TA):TI:=fun σ H R=>ta σ H fun vs H1=>∃a b xs ys,vs = [.ref a,.ref b]/\Pa K R a b xs ys H1
theorem Kn:bootBuiltins "zip" = some (.type "zip"):=by decide +kernel
theorem Kk{a b:Expr}{ta:TA}{p pos:Pos}(hg:Gl X "zip")(hm:X.mg "zip" = none)(ha:PA X [a,b] ta)(hs:starEach [a,b] X.env =(false,eval a X.env)::starEach [b] X.env:=by rfl)(hpl:(backTo pos (starEach [b] X.env)).any (·.1)=false:=by rfl):PI X (.Tuple elts kk tp) (.Call (.Name "zip" p) [a,b] [] pos) (Lh X.K ta):=by
 intro pins s σ H R I h;refine Call_ (j6 I hg hm Kn (PyProof.Rows.callWith_type1 (thn (ha pos pins s σ H _ I h) fun us s1 ⟨vs,H1,I1,r1,q1⟩=>?_) hs hpl));obtain⟨l,m,xs,ys,e,q⟩:=q1;subst e;obtain⟨u,v,rfl,ru,rv⟩:=r1.two;cases ru;cases rv;have fpk:∀c∈[s1.heap.objs.size+4,s1.heap.objs.size+2,s1.heap.objs.size+3,s1.heap.objs.size,s1.heap.objs.size+1],l9 X pins H1 c:=fun c hc=>by
  have hc':s1.heap.objs.size<=c:=by
   simp only[AJ,AI,or_false]at hc;rcases hc with rfl | rfl | rfl | rfl | rfl
   .exact DY ..
   .exact DY ..
   .exact DY ..
   .exact AG _
   .exact DY ..
  exact I1.fpOk hc' (I1.hok.fresh hc')
 rcases q with⟨hq,hr,q⟩ | ⟨hq,hr,q⟩
 .obtain⟨its,rx,pl,hz⟩:=I1.list hq;obtain⟨jts,ry,pm,hz'⟩:=I1.list hr;have a1:l<s1.heap.objs.size:=by obtain⟨_,e,_⟩:=pl.isList;exact AF e
  have a2:m<s1.heap.objs.size:=by obtain⟨_,e,_⟩:=pm.isList;exact AF e
  refine call_zip_2 pl.isList pm.isList fun h' g1 g2 g3 g4 g5 hsz k=>DX g1 ?_;exact⟨s1.heap.objs.size+4,_,_,_,H1,rfl,I1.kept (t':=s1.toks) k,Er _ _ _ _ _ l m (zipApart_new a1 a2),⟨g1,g2,⟨_,_,g3⟩,g4,g5⟩,fpk,q⟩
 .obtain⟨its,rx,pl,hz⟩:=I1.tuple hq;obtain⟨jts,ry,pm,hz'⟩:=I1.tuple hr;have a1:l<s1.heap.objs.size:=by obtain⟨_,e,_⟩:=id pl;exact AF e
  have a2:m<s1.heap.objs.size:=by obtain⟨_,e,_⟩:=id pm;exact AF e
  refine Em pl pm fun h' g1 g2 g3 g4 g5 k=>DX g1 ?_;exact⟨s1.heap.objs.size+4,_,_,_,H1,rfl,I1.kept (t':=s1.toks) k,Ed _ _ _ _ _ l m (zipApart_new a1 a2),⟨g1,g2,⟨_,_,g3⟩,g4,g5⟩,fpk,q⟩
variable(K:PySem.W.Frag)
theorem Pu{a b:Expr}{ta:TA}{p pos:Pos}(hm:X.mg "zip" = none)(ha:PA X [a,b] ta)(hg:Gl X "zip":=by rfl)(hs:starEach [a,b] X.env =(false,eval a X.env)::starEach [b] X.env:=by rfl)(hpl:(backTo pos (starEach [b] X.env)).any (·.1)=false:=by rfl)(hK:X.K=K:=by rfl):PI X (.Tuple elts kk tp) (.Call (.Name "zip" p) [a,b] [] pos) (Lh K ta):=by subst hK;exact Kk hg hm ha hs hpl
end
section
variable{prog:Program}{w:World}{A:Around}{E:Value->Shared->Prop}{s:Shared}{e it l:Addr}{i:Nat}{items:Array Value}{x old:Value}{Q:Value->Shared->Prop}
theorem d7(he:IsEnum s.heap e it (i:Int) old)(h1:s.heap.IsTupleIter it l i)(g1:s.heap.IsTuple l items)(hx:items[i]?=some x)(hei:e≠it)
  (hQ:∀h',IsEnumOut h' e it ((i:Int)+1) x s.heap.objs.size->h'.IsTupleIter it l (i+1)->h'.get? s.heap.objs.size=some { cls:=.type "tuple",data:=.seq #[.int (i:Int) s.toks,x] }->(∀b o,b≠e->b≠it->s.heap.get? b=some o->h'.get? b=some o)->Q (.ref s.heap.objs.size) { s with heap:=h',toks:=s.toks+1 }) :
  wpAny (model prog w) A (Builtin.«enumerate.__next__» ⟨[.ref e],[]⟩) (fun fin s'=>∃v,fin = .done (.ret v)/\Q v s') E s:=by
 obtain⟨h0,gg,dd,tt,oo⟩:=s;refine AB (AE (AB (BJ he rfl rfl (AB (J6 h1 g1 hx fun h2 a2 s2=>?_)))));have e2:=(s2.2 e hei).trans he;refine AB (BJ e2 rfl rfl (AB (BJ e2 rfl rfl (DC rfl ?_))));refine AB (wpAny_mkInt (AB (BP e2 (CO rfl) fun h3 e3 s3=>AB (BP e3 (CO rfl) fun h4 e4 s4=>?_))));have hs:h4.objs.size=h0.objs.size:=s4.1.trans (s3.1.trans s2.1);have n0:∀{c:Addr} {o:Obj},h0.get? c=some o->c≠h4.objs.size:=fun e=>by rw[hs];exact AS (AF e)
 refine AB (DS ?_ (by show 2<=sizeLine;decide));have e5:=AD { cls:=.type "tuple",data:=.seq [.int (i:Int) tt,x].toArray } e4;refine AB (AB (BJ e5 rfl rfl (AE (DC rfl ?_))));refine AB (DA (AB (BJ e5 rfl rfl (AB (BP e5 (CO rfl) fun h6 e6 s6=>?_)))));refine AB (AB (BP e6 (CO rfl) fun h7 e7 s7=>BP e7 (CO rfl) fun h8 e8 s8=>AB (wpAny_letGo (AE ⟨_,rfl,?_⟩))));have k8:∀{c:Addr} {o:Obj},c≠e->h4.get? c=some o->h8.get? c=some o:=fun nz z=>(s8.2 _ nz).trans ((s7.2 _ nz).trans ((s6.2 _ nz).trans (AD _ z)));have k4:∀{c:Addr} {o:Obj},c≠e->h2.get? c=some o->h8.get? c=some o:=fun nz z=>k8 nz ((s4.2 _ nz).trans ((s3.2 _ nz).trans z));have tk:h8.get? h4.objs.size=some { cls:=.type "tuple",data:=.seq #[.int (i:Int) tt,x] }:=(s8.2 _ (n0 he).symm).trans ((s7.2 _ (n0 he).symm).trans ((s6.2 _ (n0 he).symm).trans (AO _ rfl)));rw[hs]at e8 tk⊢;exact hQ h8 e8 (a2.at fun o z=>k4 hei.symm z) tk fun b o nb ni z=>k4 nb ((s2.2 _ ni).trans z)
theorem g7{Q:PySem.Fin->Shared->Prop}(hA:A.handled=none)(he:IsEnum s.heap e it (i:Int) old)(h1:s.heap.IsTupleIter it l i)(g1:s.heap.IsTuple l items)(hx:items[i]?=none)
  (hE:∀h' z,Heap.ExtBut it s.heap h'->(∃o,h'.get? z=some o/\o.cls = .type "StopIteration")->E (.ref z) { s with heap:=h' }) :
  wpAny (model prog w) A (Builtin.«enumerate.__next__» ⟨[.ref e],[]⟩) Q E s :=
 AB (AE (AB (BJ he rfl rfl (AB (Q3 hA h1 g1 hx hE)))))
theorem m8(he:IsEnum s.heap e it (i:Int) old):s.TypeIs (.ref e) "enumerate":=⟨_,he,rfl⟩
theorem Ka(hA:A.handled=none)(e it l:Addr)(hei:e≠it)(hle:l≠e)(hli:l≠it)(items:Array Value) :
  WalksT prog w A e [e,it,l] [e,it] items.size (fun i vals=>∃t x,items[i]?=some x/\vals = #[.int (i:Int) t,x])
   (fun i h=>(∃old,IsEnum h e it (i:Int) old)/\h.IsTupleIter it l i/\h.IsTuple l items)
   (fun i T h=>(∃x,IsEnumOut h e it ((i:Int)+1) x T)/\h.IsTupleIter it l (i+1)/\h.IsTuple l items/\T≠e/\T≠it) where
 sub:=by simp
 frame:=fun i h h' ⟨⟨old,h1⟩,h2,h3⟩ k=>⟨⟨old,k e (by simp) _ h1⟩,h2.at (k it (by simp)),h3.at (k l (by simp))⟩
 item:=fun i s Q E hi ⟨⟨old,h1⟩,h2,h3⟩ hQ=>by
  have hx:items[i]?=some items[i]:=DE hi;refine AB (wpAny_attempt (BS (m8 h1) F.slot_enumerate_next (CL F.slot_enumerate_next (m8 h1) F.entry_enumerate_next (d7 h1 h2 h3 hx hei fun h' z' a' t' k=>AE ?_) (F.args_enumerate_next_1 _))));refine hQ _ _ h' (s.toks+1) ⟨_,_,hx,rfl⟩ (AG _) ⟨_,t',rfl,_,rfl⟩ ⟨⟨_,z'⟩,a',h3.at fun o z=>k l o hle hli z,?_,?_⟩ fun b o hb z=>?_
  .exact(AS (AF h1)).symm
  .obtain⟨o,z,_⟩:=h2;exact(AS (AF z)).symm
  .simp only[AJ,AI,or_false,not_or]at hb;exact k b o hb.1 hb.2 z
 go:=fun elts k pos i T s Q E ⟨⟨x,h1⟩,h2,h3,_⟩ hQ=>wpAny_letOwnedTupleGo_enum h1 fun h' z' k'=>hQ h' ⟨⟨_,z'⟩,h2.extBut k'.extBut hei.symm,h3.extBut k'.extBut hle⟩ fun b o hb z=>(k'.2 b fun q=>hb (by rw[q];exact AX ..)).trans z
 apart:=fun i T h ⟨_,_,_,n1,n2⟩ hm=>by
  simp only[AJ,AI,or_false]at hm;rcases hm with z | z
  .exact n1 z
  .exact n2 z
 done:=fun s Q E ⟨⟨old,h1⟩,h2,h3⟩ hQ=>by
  have hx:items[items.size]?=none:=Array.getElem?_eq_none (AG _);refine AB (wpAny_attempt (BS (m8 h1) F.slot_enumerate_next (CL F.slot_enumerate_next (m8 h1) F.entry_enumerate_next (g7 hA h1 h2 h3 hx fun h' z k ho=>?_) (F.args_enumerate_next_1 _))));obtain⟨o,ho,hc⟩:=ho;refine AB (wpAny_isInstance ⟨o,ho,hc⟩ isSubtype_stop (AE (hQ h' s.toks fun b o hb z=>?_)));simp only[AJ,AI,or_false,not_or]at hb;exact k b o hb.2 z
 self:=fun i s Q E ⟨⟨_,h1⟩,_⟩ q=>DT h1 q
theorem Lx{M:Model}{α:Type}{c:Prop}[Decidable c]{a b:Sem α}{Q:α->Shared->Prop}(h1:wpAny M A a Q E s)(h2:wpAny M A b Q E s):wpAny M A (if c then a else b) Q E s:=by
 by_cases h:c
 .rw[BI h];exact h1
 .rw[BF h];exact h2
theorem Dh(g1:s.heap.IsTuple l items)
  (hQ:∀h',IsEnum h' (s.heap.objs.size+1) s.heap.objs.size 0 .none->h'.IsTupleIter s.heap.objs.size l 0->(∀b o,s.heap.get? b=some o->h'.get? b=some o)->Q (.ref (s.heap.objs.size+1)) { s with heap:=h' }) :
  wpAny (model prog w) A (call (.type "enumerate") [.ref l]) Q E s:=by
 refine callType_new (S:=fun A R s'=>s'=s/\∀h',IsEnum h' (s.heap.objs.size+1) s.heap.objs.size 0 .none->h'.IsTupleIter s.heap.objs.size l 0->(∀b o,s.heap.get? b=some o->h'.get? b=some o)->R (.ok (.ret (.ref (s.heap.objs.size+1)))) { s with heap:=h' })
  F.called_enumerate rfl (F.typeCall_enumerate_1 _) (F.newCall_enumerate_1 _) (fun _=>F.args_object_init_2 _ _) F.entry_enumerate_new (.of_wp fun prog w A R s' hR=>?_) ⟨rfl,fun h' z1 z2 k=>⟨⟨_,z1,rfl⟩,hQ h' z1 z2 k⟩⟩
 obtain⟨rfl,hR⟩:=hR;obtain⟨h0,gg,dd,tt,oo⟩:=s';have e1:(h0.push { cls:=.type "tuple_iterator",data:=.fields #[.ref l,.int 0 0] }).objs.size=h0.objs.size+1:=BX ..;refine AB (AB (AE (BQ rfl (AB (D_ sub_enumerate (BQ rfl (AE ?_)))))));refine DC rfl (AB (AB (wpAny_stack_any fun st=>AE ?_)));have fin:wpAny (model prog w) A.in1 (pyIter (.ref l) >>= fun v=>Builtin.SmallTypes.newRecord (.type "enumerate") (Builtin.SmallTypes.ownedTupleFields ++ [v,rawInt 0,.none,.none]) >>= fun r=>ret r) (fun fin s'=>∃v,fin = .done (.ret v)/\R (.ok (.ret v)) s') (fun e s'=>R (.error e) s') ⟨h0,gg,dd,tt,oo⟩:=by
  refine AB (CW g1 (AB (V1 (AE ⟨_,rfl,?_⟩) (by show 6<=sizeLine+2;decide))));have he:=AO (h0.push { cls:=.type "tuple_iterator",data:=.fields #[.ref l,.int 0 0] }) (o:={ cls:=.type "enumerate",data:=.fields #[.none,.bool false,.ref h0.objs.size,rawInt 0,.none,.none] }) rfl;have q:=hR ((h0.push { cls:=.type "tuple_iterator",data:=.fields #[.ref l,.int 0 0] }).push { cls:=.type "enumerate",data:=.fields #[.none,.bool false,.ref h0.objs.size,rawInt 0,.none,.none] });rw[show(Shared.mk h0 gg dd tt oo).heap.objs.size=h0.objs.size from rfl,<-e1]at q;exact q he ⟨_,AD _ (AO _ rfl),rfl,rfl⟩ fun b o z=>AD _ (AD _ z)
 exact Lx (AB (D_ (a:=(Value.ref l,none)) rfl fin)) (AB (D_ (a:=(Value.ref l,none)) rfl fin))
end
def Ks(sq:Hp->Addr->List V->Prop)(a:Addr):It :=
 ⟨fun i H=>∃xs x,sq H a xs/\xs[i]?=some x,fun i H v H'=>∃T x,v = .ref T/\H T=none/\H'=upd H T (.tup [.int i,x])/\∀xs,sq H a xs->xs[i]?=some x,fun i H=>∃xs,sq H a xs/\xs.length=i⟩
section
variable{P:Program}{w:World}{K:PySem.W.Frag}{elts:List Expr}{kk:Nat}{tp:Pos}{isIt:Heap->Addr->Addr->Nat->Prop}{isq:Heap->Addr->Array Value->Prop}{sq:Hp->Addr->List V->Prop}
theorem j8(oI:∀h c l i,isIt h c l i->∃o,h.get? c=some o/\∀v,o.data≠ .cell v)(kI:∀h h' c l i,isIt h c l i->(∀o,h.get? c=some o->h'.get? c=some o)->isIt h' c l i)
  (gI:∀(X:Cx) pins σ H s c xs,X.K=K->Inv X pins σ H s->sq H c xs->∃its,Vals xs its/\isq s.heap c its.toArray) (uI:∀(X:Cx) pins σ H s c xs ys,X.K=K->Inv X pins σ H s->sq H c xs->sq H c ys->xs=ys)
  (nE:∀h c e it i old its,IsEnum h e it i old->isq h c its->c≠e) (nI:∀h c l i its e,isIt h e l i->isq h c its->c≠e)
  (a it e:Addr) (hei:e≠it) (WI:∀(A:Around),A.handled=none->a≠e->a≠it->∀items:Array Value,WalksT P w A e [e,it,a] [e,it] items.size (fun i vals=>∃t x,items[i]?=some x/\vals = #[.int (i:Int) t,x])
   (fun i h=>(∃old,IsEnum h e it (i:Int) old)/\isIt h it a i/\isq h a items)
   (fun i T h=>(∃x,IsEnumOut h e it ((i:Int)+1) x T)/\isIt h it a (i+1)/\isq h a items/\T≠e/\T≠it)) :
  Turn P w K (.Tuple elts kk tp) (Ks sq a) [e,it] e (fun i h=>(∃old,IsEnum h e it (i:Int) old)/\isIt h it a i) where
 mem:=AX ..
 obj:=fun i h st b hb=>by
  obtain⟨⟨old,h1⟩,h2⟩:=st;rcases AJ.mp hb with rfl | hb
  .exact⟨_,h1,fun v z=>by cases z⟩
  .rw[AC.mp hb];exact oI _ _ _ _ h2
 keep:=fun i h h' st k=>⟨let⟨old,h1⟩:=st.1;⟨old,k e (by simp) _ h1⟩,kI _ _ _ _ _ st.2 (k it (by simp))⟩
 item:=by
  intro X hP hw hK hc i pins s σ H E I hf st hg;subst hP hw;obtain⟨xs,x,hq,hx⟩:=hg;obtain⟨its,rv,p⟩:=gI _ _ _ _ _ _ _ hK I hq;obtain⟨u,hu,ru⟩:=rv.get hx;obtain⟨⟨old,s1⟩,s2⟩:=id st;have W:=WI X.A (I.ok.hd hc) (nE _ _ _ _ _ _ _ s1 p) (nI _ _ _ _ _ _ s2 p) its.toArray;have hi:i<its.toArray.size:=by rw[AK];exact(AM.mp hu).1
  refine W.item i s _ _ hi ⟨st.1,st.2,p⟩ fun T vals h' tk hv hT ht hm k=>?_;obtain⟨t,x',hx',rfl⟩:=hv;have ex:x'=u:=BG (hx'.symm.trans ((CZ ..).trans hu));subst ex;refine⟨.ref T,rfl,W.go elts kk tp i T _ _ _ hm fun h2 st2 k2=>?_⟩;have hT2:h2.IsTuple T #[.int i t,x']:=ht.at fun o z=>k2 T o (W.apart i T h' hm) z;have gone:∀c∈[e,it],∃ob,s.heap.get? c=some ob:=fun c hc'=>by
   rcases AJ.mp hc' with rfl | hb
   .exact⟨_,s1⟩
   .rw[AC.mp hb];obtain⟨o,h4,_⟩:=oI _ _ _ _ s2;exact⟨o,h4⟩
  refine⟨.ref T,upd H T (.tup [.int i,x]),I.turnLaid (fp:=[e,it]) (fun b o hb eb=>k2 b o hb (k b o hb eb)) hf gone hT ⟨?_,[.int i t,x'],.cons ⟨t,rfl⟩ (.cons ru .nil),hT2⟩,rfl,⟨T,x,rfl,I.hok.fresh hT,rfl,fun zs hz=>by rw[uI _ _ _ _ _ _ _ _ hK I hz hq];exact hx⟩,⟨st2.1,st2.2.1⟩,fun c hc'=>?_⟩
  .show 2<=sizeLine;decide
  .obtain⟨ob,eb⟩:=gone c hc';rw[B4 (AS (BD (AF eb) hT))];exact(hf c hc').1
 done:=by
  intro X hP hw hK hc i pins s σ H E I hf st hg;subst hP hw;obtain⟨xs,hq,hx⟩:=hg;obtain⟨its,rv,p⟩:=gI _ _ _ _ _ _ _ hK I hq;obtain⟨⟨old,s1⟩,s2⟩:=id st;have W:=WI X.A (I.ok.hd hc) (nE _ _ _ _ _ _ _ s1 p) (nI _ _ _ _ _ _ s2 p) its.toArray;have hi:i=its.toArray.size:=by rw[AK,<-rv.length,hx]
  rw[hi]at st;refine W.done s _ _ ⟨st.1,st.2,p⟩ fun h' tk k=>⟨rfl,?_⟩;refine I.step (h':=h') (H':=H) (t':=tk) (g':=s.gens) (d':=s.drawn) (ch:=[e,it]) (fun b hb=>let⟨_,f1,_,f3,f4,f5⟩:=hf b hb;⟨f3,f1,f4,f5⟩) (fun b ob _ _ hc e _=>k b ob hc e) (fun b ob _ _ hc e _=>⟨ob.slots,k b ob hc e⟩) (fun _ _ _ _ n=>n)
   (fun b ob hc e=>⟨ob,k b ob hc e⟩) (fun _ _ e=>e) (fun _ _ _ e=>e) (fun b ps e=>⟨#[],by rw[e];simp⟩) (fun m hm=>?_) (fun b u eb=>?_) I.bare
  .obtain⟨ob,es,ep,ho,r⟩:=hm;exact⟨ob,es,ep,k _ ob (fun hb=>(hf _ hb).2.1 rfl) ho,r⟩
  .have nf:∀b u,H b=some u->b∉[e,it]:=fun b u e hb=>by rw[(hf b hb).1]at e;cases e
   refine(I.hok b u eb).stay (fun c v hc q=>k c v ?_ q) (fun _ q=>q) fun _ _ q=>q;rcases hc with z | z
   .rw[z];exact nf b u eb
   .exact nf c _ z
 self:=fun A i s Q E st h=>let⟨_,he⟩:=st.1;DT he h
theorem Dl(a it e:Addr)(hei:e≠it):Turn P w K (.Tuple elts kk tp) (Ks (SqL K) a) [e,it] e (fun i h=>(∃old,IsEnum h e it (i:Int) old)/\h.IsListIter it a i) :=
 j8 (isIt:=Heap.IsListIter) (isq:=Heap.IsList) (fun h c l i ⟨o,e,_,d⟩=>⟨o,e,fun v z=>by rw[d]at z;cases z⟩) (fun h h' c l i z k=>z.at k) (fun X pins σ H s c xs hK I hq=>by subst hK;obtain⟨its,rv,p,_⟩:=I.list hq;exact⟨its,rv,p.isList⟩) (fun X pins σ H s c xs ys hK I hq hr=>by subst hK;exact I.list_inj hq hr)
  (fun h c e it i old its he ⟨o,ho,hc,_⟩ z=>by
   rw[z,he]at ho;cases ho;exact absurd (show Value.type "enumerate" = .type "list" from hc) (by decide))
  (fun h c l i its e ⟨o',ho',hc',_⟩ ⟨o,ho,hc,_⟩ z=>by
   rw[z,ho']at ho;cases ho;rw[hc']at hc;exact absurd hc (by decide)) a it e hei fun A hA h1 h2 items=>WalksT.enumerate hA e it a hei h1 h2 items
theorem Df(a it e:Addr)(hei:e≠it):Turn P w K (.Tuple elts kk tp) (Ks (SqT K) a) [e,it] e (fun i h=>(∃old,IsEnum h e it (i:Int) old)/\h.IsTupleIter it a i) :=
 j8 (isIt:=Heap.IsTupleIter) (isq:=Heap.IsTuple) (fun h c l i ⟨o,e,_,d⟩=>⟨o,e,fun v z=>by rw[d]at z;cases z⟩) (fun h h' c l i z k=>z.at k) (fun X pins σ H s c xs hK I hq=>by subst hK;obtain⟨its,rv,p,_⟩:=I.tuple hq;exact⟨its,rv,p⟩) (fun X pins σ H s c xs ys hK I hq hr=>by subst hK;exact I.tuple_inj hq hr)
  (fun h c e it i old its he ⟨o,ho,hc,_⟩ z=>by
   rw[z,he]at ho;cases ho;exact absurd (show Value.type "enumerate" = .type "tuple" from hc) (by decide))
  (fun h c l i its e ⟨o',ho',hc',_⟩ ⟨o,ho,hc,_⟩ z=>by
   rw[z,ho']at ho;cases ho;rw[hc']at hc;exact absurd hc (by decide)) a it e hei fun A hA h1 h2 items=>Ka hA e it a hei h1 h2 items
end
section
variable{X:Cx}{elts:List Expr}{kk:Nat}{tp:Pos}
def Me(K:PySem.W.Frag)(R:It->Hp->Prop)(a:Addr)(xs:List V)(H:Hp):Prop:=SqL K H a xs/\R (Ks (SqL K) a) H\/SqT K H a xs/\R (Ks (SqT K) a) H
def Iq(K:PySem.W.Frag)(ta:TA):TI:=fun σ H R=>ta σ H fun vs H1=>∃a xs,vs = [.ref a]/\Me K R a xs H1
theorem Hc{a:Expr}{ta:TA}{p pos:Pos}(hg:Gl X "enumerate")(hm:X.mg "enumerate" = none)(hv:bootBuiltins "enumerate" = some (.type "enumerate"))(ha:PA X [a] ta)(hs:starEach [a] X.env = [(false,eval a X.env)]:=by rfl):PI X (.Tuple elts kk tp) (.Call (.Name "enumerate" p) [a] [] pos) (Iq X.K ta):=by
 intro pins s σ H R I h;refine Call_ (j6 I hg hm hv (PyProof.Rows.callWith_type1 (thn (ha pos pins s σ H _ I h) fun us s1 ⟨vs,H1,I1,r1,q1⟩=>?_) hs rfl));obtain⟨l,xs,e,q⟩:=q1;subst e;obtain⟨u,rfl,ru⟩:=g0 r1;cases ru;have fpk:∀b∈[s1.heap.objs.size+1,s1.heap.objs.size],l9 X pins H1 b:=fun b hb=>by
  rcases AJ.mp hb with z | hb
  .rw[z];exact I1.fpOk (DZ _) (I1.hok.fresh (DZ _))
  .rw[AC.mp hb];exact I1.fpOk (AG _) (I1.hok.fresh (AG _))
 rcases q with⟨hq,q⟩ | ⟨hq,q⟩
 .obtain⟨its,rv,pl,hz⟩:=I1.list hq;exact call_enumerate_list pl.isList fun h' he hit hsz k=>DT he ⟨s1.heap.objs.size+1,_,_,_,H1,rfl,I1.kept (t':=s1.toks) k,Dl l s1.heap.objs.size (s1.heap.objs.size+1) (Nat.succ_ne_self _),⟨⟨_,he⟩,hit⟩,fpk,q⟩
 .obtain⟨its,rv,pl,hz⟩:=I1.tuple hq;exact Dh pl fun h' he hit k=>DT he ⟨s1.heap.objs.size+1,_,_,_,H1,rfl,I1.kept (t':=s1.toks) k,Df l s1.heap.objs.size (s1.heap.objs.size+1) (Nat.succ_ne_self _),⟨⟨_,he⟩,hit⟩,fpk,q⟩
end
theorem Hx{K:PySem.W.Frag}{R:It->Hp->Prop}{a:Addr}{xs:List V}{H H':Hp}(h:Sqs K H a xs)(k:KeepAt a H H')(q:∀sq:Hp->Addr->List V->Prop,(∀H1,KeepAt a H H1->sq H1 a xs)->R (Ks sq a) H'):Me K R a xs H':=by
 rcases h with h | h
 .exact .inl ⟨k.seqL h,q _ fun H1 k=>k.seqL h⟩
 .exact .inr ⟨k.seqT h,q _ fun H1 k=>k.seqT h⟩
section
variable{X:Cx}(K:PySem.W.Frag)
theorem Pt{elts:List Expr}{kk:Nat}{tp:Pos}{a:Expr}{ta:TA}{p pos:Pos}(hm:X.mg "enumerate" = none)(ha:PA X [a] ta)(hg:Gl X "enumerate":=by rfl)(hs:starEach [a] X.env = [(false,eval a X.env)]:=by rfl)(hK:X.K=K:=by rfl) :
  PI X (.Tuple elts kk tp) (.Call (.Name "enumerate" p) [a] [] pos) (Iq K ta):=by subst hK;exact Hc hg hm Al ha hs
end
section
variable{X:Cx}{tg iter elt:Expr}{ifs:List Expr}{scope:Scope}{cl:List (Str×Addr)}{N':List Str}{cap:List (Option Nat)}{wi:TI}{pos:Pos}
theorem Fx{e:Expr}{gs:List Comprehension}{newAcc:Sem Value}{p2:Pos}{use:Option (Value->Sem Unit)}{Qv:Value->Shared->Prop}(hcl:clausesOf e =⟨tg,iter,ifs,0⟩::gs)(o:Addr->HO)(hs:∀x,foldedSetIterable iter X.env x=pure x)(S:CScope X scope cl N' cap)(hc:X.calm=true)(hi:PI X tg iter wi)
  {lp:Addr->It->St->Hp->(St->Hp->Prop)->Prop}
  (hnew:∀(pins:List (Addr×Obj)) (s:Shared) (σ:St) (H:Hp) (Q:Value->Shared->Prop) (E:Value->Shared->Prop),Inv X pins σ H s->(∀s',Inv X pins σ (upd H s.heap.objs.size (o s.heap.objs.size)) s'->(∀b ob,s.heap.get? b=some ob->s'.heap.get? b=some ob)->Q (.ref s.heap.objs.size) s')->wpAny (model X.prog X.w) X.A newAcc Q E s)
  (hlp:∀(pins:List (Addr×Obj)) (ex:List Addr) (s3:Shared) (H3:Hp) (D it:Addr) (fp:List Addr) (tn:Nat->Heap->Prop) (J:It) (σ:St) (s:Shared) (H:Hp) (Q:St->Hp->Prop) (R:Result->Shared->Prop),
   Turn X.prog X.w X.K tg J fp it tn->Inv (cxC X scope cl N' pins ex s3 H3) [] σ H s->tn 0 s.heap->(∀b∈fp,l9 (cxC X scope cl N' pins ex s3 H3) [] H b)->lp D J σ H Q ->
   (∀s' σ' H',Inv (cxC X scope cl N' pins ex s3 H3) [] σ' H' s'->Q σ' H'->R (.ok .next) s') ->
   codeAny (model X.prog X.w) X.A (.compLoop e 0 (.ref it) (.ref D) (compEnvC scope cl s3.heap.objs.size X.env)) R s)
  (hun:∀it D env,X.A.under (.compStart e 0 (.ref it) (.ref D) env)=X.A) (hden:∀it D env,(model X.prog X.w).den (.compStart e 0 (.ref it) (.ref D) env) =(compStart e 0 (.ref it) (.ref D) env).onRaise (fun x=>do noteFrame x env;standAt theWindowsPlace))
  {pins:List (Addr×Obj)} {s:Shared} {σ:St} {H:Hp} {Q:V->Hp->Prop} (I:Inv X pins σ H s) (h:Fp wi o cap lp σ H Q)
  (hend:∀(D:Addr) (fp:List Addr) (H2:Hp) (s3 s':Shared) (σ':St) (H':Hp),Inv X pins σ H2 s3->(∀b∈fp,l9 X pins H2 b)->Inv (cxC X scope cl N' pins fp s3 H2) [] σ' H' s'->Q (.ref D) H'->compPost (model X.prog X.w) X.A X.xe use Qv (.ref D) s3.heap.objs.size (.ok .next) s') :
  wpAny (model X.prog X.w) X.A (comprehension e scope X.env p2 newAcc false (eval iter X.env) use) Qv X.xe s:=by
 refine wpAny_comprehension_free hcl hs S.clos S.kind S.loc (thn (hi pins s σ H _ I h) fun v s1 h1=>thn h1 fun itv s2 h2=>?_);obtain⟨it,fp,tn,J,H2,eit,I2,T,st2,f2,R2⟩:=h2;subst eit;refine hnew pins s2 σ H2 _ _ I2 fun s3 I3 k3=>?_;have hD:H2 s2.heap.objs.size=none:=I2.hok.fresh (AG _);have fok:∀b∈fp,l9 X pins (upd H2 s2.heap.objs.size (o s2.heap.objs.size)) b/\∃ob,s3.heap.get? b=some ob:=fun b hb=>by
  obtain⟨ob,e,_⟩:=T.obj _ _ st2 b hb;obtain⟨f0,fr⟩:=f2 b hb;exact⟨⟨by rw[B4 (AS (AF e))];exact f0,fr⟩,ob,k3 b ob e⟩
 refine wpAny_newFunctionEnv S.nocell (by intro y hy;simp at hy) (fun h1 hns hsb=>?_) S.kind;have hk:∀b ob,s3.heap.get? b=some ob->h1.get? b=some ob:=fun b ob e=>(hsb.2 b (AS (AF e))).trans (AD _ e);have I4:Inv (cxC X scope cl N' pins fp s3 (upd H2 s2.heap.objs.size (o s2.heap.objs.size))) [] (Ho cap σ) (upd H2 s2.heap.objs.size (o s2.heap.objs.size)) { s3 with heap:=h1,toks:=s3.toks +([]:List (Str×Value)).length } :=
  I3.block S hc fok hns hk
 have st4:tn 0 h1:=T.keep 0 _ _ st2 fun b hb ob e=>hk b ob (k3 b ob e);refine i8 (X:=cxC X scope cl N' pins fp s3 (upd H2 s2.heap.objs.size (o s2.heap.objs.size))) (gs:=⟨tg,iter,ifs,0⟩::gs) (e:=e) (d:=0) (tg:=tg) (iter:=iter) (ifs:=ifs) (hun _ _ _) (hden _ _ _) hcl rfl T st4 ?_;refine hlp pins fp s3 _ s2.heap.objs.size it fp tn J (Ho cap σ) _ _ _ _ T I4 st4 (fun b hb=>?_) (R2 _ hD) fun s' σ' H' I' q'=>?_
 .obtain⟨⟨f0,f1,f2',f3,f4,f5⟩,ob,eo⟩:=fok b hb;refine⟨f0,AS (AF eo),fun hf=>?_,.inl hb,fun x c e=>f4 x c (S.cin.get e),fun p hp=>f5 p (by simpa [cxC] using hp)⟩;rcases AJ.mp (I3.stkSub b hf)with z | z
  .exact f1 z
  .exact f2' z
 .exact hend _ fp _ s3 s' σ' H' I3 (fun b hb=>(fok b hb).1) I' q'
theorem S2{i:Nat}{x:Str}{pos' cpos:Pos}{g:TG}{tc:TT}{te:TE}(hN:X.N.Nodup)(hi:X.N[i]?=some x)(hx:Loc X.env.scope x)(S:CScope X scope cl N' cap)(hc:X.calm=true)(hI:PI X tg iter wi)
  (hb:∀(pins:List (Addr×Obj)) (ex:List Addr) (s3:Shared) (H3:Hp),PG (cxC X scope cl N' pins ex s3 H3) tg g/\PTs (cxC X scope cl N' pins ex s3 H3) ifs tc/\PE (cxC X scope cl N' pins ex s3 H3) elt te)
  (hs:∀x,foldedSetIterable iter X.env x=pure x:=by intro _;rfl)
  (hsw:swapsWith (.ListComp elt [⟨tg,iter,ifs,0⟩] scope cpos) (some (.Name x pos')) pos.line X.env=pure true:=by rfl)
  (hf:X.fn x=true\/X.env.scope.names.lookup x=some .local:=by first | exact .inl rfl | exact .inr rfl | assumption) :
  PS X (.Assign [.Name x pos'] (.ListComp elt [⟨tg,iter,ifs,0⟩] scope cpos) pos) (Oz (Fp wi (fun _=>.lst []) cap fun D J σ H Q=>Kt g tc (He D te) J σ H Q) (Bg i)):=by
 intro pins s σ H D I h;rw[exec_Assign];refine AB (DH (AB (D_ hsw (DC rfl (AB (AB ?_))))));refine Fx (newAcc:=newList []) (p2:=firstIterPos [⟨tg,iter,ifs,0⟩] cpos) rfl (fun _=>.lst []) hs S hc hI (fun pins s σ H Q E I h=>?_) (fun pins ex s3 H3 D it fp tn J σ s H Q R T I st hf h hR=>?_) (fun _ _ _=>rfl) (fun _ _ _=>rfl) I h fun E fp H2 s3 s' σ' H' I3 fok I' q=>?_
 .refine wpAny_newList ?_;exact h _ (I.lnew (t':=s.toks) (its:=[]) .nil (BU _)) fun b ob e=>AD _ e
 .obtain⟨b1,b2,b3⟩:=hb pins ex s3 H3;exact Ag (X:=cxC X scope cl N' pins ex s3 H3) rfl rfl hc rfl (j5 elt tg iter ifs scope cpos _ _ _) b1 b2 (Cb rfl b3) T I st hf h hR
 .have IX:Inv X pins σ H' s':=I3.unblock fok I' ⟨rfl,fun _ _=>rfl⟩;have fC:l9 X pins H' s3.heap.objs.size:=I3.fpOk (AG _) I'.free;obtain⟨m,hn,_⟩:=I'.loc;show wpAny _ _ (assign (.Name x pos') X.env (.ref E)) _ _ _;refine wpAny_assign_Name (Ap (v:=.ref E) IX hN hi hx rfl (fun s2 I2 ⟨a,hsb,ha⟩=>?_) hf);have nC:s3.heap.objs.size≠a:=by
   rcases ha with rfl | ha
   .exact fC.2.1
   .exact(fC.2.2.2.2.1 _ _ ha).symm
  refine⟨m,?_,fun h' hsb'=>AE (AE ?_)⟩
  .obtain⟨ob,es,ep,e1,r⟩:=hn;exact⟨ob,es,ep,(hsb.2 _ nC).trans e1,r⟩
  refine⟨_,H',?_,q⟩;have k:∀b ob,b∉[s3.heap.objs.size]->s2.heap.get? b=some ob->h'.get? b=some ob:=fun b ob hb e=>(hsb'.2 b fun z=>hb (AC.mpr z)).trans e;refine I2.step (h':=h') (H':=H') (t':=s2.toks) (g':=s2.gens) (d':=s2.drawn) (ch:=[s3.heap.objs.size]) (fun b hb=>by rw[AC.mp hb];exact⟨fC.2.2.2.1,fC.2.1,fC.2.2.2.2⟩) (fun b ob _ _ hc e _=>k b ob hc e) (fun b ob _ _ hc e _=>⟨ob.slots,k b ob hc e⟩) (fun _ _ _ _ n=>n)
   (fun b ob hc e=>⟨ob,k b ob hc e⟩) (fun _ _ e=>e) (fun _ _ _ e=>e) (fun b ps e=>⟨#[],by rw[e];simp⟩) (fun m hm=>?_) (fun b u eb=>?_) I2.bare
  .obtain⟨ob,es,ep,ho,r⟩:=hm;exact⟨ob,es,ep,k _ ob (fun hb=>fC.2.1 (AC.mp hb).symm) ho,r⟩
  .have nf:∀b u,H' b=some u->b∉[s3.heap.objs.size]:=fun b u e hb=>by rw[AC.mp hb,fC.1]at e;cases e
   refine(I2.hok b u eb).stay (fun c v hc q=>k c v ?_ q) (fun _ q=>q) fun _ _ q=>q;rcases hc with z | z
   .rw[z];exact nf b u eb
   .exact nf c _ z
end
section
variable{X:Cx}
theorem Mi{x:Str}{C:Addr}{pos:Pos}(h:X.mg x=some (.ref C))(hg:Gl X x:=by rfl)(hd:(x ==("__debug__":Str))=false:=by decide):PE X (.Name x pos) (tC (.ref C)):=Bc hg h rfl hd
end
def b7(l xs:List Str):List Str:=xs.foldl Kw l
theorem Hq(l:List Str)(x:Str):(Kw l x).length<=l.length+1:=by
 unfold Kw;split
 .omega
 .rw[BA];exact AG _
theorem Lq{w:World}{h h':Heap}{a:Addr}{ss:List Str}(z:ST.WS w h a ss)(k:∀o,h.get? a=some o->h'.get? a=some o):ST.WS w h' a ss:=by
 obtain⟨o,es,ep,t,S,r⟩:=z;exact⟨o,es,ep,t,S.at (k o S.ho),r⟩
section
variable{prog:Program}{w:World}{A:Around}{R:Result->Shared->Prop}{I:Addr}{fp wr:List Addr}{G:Array GenState->Array GenState->Prop}{n:Nat}{P:Nat->Value->Prop}{St:Nat->Shared->Prop}
theorem Gh(W:WalksS prog w A.in1 I fp wr G n P St)(S:Addr)(hSf:S∉fp)(xs:List Str)(hn:xs.length=n)(hval:∀i v,P i v->∃x t,xs[i]?=some x/\v = .str x t) :
  ∀(k i:Nat) (s:Shared) (ss:List Str),n-i=k->i<=n->St i s->ST.WS w s.heap S ss->ss.length+k<4096 ->
   (∀s',Moved (S::wr) G s s'->ST.WS w s'.heap S (b7 ss (xs.drop i))->R (.ok (.ret .none)) s') ->
   codeAny (model prog w) A (.builtin "set.update.loop" ⟨[.ref S,.ref I],[]⟩) R s:=by
 have hSw:S∉wr:=fun h=>hSf (W.sub _ h);have hsub:∀b∈wr,b∈S::wr:=fun b hb=>AW _ hb;intro k
 induction k with
 | zero =>
  intro i s ss hk hi hst hS _ hR;have hin:i=n:=by omega
  subst hin;refine codeAny_builtin F.entry_set_update_loop ?_;rw[Around.under_plainId F.plain_set_update_loop _];refine AB (W.done s _ _ hst fun s' hm=>?_);have q:=hR s' (hm.mono hsub);rw[<-hn,List.drop_length]at q;exact AE (q (Lq hS fun o=>hm.heap S o hSw))
 | succ k ih =>
  intro i s ss hk hi hst hS hz hR;refine codeAny_builtin F.entry_set_update_loop ?_;rw[Around.under_plainId F.plain_set_update_loop _];refine AB (W.item i s _ _ (by omega) hst fun v s' hP hst' hm=>?_);obtain⟨x,t,hx,rfl⟩:=hval i v hP;show wpAny _ A.in1 (holding [Value.str x t] (setAdd S (.str x t)) >>= _) _ _ s';refine AB (CG ?_);unfold setAdd;refine CG (AB (wpAny_pyHash_str ?_));refine ST.add_txt (s:={ s' with toks:=s'.toks+1 }) (Lq hS fun o=>hm.heap S o hSw) (by omega) fun h' b hsb z'=>?_;refine AE ⟨plainId_quiet F.plain_set_update_loop _,ih (i+1) _ (Kw ss x) (by omega) (by omega) (W.frame _ s' _ _ hst' (DZ _) fun b hb o e=>?_) z' (by have:=Hq ss x;omega) fun s'' hm'' hS''=>?_⟩
  .rw[hsb.2 b (fun h:b=S=>hSf (by rw[<-h];exact hb))];exact e
  .refine hR s'' (Moved.trans W.gtrans ((hm.mono hsub).then_heap (DZ _) fun b o hb e=>?_) hm'') ?_
   .rw[hsb.2 b (fun h:b=S=>hb (by rw[h];exact AX))];exact e
   .have hd:xs.drop i=x::xs.drop (i+1):=by
     obtain⟨hi',ex⟩:=AM.mp hx;rw[<-ex];exact List.drop_eq_getElem_cons hi'
    rw[hd];exact hS''
end
section
variable{prog:Program}{w:World}{A:Around}{E:Value->Shared->Prop}{s:Shared}
abbrev freshW(w:World):Obj:={ cls:=.type "set",dict:=none,data:=.set #[] 0 (.fresh 0 0 (!(w.params.followText "set-order"))) }
theorem Hk{h:Heap}{a:Addr}(e:h.get? a=some (freshW w)):ST.WS w h a [] :=
 ⟨_,#[],0,_,⟨e,⟨rfl,rfl,rfl⟩,rfl,by rfl,rfl,fun _=>rfl,by decide⟩,⟨fun e he=>by simp at he,by simp,List.nodup_nil⟩⟩
theorem Hl(a:Value){Q₁:Value->Shared->Prop}(h:Q₁ (.ref s.heap.objs.size) { s with heap:=s.heap.push (freshW w) }) :
  codeAny (model prog w) A (.call (.builtin "set.__new__") ⟨[.type "set",a],[]⟩) (wants Q₁ E) s:=by
 refine codeAny_of_tree ?_;show wpAny _ A.in1 (do checkBuiltinCall "set.__new__" ⟨[.type "set",a],[]⟩;again (.builtin "set.__new__" ⟨[.type "set",a],[]⟩)) _ _ s;refine AB (D_ (F.newCall_set_1 a) (AE ⟨plainId_quiet F.plain_set_new _,codeAny_builtin F.entry_set_new ?_⟩));rw[Around.under_plainId F.plain_set_new _];unfold Builtin.«set.__new__» Builtin.Frozenset.newClass;have hsub:=sub_set_self;obtain⟨hp,g,d,tk,os⟩:=s;dsimp only;wp_walk;refine wpAny_askSetting (AE ?_);dsimp only;simp only[newObj];refine AB (wpAny_alloc (AE ?_));exact AE h
set_option maxHeartbeats 3200000 in
theorem j0{l:Addr}{ol it:Obj}{nm:String}{xs:List Str}{n:Nat}{P:Nat->Value->Prop}{St:Addr->Nat->Heap->Prop}{Q:Value->Shared->Prop}(hh:A.handled=none)(hol:s.heap.get? l=some ol)(hcl:ol.cls = .type nm)
  (hs1:isSubtype (.type nm) (.type "set")=pure false) (hs2:isSubtype (.type nm) (.type "frozenset")=pure false) (hne:(Value.type nm == Value.type "dict")=false)
  (hit:∀{A:Around} {E:Value->Shared->Prop} {Q:Value->Shared->Prop} (s1:Shared),s1.heap.get? l=some ol->Q (.ref s1.heap.objs.size) { s1 with heap:=s1.heap.push it }->wpAny (model prog w) A (pyIter (.ref l)) Q E s1)
  (hW:∀(A:Around) (I:Addr),A.handled=none->l≠I->Walks prog w A I [I,l] [I] n P (St I)) (hSt:∀(h:Heap) (I:Addr),h.get? I=some it->h.get? l=some ol->St I 0 h) (hiti:it.isFreed=false)
  (hn:xs.length=n) (hval:∀i v,P i v->∃x t,xs[i]?=some x/\v = .str x t) (hb:n<4096)
  (h:∀(h':Heap) (tk:Nat),ST.WS w h' s.heap.objs.size (b7 [] xs)->(∀b o,s.heap.get? b=some o->h'.get? b=some o)->Q (.ref s.heap.objs.size) { s with heap:=h',toks:=tk }) :
  wpAny (model prog w) A (call (.type "set") [.ref l]) Q E s:=by
 obtain⟨c,tl,hmro⟩:=F.called_set.mro;have hmade:=F.called_set.made;have hsub:=F.called_set.sub;refine wpAny_call (codeAny_of_tree ?_);show wpAny _ _ (callAny (.type "set") _) _ _ _;refine AE ⟨Code.quiet_builtin _ (by decide +kernel),codeAny_builtin F.entry_type_call ?_⟩;rw[Around.under_plain (weight_type_call_type "set" [.ref l] []) rfl];have h1:=F.called_set.notType;have h2:=F.called_set.canCreate;have hct:=F.typeCall_set_1 (.ref l)
 repeat (any_goals (first | assumption | wp_step))
 refine DD (Hl (.ref l) (E:=E) (Q₁:=fun obj s₁=>obj = .ref s.heap.objs.size/\s₁ ={ s with heap:=s.heap.push (freshW w) }) ⟨rfl,rfl⟩) fun r s₁ hr=>?_;cases r with
 | error e=>exact hr
 | ok fl =>
  cases fl with
  | ret obj =>
   obtain⟨rfl,rfl⟩:=hr;have hS:(s.heap.push (freshW w)).get? s.heap.objs.size=some (freshW w):=AO _ rfl;have hT:Shared.TypeIs { s with heap:=s.heap.push (freshW w) } (.ref s.heap.objs.size) "set":=⟨_,hS,rfl⟩;have hli:=F.called_set.init.lookup;have hbi:=F.called_set.init.bind (.ref s.heap.objs.size)
   repeat (any_goals (first | assumption | wp_step))
   refine DD (codeAny_call_builtin (R:=wants (fun r s₂=>r = .none/\∃h' tk,s₂ ={ s with heap:=h',toks:=tk }/\ST.WS w h' s.heap.objs.size (b7 [] xs) /\
     (∀b o,s.heap.get? b=some o->h'.get? b=some o)) E) F.called_set.init.plain F.entry_set_init (check_set_init_1 hT ?_)) fun r₂ s₂ hr₂=>?_
   .have hol':(s.heap.push (freshW w)).get? l=some ol:=AD _ hol;obtain⟨ocls,odict,odata,oslots⟩:=ol;simp only at hcl;subst hcl;unfold Builtin.«set.__init__» noKeywords Builtin.Frozenset.updateFrom;generalize hPI:pyIter=PI;wp_walk;subst hPI;refine hit _ hol' ?_;refine AB (wpAny_runValue ?_);have hlS:l<s.heap.objs.size:=AF hol;have hh3:A.in1.in1.in1.handled=none:=by simp[hh]
    have hneI:l≠(s.heap.push (freshW w)).objs.size:=by
     rw[BX];exact AS (Nat.lt_succ_of_lt hlS)
    have hSf:s.heap.objs.size∉[(s.heap.push (freshW w)).objs.size,l]:=by
     rw[BX];simp only[AJ,AI,or_false,not_or];exact⟨AS (DV _),Nat.ne_of_gt hlS⟩
    refine Gh ((hW _ _ hh3 hneI).toS) s.heap.objs.size hSf xs hn hval (n-0) 0 _ [] rfl (BU _) (hSt _ _ (AO _ hiti) (AD _ hol')) (Hk (AD _ hS)) (by simpa using hb) fun s' hm hS'=>?_;obtain⟨h',g',d',tk',os'⟩:=s';have eg:g'=s.gens:=hm.gens;have ed:d'=s.drawn:=hm.drawn;have eo:os'=s.os:=hm.os;subst eg;subst ed;subst eo;show wpAny _ _ _ _ _ _;refine AE ?_;show wpAny _ _ (ret Value.none) _ _ _;refine AE ⟨rfl,h',tk',rfl,hS',fun b o e=>?_⟩;have hb:=AF e;have hb1:b≠s.heap.objs.size:=AS hb;have hb2:b≠(s.heap.push (freshW w)).objs.size:=by
     rw[BX];exact AS (Nat.lt_succ_of_lt hb)
    exact hm.heap b o (by simp only[AJ,AI,or_false,not_or];exact⟨hb1,hb2⟩) (AD _ (AD _ e))
   .cases r₂ with
    | error e=>exact hr₂
    | ok fl₂ =>
     cases fl₂ with
     | ret r =>
      obtain⟨rfl,h',tk,rfl,hS',hk'⟩:=hr₂
      repeat (any_goals (first | assumption | wp_step))
      exact h _ _ hS' hk'
     | _=>exact hr₂.elim
  | _=>exact hr.elim
end
theorem p8:isSubtype (.type "tuple") (.type "set")=pure false:=by rw[isSubtype_type];kernel_rfl
theorem Q9:isSubtype (.type "tuple") (.type "frozenset")=pure false:=by rw[isSubtype_type];kernel_rfl
theorem Ac:∀{xs l:List Str},xs.Nodup->(∀x∈xs,x∉l)->b7 l xs=l++xs
 | [],l,_,_=>(CQ l).symm
 | x::xs,l,nd,ni=>by
  obtain⟨n1,n2⟩:=B_.mp nd;show b7 (Kw l x) xs=_;have e:Kw l x=l ++ [x]:=BF (ni x (AX ..));rw[e,Ac n2 fun y hy hm=>?_,DU]
  .rfl
  .rcases A_.mp hm with hm | hm
   .exact ni y (AW _ hy) hm
   .exact n1 (AC.mp hm▸hy)
theorem Dv{ss:List Str}{its:List Value}(r:Vals (ss.map V.str) its)(i:Nat)(v:Value)(e:its.toArray[i]?=some v):∃x t,ss[i]?=some x/\v = .str x t:=by
 rw[CZ]at e;cases h:ss[i]? with
 | none =>
  have:=r.none_of (i:=i) (by rw[AH,h];rfl);rw[this]at e;cases e
 | some x =>
  obtain⟨u,e1,t,e2⟩:=r.get (i:=i) (x:=.str x) (by rw[AH,h];rfl);rw[e1]at e;cases e;exact⟨x,t,rfl,e2⟩
section
variable{X:Cx}
theorem Ko(K:PySem.W.Frag)(w:World)(hc:X.calm=true:=by rfl)(hK:X.K=K:=by rfl)(hw:X.w=w:=by rfl):J0 X (.type "set") (fun xs H Q=>∃(p:Addr) (ss:List Str),xs = [.ref p]/\(SqL K H p (ss.map V.str)\/SqT K H p (ss.map V.str))/\ss.Nodup/\ss.length<4096/\∀l,H l=none->Q (.ref l) (upd H l (Kr w l ss))):=by
 subst hK;subst hw;intro pins s σ H xs us Q I r h;obtain⟨p,ss,rfl,hq,nd,hb,q⟩:=h;obtain⟨u,rfl,rx⟩:=g0 r;cases rx;have en:b7 [] ss=ss:=Ac nd fun _ _ h=>nomatch h
 have fin:∀(h':Heap) (tk:Nat),ST.WS X.w h' s.heap.objs.size (b7 [] ss)->(∀b o,s.heap.get? b=some o->h'.get? b=some o)->EP X pins σ Q (.ref s.heap.objs.size) { s with heap:=h',toks:=tk }:=fun h' tk z k=>by
  rw[en]at z;exact⟨.ref s.heap.objs.size,_,I.laid (t':=tk) k (AG _) (Ml z),rfl,q _ (I.hok.fresh (AG _))⟩
 rcases hq with hq | hq
 .obtain⟨its,r',pl,hz⟩:=I.list hq;have hlen:=r'.length;rw[AA]at hlen;obtain⟨o,ho,hc',n,hd⟩:=pl.isList;exact j0 (I.ok.hd hc) ho hc' F.sub_list_set F.sub_list_frozenset (by decide) (fun s1 e q=>DP ⟨_,e,hc',n,hd⟩ q) (fun A I hA hne=>Walks.list hA I p hne its.toArray) (fun h I e1 e2=>⟨⟨_,e1,rfl,rfl⟩,⟨_,e2,hc',n,hd⟩⟩) rfl (by simp[hlen]) (Dv r') (by simpa [<-hlen] using hb) fin
 .obtain⟨its,r',pl,hz⟩:=I.tuple hq;have hlen:=r'.length;rw[AA]at hlen;obtain⟨o,ho,hc',n,hd⟩:=pl;exact j0 (I.ok.hd hc) ho hc' p8 Q9 (by decide) (fun s1 e q=>CW ⟨_,e,hc',n,hd⟩ q) (fun A I hA hne=>Walks.tuple hA I p hne its.toArray) (fun h I e1 e2=>⟨⟨_,e1,rfl,rfl⟩,⟨_,e2,hc',n,hd⟩⟩) rfl (by simp[hlen]) (Dv r') (by simpa [<-hlen] using hb) fin
def Mh(K:PySem.W.Frag):V->List V->Hp->VK->Prop:=fun x vs H Q=>∃(z:Str) (p:Addr) (ys:List Str),x = .str z/\vs = [.ref p]/\SqL K H p (ys.map V.str)/\(ys.map fun x=>x.length).sum+ys.length*z.length<=16777216/\Q (.str (Txt.join z ys)) H
theorem Jb:MtM X "str.join" (Mh X.K):=by
 intro pins s σ H x vs v us Q I rx rv h;obtain⟨z,p,ys,rfl,rfl,hq,hb,q⟩:=h;obtain⟨t,rfl⟩:=rx;obtain⟨u,rfl,ru⟩:=rv.one;cases ru;obtain⟨its,rv,pl,hz⟩:=I.list hq;exact PyProof.Rows.join_list pl.isList (by simpa using i9 rv) hb fun t' k=>⟨.str _,H,I.tok _,⟨_,rfl⟩,q⟩
variable(K:PySem.W.Frag)
theorem Ki(hK:X.K=K:=by rfl):MtM X "str.join" (Mh K):=by subst hK;exact Jb
end
section
variable{X:Cx}(K:PySem.W.Frag)
theorem slT(hK:X.K=K:=by rfl):SlR X (Oy K):=by subst hK;exact No
end
def Gx:List Str->List Value->Bool
 | [],[]=>true
 | x::xs,.str y _::us=>x == y&&Gx xs us
 | _,_=>false
theorem Fu:∀{xs:List Str} {us:List Value},Gx xs us=true->Vals (xs.map V.str) us
 | [],[],_=>.nil
 | x::xs,.str y t::us,h=>by
  obtain⟨h1,h2⟩:=(BK _ _).mp (show(x == y&&Gx xs us)=true from h);have e:x=y:=beq_iff_eq.mp h1;exact .cons ⟨t,by rw[e]⟩ (Fu h2)
def GTup(K:PySem.W.Frag)(a:Addr)(xs:List Str):Prop:=∃(o:Obj) (its:Array Value) (n:Nat),K.lookup a=some o/\o.cls = .type "tuple"/\o.data = .seq its n/\its.size<=sizeLine/\Vals (xs.map V.str) its.toList
theorem GTup.sq{K:PySem.W.Frag}{H:Hp}{a:Addr}{xs:List Str}(h:GTup K a xs):SqT K H a (xs.map V.str):=.inr h
theorem Cc:∀{xs:List V} {us:List Value},Vals xs us->us.length=xs.length
 | _,_,.nil=>rfl
 | _,_,.cons _ t=>by rw[BM,BM,Cc t]
theorem gtup_mk{K:PySem.W.Frag}{a:Addr}{xs:List Str}{o:Obj}(l:K.lookup a=some o)(e:∃its n d osl,o =⟨.type "tuple",d,.seq its n,osl⟩/\(decide (xs.length<=100)&&Gx xs its.toList)=true):GTup K a xs:=by
 obtain⟨its,n,d,osl,rfl,h⟩:=e;obtain⟨h1,h2⟩:=(BK _ _).mp h;have v:=Fu h2;refine⟨_,its,n,l,rfl,rfl,?_,v⟩;have e1:=Cc v;rw[AA,BL]at e1;have:=CJ h1;rw[sizeLine_eq,e1];omega
theorem U2{a b:Addr}{n:Nat}(h1:a<n)(h2:n<=b):b≠a:=fun z=>by subst z;exact absurd h2 (Nat.not_le_of_lt h1)
section
variable{fs ex:List Addr}{H:Hp}{h h':Heap}{a:Addr}
theorem HOk.table{P:Program}{w:World}{ps qs:Array Value}(ok:HOk P w H h)(hp:H a=some (.tbl ps))(k:∀b u,b≠a->h.get? b=some u->h'.get? b=some u)(he:h'.get? a=some { cls:=.none,data:=.fields qs }):HOk P w (upd H a (.tbl qs)) h':=fun b u q=>by
 by_cases hb:b=a
 .subst hb;rw[A7]at q;cases q;exact he
 .rw[B4 hb]at q;have n:∀c o,H c=some o->o≠ .tbl ps->c≠a:=fun c o e ne z=>by rw[z,hp]at e;cases e;exact ne rfl
  refine(ok b u q).stay (fun c v hc r=>k c v ?_ r) (fun c r=>by rw[B4 (n c _ r (by intro z;cases z))];exact r) fun c xs r=>by rw[B4 (n c _ r (by intro z;cases z))];exact r
  rcases hc with rfl | hc
  .exact hb
  .exact n c _ hc (by intro z;cases z)
end
section
variable{P:Program}{w:World}{fs ex:List Addr}{H H':Hp}{h h':Heap}{a:Addr}{o:HO}
theorem Un.more{p:Addr}{ps more:Array Value}(hp:H p=some (.tbl ps))(hp':H' p=some (.tbl (ps++more)))(old:∀b o,H b=some o->b≠p->H' b=some o)(fre:∀b,b<h.objs.size->H b=none->H' b=none)
  (k:∀b u,b≠p->h.get? b=some u->h'.get? b=some u) (he:∃u,h'.get? p=some u):Un fs ex H H' h h':=by
 have ne:∀b,H b=none->b≠p:=fun b n e=>by rw[e,hp]at n;cases n
 refine⟨fun b u q n _ _=>k b u (ne b n) q,fun b u q n _ _=>⟨u.slots,k b u (ne b n) q⟩,fun b u q n _=>fre b (AF q) n,fun b u q _=>?_,fun b xs q=>old b _ q fun e=>?_,fun b o u q=>old b _ q fun e=>?_,fun b qs q=>?_⟩
 .by_cases e:b=p
  .subst e;exact he
  .exact⟨u,k b u e q⟩
 .rw[e,hp]at q;cases q
 .rw[e,hp]at q;cases q
 .by_cases e:b=p
  .subst e;rw[hp]at q;cases q;exact⟨more,hp'⟩
  .exact⟨#[],by rw[old b _ q e];simp⟩
theorem HOk.track(x:HOk P w H h)(hn:H a=none)(new:ObjOk P w (upd H a o) h a o):HOk P w (upd H a o) h:=fun b u e=>by
 by_cases hb:b=a
 .subst hb;rw[A7]at e;cases e;exact new
 .rw[B4 hb]at e;exact(x b u e).stay (fun c v _ q=>q) (fun c q=>by rw[B4 (A9 q hn)];exact q) fun c xs q=>by rw[B4 (A9 q hn)];exact q
end
def CodeO(c:Addr)(q:Str):HO:=.ext fun h=>h.CodeRec (.ref c) q
def LamO(f c:Addr)(q:Str)(ps:Arguments)(b:Expr)(sc:Scope)(cl:List (Str×Addr)):HO:=.ext fun h=>∃pm ct,h.get? f=some (PySem.W.kla_obj "<lambda>" q ps b sc cl pm c ct)
theorem CodeO.ok{P:Program}{w:World}{H:Hp}{h:Heap}{c:Addr}{q:Str}(r:h.CodeRec (.ref c) q):ObjOk P w H h c (CodeO c q):=by
 have r0:=r;obtain⟨c',o,vs,t,e,ho,hd,hv⟩:=r;cases e;refine⟨r0,⟨o,ho⟩,fun h1 h2 r1 k=>?_⟩;obtain⟨c',o,vs,t,e,ho,hd,hv⟩:=r1;cases e;exact⟨c,o,vs,t,rfl,k o ho,hd,hv⟩
theorem LamO.ok{P:Program}{w:World}{H:Hp}{h:Heap}{f c:Addr}{q:Str}{ps:Arguments}{b:Expr}{sc:Scope}{cl:List (Str×Addr)}{pm ct:Value}(r:h.get? f=some (PySem.W.kla_obj "<lambda>" q ps b sc cl pm c ct)):ObjOk P w H h f (LamO f c q ps b sc cl) :=
 ⟨⟨pm,ct,r⟩,⟨_,r⟩,fun h1 h2 ⟨pm,ct,e⟩ k=>⟨pm,ct,k _ e⟩⟩
def F5(cells:List (Str×Addr)):List (Str×NameKind)->List (Str×Addr)->List (Str×Addr)
 | [],cs=>cs
 | (n,k)::r,cs=>F5 cells r (if(k == NameKind.free)=true then(n,(cells.lookup n).getD 0)::cs else cs)
theorem S1{scope:Scope}{env:Env}(h:∀x∈scope.names,x.2 = .free->(env.cells.lookup x.1).isSome=true):closureFor scope env=pure (F5 env.cells scope.names []):=by
 have main:∀(l:List (Str×NameKind)) (cs:List (Str×Addr)),(∀x∈l,x.2 = .free->(env.cells.lookup x.1).isSome=true) ->
   (forIn (m:=Sem) l cs fun x __s=>match x with
    | (name,kind)=>if(kind == NameKind.free)=true then do
      let __do_lift <-cellOf env name
      pure (ForInStep.yield ((name,__do_lift)::__s))
     else pure (ForInStep.yield __s))=pure (F5 env.cells l cs):=by
  intro l
  induction l with
  | nil=>intro cs _;rfl
  | cons x r ih =>
   obtain⟨n,k⟩:=x;intro cs hx;rw[List.forIn_cons];by_cases e:(k == NameKind.free)=true
   .have hk:k = .free:=eq_of_beq e;obtain⟨c,hc⟩:=CS.mp (hx (n,k) (AX ..) hk);have hc':cellOf env n=pure c:=by
     unfold cellOf;rw[show List.lookup n env.cells=some c from hc]
    simp only[e,if_true,hc',pure_bind];rw[ih _ fun y hy=>hx y (AW _ hy)];show _=pure (F5 env.cells r (if(k == NameKind.free)=true then(n,(env.cells.lookup n).getD 0)::cs else cs));rw[BI e,show List.lookup n env.cells=some c from hc];rfl
   .simp only[e,Bool.false_eq_true,if_false,pure_bind];rw[ih _ fun y hy=>hx y (AW _ hy)];show _=pure (F5 env.cells r (if(k == NameKind.free)=true then(n,(env.cells.lookup n).getD 0)::cs else cs));rw[BF e]
 unfold closureFor;simp only[main scope.names [] h,pure_bind]
theorem Y5{pos q:Pos}{c:Value}:∀(l:List Value),TriplesOk l->¬(pos.line=q.line/\pos.col=q.col)->codeAmong q (l ++ [rawInt pos.line,rawInt pos.col,c])=codeAmong q l
 | [],_,n=>by
  show(if((pos.line:Int) ==(q.line:Int) &&(pos.col:Int) ==(q.col:Int))=true then some c else none)=none;rw[BF];intro z;rw[BK,beq_iff_eq,beq_iff_eq]at z;exact n ⟨by omega,by omega⟩
 | .int a _ :: .int b _::x::r,h,n=>by
  show(if(a ==(q.line:Int)&&b ==(q.col:Int))=true then some x else codeAmong q (r ++ [rawInt pos.line,rawInt pos.col,c]))=if(a ==(q.line:Int)&&b ==(q.col:Int))=true then some x else codeAmong q r
  rw[Y5 r h n]
def F6(H:Hp)(P:Addr)(ls:List (Pos×Str)):Prop:=∃ps,H P=some (.tbl ps)/\TriplesOk ps.toList/\∀l∈ls,codeAmong l.1 ps.toList=none\/∃c,codeAmong l.1 ps.toList=some (.ref c)/\H c=some (CodeO c l.2)
structure TabAt(K:PySem.W.Frag)(mg:Str->Option Value)(c P:Addr):Prop where
 hd:∀h:Heap,K.In h->PySem.W.CodeHd h c P
 ne:mainGlobals≠P
def Ps(P:Addr)(ls:List (Pos×Str))(cl:List (Str×Addr))(q:Str)(ps:Arguments)(b:Expr)(sc:Scope):TE:=fun _ H Q=>F6 H P ls/\∀f c H',H f=none->F6 H' P ls->H' c=some (CodeO c q)->H' f=some (LamO f c q ps b sc cl)->f≠P->(∀a o,H a=some o->a≠P->H' a=some o)->Q (.ref f) H'
section
variable{X:Cx}
theorem Ec{args:Arguments}{body:Expr}{scope:Scope}{pos:Pos}{c P:Addr}{ls:List (Pos×Str)}(T:TabAt X.K X.mg c P)(hB:X.base.BuiltinsAt X.mg P)(hc:X.env.code = .ref c)(hd1:args.defaults = [])(hd2:args.kw_defaults = [])
  (hfr:∀x∈scope.names,x.2 = .free->X.env.scope.names.lookup x.1=some .cell) (hl:(pos,X.env.qual ++ "<lambda>")∈ls) (hu:∀l∈ls,∀l'∈ls,l.1.line=l'.1.line->l.1.col=l'.1.col->l=l') :
  PE X (.Lambda args body scope pos) (Ps P ls (F5 X.env.cells scope.names []) (X.env.qual ++ "<lambda>") args body scope):=by
 intro pins s σ H Q I h;obtain⟨⟨ps,hP,tr,hls⟩,q⟩:=h;have hdef:defaultsOf args X.env =([],[]):=by
  cases args;cases hd1;cases hd2;rfl
 rw[arm_eval_Lambda,hdef];refine AB (AE (AB (CG (AE ?_))));have hPs:s.heap.get? P=some (PySem.W.tabObj ps):=I.hok P _ hP;have hfr:∀x∈scope.names,x.2 = .free->(X.env.cells.lookup x.1).isSome=true:=fun x hx e=>by
  obtain⟨c,hc⟩:=I.ok.has x.1 (.inl (hfr x hx e));rw[hc];rfl
 have hns:s.heap.Ns mainGlobals X.mg:=I.mod.glob.keeps I.bk;have hB:s.heap.BuiltinsAt X.mg P:=let⟨bm,o,h1,h2,h3,h4,h5,h6⟩:=hB;⟨bm,o,h1,h2,h3,h4,I.bk _ _ h5,h6⟩;rcases hls _ hl with e | ⟨c',e,hc'⟩
 .refine PySem.W.kla_makeFunction (S1 hfr) I.ok.glob hns hc (T.hd _ I.kIn) hPs tr e T.ne hB fun c' ctv h' tk xb le lt cr eP=>?_;have szP:P<s.heap.objs.size:=AF hPs;have ncP:c'≠P:=U2 szP le;have nfP:h'.objs.size≠P:=U2 szP (BO le (CK lt));have nfc:h'.objs.size≠c':=U2 lt (AG _);have hnc:H c'=none:=I.hok.fresh le;have hnf:H h'.objs.size=none:=I.hok.fresh (BO le (CK lt));have eO:(h'.push (PySem.W.kla_obj "<lambda>" (X.env.qual ++ "<lambda>") args body scope (F5 X.env.cells scope.names []) ((X.mg "__name__").getD .none) c' ctv)).get? h'.objs.size=some (PySem.W.kla_obj "<lambda>" (X.env.qual ++ "<lambda>") args body scope (F5 X.env.cells scope.names []) ((X.mg "__name__").getD .none) c' ctv):=AO _ rfl;have kk:∀b u,h'.get? b=some u->(h'.push (PySem.W.kla_obj "<lambda>" (X.env.qual ++ "<lambda>") args body scope (F5 X.env.cells scope.names []) ((X.mg "__name__").getD .none) c' ctv)).get? b=some u:=fun b u e=>AD _ e;generalize h'.push (PySem.W.kla_obj "<lambda>" (X.env.qual ++ "<lambda>") args body scope (F5 X.env.cells scope.names []) ((X.mg "__name__").getD .none) c' ctv)=h2 at eO kk⊢;have k:∀b u,b≠P->s.heap.get? b=some u->h2.get? b=some u:=fun b u n e=>kk b u (xb b u n e);have cr2:h2.CodeRec (.ref c') (X.env.qual ++ "<lambda>"):=by
   obtain⟨c1,o,vs,t,e1,ho,hd,hv⟩:=cr;exact⟨c1,o,vs,t,e1,kk _ _ ho,hd,hv⟩
  have eP2:=kk _ _ eP;have u1:upd H P (.tbl (ps ++ #[rawInt pos.line,rawInt pos.col,.ref c'])) c'=none:=by rw[B4 ncP];exact hnc
  have u2:upd (upd H P (.tbl (ps ++ #[rawInt pos.line,rawInt pos.col,.ref c']))) c' (CodeO c' (X.env.qual ++ "<lambda>")) h'.objs.size=none:=by rw[B4 nfc,B4 nfP];exact hnf
  have hok2:=((I.hok.table hP k eP2).track u1 (CodeO.ok cr2)).track u2 (LamO.ok eO);have hp':upd (upd (upd H P (.tbl (ps ++ #[rawInt pos.line,rawInt pos.col,.ref c']))) c' (CodeO c' (X.env.qual ++ "<lambda>"))) h'.objs.size (LamO h'.objs.size c' (X.env.qual ++ "<lambda>") args body scope (F5 X.env.cells scope.names [])) P=some (.tbl (ps ++ #[rawInt pos.line,rawInt pos.col,.ref c'])):=by rw[B4 nfP.symm,B4 ncP.symm,A7]
  have hc2:upd (upd (upd H P (.tbl (ps ++ #[rawInt pos.line,rawInt pos.col,.ref c']))) c' (CodeO c' (X.env.qual ++ "<lambda>"))) h'.objs.size (LamO h'.objs.size c' (X.env.qual ++ "<lambda>") args body scope (F5 X.env.cells scope.names [])) c'=some (CodeO c' (X.env.qual ++ "<lambda>")):=by rw[B4 nfc.symm,A7]
  have old:∀b o,H b=some o->b≠P->upd (upd (upd H P (.tbl (ps ++ #[rawInt pos.line,rawInt pos.col,.ref c']))) c' (CodeO c' (X.env.qual ++ "<lambda>"))) h'.objs.size (LamO h'.objs.size c' (X.env.qual ++ "<lambda>") args body scope (F5 X.env.cells scope.names [])) b=some o:=fun b o e n=>by
   rw[B4 (A9 e hnf),B4 (A9 e hnc),B4 n];exact e
  refine⟨.ref h'.objs.size,_,I.un (Un.more hP hp' old (fun b lb n=>?_) k ⟨_,eP2⟩) hok2,rfl,q _ c' _ hnf ⟨_,hp',?_,fun l ml=>?_⟩ hc2 A7 nfP old⟩
  .rw[B4 (U2 lb (BO le (CK lt))).symm,B4 (U2 lb le).symm,B4 (by intro z;rw[z,hP]at n;cases n)];exact n
  .rw[Array.toList_append];exact TriplesOk_snoc _ _ _ _ tr
  .rw[Array.toList_append];by_cases el:l =(pos,X.env.qual ++ "<lambda>")
   .subst el;exact .inr ⟨c',codeAmong_snoc _ tr e,hc2⟩
   .have ne:¬(pos.line=l.1.line/\pos.col=l.1.col):=fun z=>el (hu l ml _ hl z.1.symm z.2.symm);rw[show(#[rawInt pos.line,rawInt pos.col,Value.ref c']:Array Value).toList = [rawInt pos.line,rawInt pos.col,Value.ref c']from rfl,Y5 _ tr ne];rcases hls l ml with z | ⟨cc,z,hz⟩
    .exact .inl z
    .exact .inr ⟨cc,z,old _ _ hz fun y=>by rw[y,hP]at hz;cases hz⟩
 .refine PySem.W.kla_makeFunctionHit (S1 hfr) I.ok.glob hns hc (T.hd _ I.kIn) hPs tr e hB fun ctv h' tk k le=>?_;have szP:P<s.heap.objs.size:=AF hPs;have nfP:h'.objs.size≠P:=U2 szP le;have hnf:H h'.objs.size=none:=I.hok.fresh le;have old:∀b o,H b=some o->upd H h'.objs.size (LamO h'.objs.size c' (X.env.qual ++ "<lambda>") args body scope (F5 X.env.cells scope.names [])) b=some o:=fun b o e=>by rw[B4 (A9 e hnf)];exact e
  refine⟨.ref h'.objs.size,_,I.laid (t':=tk) (fun b u e=>AD _ (k b u e)) le (LamO.ok (AO _ rfl)),rfl,q _ c' _ hnf ⟨ps,old _ _ hP,tr,fun l ml=>?_⟩ (old _ _ hc') A7 nfP fun b o e _=>old b o e⟩;rcases hls l ml with z | ⟨cc,z,hz⟩
  .exact .inl z
  .exact .inr ⟨cc,z,old _ _ hz⟩
structure CellsIn(X:Cx)(base':Heap)(σ:St):Prop where
 val:∀(i:Nat) (x:Str) (v:V) (c:Addr),X.N[i]?=some x->σ[i]?=some (some v)->X.env.scope.names.lookup x=some .cell->X.env.cells.lookup x=some c->∃u,RelV v u/\base'.IsCell c (some u)
 inj:∀x y c,X.env.cells.lookup x=some c->X.env.cells.lookup y=some c->x=y
 has:∀x,X.env.scope.names.lookup x=some .cell->∃c,X.env.cells.lookup x=some c
def g8(X:Cx)(h:Heap):Heap:=Gn h fun b=>open Classical in if(X.base.get? b).isSome=true\/∃x,X.fn x=true/\X.env.cells.lookup x=some b then none else some (.own 0)
theorem y4{h:Heap}{b:Addr}{o:Obj}(e:h.get? b=some o)(p:(X.base.get? b).isSome=true\/∃x,X.fn x=true/\X.env.cells.lookup x=some b):(g8 X h).get? b=some o:=Y1 e (by rw[BI p])
theorem Cl{h:Heap}{b:Addr}{o:Obj}(e:(g8 X h).get? b=some o):h.get? b=some o/\((X.base.get? b).isSome=true\/∃x,X.fn x=true/\X.env.cells.lookup x=some b):=by
 obtain⟨e1,e2⟩:=Eu e;refine⟨e1,Classical.byContradiction fun z=>?_⟩;rw[BF z]at e2;cases e2
variable{pins:List (Addr×Obj)}{σ:St}{H:Hp}{s:Shared}
theorem Inv.wbs(I:Inv X pins σ H s){b:Addr}{o:Obj}(e:X.base.get? b=some o):(g8 X s.heap).get? b=some o:=y4 (I.bk b o e) (.inl (by rw[e];rfl))
theorem Inv.wmod(I:Inv X pins σ H s):Mod X.K X.mg (g8 X s.heap):=by
 obtain⟨kin,glob,⟨mb,hb,hbb⟩,lim⟩:=I.ok.mod;exact⟨kin.keeps fun b o e=>I.wbs e,glob.keeps fun b o e=>I.wbs e,⟨mb,hb.keeps fun b o e=>I.wbs e,hbb⟩,lim.keeps fun b o e=>I.wbs e⟩
theorem Inv.cell_nofs(I:Inv X pins σ H s){x:Str}{c:Addr}(hf:X.fn x=true)(e:X.env.cells.lookup x=some c):c∉frs X.stack:=fun z=>by
 rcases AJ.mp (I.stkSub c z)with y | y
 .exact I.cne x c e y
 .obtain⟨_,o,ho,_⟩:=I.ok.funs.mem y;exact absurd (AF ho) (Nat.not_lt_of_le (I.ok.cab x c hf e))
theorem Inv.wfuns(I:Inv X pins σ H s):s.heap.FunFrames (g8 X s.heap) X.stack:=by
 have all:∀l:List Env,(∀b∈frs l,b∈frs X.stack)->s.heap.FunFrames X.base l->s.heap.FunFrames (g8 X s.heap) l:=by
  intro l
  induction l with
  | nil=>intro _ _;trivial
  | cons env r ih =>
   intro hs hl;obtain⟨hk,⟨L,o,hf,hn,ho,hd⟩,hr⟩:=hl;have hL:L∈frs X.stack:=hs L (by unfold frs;rw[CT,hf];exact AX);refine⟨hk,⟨L,o,hf,?_,ho,hd⟩,ih (fun b hb=>hs b (by unfold frs;rw[CT,hf];exact AW _ hb)) hr⟩;cases q:(g8 X s.heap).get? L with
   | none=>rfl
   | some u =>
    rcases(Cl q).2 with z | ⟨x,z,y⟩
    .rw[hn]at z;cases z
    .exact absurd hL (I.cell_nofs z y)
 exact all X.stack (fun _ h=>h) I.stack
theorem Inv.wenv(I:Inv X pins σ H s):Env0 X.prog X.w X.K X.mg (g8 X s.heap) X.A X.stack s H:=by
 refine⟨I.ok.frames,I.wmod,fun b o e=>?_,Nat.le_of_eq (Aa _ _),I.wfuns,I.stkFree,I.hok,I.bare⟩;obtain⟨e1,e2⟩:=Cl e;refine⟨e1,?_⟩;rcases e2 with z | ⟨x,_,y⟩
 .obtain⟨u,hu⟩:=CS.mp z;exact(I.bs b u hu).2
 .exact I.freeC x b y
theorem Inv.wcells(I:Inv X pins σ H s)(hf:∀x,X.fn x=true):CellsIn X (g8 X s.heap) σ:=by
 refine⟨fun i x v c e1 e2 e3 e4=>?_,I.ok.inj,fun x h=>I.ok.has x (.inl h)⟩;obtain⟨m,_,h⟩:=I.loc;obtain⟨u,r,l⟩:=h i x v e1 e2 (.inr (.inl e3));refine⟨u,r,?_⟩;rcases l with⟨z,_⟩ | ⟨_,c',e5,o,ho,hd⟩
 .rw[show X.env.kindOf x=some .cell from e3]at z;cases z
 .rw[e4]at e5;cases e5;exact⟨o,y4 ho (.inr ⟨x,hf x,e4⟩),hd⟩
end
def Mm(X:Cx)(k:Nat)(f:Addr)(fd:FuncData)(ps:List Str)(t:TA):TE:=fun σ H Q=>t σ H fun vs H1=>∀base':Heap,CellsIn X base' σ->X.K.In base'->∃sp:Sp,FnOk X.prog X.w X.K X.mg base' CX0 k f fd ps sp/\sp vs H1 Q E0
section
variable{X:Cx}{k:Nat}{x:Str}{st:Stmt}{ps:List Str}{e:Expr}{es:List Expr}{t:TA}{p pos:Pos}
theorem Ce(hf:∀x,X.fn x=true)(D:Fn X.K X.mg x st ps)(hr:Room k X.A)(ha:PA X (e::es) t)(hg:Gl X x:=by rfl)(hdb:(x ==("__debug__":Str))=false:=by decide)
  (he:starEach (e::es) X.env =(false,eval e X.env)::starEach es X.env:=by rfl) (hpl:(backTo pos (starEach es X.env)).any (·.1)=false:=by rfl) :
  PE X (.Call (.Name x p) (e::es) [] pos) (Mm X k D.f D.fd ps t):=by
 intro pins s σ H Q I h;refine CM (r8 I hg D.m ?_ hdb);refine PySem.W.callWith_K (h₀:=X.base) I.ok.mod.kin D.F.kp (thn (ha pos pins s σ H _ I h) fun us s1 ⟨vs,H1,I1,r,q⟩=>⟨I1.kIn,?_⟩) he hpl;obtain⟨sp,F,hsp⟩:=q (g8 X s1.heap) (I1.wcells hf) I1.wmod.kin;have hl:us.length=ps.length:=by rw[<-r.length];exact F.len _ _ _ _ hsp
 have hb:=D.b s1 us I1.kIn (by rw[CQ];exact hl);rw[CQ]at hb;refine wpAny_call (DD (F.run X.A X.stack s1 H1 ⟨us,[]⟩ us vs Q E0 hr I1.wenv hb r hsp) fun r s' hq=>?_);cases r with
 | error e=>exact hq.elim
 | ok fl =>
  cases fl with
  | ret u=>exact I1.after hq
  | next=>exact False.elim hq
  | brk=>exact False.elim hq
  | cont=>exact False.elim hq
end
structure LamScope(N ps fr:List Str)(sc:Scope):Prop where
 kind:sc.kind = .function
 co:sc.isCoroutine=false
 gen:sc.isGenerator=false
 eq:N=ps++fr
 nd:N.Nodup
 par:∀x∈ps,sc.names.lookup x=some .local
 fre:∀x∈fr,sc.names.lookup x=some .free
 nocell:∀y∈sc.names,y.2≠ .cell
 has:∀y∈sc.names,y.2 = .free->y.1∈fr
def Ej(P:Program)(w:World)(K:PySem.W.Frag)(mg:Str->Option Value)(base:Heap)(N:List Str)(qual:Str)(scope:Scope)(f:Addr)(cd:Value)(cl:List (Str×Addr))(A:Around)(outer:List Env)(s:Shared)(H:Hp):Cx where
 prog:=P
 w:=w
 K:=K
 mg:=mg
 base:=base
 A:=A.deeper (PySem.W.envX qual scope s.heap.objs.size f cd cl)
 N:=N
 s₀:=s
 H₀:=H
 env:=PySem.W.envX qual scope s.heap.objs.size f cd cl
 outer:=outer
 stack:=PySem.W.envX qual scope s.heap.objs.size f cd cl::outer
 ex:=[]
 calm:=true
 fn:=fun _=>false
 pn:=[]
 xe:=fun _ _=>False
theorem i5{us:List Value}:∀{ps:List Str} {us:List Value} {i:Nat} {x:Str} {u:Value},ps.Nodup->ps[i]?=some x->us[i]?=some u->(ps.zip us).reverse.lookup x=some u
 | [],_,_,_,_,_,h,_=>by simp at h
 | _::_,[],_,_,_,_,_,h=>by simp at h
 | p::ps,w::us,0,x,u,nd,h1,h2=>by
  simp at h1 h2;subst h1 h2;rw[List.zip_cons_cons,DR,List.lookup_append];have:(ps.zip us).reverse.lookup p=none:=by
   rw[List.lookup_eq_none_iff];intro q hq;have:=(DK (List.mem_reverse.mp hq)).1;simp;intro e;exact(B_.mp nd).1 (e▸this)
  rw[this];simp
 | p::ps,w::us,i+1,x,u,nd,h1,h2=>by
  rw[List.zip_cons_cons,DR,List.lookup_append,i5 (us:=us) (B_.mp nd).2 (by simpa using h1) (by simpa using h2)];rfl
section
variable{P:Program}{w:World}{K:PySem.W.Frag}{mg:Str->Option Value}{base:Heap}{N ps fr:List Str}{qual:Str}{scope:Scope}{f c:Addr}{cl:List (Str×Addr)}{A:Around}{outer:List Env}{s:Shared}{H:Hp}
structure ClosV(base:Heap)(cl:List (Str×Addr))(fr:List Str)(gs:List V):Prop where
 len:gs.length=fr.length
 val:∀(i:Nat) (x:Str) (v:V),fr[i]?=some x->gs[i]?=some v->∃c u,cl.lookup x=some c/\RelV v u/\base.IsCell c (some u)
 only:∀x c,cl.lookup x=some c->x∈fr
 inj:∀x y c,cl.lookup x=some c->cl.lookup y=some c->x=y
theorem Kp{us:List Value}{vs gs:List V}{h':Heap}{tk:Nat}(S:LamScope N ps fr scope)(C:ClosV base cl fr gs)(hd:A.handled=none)(e0:Env0 P w K mg base A outer s H)(hl:vs.length=ps.length)(r:Vals vs us)
  (ns:h'.Ns s.heap.objs.size fun x=>(ps.zip us).reverse.lookup x) (k:∀b o,s.heap.get? b=some o->h'.get? b=some o) :
  Inv (Ej P w K mg base N qual scope f (.ref c) cl A outer s H) [] (vs.map some++gs.map some) H { s with heap:=h',toks:=tk }:=by
 have cell:∀x d,cl.lookup x=some d->∃u o,base.get? d=some o/\o.data = .cell (some u):=fun x d e=>by
  obtain⟨i,hi⟩:=List.mem_iff_getElem?.mp (C.only x d e);have li:i<gs.length:=by rw[C.len];exact(AM.mp hi).1
  obtain⟨d',u,e',_,o,ho,hd⟩:=C.val i x gs[i] hi (AR li);rw[e]at e';cases e';exact⟨u,o,ho,hd⟩
 have noA:∀b:Addr,b∉(Ej P w K mg base N qual scope f (.ref c) cl A outer s H).ex:=fun b z=>absurd (show b∈([]:List Addr)from z) (by simp);refine⟨⟨e0.mod,S.kind,rfl,rfl,AG _,C.inj,fun y hy=>?_,fun y d z _=>?_,fun _=>hd,Around.frames_deeper e0.frames,.inr ⟨rfl,rfl⟩,fun b z=>absurd z (noA b),e0.bs,e0.bsz,fun b _ _=>noA b,fun b z=>absurd z (noA b),e0.funs,e0.frf⟩,
  rfl,e0.bare,Un.kept k,⟨_,ns,fun i y v h1 h2 h3=>?_⟩,fun y d h=>?_,e0.hok.fresh (AG _),fun y d h=>?_,fun p hp=>absurd (show p∈([]:List (Addr×Obj))from hp) (by simp),e0.hok.kept k,?_⟩
 .have hy:scope.names.lookup y=some .cell\/scope.names.lookup y=some .free:=hy;rcases hy with hy | hy
  .exact absurd rfl (S.nocell _ (PySem.mem_of_lookup hy))
  .obtain⟨i,hi⟩:=List.mem_iff_getElem?.mp (S.has _ (PySem.mem_of_lookup hy) rfl);have li:i<gs.length:=by rw[C.len];exact(AM.mp hi).1
   obtain⟨d',_,e',_⟩:=C.val i y gs[i] hi (AR li);exact⟨d',e'⟩
 .cases(show false=true from z)
 .have h1:(ps++fr)[i]?=some y:=by rw[<-S.eq];exact h1
  have nd:(ps++fr).Nodup:=by rw[<-S.eq];exact S.nd
  by_cases li:i<vs.length
  .rw[CP (by rw[AA];exact li),AH]at h2;rw[CP (by omega)]at h1;obtain⟨v',hv,e⟩:=AU.mp h2;cases e;obtain⟨u,hu,rv⟩:=r.get hv;exact⟨u,rv,.inl ⟨S.par y (AN h1),i5 (us:=us) (C_.mp nd).1 h1 hu⟩⟩
  .rw[CN (by rw[AA];omega),AH,AA]at h2;rw[CN (by omega)]at h1;obtain⟨v',hv,e⟩:=AU.mp h2;cases e;rw[hl]at hv;obtain⟨d,u,e1,rv,o,ho,hd⟩:=C.val _ y v h1 hv;exact⟨u,rv,.inr ⟨.inr (S.fre y (AN h1)),d,e1,o,k _ _ (e0.bs _ _ ho).1,hd⟩⟩
 .obtain⟨u,o,ho,hd⟩:=cell y d h;exact⟨_,o,k _ _ (e0.bs _ _ ho).1,hd⟩
 .obtain⟨u,o,ho,hd⟩:=cell y d h;exact(e0.bs _ _ ho).2
 .show _=N.length;rw[S.eq,BA,AA,AA,BA,hl,C.len]
theorem Lk{args:Arguments}{body:Expr}{k:Nat}{gs:List V}{sp:Sp}{pm ct:Value}(S:LamScope N ps fr scope)(C:ClosV base cl fr gs)(len:∀vs H Q E,sp vs H Q E->vs.length=ps.length)
  (at_:∀vs H Q E,sp vs H Q E->H f=some (LamO f c qual args body scope cl)/\H c=some (CodeO c qual))
  (hbody:∀(A:Around) (outer:List Env) (s:Shared) (H:Hp) (vs:List V) (Q:VK) (E:XK),Room k (A.deeper (PySem.W.envX qual scope s.heap.objs.size f (.ref c) cl))->sp vs H Q E ->
   ∃t,PE (Ej P w K mg base N qual scope f (.ref c) cl A outer s H) body t/\t (vs.map some++gs.map some) H Q) :
  FnOk P w K mg base CX0 (k+1) f (PySem.W.kla_fn "<lambda>" qual args body scope cl pm (.ref c) ct) ps sp:=by
 refine⟨len,fun A outer s H bargs us vs Q E hr e0 hb r hsp=>?_⟩;have hl:=len _ _ _ _ hsp;obtain⟨hf,hc⟩:=at_ _ _ _ _ hsp;obtain⟨⟨pm',ct',ef⟩,_⟩:=(show ObjOk P w H s.heap f (LamO f c qual args body scope cl)from e0.hok f _ hf);obtain⟨ec,_⟩:=(show ObjOk P w H s.heap c (CodeO c qual)from e0.hok c _ hc);have lim:s.heap.NoLimit:=e0.mod.nolimit.keeps fun b o e=>(e0.bs b o e).1;have hk:∀y∈ps.zip us,scope.names.lookup y.1=some .local:=fun⟨n,v⟩ hy=>S.par n (DK hy).1;have hb':BindsTo s (PySem.W.kla_fn "<lambda>" qual args body scope cl pm' (.ref c) ct') bargs (ps.zip us):=hb;refine PySem.W.kla_callFunE hr.depth ef rfl S.co S.gen rfl ec (hb' _ _ _ _ ?_);refine wpAny_newFunctionEnv S.nocell hk (fun h' ns sb=>?_) S.kind;have k1:∀b o,s.heap.get? b=some o->h'.get? b=some o:=fun b o e=>by
  rw[sb.2 b (AS (AF e))];exact AD _ e
 refine⟨lim.keeps k1,PySem.W.kla_codeExpr ?_⟩;obtain⟨t,ht,hq⟩:=hbody A outer s H vs Q E (hr.deeper _) hsp;have I:Inv (Ej P w K mg base N qual scope f (.ref c) cl A outer s H) [] (vs.map some++gs.map some) H { s with heap:=h',toks:=s.toks +(ps.zip us).length }:=Kp S C hr.hd e0 hl r ns k1;refine BV (ht [] _ _ H Q I hq) (fun u s' hs=>?_) fun e s' hs=>hs.elim;obtain⟨v,H',J,rv,qv⟩:=hs;exact⟨v,H',J.os,J.bare,J.base,J.hok,rv,qv⟩
theorem Bx{cells:List (Str×Addr)}:∀{names:List (Str×NameKind)} {cs:List (Str×Addr)} {x:Str} {c:Addr},(F5 cells names cs).lookup x=some c->((x,NameKind.free)∈names/\c =(cells.lookup x).getD 0)\/cs.lookup x=some c
 | [],_,_,_,h=>.inr h
 | (n,k)::r,cs,x,c,h=>by
  rcases Bx (names:=r) h with⟨z,e⟩ | z
  .exact .inl ⟨AW _ z,e⟩
  .by_cases f:(k == NameKind.free)=true
   .rw[BI f]at z;by_cases e:x=n
    .subst e;rw[List.lookup_cons_self]at z;cases z;exact .inl ⟨by rw[eq_of_beq f];exact AX ..,rfl⟩
    .rw[DW,show(x == n)=false from by simpa using e]at z;exact .inr z
   .rw[BF f]at z;exact .inr z
theorem Ca{cells:List (Str×Addr)}{x:Str}:∀{names:List (Str×NameKind)} {cs:List (Str×Addr)},(x,NameKind.free)∈names\/(∃c,cs.lookup x=some c)->∃c,(F5 cells names cs).lookup x=some c
 | [],_,h=>h.resolve_left (by simp)
 | (n,k)::r,cs,h=>by
  refine Ca (names:=r) ?_;by_cases e:x=n
  .by_cases f:(k == NameKind.free)=true
   .subst e;exact .inr ⟨_,by rw[BI f,List.lookup_cons_self]⟩
   .rw[BF f];rcases h with z | z
    .rcases AJ.mp z with y | y
     .cases y;exact absurd rfl f
     .exact .inl y
    .exact .inr z
  .rcases h with z | ⟨c,z⟩
   .rcases AJ.mp z with y | y
    .cases y;exact absurd rfl e
    .exact .inl y
   .refine .inr ⟨c,?_⟩;by_cases f:(k == NameKind.free)=true
    .rw[BI f,DW,show(x == n)=false from by simpa using e];exact z
    .rw[BF f];exact z
theorem CellsIn.clos{X:Cx}{base':Heap}{σ:St}{fr:List Str}{gs:List V}{names:List (Str×NameKind)}(h:CellsIn X base' σ)(hf:∀y∈names,y.2=NameKind.free->y.1∈fr)(hm:∀x∈fr,(x,NameKind.free)∈names)(hc:∀x∈fr,X.env.scope.names.lookup x=some .cell)(len:gs.length=fr.length)
  (hs:∀(i:Nat) (x:Str) (v:V),fr[i]?=some x->gs[i]?=some v->∃j:Nat,X.N[j]?=some x/\σ[j]?=some (some v)):ClosV base' (F5 X.env.cells names []) fr gs:=by
 have key:∀{x c},(F5 X.env.cells names []).lookup x=some c->x∈fr/\X.env.cells.lookup x=some c:=fun{x c} e=>by
  rcases Bx e with⟨z,y⟩ | z
  .have m:=hf _ z rfl;obtain⟨d,hd⟩:=h.has x (hc x m);rw[hd]at y;rw[hd,y];exact⟨m,rfl⟩
  .cases z
 refine⟨len,fun i x v h1 h2=>?_,fun x c e=>(key e).1,fun x y c e1 e2=>h.inj x y c (key e1).2 (key e2).2⟩;have m:=AN h1;obtain⟨c,e⟩:=Ca (cells:=X.env.cells) (cs:=[]) (.inl (hm x m));obtain⟨j,j1,j2⟩:=hs i x v h1 h2;obtain⟨u,r,ic⟩:=h.val j x v c j1 j2 (hc x m) (key e).2;exact⟨c,u,e,r,ic⟩
end
def FnHere(base:Heap)(H:Hp)(f:Addr):Prop:=PySem.W.FnAt f base\/∃φ,H f=some (.ext φ)/\∀h,φ h->PySem.W.FnAt f h
theorem FnHere.lam{base:Heap}{H:Hp}{f c:Addr}{q:Str}{ps:Arguments}{b:Expr}{sc:Scope}{cl:List (Str×Addr)}(h:H f=some (LamO f c q ps b sc cl)):FnHere base H f:=.inr ⟨_,h,fun h ⟨_,_,e⟩=>⟨_,_,_,_,e⟩⟩
theorem FnHere.def{K:PySem.W.Frag}{base:Heap}{H:Hp}{x qual:Str}{st:Stmt}{f:Addr}{fd:FuncData}(F:Fun K x qual st f fd)(k:K.In base):FnHere base H f:=by
 obtain⟨oc,od,kV,doc,pm,an,cdv,ct,osl,rfl,lk,_⟩:=F.ex;exact .inl ⟨_,_,_,_,k _ _ lk⟩
theorem FnHere.same{base:Heap}{H H':Hp}{f:Addr}(h:FnHere base H f)(s:Same H H'):FnHere base H' f:=h.imp id fun⟨φ,e,p⟩=>⟨φ,s _ _ e,p⟩
def Mf(base:Heap)(i:Nat)(f:Addr)(sp:Sp)(t:TA):TE:=fun σ H Q=>σ[i]?=some (some (.ref f))/\FnHere base H f/\t σ H fun vs H1=>FnHere base H1 f/\sp vs H1 Q E0
section
variable{X:Cx}{k:Nat}{f:Addr}{fd:FuncData}{ps:List Str}{sp:Sp}{x:Str}{e:Expr}{es:List Expr}{t:TA}{p pos:Pos}
theorem Inv.fnAt{pins:List (Addr×Obj)}{σ:St}{H:Hp}{s:Shared}(I:Inv X pins σ H s)(h:FnHere X.base H f):PySem.W.FnAt f s.heap:=by
 rcases h with⟨oc,od,fd,sl,e⟩ | ⟨φ,e,q⟩
 .exact⟨oc,od,fd,sl,I.bk _ _ e⟩
 .exact q _ (show ObjOk X.prog X.w H s.heap f (.ext φ)from I.hok f _ e).1
theorem Gu{i:Nat}(F:FnOk X.prog X.w X.K X.mg X.base CX0 k f fd ps sp)(hr:Room k X.A)(hb:Binds X.K fd ps [])
  (ha:PA X (e::es) t) (hN:X.N[i]?=some x:=by rfl) (hv:Vis X.env.scope x:=by first | exact Or.inl rfl | exact Or.inr (Or.inl rfl) | exact Or.inr (Or.inr rfl)) (hdb:(x ==("__debug__":Str))=false:=by decide) (hcd:(x ==("__classdict__":Str))=false:=by decide)
  (he:starEach (e::es) X.env =(false,eval e X.env)::starEach es X.env:=by rfl) (hpl:(backTo pos (starEach es X.env)).any (·.1)=false:=by rfl) :
  PE X (.Call (.Name x p) (e::es) [] pos) (Mf X.base i f sp t):=by
 intro pins s σ H Q I h;obtain⟨e1,fa,h⟩:=h;refine CM (thn (Ik (i:=i) (pos:=p) hN hv hdb hcd pins s σ H (fun v H'=>v = .ref f/\H'=H) I ⟨_,e1,rfl,rfl⟩) fun u s1 ⟨v,H1,I1,r1,e2,e3⟩=>?_);subst e2 e3;cases r1;refine PySem.W.callWith_F (I1.fnAt fa) (thn (ha pos pins s1 σ H1 _ I1 h) fun us s2 ⟨vs,H2,I2,r,fa2,q⟩=>⟨I2.fnAt fa2,?_⟩) he hpl;exact Im F hr hb .nil Dn I2 r (by rw[CQ];exact q)
end
theorem Fun.okC{P:Program}{w:World}{K:PySem.W.Frag}{mg:Str->Option Value}{base:Heap}{x qual:Str}{st:Stmt}{f:Addr}{fd:FuncData}{N ps:List Str}{k:Nat}{sp:Sp}(F:Fun K x qual st f fd)(S:FnScope N ps (B6 st))(len:∀vs H Q E,sp vs H Q E->vs.length=ps.length)
  (hbody:∀(cdv:Value) (A:Around) (outer:List Env) (s:Shared) (H:Hp) (vs:List V) (Q:VK) (E:XK),fd.code=cdv->Room k (A.deeper (envOfC qual (B6 st) s.heap.objs.size f cdv))->sp vs H Q E ->
   ∃t,PSs (Jg CX0 P w K mg base N qual (B6 st) f cdv A outer s H E).nox (K6 st) t/\t { nx:=fun _ H'=>Q .non H',rt:=Q } (t9 N vs) H):FnOk P w K mg base CX0 (k+1) f fd ps sp:=by
 obtain⟨oc,od,kV,doc,pm,an,cdv,ct,osl,rfl,lk,hcd⟩:=F.ex;refine Lg lk hcd S len fun A outer s H vs Q E hr hsp=>?_;obtain⟨t,h,q⟩:=hbody cdv A outer s H vs Q E rfl hr hsp;exact⟨t,h.nox,q⟩
theorem Dx{P:Program}{w:World}{K:PySem.W.Frag}{mg mb:Str->Option Value}{k:Nat}{fa a:Addr}{fd:FuncData}{x:Str}{sp:Sp}{s₁:Shared}{vs:List Value}{ns:List Int}{ts:List Addr}
  (hts:∀p∈ts,s₁.heap.get? p=some (PySem.W.tabObj #[])) (hct:∀p∈ts,isCodeTable s₁.heap p) (hbm:∀p∈ts,s₁.heap.BuiltinsAt mg p) (hkt:∀p∈ts,K.lookup p=none)
  (KX:K.In s₁.heap) (hns:s₁.heap.Ns mainGlobals mg) (hb:s₁.heap.Ns builtinsNs mb) (hbb:∀x:Str,x≠ "__name__"->mb x=bootBuiltins x) (hlim:s₁.heap.NoLimit) (hg:s₁.gens = #[])
  (ha:s₁.heap.get? a=some { cls:=.type "list",data:=.seq vs.toArray }) (hi:IntsAre vs ns) (hl:ns.length<=sizeLine) (hr:Room k callerA)
  (F:∀base:Heap,K.In base->base.Ns mainGlobals mg->(∀p∈ts,base.BuiltinsAt mg p)->FnOk P w K mg base CX0 k fa fd [x] sp) (hbind:∀(s:Shared) (u:Value),BindsTo s fd ⟨[u],[]⟩ [(x,u)])
  (hsp:∀H:Hp,(∀p∈ts,H p=some (.tbl #[]))->SqL K H a (ns.map V.int)->sp [.ref a] H (fun v _=>v = .bl true) fun _ _ _=>False) :
  codeAny (model P w) callerA (.call (.ref fa) ⟨[.ref a],[]⟩) (fun r s'=>r = .ok (.ret (.bool true))/\OldK s₁.heap s'.heap/\s'.os=s₁.os/\AllBare s'.gens) s₁:=by
 have rv:=x6 hi;have nat:a∉ts:=fun z=>by
  have:=hts a z;rw[ha]at this;cases this
 obtain⟨H,hT,hS,hO,ok,hK⟩:∃H:Hp,(∀p∈ts,H p=some (.tbl #[]))/\SqL K H a (ns.map V.int)/\(∀b o,H b=some o->(b∈ts/\o = .tbl #[])\/(b=a/\∃ob xs,o = .frz ob (.lst xs)))/\HOk P w H s₁.heap/\∀b,H b≠none->K.lookup b=none:=by
  cases hk:K.lookup a with
  | some o =>
   have e:=KX a o hk;rw[ha]at e;cases e;refine⟨fun b=>if b∈ts then some (.tbl #[])else none,fun p hp=>BI hp,.inr ⟨_,vs.toArray,_,hk,rfl,rfl,rfl,by rw[AK,hi.length];exact hl,by simpa using rv⟩,fun b o e=>?_,fun b o e=>?_,fun b e=>?_⟩
   .dsimp only at e;by_cases c:b∈ts
    .rw[BI c]at e;cases e;exact .inl ⟨c,rfl⟩
    .rw[BF c]at e;cases e
   .dsimp only at e;by_cases c:b∈ts
    .rw[BI c]at e;cases e;exact hts b c
    .rw[BF c]at e;cases e
   .by_cases c:b∈ts
    .exact hkt b c
    .exact absurd (BF c) e
  | none =>
   refine⟨fun b=>if b=a then some (.frz { cls:=.type "list",data:=.seq vs.toArray } (.lst (ns.map V.int)))else if b∈ts then some (.tbl #[])else none,fun p hp=>?_,.inl (.inr ⟨{ cls:=.type "list",data:=.seq vs.toArray },BI rfl⟩),fun b o e=>?_,fun b o e=>?_,fun b e=>?_⟩
   .show(if p=a then _ else if p∈ts then _ else _)=_;have np:p≠a:=fun z=>nat (z▸hp);rw[BF np,BI hp]
   .dsimp only at e;by_cases d:b=a
    .rw[BI d]at e;cases e;exact .inr ⟨d,_,_,rfl⟩
    .rw[BF d]at e;by_cases c:b∈ts
     .rw[BI c]at e;cases e;exact .inl ⟨c,rfl⟩
     .rw[BF c]at e;cases e
   .dsimp only at e;by_cases d:b=a
    .rw[BI d]at e;cases e;subst d;exact⟨ha,by rw[AA];exact hl,vs,_,rv,ha⟩
    .rw[BF d]at e;by_cases c:b∈ts
     .rw[BI c]at e;cases e;exact hts b c
     .rw[BF c]at e;cases e
   .by_cases d:b=a
    .rw[d];exact hk
    .by_cases c:b∈ts
     .exact hkt b c
     .exact absurd ((BF d).trans (BF c)) e
 have nod:∀{b:Addr} {o:Obj} {es:Array DictEntry} {ep:Nat},s₁.heap.get? b=some o->o.data = .dict es ep->H b=none:=fun{b o es ep} e d=>by
  cases q:H b with
  | none=>rfl
  | some u =>
   rcases hO b u q with⟨z,_⟩ | ⟨z,_⟩
   .rw[hts b z]at e;cases e;cases d
   .rw[z,ha]at e;cases e;cases d
 have nsK:∀{b:Addr} {m:Str->Option Value},s₁.heap.Ns b m->(Gn s₁.heap H).Ns b m:=fun{b m} ⟨o,es,ep,e,d,r⟩=>⟨o,es,ep,Y1 e (nod e d),d,r⟩;have hBb:∀p∈ts,(Gn s₁.heap H).BuiltinsAt mg p:=fun p hp=>by
  obtain⟨bm,o,h1,h2,h3,h4,h5,h6,h7,h8⟩:=hbm p hp;refine⟨bm,o,h1,h2,h3,h4,Y1 h5 ?_,h6,h7,h8⟩;cases q:H bm with
  | none=>rfl
  | some u =>
   rcases hO bm u q with⟨z,_⟩ | ⟨z,_⟩
   .rw[hts bm z]at h5;cases h5;cases h8
   .rw[z,ha]at h5;cases h5;cases h8
 have hKb:K.In (Gn s₁.heap H):=fun b o e=>Y1 (KX b o e) (by
  cases q:H b with
  | none=>rfl
  | some u=>rw[hK b (by rw[q];simp)]at e;cases e)
 have hM:Mod K mg (Gn s₁.heap H):=⟨hKb,nsK hns,⟨mb,nsK hb,hbb⟩,let⟨mc,h1,h2⟩:=hlim;⟨mc,nsK h1,h2⟩⟩;have e0:Env0 P w K mg (Gn s₁.heap H) callerA [] s₁ H:=⟨rfl,hM,fun b o e=>Eu e,Nat.le_of_eq (Aa _ _),trivial,fun b hb=>absurd (show b∈([]:List Addr)from hb) (by simp),ok,.of_eq hg⟩;refine DD ((F _ hKb (nsK hns) hBb).run callerA [] s₁ H ⟨[.ref a],[]⟩ [.ref a] [.ref a] _ _ hr e0 (hbind s₁ (.ref a)) (.cons rfl .nil) (hsp H hT hS)) fun r s' h=>?_;cases r with
 | error e=>exact h.elim
 | ok fl =>
  cases fl with
  | next=>exact False.elim h
  | brk=>exact False.elim h
  | cont=>exact False.elim h
  | ret u =>
   obtain⟨v,H',os,bare,un,ok',r',q⟩:=h;have q':v = .bl true:=q;subst q';obtain rfl:u=Value.bool true:=r';refine⟨rfl,⟨fun b o e=>?_,fun b o e=>un.there b o e (by simp)⟩,os,bare⟩;cases q:H b with
   | none=>exact .inl (un.keep b o e q (fun z=>absurd (show b∈([]:List Addr)from z) (by simp)) (by simp))
   | some u =>
    rcases hO b u q with⟨z,rfl⟩ | ⟨_,ob,xs,rfl⟩
    .obtain⟨more,em⟩:=un.tbls b _ q;have e2:s'.heap.get? b=some { cls:=.none,data:=.fields (#[]++more) }:=ok' b _ em;rw[hts b z]at e;cases e;exact .inr (.inl ⟨hct b z,rfl,#[],more,rfl,e2⟩)
    .obtain⟨e1,_⟩:=ok b _ q;obtain⟨e2,_⟩:=ok' b _ (un.frzs b ob _ q);rw[e]at e1;cases e1;exact .inl e2
theorem walk_ofT{l:PySem.W.OpenLaw}{n k:Nat}{q:Program}{loose:List Str}{XP:(Str->Option Value)->Heap->Prop}{YP:World->Heap->Prop}{d:DefRec}{K:Params->PySem.W.Frag}{sp:World->Sp}{x:Str}{ts:List Addr}
  (hn:l.most=some n) (hn2:n<=sizeLine) (hdf:d.params.defaults = []) (hr:Room k callerA) (hY:∀(w:World) (h:Heap),YP w h->(K w.params).In h) (hYt:∀(w:World) (h:Heap),YP w h->∀p∈ts,h.get? p=some (PySem.W.tabObj #[]))
  (F:∀(w:World) (mg:Str->Option Value) (fa:Addr) (h:Heap),(K w.params).In h->h.Ns mainGlobals mg->mg d.name=some (.ref fa) ->
   (∀p∈ts,isCodeTable h p)/\(∀p∈ts,(K w.params).lookup p=none)/\∃fd:FuncData,(∀(s:Shared) (u:Value),BindsTo s fd ⟨[u],[]⟩ [(x,u)]) /\
    ∀base:Heap,(K w.params).In base->base.Ns mainGlobals mg->(∀p∈ts,base.BuiltinsAt mg p)->FnOk l.prog w (K w.params) mg base CX0 k fa fd [x] (sp w))
  (hsp:∀(w:World) (H:Hp) (a:Addr) (ns:List Int),ns.length<=n->(∀p∈ts,H p=some (.tbl #[]))->SqL (K w.params) H a (ns.map V.int)->sp w [.ref a] H (fun v _=>v = .bl true) fun _ _ _=>False) :
  PySem.W.WalkO q loose XP YP l.row.toRowW d [] (fun f vs=>PySem.call f vs):=by
 refine Att.attach_call hn hdf fun w s₀ s₁ mg mb fa o pm cd doc a vs ns G Y ho hd hcd hmg hobj hints hlen hg=>?_;have KX:=hY w _ Y;obtain⟨h1,h2,fd,hb,hF⟩:=F w mg fa _ KX G.T.g hmg;have hbm:∀p∈ts,s₁.heap.BuiltinsAt mg p:=fun p hp=>by
  obtain⟨bm,o,b1,b2,b3,b4,b5,b6⟩:=G.T.bmain;refine⟨bm,o,b1,b2,fun z=>?_,fun z=>?_,b3,b4,b5,b6⟩
  .obtain⟨o',es,ep,e1,e2,_⟩:=G.T.g;rw[<-z,b3]at e1;cases e1;rw[b6]at e2;cases e2
  .have:=hYt w _ Y p hp;rw[<-z,b3]at this;cases this;cases b6
 exact Dx (hYt w _ Y) h1 hbm h2 KX G.T.g G.T.b G.T.builtins G.T.nolimit hg hobj hints (BO hlen hn2) hr hF hb fun H hO hS=>hsp w H a ns hlen hO hS
section
variable{X:Cx}
theorem Kh(w:World)(hw:X.w=w:=by rfl):J0 X (.builtin "len") (fun xs H Q=>∃(a:Addr) (ss:List Str),xs = [V.ref a]/\H a=some (Kr w a ss)/\Q (.int ss.length) H):=by
 subst hw;intro pins s σ H xs us Q I r h;obtain⟨a,ss,rfl,ha,q⟩:=h;obtain⟨u,rfl,ru⟩:=g0 r;cases ru;obtain⟨o,es,ep,t,S,T⟩:=I.setw ha;have el:es.size=ss.length:=by
  have:=T.pm.length_eq;rw[AA]at this;rw[<-BL];exact this
 refine call_len_set S.ho S.ex S.hd S.ft (by have:=S.few;omega) ?_;exact⟨.int ss.length,H,I.tok _,⟨_,by rw[el]⟩,q⟩
end
def Pe(K:PySem.W.Frag):V->Option Int->Option Int->Hp->VK->Prop:=fun x lo hi H Q=>Ov K x lo hi H Q\/Oy K x lo hi H Q
theorem slB{X:Cx}(K:PySem.W.Frag)(hK:X.K=K:=by rfl):SlR X (Pe K):=(slL K hK).or (slT K hK)
end L2
namespace Sw
open PySem L2
def top(i:Nat):Stmt:=PySem.Challenge.pw_strikeweave_k55_weaves_kept.main.body.getD i (.Pass ⟨0,0,0,0⟩)
abbrev s_is_number:Stmt:=top 4
abbrev s_is_listed:Stmt:=top 5
abbrev s_is_row_of:Stmt:=top 6
abbrev s_is_name:Stmt:=top 10
abbrev s_check_part:Stmt:=top 15
abbrev s_begins_of:Stmt:=top 16
abbrev s_names_of:Stmt:=top 17
abbrev s_fits_people:Stmt:=top 18
abbrev s_fits_sayings:Stmt:=top 19
abbrev s_fits_strikes:Stmt:=top 20
abbrev s_fits_backs:Stmt:=top 21
abbrev s_is_fresh:Stmt:=top 22
abbrev s_is_rank:Stmt:=top 23
abbrev s_are_speakers:Stmt:=top 24
abbrev s_law_mix:Stmt:=top 26
abbrev s_law_left:Stmt:=top 27
abbrev s_law_pick:Stmt:=top 28
abbrev s_law_same:Stmt:=top 29
abbrev s_law_any_name:Stmt:=top 30
abbrev s_law_spelled:Stmt:=top 31
abbrev s_law_many_names:Stmt:=top 32
abbrev s_law_people:Stmt:=top 33
abbrev s_law_speakers:Stmt:=top 34
abbrev s_law_sizes:Stmt:=top 35
abbrev s_law_weave_rows:Stmt:=top 36
abbrev s_law_all:Stmt:=top 37
abbrev s_law_copied:Stmt:=top 38
abbrev s_law_speakers_apart:Stmt:=top 39
abbrev s_law:Stmt:=top 40
abbrev s_Weave___init__:Stmt:=Jv (top 14) 0
def Bb:Str:=("Weave.__init__":Str) ++ ".<locals>." ++ "<lambda>"
def E9:List (Pos×Str):=[(⟨30,39,30,90⟩,Bb),(⟨32,39,32,98⟩,Bb),(⟨33,35,33,85⟩,Bb)]
structure Tx(K:PySem.W.Frag)(mg:Str->Option Value) where
 aH:Fn K mg "is_number" s_is_number ["thing"]
 aD:Fn K mg "is_listed" s_is_listed ["thing"]
 an:Fn K mg "is_row_of" s_is_row_of ["thing", "many"]
 aO:Fn K mg "is_name" s_is_name ["thing"]
 al:Fn K mg "check_part" s_check_part ["part", "rows", "fits"]
 aI:Fn K mg "begins_of" s_begins_of ["rows"]
 aj:Fn K mg "names_of" s_names_of ["rows"]
 ai:Fn K mg "fits_people" s_fits_people ["ahead", "row"]
 ax:Fn K mg "fits_sayings" s_fits_sayings ["people", "ahead", "row"]
 ay:Fn K mg "fits_strikes" s_fits_strikes ["sayings", "goals", "ahead", "row"]
 aF:Fn K mg "fits_backs" s_fits_backs ["sayings", "ahead", "row"]
 az:Fn K mg "is_fresh" s_is_fresh ["taken", "thing"]
 aP:Fn K mg "is_rank" s_is_rank ["thing"]
 aA:Fn K mg "are_speakers" s_are_speakers ["names", "thing"]
 aL:Fn K mg "_law_mix" s_law_mix ["_law_cell", "_law_k"]
 aM:Fn K mg "_law_left" s_law_left ["_law_script", "_law_k"]
 ad:Fn K mg "_law_pick" s_law_pick ["_law_left_here", "_law_many"]
 ae:Fn K mg "_law_same" s_law_same ["_law_found", "_law_due"]
 aB:Fn K mg "_law_any_name" s_law_any_name ["_law_left_here"]
 au:Fn K mg "_law_spelled" s_law_spelled ["_law_left_here", "_law_names"]
 aq:Fn K mg "_law_many_names" s_law_many_names ["_law_left_here", "_law_many"]
 aG:Fn K mg "_law_people" s_law_people ["_law_left_here", "_law_many"]
 aC:Fn K mg "_law_speakers" s_law_speakers ["_law_left_here", "_law_people_here"]
 aJ:Fn K mg "_law_sizes" s_law_sizes ["_law_left_here", "_law_most"]
 ar:Fn K mg "_law_weave_rows" s_law_weave_rows ["_law_left_here", "_law_most"]
 aw:Fn K mg "_law_all" s_law_all ["_law_weave"]
 av:Fn K mg "_law_copied" s_law_copied ["_law_rows"]
 ak:Fn K mg "_law_speakers_apart" s_law_speakers_apart ["_law_rows"]
 aa:Addr
 ag:Cls K aa
 aQ:mg "Weave" = some (.ref aa)
 aS:NoAttr K aa "people"
 as:NoAttr K aa "sayings"
 aE:NoAttr K aa "strikes"
 aK:NoAttr K aa "backs"
 aY:Addr
 aX:FuncData
 aZ:Fun K "__init__" "Weave.__init__" s_Weave___init__ aY aX
 ap:Binds K aX ["self", "people", "sayings", "strikes", "backs"] []
 aR:Mk K aa aY
 bc:Addr
 ab:Addr
 aN:TabAt K mg bc ab
 aV:aX.code = .ref bc
 a5:∃t,mg "LETTERS" = some (.str "abcdefghijklmnopqrstuvwxyz" t)
 a2:∃t,mg "LONGEST_NAME" = some (.int 8 t)
 bd:Addr
 a6:mg "KINDS" = some (.ref bd)
 a7:GTup K bd ["fact", "claim"]
 a1:∃t,mg "GREATEST_RANK" = some (.int 9 t)
 ah:mg "len" = none
 ao:mg "range" = none
 a3:mg "enumerate" = none
 a8:mg "zip" = none
 a9:mg "min" = none
 ba:mg "max" = none
 a4:mg "abs" = none
 a0:mg "int" = none
 aW:mg "str" = none
 aU:mg "bool" = none
 af:mg "list" = none
 am:mg "tuple" = none
 bb:mg "set" = none
 ac:mg "isinstance" = none
 aT:mg "all" = none
 be:mg "ValueError" = none
end Sw
namespace L2
open PySem
theorem fsc{N ps:List Str}{sc:Scope}(h1:sc.kind = .function:=by rfl)(h2:sc.isCoroutine=false:=by rfl)(h3:sc.isGenerator=false:=by rfl)(h4:N.Nodup:=by decide +kernel)(h5:N.take ps.length=ps:=by rfl)(h6:∀x∈ps,sc.names.lookup x=some .local\/sc.names.lookup x=some .cell:=by decide +kernel)(h7:∀y∈sc.names,y.2≠ .free:=by decide +kernel):FnScope N ps sc:=⟨h1,h2,h3,h4,h5,h6,h7⟩
theorem Rm{j k:Nat}{A:Around}(h:Room k A)(e:j<=k:=by decide):Room j A:=h.mono e
theorem p6{J:It}{xs:List V}{a:Addr}{H0:Hp}(as:AsSeq J xs a H0){g:TG}{tb:TS}{D:Ends}{σ:St}{H:Hp}(Pv:Nat->St->Hp->Prop)(h0:Pv 0 σ H)(hk:∀i σ H,i<=xs.length->Pv i σ H->KeepAt a H0 H)
  (hs:∀i σ H x,xs[i]?=some x->Pv i σ H->∀D':Ends,(∀σ' H',Pv (i+1) σ' H'->D'.nx σ' H')->D'.rt=D.rt->g x σ H fun σ2 H2=>tb D' σ2 H2) (hd:∀σ H,Pv xs.length σ H->D.nx σ H) :
  ∃W:Nat->Nat->St->Hp->Prop,(∃m,W 0 m σ H)/\∀i m σ H,W i m σ H ->
   (J.stop i H/\D.nx σ H)\/(J.go i H/\∃N:St->Hp->Prop,(∀σ' H',N σ' H'->∃m',m' < m/\W (i+1) m' σ' H')/\∀x H',J.yld i H x H'->g x σ H' fun σ2 H2=>tb { D with nx:=N,ct:=N,bk:=D.nx } σ2 H2) :=
 Ng as Pv h0 hk (fun i σ H x hx hp=>hs i σ H x hx hp _ (fun _ _ z=>z) rfl) hd
theorem P8{lo:Int}{n:Nat}{g:TG}{tb:TS}{D:Ends}{σ:St}{H:Hp}(Pv:Nat->St->Hp->Prop)(h0:Pv 0 σ H)
  (hs:∀i σ H,i<n->Pv i σ H->∀D':Ends,(∀σ' H',Pv (i+1) σ' H'->D'.nx σ' H')->D'.rt=D.rt->g (.int (lo+i)) σ H fun σ2 H2=>tb D' σ2 H2) (hd:∀σ H,Pv n σ H->D.nx σ H) :
  ∃W:Nat->Nat->St->Hp->Prop,(∃m,W 0 m σ H)/\∀i m σ H,W i m σ H ->
   ((Itr lo n).stop i H/\D.nx σ H)\/((Itr lo n).go i H/\∃N:St->Hp->Prop,(∀σ' H',N σ' H'->∃m',m' < m/\W (i+1) m' σ' H')/\∀x H',(Itr lo n).yld i H x H'->g x σ H' fun σ2 H2=>tb { D with nx:=N,ct:=N,bk:=D.nx } σ2 H2) :=
 Fj Pv h0 (fun i σ H hi hp=>hs i σ H hi hp _ (fun _ _ z=>z) rfl) hd
theorem ex1{α:Type}{A C:α->Prop}{a:α}(e:A a)(h:C a):∃v,A v/\C v:=⟨a,e,h⟩
theorem J7{α0 α1 α2:Type}{A0 A1 A2 A3 A4 A5:α0->α1->α2->Prop}{a:α0}{b:α1}{c:α2}(h0:A0 a b c)(h1:A1 a b c)(h2:A2 a b c)(h3:A3 a b c)(h4:A4 a b c)(h5:A5 a b c):∃a b c,A0 a b c/\A1 a b c/\A2 a b c/\A3 a b c/\A4 a b c/\A5 a b c:=⟨a,b,c,h0,h1,h2,h3,h4,h5⟩
theorem B8{α0 α1:Type}{A0 A1 A2:α0->α1->Prop}{a:α0}{b:α1}(h0:A0 a b)(h1:A1 a b)(h2:A2 a b):∃a b,A0 a b/\A1 a b/\A2 a b:=⟨a,b,h0,h1,h2⟩
theorem B9{t u:TS}{D:Ends}{σ:St}{H:Hp}(h:∀N:St->Hp->Prop,(∀σ' H',u D σ' H'->N σ' H')->t { D with nx:=N } σ H):Nr t u D σ H:=h _ fun _ _ z=>z
theorem Gz{i:Nat}{v:V}{t u:TS}{D:Ends}{σ:St}{H:Hp}(h:∀N:St->Hp->Prop,(∀σ' H',u D σ' H'->N σ' H')->t { D with nx:=N } (σ.set i (some v)) H):Bg i v σ H (fun σ2 H2=>Nr t u D σ2 H2):=h _ fun _ _ z=>z
end L2
namespace Sw
open PySem L2
section
variable{P:Program}{w:World}{K:PySem.W.Frag}{mg:Str->Option Value}{base:Heap}
def Gf(c:Nat):Bool:=decide (97<=c)&&decide (c<=122)
def C9(x:Str):Bool:=decide (1<=x.length)&&decide (x.length<=8)&&x.cps.toList.all Gf
theorem Z1:("abcdefghijklmnopqrstuvwxyz":Str).cps.toList=List.range' 97 26:=by decide +kernel
theorem Kj(c:Nat):decide (c∈("abcdefghijklmnopqrstuvwxyz":Str).cps.toList)=Gf c:=by
 rw[Z1];unfold Gf;by_cases h1:97<=c
 .by_cases h2:c<=122
  .rw[AQ (List.mem_range'_1.mpr (by omega)),AQ h1,AQ h2];rfl
  .rw[BC (fun z=>by have:=List.mem_range'_1.mp z;omega),BC h2,Bool.and_false]
 .rw[BC (fun z=>by have:=List.mem_range'_1.mp z;omega),BC h1,DN]
theorem Cv:FnScope ["thing"] ["thing"] (B6 s_is_name):=fsc
def Dr:Sp:=fun vs H Q _=>∃x,vs = [.str x]/\x.length<=1000/\∀H',Same H H'->Q (.bl (C9 x)) H'
theorem Dp(T:Tx K mg):FnOk P w K mg base CX0 1 T.aO.f T.aO.fd ["thing"] Dr:=by
 refine T.aO.F.ok Cv (fun vs H Q E h=>?_) (fun cdv A outer s H vs Q E hr h=>?_)
 .obtain⟨x,rfl,_⟩:=h;rfl
 .obtain⟨x,rfl,hx,k⟩:=h;refine⟨_,(B3 (J2 (PW.pt (Bf (O0 (F9 (D4 (E4 K) T.ac C0 (A6 (pv 0) (A6 (K9 T.aW Cm) A8))))) (Y7 (O0 (Ha Hu Hu B2 (D4 An T.ah I9 (A6 (pv 0) A8)) (La T.a2)))))) (B7 (C3 g9)) C7)
   (B7 (C3 (D4 (Ae K) T.aT At (A6 (U5 (N':=["letter"]) (cap:=[none]) (cl:=[]) (O6 trivial trivial) rfl (Ls (pv 0)) (fun _ _ _ _=>by exact⟨(pgC 0),E1,(D7 Fr (pv 0) (Op T.a5) rfl)⟩)) A8))))),?_⟩
  have h64:x.length<=sizeLine:=by rw[sizeLine_eq];omega
  have hlen:x.cps.size=x.length:=rfl;refine ex1 rfl ⟨.str x, "str",_,true,rfl,.str x,rfl,ex1 rfl ?_⟩;refine X1 ?_;refine ex1 rfl ⟨x,rfl,h64,B8 rfl rfl (ex1 rfl ?_)⟩;refine Au (fun c1=>?_) (fun c1=>?_)
  .have c1:(1:Int)<=(x.length:Int):=CJ c1;refine B8 rfl rfl (ex1 rfl ?_);by_cases c2:(x.length:Int)<=8
   .rw[AQ c2];refine X1 ?_;refine ex1 rfl ⟨x,rfl,fun D hD=>?_⟩;refine V4 (n:=x.cps.size) (fun i σ H'=>(∃v,σ = [v])/\Same H H'/\H' D=some (.lst ((x.cps.toList.take i).map fun c=>V.bl (Gf c)))) ⟨⟨_,rfl⟩,Same.new hD,A7⟩ (fun i _ _ hi _=>hi) (fun _ _ _=>rfl) ?_ ?_
    .rintro i σ H1 v H' N hi ⟨⟨v0,rfl⟩,s1,e1⟩ ⟨rfl,c,hc,rfl⟩ hN;refine U1 ?_;refine ex1 rfl (B8 rfl rfl ⟨_,e1,?_,?_⟩)
     .rw[AA,AV,sizeLine_eq];omega
     .rw[PySem.StrLaws.found_one,Kj];refine hN _ _ ⟨⟨_,rfl⟩,s1.upd hD,?_⟩;rw[A7];have:x.cps.toList[i]?=some c:=by rw[Array.getElem?_toList];exact hc
      rw[List.take_add_one,this,AL];rfl
    .rintro σ H1 ⟨_,s1,e1⟩;refine⟨D,x.cps.toList.map Gf,rfl,SqL.of ?_,?_⟩
     .rw[e1,<-BL,CB,AZ];rfl
     .have e:(x.cps.toList.map Gf).all id=C9 x:=by
       unfold C9;rw[AQ (show 1<=x.length by omega),AQ (show x.length<=8 by omega),List.all_map];rfl
      rw[e];exact k _ s1
   .rw[BC c2];refine X2 ?_;have e:C9 x=false:=by
     unfold C9;rw[BC (show ¬x.length<=8 by omega),Bool.and_false,DN]
    have:=k H (Same.refl H);rw[e]at this;exact this
  .have c1:¬(1:Int)<=(x.length:Int):=fun z=>c1 (AQ z);refine ex1 rfl ?_;refine X2 ?_;have e:C9 x=false:=by
    unfold C9;rw[BC (show ¬1<=x.length by omega),DN,DN]
   have:=k H (Same.refl H);rw[e]at this;exact this
theorem J5{α:Type}{l:List α}{i:Nat}{x:α}(h:l[i]?=some x):l.take (i+1)=l.take i ++ [x]:=by
 rw[List.take_add_one,h];rfl
theorem P9{α:Type}{l:List α}{i:Nat}{x:α}(nd:l.Nodup)(h:l[i]?=some x):x∉l.take i:=by
 intro hm;obtain⟨j,hj,e⟩:=List.getElem_of_mem hm;have hj':j<i:=by rw[AV]at hj;omega
 rw[List.getElem_take]at e;obtain⟨hi,e'⟩:=AM.mp h;have:=(List.getElem_inj nd).mp (e.trans e'.symm);omega
def P2(ss:List Str):Prop:=(∀x∈ss,C9 x=true)/\ss.Nodup/\ss.length<=100
theorem Ex{x:Str}(h:C9 x=true):1<=x.length/\x.length<=8:=by
 unfold C9 at h;rw[BK,BK]at h;exact⟨CJ h.1.1,CJ h.1.2⟩
end
theorem y7(ss:List Str):(ss.map V.str).all r6=true:=by
 rw[CA];intro v hv;obtain⟨x,_,rfl⟩:=BB.mp hv;rfl
theorem Ge(x:Str)(ss:List Str):inV (.str x) (ss.map V.str)=decide (x∈ss):=by
 unfold inV;rw[List.any_map]
 induction ss with
 | nil=>rfl
 | cons y r ih =>
  rw[List.any_cons,ih];show((y == x)||decide (x∈r))=decide (x∈y::r);by_cases e:x=y
  .subst e;simp
  .have:(y == x)=false:=by simpa using fun z=>e z.symm
   rw[this,Bool.false_or];by_cases h:x∈r
   .rw[AQ h,AQ (AW _ h)]
   .rw[BC h,BC (fun z=>(AJ.mp z).elim e h)]
theorem Q7{K:PySem.W.Frag}{H:Hp}{p:Addr}{x:Str}{ss:List Str}{Q:VK}(h:Sqs K H p (ss.map V.str))(q:Q (.bl (decide (x∈ss))) H):rIn K false (.str x) (.ref p) H Q :=
 ⟨p,_,rfl,h,rfl,y7 ss,by rw[BF (by decide),Ge];exact q⟩
theorem j3{K:PySem.W.Frag}{H:Hp}{p:Addr}{x:Str}{ss:List Str}{Q:VK}(h:Sqs K H p (ss.map V.str))(q:Q (.bl (!decide (x∈ss))) H):rIn K true (.str x) (.ref p) H Q :=
 ⟨p,_,rfl,h,rfl,y7 ss,by rw[BI rfl,Ge];exact q⟩
theorem Bn{α:Type}{J:It}{ys:List α}{r:α->V}(f:α->V){a D:Addr}{H:Hp}(as:AsSeq J (ys.map r) a H){tc:TT}{te:TE}{c:St}{v0:Option V}{Q:St->Hp->Prop}(p:α->Bool)(len:ys.length<=5000)(hD:H D=none)
  (ht:∀y∈ys,∀G,Same H G->∀M:Bool->Hp->Prop,(∀G',Same G G'->M (p y) G')->tc (some (r y)::c) G M) (he:∀y∈ys,∀G,Same H G->∀M:VK,(∀G',Same G G'->M (f y) G')->te (some (r y)::c) G M)
  (q:∀σ G,Same H G->G D=some (.lst ((ys.filter p).map f))->Q σ G):Kt (Bg 0) tc (He D te) J (v0::c) (upd H D (.lst [])) Q:=by
 refine f8 as (fun i σ G=>(∃v,σ=v::c)/\Same H G/\G D=some (.lst (((ys.take i).filter p).map f))) ⟨⟨_,rfl⟩,Same.new hD,A7⟩ (fun i σ G _ h=>h.2.1.at a) ?_ ?_
 .rintro i σ G v N hx ⟨⟨v0,rfl⟩,sG,eG⟩ hN;rw[AH]at hx;obtain⟨y,hy,rfl⟩:=AU.mp hx;have my:=AN hy;refine ht y my G sG _ fun G' s'=>?_;have eG:=s' _ _ eG;have sG:=sG.trans s';have hs:(ys.take (i+1)).filter p =(ys.take i).filter p++if p y=true then [y]else []:=by
   rw[J5 hy,List.filter_append,List.filter_cons,List.filter_nil]
  have hl:=List.length_filter_le p (ys.take i);rw[AV]at hl;refine Au (fun c=>he y my G' sG _ fun G2 s2=>⟨_,s2 _ _ eG,by rw[AA,sizeLine_eq];omega,hN _ _ ⟨⟨_,rfl⟩,(sG.trans s2).upd hD,?_⟩⟩) (fun c=>hN _ _ ⟨⟨_,rfl⟩,sG,?_⟩)
  .rw[A7,hs,BI c,AL];rfl
  .rw[hs,BF c,CQ];exact eG
 .rintro σ G ⟨_,sG,eG⟩;rw[AA,CB]at eG;exact q σ G sG eG
theorem Hw{K:PySem.W.Frag}{x:Str}{H:Hp}{Q:VK}(o:PySem.PyData.strOk x=true)(q:Q (.bl true) H):Ln K (.str x) (.str x) H Q:=by
 have e:Rp K H (.str x) (.str x):=by simp only[Rp]
 have p:Pl (.str x):=⟨by rw[PyData.canLay0];exact o,by rw[PyData.depth];decide⟩;exact⟨_,_,e,e,p,p,by rw[PySem.SeqAt.eqv_refl _ p.1];exact q⟩
def tyB(b:Bool):Value:=.type (bif b then "list" else "tuple")
theorem Jy{K:PySem.W.Frag}:∀b,PySem.W.kitOne K (tyB b) (.type "list")=some b
 | true=>rfl
 | false=>rfl
theorem Ly{K:PySem.W.Frag}:∀b,PySem.W.kitOne K (tyB b) (.type "tuple")=some !b
 | true=>rfl
 | false=>rfl
theorem Kz{K:PySem.W.Frag}:∀b,PySem.W.kitAny K (tyB b) (["list", "tuple"].map Value.type)=some true
 | true=>rfl
 | false=>rfl
theorem Mx(b:Bool):(!decide (V.bl b=V.bl b))=false:=congrArg _ (AQ rfl)
def LT(b:Bool)(xs:List V):HO:=bif b then .lst xs else .tup xs
theorem Aw{K:PySem.W.Frag}{H:Hp}{l:Addr}{xs:List V}:∀{b:Bool},H l=some (LT b xs)->TyOf K H (.ref l) (tyB b)
 | true,h=>.lst h
 | false,h=>.tup h
theorem Jm{H:Hp}{l:Addr}{xs:List V}:∀{b:Bool},H l=some (LT b xs)->H l=some (.lst xs)\/H l=some (.tup xs)
 | true,h=>.inl h
 | false,h=>.inr h
def sqB(K:PySem.W.Frag)(b:Bool):Hp->Addr->List V->Prop:=bif b then SqL K else SqT K
theorem Dd{K:PySem.W.Frag}{H:Hp}{l:Addr}{xs:List V}:∀{b:Bool},H l=some (LT b xs)->sqB K b H l xs
 | true,h=>SqL.of h
 | false,h=>SqT.of h
theorem M0{K:PySem.W.Frag}{H:Hp}{l:Addr}{xs:List V}{b:Bool}(h:H l=some (LT b xs)):Sqs K H l xs:=(Jm h).imp SqL.of SqT.of
theorem Mt{K:PySem.W.Frag}{H:Hp}{l m:Addr}{xs ys:List V}{R:It->Hp->Prop}:∀{b:Bool},H l=some (LT b xs)->H m=some (LT b ys)->R (Ku (sqB K b) l m) H->Pa K R l m xs ys H
 | true,h,h',q=>.inl ⟨SqL.of h,SqL.of h',q⟩
 | false,h,h',q=>.inr ⟨SqT.of h,SqT.of h',q⟩
def Oq(K:PySem.W.Frag):List V->Hp->VK->Prop:=fun xs H Q=>Kg K xs H Q\/∃(x:V) (p:Addr) (ns:List String) (b:Bool) (T:String),xs = [x,.ref p]/\H p=some (.tup (ns.map V.ty))/\((x = .non/\T = "NoneType")\/∃i,x = .int i/\T = "int")/\PySem.W.kitAny K (.type T) (ns.map Value.type)=some b/\Q (.bl b) H
theorem Cn{X:Cx}(K:PySem.W.Frag)(hK:X.K=K:=by rfl):J0 X (.builtin "isinstance") (Oq K):=by
 subst hK;intro pins s σ H xs us Q I r h;rcases h with h | ⟨x,p,ns,b,T,rfl,hp,ht,he,q⟩
 .exact Hn X.K rfl pins s σ H xs us Q I r h
 obtain⟨u,v,rfl,ru,rv⟩:=r.two;cases rv;obtain⟨its,rv,⟨⟨oc,od,odt,osl⟩,ho,hc,n,hd⟩,hz⟩:=I.tuple (SqT.of hp);rw[Bd rv]at hd;cases hc;cases hd;rcases ht with⟨rfl,rfl⟩ | ⟨i,rfl,rfl⟩
 .cases ru;exact PySem.W.kia_tup PySem.W.kitx_none I.kIn True.intro ho he (fun z=>nomatch z) fun tk=>⟨.bl b,H,I.tok _,rfl,q⟩
 .obtain⟨t,rfl⟩:=(show ∃t,u=Value.int i t from ru);exact PySem.W.kia_tup PySem.W.kitx_int I.kIn True.intro ho he (fun z=>nomatch z) fun tk=>⟨.bl b,H,I.tok _,rfl,q⟩
theorem Bu{K:PySem.W.Frag}{d:PyData}{v:V}{H:Hp}{Q:VK}(e:Rp K H d v)(o:PyData.canLay0 d=true)(z:d.depth<=1)(q:Q (.bl true) H):Ln K v v H Q:=by
 have p:Pl d:=⟨o,BO z (by decide)⟩;exact⟨_,_,e,e,p,p,by rw[PySem.SeqAt.eqv_refl _ p.1];exact q⟩
abbrev RW:Type:=Addr×Str×List V
def Ad(H:Hp)(q:RW):Prop:=H q.1=some (.tup (.str q.2.1::q.2.2))
structure RowsAt(H:Hp)(l:Addr)(rs:List RW):Prop where
 at_:H l=some (.lst (rs.map fun q=>V.ref q.1))
 row:∀q∈rs,Ad H q
theorem RowsAt.same{H H':Hp}{l:Addr}{rs:List RW}(h:RowsAt H l rs)(s:Same H H'):RowsAt H' l rs:=⟨s _ _ h.at_,fun q hq=>s _ _ (h.row q hq)⟩
structure RowsB(t:Bool)(H:Hp)(l:Addr)(rs:List RW):Prop where
 at_:H l=some (LT t (rs.map fun q=>V.ref q.1))
 row:∀q∈rs,Ad H q
theorem RowsB.same{t:Bool}{H H':Hp}{l:Addr}{rs:List RW}(h:RowsB t H l rs)(s:Same H H'):RowsB t H' l rs:=⟨s _ _ h.at_,fun q hq=>s _ _ (h.row q hq)⟩
def V3(rs:List RW):List Str:=rs.map fun q=>q.2.1
section
variable{P:Program}{w:World}{K:PySem.W.Frag}{mg:Str->Option Value}{base:Heap}
theorem V5:FnScope ["thing"] ["thing"] (B6 s_is_number):=fsc
def Ei:Sp:=fun vs H Q _=>∃i:Int,vs = [.int i]/\Q (.bl true) H
theorem Am(T:Tx K mg):FnOk P w K mg base CX0 1 T.aH.f T.aH.fd ["thing"] Ei:=by
 have sc:=V5;refine T.aH.F.ok V5 (fun vs H Q E h=>?_) (fun cdv A outer s H vs Q E hr h=>?_)
 .obtain⟨i,rfl,_⟩:=h;rfl
 .obtain⟨i,rfl,q⟩:=h;refine⟨_,(B7 (C3 (F8 (D4 (E4 K) T.ac C0 (A6 (pv 0) (A6 (K9 T.a0 Dw) A8))) (K0 (Ie (D4 (E4 K) T.ac C0 (A6 (pv 0) (A6 (K9 T.aU o9) A8)))))))),?_⟩;refine ex1 rfl ⟨.int i, "int",_,true,rfl,.int i,rfl,ex1 rfl (X2 ?_)⟩;exact ex1 rfl ⟨.int i, "bool",_,false,rfl,.int i,rfl,ex1 rfl q⟩
theorem V2:FnScope ["thing"] ["thing"] (B6 s_is_listed):=fsc
def Du:Sp:=fun vs H Q _=>∃(a:Addr) (b:Bool) (xs:List V),vs = [.ref a]/\H a=some (LT b xs)/\∀H',Same H H'->Q (.bl true) H'
theorem V8(T:Tx K mg):FnOk P w K mg base CX0 1 T.aD.f T.aD.fd ["thing"] Du:=by
 have sc:=V2;refine T.aD.F.ok V2 (fun vs H Q E h=>?_) (fun cdv A outer s H vs Q E hr h=>?_)
 .obtain⟨a,b,xs,rfl,_⟩:=h;rfl
 .obtain⟨a,b,xs,rfl,hS,q⟩:=h;refine⟨_,(B7 (C3 (D4 (Cn K) T.ac C0 (A6 (pv 0) (A6 (J4 (A6 (K9 T.af E6) (A6 (K9 T.am F7) A8))) A8))))),?_⟩;refine ex1 rfl ⟨by show 2<=sizeLine;decide,fun t ht=>?_⟩;have s1:=Same.new (o:=.tup [.ty "list",.ty "tuple"]) ht;have m1:=s1 _ _ hS;exact .inl ⟨.ref a,t,["list", "tuple"],_,true,rfl,A7,Aw m1,.inr ⟨a,_,rfl,Jm m1⟩,Kz b,q _ s1⟩
theorem V7:FnScope ["thing", "many"] ["thing", "many"] (B6 s_is_row_of):=fsc
def Ev:Sp:=fun vs H Q _=>∃(p:Addr) (xs:List V) (n:Int),vs = [.ref p,.int n]/\H p=some (.tup xs)/\(xs.length:Int)=n/\Q (.bl true) H
theorem J9(T:Tx K mg):FnOk P w K mg base CX0 1 T.an.f T.an.fd ["thing", "many"] Ev:=by
 have sc:=V7;refine T.an.F.ok V7 (fun vs H Q E h=>?_) (fun cdv A outer s H vs Q E hr h=>?_)
 .obtain⟨p,xs,n,rfl,_⟩:=h;rfl
 .obtain⟨p,xs,n,rfl,hp,hn,q⟩:=h;refine⟨_,(B7 (C3 (F8 (D4 (E4 K) T.ac C0 (A6 (pv 0) (A6 (K9 T.am F7) A8))) (K0 (D7 Af (D4 (K3 K) T.ah I9 (A6 (pv 0) A8)) (pv 1) (D9 _)))))),?_⟩;refine ex1 rfl ⟨.ref p, "tuple",_,true,rfl,.tup hp,rfl,ex1 rfl (X2 ?_)⟩;refine ex1 rfl (B8 (a:=p) rfl (.inr (SqT.of hp)) (ex1 rfl ⟨rfl,?_⟩));rw[hn,AQ rfl];exact q
theorem Z0:FnScope ["rows"] ["rows"] (B6 s_names_of):=fsc
def Z2:Sp:=fun vs H Q _=>∃(t:Bool) (l:Addr) (rs:List RW),vs = [.ref l]/\RowsB t H l rs/\rs.length<=1000/\∀m H',Same H H'->H m=none->H' m=some (.lst ((V3 rs).map V.str))->Q (.ref m) H'
theorem O3(T:Tx K mg):FnOk P w K mg base CX0 1 T.aj.f T.aj.fd ["rows"] Z2:=by
 have sc:=Z0;refine T.aj.F.ok Z0 (fun vs H Q E h=>?_) (fun cdv A outer s H vs Q E hr h=>?_)
 .obtain⟨t,l,rs,rfl,_⟩:=h;rfl
 .obtain⟨t,l,rs,rfl,hR,len,q⟩:=h;refine⟨_,(B7 (C3 (U5 (N':=["row"]) (cap:=[none]) (cl:=[]) (O6 trivial trivial) rfl (piS K (pv 0)) (fun _ _ _ _=>by exact⟨(pgC 0),E1,(C1 (ixT K) (pv 0) B2 (fun _ _=>rfl))⟩)))),?_⟩;dsimp only[Ob];refine Y0 rfl (M0 hR.at_) fun J as D hD=>?_;refine Bn (r:=fun q:RW=>V.ref q.1) (fun q=>V.str q.2.1) as (fun _=>true) (by omega) hD (fun y my G sG M hM=>hM G fun b o e=>e) (fun y my G sG M hM=>?_) fun σ' G sG eG=>?_
  .exact ex1 rfl ⟨y.1,_,B8 rfl rfl ⟨SqT.of (sG _ _ (hR.row y my)),B5 (j:=0) rfl,hM G fun b o e=>e⟩⟩
  .refine q D G sG hD ?_;rw[eG,CC.mpr fun _ _=>rfl];unfold V3;rw[AZ];rfl
theorem V6:FnScope ["rows"] ["rows"] (B6 s_begins_of):=fsc
theorem u0(T:Tx K mg):FnOk P w K mg base CX0 2 T.aI.f T.aI.fd ["rows"] Z2:=by
 have G_is_listed:=V8 (P:=P) (w:=w) (base:=base) T;have sc:=V6;refine T.aI.F.ok V6 (fun vs H Q E h=>?_) (fun cdv A outer s H vs Q E hr h=>?_)
 .obtain⟨t,l,rs,rfl,_⟩:=h;rfl
 .obtain⟨t,l,rs,rfl,hR,len,q⟩:=h;refine⟨_,(B7 (C3 (U5 (N':=["row"]) (cap:=[none]) (cl:=[]) (O6 trivial trivial) rfl (piS K (pv 0)) (fun _ _ _ _=>by exact⟨(pgC 0),(Ix (PW.pt (Ep (F9 (C2 T.aD G_is_listed (Rm hr) (A6 (pv 0) A8))) (Bi (E2 Gq (D4 (K3 K) T.ah I9 (A6 (pv 0) A8)) B2 (D9 _)))))),(C1 (ixT K) (pv 0) B2 (fun _ _=>rfl))⟩)))),?_⟩;dsimp only[Ob];refine Y0 rfl (M0 hR.at_) fun J as D hD=>?_;refine Bn (r:=fun q:RW=>V.ref q.1) (fun q=>V.str q.2.1) as (fun _=>true) (by omega) hD (fun y my G sG M hM=>?_) (fun y my G sG M hM=>?_) fun σ' G sG eG=>?_
  .have ey:=sG _ _ (hR.row y my);refine ex1 rfl ⟨y.1,false,_,rfl,ey,fun G2 s2=>⟨_,rfl,X2 ?_⟩⟩;refine ex1 rfl (B8 (a:=y.1) rfl (.inr (SqT.of (s2 _ _ ey))) (B8 rfl rfl (ex1 rfl ?_)));rw[AQ (by rw[BM];omega)];exact hM G2 s2
  .exact ex1 rfl ⟨y.1,_,B8 rfl rfl ⟨SqT.of (sG _ _ (hR.row y my)),B5 (j:=0) rfl,hM G fun b o e=>e⟩⟩
  .refine q D G sG hD ?_;rw[eG,CC.mpr fun _ _=>rfl];unfold V3;rw[AZ];rfl
theorem Y4:FnScope ["taken", "thing"] ["taken", "thing"] (B6 s_is_fresh):=fsc
def Go(K:PySem.W.Frag):Sp:=fun vs H Q _=>∃(l:Addr) (ss:List Str) (x:Str),vs = [.ref l,.str x]/\SqL K H l (ss.map V.str)/\C9 x=true/\x∉ss/\∀H',Same H H'->Q (.bl true) H'
theorem Q6(T:Tx K mg):FnOk P w K mg base CX0 2 T.az.f T.az.fd ["taken", "thing"] (Go K):=by
 have G_is_name:=Dp (P:=P) (w:=w) (base:=base) T;have sc:=Y4;refine T.az.F.ok Y4 (fun vs H Q E h=>?_) (fun cdv A outer s H vs Q E hr h=>?_)
 .obtain⟨l,ss,x,rfl,_⟩:=h;rfl
 .obtain⟨l,ss,x,rfl,hS,hn,hx,q⟩:=h;refine⟨_,(B7 (C3 (F8 (C2 T.aO G_is_name (Rm hr) (A6 (pv 1) A8)) (K0 (D7 (Cg K) (pv 1) (pv 0) rfl))))),?_⟩;have hl:=Ex hn;refine ex1 rfl ⟨x,rfl,by omega,fun H1 s1=>⟨_,rfl,?_⟩⟩;rw[hn];refine X2 (ex1 rfl (ex1 rfl (j3 (.inl ((s1.at l).seqL hS)) ?_)));rw[BC hx];exact q H1 s1
theorem l0:FnScope ["thing"] ["thing"] (B6 s_is_rank):=fsc
def Km:Sp:=fun vs H Q _=>∃i:Int,vs = [.int i]/\0<=i/\i<=9/\Q (.bl true) H
theorem Dg(T:Tx K mg):FnOk P w K mg base CX0 2 T.aP.f T.aP.fd ["thing"] Km:=by
 have G_is_number:=Am (P:=P) (w:=w) (base:=base) T;have sc:=l0;refine T.aP.F.ok l0 (fun vs H Q E h=>?_) (fun cdv A outer s H vs Q E hr h=>?_)
 .obtain⟨i,rfl,_⟩:=h;rfl
 .obtain⟨i,rfl,h0,h9,q⟩:=h;refine⟨_,(B7 (C3 (F8 (C2 T.aH G_is_number (Rm hr) (A6 (pv 0) A8)) (K0 (Hj Hu Hu B2 (pv 0) (La T.a1)))))),?_⟩;refine ex1 rfl ⟨i,rfl,_,rfl,X2 ?_⟩;refine ex1 rfl (B8 rfl rfl (ex1 rfl ?_));rw[AQ h0];refine X2 (B8 rfl rfl ?_);show Q (.bl (decide (i<=9))) H;rw[AQ h9];exact q
theorem P3:FnScope ["names", "thing"] ["names", "thing"] (B6 s_are_speakers):=fsc
def Ax(K:PySem.W.Frag):Sp:=fun vs H Q _=>∃(t:Bool) (l m:Addr) (ns ss:List Str),vs = [.ref l,.ref m]/\H l=some (.lst (ns.map V.str))/\H m=some (LT t (ss.map V.str))/\(∀x∈ss,x∈ns)/\ss.Nodup/\ss.length<=100/\∀H',Same H H'->Q (.bl true) H'
theorem Z7(T:Tx K mg):FnOk P w K mg base CX0 2 T.aA.f T.aA.fd ["names", "thing"] (Ax K):=by
 have G_is_listed:=V8 (P:=P) (w:=w) (base:=base) T;have sc:=P3;refine T.aA.F.ok P3 (fun vs H Q E h=>?_) (fun cdv A outer s H vs Q E hr h=>?_)
 .obtain⟨t,l,m,ns,ss,rfl,_⟩:=h;rfl
 .obtain⟨t,l,m,ns,ss,rfl,hl,hm,sub,nd,len,q⟩:=h;refine⟨_,(B7 (C3 (F8 (C2 T.aD G_is_listed (Rm hr) (A6 (pv 1) A8)) (F8 (D4 (Ae K) T.aT At (A6 (U5 (N':=["one", "names"]) (cap:=[none,some 0]) (cl:=[("names",_)]) (O6 ⟨⟨rfl,rfl,rfl,rfl⟩,trivial⟩ ⟨rfl,trivial⟩) rfl (piS K (pv 1)) (fun _ _ _ _=>by exact⟨(pgC 0),E1,(D7 (Be K) (pv 0) (pv 1) rfl)⟩)) A8)) (K0 (D7 Af (D4 (Kh w) T.ah I9 (A6 (P1 (Ko K w) T.bb Mn (A6 (pv 1) A8)) A8)) (D4 (K3 K) T.ah I9 (A6 (pv 1) A8)) (D9 _))))))),?_⟩;refine ex1 rfl ⟨m,t,_,rfl,hm,fun H1 s1=>⟨_,rfl,X2 ?_⟩⟩;have l1:=s1 _ _ hl;have m1:=s1 _ _ hm;dsimp only[Mp,tCB,Fe];refine Y0 rfl (M0 m1) fun J as D hD=>?_;refine Bn (fun x=>V.bl (decide (x∈ns))) as (fun _=>true) (by omega) hD (fun y my G sG M hM=>hM G fun b o e=>e) (fun y my G sG M hM=>ex1 rfl (ex1 rfl (Q7 (.inl (SqL.of (sG _ _ l1))) (hM G fun b o e=>e)))) fun σ' G sG eG=>?_;have eG:G D=some (.lst ((ss.map fun x=>decide (x∈ns)).map V.bl)):=by
   rw[eG,CC.mpr fun _ _=>rfl,AZ];rfl
  have ea:((ss.map fun x=>decide (x∈ns)).all id)=true:=by
   rw[List.all_map,CA];exact fun x hx=>AQ (sub x hx)
  refine⟨D,_,rfl,SqL.of eG,_,rfl,?_⟩;rw[ea];refine X2 ?_;have m2:=sG _ _ m1;refine ex1 rfl ⟨m,ss,rfl,M0 m2,nd,by omega,fun z hz=>?_⟩;have uz:=Same.new (o:=Kr w z ss) hz;refine⟨z,ss,rfl,A7,ex1 rfl (B8 (a:=m) rfl (M0 (uz _ _ m2)) ⟨rfl,?_⟩)⟩;rw[AA,AQ rfl];exact q _ ((s1.trans sG).trans uz)
theorem Q4:FnScope ["ahead", "row"] ["ahead", "row"] (B6 s_fits_people):=fsc
def Cq:Sp:=fun vs H Q _=>∃(tb:Bool) (l p:Addr) (rs:List RW) (n:Str) (r:Int),vs = [.ref l,.ref p]/\RowsB tb H l rs/\rs.length<=1000/\H p=some (.tup [.str n,.int r])/\C9 n=true/\n∉V3 rs/\0<=r/\r<=9/\∀H',Same H H'->Q (.bl true) H'
theorem g6(T:Tx K mg):FnOk P w K mg base CX0 3 T.ai.f T.ai.fd ["ahead", "row"] Cq:=by
 have G_is_row_of:=J9 (P:=P) (w:=w) (base:=base) T;have G_names_of:=O3 (P:=P) (w:=w) (base:=base) T;have G_is_fresh:=Q6 (P:=P) (w:=w) (base:=base) T;have G_is_rank:=Dg (P:=P) (w:=w) (base:=base) T;have sc:=Q4;refine T.ai.F.ok Q4 (fun vs H Q E h=>?_) (fun cdv A outer s H vs Q E hr h=>?_)
 .obtain⟨tb,l,p,rs,n,r,rfl,_⟩:=h;rfl
 .obtain⟨tb,l,p,rs,n,r,rfl,hR,len,hp,hn,hx,r0,r9,q⟩:=h;refine⟨_,(B7 (C3 (F8 (C2 T.an G_is_row_of (Rm hr) (A6 (pv 1) (A6 B2 A8))) (F8 (C2 T.az G_is_fresh (Rm hr) (A6 (C2 T.aj G_names_of (Rm hr) (A6 (pv 0) A8)) (A6 (C1 (ixT K) (pv 1) B2 (fun _ _=>rfl)) A8))) (K0 (C2 T.aP G_is_rank (Rm hr) (A6 (C1 (ixT K) (pv 1) B2 (fun _ _=>rfl)) A8))))))),?_⟩;refine ex1 rfl ⟨p,_,_,rfl,hp,rfl,_,rfl,X2 ?_⟩;refine ex1 rfl ⟨tb,l,rs,rfl,hR,len,fun m H1 s1 hm em=>?_⟩;refine ex1 rfl ⟨p,_,B8 rfl rfl ⟨SqT.of (s1 _ _ hp),B5 (j:=0) rfl,?_⟩⟩;refine⟨m,_,n,rfl,SqL.of em,hn,hx,fun H2 s2=>⟨_,rfl,X2 ?_⟩⟩;refine ex1 rfl ⟨p,_,B8 rfl rfl ⟨SqT.of (s2 _ _ (s1 _ _ hp)),B5 (j:=1) rfl,?_⟩⟩;exact⟨r,rfl,r0,r9,q H2 (s1.trans s2)⟩
theorem O9:FnScope ["people", "ahead", "row"] ["people", "ahead", "row"] (B6 s_fits_sayings):=fsc
def Ch:Sp:=fun vs H Q _=>∃(tb:Bool) (a l p m:Addr) (ps rs:List RW) (n kd:Str) (ss:List Str),vs = [.ref a,.ref l,.ref p]/\RowsB tb H a ps/\ps.length<=1000/\RowsB tb H l rs/\rs.length<=1000/\H p=some (.tup [.str n,.str kd,.ref m])/\H m=some (LT tb (ss.map V.str))/\C9 n=true/\n∉V3 rs/\(kd = "fact"\/kd = "claim")/\(∀x∈ss,x∈V3 ps)/\ss.Nodup/\ss.length<=100/\∀H',Same H H'->Q (.bl true) H'
theorem Z6(T:Tx K mg):FnOk P w K mg base CX0 3 T.ax.f T.ax.fd ["people", "ahead", "row"] Ch:=by
 have G_is_row_of:=J9 (P:=P) (w:=w) (base:=base) T;have G_names_of:=O3 (P:=P) (w:=w) (base:=base) T;have G_is_fresh:=Q6 (P:=P) (w:=w) (base:=base) T;have G_are_speakers:=Z7 (P:=P) (w:=w) (base:=base) T;have sc:=O9;refine T.ax.F.ok O9 (fun vs H Q E h=>?_) (fun cdv A outer s H vs Q E hr h=>?_)
 .obtain⟨tb,a,l,p,m,ps,rs,n,kd,ss,rfl,_⟩:=h;rfl
 .obtain⟨tb,a,l,p,m,ps,rs,n,kd,ss,rfl,hP,lp,hR,lr,hp,hm,hn,hx,hk,sub,nd,ls,q⟩:=h;refine⟨_,(B3 (J2 (PW.pt (Bf (O0 (F9 (C2 T.an G_is_row_of (Rm hr) (A6 (pv 2) (A6 B2 A8))))) (Y7 (O0 (F9 (C2 T.az G_is_fresh (Rm hr) (A6 (C2 T.aj G_names_of (Rm hr) (A6 (pv 1) A8)) (A6 (C1 (ixT K) (pv 2) B2 (fun _ _=>rfl)) A8)))))))) (B7 (C3 g9)) C7)
   (B7 (C3 (F8 (D7 (Be K) (C1 (ixT K) (pv 2) B2 (fun _ _=>rfl)) (Mi T.a6) rfl) (K0 (C2 T.aA G_are_speakers (Rm hr) (A6 (C2 T.aj G_names_of (Rm hr) (A6 (pv 0) A8)) (A6 (C1 (ixT K) (pv 2) B2 (fun _ _=>rfl)) A8)))))))),?_⟩
  refine ex1 rfl ⟨p,_,_,rfl,hp,rfl,_,rfl,X1 ?_⟩;refine ex1 rfl ⟨tb,l,rs,rfl,hR,lr,fun m1 H1 s1 hm1 em=>?_⟩;refine ex1 rfl ⟨p,_,B8 rfl rfl ⟨SqT.of (s1 _ _ hp),B5 (j:=0) rfl,?_⟩⟩;refine⟨m1,_,n,rfl,SqL.of em,hn,hx,fun H2 s2=>⟨_,rfl,X1 ?_⟩⟩;have s2:=s1.trans s2;refine ex1 rfl ⟨p,_,B8 rfl rfl ⟨SqT.of (s2 _ _ hp),B5 (j:=1) rfl,?_⟩⟩;have hk':decide (kd∈(["fact", "claim"]:List Str))=true:=AQ (by rcases hk with rfl | rfl<;>decide);dsimp only[tC];refine Q7 (ss:=["fact", "claim"]) (.inr T.a7.sq) ?_;rw[hk'];refine⟨_,rfl,X2 ?_⟩;refine ex1 rfl ⟨tb,a,ps,rfl,hP.same s2,lp,fun m2 H3 s3 hm2 em2=>?_⟩;have s3:=s2.trans s3;refine ex1 rfl ⟨p,_,B8 rfl rfl ⟨SqT.of (s3 _ _ hp),B5 (j:=2) rfl,?_⟩⟩;exact⟨tb,m2,m,_,ss,rfl,em2,s3 _ _ hm,sub,nd,ls,fun H4 s4=>q H4 (s3.trans s4)⟩
theorem P5:FnScope ["sayings", "goals", "ahead", "row", "said"] ["sayings", "goals", "ahead", "row"] (B6 s_fits_strikes):=fsc
def Bs:Sp:=fun vs H Q _=>∃(tb:Bool) (a g l p:Addr) (ss rs:List RW) (gs:List Str) (n o t:Str),vs = [.ref a,.ref g,.ref l,.ref p]/\RowsB tb H a ss/\ss.length<=1000/\H g=some (.lst (gs.map V.str))/\RowsB tb H l rs/\rs.length<=1000/\H p=some (.tup [.str n,.str o,.str t])/\C9 n=true/\n∉V3 ss/\n∉V3 rs/\o∈V3 ss/\(t∈V3 ss\/t∈gs)/\∀H',Same H H'->Q (.bl true) H'
theorem a6(T:Tx K mg):FnOk P w K mg base CX0 3 T.ay.f T.ay.fd ["sayings", "goals", "ahead", "row"] Bs:=by
 have G_is_row_of:=J9 (P:=P) (w:=w) (base:=base) T;have G_names_of:=O3 (P:=P) (w:=w) (base:=base) T;have G_is_fresh:=Q6 (P:=P) (w:=w) (base:=base) T;have sc:=P5;refine T.ay.F.ok P5 (fun vs H Q E h=>?_) (fun cdv A outer s H vs Q E hr h=>?_)
 .obtain⟨tb,a,g,l,p,ss,rs,gs,n,o,t,rfl,_⟩:=h;rfl
 .obtain⟨tb,a,g,l,p,ss,rs,gs,n,o,t,rfl,hS,ls,hg,hR,lr,hp,hn,hx1,hx2,ho,ht,q⟩:=h;refine⟨_,(B3 (C5 (i:=4) sc.nd rfl (.inl rfl) (C2 T.aj G_names_of (Rm hr) (A6 (pv 0) A8)))
   (B3 (J2 (PW.pt (Bf (O0 (F9 (C2 T.an G_is_row_of (Rm hr) (A6 (pv 3) (A6 B2 A8))))) (Y7 (O0 (F9 (C2 T.az G_is_fresh (Rm hr) (A6 (E8 Co (pv 4) (C2 T.aj G_names_of (Rm hr) (A6 (pv 2) A8))) (A6 (C1 (ixT K) (pv 3) B2 (fun _ _=>rfl)) A8)))))))) (B7 (C3 g9)) C7)
   (B7 (C3 (F8 (D7 (Be K) (C1 (ixT K) (pv 3) B2 (fun _ _=>rfl)) (pv 4) rfl) (K0 (Of (D7 (Be K) (C1 (ixT K) (pv 3) B2 (fun _ _=>rfl)) (pv 4) rfl) (K0 (D7 (Be K) (C1 (ixT K) (pv 3) B2 (fun _ _=>rfl)) (pv 1) rfl))))))))),?_⟩
  refine B9 fun N1 hN1=>?_;refine ex1 rfl ⟨tb,a,ss,rfl,hS,ls,fun m1 H1 s1 hm1 em1=>?_⟩;refine hN1 _ _ (B9 fun N2 hN2=>?_);refine ex1 rfl ⟨p,_,_,rfl,s1 _ _ hp,rfl,_,rfl,X1 ?_⟩;refine ex1 rfl (ex1 rfl ⟨tb,l,rs,rfl,hR.same s1,lr,fun m2 H2 s2 hm2 em2=>?_⟩);have em1:=s2 _ _ em1;have s2:=s1.trans s2;have lss:(V3 ss).length=ss.length:=by unfold V3;rw[AA]
  have lrs:(V3 rs).length=rs.length:=by unfold V3;rw[AA]
  refine⟨m1,m2,_,_,rfl,rfl,em1,em2,by rw[AA,AA,lss,lrs,sizeLine_eq];omega,fun m3 hm3=>?_⟩;have u3:=Same.new (o:=.lst ((V3 ss).map V.str ++(V3 rs).map V.str)) hm3;have s3:=s2.trans u3;refine ex1 rfl ⟨p,_,B8 rfl rfl ⟨SqT.of (s3 _ _ hp),B5 (j:=0) rfl,?_⟩⟩;refine⟨m3,V3 ss++V3 rs,n,rfl,SqL.of (by rw[A7,AL]),hn,fun z=>(A_.mp z).elim hx1 hx2,fun H4 s4=>⟨_,rfl,X1 ?_⟩⟩;have em1:=s4 _ _ (u3 _ _ em1);have s4:=s3.trans s4;refine hN2 _ _ ?_;refine ex1 rfl ⟨p,_,B8 rfl rfl ⟨SqT.of (s4 _ _ hp),B5 (j:=1) rfl,ex1 rfl (Q7 (.inl (SqL.of em1)) ?_)⟩⟩;rw[AQ ho];refine⟨_,rfl,X2 ?_⟩;refine ex1 rfl ⟨p,_,B8 rfl rfl ⟨SqT.of (s4 _ _ hp),B5 (j:=2) rfl,ex1 rfl (Q7 (.inl (SqL.of em1)) ⟨_,rfl,Au (fun c=>q _ s4) (fun c=>?_)⟩)⟩⟩;refine ex1 rfl ⟨p,_,B8 rfl rfl ⟨SqT.of (s4 _ _ hp),B5 (j:=2) rfl,ex1 rfl (Q7 (.inl (SqL.of (s4 _ _ hg))) ?_)⟩⟩;rw[AQ (ht.resolve_left fun z=>c (AQ z))];exact q _ s4
end
def Q0(ps:List PA2):List V:=ps.map fun q=>V.ref q.1
theorem U8{H H':Hp}{ps:List PA2}(s:Same H H')(h:∀q∈ps,K7 H q):∀q∈ps,K7 H' q:=fun q hq=>s _ _ (h q hq)
def pd(k:Str×Str):PyData:=.tuple [.str k.1,.str k.2]
theorem C8{x:Str}(h:C9 x=true):PySem.PyData.strOk x=true:=by
 unfold C9 at h;rw[BK]at h;unfold PySem.PyData.strOk;rw[<-Array.all_toList,CA];intro c hc;have:=(CA.mp h.2) c hc;unfold Gf at this;rw[BK]at this;have:=CJ this.2;exact AQ (by omega)
theorem Av{K:PySem.W.Frag}{H:Hp}{t:Addr}{k:Str×Str}(h:H t=some (.tup [.str k.1,.str k.2])):Rp K H (pd k) (.ref t):=by
 unfold pd;simp only[Rp,Rps];exact⟨t,_,rfl,SqT.of h,_,_,rfl,rfl,_,_,rfl,rfl,rfl⟩
theorem Z3{K:PySem.W.Frag}{H:Hp}:∀{ps:List PA2},(∀q∈ps,K7 H q)->Rps K H (ps.map fun q=>pd q.2) (Q0 ps)
 | [],_=>by simp[Rps,Q0]
 | q::r,h=>by
  show Rps K H (pd q.2::r.map fun q=>pd q.2) (V.ref q.1::Q0 r);simp only[Rps];exact⟨_,_,rfl,Av (h q (AX ..)),Z3 fun z hz=>h z (AW _ hz)⟩
theorem Bz{K:PySem.W.Frag}{H:Hp}{l:Addr}{ps:List PA2}(hl:H l=some (.lst (Q0 ps)))(h:∀q∈ps,K7 H q):Rp K H (.list (ps.map fun q=>pd q.2)) (.ref l):=by
 simp only[Rp];exact⟨l,_,rfl,SqL.of hl,Z3 h⟩
theorem Li(a b:Str×Str):PyData.eqv (pd a) (pd b)=decide (a=b):=by
 unfold pd;rw[PyData.eqv,PyData.eqvAll,PyData.eqvAll,PyData.eqvAll,PyData.eqv,PyData.eqv];by_cases h1:a.1=b.1
 .by_cases h2:a.2=b.2
  .rw[AQ (Prod.ext h1 h2),h1,h2];simp
  .rw[BC fun z=>h2 (congrArg Prod.snd z)];simp[h2]
 .rw[BC fun z=>h1 (congrArg Prod.fst z)];simp[h1]
theorem b9(k:Str×Str):∀ps:List PA2,((ps.map fun q=>pd q.2).any fun z=>PyData.eqv z (pd k))=decide (k∈ps.map fun q=>q.2)
 | []=>rfl
 | q::r=>by
  rw[BR,List.any_cons,b9 k r,Li,BR];by_cases e:q.2=k
  .rw[AQ e,Bool.true_or,AQ (show k∈q.2::_ from by rw[<-e];exact AX ..)]
  .rw[BC e,Bool.false_or];by_cases h:k∈r.map fun q=>q.2
   .rw[AQ h,AQ (AW _ h)]
   .rw[BC h,BC fun z=>(AJ.mp z).elim (fun z=>e z.symm) h]
theorem Fq{k:Str×Str}(h1:PySem.PyData.strOk k.1=true)(h2:PySem.PyData.strOk k.2=true):(pd k).canLay0=true:=by
 unfold pd;simp[PyData.canLay0,PyData.canLayAll0,h1,h2]
theorem Bj:∀{ps:List PA2},(∀q∈ps,PySem.PyData.strOk q.2.1=true/\PySem.PyData.strOk q.2.2=true)->PyData.canLayAll0 (ps.map fun q=>pd q.2)=true
 | [],_=>rfl
 | q::r,h=>by
  rw[BR,PyData.canLayAll0,Fq (h q (AX ..)).1 (h q (AX ..)).2,Bj fun z hz=>h z (AW _ hz)];rfl
theorem De{K:PySem.W.Frag}{H:Hp}{t l:Addr}{k:Str×Str}{ps:List PA2}{Q:VK}(ht:H t=some (.tup [.str k.1,.str k.2]))(hl:H l=some (.lst (Q0 ps)))(hp:∀q∈ps,K7 H q)
  (hk:PySem.PyData.strOk k.1=true/\PySem.PyData.strOk k.2=true) (hs:∀q∈ps,PySem.PyData.strOk q.2.1=true/\PySem.PyData.strOk q.2.2=true) (q:Q (.bl (!decide (k∈ps.map fun q=>q.2))) H):Kv K true (.ref t) (.ref l) H Q :=
 ⟨pd k,_,Av ht,.inl (Bz hl hp),⟨Fq hk.1 hk.2,by simp[pd,PyData.depth,PyData.depthAll]⟩,Bj hs,by rw[BI rfl,b9];exact q⟩
section
variable{P:Program}{w:World}{K:PySem.W.Frag}{mg:Str->Option Value}{base:Heap}
theorem Oc{H:Hp}{l:Addr}{ps:List PA2}{tb:Bool}(hl:H l=some (LT tb (Q0 ps)))(h:∀q∈ps,K7 H q):Rp K H (.list (ps.map fun q=>pd q.2)) (.ref l)\/Rp K H (.tuple (ps.map fun q=>pd q.2)) (.ref l):=by
 cases tb with
 | true=>exact .inl (Bz hl h)
 | false=>exact .inr (by simp only[Rp];exact⟨l,_,rfl,SqT.of hl,Z3 h⟩)
theorem Jw{H:Hp}{t l:Addr}{k:Str×Str}{ps:List PA2}{Q:VK}(ht:H t=some (.tup [.str k.1,.str k.2])){tb:Bool}(hl:H l=some (LT tb (Q0 ps)))(hp:∀q∈ps,K7 H q)
  (hk:PySem.PyData.strOk k.1=true/\PySem.PyData.strOk k.2=true) (hs:∀q∈ps,PySem.PyData.strOk q.2.1=true/\PySem.PyData.strOk q.2.2=true) (q:Q (.bl (decide (k∈ps.map fun q=>q.2))) H):Kv K false (.ref t) (.ref l) H Q :=
 ⟨pd k,_,Av ht,Oc hl hp,⟨Fq hk.1 hk.2,by simp[pd,PyData.depth,PyData.depthAll]⟩,Bj hs,by rw[BF (by decide),b9];exact q⟩
theorem S6:FnScope ["sayings", "ahead", "row", "said"] ["sayings", "ahead", "row"] (B6 s_fits_backs):=fsc
def Cd:Sp:=fun vs H Q _=>∃(tb:Bool) (a l p:Addr) (ss:List RW) (bs:List PA2) (o t:Str),vs = [.ref a,.ref l,.ref p]/\RowsB tb H a ss/\ss.length<=1000/\H l=some (LT tb (Q0 bs))/\(∀q∈bs,K7 H q)/\(∀q∈bs,C9 q.2.1=true/\C9 q.2.2=true)/\H p=some (.tup [.str o,.str t])/\C9 o=true/\C9 t=true/\(o,t)∉(bs.map fun q=>q.2)/\o∈V3 ss/\t∈V3 ss/\o≠t/\∀H',Same H H'->Q (.bl true) H'
theorem p7(T:Tx K mg):FnOk P w K mg base CX0 3 T.aF.f T.aF.fd ["sayings", "ahead", "row"] Cd:=by
 have G_is_row_of:=J9 (P:=P) (w:=w) (base:=base) T;have G_names_of:=O3 (P:=P) (w:=w) (base:=base) T;have sc:=S6;refine T.aF.F.ok S6 (fun vs H Q E h=>?_) (fun cdv A outer s H vs Q E hr h=>?_)
 .obtain⟨tb,a,l,p,ss,bs,o,t,rfl,_⟩:=h;rfl
 .obtain⟨tb,a,l,p,ss,bs,o,t,rfl,hS,ls,hl,hb,nb,hp,no,nt,hx,ho,ht,ne,q⟩:=h;refine⟨_,(B3 (C5 (i:=3) sc.nd rfl (.inl rfl) (C2 T.aj G_names_of (Rm hr) (A6 (pv 0) A8)))
   (B3 (J2 (PW.pt (Bf (O0 (F9 (C2 T.an G_is_row_of (Rm hr) (A6 (pv 2) (A6 B2 A8))))) (Y7 (E2 (Oa K hr.units) (pv 2) (pv 1) rfl)))) (B7 (C3 g9)) C7)
   (B7 (C3 (F8 (D7 (Be K) (C1 (ixT K) (pv 2) B2 (fun _ _=>rfl)) (pv 3) rfl) (F8 (D7 (Be K) (C1 (ixT K) (pv 2) B2 (fun _ _=>rfl)) (pv 3) rfl) (K0 (D7 Hv (C1 (ixT K) (pv 2) B2 (fun _ _=>rfl)) (C1 (ixT K) (pv 2) B2 (fun _ _=>rfl)) (D9 _))))))))),?_⟩
  refine B9 fun N1 hN1=>?_;refine ex1 rfl ⟨tb,a,ss,rfl,hS,ls,fun m1 H1 s1 hm1 em1=>?_⟩;refine hN1 _ _ (B9 fun N2 hN2=>?_);have p1:=s1 _ _ hp;refine ex1 rfl ⟨p,_,_,rfl,p1,rfl,_,rfl,X1 ?_⟩;refine ex1 rfl (ex1 rfl (Jw (k:=(o,t)) p1 (s1 _ _ hl) (U8 s1 hb) ⟨C8 no,C8 nt⟩ (fun q hq=>⟨C8 (nb q hq).1,C8 (nb q hq).2⟩) ?_));rw[BC hx];refine⟨_,rfl,X1 ?_⟩;refine hN2 _ _ ?_;refine ex1 rfl ⟨p,_,B8 rfl rfl ⟨SqT.of p1,B5 (j:=0) rfl,ex1 rfl (Q7 (.inl (SqL.of em1)) ?_)⟩⟩;rw[AQ ho];refine⟨_,rfl,X2 ?_⟩;refine ex1 rfl ⟨p,_,B8 rfl rfl ⟨SqT.of p1,B5 (j:=1) rfl,ex1 rfl (Q7 (.inl (SqL.of em1)) ?_)⟩⟩;rw[AQ ht];refine⟨_,rfl,X2 ?_⟩;refine ex1 rfl ⟨p,_,B8 rfl rfl ⟨SqT.of p1,B5 (j:=0) rfl,ex1 rfl ⟨p,_,B8 rfl rfl ⟨SqT.of p1,B5 (j:=1) rfl,rfl,?_⟩⟩⟩⟩;have e:(!decide (V.str o=V.str t))=true:=by rw[BC fun z=>ne (V.str.inj z)];rfl
  rw[e];exact q H1 s1
theorem Ip(xs:List V)(i:Nat)(h:i<=xs.length):R8 xs none (some (i:Int))=xs.take i:=by
 unfold R8;rw[HT.sIx_none,HT.sIx_nat,List.drop_zero,Nat.sub_zero,DL h]
def Y9(base:Heap)(f:Addr)(sp:Sp):Sp:=fun vs H Q _=>∃(tb:Bool) (x:Str) (a:Addr) (as:List Addr),vs = [.str x,.ref a,.ref f]/\H a=some (LT tb (as.map V.ref))/\as.length<=1000/\FnHere base H f /\
 (∀(i:Nat) (q:Addr),as[i]?=some q->∀(G:Hp) (l:Addr) (Q':VK),Same H G->G l=some (LT tb ((as.take i).map V.ref))->(∀G',Same G G'->Q' (.bl true) G')->sp [.ref l,.ref q] G Q' E0)/\∀H',Same H H'->Q .non H'
theorem Ox{H:Hp}{a:Addr}{tb:Bool}{xs:List V}{i:Nat}{Q:VK}(h:H a=some (LT tb xs))(hi:i<xs.length)(q:∀l H',Same H H'->H' l=some (LT tb (xs.take i))->Q (.ref l) H'):Pe K (.ref a) none (some (i:Int)) H Q:=by
 cases tb with
 | true=>exact .inl ⟨a,xs,rfl,SqL.of h,fun l hl=>q l _ (Same.new hl) (by rw[A7,Ip _ _ (by omega)];rfl)⟩
 | false =>
  refine .inr ⟨a,xs,rfl,SqT.of h,fun z=>?_,fun l hl=>q l _ (Same.new hl) (by rw[A7,Ip _ _ (by omega)];rfl)⟩;have:=z.2;rw[HT.sIx_nat,DL (by omega)]at this;omega
theorem S9:FnScope ["part", "rows", "fits", "place", "row"] ["part", "rows", "fits"] (B6 s_check_part):=fsc
theorem J1(T:Tx K mg){f:Addr}{fd:FuncData}{k:Nat}{sp:Sp}(G_fits:FnOk P w K mg base CX0 k f fd ["ahead", "row"] sp)(hb_fits:Binds K fd ["ahead", "row"] []):FnOk P w K mg base CX0 (k+1) T.al.f T.al.fd ["part", "rows", "fits"] (Y9 base f sp):=by
 have sc:=S9;refine T.al.F.ok S9 (fun vs H Q E h=>?_) (fun cdv A outer s H vs Q E hr h=>?_)
 .obtain⟨tb,x,a,as,rfl,_⟩:=h;rfl
 .obtain⟨tb,x,a,as,rfl,ha,len,hf,hfit,q⟩:=h;refine⟨_,(B7 (S3 PassesOwn.never rfl (Pt K T.a3 (A6 (pv 1) A8)) (pgT K (n:=2) (O4 (J3 (i:=3) sc.nd rfl (.inl rfl)) (O4 (J3 (i:=4) sc.nd rfl (.inl rfl)) Ba)))
   (B7 (J2 (O0 (F9 (Gu (i:=2) G_fits (hr.mono (AG _)) hb_fits (A6 (O1 (slB K) (pv 1) Q5 (R0 (pv 3))) (A6 (pv 4) A8))))) (B7 Hr) C7)))),?_⟩
  refine ex1 rfl ⟨a,ex1 rfl (Hx (K:=K) (M0 ha) (fun o e=>e) fun sq hk=>Lr (n:=as.length) (fun i σ H1=>∃v3 v4,σ = [some (.str x),some (.ref a),some (.ref f),v3,v4]/\Same H H1) ⟨_,_,rfl,fun b o e=>e⟩ ?_ ?_ ?_ ?_)⟩
  .rintro i σ H1 hi ⟨v3,v4,rfl,s1⟩;exact⟨_,_,hk _ (s1.at a),by rw[AH,AR hi];rfl⟩
  .rintro σ H1 ⟨v3,v4,rfl,s1⟩;exact⟨_,hk _ (s1.at a),by rw[AA]⟩
  .rintro i σ H1 v H' hi ⟨v3,v4,rfl,s1⟩ ⟨t,y,rfl,ht,rfl,hy⟩;have hy:=hy _ (hk _ (s1.at a));have hi':as[i]?=some as[i]:=AR hi;rw[AH,hi']at hy;cases hy;have ut:=s1.trans (Same.new (o:=.tup [.int (i:Int),.ref as[i]]) ht);refine⟨t,_,rfl,SqT.of A7,rfl,_,_,rfl,_,_,rfl,rfl,?_⟩;refine⟨rfl,hf.same ut,?_⟩;refine ex1 rfl (ex1 rfl ⟨_,rfl,Ox (ut _ _ ha) (by rw[AA];exact hi) fun l H2 u2 el=>?_⟩);have ul:=ut.trans u2;rw[<-BZ]at el;refine ex1 rfl ⟨hf.same ul,hfit i _ hi' H2 l _ ul el fun G' s'=>⟨_,rfl,X1 ?_⟩⟩;exact⟨_,_,rfl,ul.trans s'⟩
  .rintro σ H1 ⟨v3,v4,rfl,s1⟩;exact q H1 s1
end
abbrev PEr:Type:=Addr×Str×Int
abbrev SAr:Type:=Addr×Str×Str×Addr×List Str
abbrev STr:Type:=Addr×Str×Str×Str
def rP(q:PEr):RW:=(q.1,q.2.1,[.int q.2.2])
def rS(q:SAr):RW:=(q.1,q.2.1,[.str q.2.2.1,.ref q.2.2.2.1])
def rT(q:STr):RW:=(q.1,q.2.1,[.str q.2.2.1,.str q.2.2.2])
structure WRows(H:Hp)(a b c d:Addr)(pe:List PEr)(sa:List SAr)(st:List STr)(ba:List PA2):Prop where
 hp:RowsAt H a (pe.map rP)
 hs:RowsAt H b (sa.map rS)
 sp:∀q∈sa,H q.2.2.2.1=some (.lst (q.2.2.2.2.map V.str))
 ht:RowsAt H c (st.map rT)
 hb:H d=some (.lst (Q0 ba))
 pb:∀q∈ba,K7 H q
theorem WRows.same{H H':Hp}{a b c d:Addr}{pe:List PEr}{sa:List SAr}{st:List STr}{ba:List PA2}(h:WRows H a b c d pe sa st ba)(s:Same H H'):WRows H' a b c d pe sa st ba :=
 ⟨h.hp.same s,h.hs.same s,fun q hq=>s _ _ (h.sp q hq),h.ht.same s,s _ _ h.hb,U8 s h.pb⟩
theorem WRows.keep{H H':Hp}{a b c d p:Addr}{ls:List (Pos×Str)}{pe:List PEr}{sa:List SAr}{st:List STr}{ba:List PA2}(h:WRows H a b c d pe sa st ba)(t:F6 H p ls)(k:∀z o,H z=some o->z≠p->H' z=some o):WRows H' a b c d pe sa st ba:=by
 obtain⟨ps,e,_⟩:=t;have kk:∀{z:Addr} {o:HO},H z=some o->o≠ .tbl ps->H' z=some o:=fun hz n=>k _ _ hz fun y=>by rw[y,e]at hz;cases hz;exact n rfl
 exact⟨⟨kk h.hp.at_ (by intro z;cases z),fun q hq=>kk (h.hp.row q hq) (by intro z;cases z)⟩,⟨kk h.hs.at_ (by intro z;cases z),fun q hq=>kk (h.hs.row q hq) (by intro z;cases z)⟩,fun q hq=>kk (h.sp q hq) (by intro z;cases z),⟨kk h.ht.at_ (by intro z;cases z),fun q hq=>kk (h.ht.row q hq) (by intro z;cases z)⟩,kk h.hb (by intro z;cases z),fun q hq=>kk (h.pb q hq) (by intro z;cases z)⟩
theorem X5{H H':Hp}{p x C dx:Addr}{fs:List (Str×V)}{ls:List (Pos×Str)}(h:F6 H p ls)(hx:H x=some (.ins C dx fs))(k:Sm [x] H H'):F6 H' p ls:=by
 have kk:∀{z:Addr} {o:HO},H z=some o->o≠ .ins C dx fs->H' z=some o:=fun hz n=>k _ _ hz fun y=>by rw[AC.mp y,hx]at hz;cases hz;exact n rfl
 obtain⟨ps,e,t,q⟩:=h;exact⟨ps,kk e (by intro z;cases z),t,fun l hl=>(q l hl).imp id fun⟨c,e,hc⟩=>⟨c,e,kk hc (by intro z;cases z)⟩⟩
def nP(pe:List PEr):List Str:=pe.map fun q=>q.2.1
def nS(sa:List SAr):List Str:=sa.map fun q=>q.2.1
def nT(st:List STr):List Str:=st.map fun q=>q.2.1
structure WOk(pe:List PEr)(sa:List SAr)(st:List STr)(ba:List PA2):Prop where
 len:pe.length<=30/\sa.length<=30/\st.length<=30/\ba.length<=30
 pn:(nP pe).Nodup
 pm:∀q∈pe,C9 q.2.1=true/\0<=q.2.2/\q.2.2<=9
 sn:(nS sa++nT st).Nodup
 nm:∀x∈nS sa++nT st,C9 x=true
 kd:∀q∈sa,q.2.2.1 = "fact"\/q.2.2.1 = "claim"
 sk:∀q∈sa,(∀x∈q.2.2.2.2,x∈nP pe)/\q.2.2.2.2.Nodup/\q.2.2.2.2.length<=100
 tg:∀q∈st,q.2.2.1∈nS sa/\(q.2.2.2∈nS sa\/q.2.2.2∈nT st)
 bn:(ba.map fun q=>q.2).Nodup
 bk:∀q∈ba,q.2.1∈nS sa/\q.2.2∈nS sa/\q.2.1≠q.2.2
theorem Mv(pe:List PEr):V3 (pe.map rP)=nP pe:=by unfold V3 nP;rw[AZ];rfl
theorem Dq(sa:List SAr):V3 (sa.map rS)=nS sa:=by unfold V3 nS;rw[AZ];rfl
theorem Nk(st:List STr):V3 (st.map rT)=nT st:=by unfold V3 nT;rw[AZ];rfl
theorem Bl{α:Type}{r:α->RW}{xs:List α}:((xs.map r).map fun q=>V.ref q.1) =(xs.map fun x=>(r x).1).map V.ref:=by rw[AZ,AZ];rfl
def wfW(a b c d:Addr):List (Str×V):=[("people",.ref a),("sayings",.ref b),("strikes",.ref c),("backs",.ref d)]
def WeaveAt(C:Addr)(H:Hp)(x:Addr)(pe:List PEr)(sa:List SAr)(st:List STr)(ba:List PA2):Prop:=∃dx a b c d,H x=some (.ins C dx (wfW a b c d))/\WRows H a b c d pe sa st ba
theorem WeaveAt.same{C:Addr}{H H':Hp}{x:Addr}{pe:List PEr}{sa:List SAr}{st:List STr}{ba:List PA2}(h:WeaveAt C H x pe sa st ba)(s:Same H H'):WeaveAt C H' x pe sa st ba:=let⟨dx,a,b,c,d,e,w⟩:=h;⟨dx,a,b,c,d,s _ _ e,w.same s⟩
def WeaveNew(C:Addr)(H0 H:Hp)(x:Addr)(pe:List PEr)(sa:List SAr)(st:List STr)(ba:List PA2):Prop:=∃dx a b c d,H x=some (.ins C dx (wfW a b c d))/\WRows H a b c d pe sa st ba/\H0 a=none/\H0 b=none/\H0 c=none/\H0 d=none/\∀q∈sa,H0 q.2.2.2.1=none
theorem WeaveNew.at_{C:Addr}{H0 H:Hp}{x:Addr}{pe:List PEr}{sa:List SAr}{st:List STr}{ba:List PA2}(h:WeaveNew C H0 H x pe sa st ba):WeaveAt C H x pe sa st ba:=let⟨dx,a,b,c,d,e,w,_⟩:=h;⟨dx,a,b,c,d,e,w⟩
theorem WeaveNew.same{C:Addr}{H0 H H':Hp}{x:Addr}{pe:List PEr}{sa:List SAr}{st:List STr}{ba:List PA2}(h:WeaveNew C H0 H x pe sa st ba)(s:Same H H'):WeaveNew C H0 H' x pe sa st ba:=let⟨dx,a,b,c,d,e,w,n⟩:=h;⟨dx,a,b,c,d,s _ _ e,w.same s,n⟩
theorem none_of{L:List Addr}{H H':Hp}{z:Addr}(k:Sm L H H')(n:z∉L)(h:H' z=none):H z=none:=by
 cases y:H z with
 | none=>rfl
 | some o=>rw[k z o y n]at h;cases h
theorem C4{H H':Hp}{p:Addr}{ls:List (Pos×Str)}(h:F6 H p ls)(s:Same H H'):F6 H' p ls:=let⟨ps,e,t,q⟩:=h;⟨ps,s _ _ e,t,fun l hl=>(q l hl).imp id fun⟨c,e,hc⟩=>⟨c,e,s _ _ hc⟩⟩
def dS(q:SAr):Str×Str×List Str:=(q.2.1,q.2.2.1,q.2.2.2.2)
theorem Fa{t:Bool}{xs:List V}{o:HO}(h:∀xs,o≠ .lst xs/\o≠ .tup xs):LT t xs≠o:=by
 cases t with
 | true=>exact fun z=>(h xs).1 z.symm
 | false=>exact fun z=>(h xs).2 z.symm
structure WRowsB(t:Bool)(H:Hp)(a b c d:Addr)(pe:List PEr)(sa:List SAr)(st:List STr)(ba:List PA2):Prop where
 hp:RowsB t H a (pe.map rP)
 hs:RowsB t H b (sa.map rS)
 sp:∀q∈sa,H q.2.2.2.1=some (LT t (q.2.2.2.2.map V.str))
 ht:RowsB t H c (st.map rT)
 hb:H d=some (LT t (Q0 ba))
 pb:∀q∈ba,K7 H q
theorem WRows.b{H:Hp}{a b c d:Addr}{pe:List PEr}{sa:List SAr}{st:List STr}{ba:List PA2}(h:WRows H a b c d pe sa st ba):WRowsB true H a b c d pe sa st ba:=⟨⟨h.hp.at_,h.hp.row⟩,⟨h.hs.at_,h.hs.row⟩,h.sp,⟨h.ht.at_,h.ht.row⟩,h.hb,h.pb⟩
section
variable{t:Bool}{H H':Hp}{a b c d p:Addr}{pe:List PEr}{sa:List SAr}{st:List STr}{ba:List PA2}
theorem WRowsB.same(h:WRowsB t H a b c d pe sa st ba)(s:Same H H'):WRowsB t H' a b c d pe sa st ba :=
 ⟨h.hp.same s,h.hs.same s,fun q hq=>s _ _ (h.sp q hq),h.ht.same s,s _ _ h.hb,U8 s h.pb⟩
theorem WRowsB.keepO{o0:HO}(h:WRowsB t H a b c d pe sa st ba)(ho:∀xs,o0≠ .lst xs/\o0≠ .tup xs)(kk:∀{z:Addr} {o:HO},H z=some o->o≠o0->H' z=some o):WRowsB t H' a b c d pe sa st ba :=
 ⟨⟨kk h.hp.at_ (Fa ho),fun q hq=>kk (h.hp.row q hq) fun z=>(ho _).2 z.symm⟩,⟨kk h.hs.at_ (Fa ho),fun q hq=>kk (h.hs.row q hq) fun z=>(ho _).2 z.symm⟩,fun q hq=>kk (h.sp q hq) (Fa ho),⟨kk h.ht.at_ (Fa ho),fun q hq=>kk (h.ht.row q hq) fun z=>(ho _).2 z.symm⟩,kk h.hb (Fa ho),fun q hq=>kk (h.pb q hq) fun z=>(ho _).2 z.symm⟩
theorem WRowsB.keep{ls:List (Pos×Str)}(h:WRowsB t H a b c d pe sa st ba)(tb:F6 H p ls)(k:∀z o,H z=some o->z≠p->H' z=some o):WRowsB t H' a b c d pe sa st ba:=by
 obtain⟨ps,e,_⟩:=tb;exact h.keepO (o0:=.tbl ps) (fun xs=>⟨(by intro z;cases z),(by intro z;cases z)⟩) fun hz n=>k _ _ hz fun y=>by rw[y,e]at hz;cases hz;exact n rfl
theorem WRowsB.keepX{x C dx:Addr}{fs:List (Str×V)}(h:WRowsB t H a b c d pe sa st ba)(hx:H x=some (.ins C dx fs))(k:Sm [x] H H'):WRowsB t H' a b c d pe sa st ba :=
 h.keepO (o0:=.ins C dx fs) (fun xs=>⟨(by intro z;cases z),(by intro z;cases z)⟩) fun hz n=>k _ _ hz fun y=>by rw[AC.mp y,hx]at hz;cases hz;exact n rfl
theorem U3{α:Type}{r:α->RW}{xs:List α}{i:Nat}{G:Hp}{l:Addr}(h:∀q∈xs.map r,Ad H q)(s:Same H G)(el:G l=some (LT t (((xs.map fun x=>(r x).1).take i).map V.ref))):RowsB t G l ((xs.take i).map r):=by
 refine⟨?_,fun q hq=>s _ _ (h q ?_)⟩
 .rw[el,<-BZ,AZ,AZ];rfl
 .obtain⟨x,hx,rfl⟩:=BB.mp hq;exact BB.mpr ⟨x,BH hx,rfl⟩
end
section
variable{P:Program}{w:World}{K:PySem.W.Frag}{mg:Str->Option Value}{base:Heap}
def By(f c:Addr)(q:Str)(ar:Arguments)(bd:Expr)(sco:Scope)(cl:List (Str×Addr))(g:V->V->Hp->VK->Prop):Sp:=fun vs H Q _=>∃u v,vs = [u,v]/\H f=some (LamO f c q ar bd sco cl)/\H c=some (CodeO c q)/\g u v H Q
theorem p4{f c:Addr}{q:Str}{ar:Arguments}{bd:Expr}{sco:Scope}{cl:List (Str×Addr)}{fr:List Str}{gs:List V}{k:Nat}{g:V->V->Hp->VK->Prop}(S:LamScope ("ahead" :: "row" :: fr) ["ahead", "row"] fr sco)(C:ClosV base cl fr gs)
  (hbody:∀(A:Around) (outer:List Env) (s:Shared) (H:Hp) (u v:V) (Q:VK),Room k (A.deeper (PySem.W.envX q sco s.heap.objs.size f (.ref c) cl))->g u v H Q ->
   ∃t,PE (Ej P w K mg base ("ahead" :: "row" :: fr) q sco f (.ref c) cl A outer s H) bd t/\t (some u::some v::gs.map some) H Q) :
  FnOk P w K mg base CX0 (k+1) f (PySem.W.kla_fn "<lambda>" q ar bd sco cl .none (.ref c) .none) ["ahead", "row"] (By f c q ar bd sco cl g):=by
 refine Lk S C (fun vs H Q E h=>?_) (fun vs H Q E h=>?_) fun A outer s H vs Q E hr h=>?_
 .obtain⟨u,v,rfl,_⟩:=h;rfl
 .obtain⟨u,v,rfl,h1,h2,_⟩:=h;exact⟨h1,h2⟩
 .obtain⟨u,v,rfl,_,_,h⟩:=h;exact hbody A outer s H u v Q hr h
theorem K8:FnScope ["self", "people", "sayings", "strikes", "backs", "goals"] ["self", "people", "sayings", "strikes", "backs"] (B6 s_Weave___init__):=fsc
def t5(C pt:Addr):Sp:=fun vs H Q _=>∃(t:Bool) (x dx a b c d:Addr) (pe:List PEr) (sa:List SAr) (st:List STr) (ba:List PA2),vs = [.ref x,.ref a,.ref b,.ref c,.ref d]/\H x=some (.ins C dx [])/\WRowsB t H a b c d pe sa st ba/\WOk pe sa st ba/\F6 H pt E9 /\
 ∀(sa':List SAr) H',Sm [x,pt] H H'->F6 H' pt E9->sa'.map dS=sa.map dS->WeaveNew C H H' x pe sa' st ba->Q .non H'
set_option maxHeartbeats 8000000 in
theorem S5(T:Tx K mg)(hB:base.BuiltinsAt mg T.ab):FnOk P w K mg base CX0 6 T.aY T.aX ["self", "people", "sayings", "strikes", "backs"] (t5 T.aa T.ab):=by
 have G_begins_of:=u0 (P:=P) (w:=w) (base:=base) T;have sc:=K8;refine T.aZ.okC K8 (fun vs H Q E h=>?_) (fun cdv A outer s H vs Q E hcd hr h=>?_)
 .obtain⟨t,x,dx,a,b,c,d,pe,sa,st,ba,rfl,_⟩:=h;rfl
 .obtain⟨t,x,dx,a,b,c,d,pe,sa,st,ba,rfl,hx,hW,ok,hT,q⟩:=h;have hu:=Oj hr;refine⟨_,(B3 (E3 (Ce (k:=5) (fun _=>rfl) T.al (Rm hr) (A6 D0 (A6 (pv 1) (A6 (Mi T.ai.m) A8)))))
   (B3 (E3 (Ce (k:=5) (fun _=>rfl) T.al (Rm hr) (A6 D0 (A6 (pv 2) (A6 (Ec (ls:=E9) T.aN hB (hcd.symm.trans T.aV) rfl rfl (by show ∀x:Str×NameKind,x∈_->x.2=NameKind.free->(B6 s_Weave___init__).names.lookup x.1=some NameKind.cell;decide +kernel) (by first | exact .head _ | exact .tail _ (.head _) | exact .tail _ (.tail _ (.head _))) (by decide +kernel)) A8)))))
   (B3 (C5 (i:=5) sc.nd rfl (.inr rfl) (C2 T.aI G_begins_of (Rm hr) (A6 (pv 3) A8)))
   (B3 (E3 (Ce (k:=5) (fun _=>rfl) T.al (Rm hr) (A6 D0 (A6 (pv 3) (A6 (Ec (ls:=E9) T.aN hB (hcd.symm.trans T.aV) rfl rfl (by show ∀x:Str×NameKind,x∈_->x.2=NameKind.free->(B6 s_Weave___init__).names.lookup x.1=some NameKind.cell;decide +kernel) (by first | exact .head _ | exact .tail _ (.head _) | exact .tail _ (.tail _ (.head _))) (by decide +kernel)) A8)))))
   (B3 (E3 (Ce (k:=5) (fun _=>rfl) T.al (Rm hr) (A6 D0 (A6 (pv 4) (A6 (Ec (ls:=E9) T.aN hB (hcd.symm.trans T.aV) rfl rfl (by show ∀x:Str×NameKind,x∈_->x.2=NameKind.free->(B6 s_Weave___init__).names.lookup x.1=some NameKind.cell;decide +kernel) (by first | exact .head _ | exact .tail _ (.head _) | exact .tail _ (.tail _ (.head _))) (by decide +kernel)) A8)))))
   (B3 (psF K (pv 0) (P1 (K4 K) T.af E6 (A6 (pv 1) A8)))
   (B3 (psF K (pv 0) (U5 (N':=["name", "kind", "speakers"]) (cap:=[none,none,none]) (cl:=[]) (O6 trivial trivial) rfl (piS K (pv 2)) (fun _ _ _ _=>by exact⟨(pgT K (n:=3) (O4 (pgC 0) (O4 (pgC 1) (O4 (pgC 2) Ba)))),E1,(J4 (A6 (pv 0) (A6 (pv 1) (A6 (P1 (K4 K) T.af E6 (A6 (pv 2) A8)) A8))))⟩)))
   (B3 (psF K (pv 0) (P1 (K4 K) T.af E6 (A6 (pv 3) A8)))
   (B7 (psF K (pv 0) (P1 (K4 K) T.af E6 (A6 (pv 4) A8)))))))))))),?_⟩
  obtain⟨lp,lsa,lst,lba⟩:=ok.len;refine B9 fun N1 hN1=>?_;have hWp:=hW.hp.at_;rw[Bl]at hWp;refine ex1 rfl fun base' cells kin=>⟨Y9 base' T.ai.f Cq,(J1 T (g6 T) T.ai.b).mono (by decide),t, "people",a,_,rfl,hWp,by rw[AA];omega,FnHere.def T.ai.F kin,fun i z hz G l Q' sG el hQ=>?_,fun H1 s1=>?_⟩
  .rw[AH]at hz;obtain⟨p,hp,rfl⟩:=AU.mp hz;have mp:=AN hp;obtain⟨p1,p2,p3⟩:=ok.pm p mp;refine⟨t,l,p.1,_,p.2.1,p.2.2,rfl,U3 hW.hp.row sG el,by rw[AA,AV];omega,sG _ _ (hW.hp.row (rP p) (BB.mpr ⟨p,mp,rfl⟩)),p1,fun y=>?_,p2,p3,hQ⟩;rw[Mv]at y;unfold nP at y;rw[BZ]at y;exact P9 ok.pn (by unfold nP;rw[AH,hp];rfl) y
  refine hN1 _ _ (B9 fun N2 hN2=>?_);have W1:=hW.same s1;have T1:=C4 hT s1;refine ex1 rfl ⟨T1,fun f cc H2 hf T2 hc2 hf2 nfp k2=>?_⟩;have W2:WRowsB t H2 a b c d pe sa st ba:=W1.keep T1 k2;have hWs:=W2.hs.at_;rw[Bl]at hWs;refine fun base' cells kin=>⟨Y9 base' f (By f cc _ _ _ _ _ fun u v H Q=>Ch [.ref a,u,v] H Q E0),?F,t, "sayings",b,_,rfl,hWs,by rw[AA];omega,FnHere.lam hf2,fun i z hz G l Q' sG el hQ=>⟨_,_,rfl,sG _ _ hf2,sG _ _ hc2,?_⟩,fun H3 s3=>?_⟩
  case F =>
   refine J1 (k:=4) T (p4 (fr:=["people"]) (gs:=[.ref a]) ⟨rfl,rfl,rfl,rfl,by decide +kernel,by decide +kernel,by decide +kernel,by decide +kernel,by decide +kernel⟩ (cells.clos (by decide +kernel) (by decide +kernel) (by show ∀x∈_,(B6 s_Weave___init__).names.lookup x=some NameKind.cell;decide +kernel) rfl fun i x v h1 h2=>?_) fun A outer s H u v Q hr h=>⟨_,C2 T.ax (Z6 T) (Rm hr) (A6 (pv 2) (A6 (pv 0) (A6 (pv 1) A8))),ex1 rfl (ex1 rfl (ex1 rfl h))⟩) (Binds.all fun us hl=>by match us,hl with | [_,_],_=>rfl)
   match i,h1,h2 with
   | 0,h1,h2=>cases h1;cases h2;exact⟨1,rfl,rfl⟩
   | n+1,h1,_=>cases h1
  .rw[AH]at hz;obtain⟨p,hp,rfl⟩:=AU.mp hz;have mp:=AN hp;obtain⟨sk1,sk2,sk3⟩:=ok.sk p mp;have hp':(nS sa)[i]?=some p.2.1:=by unfold nS;rw[AH,hp];rfl
   refine⟨t,a,l,p.1,p.2.2.2.1,_,_,p.2.1,p.2.2.1,p.2.2.2.2,rfl,W2.hp.same sG,by rw[AA];omega,U3 W2.hs.row sG el,by rw[AA,AV];omega,sG _ _ (W2.hs.row (rS p) (BB.mpr ⟨p,mp,rfl⟩)),sG _ _ (W2.sp p mp),ok.nm _ (BT _ (AN hp')),fun y=>?_,ok.kd p mp,fun y hy=>by rw[Mv];exact sk1 y hy,sk2,sk3,hQ⟩;rw[Dq]at y;unfold nS at y;rw[BZ]at y;exact P9 (C_.mp ok.sn).1 hp' y
  refine hN2 _ _ (B9 fun N3 hN3=>?_);have W3:=W2.same s3;have T3:=C4 T2 s3;have k3:∀z o,H z=some o->z≠T.ab->H3 z=some o:=fun z o e n=>s3 _ _ (k2 z o (s1 _ _ e) n);clear hc2 hf2 W2 W1 T1 T2 k2 s1 s3 hWs hWp;refine ex1 rfl ⟨t,c,_,rfl,W3.ht,by rw[AA];omega,fun gg H4 s4 hgg egg=>?_⟩;rw[Nk]at egg;refine hN3 _ _ (B9 fun N4 hN4=>?_);have W4:=W3.same s4;have T4:=C4 T3 s4;refine ex1 rfl ⟨T4,fun f2 cc2 H5 hf T5 hc5 hf5 nfp k5=>?_⟩;have W5:WRowsB t H5 a b c d pe sa st ba:=W4.keep T4 k5;have egg:H5 gg=some (.lst ((nT st).map V.str)):=k5 _ _ egg fun y=>by
   obtain⟨ps,e,_⟩:=T4;rw[y,e]at egg;cases egg
  have hWt:=W5.ht.at_;rw[Bl]at hWt;refine fun base' cells kin=>⟨Y9 base' f2 (By f2 cc2 _ _ _ _ _ fun u v H Q=>Bs [.ref b,.ref gg,u,v] H Q E0),?F2,t, "strikes",c,_,rfl,hWt,by rw[AA];omega,FnHere.lam hf5,fun i z hz G l Q' sG el hQ=>⟨_,_,rfl,sG _ _ hf5,sG _ _ hc5,?_⟩,fun H6 s6=>?_⟩
  case F2 =>
   refine J1 (k:=4) T (p4 (fr:=["sayings", "goals"]) (gs:=[.ref b,.ref gg]) ⟨rfl,rfl,rfl,rfl,by decide +kernel,by decide +kernel,by decide +kernel,by decide +kernel,by decide +kernel⟩ (cells.clos (by decide +kernel) (by decide +kernel) (by show ∀x∈_,(B6 s_Weave___init__).names.lookup x=some NameKind.cell;decide +kernel) rfl fun i x v h1 h2=>?_) fun A outer s H u v Q hr h=>⟨_,C2 T.ay (a6 T) (Rm hr) (A6 (pv 2) (A6 (pv 3) (A6 (pv 0) (A6 (pv 1) A8)))),ex1 rfl (ex1 rfl (ex1 rfl (ex1 rfl h)))⟩) (Binds.all fun us hl=>by match us,hl with | [_,_],_=>rfl)
   match i,h1,h2 with
   | 0,h1,h2=>cases h1;cases h2;exact⟨2,rfl,rfl⟩
   | 1,h1,h2=>cases h1;cases h2;exact⟨5,rfl,rfl⟩
   | n+2,h1,_=>cases h1
  .rw[AH]at hz;obtain⟨p,hp,rfl⟩:=AU.mp hz;have mp:=AN hp;obtain⟨t1,t2⟩:=ok.tg p mp;have hp':(nT st)[i]?=some p.2.1:=by unfold nT;rw[AH,hp];rfl
   have mt:=AN hp';obtain⟨_,ndt,dis⟩:=C_.mp ok.sn;refine⟨t,b,gg,l,p.1,_,_,nT st,p.2.1,p.2.2.1,p.2.2.2,rfl,W5.hs.same sG,by rw[AA];omega,sG _ _ egg,U3 W5.ht.row sG el,by rw[AA,AV];omega,sG _ _ (W5.ht.row (rT p) (BB.mpr ⟨p,mp,rfl⟩)),ok.nm _ (BE _ mt),fun y=>?_,fun y=>?_,by rw[Dq];exact t1,by rw[Dq];exact t2,hQ⟩
   .rw[Dq]at y;exact dis _ y _ mt rfl
   .rw[Nk]at y;unfold nT at y;rw[BZ]at y;exact P9 ndt hp' y
  refine hN4 _ _ (B9 fun N5 hN5=>?_);have W6:=W5.same s6;have T6:=C4 T5 s6;have k6:∀z o,H z=some o->z≠T.ab->H6 z=some o:=fun z o e n=>s6 _ _ (k5 z o (s4 _ _ (k3 z o e n)) n);clear hc5 hf5 W5 W4 T4 T5 k5 s4 s6 hWt W3 T3 k3 egg;refine ex1 rfl ⟨T6,fun f3 cc3 H7 hf T7 hc7 hf7 nfp k7=>?_⟩;have W7:WRowsB t H7 a b c d pe sa st ba:=W6.keep T6 k7;refine fun base' cells kin=>⟨Y9 base' f3 (By f3 cc3 _ _ _ _ _ fun u v H Q=>Cd [.ref b,u,v] H Q E0),?F3,t, "backs",d,ba.map fun q=>q.1,rfl,by rw[W7.hb];unfold Q0;rw[AZ];rfl,by rw[AA];omega,FnHere.lam hf7,fun i z hz G l Q' sG el hQ=>⟨_,_,rfl,sG _ _ hf7,sG _ _ hc7,?_⟩,fun H8 s8=>?_⟩
  case F3 =>
   refine J1 (k:=4) T (p4 (fr:=["sayings"]) (gs:=[.ref b]) ⟨rfl,rfl,rfl,rfl,by decide +kernel,by decide +kernel,by decide +kernel,by decide +kernel,by decide +kernel⟩ (cells.clos (by decide +kernel) (by decide +kernel) (by show ∀x∈_,(B6 s_Weave___init__).names.lookup x=some NameKind.cell;decide +kernel) rfl fun i x v h1 h2=>?_) fun A outer s H u v Q hr h=>⟨_,C2 T.aF (p7 T) (Rm hr) (A6 (pv 2) (A6 (pv 0) (A6 (pv 1) A8))),ex1 rfl (ex1 rfl (ex1 rfl h))⟩) (Binds.all fun us hl=>by match us,hl with | [_,_],_=>rfl)
   match i,h1,h2 with
   | 0,h1,h2=>cases h1;cases h2;exact⟨2,rfl,rfl⟩
   | n+1,h1,_=>cases h1
  .rw[AH]at hz;obtain⟨p,hp,rfl⟩:=AU.mp hz;have mp:=AN hp;obtain⟨b1,b2,b3⟩:=ok.bk p mp;have nmb:∀x∈nS sa,C9 x=true:=fun x hx=>ok.nm x (BT _ hx);have tk:∀q∈ba.take i,q∈ba:=fun q hq=>BH hq;refine⟨t,b,l,p.1,_,ba.take i,p.2.1,p.2.2,rfl,W7.hs.same sG,by rw[AA];omega,by rw[el,<-BZ,AZ];rfl,fun q hq=>sG _ _ (W7.pb q (tk q hq)),fun q hq=>⟨nmb _ (ok.bk q (tk q hq)).1,nmb _ (ok.bk q (tk q hq)).2.1⟩,sG _ _ (W7.pb p mp),nmb _ b1,nmb _ b2,fun y=>?_,by rw[Dq];exact b1,by rw[Dq];exact b2,b3,hQ⟩;rw[BZ]at y;exact P9 ok.bn (by rw[AH,hp];rfl) y
  refine hN5 _ _ (B9 fun N6 hN6=>?_);have W8:=W7.same s8;have T8:=C4 T7 s8;have k8:∀z o,H z=some o->z≠T.ab->H8 z=some o:=fun z o e n=>s8 _ _ (k7 z o (k6 z o e n) n);clear hc7 hf7 W7 W6 T6 T7 k7 s8 k6;have xp:x≠T.ab:=fun y=>by
   obtain⟨ps,e,_⟩:=hT;rw[<-y,hx]at e;cases e
  have x8:=k8 _ _ hx xp;have new8:∀{z:Addr},H8 z=none->H z=none:=fun{z} h=>by
   cases y:H z with
   | none=>rfl
   | some o =>
    have ne:z≠T.ab:=fun e=>by
     obtain⟨ps,e8,_⟩:=T8;rw[e,e8]at h;cases h
    rw[k8 z o y ne]at h;cases h
  refine ex1 rfl ⟨a,_,rfl,M0 W8.hp.at_,fun l1 hl1=>?_⟩;have nx1:x≠l1:=A9 x8 hl1;refine ex1 rfl ⟨x,T.aa,dx,[],rfl,by rw[B4 nx1];exact x8,T.ag,T.aS,by decide,?_⟩;have nin:∀{b:Addr},b≠x->b∉[x]:=fun h z=>h (AC.mp z);have k9:Sm [x] H8 (upd (upd H8 l1 (.lst ((pe.map rP).map fun q=>V.ref q.1))) x (.ins T.aa dx (O5 "people" (.ref l1) []))):=(Sm.new (Sm.refl _ _) hl1).upd (by simp);have e9:(upd (upd H8 l1 (.lst ((pe.map rP).map fun q=>V.ref q.1))) x (.ins T.aa dx (O5 "people" (.ref l1) []))) l1=some (.lst ((pe.map rP).map fun q=>V.ref q.1)):=by rw[B4 nx1.symm,A7]
  have x9:(upd (upd H8 l1 (.lst ((pe.map rP).map fun q=>V.ref q.1))) x (.ins T.aa dx (O5 "people" (.ref l1) []))) x=some (.ins T.aa dx [("people",.ref l1)]):=by rw[A7];rfl
  refine hN6 _ _ ?_;show Nr _ _ _ _ (upd (upd H8 l1 (.lst ((pe.map rP).map fun q=>V.ref q.1))) x (.ins T.aa dx (O5 "people" (.ref l1) [])));generalize upd (upd H8 l1 (.lst ((pe.map rP).map fun q=>V.ref q.1))) x (.ins T.aa dx (O5 "people" (.ref l1) []))=H9 at k9 e9 x9⊢;have W9:=W8.keepX x8 k9;have T9:=X5 T8 x8 k9;refine B9 fun N7 hN7=>?_;dsimp only[Nu];refine Y0 rfl (M0 W9.hs.at_) fun J as9 D hD=>?_;refine f8 as9 (fun i σ G=>(∃v0 v1 v2,σ = [v0,v1,v2])/\Same H9 G/\∃sa':List SAr,RowsAt G D (sa'.map rS)/\(∀q∈sa',q.2.2.2.1≠D/\G q.2.2.2.1=some (.lst (q.2.2.2.2.map V.str))/\H9 q.2.2.2.1=none)/\sa'.map dS =(sa.take i).map dS)
   ⟨⟨_,_,_,rfl⟩,Same.new hD,[],⟨A7,fun q h=>absurd h AI⟩,fun q h=>absurd h AI,rfl⟩ (fun i σ G _ ⟨_,s1,_⟩=>s1.at b) ?_ ?_
  .rintro i σ G v N hv ⟨⟨v0,v1,v2,rfl⟩,sG,sa',RG,spG,dG⟩ hN;rw[AZ,AH]at hv;obtain⟨p,hp,rfl⟩:=AU.mp hv;have mp:=AN hp;have li:=(AM.mp hp).1;have lsa':=congrArg List.length dG;rw[AA,AA,AV]at lsa';have ep:=sG _ _ (W9.hs.row (rS p) (BB.mpr ⟨p,mp,rfl⟩));have es:=sG _ _ (W9.sp p mp);refine⟨p.1,ex1 rfl ⟨SqT.of ep,rfl,_,ex1 rfl ⟨_,ex1 rfl (B8 rfl rfl ?_)⟩⟩⟩;dsimp only[Kb];refine X2 ?_;refine ex1 rfl (ex1 rfl (ex1 rfl ⟨p.2.2.2.1,_,rfl,M0 es,fun l hl=>⟨by show 3<=sizeLine;decide,fun tt ht=>?_⟩⟩));have ul:=Same.new (o:=.lst (p.2.2.2.2.map V.str)) hl;have nlD:l≠D:=(A9 RG.at_ hl).symm;have ntD:tt≠D:=(A9 (ul _ _ RG.at_) ht).symm;have ntl:l≠tt:=A9 A7 ht;have el:(upd (upd G l (.lst (p.2.2.2.2.map V.str))) tt (.tup [.str (rS p).2.1,.str p.2.2.1,.ref l])) l=some (.lst (p.2.2.2.2.map V.str)):=by rw[B4 ntl,A7]
   have et:(upd (upd G l (.lst (p.2.2.2.2.map V.str))) tt (.tup [.str (rS p).2.1,.str p.2.2.1,.ref l])) tt=some (.tup [.str (rS p).2.1,.str p.2.2.1,.ref l]):=A7;have ut:=ul.trans (Same.new (o:=.tup [.str (rS p).2.1,.str p.2.2.1,.ref l]) ht);generalize upd (upd G l (.lst (p.2.2.2.2.map V.str))) tt (.tup [.str (rS p).2.1,.str p.2.2.1,.ref l])=G2 at el et ut⊢;have RG2:=RG.same ut;refine⟨_,RG2.at_,by rw[AA,AA,sizeLine_eq];omega,hN _ _ ⟨⟨_,_,_,rfl⟩,(sG.trans ut).upd hD,sa' ++ [(tt,p.2.1,p.2.2.1,l,p.2.2.2.2)],⟨by rw[A7,AL,AL];rfl,fun z hz=>?_⟩,fun z hz=>?_,by rw[AL,dG,J5 hp,AL];rfl⟩⟩
   .rw[AL]at hz;rcases A_.mp hz with y | y
    .exact(B4 (O7 (RG2.row z y) RG2.at_ (by intro z;cases z))).trans (RG2.row z y)
    .rw[AC.mp y];exact(B4 ntD).trans et
   .rcases A_.mp hz with y | y
    .exact⟨(spG z y).1,(B4 (spG z y).1).trans (ut _ _ (spG z y).2.1),(spG z y).2.2⟩
    .rw[AC.mp y];exact⟨nlD,(B4 nlD).trans el,none_of sG.sm AI hl⟩
  .rintro σ G ⟨_,sG,sa',RG,spG,dG⟩;rw[AA,AA,CB]at dG;have x10:=sG _ _ x9;refine ex1 rfl ⟨x,T.aa,dx,_,rfl,x10,T.ag,T.as,by simp,?_⟩;have k11:Sm [x] G (upd G x (.ins T.aa dx (O5 "sayings" (.ref D) [("people",.ref l1)]))):=(Sm.refl _ _).upd (by simp);have x11:(upd G x (.ins T.aa dx (O5 "sayings" (.ref D) [("people",.ref l1)]))) x=some (.ins T.aa dx [("people",.ref l1),("sayings",.ref D)]):=by rw[A7];rfl
   have W11:=(W9.same sG).keepX x10 k11;have T11:=X5 (C4 T9 sG) x10 k11;have kx:∀{z:Addr} {o:HO},G z=some o->z≠x->(upd G x (.ins T.aa dx (O5 "sayings" (.ref D) [("people",.ref l1)]))) z=some o:=fun e n=>(B4 n).trans e;have nxl:∀{z:Addr} {xs:List V},G z=some (.lst xs)->z≠x:=fun e=>O7 e x10 (by intro z;cases z);have nxt:∀{z:Addr} {xs:List V},G z=some (.tup xs)->z≠x:=fun e=>O7 e x10 (by intro z;cases z);have p11:=kx (sG _ _ e9) (nxl (sG _ _ e9));have R11:RowsAt (upd G x (.ins T.aa dx (O5 "sayings" (.ref D) [("people",.ref l1)]))) D (sa'.map rS):=⟨kx RG.at_ (nxl RG.at_),fun q hq=>kx (RG.row q hq) (nxt (RG.row q hq))⟩;have S11:∀q∈sa',(upd G x (.ins T.aa dx (O5 "sayings" (.ref D) [("people",.ref l1)]))) q.2.2.2.1=some (.lst (q.2.2.2.2.map V.str)):=fun q hq=>kx (spG q hq).2.1 (nxl (spG q hq).2.1);have m11:Sm [x] H8 (upd G x (.ins T.aa dx (O5 "sayings" (.ref D) [("people",.ref l1)]))):=(k9.trans sG.sm).trans k11;refine hN7 _ _ ?_;generalize upd G x (.ins T.aa dx (O5 "sayings" (.ref D) [("people",.ref l1)]))=H11 at x11 W11 T11 p11 R11 S11 m11⊢;have n9:∀{z:Addr},H9 z=none->H z=none:=fun{z} h=>new8 (none_of k9 (fun y=>by rw[AC.mp y,x9]at h;cases h) h);have nD:=n9 hD;have nS':∀q∈sa',H q.2.2.2.1=none:=fun q hq=>n9 (spG q hq).2.2;clear kx nxl nxt k11 W9 T9 RG spG x10 sG hD k9 e9 n9;refine B9 fun N8 hN8=>?_;refine ex1 rfl ⟨c,_,rfl,M0 W11.ht.at_,fun l2 hl2=>?_⟩;have nx2:x≠l2:=A9 x11 hl2;have nl2:=new8 (none_of m11 (fun y=>nx2 (AC.mp y).symm) hl2);refine ex1 rfl ⟨x,T.aa,dx,_,rfl,by rw[B4 nx2];exact x11,T.ag,T.aE,by simp,?_⟩;have k12:Sm [x] H11 (upd (upd H11 l2 (.lst ((st.map rT).map fun q=>V.ref q.1))) x (.ins T.aa dx (O5 "strikes" (.ref l2) [("people",.ref l1),("sayings",.ref D)]))):=(Sm.new (Sm.refl _ _) hl2).upd (by simp);have e12:(upd (upd H11 l2 (.lst ((st.map rT).map fun q=>V.ref q.1))) x (.ins T.aa dx (O5 "strikes" (.ref l2) [("people",.ref l1),("sayings",.ref D)]))) l2=some (.lst ((st.map rT).map fun q=>V.ref q.1)):=by rw[B4 nx2.symm,A7]
   have x12:(upd (upd H11 l2 (.lst ((st.map rT).map fun q=>V.ref q.1))) x (.ins T.aa dx (O5 "strikes" (.ref l2) [("people",.ref l1),("sayings",.ref D)]))) x=some (.ins T.aa dx [("people",.ref l1),("sayings",.ref D),("strikes",.ref l2)]):=by rw[A7];rfl
   refine hN8 _ _ ?_;show Nu _ _ _ _ _ _ (upd (upd H11 l2 (.lst ((st.map rT).map fun q=>V.ref q.1))) x (.ins T.aa dx (O5 "strikes" (.ref l2) [("people",.ref l1),("sayings",.ref D)])));generalize upd (upd H11 l2 (.lst ((st.map rT).map fun q=>V.ref q.1))) x (.ins T.aa dx (O5 "strikes" (.ref l2) [("people",.ref l1),("sayings",.ref D)]))=H12 at k12 e12 x12⊢;have W12:=W11.keepX x11 k12;have T12:=X5 T11 x11 k12;have kx:∀{z:Addr} {o:HO},H11 z=some o->z≠x->H12 z=some o:=fun e n=>k12 _ _ e (nin n);have nxl:∀{z:Addr} {xs:List V},H11 z=some (.lst xs)->z≠x:=fun e=>O7 e x11 (by intro z;cases z);have nxt:∀{z:Addr} {xs:List V},H11 z=some (.tup xs)->z≠x:=fun e=>O7 e x11 (by intro z;cases z);have p12:=kx p11 (nxl p11);have R12:RowsAt H12 D (sa'.map rS):=⟨kx R11.at_ (nxl R11.at_),fun q hq=>kx (R11.row q hq) (nxt (R11.row q hq))⟩;have S12:∀q∈sa',H12 q.2.2.2.1=some (.lst (q.2.2.2.2.map V.str)):=fun q hq=>kx (S11 q hq) (nxl (S11 q hq));have m12:=m11.trans k12;clear kx nxl nxt p11 R11 S11 W11 T11 k12 m11 x11;refine ex1 rfl ⟨d,_,rfl,M0 W12.hb,fun l3 hl3=>?_⟩;have nx3:x≠l3:=A9 x12 hl3;have nl3:=new8 (none_of m12 (fun y=>nx3 (AC.mp y).symm) hl3);refine ex1 rfl ⟨x,T.aa,dx,_,rfl,by rw[B4 nx3];exact x12,T.ag,T.aK,by simp,?_⟩;have k13:Sm [x] H12 (upd (upd H12 l3 (.lst (Q0 ba))) x (.ins T.aa dx (O5 "backs" (.ref l3) [("people",.ref l1),("sayings",.ref D),("strikes",.ref l2)]))):=(Sm.new (Sm.refl _ _) hl3).upd (by simp);have e13:(upd (upd H12 l3 (.lst (Q0 ba))) x (.ins T.aa dx (O5 "backs" (.ref l3) [("people",.ref l1),("sayings",.ref D),("strikes",.ref l2)]))) l3=some (.lst (Q0 ba)):=by rw[B4 nx3.symm,A7]
   have x13:(upd (upd H12 l3 (.lst (Q0 ba))) x (.ins T.aa dx (O5 "backs" (.ref l3) [("people",.ref l1),("sayings",.ref D),("strikes",.ref l2)]))) x=some (.ins T.aa dx (wfW l1 D l2 l3)):=by rw[A7];rfl
   show Q .non (upd (upd H12 l3 (.lst (Q0 ba))) x (.ins T.aa dx (O5 "backs" (.ref l3) [("people",.ref l1),("sayings",.ref D),("strikes",.ref l2)])));generalize upd (upd H12 l3 (.lst (Q0 ba))) x (.ins T.aa dx (O5 "backs" (.ref l3) [("people",.ref l1),("sayings",.ref D),("strikes",.ref l2)]))=H13 at k13 e13 x13⊢;have kx:∀{z:Addr} {o:HO},H12 z=some o->z≠x->H13 z=some o:=fun e n=>k13 _ _ e (nin n);have nxl:∀{z:Addr} {xs:List V},H12 z=some (.lst xs)->z≠x:=fun e=>O7 e x12 (by intro z;cases z);have nxt:∀{z:Addr} {xs:List V},H12 z=some (.tup xs)->z≠x:=fun e=>O7 e x12 (by intro z;cases z);refine q sa' H13 (fun z o e n=>?_) (X5 T12 x12 k13) dG ⟨dx,l1,D,l2,l3,x13,⟨⟨kx p12 (nxl p12),fun q hq=>kx (W12.hp.row q hq) (nxt (W12.hp.row q hq))⟩,⟨kx R12.at_ (nxl R12.at_),fun q hq=>kx (R12.row q hq) (nxt (R12.row q hq))⟩,fun q hq=>kx (S12 q hq) (nxl (S12 q hq)),⟨kx e12 (nxl e12),fun q hq=>kx (W12.ht.row q hq) (nxt (W12.ht.row q hq))⟩,e13,fun q hq=>kx (W12.pb q hq) (nxt (W12.pb q hq))⟩,new8 hl1,nD,nl2,nl3,nS'⟩;have nz:z≠x/\z≠T.ab:=by simpa using n
   exact kx (m12 _ _ (k8 z o e nz.2) (nin nz.1)) nz.1
theorem j9:FnScope ["_law_cell", "_law_k", "_law_m"] ["_law_cell", "_law_k"] (B6 s_law_mix):=fsc
def Nc:Sp:=fun vs H Q _=>∃(cell k:Int),vs = [.int cell,.int k]/\0<=k/\k<=2000000/\∀m:Int,0<=m->m<1999999973->Q (.int m) H
theorem Cz(T:Tx K mg):FnOk P w K mg base CX0 1 T.aL.f T.aL.fd ["_law_cell", "_law_k"] Nc:=by
 have sc:=j9;refine T.aL.F.ok j9 (fun vs H Q E h=>?_) (fun cdv A outer s H vs Q E hr h=>?_)
 .obtain⟨c,k,rfl,_⟩:=h;rfl
 .obtain⟨cell,k,rfl,k0,k1,q⟩:=h;refine⟨_,(B3 (C5 (i:=2) sc.nd rfl (.inl rfl) (E8 Ai (E8 j7 (E8 S0 (E8 S0 (E8 Ai (pv 0) B2) (E8 j7 (E8 j7 (pv 1) (pv 1)) B2)) B2) B2) B2))
   (B7 (C3 (E8 Ai (E8 j7 (pv 2) (pv 2)) B2)))),?_⟩
  refine ex1 rfl (B8 rfl rfl ⟨(show(0:Int)<2147483629 by decide),ex1 rfl (ex1 rfl (B8 rfl rfl ⟨.inl ⟨by omega,by omega⟩,B8 rfl rfl ⟨.inr ⟨by decide,by decide⟩,B8 rfl rfl (B8 rfl rfl (B8 rfl rfl ⟨.inr ⟨by decide,by decide⟩,B8 rfl rfl ⟨(show(0:Int)<2147483647 by decide),?_⟩⟩))⟩⟩))⟩);generalize hm:(cell % 2147483629+k*k*7919+11)*48271 % 2147483647=m;have h1:0<=m:=by rw[<-hm];exact Int.emod_nonneg _ (by decide)
  have h2:m<2147483647:=by rw[<-hm];exact DM _ (by decide)
  exact⟨_,rfl,_,rfl,_,_,rfl,rfl,.inl ⟨by omega,by omega⟩,_,_,rfl,rfl,(show(0:Int)<1999999973 by decide),q _ (Int.emod_nonneg _ (by decide)) (DM _ (by decide))⟩
def LeftAt(H:Hp)(p:Addr)(c:Int):Prop:=∃a b:Int,H p=some (.lst [.int a,.int b,.int c])/\0<=c
theorem LeftAt.isS{H:Hp}{p:Addr}{c:Int}(h:LeftAt H p c):(H p).isSome=true:=by
 obtain⟨_,_,e,_⟩:=h;rw[e];rfl
theorem LeftAt.get{H:Hp}{p:Addr}{c:Int}(h:LeftAt H p c):H p=some ((H p).get h.isS):=(Option.some_get _).symm
theorem LeftAt.cast{H:Hp}{p:Addr}{c c':Int}(h:LeftAt H p c)(e:c=c'):LeftAt H p c':=e▸h
theorem LeftAt.upd{H:Hp}{p a:Addr}{c:Int}{o:HO}(h:LeftAt H p c)(n:p≠a):LeftAt (L2.upd H a o) p c:=by
 obtain⟨x,y,e,z⟩:=h;exact⟨x,y,by rw[B4 n];exact e,z⟩
theorem LeftAt.same{H H':Hp}{p:Addr}{c:Int}(h:LeftAt H p c)(s:Same H H'):LeftAt H' p c:=by
 obtain⟨x,y,e,z⟩:=h;exact⟨x,y,s _ _ e,z⟩
theorem Pi(c:Bool):-(2^64) <(if c=true then(1:Int)else 0)/\(if c=true then(1:Int)else 0)<2^64:=by cases c<;>exact⟨by decide,by decide⟩
theorem Y6:FnScope ["_law_script", "_law_k", "_law_cell"] ["_law_script", "_law_k"] (B6 s_law_left):=fsc
def Iy(K:PySem.W.Frag):Sp:=fun vs H Q _=>∃(p:Addr) (xs:List Int) (k:Nat),vs = [.ref p,.int (k:Int)]/\SqL K H p (xs.map V.int)/\k<=1000/\∀l H',H l=none->Same H H'->LeftAt H' l 0->Q (.ref l) H'
theorem Ay(T:Tx K mg):FnOk P w K mg base CX0 1 T.aM.f T.aM.fd ["_law_script", "_law_k"] (Iy K):=by
 have sc:=Y6;refine T.aM.F.ok Y6 (fun vs H Q E h=>?_) (fun cdv A outer s H vs Q E hr h=>?_)
 .obtain⟨p,xs,k,rfl,_⟩:=h;rfl
 .obtain⟨p,xs,k,rfl,hS,hk,q⟩:=h;refine⟨_,(B3 (C5 (i:=2) sc.nd rfl (.inl rfl) (Gs (E2 Om (pv 1) (D4 (K3 K) T.ah I9 (A6 (pv 0) A8)) (D9 _)) (C1 (ixL K) (pv 0) (pv 1) (fun _ _=>rfl)) B2))
   (B7 (C3 (D8 (A6 (E8 j7 (D4 Ck T.a4 Ih (A6 (pv 2) A8)) (P1 Ey T.a0 Dw (A6 (D7 Oi (D4 Ck T.a4 Ih (A6 (pv 2) A8)) (E8 Ld B2 B2) (D9 _)) A8))) (A6 (E8 S0 (pv 2) (E8 j7 B2 (pv 1))) (A6 B2 A8))))))),?_⟩
  refine ex1 rfl (ex1 rfl (B8 (a:=p) rfl (.inl hS) (B8 rfl rfl (ex1 rfl ?_))));have at1:decide ((k:Int) <((xs.map V.int).length:Int))=true->∃c:Int,atI (xs.map V.int) (k:Int)=some (.int c):=fun c1=>by
   have c1:(k:Int) <((xs.map V.int).length:Int):=CJ c1;rw[AA]at c1;have hk':xs[k]?=some (xs[k]'(by omega)):=AR (by omega);exact⟨_,B5 (by rw[AH,hk'];rfl)⟩
  refine Au (fun c1=>?_) (fun c1=>?_)
  .obtain⟨c,hc⟩:=at1 c1;refine ex1 rfl (ex1 rfl ⟨p,_,B8 rfl rfl ⟨hS,hc,?_⟩⟩)
   (repeat first | refine⟨_,rfl,?_⟩ | refine⟨_,_,rfl,rfl,?_⟩)
   refine⟨⟨by decide,by decide,by decide⟩,?_⟩
   (repeat first | refine⟨_,rfl,?_⟩ | refine⟨_,_,rfl,rfl,?_⟩)
   refine .inr ⟨_,rfl,?_⟩
   (repeat first | refine⟨_,rfl,?_⟩ | refine⟨_,_,rfl,rfl,?_⟩)
   refine⟨.inr ?_,?_⟩
   .exact Pi _
   (repeat first | refine⟨_,rfl,?_⟩ | refine⟨_,_,rfl,rfl,?_⟩)
   refine⟨.inl ⟨by decide,by decide⟩,?_⟩
   (repeat first | refine⟨_,rfl,?_⟩ | refine⟨_,_,rfl,rfl,?_⟩)
   exact⟨by show 3<=sizeLine;decide,fun l hl=>q l _ hl (Same.new hl) ⟨_,_,A7,by decide⟩⟩
  .skip;(repeat first | refine⟨_,rfl,?_⟩ | refine⟨_,_,rfl,rfl,?_⟩)
   refine⟨⟨by decide,by decide,by decide⟩,?_⟩
   (repeat first | refine⟨_,rfl,?_⟩ | refine⟨_,_,rfl,rfl,?_⟩)
   refine .inr ⟨_,rfl,?_⟩
   (repeat first | refine⟨_,rfl,?_⟩ | refine⟨_,_,rfl,rfl,?_⟩)
   refine⟨.inr ?_,?_⟩
   .exact Pi _
   (repeat first | refine⟨_,rfl,?_⟩ | refine⟨_,_,rfl,rfl,?_⟩)
   refine⟨.inl ⟨by decide,by decide⟩,?_⟩
   (repeat first | refine⟨_,rfl,?_⟩ | refine⟨_,_,rfl,rfl,?_⟩)
   exact⟨by show 3<=sizeLine;decide,fun l hl=>q l _ hl (Same.new hl) ⟨_,_,A7,by decide⟩⟩
theorem d0:FnScope ["_law_left_here", "_law_many", "_law_digit"] ["_law_left_here", "_law_many"] (B6 s_law_pick):=fsc
def Ju:Sp:=fun vs H Q _=>∃(p:Addr) (c many:Int),vs = [.ref p,.int many]/\LeftAt H p c/\c<=1000000/\0<many/\many<=1000000 /\
 ∀(d:Nat) H',(d:Int)<many->Sm [p] H H'->LeftAt H' p (c+1)->Q (.int (d:Int)) H'
theorem E7(T:Tx K mg):FnOk P w K mg base CX0 2 T.ad.f T.ad.fd ["_law_left_here", "_law_many"] Ju:=by
 have G_law_mix:=Cz (P:=P) (w:=w) (base:=base) T;have sc:=d0;refine T.ad.F.ok d0 (fun vs H Q E h=>?_) (fun cdv A outer s H vs Q E hr h=>?_)
 .obtain⟨p,c,m,rfl,_⟩:=h;rfl
 .obtain⟨p,c,many,rfl,⟨a,b,e,c0⟩,c1,m0,m1,q⟩:=h;refine⟨_,(B3 (Ez (E8 S0 (C1 (ixL K) (pv 0) B2 (fun _ _=>rfl)) B2) (Fs (pv 0) B2 n8))
   (B3 (J2 (E2 Gq (C1 (ixL K) (pv 0) B2 (fun _ _=>rfl)) B2 (D9 _)) (B3 (C5 (i:=2) sc.nd rfl (.inl rfl) (E8 Ai (C1 (ixL K) (pv 0) B2 (fun _ _=>rfl)) (pv 1)))
   (B3 (Ez (E8 Gi (C1 (ixL K) (pv 0) B2 (fun _ _=>rfl)) (pv 1)) (Fs (pv 0) B2 n8))
   (B7 (C3 (pv 2))))) C7)
   (B7 (C3 (E8 Ai (E8 Gi (C2 T.aL G_law_mix (Rm hr) (A6 (C2 T.aL G_law_mix (Rm hr) (A6 (C1 (ixL K) (pv 0) B2 (fun _ _=>rfl)) (A6 (C1 (ixL K) (pv 0) B2 (fun _ _=>rfl)) A8))) (A6 (E8 S0 (C1 (ixL K) (pv 0) B2 (fun _ _=>rfl)) B2) A8))) B2) (pv 1)))))),?_⟩
  have nn:∀d:Int,0<=d->d<many->∀a' b',Q (.int d) (upd (upd H p (.lst [.int a,.int b,.int (c+1)])) p (.lst [.int a',.int b',.int (c+1)]))/\Q (.int d) (upd H p (.lst [.int a',.int b',.int (c+1)])):=fun d h0 h1 a' b'=>by
   obtain⟨n,rfl⟩:=Int.eq_ofNat_of_zero_le h0;exact⟨q n _ h1 (((Sm.refl _ _).upd (by simp)).upd (by simp)) ⟨a',b',A7,by omega⟩,q n _ h1 ((Sm.refl _ _).upd (by simp)) ⟨a',b',A7,by omega⟩⟩
  refine ex1 rfl ⟨p,_,B8 rfl rfl ⟨SqL.of e,rfl,B8 rfl rfl (ex1 rfl ⟨p,_,_,2,rfl,rfl,e,rfl,?_⟩)⟩⟩;refine ex1 rfl ⟨p,_,B8 rfl rfl ⟨SqL.of A7,rfl,B8 rfl rfl (ex1 rfl ?_)⟩⟩;refine Au (fun h1=>?_) (fun h1=>?_)
  .have h1:(0:Int)<a:=CJ h1;refine ex1 rfl ⟨p,_,B8 rfl rfl ⟨SqL.of A7,rfl,ex1 rfl (B8 rfl rfl ⟨m0,?_⟩)⟩⟩;refine ex1 rfl ⟨p,_,B8 rfl rfl ⟨SqL.of A7,rfl,ex1 rfl (B8 rfl rfl ⟨⟨m0,by omega⟩,ex1 rfl ⟨p,_,_,0,rfl,rfl,A7,rfl,?_⟩⟩)⟩⟩;exact⟨_,rfl,(nn _ (Int.emod_nonneg _ (by omega)) (DM _ m0) _ _).1⟩
  .refine ex1 rfl ⟨p,_,B8 rfl rfl ⟨SqL.of A7,rfl,ex1 rfl ⟨p,_,B8 rfl rfl ⟨SqL.of A7,rfl,_,ex1 rfl ⟨by omega,by omega,fun m2 h2 h3=>?_⟩⟩⟩⟩⟩;refine ex1 rfl ⟨p,_,B8 rfl rfl ⟨SqL.of A7,rfl,B8 rfl rfl ⟨_,ex1 rfl ⟨by omega,by omega,fun m3 h4 h5=>?_⟩⟩⟩⟩;refine B8 rfl rfl ⟨⟨by decide,by decide⟩,ex1 rfl (B8 rfl rfl ⟨m0,?_⟩)⟩;exact(nn _ (Int.emod_nonneg _ (by omega)) (DM _ m0) _ _).2
end
theorem six{d n:Nat}(h:d<n):seqIndex? (d:Int) n=some d:=by
 unfold seqIndex?;simp;omega
theorem erase_perm{α:Type}{l:List α}{i:Nat}{x:α}(h:l[i]?=some x):(x::l.eraseIdx i).Perm l:=ST.erase_perm h
theorem Ao{α β:Type}(f:α->β):∀(l:List α) (i:Nat),(l.map f).eraseIdx i =(l.eraseIdx i).map f
 | [],_=>rfl
 | _::_,0=>rfl
 | a::l,i+1=>by
  show f a ::(l.map f).eraseIdx i=f a ::(l.eraseIdx i).map f;rw[Ao f l i]
theorem names_of{all rest got:List Str}(pm:(rest++got).Perm all)(h1:∀x∈all,C9 x=true)(h2:all.Nodup)(h3:all.length<=100):P2 got:=by
 refine⟨fun x hx=>h1 x (pm.mem_iff.mp (BE _ hx)),?_,?_⟩
 .exact(C_.mp (pm.nodup_iff.mpr h2)).2.1
 .have:=pm.length_eq;rw[BA]at this;omega
theorem Hy{all rest got:List Str}{d:Nat}{x:Str}(pm:(rest++got).Perm all)(h:rest[d]?=some x):(rest.eraseIdx d ++(got ++ [x])).Perm all:=by
 refine List.Perm.trans ?_ pm;rw[<-DU];refine List.perm_append_comm.trans ?_;rw[<-DU];exact(erase_perm h).append_right got
theorem Sm1{p b:Addr}{H H':Hp}{o:HO}(h:Sm [p] H H')(e:H b=some o)(n:b≠p):H' b=some o:=h b o e fun z=>n (AC.mp z)
theorem Bo(l:List Str):∀acc:Array Nat,(List.foldl (fun acc (p:Str)=>acc ++("":Str).cps++p.cps) acc l).toList=acc.toList++l.flatMap fun y=>y.cps.toList:=by
 induction l with
 | nil=>intro acc;simp
 | cons y r ih =>
  intro acc;rw[List.foldl_cons,ih,List.flatMap_cons,<-DU];have e:("":Str).cps = #[]:=rfl;rw[e,Array.append_empty,Array.toList_append]
theorem y0(cs:List Nat):(Txt.join "" (cs.map fun c=>(⟨#[c]⟩:Str))).cps.toList=cs:=by
 unfold Txt.join Builtin.Str.glued;cases cs with
 | nil=>rfl
 | cons c r =>
  rw[BR,List.drop_succ_cons,List.drop_zero];refine(Bo _ _).trans ?_;have e:∀r:List Nat,((r.map fun c=>(⟨#[c]⟩:Str)).flatMap fun y=>y.cps.toList)=r:=fun r=>by
   induction r with
   | nil=>rfl
   | cons a t ih=>rw[BR,List.flatMap_cons,ih];rfl
  rw[e];rfl
theorem Ft{cs:List Nat}(h:∀c∈cs,Gf c=true)(h1:1<=cs.length)(h2:cs.length<=8):C9 (Txt.join "" (cs.map fun c=>(⟨#[c]⟩:Str)))=true:=by
 have l:(Txt.join "" (cs.map fun c=>(⟨#[c]⟩:Str))).length=cs.length:=by
  unfold Str.length;rw[<-BL,y0]
 unfold C9;rw[l,y0,AQ h1,AQ h2,CA.mpr h];rfl
abbrev lets:Str := "abcdefghijklmnopqrstuvwxyz"
theorem Jo{d:Nat}(h:d<26):∃c,atI lets.cps.toList (d:Int)=some c/\Gf c=true:=by
 refine⟨97+d,B5 ?_,?_⟩
 .rw[Z1,List.getElem?_range' (by omega)];simp
 .unfold Gf;rw[AQ (by omega),AQ (by omega)];rfl
section
variable{P:Program}{w:World}{K:PySem.W.Frag}{mg:Str->Option Value}{base:Heap}
theorem P6:FnScope ["_law_left_here", "_law_letters"] ["_law_left_here"] (B6 s_law_any_name):=fsc
def Bm:Sp:=fun vs H Q _=>∃(p:Addr) (c:Int),vs = [.ref p]/\LeftAt H p c/\c<=900000/\∀x c' H',Sm [p] H H'->C9 x=true->c'<=c+9->LeftAt H' p c'->Q (.str x) H'
set_option maxHeartbeats 2000000 in
theorem Z5(T:Tx K mg):FnOk P w K mg base CX0 3 T.aB.f T.aB.fd ["_law_left_here"] Bm:=by
 have G_law_pick:=E7 (P:=P) (w:=w) (base:=base) T;have sc:=P6;refine T.aB.F.ok P6 (fun vs H Q E h=>?_) (fun cdv A outer s H vs Q E hr h=>?_)
 .obtain⟨p,c,rfl,_⟩:=h;rfl
 .obtain⟨p,c,rfl,hL,c1,q⟩:=h;refine⟨_,(B3 (C5 (i:=1) sc.nd rfl (.inr rfl) D0)
   (B7 (C3 (Bp K PySem.F.plainAttrs_str PySem.F.slot_str_join PySem.F.type_str_join (Ki K) D0 (A6 (U5 (N':=["_law_turn", "_law_letters", "_law_left_here"]) (cap:=[none,some 1,some 0]) (cl:=[("_law_letters",_),("_law_left_here",_)]) (O6 ⟨⟨rfl,rfl,rfl,rfl⟩,⟨⟨rfl,rfl,rfl,rfl⟩,trivial⟩⟩ ⟨rfl,⟨rfl,trivial⟩⟩) rfl (Hh T.ao (A6 (E8 S0 B2 (C2 T.ad G_law_pick (Rm hr) (A6 (pv 0) (A6 B2 A8)))) A8)) (fun _ _ _ _=>by exact⟨(pgC 0),E1,(C1 Nq (pv 1) (C2 T.ad G_law_pick (Rm hr) (A6 (pv 2) (A6 B2 A8))) (fun _ _=>rfl))⟩)) A8))))),?_⟩
  refine⟨rfl,?_⟩;refine ex1 rfl (J7 (a:=p) rfl hL (by omega) (by decide) (by decide) fun m H1 hm k1 L1=>B8 rfl rfl (ex1 rfl ⟨by omega,by omega,fun D hD=>?_⟩));rw[show((1:Int) +(m:Int)).toNat=1+m by omega];have npD:p≠D:=A9 L1.get hD;refine V4 (n:=1+m) (fun i σ H2=>(∃v,σ = [v,some (.str lets),some (.ref p)])/\Sm [p] H1 H2/\LeftAt H2 p (c+1+i)/\∃cs:List Nat,H2 D=some (.lst ((cs.map fun c=>(⟨#[c]⟩:Str)).map V.str))/\cs.length=i/\∀c∈cs,Gf c=true) ?_ (fun i _ _ hi _=>hi) (fun _ _ _=>AG _) ?_ ?_
  .exact⟨⟨_,rfl⟩,(Same.new hD).sm,(L1.cast (by omega)).upd npD,[],A7,rfl,fun c h=>absurd h (AI)⟩
  .rintro i σ H2 v H' N hi ⟨⟨v0,rfl⟩,k2,L2,cs,eD,hl,hc⟩ ⟨rfl,rfl⟩ hN;refine U1 ?_;refine ex1 rfl (ex1 rfl (J7 (a:=p) rfl L2 (by omega) (by decide) (by decide) fun d H3 hd k3 L3=>?_));obtain⟨a,ha,hb⟩:=Jo (d:=d) (by omega);refine⟨lets,_,a,rfl,rfl,by decide,ha,_,Sm1 k3 eD npD.symm,?_,hN _ _ ⟨⟨_,rfl⟩,(k2.trans k3).updN hD,(L3.cast (by omega)).upd npD,cs ++ [a],?_,?_,?_⟩⟩
   .rw[AA,AA,sizeLine_eq];omega
   .rw[A7,AL,AL];rfl
   .rw[BA,hl];rfl
   .intro y hy;rcases A_.mp hy with z | z
    .exact hc y z
    .rw[AC.mp z];exact hb
  .rintro σ H2 ⟨⟨v0,rfl⟩,k2,L2,cs,eD,hl,hc⟩;refine⟨"",D,_,rfl,rfl,SqL.of eD,?_,q _ _ _ (k1.trans k2) (Ft hc (by omega) (by omega)) (by omega) L2⟩;have e:((cs.map fun c=>(⟨#[c]⟩:Str)).map fun x=>x.length)=cs.map fun _=>1:=by rw[AZ];rfl
   rw[e,List.map_const',List.sum_replicate_nat,AA,show("":Str).length=0 from rfl];omega
end
theorem Et{ts:List Str}{i:Nat}{x:Str}(h:P2 ts)(hi:i<ts.length)(hx:C9 x=true)(hn:x∉ts):P2 (ts.set i x):=by
 obtain⟨h1,h2,h3⟩:=h;refine⟨fun y hy=>?_,?_,by rw[List.length_set];exact h3⟩
 .rcases List.mem_or_eq_of_mem_set hy with z | z
  .exact h1 y z
  .rw[z];exact hx
 .rw[List.set_eq_take_append_cons_drop,BI hi];refine(List.perm_middle.nodup_iff).mpr ?_;rw[<-List.eraseIdx_eq_take_drop_succ];have sb:=List.eraseIdx_sublist ts i;exact B_.mpr ⟨fun z=>hn (sb.subset z),sb.nodup h2⟩
section
variable{P:Program}{w:World}{K:PySem.W.Frag}{mg:Str->Option Value}{base:Heap}
theorem Q1:FnScope ["_law_left_here", "_law_names", "_law_found", "_law_k", "_law_name"] ["_law_left_here", "_law_names"] (B6 s_law_spelled):=fsc
def Cw:Sp:=fun vs H Q _=>∃(p n:Addr) (c:Int) (ss:List Str),vs = [.ref p,.ref n]/\LeftAt H p c/\c<=890000/\H n=some (.lst (ss.map V.str))/\P2 ss/\ss.length<=30 /\
 ∀l (ts:List Str) c' H',H l=none->Sm [p] H H'->H' l=some (.lst (ts.map V.str))->P2 ts->ts.length=ss.length->c'<=c+400->LeftAt H' p c'->Q (.ref l) H'
set_option maxHeartbeats 2000000 in
theorem Q2(T:Tx K mg):FnOk P w K mg base CX0 4 T.au.f T.au.fd ["_law_left_here", "_law_names"] Cw:=by
 have G_law_pick:=E7 (P:=P) (w:=w) (base:=base) T;have G_law_any_name:=Z5 (P:=P) (w:=w) (base:=base) T;have sc:=Q1;refine T.au.F.ok Q1 (fun vs H Q E h=>?_) (fun cdv A outer s H vs Q E hr h=>?_)
 .obtain⟨p,n,c,ss,rfl,_⟩:=h;rfl
 .obtain⟨p,n,c,ss,rfl,hL,c1,hn,hN,hlen,q⟩:=h;refine⟨_,(B3 (C5 (i:=2) sc.nd rfl (.inl rfl) (P1 (K4 K) T.af E6 (A6 (pv 1) A8)))
   (B3 (J2 (E2 Gq (C2 T.ad G_law_pick (Rm hr) (A6 (pv 0) (A6 B2 A8))) B2 (D9 _)) (B7 (C3 (pv 2))) C7)
   (B3 (S3 PassesOwn.never rfl (Hh T.ao (A6 (D4 (K3 K) T.ah I9 (A6 (pv 2) A8)) A8)) (J3 (i:=3) sc.nd rfl (.inl rfl))
   (B3 (C5 (i:=4) sc.nd rfl (.inl rfl) (C2 T.aB G_law_any_name (Rm hr) (A6 (pv 0) A8)))
   (B7 (J2 (PW.pt (Ep (E2 (Cg K) (pv 4) (pv 2) rfl) (Bi (E2 Af (C2 T.ad G_law_pick (Rm hr) (A6 (pv 0) (A6 B2 A8))) B2 (D9 _))))) (B7 (Ez (pv 4) (Fs (pv 2) (pv 3) n8))) C7))))
   (B7 (C3 (pv 2)))))),?_⟩
  refine B9 fun N1 hN1=>?_;refine ex1 rfl ⟨n,ex1 rfl ⟨.inl (SqL.of hn),fun l hl=>?_⟩⟩;have s1:=Same.new (o:=.lst (ss.map V.str)) hl;have e1:(upd H l (.lst (ss.map V.str))) l=some (.lst (ss.map V.str)):=A7;have L1:=hL.same s1;have npl:p≠l:=A9 hL.get hl;generalize upd H l (.lst (ss.map V.str))=H1 at s1 e1 L1⊢;refine hN1 _ _ (B9 fun N2 hN2=>?_);refine ex1 rfl (J7 (a:=p) rfl L1 (by omega) (by decide) (by decide) fun d H2 hd k2 L2=>B8 rfl rfl (ex1 rfl ?_));have e2:=Sm1 k2 e1 npl.symm;refine Au (fun _=>ex1 rfl (q l ss _ H2 hl (s1.sm.trans k2) e2 hN rfl (by omega) L2)) (fun _=>hN2 _ _ (B9 fun N3 hN3=>?_));refine ex1 rfl (B8 (a:=l) rfl (.inl (SqL.of e2)) (ex1 rfl ⟨by omega,by rw[AA];omega,?_⟩));rw[CI,AA];refine P8 (fun i σ H3=>(∃v3 v4,σ = [some (.ref p),some (.ref n),some (.ref l),v3,v4])/\Sm [p] H H3/\(∃c',c'<=c+1+10*i/\LeftAt H3 p c')/\∃ts:List Str,H3 l=some (.lst (ts.map V.str))/\P2 ts/\ts.length=ss.length) ?_ ?_ ?_
  .exact⟨⟨_,_,rfl⟩,s1.sm.trans k2,⟨_,by omega,L2⟩,ss,e2,hN,rfl⟩
  .rintro i σ H3 hi ⟨⟨v3,v4,rfl⟩,k3,⟨c3,hc3,L3⟩,ts,e3,N3',len3⟩ D1 hD1 _;rw[Int.zero_add];refine Gz fun M1 hM1=>?_;refine ex1 rfl ⟨p,_,rfl,L3,by omega,fun x c4 H4 k4 hx hc4 L4=>?_⟩;have e4:=Sm1 k4 e3 npl.symm;refine hM1 _ _ ?_;refine ex1 rfl (ex1 rfl (j3 (.inl (SqL.of e4)) ⟨_,rfl,?_⟩));refine Au (fun h5=>?_) (fun h5=>X1 (hD1 _ _ ⟨⟨_,_,rfl⟩,k3.trans k4,⟨c4,by omega,L4⟩,ts,e4,N3',len3⟩));have h5':x∉ts:=by simpa using h5
   refine ex1 rfl (J7 (a:=p) rfl L4 (by omega) (by decide) (by decide) fun d1 H5 hd1 k5 L5=>⟨rfl,_,rfl,?_⟩);have e5:=Sm1 k5 e4 npl.symm;refine Au (fun h6=>?_) (fun h6=>hD1 _ _ ⟨⟨_,_,rfl⟩,(k3.trans k4).trans k5,⟨_,by omega,L5⟩,ts,e5,N3',len3⟩);have hi':i<ts.length:=by omega
   refine ex1 rfl (ex1 rfl (ex1 rfl ⟨l,_,_,i,rfl,rfl,e5,?_,hD1 _ _ ⟨⟨_,_,rfl⟩,((k3.trans k4).trans k5).updN hl,⟨_,?_,L5.upd npl⟩,ts.set i x,?_,Et N3' hi' hx h5',by rw[List.length_set];exact len3⟩⟩))
   .unfold ixN;rw[AA,BI (by omega),BI (by omega),CI]
   .omega
   .rw[A7,List.map_set]
  .rintro σ H3 ⟨⟨v3,v4,rfl⟩,k3,⟨c3,hc3,L3⟩,ts,e3,N3',len3⟩;exact hN3 _ _ (ex1 rfl (q l ts _ H3 hl k3 e3 N3' len3 (by omega) L3))
def all30:List Str:=["b", "aa", "zebra", "c", "quartzes", "ab", "m", "knows", "d", "mm", "likes", "z", "a", "ba", "abcdefgh", "y", "zz", "e", "x", "f", "g", "hh", "i", "jj", "k", "ll", "say", "strike", "fact", "back"]
abbrev txt20:Str := "b aa zebra c quartzes ab m knows d mm likes z a ba abcdefgh y zz e x f"
abbrev txt10:Str := "g hh i jj k ll say strike fact back"
abbrev txt8:Str := "b aa zebra cy quartzes eve m knows"
def all20:List Str:=["b", "aa", "zebra", "c", "quartzes", "ab", "m", "knows", "d", "mm", "likes", "z", "a", "ba", "abcdefgh", "y", "zz", "e", "x", "f"]
def all10:List Str:=["g", "hh", "i", "jj", "k", "ll", "say", "strike", "fact", "back"]
def all8:List Str:=["b", "aa", "zebra", "cy", "quartzes", "eve", "m", "knows"]
theorem Jn:Builtin.Str.partsBetween txt20 (Builtin.Str.occurrences txt20 " " 0 txt20.length (txt20.length+1)) (" ":Str).length=all20:=by decide +kernel
theorem Iz:Builtin.Str.partsBetween txt10 (Builtin.Str.occurrences txt10 " " 0 txt10.length (txt10.length+1)) (" ":Str).length=all10:=by decide +kernel
theorem Lv:Builtin.Str.partsBetween txt8 (Builtin.Str.occurrences txt8 " " 0 txt8.length (txt8.length+1)) (" ":Str).length=all8:=by decide +kernel
theorem all30_ok:(∀x∈all30,C9 x=true)/\all30.Nodup:=⟨by decide +kernel,by decide +kernel⟩
theorem Kd:P2 all8:=⟨by decide +kernel,by decide +kernel,by decide⟩
theorem Jh:all20++all10=all30:=rfl
theorem Pq(Q:VK)(H:Hp)(h:∀l,H l=none->Q (.ref l) (upd H l (.lst (all20.map V.str)))):Bq (.str txt20) [.str " "] H Q:=⟨txt20, " ",all20,rfl,rfl,by decide +kernel,by decide +kernel,by decide +kernel,by decide +kernel,Jn,by decide +kernel,h⟩
theorem Qq(Q:VK)(H:Hp)(h:∀l,H l=none->Q (.ref l) (upd H l (.lst (all10.map V.str)))):Bq (.str txt10) [.str " "] H Q:=⟨txt10, " ",all10,rfl,rfl,by decide +kernel,by decide +kernel,by decide +kernel,by decide +kernel,Iz,by decide +kernel,h⟩
theorem sp8(Q:VK)(H:Hp)(h:∀l,H l=none->Q (.ref l) (upd H l (.lst (all8.map V.str)))):Bq (.str txt8) [.str " "] H Q:=⟨txt8, " ",all8,rfl,rfl,by decide +kernel,by decide +kernel,by decide +kernel,by decide +kernel,Lv,by decide +kernel,h⟩
theorem L6:FnScope ["_law_left_here", "_law_many", "_law_some", "_law_names", "_law_k"] ["_law_left_here", "_law_many"] (B6 s_law_many_names):=fsc
def o6:Sp:=fun vs H Q _=>∃(p:Addr) (c:Int) (many:Nat),vs = [.ref p,.int (many:Int)]/\LeftAt H p c/\c<=900000/\many<=30 /\
 ∀l (ss:List Str) H',H l=none->Sm [p] H H'->H' l=some (.lst (ss.map V.str))->ss.length=many->P2 ss->LeftAt H' p (c+many)->Q (.ref l) H'
set_option maxHeartbeats 2000000 in
theorem U4(T:Tx K mg):FnOk P w K mg base CX0 3 T.aq.f T.aq.fd ["_law_left_here", "_law_many"] o6:=by
 have G_law_pick:=E7 (P:=P) (w:=w) (base:=base) T;have sc:=L6;refine T.aq.F.ok L6 (fun vs H Q E h=>?_) (fun cdv A outer s H vs Q E hr h=>?_)
 .obtain⟨p,c,m,rfl,_⟩:=h;rfl
 .obtain⟨p,c,many,rfl,hL,c1,m1,q⟩:=h;obtain⟨a0,b0,e0,c0⟩:=id hL;refine⟨_,(B3 (C5 (i:=2) sc.nd rfl (.inl rfl) (Bp K PySem.F.plainAttrs_str PySem.F.slot_str_split PySem.F.type_str_split q9 D0 (A6 D0 A8)))
   (B3 (C5 (i:=2) sc.nd rfl (.inl rfl) (E8 Co (pv 2) (Bp K PySem.F.plainAttrs_str PySem.F.slot_str_split PySem.F.type_str_split q9 D0 (A6 D0 A8))))
   (B3 (C5 (i:=3) sc.nd rfl (.inl rfl) (D8 A8))
   (B3 (S3 PassesOwn.never rfl (Hh T.ao (A6 (pv 1) A8)) (J3 (i:=4) sc.nd rfl (.inl rfl))
   (B7 (E3 (Bp K PySem.F.plainAttrs_list PySem.F.slot_list_append PySem.F.type_list_append E5 (pv 3) (A6 (Bp K PySem.F.plainAttrs_list PySem.F.slot_list_pop PySem.F.type_list_pop Gv (pv 2) (A6 (C2 T.ad G_law_pick (Rm hr) (A6 (pv 0) (A6 (D4 (K3 K) T.ah I9 (A6 (pv 2) A8)) A8))) A8)) A8)))))
   (B7 (C3 (pv 3))))))),?_⟩
  refine B9 fun N1 hN1=>?_;refine⟨rfl,?_⟩;dsimp only[Fe,tC,Ny];refine Pq _ _ fun a1 ha1=>?_;have u1:=Same.new (o:=.lst (all20.map V.str)) ha1;have e1:(upd H a1 (.lst (all20.map V.str))) a1=some (.lst (all20.map V.str)):=A7;generalize upd H a1 (.lst (all20.map V.str))=H1 at u1 e1⊢;refine hN1 _ _ (B9 fun N2 hN2=>?_);refine ex1 rfl ⟨rfl,?_⟩;dsimp only[Fe,tC,Ny];refine Qq _ _ fun a2 ha2=>?_;have u2:=Same.new (o:=.lst (all10.map V.str)) ha2;refine⟨a1,a2,_,_,rfl,rfl,u2 _ _ e1,A7,by rw[AA,AA];show 30<=sizeLine;decide,fun a ha=>?_⟩;have u3:=(u1.trans u2).trans (Same.new (o:=.lst (all20.map V.str++all10.map V.str)) ha);have ea:(upd (upd H1 a2 (.lst (all10.map V.str))) a (.lst (all20.map V.str++all10.map V.str))) a=some (.lst (all30.map V.str)):=by rw[A7,<-Jh,AL]
  have ha0:H a=none:=(u1.trans u2).free ha;generalize upd (upd H1 a2 (.lst (all10.map V.str))) a (.lst (all20.map V.str++all10.map V.str))=H2 at u3 ea⊢;clear u1 u2 e1 ha ha1 ha2;have ha:=ha0;have a1:=all30_ok.1;have a2:=all30_ok.2;have al:all30.length=30:=rfl;generalize all30=all at ea a1 a2 al;refine hN2 _ _ ?_;refine⟨BU _,fun b hb=>?_⟩;have hb':H b=none:=u3.free hb;have nab:a≠b:=A9 ea hb;have npa:p≠a:=A9 e0 ha;have npb:p≠b:=A9 e0 hb';refine ex1 rfl (ex1 rfl ⟨by omega,by omega,?_⟩);rw[CI];refine P8 (fun i σ H1=>(∃v4,σ = [some (.ref p),some (.int (many:Int)),some (.ref a),some (.ref b),v4])/\Sm [p] H H1/\LeftAt H1 p (c+i)/\∃rest got:List Str,H1 a=some (.lst (rest.map V.str))/\H1 b=some (.lst (got.map V.str))/\(rest++got).Perm all/\got.length=i) ?_ ?_ ?_
  .refine⟨⟨_,rfl⟩,(u3.trans (Same.new hb)).sm,((hL.cast (by omega)).same u3).upd npb,all,[],by rw[B4 nab];exact ea,by rw[A7];rfl,by rw[CQ],rfl⟩
  .rintro i σ H1 hi ⟨⟨v4,rfl⟩,k1,L1,rest,got,ea,eb,pm,hg⟩ D1 hD1 _;have hlen:rest.length=30-i:=by
    have:=pm.length_eq;rw[BA,hg,al]at this;omega
   refine ex1 rfl ⟨.inl ⟨rfl,_,SqL.of eb⟩,ex1 rfl ⟨.inl ⟨rfl,_,SqL.of ea⟩,ex1 rfl (ex1 rfl (B8 (a:=a) rfl (.inl (SqL.of ea)) (J7 (a:=p) (b:=c+i) rfl L1 (by omega) ?_ ?_ fun d H2 hd k2 L2=>?_)))⟩⟩
   .rw[AA];omega
   .rw[AA];omega
   rw[AA]at hd;have hd':d<rest.length:=by omega
   have hx:rest[d]?=some rest[d]:=AR hd';have ea2:=Sm1 k2 ea npa.symm;have eb2:=Sm1 k2 eb npb.symm;refine⟨a,_,_,d,.str rest[d],rfl,rfl,ea2,by omega,by omega,six (by rw[AA];exact hd'),by rw[AH,hx];rfl,b,B8 rfl rfl ⟨by rw[B4 nab.symm];exact eb2,?_,?_⟩⟩
   .rw[AA,sizeLine_eq];omega
   refine hD1 _ _ ⟨⟨_,rfl⟩,?_,?_,rest.eraseIdx d,got ++ [rest[d]],?_,?_,Hy pm hx,by rw[BA,hg];rfl⟩
   .exact((k1.trans k2).updN ha).updN hb'
   .exact((L2.cast (by omega)).upd npa).upd npb
   .rw[B4 nab,A7,Ao]
   .rw[A7,AL];rfl
  .rintro σ H1 ⟨⟨v4,rfl⟩,k1,L1,rest,got,ea,eb,pm,hg⟩;exact⟨_,rfl,q b got H1 hb' k1 eb hg (names_of pm a1 a2 (by omega)) L1⟩
end
theorem Js{d:Nat}(h:d<6):∃r:Int,atI [V.int 0,.int 1,.int 1,.int 2,.int 5,.int 9] (d:Int)=some (.int r)/\0<=r/\r<=9:=by
 match d,h with
 | 0,_=>exact⟨0,rfl,by decide,by decide⟩
 | 1,_=>exact⟨1,rfl,by decide,by decide⟩
 | 2,_=>exact⟨1,rfl,by decide,by decide⟩
 | 3,_=>exact⟨2,rfl,by decide,by decide⟩
 | 4,_=>exact⟨5,rfl,by decide,by decide⟩
 | 5,_=>exact⟨9,rfl,by decide,by decide⟩
theorem LeftAt.neL{H:Hp}{p a:Addr}{c:Int}{xs:List V}(h:LeftAt H p c)(e:H a=some (.lst xs))(n:∀x y,xs≠[.int x,.int y,.int c]):a≠p:=fun z=>by
 obtain⟨x,y,e',_⟩:=h;rw[z,e']at e;cases e;exact n x y rfl
theorem LeftAt.neT{H:Hp}{p a:Addr}{c:Int}{xs:List V}(h:LeftAt H p c)(e:H a=some (.tup xs)):a≠p:=fun z=>by
 obtain⟨x,y,e',_⟩:=h;rw[z,e']at e;cases e
theorem LeftAt.neR{H:Hp}{p a:Addr}{c:Int}{as:List Addr}(h:LeftAt H p c)(e:H a=some (.lst (as.map V.ref))):a≠p:=h.neL e fun x y z=>by
 cases as with
 | nil=>cases z
 | cons b r=>cases z
theorem LeftAt.ne{H:Hp}{p a:Addr}{c:Int}{ss:List Str}(h:LeftAt H p c)(e:H a=some (.lst (ss.map V.str))):a≠p:=h.neL e fun x y z=>by
 cases ss with
 | nil=>cases z
 | cons b r=>cases z
theorem RowsAt.sm{H H':Hp}{l p:Addr}{c:Int}{rs:List RW}(h:RowsAt H l rs)(L:LeftAt H p c)(k:Sm [p] H H'):RowsAt H' l rs:=by
 have e:(rs.map fun q=>V.ref q.1) =(rs.map fun q=>q.1).map V.ref:=by rw[AZ];rfl
 refine⟨Sm1 k h.at_ (L.neR (by rw[<-e];exact h.at_)),fun q hq=>Sm1 k (h.row q hq) (L.neT (h.row q hq))⟩
theorem RowsAt.snoc{H:Hp}{l t:Addr}{rs:List RW}{n:Str}{xs:List V}(h:RowsAt H l rs)(ht:H t=some (.tup (.str n::xs))):RowsAt (upd H l (.lst ((rs.map fun q=>V.ref q.1) ++ [.ref t]))) l (rs ++ [(t,n,xs)]):=by
 refine⟨by rw[A7,AL];rfl,fun q hq=>?_⟩;rcases A_.mp hq with z | z
 .exact(B4 (O7 (h.row q z) h.at_ (by intro y;cases y))).trans (h.row q z)
 .rw[AC.mp z];exact(B4 (O7 ht h.at_ (by intro y;cases y))).trans ht
section
variable{P:Program}{w:World}{K:PySem.W.Frag}{mg:Str->Option Value}{base:Heap}
theorem U0:FnScope ["_law_left_here", "_law_many", "_law_some"] ["_law_left_here", "_law_many"] (B6 s_law_people):=fsc
def Ea:Sp:=fun vs H Q _=>∃(p:Addr) (c:Int) (many:Nat),vs = [.ref p,.int (many:Int)]/\LeftAt H p c/\c<=800000/\many<=8 /\
 ∀l (pe:List PEr) c' H',H l=none->Sm [p] H H'->RowsAt H' l (pe.map rP)->pe.length=many->(nP pe).Nodup->(∀q∈pe,C9 q.2.1=true/\0<=q.2.2/\q.2.2<=9)->c'<=c+500->LeftAt H' p c'->Q (.ref l) H'
set_option maxHeartbeats 2000000 in
theorem o3(T:Tx K mg):FnOk P w K mg base CX0 5 T.aG.f T.aG.fd ["_law_left_here", "_law_many"] Ea:=by
 have G_law_pick:=E7 (P:=P) (w:=w) (base:=base) T;have G_law_spelled:=Q2 (P:=P) (w:=w) (base:=base) T;have sc:=U0;refine T.aG.F.ok U0 (fun vs H Q E h=>?_) (fun cdv A outer s H vs Q E hr h=>?_)
 .obtain⟨p,c,m,rfl,_⟩:=h;rfl
 .obtain⟨p,c,many,rfl,hL,c1,m1,q⟩:=h;refine⟨_,(B3 (C5 (i:=2) sc.nd rfl (.inr rfl) (C2 T.au G_law_spelled (Rm hr) (A6 (pv 0) (A6 (Bp K PySem.F.plainAttrs_str PySem.F.slot_str_split PySem.F.type_str_split q9 D0 (A6 D0 A8)) A8))))
   (@B7 _ _ _ (@C3 _ _ _ _ (U5 (N':=["_law_k", "_law_some", "_law_left_here"]) (cap:=[none,some 2,some 0]) (cl:=[("_law_some",_),("_law_left_here",_)]) (O6 ⟨⟨rfl,rfl,rfl,rfl⟩,⟨⟨rfl,rfl,rfl,rfl⟩,trivial⟩⟩ ⟨rfl,⟨rfl,trivial⟩⟩) rfl (Hh T.ao (A6 (pv 1) A8)) (fun _ _ _ _=>by exact⟨(pgC 0),E1,(@J4 _ _ _ _ _ (@A6 _ _ _ _ _ (C1 (ixL K) (pv 1) (pv 0) (fun _ _=>rfl)) (@A6 _ _ _ _ _ (@C1 _ _ _ _ _ _ _ (ixL K) (@D8 _ _ _ _ (@A6 _ _ _ _ _ B2 (@A6 _ _ _ _ _ B2 (@A6 _ _ _ _ _ B2 (@A6 _ _ _ _ _ B2 (@A6 _ _ _ _ _ B2 (@A6 _ _ _ _ _ B2 A8 (by rfl)) (by rfl)) (by rfl)) (by rfl)) (by rfl)) (by rfl))) (C2 T.ad G_law_pick (Rm hr) (A6 (pv 2) (A6 B2 A8))) (fun _ _=>rfl)) A8 (by rfl)) (by rfl)))⟩))))),?_⟩
  refine B9 fun N1 hN1=>?_;refine ex1 rfl ⟨rfl,?_⟩;dsimp only[Fe,tC,Ny];refine sp8 _ _ fun a ha=>?_;have ua:=Same.new (o:=.lst (all8.map V.str)) ha;refine⟨p,a,c,all8,rfl,hL.same ua,by omega,A7,Kd,by decide,fun l ts c2 H1 hl k1 e1 N1' len1 hc1 L1=>?_⟩;have k1:=ua.sm.trans k1;refine hN1 _ _ ?_;refine ex1 rfl (ex1 rfl ⟨by omega,by omega,fun D hD=>?_⟩);rw[CI];have l8:ts.length=8:=len1;have npD:p≠D:=A9 L1.get hD;have nlD:l≠D:=A9 e1 hD;have hD0:H D=none:=by
   cases z:H D with
   | none=>rfl
   | some o =>
    have:=k1 D o z (by simpa using npD.symm);rw[hD]at this;cases this
  refine V4 (n:=many) (fun i σ H2=>(∃v,σ = [v,some (.ref l),some (.ref p)])/\Sm [p] H H2/\H2 l=some (.lst (ts.map V.str))/\(∃c',c'<=c2+i/\LeftAt H2 p c')/\∃pe:List PEr,RowsAt H2 D (pe.map rP)/\nP pe=ts.take i/\∀q∈pe,0<=q.2.2/\q.2.2<=9) ?_ (fun i _ _ hi _=>hi) (fun _ _ _=>AG _) ?_ ?_
  .exact⟨⟨_,rfl⟩,k1.updN hD0,by rw[B4 nlD];exact e1,⟨_,by omega,L1.upd npD⟩,[],⟨A7,fun q h=>absurd h AI⟩,rfl,fun q h=>absurd h AI⟩
  .rintro i σ H2 v H' N hi ⟨⟨v0,rfl⟩,k2,e2,⟨c3,hc3,L3⟩,pe,R2,n2,r2⟩ ⟨rfl,rfl⟩ hN;have li:i<ts.length:=by omega
   have hi':ts[i]?=some ts[i]:=AR li;have lpe:pe.length=i:=by
    have:=congrArg List.length n2;unfold nP at this;rw[AA,AV]at this;omega
   refine U1 ?_;rw[Int.zero_add];refine ex1 rfl (ex1 rfl ⟨l,_,B8 rfl rfl ⟨SqL.of e2,B5 (by rw[AH,hi'];rfl),?_⟩⟩);refine⟨by show 6<=sizeLine;decide,fun t ht=>?_⟩;have ut:=Same.new (o:=.lst [V.int 0,.int 1,.int 1,.int 2,.int 5,.int 9]) ht;refine ex1 rfl (J7 (a:=p) rfl (L3.same ut) (by omega) (by decide) (by decide) fun d H3 hd k3 L4=>?_);obtain⟨r,hr1,hr0,hr9⟩:=Js (d:=d) (by omega);have e3:H3 t=some (.lst [V.int 0,.int 1,.int 1,.int 2,.int 5,.int 9]):=Sm1 k3 A7 (A9 L3.get ht).symm;refine⟨t,_,B8 rfl rfl ⟨SqL.of e3,hr1,by show 2<=sizeLine;decide,fun t2 ht2=>?_⟩⟩;have R3:=(R2.same ut).sm (L3.same ut) k3;have u2:=Same.new (o:=.tup [.str ts[i],.int r]) ht2;have R4:=R3.same u2;have e4:=Sm1 (k3.trans u2.sm) (ut _ _ e2) ((L3.same ut).ne (ut _ _ e2));have L5:=L4.same u2;have k4:Sm [p] H (upd H3 t2 (.tup [.str ts[i],.int r])):=(k2.trans ut.sm).trans (k3.trans u2.sm);have et:(upd H3 t2 (.tup [.str ts[i],.int r])) t2=some (.tup [.str ts[i],.int r]):=A7;generalize upd H3 t2 (.tup [.str ts[i],.int r])=H4 at R4 e4 L5 k4 et⊢;refine⟨_,R4.at_,by rw[AA,AA,sizeLine_eq];omega,hN _ _ ⟨⟨_,rfl⟩,k4.updN hD0,by rw[B4 nlD];exact e4,⟨_,by omega,L5.upd npD⟩,pe ++ [(t2,ts[i],r)],?_,?_,fun z hz=>?_⟩⟩
   .rw[AL];exact R4.snoc et
   .unfold nP at n2⊢;rw[AL,n2,J5 hi'];rfl
   .rcases A_.mp hz with y | y
    .exact r2 z y
    .rw[AC.mp y];exact⟨hr0,hr9⟩
  .rintro σ H2 ⟨⟨v0,rfl⟩,k2,e2,⟨c3,hc3,L3⟩,pe,R2,n2,r2⟩;have lpe:pe.length=many:=by
    have:=congrArg List.length n2;unfold nP at this;rw[AA,AV]at this;omega
   refine q D pe c3 H2 hD0 k2 R2 lpe (by rw[n2];exact N1'.2.1.sublist (DQ _ _)) (fun z hz=>⟨N1'.1 _ (BH (i:=many) (by rw[<-n2];exact BB.mpr ⟨z,hz,rfl⟩)),r2 z hz⟩) (by omega) L3
end
theorem Jk{d:Nat}(h:d<4):∃r:Nat,r<=8/\atI [V.int 0,.int 1,.int 2,.int 8] (d:Int)=some (.int (r:Int)):=by
 match d,h with
 | 0,_=>exact⟨0,by decide,rfl⟩
 | 1,_=>exact⟨1,by decide,rfl⟩
 | 2,_=>exact⟨2,by decide,rfl⟩
 | 3,_=>exact⟨8,by decide,rfl⟩
theorem Ci(xs:List V)(i:Nat)(h:i<=xs.length):R8 xs (some (i:Int)) none=xs.drop i:=by
 unfold R8;rw[HT.sIx_none,HT.sIx_nat,DL h];exact List.take_of_length_le (by rw[CF];exact AG _)
theorem X6(xs:List V)(i:Nat):R8 xs none (some (i:Int))=xs.take i:=by
 unfold R8;rw[HT.sIx_none,HT.sIx_nat,List.drop_zero,Nat.sub_zero];by_cases h:i<=xs.length
 .rw[DL h]
 .rw[Nat.min_eq_right (by omega),CB,List.take_of_length_le (by omega)]
section
variable{P:Program}{w:World}{K:PySem.W.Frag}{mg:Str->Option Value}{base:Heap}
theorem P4:FnScope ["_law_left_here", "_law_people_here", "_law_names", "_law_many", "_law_at"] ["_law_left_here", "_law_people_here"] (B6 s_law_speakers):=fsc
def Ek:Sp:=fun vs H Q _=>∃(p a:Addr) (c:Int) (pe:List PEr),vs = [.ref p,.ref a]/\LeftAt H p c/\c<=800000/\RowsAt H a (pe.map rP)/\pe.length<=8/\(nP pe).Nodup /\
 ∀l (ss:List Str) c' H',H l=none->Sm [p] H H'->H' l=some (.lst (ss.map V.str))->(∀x∈ss,x∈nP pe)->ss.Nodup->ss.length<=8->c'<=c+4->LeftAt H' p c'->Q (.ref l) H'
set_option maxHeartbeats 2000000 in
theorem a7(T:Tx K mg):FnOk P w K mg base CX0 3 T.aC.f T.aC.fd ["_law_left_here", "_law_people_here"] Ek:=by
 have G_law_pick:=E7 (P:=P) (w:=w) (base:=base) T;have sc:=P4;refine T.aC.F.ok P4 (fun vs H Q E h=>?_) (fun cdv A outer s H vs Q E hr h=>?_)
 .obtain⟨p,a,c,pe,rfl,_⟩:=h;rfl
 .obtain⟨p,a,c,pe,rfl,hL,c1,hR,len,nd,q⟩:=h;refine⟨_,(B3 (S2 (i:=2) (N':=["_law_row"]) (cap:=[none]) (cl:=[]) sc.nd rfl (.inl rfl) (O6 trivial trivial) rfl (piL K (pv 1)) (fun _ _ _ _=>by exact⟨(pgC 0),E1,(C1 (ixT K) (pv 0) B2 (fun _ _=>rfl))⟩))
   (B3 (Nn (i:=3) (j:=4) rfl sc.nd rfl rfl (by decide) rfl rfl (A6 (C1 (ixL K) (D8 (A6 B2 (A6 B2 (A6 B2 (A6 B2 A8))))) (C2 T.ad G_law_pick (Rm hr) (A6 (pv 0) (A6 B2 A8))) (fun _ _=>rfl)) (A6 (C2 T.ad G_law_pick (Rm hr) (A6 (pv 0) (A6 (D4 (Gg rfl) T.ba Ms (A6 B2 (A6 (D4 (K3 K) T.ah I9 (A6 (pv 2) A8)) A8))) A8))) A8)) rfl)
   (B3 (J2 (E2 Gq (pv 3) B2 (D9 _)) (B7 (C5 (i:=3) sc.nd rfl (.inl rfl) (E8 S0 B2 (C2 T.ad G_law_pick (Rm hr) (A6 (pv 0) (A6 B2 A8)))))) C7)
   (B3 (J2 (E2 Af (C2 T.ad G_law_pick (Rm hr) (A6 (pv 0) (A6 B2 A8))) B2 (D9 _)) (B7 (E3 (Jz K PySem.F.plainAttrs_list PySem.F.slot_list_reverse PySem.F.type_list_reverse U9 (pv 2)))) C7)
   (B7 (C3 (O1 (slL K) (E8 Co (O1 (slL K) (pv 2) (R0 (pv 4)) Q5) (O1 (slL K) (pv 2) Q5 (R0 (pv 4)))) Q5 (R0 (pv 3))))))))),?_⟩
  refine B9 fun N1 hN1=>?_;refine ex1 rfl ⟨a,rfl,⟨_,SqL.of hR.at_⟩,fun D hD=>?_⟩;refine Bn (r:=fun q:RW=>V.ref q.1) (fun q=>V.str q.2.1) (asL (SqL.of hR.at_)) (fun _=>true) (by rw[AA];omega) hD (fun y my G sG M hM=>hM G fun b o e=>e) (fun y my G sG M hM=>?_) fun σ' H1 s1 e1=>?_
  .exact ex1 rfl ⟨y.1,_,B8 rfl rfl ⟨SqT.of (sG _ _ (hR.row y my)),B5 (j:=0) rfl,hM G fun b o e=>e⟩⟩
  have e1:H1 D=some (.lst ((nP pe).map V.str)):=by
   rw[e1,CC.mpr fun _ _=>rfl,AZ];unfold nP;rw[AZ];rfl
  have L1:=hL.same s1;have lnp:(nP pe).length=pe.length:=by unfold nP;rw[AA]
  refine hN1 _ _ (B9 fun N2 hN2=>?_);refine⟨by show 4<=sizeLine;decide,fun t ht=>?_⟩;have ut:=Same.new (o:=.lst [V.int 0,.int 1,.int 2,.int 8]) ht;refine ex1 rfl (J7 (a:=p) rfl (L1.same ut) (by omega) (by decide) (by decide) fun d H2 hd k2 L2=>?_);obtain⟨r,hr8,hr1⟩:=Jk (d:=d) (by omega);have et:H2 t=some (.lst [V.int 0,.int 1,.int 2,.int 8]):=Sm1 k2 A7 (A9 L1.get ht).symm;have e2:=Sm1 k2 (ut _ _ e1) ((L1.same ut).ne (ut _ _ e1));have k2:Sm [p] H H2:=(s1.trans ut).sm.trans k2;refine⟨t,_,B8 rfl rfl ⟨SqL.of et,hr1,?_⟩⟩;refine ex1 rfl (ex1 rfl ⟨D,_,rfl,.inl (SqL.of e2),_,_,rfl,?_⟩);obtain⟨m,em,hm1,hm2⟩:∃m:Nat,(if(((nP pe).map V.str).length:Int)>1 then(((nP pe).map V.str).length:Int)else 1) =(m:Int)/\1<=m/\m<=8:=by
   rw[AA,lnp];by_cases h:(pe.length:Int)>1
   .rw[BI h];exact⟨pe.length,rfl,by omega,by omega⟩
   .rw[BF h];exact⟨1,rfl,by decide,by decide⟩
  have em2:m<=pe.length\/m=1:=by
   rw[AA,lnp]at em;by_cases h:(pe.length:Int)>1
   .rw[BI h]at em;exact .inl (by omega)
   .rw[BF h]at em;exact .inr (by omega)
  rw[em];refine J7 (a:=p) rfl L2 (by omega) (by omega) (by omega) fun d2 H3 hd2 k3 L3=>⟨_,_,rfl,hN2 _ _ ?_⟩;have e3:=Sm1 k3 e2 (L2.ne e2);have k3:=k2.trans k3;have hd2':d2<=pe.length:=by
   rcases em2 with z | z
   .omega
   .omega
  refine B9 fun N3 hN3=>?_;have rest:∀(r:Nat) (c4:Int) (G:Hp),r<=8->c4<=c+3->Sm [p] H G->G D=some (.lst ((nP pe).map V.str))->LeftAt G p c4->N3 [some (.ref p),some (.ref a),some (.ref D),some (.int (r:Int)),some (.int (d2:Int))] G:=fun r c4 G hr hc kG eG LG=>by
   refine hN3 _ _ (B9 fun N4 hN4=>?_);have rest2:∀(nl:List Str) (c5:Int) (G:Hp),nl.Perm (nP pe)->c5<=c+4->Sm [p] H G->G D=some (.lst (nl.map V.str))->LeftAt G p c5->N4 [some (.ref p),some (.ref a),some (.ref D),some (.int (r:Int)),some (.int (d2:Int))] G:=fun nl c5 G pm hc5 kG eG LG=>by
    have lnl:nl.length=pe.length:=by rw[pm.length_eq,lnp]
    refine hN4 _ _ ?_;refine ex1 rfl (ex1 rfl ⟨_,rfl,D,_,rfl,SqL.of eG,fun l1 hl1=>?_⟩);have u1:=Same.new (o:=.lst (R8 (nl.map V.str) (some (d2:Int)) none)) hl1;refine ex1 rfl (ex1 rfl ⟨_,rfl,D,_,rfl,SqL.of (u1 _ _ eG),fun l2 hl2=>?_⟩);have u2:=Same.new (o:=.lst (R8 (nl.map V.str) none (some (d2:Int)))) hl2;have f1:(upd (upd G l1 (.lst (R8 (nl.map V.str) (some (d2:Int)) none))) l2 (.lst (R8 (nl.map V.str) none (some (d2:Int))))) l1=some (.lst ((nl.drop d2).map V.str)):=u2 _ _ (by rw[A7,Ci _ _ (by rw[AA];omega),List.map_drop]);have f2:(upd (upd G l1 (.lst (R8 (nl.map V.str) (some (d2:Int)) none))) l2 (.lst (R8 (nl.map V.str) none (some (d2:Int))))) l2=some (.lst ((nl.take d2).map V.str)):=by rw[A7,X6,BZ]
    have u12:=u1.trans u2;generalize upd (upd G l1 (.lst (R8 (nl.map V.str) (some (d2:Int)) none))) l2 (.lst (R8 (nl.map V.str) none (some (d2:Int))))=G2 at f1 f2 u12⊢;refine⟨l1,l2,_,_,rfl,rfl,f1,f2,by rw[AA,AA,CF,AV,sizeLine_eq];omega,fun l3 hl3=>?_⟩;have u3:=Same.new (o:=.lst ((nl.drop d2).map V.str ++(nl.take d2).map V.str)) hl3;refine ex1 rfl ⟨_,rfl,l3,_,rfl,SqL.of A7,fun l4 hl4=>?_⟩;have u4:=u12.trans (u3.trans (Same.new (o:=.lst (R8 ((nl.drop d2).map V.str ++(nl.take d2).map V.str) none (some (r:Int)))) hl4));have pm2:(nl.drop d2++nl.take d2).Perm nl:=by
     have:=List.perm_append_comm (l₁:=nl.drop d2) (l₂:=nl.take d2)
     rwa [List.take_append_drop]at this
    refine q l4 ((nl.drop d2++nl.take d2).take r) c5 _ ?_ (kG.trans u4.sm) (by rw[A7,X6,<-AL,BZ]) (fun x hx=>pm.mem_iff.mp (pm2.mem_iff.mp (BH hx))) ((pm2.nodup_iff.mpr (pm.nodup_iff.mpr nd)).sublist (DQ _ _)) (by rw[AV];omega) hc5 (LG.same u4);cases z:H l4 with
    | none=>rfl
    | some o =>
     have n4:l4≠p:=(A9 ((LG.same u12).same u3).get hl4).symm;have:=(u12.trans u3) _ _ (kG l4 o z (by simpa using n4));rw[hl4]at this;cases this
   refine ex1 rfl (J7 (a:=p) rfl LG (by omega) (by decide) (by decide) fun d4 G2 hd4 k4 L4=>⟨rfl,_,rfl,?_⟩);have e4:=Sm1 k4 eG (LG.ne eG);have k4:=kG.trans k4;refine Au (fun _=>?_) (fun _=>rest2 _ _ _ (List.Perm.refl _) (by omega) k4 e4 L4);refine ex1 rfl ⟨.inl ⟨rfl,_,SqL.of e4⟩,D,_,rfl,rfl,e4,?_⟩;have npD:p≠D:=A9 hL.get hD;exact rest2 (nP pe).reverse _ _ (List.reverse_perm _) (by omega) (k4.updN hD) (by rw[A7,List.map_reverse]) (L4.upd npD)
  refine ex1 rfl (B8 rfl rfl (ex1 rfl (Au (fun h=>?_) (fun h=>rest r _ _ hr8 (by omega) k3 e3 L3))));refine ex1 rfl (J7 (a:=p) rfl L3 (by omega) (by decide) (by decide) fun d3 H4 hd3 k4 L4=>B8 rfl rfl ?_);have:=rest (1+d3) _ H4 (by omega) (by omega) (k3.trans k4) (Sm1 k4 e3 (L3.ne e3)) L4;rw[Int.natCast_add]at this;exact this
end
structure Sz(n0 n1 n2 n3:Nat):Prop where
 h0:n0<=8
 h1:n1<=12
 h2:n2<=12
 h3:n3<=12
 one:0<n3->0<n1
section
variable{P:Program}{w:World}{K:PySem.W.Frag}{mg:Str->Option Value}{base:Heap}
theorem V0:FnScope ["_law_left_here", "_law_most", "_law_way", "_law_some"] ["_law_left_here", "_law_most"] (B6 s_law_sizes):=fsc
def Gr:Sp:=fun vs H Q _=>∃(p:Addr) (c:Int),vs = [.ref p,.int 12]/\LeftAt H p c/\c<=800000 /\
 ∀l (n0 n1 n2 n3:Nat) c' H',H l=none->Sm [p] H H'->H' l=some (.lst [.int (n0:Int),.int (n1:Int),.int (n2:Int),.int (n3:Int)])->Sz n0 n1 n2 n3->c'<=c+5->LeftAt H' p c'->Q (.ref l) H'
set_option maxHeartbeats 2000000 in
theorem Aq(T:Tx K mg):FnOk P w K mg base CX0 3 T.aJ.f T.aJ.fd ["_law_left_here", "_law_most"] Gr:=by
 have G_law_pick:=E7 (P:=P) (w:=w) (base:=base) T;have sc:=V0;refine T.aJ.F.ok V0 (fun vs H Q E h=>?_) (fun cdv A outer s H vs Q E hr h=>?_)
 .obtain⟨p,c,rfl,_⟩:=h;rfl
 .obtain⟨p,c,rfl,hL,c1,q⟩:=h;refine⟨_,(B3 (C5 (i:=2) sc.nd rfl (.inl rfl) (C2 T.ad G_law_pick (Rm hr) (A6 (pv 0) (A6 B2 A8))))
   (B3 (J2 (E2 Af (pv 2) B2 (D9 _)) (B7 (C3 (E8 Co (D8 (A6 (E8 Fv B2 (C2 T.ad G_law_pick (Rm hr) (A6 (pv 0) (A6 B2 A8)))) A8)) (U5 (N':=["_law_k", "_law_most", "_law_left_here"]) (cap:=[none,some 1,some 0]) (cl:=[("_law_most",_),("_law_left_here",_)]) (O6 ⟨⟨rfl,rfl,rfl,rfl⟩,⟨⟨rfl,rfl,rfl,rfl⟩,trivial⟩⟩ ⟨rfl,⟨rfl,trivial⟩⟩) rfl (Hh T.ao (A6 B2 A8)) (fun _ _ _ _=>by exact⟨(pgC 0),E1,(E8 Fv (pv 1) (C2 T.ad G_law_pick (Rm hr) (A6 (pv 2) (A6 B2 A8))))⟩))))) C7)
   (B3 (J2 (E2 Af (pv 2) B2 (D9 _)) (B7 (C3 (D8 (A6 (C2 T.ad G_law_pick (Rm hr) (A6 (pv 0) (A6 B2 A8))) (A6 (C2 T.ad G_law_pick (Rm hr) (A6 (pv 0) (A6 B2 A8))) (A6 (C2 T.ad G_law_pick (Rm hr) (A6 (pv 0) (A6 B2 A8))) (A6 B2 A8))))))) C7)
   (@B3 _ _ _ _ _ (@C5 _ _ 3 _ _ _ _ sc.nd rfl (.inl rfl) (@D8 _ _ _ _ (@A6 _ _ _ _ _ (D8 (A6 B2 (A6 B2 (A6 B2 (A6 B2 A8))))) (@A6 _ _ _ _ _ (D8 (A6 B2 (A6 B2 (A6 B2 (A6 B2 A8))))) (@A6 _ _ _ _ _ (D8 (A6 B2 (A6 B2 (A6 B2 (A6 B2 A8))))) (@A6 _ _ _ _ _ (D8 (A6 B2 (A6 B2 (A6 B2 (A6 B2 A8))))) (@A6 _ _ _ _ _ (D8 (A6 B2 (A6 B2 (A6 B2 (A6 B2 A8))))) (@A6 _ _ _ _ _ (D8 (A6 B2 (A6 B2 (A6 B2 (A6 B2 A8))))) A8 (by rfl)) (by rfl)) (by rfl)) (by rfl)) (by rfl)) (by rfl))) (by rfl) (by first | exact .inl rfl | exact .inr rfl | assumption))
   (B7 (C3 (C1 (ixL K) (pv 3) (E8 Fv (pv 2) B2) (fun _ _=>rfl)))))))),?_⟩
  have new:∀{G:Hp} {l:Addr},Sm [p] H G->(∃c,LeftAt G p c)->G l=none->H l=none:=fun{G l} k ⟨c,L⟩ hl=>by
   cases z:H l with
   | none=>rfl
   | some o =>
    have:=k l o z (by simpa using (A9 L.get hl).symm);rw[hl]at this;cases this
  refine B9 fun N1 hN1=>?_;refine ex1 rfl (J7 (a:=p) rfl hL (by omega) (by decide) (by decide) fun d H1 hd k1 L1=>?_);refine hN1 _ _ (B9 fun N2 hN2=>?_);refine ex1 rfl ⟨rfl,ex1 rfl (Au (fun c0=>?_) (fun c0=>?_))⟩
  .refine ex1 rfl (J7 (a:=p) rfl L1 (by omega) (by decide) (by decide) fun d1 H2 hd1 k2 L2=>B8 rfl rfl ⟨by show 1<=sizeLine;decide,fun l1 hl1=>?_⟩);have e8:((8:Int)-(d1:Int)) =((8-d1:Nat):Int):=by omega
   dsimp only;rw[e8];have u1:=Same.new (o:=.lst [.int ((8-d1:Nat):Int)]) hl1;have f1:(upd H2 l1 (.lst [.int ((8-d1:Nat):Int)])) l1=some (.lst [.int ((8-d1:Nat):Int)]):=A7;generalize upd H2 l1 (.lst [.int ((8-d1:Nat):Int)])=H3 at u1 f1⊢;have L3:=L2.same u1;have k3:=k1.trans (k2.trans u1.sm);refine ex1 rfl ⟨by decide,by decide,fun D hD=>?_⟩;have npD:p≠D:=A9 L3.get hD;have nlD:l1≠D:=A9 f1 hD;have npl:l1≠p:=(A9 L2.get hl1).symm;have hD0:=new k3 ⟨_,L3⟩ hD;refine V4 (n:=3) (fun i σ G=>(∃v,σ = [v,some (.int 12),some (.ref p)])/\Sm [p] H G/\LeftAt G p (c+2+i)/\G l1=some (.lst [.int ((8-d1:Nat):Int)])/\∃ds:List Nat,G D=some (.lst (ds.map fun n:Nat=>V.int (n:Int)))/\ds.length=i/\∀x∈ds,10<=x/\x<=12) ?_ (fun i _ _ hi _=>hi) (fun _ _ _=>AG _) ?_ ?_
   .exact⟨⟨_,rfl⟩,k3.updN hD0,(L3.cast (by omega)).upd npD,by rw[B4 nlD];exact f1,[],A7,rfl,fun x h=>absurd h AI⟩
   .rintro i σ G v G' N hi ⟨⟨v0,rfl⟩,kG,LG,fG,ds,eG,hl,hx⟩ ⟨rfl,rfl⟩ hN;refine U1 ?_;refine ex1 rfl (ex1 rfl (J7 (a:=p) rfl LG (by omega) (by decide) (by decide) fun d3 G2 hd3 k4 L4=>B8 rfl rfl ?_));have e12:((12:Int)-(d3:Int)) =((12-d3:Nat):Int):=by omega
    have eD:=Sm1 k4 eG npD.symm;refine⟨_,eD,by rw[AA,sizeLine_eq];omega,hN _ _ ⟨⟨_,rfl⟩,(kG.trans k4).updN hD0,(L4.cast (by omega)).upd npD,by rw[B4 nlD];exact Sm1 k4 fG npl,ds ++ [12-d3],?_,by rw[BA,hl];rfl,fun x hm=>?_⟩⟩
    .rw[A7,AL];dsimp only;rw[e12];rfl
    .rcases A_.mp hm with y | y
     .exact hx x y
     .rw[AC.mp y];omega
   .rintro σ G ⟨⟨v0,rfl⟩,kG,LG,fG,ds,eG,hl,hx⟩;refine⟨l1,D,_,_,rfl,rfl,fG,eG,by rw[AA,hl];show 1+3<=sizeLine;decide,fun l2 hl2=>?_⟩
    match ds,hl,hx with
    | [a,b,e],_,hx =>
     obtain⟨a1,a2⟩:=hx a (by simp);obtain⟨b1,b2⟩:=hx b (by simp);obtain⟨g1,g2⟩:=hx e (by simp);exact q l2 (8-d1) a b e _ _ (new kG ⟨_,LG⟩ hl2) (kG.trans (Same.new hl2).sm) A7 ⟨by omega,a2,b2,g2,fun _=>by omega⟩ (by omega) (LG.same (Same.new hl2))
  refine hN2 _ _ (B9 fun N3 hN3=>?_);refine ex1 rfl ⟨rfl,ex1 rfl (Au (fun c1=>?_) (fun c1=>?_))⟩
  .refine ex1 rfl (J7 (a:=p) rfl L1 (by omega) (by decide) (by decide) fun d1 H2 hd1 k2 L2=>?_);refine ex1 rfl (J7 (a:=p) rfl L2 (by omega) (by decide) (by decide) fun d2 H3 hd2 k3 L3=>?_);refine ex1 rfl (J7 (a:=p) rfl L3 (by omega) (by decide) (by decide) fun d3 H4 hd3 k4 L4=>?_);have k:=k1.trans (k2.trans (k3.trans k4));refine⟨by show 4<=sizeLine;decide,fun l hl=>?_⟩;exact q l d1 d2 d3 0 _ _ (new k ⟨_,L4⟩ hl) (k.trans (Same.new hl).sm) A7 ⟨by omega,by omega,by omega,by omega,fun h=>absurd h (by omega)⟩ (by omega) (L4.same (Same.new hl))
  refine hN3 _ _ (B9 fun N4 hN4=>?_);refine⟨by show 4<=sizeLine;decide,fun l1 hl1=>?_⟩;have u1:=Same.new (o:=.lst [V.int 3,.int 4,.int 4,.int 0]) hl1;have e1:(upd H1 l1 (.lst [V.int 3,.int 4,.int 4,.int 0])) l1=some (.lst [V.int 3,.int 4,.int 4,.int 0]):=A7;generalize upd H1 l1 (.lst [V.int 3,.int 4,.int 4,.int 0])=G1 at u1 e1⊢;refine⟨by show 4<=sizeLine;decide,fun l2 hl2=>?_⟩;have u2:=Same.new (o:=.lst [V.int 3,.int 4,.int 5,.int 2]) hl2;have e2:(upd G1 l2 (.lst [V.int 3,.int 4,.int 5,.int 2])) l2=some (.lst [V.int 3,.int 4,.int 5,.int 2]):=A7;generalize upd G1 l2 (.lst [V.int 3,.int 4,.int 5,.int 2])=G2 at u2 e2⊢;refine⟨by show 4<=sizeLine;decide,fun l3 hl3=>?_⟩;have u3:=Same.new (o:=.lst [V.int 2,.int 3,.int 3,.int 2]) hl3;have e3:(upd G2 l3 (.lst [V.int 2,.int 3,.int 3,.int 2])) l3=some (.lst [V.int 2,.int 3,.int 3,.int 2]):=A7;generalize upd G2 l3 (.lst [V.int 2,.int 3,.int 3,.int 2])=G3 at u3 e3⊢;refine⟨by show 4<=sizeLine;decide,fun l4 hl4=>?_⟩;have u4:=Same.new (o:=.lst [V.int 4,.int 5,.int 5,.int 3]) hl4;have e4:(upd G3 l4 (.lst [V.int 4,.int 5,.int 5,.int 3])) l4=some (.lst [V.int 4,.int 5,.int 5,.int 3]):=A7;generalize upd G3 l4 (.lst [V.int 4,.int 5,.int 5,.int 3])=G4 at u4 e4⊢;refine⟨by show 4<=sizeLine;decide,fun l5 hl5=>?_⟩;have u5:=Same.new (o:=.lst [V.int 3,.int 3,.int 5,.int 1]) hl5;have e5:(upd G4 l5 (.lst [V.int 3,.int 3,.int 5,.int 1])) l5=some (.lst [V.int 3,.int 3,.int 5,.int 1]):=A7;generalize upd G4 l5 (.lst [V.int 3,.int 3,.int 5,.int 1])=G5 at u5 e5⊢;refine⟨by show 4<=sizeLine;decide,fun l6 hl6=>?_⟩;have u6:=Same.new (o:=.lst [V.int 2,.int 4,.int 4,.int 2]) hl6;have e6:(upd G5 l6 (.lst [V.int 2,.int 4,.int 4,.int 2])) l6=some (.lst [V.int 2,.int 4,.int 4,.int 2]):=A7;generalize upd G5 l6 (.lst [V.int 2,.int 4,.int 4,.int 2])=G6 at u6 e6⊢;refine⟨by show 6<=sizeLine;decide,fun l7 hl7=>?_⟩;have u7:=Same.new (o:=.lst [V.ref l1,.ref l2,.ref l3,.ref l4,.ref l5,.ref l6]) hl7;have e7:(upd G6 l7 (.lst [V.ref l1,.ref l2,.ref l3,.ref l4,.ref l5,.ref l6])) l7=some (.lst [V.ref l1,.ref l2,.ref l3,.ref l4,.ref l5,.ref l6]):=A7;generalize upd G6 l7 (.lst [V.ref l1,.ref l2,.ref l3,.ref l4,.ref l5,.ref l6])=G7 at u7 e7⊢;have v6:=u7;have v5:=u6.trans v6;have v4:=u5.trans v5;have v3:=u4.trans v4;have v2:=u3.trans v3;have v1:=u2.trans v2;have v0:=u1.trans v1;have k7:=k1.trans v0.sm;have L7:=L1.same v0;have n1:H l1=none:=new k1 ⟨_,L1⟩ hl1;have n2:H l2=none:=new (k1.trans u1.sm) ⟨_,(L1.same u1)⟩ hl2;have n3:H l3=none:=new (k1.trans (u1.trans u2).sm) ⟨_,(L1.same (u1.trans u2))⟩ hl3;have n4:H l4=none:=new (k1.trans ((u1.trans u2).trans u3).sm) ⟨_,(L1.same ((u1.trans u2).trans u3))⟩ hl4;have n5:H l5=none:=new (k1.trans (((u1.trans u2).trans u3).trans u4).sm) ⟨_,(L1.same (((u1.trans u2).trans u3).trans u4))⟩ hl5;have n6:H l6=none:=new (k1.trans ((((u1.trans u2).trans u3).trans u4).trans u5).sm) ⟨_,(L1.same ((((u1.trans u2).trans u3).trans u4).trans u5))⟩ hl6;refine hN4 _ _ ?_;have hd2:2<=d:=by
   have a0:d≠0:=fun z=>by subst z;exact absurd rfl (fun y=>c0 (AQ y))
   have a1:d≠1:=fun z=>by subst z;exact absurd rfl (fun y=>c1 (AQ y))
   omega
  refine ex1 rfl (ex1 rfl (B8 rfl rfl ?_));obtain⟨i,rfl⟩:∃i,d=i+2:=⟨d-2,by omega⟩;have ei:(((i+2:Nat):Int)-2) =(i:Int):=by omega
  dsimp only;rw[ei]
  match i,hd with
  | 0,_=>exact⟨l7,_,_,_,rfl,rfl,SqL.of e7,B5 (j:=0) rfl,q l1 3 4 4 0 _ _ n1 k7 (v1 _ _ e1) ⟨by decide,by decide,by decide,by decide,by decide⟩ (by omega) L7⟩
  | 1,_=>exact⟨l7,_,_,_,rfl,rfl,SqL.of e7,B5 (j:=1) rfl,q l2 3 4 5 2 _ _ n2 k7 (v2 _ _ e2) ⟨by decide,by decide,by decide,by decide,by decide⟩ (by omega) L7⟩
  | 2,_=>exact⟨l7,_,_,_,rfl,rfl,SqL.of e7,B5 (j:=2) rfl,q l3 2 3 3 2 _ _ n3 k7 (v3 _ _ e3) ⟨by decide,by decide,by decide,by decide,by decide⟩ (by omega) L7⟩
  | 3,_=>exact⟨l7,_,_,_,rfl,rfl,SqL.of e7,B5 (j:=3) rfl,q l4 4 5 5 3 _ _ n4 k7 (v4 _ _ e4) ⟨by decide,by decide,by decide,by decide,by decide⟩ (by omega) L7⟩
  | 4,_=>exact⟨l7,_,_,_,rfl,rfl,SqL.of e7,B5 (j:=4) rfl,q l5 3 3 5 1 _ _ n5 k7 (v5 _ _ e5) ⟨by decide,by decide,by decide,by decide,by decide⟩ (by omega) L7⟩
  | 5,_=>exact⟨l7,_,_,_,rfl,rfl,SqL.of e7,B5 (j:=5) rfl,q l6 2 4 4 2 _ _ n6 k7 (v6 _ _ e6) ⟨by decide,by decide,by decide,by decide,by decide⟩ (by omega) L7⟩
  | n+6,hd=>exact absurd hd (by omega)
end
def sd(ss:List Str):PyData:=.list (ss.map PyData.str)
theorem Bv{K:PySem.W.Frag}{H:Hp}:∀ss:List Str,Rps K H (ss.map PyData.str) (ss.map V.str)
 | []=>by simp[Rps]
 | x::r=>by
  simp only[BR,Rps,Rp];exact⟨_,_,rfl,rfl,Bv r⟩
theorem Ga{K:PySem.W.Frag}{H:Hp}{l:Addr}{ss:List Str}(h:SqL K H l (ss.map V.str)):Rp K H (sd ss) (.ref l):=by
 unfold sd;simp only[Rp];exact⟨l,_,rfl,h,Bv ss⟩
theorem U7:∀ss:List Str,PyData.depthAll (ss.map PyData.str)<=1
 | []=>by simp[PyData.depthAll]
 | x::r=>by
  have:=U7 r;simp only[BR,PyData.depthAll,PyData.depth];omega
theorem Cp:∀{ss:List Str},(∀x∈ss,PySem.PyData.strOk x=true)->PyData.canLayAll0 (ss.map PyData.str)=true
 | [],_=>rfl
 | x::r,h=>by
  rw[BR,PyData.canLayAll0,Cp fun z hz=>h z (AW _ hz)];simp[PyData.canLay0,h x (AX ..)]
theorem Eg{ss:List Str}(h:∀x∈ss,C9 x=true):Pl (sd ss):=by
 refine⟨?_,?_⟩
 .unfold sd;rw[PyData.canLay0];exact Cp fun x hx=>C8 (h x hx)
 .unfold sd;rw[PyData.depth];have:=U7 ss;omega
theorem Iw{K:PySem.W.Frag}{x y:V}{d:PyData}{H:Hp}{Q:VK}(h1:Rp K H d x)(h2:Rp K H d y)(p:Pl d)(q:Q (.bl true) H):Ln K x y H Q :=
 ⟨d,d,h1,h2,p,p,by rw[PySem.SeqAt.eqv_refl d p.1];exact q⟩
theorem Kq:∀ds:List PyData,PyData.eqv (.list ds) (.list [])=ds.isEmpty
 | []=>by rw[PyData.eqv,PyData.eqvAll];rfl
 | _::_=>by rw[PyData.eqv,PyData.eqvAll];rfl
theorem Cu(ss:List Str):PyData.eqv (sd ss) (.list [])=ss.isEmpty:=by
 unfold sd;rw[Kq];cases ss<;>rfl
theorem Md:Pl (.list []):=⟨by simp[PyData.canLay0,PyData.canLayAll0],by simp[PyData.depth,PyData.depthAll]⟩
theorem Nm{K:PySem.W.Frag}{H:Hp}{l:Addr}(h:SqL K H l []):Rp K H (.list []) (.ref l):=by
 simp only[Rp];exact⟨l,_,rfl,h,by simp[Rps]⟩
theorem Jc{d:Nat}(h:d<3):∃k:Str,atI [V.str "claim",.str "claim",.str "fact"] (d:Int)=some (.str k)/\(k = "fact"\/k = "claim"):=by
 match d,h with
 | 0,_=>exact⟨"claim",rfl,.inr rfl⟩
 | 1,_=>exact⟨"claim",rfl,.inr rfl⟩
 | 2,_=>exact⟨"fact",rfl,.inl rfl⟩
section
variable{P:Program}{w:World}{K:PySem.W.Frag}{mg:Str->Option Value}{base:Heap}
theorem L0:FnScope ["_law_left_here", "_law_most", "_law_many", "_law_people_here", "_law_names", "_law_said", "_law_sayings", "_law_strikes", "_law_name", "_law_goals", "_law_backs", "_law_k", "_law_pair"] ["_law_left_here", "_law_most"] (B6 s_law_weave_rows):=fsc
def Hz:Sp:=fun vs H Q _=>∃(p:Addr) (c:Int),vs = [.ref p,.int 12]/\LeftAt H p c/\c<=700000 /\
 ∀r a b g d (pe:List PEr) (sa:List SAr) (st:List STr) (ba:List PA2) c' H',Sm [p] H H'->H' r=some (.lst [.ref a,.ref b,.ref g,.ref d])->WRows H' a b g d pe sa st ba->WOk pe sa st ba->LeftAt H' p c'->c'<=c+5000->Q (.ref r) H'
set_option maxHeartbeats 8000000 in
theorem U6(T:Tx K mg):FnOk P w K mg base CX0 6 T.ar.f T.ar.fd ["_law_left_here", "_law_most"] Hz:=by
 have G_law_pick:=E7 (P:=P) (w:=w) (base:=base) T;have G_law_sizes:=Aq (P:=P) (w:=w) (base:=base) T;have G_law_people:=o3 (P:=P) (w:=w) (base:=base) T;have G_law_spelled:=Q2 (P:=P) (w:=w) (base:=base) T;have G_law_many_names:=U4 (P:=P) (w:=w) (base:=base) T;have G_law_speakers:=a7 (P:=P) (w:=w) (base:=base) T;have sc:=L0;refine T.ar.F.ok L0 (fun vs H Q E h=>?_) (fun cdv A outer s H vs Q E hr h=>?_)
 .obtain⟨p,c,rfl,_⟩:=h;rfl
 .obtain⟨p,c,rfl,hL,c0,q⟩:=h;refine⟨_,(B3 (C5 (i:=2) sc.nd rfl (.inl rfl) (C2 T.aJ G_law_sizes (Rm hr) (A6 (pv 0) (A6 (pv 1) A8))))
   (B3 (C5 (i:=3) sc.nd rfl (.inr rfl) (C2 T.aG G_law_people (Rm hr) (A6 (pv 0) (A6 (C1 (ixL K) (pv 2) B2 (fun _ _=>rfl)) A8))))
   (B3 (C5 (i:=4) sc.nd rfl (.inl rfl) (C2 T.au G_law_spelled (Rm hr) (A6 (pv 0) (A6 (C2 T.aq G_law_many_names (Rm hr) (A6 (pv 0) (A6 (E8 S0 (C1 (ixL K) (pv 2) B2 (fun _ _=>rfl)) (C1 (ixL K) (pv 2) B2 (fun _ _=>rfl))) A8))) A8))))
   (B3 (C5 (i:=5) sc.nd rfl (.inl rfl) (O1 (slL K) (pv 4) Q5 (R0 (C1 (ixL K) (pv 2) B2 (fun _ _=>rfl)))))
   (B3 (S2 (i:=6) (N':=["_law_name", "_law_left_here", "_law_people_here"]) (cap:=[none,some 0,some 3]) (cl:=[("_law_people_here",_),("_law_left_here",_)]) sc.nd rfl (.inl rfl) (O6 ⟨⟨rfl,rfl,rfl,rfl⟩,⟨⟨rfl,rfl,rfl,rfl⟩,trivial⟩⟩ ⟨rfl,⟨rfl,trivial⟩⟩) rfl (piL K (pv 5)) (fun _ _ _ _=>by exact⟨(pgC 0),E1,(J4 (A6 (pv 0) (A6 (C1 (ixL K) (D8 (A6 D0 (A6 D0 (A6 D0 A8)))) (C2 T.ad G_law_pick (Rm hr) (A6 (pv 1) (A6 B2 A8))) (fun _ _=>rfl)) (A6 (C2 T.aC G_law_speakers (Rm hr) (A6 (pv 1) (A6 (pv 2) A8))) A8))))⟩))
   (B3 (C5 (i:=7) sc.nd rfl (.inl rfl) (D8 A8))
   (B3 (S3 PassesOwn.never rfl (piL K (O1 (slL K) (pv 4) (R0 (C1 (ixL K) (pv 2) B2 (fun _ _=>rfl))) Q5)) (J3 (i:=8) sc.nd rfl (.inl rfl))
   (B7 (J2 (E2 (Od K hr.units) (pv 5) (D8 A8) (D9 _)) (B3 (C5 (i:=9) sc.nd rfl (.inl rfl) (C1 (ixL K) (D8 (A6 (pv 5) (A6 (pv 5) (A6 (pv 4) A8)))) (C2 T.ad G_law_pick (Rm hr) (A6 (pv 0) (A6 B2 A8))) (fun _ _=>rfl)))
   (B7 (E3 (Bp K PySem.F.plainAttrs_list PySem.F.slot_list_append PySem.F.type_list_append E5 (pv 7) (A6 (J4 (A6 (pv 8) (A6 (C1 (ixL K) (pv 5) (C2 T.ad G_law_pick (Rm hr) (A6 (pv 0) (A6 (D4 (K3 K) T.ah I9 (A6 (pv 5) A8)) A8))) (fun _ _=>rfl)) (A6 (C1 (ixL K) (pv 9) (C2 T.ad G_law_pick (Rm hr) (A6 (pv 0) (A6 (D4 (K3 K) T.ah I9 (A6 (pv 9) A8)) A8))) (fun _ _=>rfl)) A8)))) A8))))) C7)))
   (B3 (C5 (i:=10) sc.nd rfl (.inl rfl) (D8 A8))
   (B3 (S3 PassesOwn.never rfl (Hh T.ao (A6 (C1 (ixL K) (pv 2) B2 (fun _ _=>rfl)) A8)) (J3 (i:=11) sc.nd rfl (.inl rfl))
   (B3 (C5 (i:=12) sc.nd rfl (.inl rfl) (J4 (A6 (C1 (ixL K) (pv 5) (C2 T.ad G_law_pick (Rm hr) (A6 (pv 0) (A6 (D4 (K3 K) T.ah I9 (A6 (pv 5) A8)) A8))) (fun _ _=>rfl)) (A6 (C1 (ixL K) (pv 5) (C2 T.ad G_law_pick (Rm hr) (A6 (pv 0) (A6 (D4 (K3 K) T.ah I9 (A6 (pv 5) A8)) A8))) (fun _ _=>rfl)) A8))))
   (B7 (J2 (PW.pt (Ep (E2 Hv (C1 (ixT K) (pv 12) B2 (fun _ _=>rfl)) (C1 (ixT K) (pv 12) B2 (fun _ _=>rfl)) (D9 _)) (Bi (E2 (Hb K hr.units) (pv 12) (pv 10) rfl)))) (B7 (E3 (Bp K PySem.F.plainAttrs_list PySem.F.slot_list_append PySem.F.type_list_append E5 (pv 10) (A6 (pv 12) A8)))) C7))))
   (B7 (C3 (D8 (A6 (pv 3) (A6 (pv 6) (A6 (pv 7) (A6 (pv 10) A8)))))))))))))))),?_⟩
  refine B9 fun N1 hN1=>?_;refine ex1 rfl (ex1 rfl ⟨p,c,rfl,hL,by omega,fun m n0 n1 n2 n3 c1 H1 hm k1 e1 Z hc1 L1=>?_⟩);have nmp:m≠p:=L1.neL e1 fun x y z=>by cases z
  refine hN1 _ _ (B9 fun N2 hN2=>?_);refine ex1 rfl (ex1 rfl ⟨m,_,B8 rfl rfl ⟨SqL.of e1,B5 (j:=0) rfl,?_⟩⟩);refine⟨p,c1,n0,rfl,L1,by omega,Z.h0,fun a pe c2 H2 ha k2 R2 len2 nd2 ok2 hc2 L2=>?_⟩;have e2:=Sm1 k2 e1 nmp;refine hN2 _ _ (B9 fun N3 hN3=>?_);refine ex1 rfl (ex1 rfl (ex1 rfl ⟨m,_,B8 rfl rfl ⟨SqL.of e2,B5 (j:=1) rfl,ex1 rfl ⟨m,_,B8 rfl rfl ⟨SqL.of e2,B5 (j:=2) rfl,B8 rfl rfl ?_⟩⟩⟩⟩));have e12:((n1:Int) +(n2:Int)) =((n1+n2:Nat):Int):=by omega
  dsimp only;rw[e12];have z1:=Z.h1;have z2:=Z.h2;have z3:=Z.h3;refine⟨p,c2,n1+n2,rfl,L2,by omega,by omega,fun nl ss H3 hnl k3 e3 len3 N3' L3=>?_⟩;have R3:=R2.sm L2 k3;have m3:=Sm1 k3 e2 nmp;refine⟨p,nl,_,ss,rfl,L3,by omega,e3,N3',by omega,fun nm ts c4 H4 hnm k4 e4 N4' len4 hc4 L4=>?_⟩;have R4:=R3.sm L3 k4;have m4:=Sm1 k4 m3 nmp;have k4:=(k1.trans k2).trans (k3.trans k4);clear k1 k2 k3 e1 e2 m3 R2 R3 e3 hnl N3' L1 L2 L3;refine hN3 _ _ (B9 fun N4 hN4=>?_);refine ex1 rfl (ex1 rfl ⟨m,_,B8 rfl rfl ⟨SqL.of m4,B5 (j:=1) rfl,_,rfl,nm,_,rfl,SqL.of e4,fun sq hsd=>?_⟩⟩);have us:=Same.new (o:=.lst (R8 (ts.map V.str) none (some (n1:Int)))) hsd;have e5:(upd H4 sq (.lst (R8 (ts.map V.str) none (some (n1:Int))))) sq=some (.lst ((ts.take n1).map V.str)):=by rw[A7,X6,BZ]
  generalize upd H4 sq (.lst (R8 (ts.map V.str) none (some (n1:Int))))=H5 at us e5⊢;have R5:=R4.same us;have m5:=us _ _ m4;have f5:=us _ _ e4;have L5:=L4.same us;have k5:=k4.trans us.sm;clear R4 m4 e4 L4 k4 us hsd;have lts:ts.length=n1+n2:=by omega
  refine hN4 _ _ (B9 fun N5 hN5=>?_);have l8:pe.length<=8:=by have:=Z.h0;omega
  have c5:c4<=c+1000:=by omega
  clear hc1 hc2 hc4;refine ex1 rfl ⟨sq,rfl,⟨_,SqL.of e5⟩,fun D hD=>?_⟩;have npD:p≠D:=A9 L5.get hD;refine f8 (asL (K:=K) (SqL.of e5)) (fun i σ G=>(∃v,σ = [v,some (.ref p),some (.ref a)])/\Sm [p] H5 G/\(∃c',c'<=c4+10*i/\LeftAt G p c')/\∃sa:List SAr,RowsAt G D (sa.map rS)/\(∀q∈sa,q.2.2.2.1≠D/\G q.2.2.2.1=some (.lst (q.2.2.2.2.map V.str))/\(q.2.2.1 = "fact"\/q.2.2.1 = "claim")/\(∀x∈q.2.2.2.2,x∈nP pe)/\q.2.2.2.2.Nodup/\q.2.2.2.2.length<=8)/\nS sa =(ts.take n1).take i)
   ⟨⟨_,rfl⟩,(Sm.refl _ _).updN hD,⟨_,by omega,L5.upd npD⟩,[],⟨A7,fun q h=>absurd h AI⟩,fun q h=>absurd h AI,rfl⟩ (fun i σ G _ ⟨_,kG,_⟩ o e=>kG sq o e (by simpa using L5.ne e5)) ?_ ?_
  .rintro i σ G v N hx ⟨⟨v0,rfl⟩,kG,⟨c6,hc6,LG⟩,sa,RG,spG,nG⟩ hN;rw[AH]at hx;obtain⟨x,hy,rfl⟩:=AU.mp hx;have hx:=hy;have li:=(AM.mp hx).1;rw[AV]at li;have lsa:sa.length=i:=by
    have:=congrArg List.length nG;unfold nS at this;rw[AA,AV,AV]at this;omega
   refine U1 (ex1 rfl ⟨by show 3<=sizeLine;decide,fun t ht=>?_⟩);have ut:=Same.new (o:=.lst [V.str "claim",.str "claim",.str "fact"]) ht;refine ex1 rfl (J7 (a:=p) rfl (LG.same ut) (by omega) (by decide) (by decide) fun dd G2 hd k2 L2=>?_);obtain⟨kd,hk1,hk2⟩:=Jc (d:=dd) (by omega);have et:G2 t=some (.lst [V.str "claim",.str "claim",.str "fact"]):=Sm1 k2 A7 (A9 LG.get ht).symm;refine⟨t,_,B8 rfl rfl ⟨SqL.of et,hk1,?_⟩⟩;have k2:=ut.sm.trans k2;have kG2:=kG.trans k2;refine ex1 rfl (ex1 rfl ⟨p,a,_,pe,rfl,L2,by omega,R5.sm L5 kG2,l8,nd2,fun l ss' c7 G3 hl k3 el sub nds lss hc7 L3=>⟨by show 3<=sizeLine;decide,fun t2 ht2=>?_⟩⟩);have u4:=Same.new (o:=.tup [.str x,.str kd,.ref l]) ht2;have k4:Sm [p] G (upd G3 t2 (.tup [.str x,.str kd,.ref l])):=k2.trans (k3.trans u4.sm);have R4:=RG.sm LG k4;have nlD:l≠D:=(A9 (RG.sm LG k2).at_ hl).symm;have e4:=u4 _ _ el;have L4:=L3.same u4;have et2:(upd G3 t2 (.tup [.str x,.str kd,.ref l])) t2=some (.tup [.str x,.str kd,.ref l]):=A7;generalize upd G3 t2 (.tup [.str x,.str kd,.ref l])=G4 at k4 R4 e4 L4 et2⊢;refine⟨_,R4.at_,by rw[AA,AA,sizeLine_eq];omega,hN _ _ ⟨⟨_,rfl⟩,(kG.trans k4).updN hD,⟨_,by omega,L4.upd npD⟩,sa ++ [(t2,x,kd,l,ss')],?_,fun z hz=>?_,?_⟩⟩
   .rw[AL];exact R4.snoc et2
   .rcases A_.mp hz with y | y
    .obtain⟨y1,y2,y3⟩:=spG z y;exact⟨y1,(B4 y1).trans (Sm1 k4 y2 (LG.ne y2)),y3⟩
    .rw[AC.mp y];exact⟨nlD,(B4 nlD).trans e4,hk2,sub,nds,lss⟩
   .unfold nS at nG⊢;rw[AL,nG,J5 hx];rfl
  .rintro σ G ⟨⟨v0,rfl⟩,kG,⟨c6,hc6,LG⟩,sa,RG,spG,nG⟩;rw[AA,CB]at nG;have c6':c6<=c+1200:=by
    rw[AA,AV]at hc6;omega
   clear hc6;have m6:=Sm1 kG m5 nmp;have R6:=R5.sm L5 kG;have f6:=Sm1 kG f5 (L5.ne f5);have e6:=Sm1 kG e5 (L5.ne e5);have k6:=k5.trans kG;clear m5 R5 f5 e5 kG k5;refine hN5 _ _ (B9 fun N6 hN6=>?_);refine⟨BU _,fun S hS=>?_⟩;have uS:=Same.new (o:=.lst []) hS;have eS:(upd G S (.lst [])) S=some (.lst []):=A7;have L7:=LG.same uS;have k7:Sm [p] G (upd G S (.lst [])):=uS.sm;have npS:p≠S:=A9 LG.get hS;generalize upd G S (.lst [])=H7 at eS L7 k7⊢;refine hN6 _ _ (B9 fun N7 hN7=>?_);have m7:=Sm1 k7 m6 nmp;have f7:=Sm1 k7 f6 (LG.ne f6);refine ex1 rfl (ex1 rfl ⟨m,_,B8 rfl rfl ⟨SqL.of m7,B5 (j:=1) rfl,_,rfl,nm,_,rfl,SqL.of f7,fun rs hrs=>?_⟩⟩);have ur:=Same.new (o:=.lst (R8 (ts.map V.str) (some (n1:Int)) none)) hrs;have e8:(upd H7 rs (.lst (R8 (ts.map V.str) (some (n1:Int)) none))) rs=some (.lst ((ts.drop n1).map V.str)):=by rw[A7,Ci _ _ (by rw[AA];omega),List.map_drop]
   have nrS:rs≠S:=(A9 eS hrs).symm;have nrp:rs≠p:=(A9 L7.get hrs).symm;have eS8:=ur _ _ eS;have L8:=L7.same ur;have k8:=k7.trans ur.sm;clear m7 f7 k7 L7 eS;generalize upd H7 rs (.lst (R8 (ts.map V.str) (some (n1:Int)) none))=H8 at e8 eS8 L8 k8⊢;refine⟨rs,rfl,⟨_,SqL.of e8⟩,p6 (asL (SqL.of e8)) (fun i σ G'=>(∃v8 v9 v10 v11 v12,σ = [some (.ref p),some (.int 12),some (.ref m),some (.ref a),some (.ref nm),some (.ref sq),some (.ref D),some (.ref S),v8,v9,v10,v11,v12])/\Sm [p] G G'/\G' rs=some (.lst ((ts.drop n1).map V.str))/\(∃c',c'<=c6+3*i/\LeftAt G' p c')/\∃st:List STr,RowsAt G' S (st.map rT)/\nT st =(if ts.take n1 = []then []else(ts.drop n1).take i)/\∀q∈st,q.2.2.1∈ts.take n1/\q.2.2.2∈ts) ?_ ?_ ?_ ?_⟩
   .exact⟨⟨_,_,_,_,_,rfl⟩,k8,e8,⟨_,by omega,L8⟩,[],⟨eS8,fun q h=>absurd h AI⟩,by split<;>rfl,fun q h=>absurd h AI⟩
   .rintro i σ G' _ ⟨_,_,er,_⟩ o e;rw[e8]at e;cases e;exact er
   .rintro i σ G' y hy ⟨⟨v8,v9,v10,v11,v12,rfl⟩,kG',er,⟨c9,hc9,L9⟩,st,RS,nS',tS⟩ D1 hD1 _;rw[AH]at hy;obtain⟨x,hx,rfl⟩:=AU.mp hy;have li:=(AM.mp hx).1;rw[CF]at li;have f9:=Sm1 kG' f6 (LG.ne f6);have e9:=Sm1 kG' e6 (LG.ne e6);have R9:=RS.at_;refine ex1 rfl ⟨BU _,fun z hz=>?_⟩;have uz:=Same.new (o:=.lst []) hz;refine⟨Sw.sd (ts.take n1),.list [],Ga (SqL.of (uz _ _ e9)),Nm (SqL.of A7),Eg (fun y hy=>N4'.1 y (BH hy)),Md,?_⟩;rw[Cu];have LZ:=L9.same uz;have kZ:=kG'.trans uz.sm;have eZ:=uz _ _ e9;have fZ:=uz _ _ f9;have RZ:=RS.same uz;have rZ:=uz _ _ er;generalize upd G' z (.lst [])=GZ at LZ kZ eZ fZ RZ rZ uz⊢;refine⟨_,rfl,Au (fun h=>?_) (fun h=>?_)⟩
    .have ne:ts.take n1≠[]:=fun y=>by rw[y]at h;exact absurd h (by decide)
     have lt1:1<=(ts.take n1).length:=List.length_pos_iff.mpr ne;have lt2:(ts.take n1).length<=ts.length:=by rw[AV];omega
     rw[BF ne]at nS';have lst:st.length=i:=by
      have:=congrArg List.length nS';unfold nT at this;rw[AA,AV,CF]at this;omega
     refine B9 fun M1 hM1=>?_;refine ex1 rfl (ex1 rfl (ex1 rfl ⟨by show 3<=sizeLine;decide,fun t ht=>?_⟩));have ut:=Same.new (o:=.lst [V.ref sq,.ref sq,.ref nm]) ht;refine ex1 rfl (J7 (a:=p) rfl (LZ.same ut) (by omega) (by decide) (by decide) fun dd G2 hdd k2 L2=>?_);have et:G2 t=some (.lst [V.ref sq,.ref sq,.ref nm]):=Sm1 k2 A7 (A9 LZ.get ht).symm;have k2:Sm [p] GZ G2:=ut.sm.trans k2;have e2:=Sm1 k2 eZ (LZ.ne eZ);have f2:=Sm1 k2 fZ (LZ.ne fZ);obtain⟨gl,gs,ga,ge,gm,g1⟩:∃(gl:Addr) (gs:List Str),atI [V.ref sq,.ref sq,.ref nm] (dd:Int)=some (.ref gl)/\G2 gl=some (.lst (gs.map V.str))/\(∀y∈gs,y∈ts)/\1<=gs.length/\gs.length<=30:=by
      match dd,hdd with
      | 0,_=>exact⟨sq,_,B5 (j:=0) rfl,e2,fun y hy=>BH hy,lt1,by omega⟩
      | 1,_=>exact⟨sq,_,B5 (j:=1) rfl,e2,fun y hy=>BH hy,lt1,by omega⟩
      | 2,_=>exact⟨nm,_,B5 (j:=2) rfl,f2,fun y hy=>hy,by omega,by omega⟩
      | n+3,hdd=>exact absurd hdd (by omega)
     refine⟨t,_,B8 rfl rfl ⟨SqL.of et,ga,hM1 _ _ ?_⟩⟩;have R2:=RZ.sm LZ k2;refine ex1 rfl ⟨.inl ⟨rfl,_,SqL.of R2.at_⟩,?_⟩;refine ex1 rfl (ex1 rfl (ex1 rfl (ex1 rfl ⟨sq,_,rfl,.inl (SqL.of e2),?_⟩)));rw[AA];refine J7 (a:=p) rfl L2 (by omega) (by omega) (by omega) fun d1 G3 hd1 k3 L3=>?_;have e3:=Sm1 k3 e2 (L2.ne e2);have hi1:(ts.take n1)[d1]?=some ((ts.take n1)[d1]'(by omega)):=AR (by omega);refine⟨sq,_,B8 rfl rfl ⟨SqL.of e3,B5 (by rw[AH,hi1];rfl),?_⟩⟩;have g3:=Sm1 k3 ge (L2.ne ge);refine ex1 rfl (ex1 rfl (ex1 rfl ⟨gl,_,rfl,.inl (SqL.of g3),?_⟩));rw[AA];refine J7 (a:=p) rfl L3 (by omega) (by omega) (by omega) fun d2 G4 hd2 k4 L4=>?_;have g4:=Sm1 k4 g3 (L3.ne g3);have hi2:gs[d2]?=some (gs[d2]'(by omega)):=AR (by omega);refine⟨gl,_,B8 rfl rfl ⟨SqL.of g4,B5 (by rw[AH,hi2];rfl),by show 3<=sizeLine;decide,fun t2 ht2=>?_⟩⟩;have mem1:=AN hi1;have mem2:=gm _ (AN hi2);generalize (ts.take n1)[d1]'(by omega)=o1 at mem1 ht2⊢;generalize gs[d2]'(by omega)=o2 at mem2 ht2⊢;have u5:=Same.new (o:=.tup [.str x,.str o1,.str o2]) ht2;have k5:Sm [p] GZ (upd G4 t2 (.tup [.str x,.str o1,.str o2])):=k2.trans (k3.trans (k4.trans u5.sm));have R5:=RZ.sm LZ k5;have r5:=Sm1 k5 rZ nrp;have L5':=L4.same u5;have et2:(upd G4 t2 (.tup [.str x,.str o1,.str o2])) t2=some (.tup [.str x,.str o1,.str o2]):=A7;generalize upd G4 t2 (.tup [.str x,.str o1,.str o2])=G5 at k5 R5 r5 L5' et2⊢;refine⟨S,_,_,rfl,rfl,R5.at_,by rw[AA,AA,sizeLine_eq];omega,hD1 _ _ ⟨⟨_,_,_,_,_,rfl⟩,(kZ.trans k5).updN hS,by rw[B4 nrS];exact r5,⟨_,by omega,L5'.upd npS⟩,st ++ [(t2,x,o1,o2)],?_,?_,fun z hz=>?_⟩⟩
     .rw[AL];exact R5.snoc et2
     .rw[BF ne];unfold nT at nS'⊢;rw[AL,nS',J5 hx];rfl
     .rcases A_.mp hz with y | y
      .exact tS z y
      .rw[AC.mp y];exact⟨mem1,mem2⟩
    .have e0:ts.take n1 = []:=by
      cases y:ts.take n1 with
      | nil=>rfl
      | cons b r=>rw[y]at h;exact absurd rfl h
     rw[BI e0]at nS';exact hD1 _ _ ⟨⟨_,_,_,_,_,rfl⟩,kZ,rZ,⟨_,by omega,LZ⟩,st,RZ,by rw[BI e0];exact nS',tS⟩
   .rintro σ G' ⟨⟨v8,v9,v10,v11,v12,rfl⟩,kG',er,⟨c9,hc9,L9⟩,st,RS,nS',tS⟩;rw[AA,CF]at hc9;have nT':nT st=if ts.take n1 = []then []else ts.drop n1:=by
     rw[nS',AA,CB]
    refine hN7 _ _ (B9 fun N8 hN8=>?_);refine⟨BU _,fun B hB=>?_⟩;have uB:=Same.new (o:=.lst []) hB;have eB:(upd G' B (.lst [])) B=some (.lst []):=A7;have LB:=L9.same uB;have kB:Sm [p] G' (upd G' B (.lst [])):=uB.sm;have npB:p≠B:=A9 L9.get hB;generalize upd G' B (.lst [])=H9 at eB LB kB⊢;refine hN8 _ _ (B9 fun N9 hN9=>?_);have m9:=Sm1 (kG'.trans kB) m6 nmp;refine ex1 rfl ⟨m,_,B8 rfl rfl ⟨SqL.of m9,B5 (j:=3) rfl,ex1 rfl ⟨by omega,by omega,?_⟩⟩⟩;rw[CI];refine P8 (fun i σ F=>(∃v8 v9 v11 v12,σ = [some (.ref p),some (.int 12),some (.ref m),some (.ref a),some (.ref nm),some (.ref sq),some (.ref D),some (.ref S),v8,v9,some (.ref B),v11,v12])/\Sm [p] G' F/\(∃c',c'<=c9+2*i/\LeftAt F p c')/\∃ba:List PA2,F B=some (.lst (Q0 ba))/\(∀q∈ba,K7 F q)/\ba.length<=i/\(ba.map fun q=>q.2).Nodup/\∀q∈ba,q.2.1∈ts.take n1/\q.2.2∈ts.take n1/\q.2.1≠q.2.2) ?_ ?_ ?_
    .exact⟨⟨_,_,_,_,rfl⟩,kB,⟨_,by omega,LB⟩,[],eB,fun q h=>absurd h AI,AG _,List.nodup_nil,fun q h=>absurd h AI⟩
    .rintro i σ F hi ⟨⟨v8,v9,v11,v12,rfl⟩,kF,⟨cF,hcF,LF⟩,ba,eF,pF,lF,nF,tF⟩ D1 hD1 _;have n1p:=Z.one (by omega);have lt1:(ts.take n1).length=n1:=by rw[AV];omega
     have kGF:=kG'.trans kF;have eq0:=Sm1 kGF e6 (LG.ne e6);refine Gz fun M1 hM1=>?_;refine ex1 rfl (ex1 rfl (ex1 rfl ⟨sq,_,rfl,.inl (SqL.of eq0),?_⟩));rw[AA,lt1];refine J7 (a:=p) rfl LF (by omega) (by omega) (by omega) fun d1 F1 hd1 k1 L1=>?_;have e1:=Sm1 k1 eq0 (LF.ne eq0);have hi1:(ts.take n1)[d1]?=some ((ts.take n1)[d1]'(by omega)):=AR (by omega);refine⟨sq,_,B8 rfl rfl ⟨SqL.of e1,B5 (by rw[AH,hi1];rfl),?_⟩⟩;refine ex1 rfl (ex1 rfl (ex1 rfl ⟨sq,_,rfl,.inl (SqL.of e1),?_⟩));rw[AA];refine J7 (a:=p) rfl L1 (by omega) (by omega) (by omega) fun d2 F2 hd2 k2 L2=>?_;have e2:=Sm1 k2 e1 (L1.ne e1);have hi2:(ts.take n1)[d2]?=some ((ts.take n1)[d2]'(by omega)):=AR (by omega);refine⟨sq,_,B8 rfl rfl ⟨SqL.of e2,B5 (by rw[AH,hi2];rfl),by show 2<=sizeLine;decide,fun t ht=>?_⟩⟩;have mem1:=AN hi1;have mem2:=AN hi2;generalize (ts.take n1)[d1]'(by omega)=o1 at mem1 ht⊢;generalize (ts.take n1)[d2]'(by omega)=o2 at mem2 ht⊢;have u3:=Same.new (o:=.tup [.str o1,.str o2]) ht;have k3:Sm [p] F (upd F2 t (.tup [.str o1,.str o2])):=k1.trans (k2.trans u3.sm);have L3:=L2.same u3;have et:(upd F2 t (.tup [.str o1,.str o2])) t=some (.tup [.str o1,.str o2]):=A7;have nBp:B≠p:=npB.symm;have eB3:=Sm1 k3 eF nBp;have pB3:∀q∈ba,K7 (upd F2 t (.tup [.str o1,.str o2])) q:=fun q hq=>Sm1 k3 (pF q hq) (LF.neT (pF q hq));generalize upd F2 t (.tup [.str o1,.str o2])=F3 at k3 L3 et eB3 pB3⊢;have nmt:∀y∈ts.take n1,C9 y=true:=fun y hy=>N4'.1 y (BH hy);refine hM1 _ _ ?_;have no:∀(v12:Option V),D1.nx [some (.ref p),some (.int 12),some (.ref m),some (.ref a),some (.ref nm),some (.ref sq),some (.ref D),some (.ref S),v8,v9,some (.ref B),some (.int (0 +(i:Int))),v12] F3:=fun v12=>hD1 _ _ ⟨⟨_,_,_,_,rfl⟩,kF.trans k3,⟨_,by omega,L3⟩,ba,eB3,pB3,by omega,nF,tF⟩;refine ex1 rfl ⟨t,_,B8 rfl rfl ⟨SqT.of et,B5 (j:=0) rfl,ex1 rfl ⟨t,_,B8 rfl rfl ⟨SqT.of et,B5 (j:=1) rfl,rfl,_,rfl,?_⟩⟩⟩⟩;refine Au (fun h=>?_) (fun h=>no _);have ne12:o1≠o2:=fun y=>by rw[y]at h;exact absurd h (by simp)
     refine ex1 rfl (ex1 rfl (De (k:=(o1,o2)) et eB3 pB3 ⟨C8 (nmt _ mem1),C8 (nmt _ mem2)⟩ (fun q hq=>⟨C8 (nmt _ (tF q hq).1),C8 (nmt _ (tF q hq).2.1)⟩) ⟨_,rfl,Au (fun h2=>?_) (fun h2=>no _)⟩));have nin:(o1,o2)∉ba.map fun q=>q.2:=by simpa using h2
     have lrb:(Q0 ba).length=ba.length:=by unfold Q0;rw[AA]
     refine ex1 rfl ⟨.inl ⟨rfl,_,SqL.of eB3⟩,ex1 rfl ⟨B,_,_,rfl,rfl,eB3,by rw[lrb,sizeLine_eq];omega,hD1 _ _ ⟨⟨_,_,_,_,rfl⟩,(kF.trans k3).updN hB,⟨_,by omega,L3.upd npB⟩,ba ++ [(t,o1,o2)],by rw[A7];unfold Q0;rw[AL];rfl,fun q hq=>?_,by rw[BA];show _+1<=_;omega,?_,fun q hq=>?_⟩⟩⟩
     .rcases A_.mp hq with y | y
      .exact(B4 (O7 (pB3 q y) eB3 (by intro z;cases z))).trans (pB3 q y)
      .rw[AC.mp y];exact(B4 (O7 et eB3 (by intro z;cases z))).trans et
     .rw[AL];exact Fi nF nin
     .rcases A_.mp hq with y | y
      .exact tF q y
      .rw[AC.mp y];exact⟨mem1,mem2,ne12⟩
    .rintro σ F ⟨⟨v8,v9,v11,v12,rfl⟩,kF,⟨cF,hcF,LF⟩,ba,eF,pF,lF,nF,tF⟩;refine hN9 _ _ ?_;refine ex1 rfl (ex1 rfl (ex1 rfl (ex1 rfl ⟨by show 4<=sizeLine;decide,fun r hr=>?_⟩)));have kGF:=kG'.trans kF;have W:WRows F a D S B pe sa st ba:=⟨R6.sm LG kGF,RG.sm LG kGF,fun q hq=>Sm1 kGF (spG q hq).2.1 (LG.ne (spG q hq).2.1),RS.sm L9 kF,eF,pF⟩;have ur:=Same.new (o:=.lst [.ref a,.ref D,.ref S,.ref B]) hr;have lsa:sa.length=n1:=by
      have:=congrArg List.length nG;unfold nS at this;rw[AA,AV]at this;omega
     have lst:st.length<=n2:=by
      have:=congrArg List.length nT';unfold nT at this;rw[AA]at this;split at this
      .rw[this];exact BU _
      .rw[CF]at this;omega
     refine q r a D S B pe sa st ba cF _ (k6.trans (kGF.trans ur.sm)) A7 (W.same ur) ⟨⟨by omega,by omega,by omega,by omega⟩,nd2,ok2,?_,fun x hx=>?_,fun z hz=>(spG z hz).2.2.1,fun z hz=>⟨(spG z hz).2.2.2.1,(spG z hz).2.2.2.2.1,BO (spG z hz).2.2.2.2.2 (by decide)⟩,fun z hz=>?_,nF,fun z hz=>by rw[nG];exact tF z hz⟩ (LF.same ur) (by omega)
     .rw[nG,nT'];split
      .rename_i e0;rw[e0];exact List.nodup_nil
      .rw[List.take_append_drop];exact N4'.2.1
     .rw[nG,nT']at hx;refine N4'.1 x ?_;rcases A_.mp hx with y | y
      .exact BH y
      .split at y
       .cases y
       .exact List.mem_of_mem_drop y
     .obtain⟨z1,z2⟩:=tS z hz;rw[nG,nT'];refine⟨z1,?_⟩;have ne:ts.take n1≠[]:=fun y=>by rw[y]at z1;cases z1
      rw[BF ne];rw[<-List.take_append_drop n1 ts]at z2;exact A_.mp z2
theorem j4:FnScope ["_law_weave"] ["_law_weave"] (B6 s_law_all):=fsc
def Mj(C:Addr):Sp:=fun vs H Q _=>∃(x dx a b c d:Addr),vs = [.ref x]/\H x=some (.ins C dx (wfW a b c d))/\∀l H',Same H H'->H l=none->H' l=some (.lst [.ref a,.ref b,.ref c,.ref d])->Q (.ref l) H'
theorem Dj(T:Tx K mg):FnOk P w K mg base CX0 1 T.aw.f T.aw.fd ["_law_weave"] (Mj T.aa):=by
 have sc:=j4;refine T.aw.F.ok j4 (fun vs H Q E h=>?_) (fun cdv A outer s H vs Q E hr h=>?_)
 .obtain⟨x,dx,a,b,c,d,rfl,_⟩:=h;rfl
 .obtain⟨x,dx,a,b,c,d,rfl,hx,q⟩:=h;refine⟨_,(B7 (C3 (D8 (A6 (peF K (pv 0)) (A6 (peF K (pv 0)) (A6 (peF K (pv 0)) (A6 (peF K (pv 0)) A8))))))),?_⟩;exact ex1 rfl ⟨x,_,_,_,_,rfl,hx,T.ag,T.aS,rfl,ex1 rfl ⟨x,_,_,_,_,rfl,hx,T.ag,T.as,rfl,ex1 rfl ⟨x,_,_,_,_,rfl,hx,T.ag,T.aE,rfl,ex1 rfl ⟨x,_,_,_,_,rfl,hx,T.ag,T.aK,rfl,by show 4<=sizeLine;decide,fun l hl=>q l _ (Same.new hl) hl A7⟩⟩⟩⟩
structure NewRows(H0 H:Hp)(a b c d:Addr)(pe:List PEr)(sa:List SAr)(st:List STr)(ba:List PA2):Prop where
 W:WRows H a b c d pe sa st ba
 na:H0 a=none
 nb:H0 b=none
 nc:H0 c=none
 nd:H0 d=none
 ns:∀q∈sa,H0 q.2.2.2.1=none
 ba:b≠a
 bc:b≠c
 bd:b≠d
 bs:∀q∈sa,b≠q.2.2.2.1
theorem S4:FnScope ["_law_rows"] ["_law_rows"] (B6 s_law_copied):=fsc
def El:Sp:=fun vs H Q _=>∃(r a b c d:Addr) (pe:List PEr) (sa:List SAr) (st:List STr) (ba:List PA2),vs = [.ref r]/\H r=some (.lst [.ref a,.ref b,.ref c,.ref d])/\WRows H a b c d pe sa st ba/\WOk pe sa st ba /\
 ∀(r' a' b' c' d':Addr) (sa':List SAr) H',Same H H'->H r'=none->H' r'=some (.lst [.ref a',.ref b',.ref c',.ref d'])->NewRows H H' a' b' c' d' pe sa' st ba->(r'≠a'/\r'≠b'/\r'≠c'/\r'≠d'/\∀q∈sa',r'≠q.2.2.2.1)->sa'.map dS=sa.map dS->Q (.ref r') H'
set_option maxHeartbeats 4000000 in
theorem o7(T:Tx K mg):FnOk P w K mg base CX0 1 T.av.f T.av.fd ["_law_rows"] El:=by
 have sc:=S4;refine T.av.F.ok S4 (fun vs H Q E h=>?_) (fun cdv A outer s H vs Q E hr h=>?_)
 .obtain⟨r,a,b,c,d,pe,sa,st,ba,rfl,_⟩:=h;rfl
 .obtain⟨r,a,b,c,d,pe,sa,st,ba,rfl,er,W,ok,q⟩:=h;refine⟨_,(B7 (C3 (D8 (A6 (P1 (K4 K) T.af E6 (A6 (C1 (ixL K) (pv 0) B2 (fun _ _=>rfl)) A8)) (A6 (U5 (N':=["_law_row"]) (cap:=[none]) (cl:=[]) (O6 trivial trivial) rfl (piL K (C1 (ixL K) (pv 0) B2 (fun _ _=>rfl))) (fun _ _ _ _=>by exact⟨(pgC 0),E1,(J4 (A6 (C1 (ixT K) (pv 0) B2 (fun _ _=>rfl)) (A6 (C1 (ixT K) (pv 0) B2 (fun _ _=>rfl)) (A6 (P1 (K4 K) T.af E6 (A6 (C1 (ixT K) (pv 0) B2 (fun _ _=>rfl)) A8)) A8))))⟩)) (A6 (P1 (K4 K) T.af E6 (A6 (C1 (ixL K) (pv 0) B2 (fun _ _=>rfl)) A8)) (A6 (P1 (K4 K) T.af E6 (A6 (C1 (ixL K) (pv 0) B2 (fun _ _=>rfl)) A8)) A8))))))),?_⟩;obtain⟨l1,l2,l3,l4⟩:=ok.len;refine ex1 rfl ⟨r,_,B8 rfl rfl ⟨SqL.of er,B5 (j:=0) rfl,a,_,rfl,.inl (SqL.of W.hp.at_),fun a' ha'=>?_⟩⟩;have u1:=Same.new (o:=.lst ((pe.map rP).map fun q=>V.ref q.1)) ha';have e1:(upd H a' (.lst ((pe.map rP).map fun q=>V.ref q.1))) a'=some (.lst ((pe.map rP).map fun q=>V.ref q.1)):=A7;generalize upd H a' (.lst ((pe.map rP).map fun q=>V.ref q.1))=H1 at u1 e1⊢;have W1:=W.same u1;have as1:=asL (K:=K) (SqL.of W1.hs.at_);rw[AZ]at as1;refine ex1 rfl ⟨r,_,B8 rfl rfl ⟨SqL.of (u1 _ _ er),B5 (j:=1) rfl,b,rfl,⟨_,SqL.of W1.hs.at_⟩,fun D hD=>?_⟩⟩;refine f8 as1 (fun i σ G=>(∃v0,σ = [v0])/\Same H1 G/\∃sa':List SAr,RowsAt G D (sa'.map rS)/\(∀q∈sa',q.2.2.2.1≠D/\G q.2.2.2.1=some (.lst (q.2.2.2.2.map V.str))/\H1 q.2.2.2.1=none)/\sa'.map dS =(sa.take i).map dS)
   ⟨⟨_,rfl⟩,Same.new hD,[],⟨A7,fun q h=>absurd h AI⟩,fun q h=>absurd h AI,rfl⟩ (fun i σ G _ ⟨_,s1,_⟩=>s1.at b) ?_ ?_
  .rintro i σ G v N hv ⟨⟨v0,rfl⟩,sG,sa',RG,spG,dG⟩ hN;rw[AH]at hv;obtain⟨p,hp,rfl⟩:=AU.mp hv;have mp:=AN hp;have li:=(AM.mp hp).1;have lsa':=congrArg List.length dG;rw[AA,AA,AV]at lsa';have ep:=sG _ _ (W1.hs.row (rS p) (BB.mpr ⟨p,mp,rfl⟩));have es:=sG _ _ (W1.sp p mp);refine U1 ?_;refine ex1 rfl ⟨p.1,_,B8 rfl rfl ⟨SqT.of ep,B5 (j:=0) rfl,ex1 rfl ⟨p.1,_,B8 rfl rfl ⟨SqT.of ep,B5 (j:=1) rfl,ex1 rfl ⟨p.1,_,B8 rfl rfl ⟨SqT.of ep,B5 (j:=2) rfl,p.2.2.2.1,_,rfl,.inl (SqL.of es),fun l hl=>⟨by show 3<=sizeLine;decide,fun t ht=>?_⟩⟩⟩⟩⟩⟩⟩;have ul:=Same.new (o:=.lst (p.2.2.2.2.map V.str)) hl;have nlD:l≠D:=(A9 RG.at_ hl).symm;have ntD:t≠D:=(A9 (ul _ _ RG.at_) ht).symm;have ntl:l≠t:=A9 A7 ht;have el:(upd (upd G l (.lst (p.2.2.2.2.map V.str))) t (.tup [.str (rS p).2.1,.str p.2.2.1,.ref l])) l=some (.lst (p.2.2.2.2.map V.str)):=by rw[B4 ntl,A7]
   have et:(upd (upd G l (.lst (p.2.2.2.2.map V.str))) t (.tup [.str (rS p).2.1,.str p.2.2.1,.ref l])) t=some (.tup [.str (rS p).2.1,.str p.2.2.1,.ref l]):=A7;have ut:=ul.trans (Same.new (o:=.tup [.str (rS p).2.1,.str p.2.2.1,.ref l]) ht);generalize upd (upd G l (.lst (p.2.2.2.2.map V.str))) t (.tup [.str (rS p).2.1,.str p.2.2.1,.ref l])=G2 at el et ut⊢;have RG2:=RG.same ut;refine⟨_,RG2.at_,by rw[AA,AA,sizeLine_eq];omega,hN _ _ ⟨⟨_,rfl⟩,(sG.trans ut).upd hD,sa' ++ [(t,p.2.1,p.2.2.1,l,p.2.2.2.2)],⟨by rw[A7,AL,AL];rfl,fun z hz=>?_⟩,fun z hz=>?_,by rw[AL,dG,J5 hp,AL];rfl⟩⟩
   .rw[AL]at hz;rcases A_.mp hz with y | y
    .exact(B4 (O7 (RG2.row z y) RG2.at_ (by intro z;cases z))).trans (RG2.row z y)
    .rw[AC.mp y];exact(B4 ntD).trans et
   .rcases A_.mp hz with y | y
    .exact⟨(spG z y).1,(B4 (spG z y).1).trans (ut _ _ (spG z y).2.1),(spG z y).2.2⟩
    .rw[AC.mp y];exact⟨nlD,(B4 nlD).trans el,none_of sG.sm AI hl⟩
  .rintro σ G ⟨_,sG,sa',RG,spG,dG⟩;rw[AA,CB]at dG;have WG:=W1.same sG;have sG1:=u1.trans sG;refine ex1 rfl ⟨r,_,B8 rfl rfl ⟨SqL.of (sG1 _ _ er),B5 (j:=2) rfl,c,_,rfl,.inl (SqL.of WG.ht.at_),fun c' hc'=>?_⟩⟩;have u2:=Same.new (o:=.lst ((st.map rT).map fun q=>V.ref q.1)) hc';have e2:(upd G c' (.lst ((st.map rT).map fun q=>V.ref q.1))) c'=some (.lst ((st.map rT).map fun q=>V.ref q.1)):=A7;generalize upd G c' (.lst ((st.map rT).map fun q=>V.ref q.1))=H2 at u2 e2⊢;refine ex1 rfl ⟨r,_,B8 rfl rfl ⟨SqL.of (u2 _ _ (sG1 _ _ er)),B5 (j:=3) rfl,d,_,rfl,.inl (SqL.of (u2 _ _ WG.hb)),fun d' hd'=>?_⟩⟩;have u3:=Same.new (o:=.lst (Q0 ba)) hd';have e3:(upd H2 d' (.lst (Q0 ba))) d'=some (.lst (Q0 ba)):=A7;generalize upd H2 d' (.lst (Q0 ba))=H3 at u3 e3⊢;refine⟨by show 4<=sizeLine;decide,fun r' hr'=>?_⟩;have u4:=Same.new (o:=.lst [.ref a',.ref D,.ref c',.ref d']) hr';have s24:=(u2.trans u3).trans u4;have s04:=sG1.trans s24;have WX:=W.same s04;refine q r' a' D c' d' sa' _ s04 ((sG1.trans (u2.trans u3)).free hr') A7 ⟨⟨⟨u4 _ _ (u3 _ _ (u2 _ _ (sG _ _ e1))),WX.hp.row⟩,RG.same s24,fun q hq=>s24 _ _ (spG q hq).2.1,⟨u4 _ _ (u3 _ _ e2),WX.ht.row⟩,u4 _ _ e3,WX.pb⟩,ha',u1.free hD,sG1.free hc',(sG1.trans u2).free hd',fun q hq=>u1.free (spG q hq).2.2,(A9 e1 hD).symm,A9 RG.at_ hc',A9 (u2 _ _ RG.at_) hd',fun q hq=>(spG q hq).1.symm⟩ ⟨(A9 (u3 _ _ (u2 _ _ (sG _ _ e1))) hr').symm,(A9 ((u2.trans u3) _ _ RG.at_) hr').symm,(A9 (u3 _ _ e2) hr').symm,(A9 e3 hr').symm,fun q hq=>(A9 ((u2.trans u3) _ _ (spG q hq).2.1) hr').symm⟩ dG
theorem Y8:FnScope ["_law_found", "_law_due"] ["_law_found", "_law_due"] (B6 s_law_same):=fsc
def Ew:Sp:=fun _ _ _ _=>False
theorem Ke{f:Addr}{fd:FuncData}{ps:List Str}:FnOk P w K mg base CX0 0 f fd ps Ew:=⟨fun _ _ _ _ h=>h.elim,fun _ _ _ _ _ _ _ _ _ _ _ _ _ h=>h.elim⟩
def D3(S:Sp):Sp:=fun vs H Q _=>(∃a:Str,vs = [.str a,.str a]/\PySem.PyData.strOk a=true/\∀H',Same H H'->Q (.bl true) H')\/(∃v:V,vs = [v,v]/\(v = .non\/∃i,v = .int i)/\∀H',Same H H'->Q (.bl true) H') \/
 ∃(l m:Addr) (b:Bool) (xs ys:List V),vs = [.ref l,.ref m]/\H l=some (LT b xs)/\H m=some (LT b ys)/\xs.length=ys.length/\xs.length<=200 /\
  (∀(i:Nat) (x y:V) (H':Hp) (Q':VK) (E:XK),xs[i]?=some x->ys[i]?=some y->Same H H'->(∀H'',Same H' H''->Q' (.bl true) H'')->S [x,y] H' Q' E)/\∀H',Same H H'->Q (.bl true) H'
theorem I0(T:Tx K mg){n:Nat}{S:Sp}(G_law_same:FnOk P w K mg base CX0 n T.ae.f T.ae.fd ["_law_found", "_law_due"] S):FnOk P w K mg base CX0 (n+1) T.ae.f T.ae.fd ["_law_found", "_law_due"] (D3 S):=by
 have sc:=Y8;refine T.ae.F.ok Y8 (fun vs H Q E h=>?_) (fun cdv A outer s H vs Q E hr h=>?_)
 .rcases h with⟨a,rfl,_⟩ | ⟨v,rfl,_⟩ | ⟨l,m,b,xs,ys,rfl,_⟩
  .rfl
  .rfl
  .rfl
 .refine⟨_,(B3 (J2 (F9 (D4 (Cn K) T.ac C0 (A6 (pv 1) (A6 (J4 (A6 (K9 T.af E6) (A6 (K9 T.am F7) A8))) A8)))) (B3 (J2 (PW.pt (Bf (E2 Hv (D4 (E4 K) T.ac C0 (A6 (pv 0) (A6 (K9 T.af E6) A8))) (D4 (E4 K) T.ac C0 (A6 (pv 1) (A6 (K9 T.af E6) A8))) (D9 _)) (Y7 (E2 Hv (D4 (E4 K) T.ac C0 (A6 (pv 0) (A6 (K9 T.am F7) A8))) (D4 (E4 K) T.ac C0 (A6 (pv 1) (A6 (K9 T.am F7) A8))) (D9 _))))) (B7 (C3 g9)) C7)
   (B7 (C3 (F8 (D7 Af (D4 (K3 K) T.ah I9 (A6 (pv 0) A8)) (D4 (K3 K) T.ah I9 (A6 (pv 1) A8)) (D9 _)) (K0 (D4 (Ae K) T.aT At (A6 (U5 (N':=["_law_one", "_law_other"]) (cap:=[none,none]) (cl:=[]) (O6 trivial trivial) rfl (Pu K T.a8 (A6 (pv 0) (A6 (pv 1) A8))) (fun _ _ _ _=>by exact⟨(pgT K (n:=2) (O4 (pgC 0) (O4 (pgC 1) Ba))),E1,(C2 T.ae G_law_same (hr.mono (AG _)) (A6 (pv 0) (A6 (pv 1) A8)))⟩)) A8))))))) C7)
   (B3 (J2 (PW.pt (Bf (E2 Nh (pv 1) Lf (D9 _)) (Y7 (F9 (D4 (E4 K) T.ac C0 (A6 (pv 1) (A6 (K9 T.aW Cm) A8))))))) (B7 (C3 (F8 (D7 (Hf K hr.units) (pv 0) (pv 1) (D9 _)) (K0 (D7 Af (D4 (E4 K) T.ac C0 (A6 (pv 0) (A6 (K9 T.aW Cm) A8))) (D4 (E4 K) T.ac C0 (A6 (pv 1) (A6 (K9 T.aW Cm) A8))) (D9 _)))))) C7)
   (B3 (J2 (F9 (D4 (E4 K) T.ac C0 (A6 (pv 1) (A6 (K9 T.aU o9) A8)))) (B7 (C3 (F8 (D4 (E4 K) T.ac C0 (A6 (pv 0) (A6 (K9 T.aU o9) A8))) (K0 (D7 (Hf K hr.units) (pv 0) (pv 1) (D9 _)))))) C7)
   (B7 (C3 (F8 (D4 (E4 K) T.ac C0 (A6 (pv 0) (A6 (K9 T.a0 Dw) A8))) (F8 (Ie (D4 (E4 K) T.ac C0 (A6 (pv 0) (A6 (K9 T.aU o9) A8)))) (K0 (D7 (Hf K hr.units) (pv 0) (pv 1) (D9 _)))))))))),?_⟩
  rcases h with⟨b,rfl,ob,q⟩ | ⟨v,rfl,hv,q⟩ | ⟨l,m,b,xs,ys,rfl,hl,hm,el,len,hS,q⟩
  .refine ex1 rfl ⟨by show 2<=sizeLine;decide,fun t ht=>?_⟩;have s1:=Same.new (o:=.tup [.ty "list",.ty "tuple"]) ht;refine .inl ⟨.str b,t,["list", "tuple"],_,false,rfl,A7,.str b,.inl ⟨b,rfl⟩,rfl,?_⟩;generalize upd H t (.tup [.ty "list",.ty "tuple"])=H1 at s1⊢;refine ex1 rfl (X1 ?_);refine ex1 rfl ⟨rfl,ex1 rfl (X1 ?_)⟩;refine ex1 rfl ⟨.str b, "str",_,true,rfl,.str b,rfl,ex1 rfl (X2 ?_)⟩;refine ex1 rfl (ex1 rfl (Hw ob ⟨_,rfl,X2 ?_⟩));refine ex1 rfl ⟨.str b, "str",_,true,rfl,.str b,rfl,ex1 rfl ⟨.str b, "str",_,true,rfl,.str b,rfl,?_⟩⟩;exact⟨rfl,q _ s1⟩
  .refine ex1 rfl ⟨by show 2<=sizeLine;decide,fun t ht=>?_⟩;have s1:=Same.new (o:=.tup [.ty "list",.ty "tuple"]) ht;have t1:(upd H t (.tup [.ty "list",.ty "tuple"])) t=some (.tup (["list", "tuple"].map V.ty)):=A7;generalize upd H t (.tup [.ty "list",.ty "tuple"])=H1 at s1 t1⊢;rcases hv with rfl | ⟨i,rfl⟩
   .refine .inr ⟨.non,t,["list", "tuple"],false,_,rfl,t1,.inl ⟨rfl,rfl⟩,rfl,?_⟩;refine ex1 rfl (X1 ?_);refine ex1 rfl ⟨rfl,ex1 rfl (X2 ?_)⟩;refine ex1 rfl (ex1 rfl (Bu (d:=.none) (by simp only[Rp]) rfl (by rw[PyData.depth];decide) ⟨_,rfl,X2 ?_⟩));refine ex1 rfl ⟨.non, "str",_,false,rfl,.non,rfl,ex1 rfl ⟨.non, "str",_,false,rfl,.non,rfl,?_⟩⟩;exact⟨rfl,q _ s1⟩
   .refine .inr ⟨.int i,t,["list", "tuple"],false,_,rfl,t1,.inr ⟨i,rfl,rfl⟩,rfl,?_⟩;refine ex1 rfl (X1 ?_);refine ex1 rfl ⟨rfl,ex1 rfl (X1 ?_)⟩;refine ex1 rfl ⟨.int i, "str",_,false,rfl,.int i,rfl,ex1 rfl (X1 ?_)⟩;refine ex1 rfl ⟨.int i, "bool",_,false,rfl,.int i,rfl,ex1 rfl (X1 ?_)⟩;refine ex1 rfl ⟨.int i, "int",_,true,rfl,.int i,rfl,ex1 rfl (X2 ?_)⟩;refine ex1 rfl ⟨.int i, "bool",_,false,rfl,.int i,rfl,ex1 rfl (ex1 rfl (X2 ?_))⟩;exact ex1 rfl (ex1 rfl (Bu (d:=.int i) (by simp only[Rp]) rfl (by rw[PyData.depth];decide) (q _ s1)))
  .refine ex1 rfl ⟨by show 2<=sizeLine;decide,fun t ht=>?_⟩;have s1:=Same.new (o:=.tup [.ty "list",.ty "tuple"]) ht;have l1:=s1 _ _ hl;have m1:=s1 _ _ hm;refine .inl ⟨.ref m,t,["list", "tuple"],_,true,rfl,A7,Aw m1,.inr ⟨m,_,rfl,Jm m1⟩,Kz b,?_⟩;generalize upd H t (.tup [.ty "list",.ty "tuple"])=H1 at s1 l1 m1⊢;refine ex1 rfl (X2 ?_);refine ex1 rfl ⟨.ref l, "list",_,b,rfl,Aw l1,Jy b,ex1 rfl ⟨.ref m, "list",_,b,rfl,Aw m1,Jy b,rfl,?_⟩⟩;refine⟨false,congrArg V.bl (Mx b),X1 ?_⟩;refine ex1 rfl ⟨.ref l, "tuple",_,_,rfl,Aw l1,Ly b,ex1 rfl ⟨.ref m, "tuple",_,_,rfl,Aw m1,Ly b,rfl,?_⟩⟩;refine⟨false,congrArg V.bl (Mx !b),X1 ?_⟩;refine ex1 rfl (B8 (a:=l) rfl (M0 l1) (ex1 rfl (B8 (a:=m) rfl (M0 m1) ⟨rfl,ex1 rfl ?_⟩)));refine Au (fun _=>?_) (fun h=>absurd (AQ (congrArg (fun k:Nat=>V.int k) el)) h);refine ex1 rfl (ex1 rfl ⟨l,m,xs,ys,?_⟩);refine⟨rfl,Mt l1 m1 fun D hD=>?_⟩;refine V4 (n:=xs.length) (fun i σ H2=>(∃v0 v1,σ = [v0,v1])/\Same H1 H2/\H2 D=some (.lst ((List.replicate i true).map V.bl))) ⟨⟨_,_,rfl⟩,Same.new hD,A7⟩ ?_ ?_ ?_ ?_
   .rintro i σ H2 hi ⟨_,s2,_⟩;exact⟨_,_,_,_,Dd (s2 _ _ l1),Dd (s2 _ _ m1),Nat.le_of_eq el,AR hi,AR (el▸hi)⟩
   .rintro σ H2 ⟨_,s2,_⟩;exact⟨_,_,Dd (s2 _ _ l1),Dd (s2 _ _ m1),Nat.le_of_eq el,rfl⟩
   .rintro i σ H2 x H3 N hi ⟨⟨v0,v1,rfl⟩,s2,e2⟩ ⟨u,x,y,rfl,hu,rfl,hx,hy⟩ hN;have s3:=Same.new (o:=.tup [x,y]) hu;refine⟨u,ex1 rfl ⟨SqT.of A7,rfl,_,ex1 rfl (B8 rfl rfl ?_)⟩⟩;refine ex1 rfl (ex1 rfl (hS i x y _ _ _ (hx _ (Dd (s2 _ _ l1))) (hy _ (Dd (s2 _ _ m1))) ((s1.trans s2).trans s3) fun H4 s4=>?_));refine⟨_,s4 _ _ (s3 _ _ e2),by rw[AA,List.length_replicate,sizeLine_eq];omega,hN _ _ ⟨⟨_,_,rfl⟩,((s2.trans s3).trans s4).upd hD,?_⟩⟩;rw[A7,List.replicate_succ',AL];rfl
   .rintro σ H2 ⟨_,s2,e2⟩;have e:(List.replicate xs.length true).all id=true:=CA.mpr fun x hx=>(List.mem_replicate.mp hx).2;have q':Q (.bl ((List.replicate xs.length true).all id)) H2:=e.symm▸q _ (s1.trans s2);exact⟨D,_,rfl,SqL.of e2,q'⟩
end
def Nz(S:Sp)(H:Hp)(xs ys:List V):Prop:=∀(i:Nat) (x y:V) (H':Hp) (Q':VK) (E:XK),xs[i]?=some x->ys[i]?=some y->Same H H'->(∀H'',Same H' H''->Q' (.bl true) H'')->S [x,y] H' Q' E
theorem O2{S:Sp}{H:Hp}{l m:Addr}{b:Bool}{xs ys:List V}{Q:VK}{E:XK}(h1:H l=some (LT b xs))(h2:H m=some (LT b ys))(el:xs.length=ys.length)(len:xs.length<=200)(h:Nz S H xs ys)(q:∀H',Same H H'->Q (.bl true) H'):D3 S [.ref l,.ref m] H Q E :=
 .inr (.inr ⟨l,m,b,xs,ys,rfl,h1,h2,el,len,h,q⟩)
theorem Jd{S:Sp}{H:Hp}{ms:List Str}(okm:∀y∈ms,PySem.PyData.strOk y=true):Nz (D3 S) H (ms.map V.str) (ms.map V.str):=fun i x y H' Q' E h1 h2 s hQ=>by
 rw[h1]at h2;cases h2;rw[AH]at h1;obtain⟨y,hy,rfl⟩:=AU.mp h1;exact .inl ⟨y,rfl,okm y (AN hy),hQ⟩
theorem Bk{S:Sp}{H:Hp}{α:Type}{f g:α->Addr}{xs:List α}(h:∀x∈xs,∀(H':Hp) (Q':VK) (E:XK),Same H H'->(∀H'',Same H' H''->Q' (.bl true) H'')->S [.ref (f x),.ref (g x)] H' Q' E):Nz S H (xs.map fun x=>V.ref (f x)) (xs.map fun x=>V.ref (g x)):=fun i x y H' Q' E h1 h2 s hQ=>by
 rw[AH]at h1 h2;obtain⟨a,ha,rfl⟩:=AU.mp h1;obtain⟨b,hb,rfl⟩:=AU.mp h2;rw[ha]at hb;cases hb;exact h a (AN ha) H' Q' E s hQ
theorem Qa{S:Sp}{H:Hp}{q:PEr}(h:Ad H (rP q))(nm:C9 q.2.1=true)(H':Hp)(Q':VK)(E:XK)(s:Same H H')(hQ:∀H'',Same H' H''->Q' (.bl true) H''):D3 (D3 S) [.ref q.1,.ref q.1] H' Q' E:=by
 refine O2 (b:=false) (s _ _ h) (s _ _ h) rfl (by show 2<=200;decide) (fun j x y H'' Q'' E h1 h2 s' hQ'=>?_) hQ;rw[h1]at h2;cases h2
 match j,h1 with
 | 0,h1=>cases h1;exact .inl ⟨_,rfl,C8 nm,hQ'⟩
 | 1,h1=>cases h1;exact .inr (.inl ⟨_,rfl,.inr ⟨_,rfl⟩,hQ'⟩)
theorem Qo{S:Sp}{H:Hp}{q:STr}(h:Ad H (rT q))(n1:C9 q.2.1=true)(n2:C9 q.2.2.1=true)(n3:C9 q.2.2.2=true)(H':Hp)(Q':VK)(E:XK)(s:Same H H')(hQ:∀H'',Same H' H''->Q' (.bl true) H''):D3 (D3 S) [.ref q.1,.ref q.1] H' Q' E:=by
 refine O2 (b:=false) (s _ _ h) (s _ _ h) rfl (by show 3<=200;decide) (fun j x y H'' Q'' E h1 h2 s' hQ'=>?_) hQ;rw[h1]at h2;cases h2
 match j,h1 with
 | 0,h1=>cases h1;exact .inl ⟨_,rfl,C8 n1,hQ'⟩
 | 1,h1=>cases h1;exact .inl ⟨_,rfl,C8 n2,hQ'⟩
 | 2,h1=>cases h1;exact .inl ⟨_,rfl,C8 n3,hQ'⟩
theorem Qe{S:Sp}{H:Hp}{q:PA2}(h:K7 H q)(n1:C9 q.2.1=true)(n2:C9 q.2.2=true)(H':Hp)(Q':VK)(E:XK)(s:Same H H')(hQ:∀H'',Same H' H''->Q' (.bl true) H''):D3 (D3 S) [.ref q.1,.ref q.1] H' Q' E:=by
 refine O2 (b:=false) (s _ _ h) (s _ _ h) rfl (by show 2<=200;decide) (fun j x y H'' Q'' E h1 h2 s' hQ'=>?_) hQ;rw[h1]at h2;cases h2
 match j,h1 with
 | 0,h1=>cases h1;exact .inl ⟨_,rfl,C8 n1,hQ'⟩
 | 1,h1=>cases h1;exact .inl ⟨_,rfl,C8 n2,hQ'⟩
theorem Pz{S:Sp}{H:Hp}{q p:SAr}(h:Ad H (rS q))(h':Ad H (rS p))(hs:H q.2.2.2.1=some (.lst (q.2.2.2.2.map V.str)))(hs':H p.2.2.2.1=some (.lst (p.2.2.2.2.map V.str)))(d:dS q=dS p)(nm:C9 p.2.1=true)(kd:PySem.PyData.strOk p.2.2.1=true)(sp:∀x∈p.2.2.2.2,C9 x=true)(len:p.2.2.2.2.length<=100)(H':Hp)(Q':VK)(E:XK)(s:Same H H')(hQ:∀H'',Same H' H''->Q' (.bl true) H''):D3 (D3 (D3 S)) [.ref q.1,.ref p.1] H' Q' E:=by
 have d1:q.2.1=p.2.1:=congrArg (fun z:Str×Str×List Str=>z.1) d;have d2:q.2.2.1=p.2.2.1:=congrArg (fun z:Str×Str×List Str=>z.2.1) d;have d3:q.2.2.2.2=p.2.2.2.2:=congrArg (fun z:Str×Str×List Str=>z.2.2) d;refine O2 (b:=false) (s _ _ h) (s _ _ h') rfl (by show 3<=200;decide) (fun j x y H'' Q'' E h1 h2 s' hQ'=>?_) hQ
 match j,h1,h2 with
 | 0,h1,h2=>cases h1;cases h2;exact .inl ⟨p.2.1,by show [V.str q.2.1,V.str p.2.1]=_;rw[d1],C8 nm,hQ'⟩
 | 1,h1,h2=>cases h1;cases h2;exact .inl ⟨p.2.2.1,by show [V.str q.2.2.1,V.str p.2.2.1]=_;rw[d2],kd,hQ'⟩
 | 2,h1,h2 =>
  cases h1;cases h2;refine O2 (b:=true) (s' _ _ (s _ _ hs)) (s' _ _ (s _ _ hs')) (by rw[d3]) (by rw[AA,d3];omega) ?_ hQ';rw[d3];exact Jd fun y hy=>C8 (sp y hy)
theorem Nt{S:Sp}{H:Hp}{xa xb xc xd a b c d:Addr}{pe:List PEr}{sa sa':List SAr}{st:List STr}{ba:List PA2}(X:WRows H xa xb xc xd pe sa' st ba)(W:WRows H a b c d pe sa st ba)(ok:WOk pe sa st ba)(dd:sa'.map dS=sa.map dS) :
  Nz (D3 (D3 (D3 (D3 S)))) H [.ref xa,.ref xb,.ref xc,.ref xd] [.ref a,.ref b,.ref c,.ref d]:=by
 obtain⟨l1,l2,l3,l4⟩:=ok.len;have nm:=ok.nm;have ls:sa'.length=sa.length:=by
  have:=congrArg List.length dd
  rwa [AA,AA]at this
 intro i x y H' Q' E h1 h2 s hQ;have X':=X.same s;have W':=W.same s
 match i,h1,h2 with
 | 0,h1,h2 =>
  cases h1;cases h2;have e1:=X'.hp.at_;have e2:=W'.hp.at_;rw[AZ]at e1 e2;exact O2 (b:=true) e1 e2 rfl (by rw[AA];omega) (Bk fun q hq=>Qa (W'.hp.row (rP q) (BB.mpr ⟨q,hq,rfl⟩)) (ok.pm q hq).1) hQ
 | 1,h1,h2 =>
  cases h1;cases h2;have e1:=X'.hs.at_;have e2:=W'.hs.at_;rw[AZ]at e1 e2;refine O2 (b:=true) e1 e2 (by rw[AA,AA,ls]) (by rw[AA];omega) (fun i x y H'' Q'' E h1 h2 s' hQ'=>?_) hQ;rw[AH]at h1 h2;obtain⟨q,hq,rfl⟩:=AU.mp h1;obtain⟨p,hp,rfl⟩:=AU.mp h2;have mq:=AN hq;have mp:=AN hp;have ed:dS q=dS p:=by
   have:=congrArg (fun l:List (Str×Str×List Str)=>l[i]?) dd;simp only[AH,hq,hp]at this;exact BG this
  obtain⟨k1,k2,k3⟩:=ok.sk p mp;exact Pz (X'.hs.row (rS q) (BB.mpr ⟨q,mq,rfl⟩)) (W'.hs.row (rS p) (BB.mpr ⟨p,mp,rfl⟩)) (X'.sp q mq) (W'.sp p mp) ed (nm _ (BT _ (BB.mpr ⟨p,mp,rfl⟩))) (by rcases ok.kd p mp with e | e<;>rw[e]<;>decide +kernel) (fun x hx=>by
   obtain⟨z,hz,rfl⟩:=BB.mp (k1 x hx);exact(ok.pm z hz).1) k3 H'' Q'' E s' hQ'
 | 2,h1,h2 =>
  cases h1;cases h2;have e1:=X'.ht.at_;have e2:=W'.ht.at_;rw[AZ]at e1 e2;exact O2 (b:=true) e1 e2 rfl (by rw[AA];omega) (Bk fun q hq=>Qo (W'.ht.row (rT q) (BB.mpr ⟨q,hq,rfl⟩)) (nm _ (BE _ (BB.mpr ⟨q,hq,rfl⟩))) (nm _ (BT _ (ok.tg q hq).1)) (nm _ (A_.mpr (ok.tg q hq).2))) hQ
 | 3,h1,h2 =>
  cases h1;cases h2;exact O2 (b:=true) X'.hb W'.hb rfl (by unfold Q0;rw[AA];omega) (Bk (f:=fun q:PA2=>q.1) (g:=fun q:PA2=>q.1) fun q hq=>Qe (W'.pb q hq) (nm _ (BT _ (ok.bk q hq).1)) (nm _ (BT _ (ok.bk q hq).2.1))) hQ
theorem Jf{K:PySem.W.Frag}{H G:Hp}{u p:Addr}{xs:List V}{ls:List (Pos×Str)}(h:SqL K H u xs)(t:F6 H p ls)(k:Sm [p] H G):SqL K G u xs:=by
 obtain⟨ps,e,_⟩:=t;have kk:∀{o:HO},H u=some o->o≠ .tbl ps->G u=some o:=fun hz n=>k _ _ hz fun y=>by rw[AC.mp y,e]at hz;cases hz;exact n rfl
 rcases h with(h | ⟨o,h⟩) | h
 .exact .inl (.inl (kk h (by intro z;cases z)))
 .exact .inl (.inr ⟨o,kk h (by intro z;cases z)⟩)
 .exact .inr h
theorem Gm{H H':Hp}{p:Addr}{ls:List (Pos×Str)}(h:F6 H p ls)(k:∀z o,H z=some o->(∀xs,o≠ .lst xs)->H' z=some o):F6 H' p ls:=by
 obtain⟨ps,e,t,q⟩:=h;exact⟨ps,k _ _ e (by intro xs z;cases z),t,fun l hl=>(q l hl).imp id fun⟨c,e,hc⟩=>⟨c,e,k _ _ hc (by intro xs z;cases z)⟩⟩
theorem Ic{sa sa':List SAr}(d:sa'.map dS=sa.map dS){q:SAr}(h:q∈sa'):∃q0∈sa,dS q0=dS q:=by
 have:dS q∈sa'.map dS:=BB.mpr ⟨q,h,rfl⟩;rw[d]at this;exact BB.mp this
theorem WOk.of_dS{pe:List PEr}{sa sa':List SAr}{st:List STr}{ba:List PA2}(h:WOk pe sa st ba)(d:sa'.map dS=sa.map dS):WOk pe sa' st ba:=by
 have e:nS sa'=nS sa:=by
  have:=congrArg (List.map fun q:Str×Str×List Str=>q.1) d;rw[AZ,AZ]at this;exact this
 have l:sa'.length=sa.length:=by
  have:=congrArg List.length d
  rwa [AA,AA]at this
 refine⟨by rw[l];exact h.len,h.pn,h.pm,by rw[e];exact h.sn,by rw[e];exact h.nm,fun q hq=>?_,fun q hq=>?_,by rw[e];exact h.tg,h.bn,by rw[e];exact h.bk⟩
 .obtain⟨q0,h0,e0⟩:=Ic d hq;have:=h.kd q0 h0;have e1:q0.2.2.1=q.2.2.1:=congrArg (fun z:Str×Str×List Str=>z.2.1) e0
  rwa [e1]at this
 .obtain⟨q0,h0,e0⟩:=Ic d hq;have:=h.sk q0 h0;have e1:q0.2.2.2.2=q.2.2.2.2:=congrArg (fun z:Str×Str×List Str=>z.2.2) e0
  rwa [e1]at this
def LstB(n:Nat)(G:Hp)(z:Addr):Prop:=∃xs,G z=some (.lst xs)/\xs.length<=n
theorem LstB.upd{n:Nat}{G:Hp}{y z:Addr}{ys:List V}(h:LstB n G z)(l:ys.length<=n):LstB n (upd G y (.lst ys)) z:=by
 by_cases e:z=y
 .rw[e];exact⟨ys,A7,l⟩
 .obtain⟨xs,h1,h2⟩:=h;exact⟨xs,(B4 e).trans h1,h2⟩
theorem LstB.same{n:Nat}{G G':Hp}{z:Addr}(h:LstB n G z)(s:Same G G'):LstB n G' z:=let⟨xs,h1,h2⟩:=h;⟨xs,s _ _ h1,h2⟩
theorem LstB.mono{n m:Nat}{G:Hp}{z:Addr}(h:LstB n G z)(l:n<=m):LstB m G z:=let⟨xs,h1,h2⟩:=h;⟨xs,h1,BO h2 l⟩
def Kl(B H G:Hp):Prop:=∀z o,H z=some o->(∀xs,o = .lst xs->B z=none)->(∀ps,o≠ .tbl ps)->G z=some o
theorem Kl.refl(B H:Hp):Kl B H H:=fun _ _ e _ _=>e
theorem Kl.upd{B H G:Hp}{z:Addr}{ys:List V}{o o':HO}(h:Kl B H G)(e:H z=some (.lst ys))(b:B z=some o'):Kl B H (upd G z o):=fun y u e' c t=>by
 by_cases n:y=z
 .subst n;rw[e]at e';cases e';rw[c _ rfl]at b;cases b
 .rw[B4 n];exact h y u e' c t
theorem Kl.same{B H G G':Hp}(h:Kl B H G)(s:Same G G'):Kl B H G':=fun z o e c t=>s _ _ (h z o e c t)
theorem Kl.sm{B H G G':Hp}{p:Addr}{ls:List (Pos×Str)}(h:Kl B H G)(tb:F6 G p ls)(s:Sm [p] G G'):Kl B H G':=fun z o e c t=>by
 have:=h z o e c t;refine s _ _ this fun y=>?_;obtain⟨ps,e',_⟩:=tb;rw[AC.mp y,e']at this;cases this;exact t _ rfl
theorem WeaveNew.kl{C:Addr}{B H G:Hp}{x:Addr}{pe:List PEr}{sa:List SAr}{st:List STr}{ba:List PA2}(h:WeaveNew C B H x pe sa st ba)(k:Kl B H G):WeaveNew C B G x pe sa st ba:=by
 obtain⟨dx,a,b,c,d,e,w,n1,n2,n3,n4,n5⟩:=h;have kt:∀{z:Addr} {xs:List V},H z=some (.tup xs)->G z=some (.tup xs):=fun e=>k _ _ e (fun _ y=>by cases y) (fun _ y=>by cases y);have kl:∀{z:Addr} {xs:List V},H z=some (.lst xs)->B z=none->G z=some (.lst xs):=fun e n=>k _ _ e (fun _ _=>n) (fun _ y=>by cases y);exact⟨dx,a,b,c,d,k _ _ e (fun _ y=>by cases y) (fun _ y=>by cases y),⟨⟨kl w.hp.at_ n1,fun q hq=>kt (w.hp.row q hq)⟩,⟨kl w.hs.at_ n2,fun q hq=>kt (w.hs.row q hq)⟩,fun q hq=>kl (w.sp q hq) (n5 q hq),⟨kl w.ht.at_ n3,fun q hq=>kt (w.ht.row q hq)⟩,kl w.hb n4,fun q hq=>kt (w.pb q hq)⟩,n1,n2,n3,n4,n5⟩
theorem WeaveNew.less{C:Addr}{B B' H:Hp}{x:Addr}{pe:List PEr}{sa:List SAr}{st:List STr}{ba:List PA2}(h:WeaveNew C B' H x pe sa st ba)(k:∀z,B' z=none->B z=none):WeaveNew C B H x pe sa st ba:=by
 obtain⟨dx,a,b,c,d,e,w,n1,n2,n3,n4,n5⟩:=h;exact⟨dx,a,b,c,d,e,w,k _ n1,k _ n2,k _ n3,k _ n4,fun q hq=>k _ (n5 q hq)⟩
theorem Kl.more{B B' H G:Hp}(h:Kl B H G)(k:∀z,B' z=none->B z=none):Kl B' H G:=fun z o e c t=>h z o e (fun xs y=>k z (c xs y)) t
theorem o8{C pt x dx:Addr}{G H6:Hp}{pe:List PEr}{sa:List SAr}{st:List STr}{ba:List PA2}(nx:G x=none)(ndx:G dx=none)(k6:Sm [x,pt] (upd (upd G dx (.own x)) x (.ins C dx [])) H6)(W6:WeaveNew C (upd (upd G dx (.own x)) x (.ins C dx [])) H6 x pe sa st ba):Sm [pt] G H6/\WeaveNew C G H6 x pe sa st ba:=by
 have s0:Same G (upd (upd G dx (.own x)) x (.ins C dx [])):=fun b o e=>by
  rw[B4 (A9 e nx),B4 (A9 e ndx)];exact e
 refine⟨fun z o e n=>k6 z o (s0 _ _ e) fun y=>?_,W6.less fun z h=>s0.free h⟩;rcases AJ.mp y with y | y
 .rw[y,nx]at e;cases e
 .exact n y
def InW(C:Addr)(G B:Hp)(x:Addr)(sa:List SAr):Prop:=∀dx a b c d,G x=some (.ins C dx (wfW a b c d))->B c≠none/\B d≠none/\∀q∈sa,B q.2.2.2.1≠none
theorem InW.to{C:Addr}{G G' B B0:Hp}{x:Addr}{pe:List PEr}{sa sa':List SAr}{st:List STr}{ba:List PA2}(h:InW C G B x sa)(w:WeaveNew C B0 G x pe sa' st ba)(k:∀{z dz:Addr} {fs:List (Str×V)},G z=some (.ins C dz fs)->G' z=some (.ins C dz fs)):InW C G' B x sa:=fun dx a b c d e=>by
 obtain⟨dx',a',b',c',d',e',_⟩:=w;have e2:=k e';rw[e]at e2;rw[<-BG e2]at e';exact h dx a b c d e'
theorem InW.of{C:Addr}{G B0:Hp}{x:Addr}{pe:List PEr}{sa:List SAr}{st:List STr}{ba:List PA2}(w:WeaveNew C B0 G x pe sa st ba):InW C G G x sa:=fun dx a b c d e=>by
 obtain⟨dx',a',b',c',d',e',w,_⟩:=w;rw[e]at e';cases e';exact⟨(by rw[w.ht.at_];intro y;cases y),(by rw[w.hb];intro y;cases y),fun q hq=>by rw[w.sp q hq];intro y;cases y⟩
theorem J8{H:Hp}{p z:Addr}{ls:List (Pos×Str)}{o:HO}(t:F6 H p ls)(e:H z=some o)(n:∀ps,o≠ .tbl ps):z≠p:=fun y=>by
 obtain⟨ps,e',_⟩:=t;rw[y,e']at e;cases e;exact n _ rfl
theorem K5{H:Hp}{p z:Addr}{ls:List (Pos×Str)}{xs ys:List V}(t:F6 H p ls)(e:H z=some (.lst xs)):F6 (upd H z (.lst ys)) p ls :=
 Gm t fun y o e' n=>(B4 fun w=>by rw[w,e]at e';cases e';exact n _ rfl).trans e'
theorem Fz{H G:Hp}{p:Addr}{ls:List (Pos×Str)}(t:F6 G p ls)(s:Sm [p] H G){z:Addr}(h:G z=none):H z=none :=
 none_of s (fun y=>by
  obtain⟨ps,e,_⟩:=t;rw[AC.mp y,e]at h;cases h) h
theorem Cf{K:PySem.W.Frag}{H:Hp}{α:Type}{f:α->Addr}{d:α->PyData}:∀{xs:List α},(∀x∈xs,Rp K H (d x) (.ref (f x)))->Rps K H (xs.map d) (xs.map fun x=>V.ref (f x))
 | [],_=>by simp[Rps]
 | x::r,h=>by
  show Rps K H (d x::r.map d) (V.ref (f x)::r.map fun x=>V.ref (f x));simp only[Rps];exact⟨_,_,rfl,h x (AX ..),Cf fun z hz=>h z (AW _ hz)⟩
theorem En{K:PySem.W.Frag}{H:Hp}{α:Type}{f:α->Addr}{d:α->PyData}{xs:List α}{l:Addr}(e:H l=some (.lst (xs.map fun x=>V.ref (f x))))(h:∀x∈xs,Rp K H (d x) (.ref (f x))):Rp K H (.list (xs.map d)) (.ref l):=by
 simp only[Rp];exact⟨l,_,rfl,SqL.of e,Cf h⟩
theorem Eh{α:Type}{d:α->PyData}:∀{xs:List α},(∀x∈xs,(d x).canLay0=true)->PyData.canLayAll0 (xs.map d)=true
 | [],_=>rfl
 | x::r,h=>by
  rw[BR,PyData.canLayAll0,Eh fun z hz=>h z (AW _ hz),h x (AX ..)];rfl
theorem w9{α:Type}{d:α->PyData}{k:Nat}:∀{xs:List α},(∀x∈xs,(d x).depth<=k)->PyData.depthAll (xs.map d)<=k
 | [],_=>by simp[PyData.depthAll]
 | x::r,h=>by
  have h1:=h x (AX ..);have h2:=w9 fun z hz=>h z (AW _ hz);rw[BR,PyData.depthAll];omega
theorem Mo{α:Type}{d:α->PyData}{xs:List α}(h:∀x∈xs,(d x).canLay0=true/\(d x).depth<=20):Pl (.list (xs.map d)):=by
 refine⟨?_,?_⟩
 .rw[PyData.canLay0];exact Eh fun x hx=>(h x hx).1
 .rw[PyData.depth];have:=w9 fun x hx=>(h x hx).2;omega
def pdS(q:SAr):PyData:=.tuple [.str q.2.1,.str q.2.2.1,sd q.2.2.2.2]
theorem My{sa sa':List SAr}(d:sa'.map dS=sa.map dS):sa'.map pdS=sa.map pdS:=by
 have e:∀l:List SAr,l.map pdS =(l.map dS).map fun z:Str×Str×List Str=>PyData.tuple [.str z.1,.str z.2.1,sd z.2.2]:=fun l=>by rw[AZ];rfl
 rw[e,e,d]
theorem Lw{q:SAr}(h1:C9 q.2.1=true)(h2:PySem.PyData.strOk q.2.2.1=true)(h3:∀x∈q.2.2.2.2,C9 x=true):(pdS q).canLay0=true/\(pdS q).depth<=20:=by
 have h:=Eg h3;have d1:(sd q.2.2.2.2).depth<=3:=by
  unfold sd;rw[PyData.depth];have:=U7 q.2.2.2.2;omega
 unfold pdS;refine⟨?_,?_⟩
 .simp[PyData.canLay0,PyData.canLayAll0,C8 h1,h2,h.1]
 .simp only[PyData.depth,PyData.depthAll];omega
theorem Oh{K:PySem.W.Frag}{H:Hp}{q:SAr}(h:Ad H (rS q))(hs:H q.2.2.2.1=some (.lst (q.2.2.2.2.map V.str))):Rp K H (pdS q) (.ref q.1):=by
 unfold pdS;have h3:=Ga (K:=K) (SqL.of hs);simp only[Rp,Rps];exact⟨q.1,_,rfl,SqT.of h,_,_,rfl,rfl,_,_,rfl,rfl,_,_,rfl,h3,rfl⟩
def Pb(ss:List Str):List (Str×Str×List Str):=[("a", "fact",ss),("b", "claim",ss)]
section
variable{P:Program}{w:World}{K:PySem.W.Frag}{mg:Str->Option Value}{base:Heap}
theorem G9:FnScope ["_law_rows", "_law_both", "_law_kept", "_law_weaves"] ["_law_rows"] (B6 s_law_speakers_apart):=fsc
def Hg(pt:Addr):Sp:=fun vs H Q _=>∃(r a b c d:Addr) (pe:List PEr) (sa:List SAr) (st:List STr) (ba:List PA2),vs = [.ref r]/\H r=some (.lst [.ref a,.ref b,.ref c,.ref d])/\WRows H a b c d pe sa st ba/\WOk pe sa st ba/\F6 H pt E9/\∀H',Sm [pt] H H'->F6 H' pt E9->Q (.bl true) H'
set_option maxHeartbeats 8000000 in
theorem P0(T:Tx K mg)(hB:base.BuiltinsAt mg T.ab):FnOk P w K mg base CX0 8 T.ak.f T.ak.fd ["_law_rows"] (Hg T.ab):=by
 have G_Weave___init__:=S5 (P:=P) (w:=w) T hB;have sc:=G9;refine T.ak.F.ok G9 (fun vs H Q E h=>?_) (fun cdv A outer s H vs Q E hr h=>?_)
 .obtain⟨r,a,b,c,d,pe,sa,st,ba,rfl,_⟩:=h;rfl
 .obtain⟨r,a,b,c,d,pe,sa,st,ba,rfl,er,W,ok,hT,q⟩:=h;refine⟨_,(B3 (C5 (i:=1) sc.nd rfl (.inr rfl) (U5 (N':=["_law_row"]) (cap:=[none]) (cl:=[]) (O6 trivial trivial) rfl (piL K (O1 (slL K) (C1 (ixL K) (pv 0) B2 (fun _ _=>rfl)) Q5 (R0 B2))) (fun _ _ _ _=>by exact⟨(pgC 0),E1,(C1 (ixT K) (pv 0) B2 (fun _ _=>rfl))⟩)))
   (B3 (C5 (i:=2) sc.nd rfl (.inr rfl) (P1 (K4 K) T.af E6 (A6 (pv 1) A8)))
   (B3 (S2 (i:=3) (N':=["_law_turn", "_law_rows", "_law_both"]) (cap:=[none,some 0,some 1]) (cl:=[("_law_rows",_),("_law_both",_)]) sc.nd rfl (.inl rfl) (O6 ⟨⟨rfl,rfl,rfl,rfl⟩,⟨⟨rfl,rfl,rfl,rfl⟩,trivial⟩⟩ ⟨rfl,⟨rfl,trivial⟩⟩) rfl (Hh T.ao (A6 B2 A8)) (fun _ _ _ _=>by exact⟨(pgC 0),E1,(t6 T.aR G_Weave___init__ (Rm hr) rfl T.aQ T.ap .nil Dn (A6 (C1 (ixL K) (pv 1) B2 (fun _ _=>rfl)) (A6 (D8 (A6 (J4 (A6 D0 (A6 D0 (A6 (pv 2) A8)))) (A6 (J4 (A6 D0 (A6 D0 (A6 (pv 2) A8)))) A8))) (A6 (D8 A8) (A6 (D8 A8) A8)))))⟩))
   (B3 (E3 (Bp K PySem.F.plainAttrs_list PySem.F.slot_list_append PySem.F.type_list_append E5 (pv 1) (A6 D0 A8)))
   (B7 (C3 (D4 (Ae K) T.aT At (A6 (U5 (N':=["_law_weave", "_law_kept"]) (cap:=[none,some 2]) (cl:=[("_law_kept",_)]) (O6 ⟨⟨rfl,rfl,rfl,rfl⟩,trivial⟩ ⟨rfl,trivial⟩) rfl (piL K (pv 3)) (fun _ _ _ _=>by exact⟨(pgC 0),E1,(D7 (Hf K hr.units) (peF K (pv 0)) (D8 (A6 (J4 (A6 D0 (A6 D0 (A6 (pv 1) A8)))) (A6 (J4 (A6 D0 (A6 D0 (A6 (pv 1) A8)))) A8))) (D9 _))⟩)) A8)))))))),?_⟩
  obtain⟨l1,l2,l3,l4⟩:=ok.len;refine B9 fun N1 hN1=>?_;refine ex1 rfl ⟨r,_,B8 rfl rfl ⟨SqL.of er,B5 (j:=0) rfl,_,rfl,a,_,rfl,SqL.of W.hp.at_,fun u hu=>?_⟩⟩;have u1:=Same.new (o:=.lst (R8 ((pe.map rP).map fun q=>V.ref q.1) none (some (1:Int)))) hu;have e1:(upd H u (.lst (R8 ((pe.map rP).map fun q=>V.ref q.1) none (some (1:Int))))) u=some (.lst (((pe.take 1).map rP).map fun q=>V.ref q.1)):=by
   rw[A7,show(1:Int) =((1:Nat):Int)from rfl,X6,<-BZ,<-BZ]
  generalize upd H u (.lst (R8 ((pe.map rP).map fun q=>V.ref q.1) none (some (1:Int))))=H1 at u1 e1⊢;have R1:RowsAt H1 u ((pe.take 1).map rP):=⟨e1,fun q hq=>u1 _ _ (W.hp.row q (by
   obtain⟨z,hz,rfl⟩:=BB.mp hq;exact BB.mpr ⟨z,BH hz,rfl⟩))⟩
  refine⟨u,rfl,⟨_,SqL.of e1⟩,fun bo hbo=>?_⟩;refine Bn (r:=fun q:RW=>V.ref q.1) (fun q=>V.str q.2.1) (asL (SqL.of e1)) (fun _=>true) (by rw[AA,AV];omega) hbo (fun y my G sG M hM=>hM G fun b o e=>e) (fun y my G sG M hM=>?_) fun σ' H2 s2 e2=>?_
  .exact ex1 rfl ⟨y.1,_,B8 rfl rfl ⟨SqT.of (sG _ _ (R1.row y my)),B5 (j:=0) rfl,hM G fun b o e=>e⟩⟩
  obtain⟨ss,ess⟩:∃ss,ss=nP (pe.take 1):=⟨_,rfl⟩;have e2:H2 bo=some (.lst (ss.map V.str)):=by
   rw[e2,CC.mpr fun _ _=>rfl,ess,AZ];unfold nP;rw[AZ];rfl
  have sub:∀x∈ss,x∈nP pe:=fun x hx=>by
   rw[ess]at hx;obtain⟨z,hz,rfl⟩:=BB.mp hx;exact BB.mpr ⟨z,BH hz,rfl⟩
  have nds:ss.Nodup:=by
   rw[ess];exact ok.pn.sublist (List.Sublist.map _ (DQ _ _))
  have lss:ss.length<=1:=by rw[ess];unfold nP;rw[AA,AV];omega
  have nms:∀x∈ss,C9 x=true:=fun x hx=>by
   obtain⟨z,hz,rfl⟩:=BB.mp (sub x hx);exact(ok.pm z hz).1
  refine hN1 _ _ (B9 fun N2 hN2=>?_);refine ex1 rfl ⟨bo,_,rfl,.inl (SqL.of e2),fun ke hke=>?_⟩;have u3:=Same.new (o:=.lst (ss.map V.str)) hke;have f3:(upd H2 ke (.lst (ss.map V.str))) ke=some (.lst (ss.map V.str)):=A7;have e3:=u3 _ _ e2;have nbk:ke≠bo:=(A9 e2 hke).symm;generalize upd H2 ke (.lst (ss.map V.str))=H3 at u3 e3 f3⊢;have s03:=(u1.trans s2).trans u3;have W3:=W.same s03;have er3:=s03 _ _ er;have T3:=C4 hT s03;have okW:∀t1 t2:Addr,WOk pe [(t1, "a", "fact",bo,ss),(t2, "b", "claim",bo,ss)] [] []:=fun t1 t2=>by
   refine⟨⟨l1,by show 2<=30;decide,BU _,BU _⟩,ok.pn,ok.pm,?_,?_,fun q hq=>?_,fun q hq=>?_,fun q hq=>absurd hq AI,List.nodup_nil,fun q hq=>absurd hq AI⟩
   .show(["a", "b"]:List Str).Nodup;decide +kernel
   .show ∀x∈(["a", "b"]:List Str),C9 x=true;decide +kernel
   .rcases AJ.mp hq with e | e
    .rw[e];exact .inl rfl
    .rw[AC.mp e];exact .inr rfl
   .have:q.2.2.2.2=ss:=by
     rcases AJ.mp hq with e | e
     .rw[e]
     .rw[AC.mp e]
    rw[this];exact⟨sub,nds,by omega⟩
  have nbo:H bo=none:=u1.free hbo;clear u1 s2 u3 e2 hke e1 R1 hu hbo;refine hN2 _ _ (B9 fun N3 hN3=>?_);refine ex1 rfl ⟨by decide,by decide,fun D hD=>?_⟩;have nDb:D≠bo:=(A9 e3 hD).symm;refine V4 (n:=2) (fun i σ G=>(∃v,σ = [v,some (.ref r),some (.ref bo)])/\Sm [T.ab] H3 G/\F6 G T.ab E9/\∃xs:List Addr,G D=some (.lst (xs.map V.ref))/\xs.length=i/\∀x∈xs,∃B sa',WeaveNew T.aa B G x pe sa' [] []/\sa'.map dS=Pb ss/\B D≠none/\B bo≠none) ?_ (fun i _ _ hi _=>hi) (fun _ _ _=>AG _) ?_ ?_
  .exact⟨⟨_,rfl⟩,(Same.new hD).sm,C4 T3 (Same.new hD),[],A7,rfl,fun x hx=>absurd hx AI⟩
  .rintro i σ G0 v G N hi ⟨⟨v0,rfl⟩,kG,TG,xs,eD,lx,wx⟩ ⟨rfl,rfl⟩ hN;refine U1 ?_;have kG':∀z o,H3 z=some o->z≠T.ab->G z=some o:=fun z o e n=>kG z o e fun y=>n (AC.mp y);have WG:=W3.keep T3 kG';have erG:=kG' _ _ er3 (J8 T3 er3 fun _ y=>by cases y);have eb:=kG' _ _ e3 (J8 T3 e3 fun _ y=>by cases y);refine ex1 rfl ⟨r,_,B8 rfl rfl ⟨SqL.of erG,B5 (j:=0) rfl,?_⟩⟩;refine ex1 rfl ⟨by show 3<=sizeLine;decide,fun t1 ht1=>?_⟩;have w1:=Same.new (o:=.tup [.str (Str.ofString "a"),.str (Str.ofString "fact"),.ref bo]) ht1;have x1:(upd G t1 (.tup [.str (Str.ofString "a"),.str (Str.ofString "fact"),.ref bo])) t1=some (.tup [.str (Str.ofString "a"),.str (Str.ofString "fact"),.ref bo]):=A7;generalize upd G t1 (.tup [.str (Str.ofString "a"),.str (Str.ofString "fact"),.ref bo])=G1 at w1 x1⊢;refine ex1 rfl ⟨by show 3<=sizeLine;decide,fun t2 ht2=>?_⟩;have w2:=Same.new (o:=.tup [.str (Str.ofString "b"),.str (Str.ofString "claim"),.ref bo]) ht2;have x2:(upd G1 t2 (.tup [.str (Str.ofString "b"),.str (Str.ofString "claim"),.ref bo])) t2=some (.tup [.str (Str.ofString "b"),.str (Str.ofString "claim"),.ref bo]):=A7;generalize upd G1 t2 (.tup [.str (Str.ofString "b"),.str (Str.ofString "claim"),.ref bo])=G2 at w2 x2⊢;refine⟨by show 2<=sizeLine;decide,fun sq hsq=>?_⟩;have w3:=Same.new (o:=.lst [.ref t1,.ref t2]) hsq;have x3:(upd G2 sq (.lst [.ref t1,.ref t2])) sq=some (.lst [.ref t1,.ref t2]):=A7;generalize upd G2 sq (.lst [.ref t1,.ref t2])=G3 at w3 x3⊢;refine⟨BU _,fun em hem=>?_⟩;have w4:=Same.new (o:=.lst []) hem;have x4:(upd G3 em (.lst [])) em=some (.lst []):=A7;generalize upd G3 em (.lst [])=G4 at w4 x4⊢;refine⟨BU _,fun en hen=>?_⟩;have w5:=Same.new (o:=.lst []) hen;have x5:(upd G4 en (.lst [])) en=some (.lst []):=A7;generalize upd G4 en (.lst [])=G5 at w5 x5⊢;have s35:=w4.trans w5;have s25:=w3.trans s35;have s15:=w2.trans s25;have s05:=w1.trans s15;have W5:WRows G5 a sq em en pe [(t1, "a", "fact",bo,ss),(t2, "b", "claim",bo,ss)] [] []:=by
    have WA:=WG.same s05;refine⟨WA.hp,⟨s35 _ _ x3,fun q hq=>?_⟩,fun q hq=>?_,⟨w5 _ _ x4,fun q hq=>absurd hq AI⟩,x5,fun q hq=>absurd hq AI⟩
    .rcases AJ.mp hq with e | e
     .rw[e];exact s15 _ _ x1
     .rw[AC.mp e];exact s25 _ _ x2
    .have ebo:=s05 _ _ eb;rcases AJ.mp hq with e | e
     .rw[e];exact ebo
     .rw[AC.mp e];exact ebo
   have T5:=C4 TG s05;intro x dx nx ndx nex;have s0:Same G5 (upd (upd G5 dx (.own x)) x (.ins T.aa dx [])):=fun b o e=>by
    rw[B4 (A9 e nx),B4 (A9 e ndx)];exact e
   refine⟨true,x,dx,a,sq,em,en,pe,[(t1, "a", "fact",bo,ss),(t2, "b", "claim",bo,ss)],[],[],rfl,A7,(W5.same s0).b,okW t1 t2,C4 T5 s0,fun sa2 H6 k6 T6 d6 W6=>⟨rfl,?_⟩⟩;have k56:Sm [T.ab] G5 H6:=fun z o e n=>k6 z o (s0 _ _ e) fun y=>by
    rcases AJ.mp y with y | y
    .rw[y,nx]at e;cases e
    .exact n y
   have k06:Sm [T.ab] G H6:=s05.sm.trans k56;have kk:∀{z:Addr} {o:HO},G z=some o->(∀ps,o≠ .tbl ps)->H6 z=some o:=fun e n=>k06 _ _ e fun y=>J8 TG e n (AC.mp y);have eD6:=kk eD fun _ y=>by cases y
   refine⟨_,eD6,by rw[AA,sizeLine_eq];omega,hN _ _ ⟨⟨_,rfl⟩,(kG.trans k06).updN hD,K5 T6 eD6,xs ++ [x],by rw[A7,AL];rfl,by rw[BA,lx];rfl,fun z hz=>?_⟩⟩;have upk:∀{B:Hp} {z:Addr} {sa':List SAr},WeaveNew T.aa B H6 z pe sa' [] []->B D≠none->WeaveNew T.aa B (upd H6 D (.lst (xs.map V.ref ++ [.ref x]))) z pe sa' [] []:=fun{B z sa'} h n=>by
    obtain⟨o',ho'⟩:=BN.mp n;exact h.kl ((Kl.refl B H6).upd eD6 ho')
   rcases A_.mp hz with y | y
   .obtain⟨B,sa',w1,w2,w3,w4⟩:=wx z y;exact⟨B,sa',upk (w1.kl ((Kl.refl B G).sm TG k06)) w3,w2,w3,w4⟩
   .rw[AC.mp y];have nD:(upd (upd G5 dx (.own x)) x (.ins T.aa dx [])) D≠none:=by rw[s0 _ _ (s05 _ _ eD)];intro y;cases y
    have nb:(upd (upd G5 dx (.own x)) x (.ins T.aa dx [])) bo≠none:=by rw[s0 _ _ (s05 _ _ eb)];intro y;cases y
    exact⟨_,sa2,upk W6 nD,d6,nD,nb⟩
  .rintro σ G ⟨_,kG,TG,xs,eD,lx,wx⟩;refine hN3 _ _ (B9 fun N4 hN4=>?_);have kG':∀{z:Addr} {o:HO},H3 z=some o->(∀ps,o≠ .tbl ps)->G z=some o:=fun e n=>kG _ _ e fun y=>J8 T3 e n (AC.mp y);have eb:=kG' e3 fun _ y=>by cases y
   have ek:=kG' f3 fun _ y=>by cases y
   refine ex1 rfl ⟨.inl ⟨rfl,_,SqL.of eb⟩,bo,_,_,rfl,rfl,eb,by rw[AA,sizeLine_eq];omega,hN4 _ _ ?_⟩;have eD':(upd G bo (.lst (ss.map V.str ++ [.str (Str.ofString "more")]))) D=some (.lst (xs.map V.ref)):=by rw[B4 nDb];exact eD
   have ek':(upd G bo (.lst (ss.map V.str ++ [.str (Str.ofString "more")]))) ke=some (.lst (ss.map V.str)):=by rw[B4 nbk];exact ek
   have k':Sm [T.ab] H (upd G bo (.lst (ss.map V.str ++ [.str (Str.ofString "more")]))):=(s03.sm.trans kG).updN nbo;have T':=K5 (ys:=ss.map V.str ++ [.str (Str.ofString "more")]) TG eb;have wx':∀x∈xs,∃B sa',WeaveNew T.aa B (upd G bo (.lst (ss.map V.str ++ [.str (Str.ofString "more")]))) x pe sa' [] []/\sa'.map dS=Pb ss:=fun x hx=>by
    obtain⟨B,sa',w1,w2,w3,w4⟩:=wx x hx;obtain⟨o',ho'⟩:=BN.mp w4;exact⟨B,sa',w1.kl ((Kl.refl B G).upd eb ho'),w2⟩
   generalize upd G bo (.lst (ss.map V.str ++ [.str (Str.ofString "more")]))=G' at eD' ek' k' T' wx'⊢;refine ex1 rfl ⟨D,rfl,⟨_,SqL.of eD'⟩,fun D2 hD2=>?_⟩;refine Bn (r:=V.ref) (fun _=>V.bl true) (asL (K:=K) (SqL.of eD')) (fun _=>true) (by omega) hD2 (fun y my F sF M hM=>hM F fun b o e=>e) (fun y my F sF M hM=>?_) fun σ' H9 s9 e9=>?_
   .obtain⟨B,sa',w1,w2⟩:=wx' y my;obtain⟨dx,xa,xb,xc,xd,ex,X⟩:=(w1.at_).same sF;refine ex1 rfl ⟨y,_,_,_,_,rfl,ex,T.ag,T.as,rfl,?_⟩;refine ex1 rfl ⟨by show 3<=sizeLine;decide,fun t1 ht1=>?_⟩;have v1:=Same.new (o:=.tup [.str (Str.ofString "a"),.str (Str.ofString "fact"),.ref ke]) ht1;have x1:(upd F t1 (.tup [.str (Str.ofString "a"),.str (Str.ofString "fact"),.ref ke])) t1=some (.tup [.str (Str.ofString "a"),.str (Str.ofString "fact"),.ref ke]):=A7;generalize upd F t1 (.tup [.str (Str.ofString "a"),.str (Str.ofString "fact"),.ref ke])=F1 at v1 x1⊢;refine ex1 rfl ⟨by show 3<=sizeLine;decide,fun t2 ht2=>?_⟩;have v2:=Same.new (o:=.tup [.str (Str.ofString "b"),.str (Str.ofString "claim"),.ref ke]) ht2;have x2:(upd F1 t2 (.tup [.str (Str.ofString "b"),.str (Str.ofString "claim"),.ref ke])) t2=some (.tup [.str (Str.ofString "b"),.str (Str.ofString "claim"),.ref ke]):=A7;generalize upd F1 t2 (.tup [.str (Str.ofString "b"),.str (Str.ofString "claim"),.ref ke])=F2 at v2 x2⊢;refine⟨by show 2<=sizeLine;decide,fun sq hsq=>?_⟩;have v3:=Same.new (o:=.lst [.ref t1,.ref t2]) hsq;have s03':=(v1.trans v2).trans v3;have X3:=X.same s03';have ek3:=s03' _ _ (sF _ _ ek');have R:Rp K (upd F2 sq (.lst [.ref t1,.ref t2])) (.list (sa'.map pdS)) (.ref xb):=by
     have e:=X3.hs.at_;rw[AZ]at e;exact En (f:=fun q:SAr=>q.1) e fun q hq=>Oh (X3.hs.row (rS q) (BB.mpr ⟨q,hq,rfl⟩)) (X3.sp q hq)
    have R':Rp K (upd F2 sq (.lst [.ref t1,.ref t2])) (.list (([(t1, "a", "fact",ke,ss),(t2, "b", "claim",ke,ss)]:List SAr).map pdS)) (.ref sq):=by
     refine En (f:=fun q:SAr=>q.1) A7 fun q hq=>?_;rcases AJ.mp hq with e | e
     .rw[e];exact Oh (v3 _ _ (v2 _ _ x1)) ek3
     .rw[AC.mp e];exact Oh (v3 _ _ x2) ek3
    have ed:sa'.map pdS =([(t1, "a", "fact",ke,ss),(t2, "b", "claim",ke,ss)]:List SAr).map pdS:=My (w2.trans rfl);rw[ed]at R;refine Iw R R' (Mo fun q hq=>?_) (hM _ s03');rcases AJ.mp hq with e | e
    .rw[e];exact Lw (by show C9 "a" = true;decide +kernel) (by show PySem.PyData.strOk "fact" = true;decide +kernel) nms
    .rw[AC.mp e];exact Lw (by show C9 "b" = true;decide +kernel) (by show PySem.PyData.strOk "claim" = true;decide +kernel) nms
   .refine⟨D2,(xs.map fun _=>true),rfl,SqL.of (by rw[e9,CC.mpr fun _ _=>rfl,AZ];rfl),?_⟩;have ea:(xs.map fun _=>true).all id=true:=by rw[List.all_map];exact CA.mpr fun _ _=>rfl
    rw[ea];exact q _ (k'.trans s9.sm) (C4 T' s9)
theorem Il:FnScope ["_law_script", "_law_k", "_law_left_here", "_law_rows", "_law_handed", "_law_weaves", "_law_copied_here", "_law_said", "_law_some", "_law_row", "_law_fields", "_law_again"] ["_law_script"] (B6 s_law):=fsc
def Bw(K:PySem.W.Frag)(pt:Addr):Sp:=fun vs H Q _=>∃(u:Addr) (xs:List Int),vs = [.ref u]/\SqL K H u (xs.map V.int)/\xs.length<=63/\F6 H pt E9/\∀H',Q (.bl true) H'
set_option maxHeartbeats 8000000 in
theorem Mr(T:Tx K mg)(hB:base.BuiltinsAt mg T.ab){f:Addr}{fd:FuncData}(F:Fun K "law" "law" s_law f fd):FnOk P w K mg base CX0 9 f fd ["_law_script"] (Bw K T.ab):=by
 have G_law_left:=Ay (P:=P) (w:=w) (base:=base) T;have G_law_weave_rows:=U6 (P:=P) (w:=w) (base:=base) T;have G_law_all:=Dj (P:=P) (w:=w) (base:=base) T;have G_law_copied:=o7 (P:=P) (w:=w) (base:=base) T;have G_law_speakers_apart:=P0 (P:=P) (w:=w) (base:=base) T hB;have G_law_same:FnOk P w K mg base CX0 5 T.ae.f T.ae.fd ["_law_found", "_law_due"] (D3 (D3 (D3 (D3 (D3 Ew))))):=I0 T (I0 T (I0 T (I0 T (I0 T Ke))));have G_Weave___init__:=S5 (P:=P) (w:=w) T hB;have sc:=Il;refine F.ok Il (fun vs H Q E h=>?_) (fun cdv A outer s H vs Q E hr h=>?_)
 .obtain⟨u,xs,rfl,_⟩:=h;rfl
 .obtain⟨u,xs,rfl,hS,hlen,hT,q⟩:=h;refine⟨_,(B3 (S3 PassesOwn.never rfl (Hh T.ao (A6 (E8 S0 (D4 (Fo rfl) T.a9 Lp (A6 B2 (A6 (D4 (K3 K) T.ah I9 (A6 (pv 0) A8)) A8))) B2) A8)) (J3 (i:=1) sc.nd rfl (.inl rfl))
   (B3 (C5 (i:=2) sc.nd rfl (.inl rfl) (C2 T.aM G_law_left (Rm hr) (A6 (pv 0) (A6 (pv 1) A8))))
   (B3 (C5 (i:=3) sc.nd rfl (.inr rfl) (C2 T.ar G_law_weave_rows (Rm hr) (A6 (pv 2) (A6 B2 A8))))
   (B3 (C5 (i:=4) sc.nd rfl (.inr rfl) (C2 T.av G_law_copied (Rm hr) (A6 (pv 3) A8)))
   (B3 (S2 (i:=5) (N':=["_law_turn", "_law_handed"]) (cap:=[none,some 4]) (cl:=[("_law_handed",_)]) sc.nd rfl (.inl rfl) (O6 ⟨⟨rfl,rfl,rfl,rfl⟩,trivial⟩ ⟨rfl,trivial⟩) rfl (Hh T.ao (A6 B2 A8)) (fun _ _ _ _=>by exact⟨(pgC 0),E1,(t6 T.aR G_Weave___init__ (Rm hr) rfl T.aQ T.ap .nil Dn (A6 (C1 (ixL K) (pv 1) B2 (fun _ _=>rfl)) (A6 (C1 (ixL K) (pv 1) B2 (fun _ _=>rfl)) (A6 (C1 (ixL K) (pv 1) B2 (fun _ _=>rfl)) (A6 (C1 (ixL K) (pv 1) B2 (fun _ _=>rfl)) A8)))))⟩))
   (B3 (C5 (i:=6) sc.nd rfl (.inl rfl) (C2 T.av G_law_copied (Rm hr) (A6 (pv 3) A8)))
   (B3 (S2 (i:=7) (N':=["_law_row"]) (cap:=[none]) (cl:=[]) sc.nd rfl (.inl rfl) (O6 trivial trivial) rfl (piL K (C1 (ixL K) (pv 6) B2 (fun _ _=>rfl))) (fun _ _ _ _=>by exact⟨(pgC 0),E1,(J4 (A6 (C1 (ixT K) (pv 0) B2 (fun _ _=>rfl)) (A6 (C1 (ixT K) (pv 0) B2 (fun _ _=>rfl)) (A6 (P1 (T0 K) T.am F7 (A6 (C1 (ixT K) (pv 0) B2 (fun _ _=>rfl)) A8)) A8))))⟩))
   (B3 (E3 (Bp K PySem.F.plainAttrs_list PySem.F.slot_list_append PySem.F.type_list_append E5 (pv 5) (A6 (t6 T.aR G_Weave___init__ (Rm hr) rfl T.aQ T.ap .nil Dn (A6 (P1 (T0 K) T.am F7 (A6 (C1 (ixL K) (pv 6) B2 (fun _ _=>rfl)) A8)) (A6 (P1 (T0 K) T.am F7 (A6 (pv 7) A8)) (A6 (P1 (T0 K) T.am F7 (A6 (C1 (ixL K) (pv 6) B2 (fun _ _=>rfl)) A8)) (A6 (P1 (T0 K) T.am F7 (A6 (C1 (ixL K) (pv 6) B2 (fun _ _=>rfl)) A8)) A8))))) A8)))
   (B3 (J2 (O0 (F9 (C2 T.ae G_law_same (Rm hr) (A6 (pv 4) (A6 (pv 3) A8))))) (B7 (C3 g9)) C7)
   (B3 (S3 PassesOwn.never rfl (piL K (pv 4)) (J3 (i:=8) sc.nd rfl (.inl rfl))
   (B3 (E3 (Bp K PySem.F.plainAttrs_list PySem.F.slot_list_append PySem.F.type_list_append E5 (pv 8) (A6 (J4 (A6 D0 (A6 D0 A8))) A8)))
   (B7 (E3 (Jz K PySem.F.plainAttrs_list PySem.F.slot_list_reverse PySem.F.type_list_reverse U9 (pv 8))))))
   (B3 (S3 PassesOwn.never rfl (piL K (C1 (ixL K) (pv 4) B2 (fun _ _=>rfl))) (J3 (i:=9) sc.nd rfl (.inl rfl))
   (B7 (J2 (F9 (D4 (E4 K) T.ac C0 (A6 (C1 (ixT K) (pv 9) (Lm Ij B2) (fun _ _=>rfl)) (A6 (K9 T.af E6) A8)))) (B7 (E3 (Bp K PySem.F.plainAttrs_list PySem.F.slot_list_append PySem.F.type_list_append E5 (C1 (ixT K) (pv 9) (Lm Ij B2) (fun _ _=>rfl)) (A6 D0 A8)))) C7)))
   (B3 (J2 (O0 (F9 (D4 (Ae K) T.aT At (A6 (U5 (N':=["_law_weave", "_law_rows"]) (cap:=[none,some 3]) (cl:=[("_law_rows",_)]) (O6 ⟨⟨rfl,rfl,rfl,rfl⟩,trivial⟩ ⟨rfl,trivial⟩) rfl (piL K (pv 5)) (fun _ _ _ _=>by exact⟨(pgC 0),E1,(C2 T.ae G_law_same (Rm hr) (A6 (C2 T.aw G_law_all (Rm hr) (A6 (pv 0) A8)) (A6 (pv 1) A8)))⟩)) A8)))) (B7 (C3 g9)) C7)
   (B3 (C5 (i:=10) sc.nd rfl (.inl rfl) (C2 T.aw G_law_all (Rm hr) (A6 (C1 (ixL K) (pv 5) B2 (fun _ _=>rfl)) A8)))
   (B3 (C5 (i:=11) sc.nd rfl (.inl rfl) (t6 T.aR G_Weave___init__ (Rm hr) rfl T.aQ T.ap .nil Dn (A6 (C1 (ixL K) (pv 10) B2 (fun _ _=>rfl)) (A6 (C1 (ixL K) (pv 10) B2 (fun _ _=>rfl)) (A6 (C1 (ixL K) (pv 10) B2 (fun _ _=>rfl)) (A6 (C1 (ixL K) (pv 10) B2 (fun _ _=>rfl)) A8))))))
   (B3 (S3 PassesOwn.never rfl (piL K (peF K (C1 (ixL K) (pv 5) B2 (fun _ _=>rfl)))) (J3 (i:=9) sc.nd rfl (.inl rfl))
   (B7 (E3 (Bp K PySem.F.plainAttrs_list PySem.F.slot_list_append PySem.F.type_list_append E5 (C1 (ixT K) (pv 9) B2 (fun _ _=>rfl)) (A6 D0 A8)))))
   (B3 (E3 (Jz K PySem.F.plainAttrs_list PySem.F.slot_list_reverse PySem.F.type_list_reverse U9 (peF K (C1 (ixL K) (pv 5) B2 (fun _ _=>rfl)))))
   (B3 (E3 (Bp K PySem.F.plainAttrs_list PySem.F.slot_list_append PySem.F.type_list_append E5 (peF K (C1 (ixL K) (pv 5) B2 (fun _ _=>rfl))) (A6 (J4 (A6 D0 (A6 D0 A8))) A8)))
   (B3 (J2 (PW.pt (Bf (O0 (F9 (C2 T.ae G_law_same (Rm hr) (A6 (C2 T.aw G_law_all (Rm hr) (A6 (pv 11) A8)) (A6 (pv 3) A8))))) (Y7 (O0 (F9 (C2 T.ae G_law_same (Rm hr) (A6 (C2 T.aw G_law_all (Rm hr) (A6 (C1 (ixL K) (pv 5) B2 (fun _ _=>rfl)) A8)) (A6 (pv 3) A8)))))))) (B7 (C3 g9)) C7)
   (B7 (J2 (O0 (F9 (C2 T.ak G_law_speakers_apart (Rm hr) (A6 (pv 3) A8)))) (B7 (C3 g9)) C7))))))))))))))))))))
   (B7 (C3 g9))),?_⟩
  refine B9 fun N0 hN0=>?_;refine⟨_,rfl,u,_,rfl,.inl hS,_,_,rfl,?_⟩;have hz:∀l:Int,0<=l->∃z:Nat,(if l <(10:Int)then l else 10)+1 =(z:Int)/\z<=11:=fun l h0=>by
   by_cases h1:l <(10:Int)
   .rw[BI h1];exact⟨l.toNat+1,by omega,by omega⟩
   .rw[BF h1];exact⟨11,by decide,by decide⟩
  obtain⟨z,ez,hz⟩:=hz ((xs.map V.int).length:Int) (by omega);refine B8 rfl rfl (ex1 (a:=(z:Int)) (congrArg (fun t=>[V.int t]) ez) ⟨by omega,by omega,?_⟩);rw[CI];refine P8 (fun i σ G=>(∃v1 v2 v3 v4 v5 v6 v7 v8 v9 v10 v11,σ = [some (.ref u),v1,v2,v3,v4,v5,v6,v7,v8,v9,v10,v11])/\Sm [T.ab] H G/\F6 G T.ab E9) ?_ ?_ ?_
  .exact⟨⟨_,_,_,_,_,_,_,_,_,_,_,rfl⟩,Sm.refl _ _,hT⟩
  .rintro i σ F0 hi ⟨⟨v1,v2,v3,v4,v5,v6,v7,v8,v9,v10,v11,rfl⟩,kF,TF⟩ D1 hD1 _;rw[Int.zero_add];refine Gz fun M1 hM1=>?_;refine ex1 rfl (ex1 rfl ⟨u,xs,i,rfl,Jf hS hT kF,by omega,fun p H1 hp s1 L1=>?_⟩);refine hM1 _ _ (B9 fun M2 hM2=>?_);refine ex1 rfl ⟨p,0,rfl,L1,by omega,fun r a b g d pe sa st ba c' H3 k3 er W3 ok L3 hc3=>?_⟩;have s3:Same F0 H3:=fun b o e=>k3 b o (s1 b o e) (by simpa using A9 e hp);clear L3 hc3 k3 L1 s1 hp;have T3:=C4 TF s3;refine hM2 _ _ (B9 fun M3 hM3=>?_);refine ex1 rfl ⟨r,a,b,g,d,pe,sa,st,ba,rfl,er,W3,ok,fun r' a' b' g' d' sa' HB sB hr' er' N' ne' d6=>?_⟩;have ok':=ok.of_dS d6;have TB:=C4 T3 sB;refine hM3 _ _ (B9 fun M4 hM4=>?_);refine ex1 rfl ⟨by decide,by decide,fun D hD=>?_⟩;refine V4 (n:=2) (fun i' σ G=>(∃v,σ = [v,some (.ref r')])/\Sm [T.ab] HB G/\F6 G T.ab E9/\∃ws:List (Addr×Hp×List SAr),G D=some (.lst (ws.map fun e=>V.ref e.1))/\ws.length=i'/\∀j e,ws[j]?=some e->WeaveNew T.aa e.2.1 G e.1 pe e.2.2 st ba/\e.2.2.map dS=sa.map dS/\e.2.1 D≠none/\(∀z,e.2.1 z=none->HB z=none)/\∀f∈ws.take j,InW T.aa G e.2.1 f.1 f.2.2) ?_ (fun i _ _ hi _=>hi) (fun _ _ _=>AG _) ?_ ?_
   .exact⟨⟨_,rfl⟩,(Same.new hD).sm,C4 TB (Same.new hD),[],A7,rfl,fun j x hx=>by cases hx⟩
   .rintro i' σ G0 v G N hi' ⟨⟨v0,rfl⟩,kG,TG,ws,eD,lx,wx⟩ ⟨rfl,rfl⟩ hN;refine U1 ?_;have kG':∀z o,HB z=some o->z≠T.ab->G z=some o:=fun z o e n=>kG z o e fun y=>n (AC.mp y);have WG:=N'.W.keep TB kG';have erG:=kG' _ _ er' (J8 TB er' fun _ y=>by cases y);refine ex1 rfl ⟨r',_,B8 rfl rfl ⟨SqL.of erG,B5 (j:=0) rfl,ex1 rfl ⟨r',_,B8 rfl rfl ⟨SqL.of erG,B5 (j:=1) rfl,ex1 rfl ⟨r',_,B8 rfl rfl ⟨SqL.of erG,B5 (j:=2) rfl,ex1 rfl ⟨r',_,B8 rfl rfl ⟨SqL.of erG,B5 (j:=3) rfl,?_⟩⟩⟩⟩⟩⟩⟩⟩;intro x dx nx ndx nex;have s0:Same G (upd (upd G dx (.own x)) x (.ins T.aa dx [])):=fun b o e=>by
     rw[B4 (A9 e nx),B4 (A9 e ndx)];exact e
    refine⟨true,x,dx,a',b',g',d',pe,sa',st,ba,rfl,A7,(WG.same s0).b,ok',C4 TG s0,fun sa2 H6 k6 T6 dd W6=>⟨rfl,?_⟩⟩;obtain⟨k06,W6⟩:=o8 nx ndx k6 W6;have kk:∀{z:Addr} {o:HO},G z=some o->(∀ps,o≠ .tbl ps)->H6 z=some o:=fun e n=>k06 _ _ e fun y=>J8 TG e n (AC.mp y);have eD6:=kk eD fun _ y=>by cases y
    have upk:∀{B:Hp} {z:Addr} {sa':List SAr},WeaveNew T.aa B H6 z pe sa' st ba->B D≠none->WeaveNew T.aa B (upd H6 D (.lst ((ws.map fun e=>V.ref e.1) ++ [.ref x]))) z pe sa' st ba:=fun{B z sa'} h n=>by
     obtain⟨o',ho'⟩:=BN.mp n;exact h.kl ((Kl.refl B H6).upd eD6 ho')
    have insk:∀{z:Addr} {dz:Addr} {fs:List (Str×V)},G z=some (.ins T.aa dz fs)->(upd H6 D (.lst ((ws.map fun e=>V.ref e.1) ++ [.ref x]))) z=some (.ins T.aa dz fs):=fun e=>by
     have h:=kk e fun _ y=>by cases y
     exact(B4 (O7 h eD6 (by intro y;cases y))).trans h
    refine⟨_,eD6,by rw[AA,sizeLine_eq];omega,hN _ _ ⟨⟨_,rfl⟩,(kG.trans k06).updN hD,K5 T6 eD6,ws ++ [(x,G,sa2)],by rw[A7,AL];rfl,by rw[BA,lx];rfl,fun j e hz=>?_⟩⟩;by_cases hj:j<ws.length
    .rw[CP hj]at hz;obtain⟨w1,w2,w3,w4,w5⟩:=wx j e hz;refine⟨upk (w1.kl ((Kl.refl _ G).sm TG k06)) w3,w2,w3,w4,fun f hf=>?_⟩;rw[List.take_append_of_le_length (by omega)]at hf;obtain⟨k,hk⟩:=List.getElem?_of_mem (BH hf);obtain⟨v1,_⟩:=wx k f hk;exact(w5 f hf).to v1 insk
    .have hj':j=ws.length:=by
      have:=(AM.mp hz).1;rw[BA,CD]at this;omega
     subst hj';rw[CN (AG _),Nat.sub_self]at hz;cases hz;have nD:G D≠none:=by rw[eD];intro y;cases y
     refine⟨upk W6 nD,dd.trans d6,nD,fun z h=>Fz TG kG h,fun f hf=>?_⟩;rw[List.take_append_of_le_length (AG _),CB]at hf;obtain⟨k,hk⟩:=List.getElem?_of_mem hf;obtain⟨v1,_⟩:=wx k f hk;exact(InW.of v1).to v1 insk
   .rintro σ G ⟨_,kG,TG,xw,eD,lx,wx⟩;obtain⟨⟨x0,B0,sw0⟩,⟨x1,B1,sw1⟩,rfl⟩:∃e0 e1,xw = [e0,e1]:=by
     match xw,lx with
     | [e0,e1],_=>exact⟨e0,e1,rfl⟩
    obtain⟨W0,dw0,nD0,le0,_⟩:=wx 0 _ rfl;obtain⟨W1,dw1,nD1,le1,in1⟩:=wx 1 _ rfl;have in1:InW T.aa G B1 x0 sw0:=in1 _ (AX ..);have W0:WeaveNew T.aa B0 G x0 pe sw0 st ba:=W0;have W1:WeaveNew T.aa B1 G x1 pe sw1 st ba:=W1;have dw0:sw0.map dS=sa.map dS:=dw0;have dw1:sw1.map dS=sa.map dS:=dw1;have nD0:B0 D≠none:=nD0;have nD1:B1 D≠none:=nD1;have le0:∀z,B0 z=none->HB z=none:=le0;have le1:∀z,B1 z=none->HB z=none:=le1;have eD:G D=some (.lst [.ref x0,.ref x1]):=eD;clear wx lx;refine hM4 _ _ (B9 fun M5 hM5=>?_);have kB:∀{z:Addr} {o:HO},HB z=some o->(∀ps,o≠ .tbl ps)->G z=some o:=fun e n=>kG _ _ e fun y=>J8 TB e n (AC.mp y);have W3B:=W3.same sB;have kGp:∀z o,HB z=some o->z≠T.ab->G z=some o:=fun z o e n=>kG z o e fun y=>n (AC.mp y);refine ex1 rfl ⟨r,a,b,g,d,pe,sa,st,ba,rfl,kB (sB _ _ er) (fun _ y=>by cases y),W3B.keep TB kGp,ok,fun r2 a2 b2 g2 d2 sb H8 s8 hr2 er2 N2 ne2 d8=>?_⟩;refine hM5 _ _ (B9 fun M6 hM6=>?_);have as1:=asL (K:=K) (SqL.of N2.W.hs.at_);rw[AZ]at as1;refine ex1 rfl ⟨r2,_,B8 rfl rfl ⟨SqL.of er2,B5 (j:=1) rfl,b2,rfl,⟨_,SqL.of N2.W.hs.at_⟩,fun S hS2=>?_⟩⟩;have lsb:sb.length<=30:=(ok.of_dS d8).len.2.1;refine f8 as1 (fun i' σ F=>(∃v0,σ = [v0])/\Same H8 F/\∃sc':List SAr,RowsAt F S (sc'.map rS)/\(∀q∈sc',F q.2.2.2.1=some (.tup (q.2.2.2.2.map V.str)))/\sc'.map dS =(sb.take i').map dS)
     ⟨⟨_,rfl⟩,Same.new hS2,[],⟨A7,fun q h=>absurd h AI⟩,fun q h=>absurd h AI,rfl⟩ (fun i σ G _ ⟨_,s1,_⟩=>s1.at b2) ?_ ?_
    .rintro i' σ F v N hv ⟨⟨v0,rfl⟩,sF,sc',RF,spF,dF⟩ hN;rw[AH]at hv;obtain⟨y,hy,rfl⟩:=AU.mp hv;have my:=AN hy;have li:=(AM.mp hy).1;have lsc:=congrArg List.length dF;rw[AA,AA,AV]at lsc;have ey:=sF _ _ (N2.W.hs.row (rS y) (BB.mpr ⟨y,my,rfl⟩));have es:=sF _ _ (N2.W.sp y my);refine U1 ?_;refine ex1 rfl ⟨y.1,_,B8 rfl rfl ⟨SqT.of ey,B5 (j:=0) rfl,ex1 rfl ⟨y.1,_,B8 rfl rfl ⟨SqT.of ey,B5 (j:=1) rfl,ex1 rfl ⟨y.1,_,B8 rfl rfl ⟨SqT.of ey,B5 (j:=2) rfl,y.2.2.2.1,_,rfl,.inl ⟨SqL.of es,fun l hl=>⟨by show 3<=sizeLine;decide,fun t ht=>?_⟩⟩⟩⟩⟩⟩⟩⟩;have ul:=Same.new (o:=.tup (y.2.2.2.2.map V.str)) hl;have ntS:t≠S:=(A9 (ul _ _ RF.at_) ht).symm;have ntl:l≠t:=A9 A7 ht;have el:(upd (upd F l (.tup (y.2.2.2.2.map V.str))) t (.tup [.str (rS y).2.1,.str y.2.2.1,.ref l])) l=some (.tup (y.2.2.2.2.map V.str)):=by rw[B4 ntl,A7]
     have et:(upd (upd F l (.tup (y.2.2.2.2.map V.str))) t (.tup [.str (rS y).2.1,.str y.2.2.1,.ref l])) t=some (.tup [.str (rS y).2.1,.str y.2.2.1,.ref l]):=A7;have ut:=ul.trans (Same.new (o:=.tup [.str (rS y).2.1,.str y.2.2.1,.ref l]) ht);generalize upd (upd F l (.tup (y.2.2.2.2.map V.str))) t (.tup [.str (rS y).2.1,.str y.2.2.1,.ref l])=F2 at el et ut⊢;have RF2:=RF.same ut;have kt:∀{z:Addr} {xs:List V},F2 z=some (.tup xs)->(upd F2 S (.lst (((sc'.map rS).map fun q=>V.ref q.1) ++ [.ref t]))) z=some (.tup xs):=fun e=>(B4 (O7 e RF2.at_ (by intro z;cases z))).trans e;refine⟨_,RF2.at_,by rw[AA,AA,sizeLine_eq];omega,hN _ _ ⟨⟨_,rfl⟩,(sF.trans ut).upd hS2,sc' ++ [(t,y.2.1,y.2.2.1,l,y.2.2.2.2)],⟨by rw[A7,AL,AL];rfl,fun z hz=>?_⟩,fun z hz=>?_,by rw[AL,dF,J5 hy,AL];rfl⟩⟩
     .rw[AL]at hz;rcases A_.mp hz with h | h
      .exact kt (RF2.row z h)
      .rw[AC.mp h];exact kt et
     .rcases A_.mp hz with h | h
      .exact kt (ut _ _ (spF z h))
      .rw[AC.mp h];exact kt el
    .rintro σ H9 ⟨_,s9,sc',R9,sp9,d9⟩;rw[AA,CB]at d9;have s89:=s8.trans s9;refine hM6 _ _ (B9 fun M7 hM7=>?_);have eD9:=s89 _ _ eD;refine ex1 rfl ⟨.inl ⟨rfl,_,SqL.of eD9⟩,?_⟩;have X9:=N2.W.same s9;have er9:=s9 _ _ er2;refine ex1 rfl ⟨r2,_,B8 rfl rfl ⟨SqL.of er9,B5 (j:=0) rfl,a2,_,rfl,.inl ⟨SqL.of X9.hp.at_,fun ta hta=>?_⟩⟩⟩;have w1:=Same.new (o:=.tup ((pe.map rP).map fun q=>V.ref q.1)) hta;have f1:(upd H9 ta (.tup ((pe.map rP).map fun q=>V.ref q.1))) ta=some (.tup ((pe.map rP).map fun q=>V.ref q.1)):=A7;generalize upd H9 ta (.tup ((pe.map rP).map fun q=>V.ref q.1))=G1 at w1 f1⊢;refine ex1 rfl ⟨S,_,rfl,.inl ⟨SqL.of (w1 _ _ R9.at_),fun tb htb=>?_⟩⟩;have w2:=Same.new (o:=.tup ((sc'.map rS).map fun q=>V.ref q.1)) htb;have f2:(upd G1 tb (.tup ((sc'.map rS).map fun q=>V.ref q.1))) tb=some (.tup ((sc'.map rS).map fun q=>V.ref q.1)):=A7;generalize upd G1 tb (.tup ((sc'.map rS).map fun q=>V.ref q.1))=G2 at w2 f2⊢;have w12:=w1.trans w2;refine ex1 rfl ⟨r2,_,B8 rfl rfl ⟨SqL.of (w12 _ _ er9),B5 (j:=2) rfl,g2,_,rfl,.inl ⟨SqL.of (w12 _ _ X9.ht.at_),fun tg htg=>?_⟩⟩⟩;have w3:=Same.new (o:=.tup ((st.map rT).map fun q=>V.ref q.1)) htg;have f3:(upd G2 tg (.tup ((st.map rT).map fun q=>V.ref q.1))) tg=some (.tup ((st.map rT).map fun q=>V.ref q.1)):=A7;generalize upd G2 tg (.tup ((st.map rT).map fun q=>V.ref q.1))=G3 at w3 f3⊢;have w13:=w12.trans w3;refine ex1 rfl ⟨r2,_,B8 rfl rfl ⟨SqL.of (w13 _ _ er9),B5 (j:=3) rfl,d2,_,rfl,.inl ⟨SqL.of (w13 _ _ X9.hb),fun td htd=>?_⟩⟩⟩;have w4:=Same.new (o:=.tup (Q0 ba)) htd;have f4:(upd G3 td (.tup (Q0 ba))) td=some (.tup (Q0 ba)):=A7;generalize upd G3 td (.tup (Q0 ba))=G4 at w4 f4⊢;have w14:=w13.trans w4;have X4:=X9.same w14;have WT:WRowsB false G4 ta tb tg td pe sc' st ba:=⟨⟨(w2.trans (w3.trans w4)) _ _ f1,X4.hp.row⟩,⟨(w3.trans w4) _ _ f2,fun q hq=>w14 _ _ (R9.row q hq)⟩,fun q hq=>w14 _ _ (sp9 q hq),⟨w4 _ _ f3,X4.ht.row⟩,f4,X4.pb⟩;have sG4:=s89.trans w14;have T4:=C4 TG sG4;have k4:Sm [T.ab] HB G4:=kG.trans sG4.sm;have W04:=W0.same sG4;have W14:=W1.same sG4;have in14:=in1.to W0 fun e=>sG4 _ _ e;have eD4:=sG4 _ _ eD;clear X4 X9 w14 w13 w12 w1 w2 w3 w4 f1 f2 f3 f4 er9 eD9 s89 s9 s8 R9 sp9 N2 er2 hr2 ne2 W0 W1 TG kG kB kGp eD;intro x2 dx nx ndx nex;have s0:Same G4 (upd (upd G4 dx (.own x2)) x2 (.ins T.aa dx [])):=fun b o e=>by
      rw[B4 (A9 e nx),B4 (A9 e ndx)];exact e
     refine⟨false,x2,dx,ta,tb,tg,td,pe,sc',st,ba,rfl,A7,WT.same s0,ok.of_dS (d9.trans d8),C4 T4 s0,fun sw2 H6 k6 T6 dd W6=>⟨rfl,?_⟩⟩;obtain⟨k46,W2⟩:=o8 nx ndx k6 W6;have eD6:H6 D=some (.lst [.ref x0,.ref x1]):=k46 _ _ eD4 fun y=>J8 T4 eD4 (fun _ y=>by cases y) (AC.mp y);have dw2:=(dd.trans d9).trans d8;refine⟨D,_,_,rfl,rfl,eD6,by show 2<sizeLine;decide,hM7 _ _ (B9 fun M8 hM8=>?_)⟩;have upk:∀{B:Hp} {z:Addr} {sa':List SAr},WeaveNew T.aa B H6 z pe sa' st ba->B D≠none->WeaveNew T.aa B (upd H6 D (.lst ([.ref x0,.ref x1] ++ [.ref x2]))) z pe sa' st ba:=fun{B z sa'} h n=>by
      obtain⟨o',ho'⟩:=BN.mp n;exact h.kl ((Kl.refl B H6).upd eD6 ho')
     have W07:=upk (W04.kl ((Kl.refl B0 G4).sm T4 k46)) nD0;have W17:=upk (W14.kl ((Kl.refl B1 G4).sm T4 k46)) nD1;have W27:=upk W2 (by rw[eD4];intro y;cases y);have in17:=in14.to (G':=upd H6 D (.lst ([.ref x0,.ref x1] ++ [.ref x2]))) W04 fun e=>by
      have h:=k46 _ _ e fun y=>J8 T4 e (fun _ y=>by cases y) (AC.mp y);exact(B4 (O7 h eD6 (by intro y;cases y))).trans h
     have le2:∀z,G4 z=none->HB z=none:=fun z h=>Fz T4 k4 h;have k7:Sm [T.ab] HB (upd H6 D (.lst ([.ref x0,.ref x1] ++ [.ref x2]))):=(k4.trans k46).updN hD;have T7:=K5 (ys:=[.ref x0,.ref x1] ++ [.ref x2]) T6 eD6;have eD7:(upd H6 D (.lst ([.ref x0,.ref x1] ++ [.ref x2]))) D=some (.lst [.ref x0,.ref x1,.ref x2]):=A7;generalize upd H6 D (.lst ([.ref x0,.ref x1] ++ [.ref x2]))=G7 at W07 W17 W27 in17 k7 T7 eD7⊢;clear upk W2 W6 k6 k46 W04 W14 eD6 eD4 T6 s0 WT T4 k4 sG4 nx ndx nex;have kB7:∀z o,HB z=some o->z≠T.ab->G7 z=some o:=fun z o e n=>k7 z o e fun y=>n (AC.mp y);have X7:=N'.W.keep TB kB7;have R7:=(W3.same sB).keep TB kB7;have eh7:=kB7 _ _ er' (J8 TB er' fun _ y=>by cases y);have er7:=kB7 _ _ (sB _ _ er) (J8 TB (sB _ _ er) fun _ y=>by cases y);refine ex1 rfl (ex1 rfl (.inr (.inr ⟨r',r,true,_,_,rfl,eh7,er7,rfl,by show 4<=200;decide,Nt X7 R7 ok d6,fun G8 s8=>⟨_,rfl,X1 (hM8 _ _ (B9 fun M9 hM9=>?_))⟩⟩)));have X8:=X7.same s8;have eh8:=s8 _ _ eh7;have T8:=C4 T7 s8;have W08:=W07.same s8;have W18:=W17.same s8;have W28:=W27.same s8;have eD8:=s8 _ _ eD7;have in18:=in17.to W07 fun e=>s8 _ _ e;have S8:Sm [T.ab] H3 G8:=(sB.sm.trans k7).trans s8.sm;clear kB7 X7 R7 eh7 er7 s8 T7 k7 W07 W17 W27 eD7;have zz:∀(j:Nat) (z:Addr),([a',b',g',d']:List Addr)[j]?=some z->H3 z=none/\(∃ys,G8 z=some (.lst ys))/\(∃o,HB z=some o)/\r'≠z/\(j=1->z=b')/\(j≠1->b'≠z):=fun j z hz=>by
      match j,hz with
      | 0,hz=>cases hz;exact⟨N'.na,⟨_,X8.hp.at_⟩,⟨_,N'.W.hp.at_⟩,ne'.1,(fun y=>by cases y),fun _=>N'.ba⟩
      | 1,hz=>cases hz;exact⟨N'.nb,⟨_,X8.hs.at_⟩,⟨_,N'.W.hs.at_⟩,ne'.2.1,(fun _=>rfl),fun y=>absurd rfl y⟩
      | 2,hz=>cases hz;exact⟨N'.nc,⟨_,X8.ht.at_⟩,⟨_,N'.W.ht.at_⟩,ne'.2.2.1,(fun y=>by cases y),fun _=>N'.bc⟩
      | 3,hz=>cases hz;exact⟨N'.nd,⟨_,X8.hb⟩,⟨_,N'.W.hb⟩,ne'.2.2.2.1,(fun y=>by cases y),fun _=>N'.bd⟩
     obtain⟨l1,l2,l3,l4⟩:=ok'.len;have ini:∀z,(z∈([a',b',g',d']:List Addr)\/∃q∈sa',z=q.2.2.2.1)->LstB 100 G8 z:=fun z hz=>by
      rcases hz with hz | ⟨q,hq,e⟩;rotate_left
      .rw[e];exact⟨_,X8.sp q hq,by rw[AA];exact(ok'.sk q hq).2.2⟩
      rcases AJ.mp hz with e | hz
      .rw[e];exact⟨_,X8.hp.at_,by rw[AA,AA];omega⟩
      rcases AJ.mp hz with e | hz
      .rw[e];exact⟨_,X8.hs.at_,by rw[AA,AA];omega⟩
      rcases AJ.mp hz with e | hz
      .rw[e];exact⟨_,X8.ht.at_,by rw[AA,AA];omega⟩
      .rw[AC.mp hz];exact⟨_,X8.hb,by unfold Q0;rw[AA];omega⟩
     have eh8':G8 r'=some (.lst (([a',b',g',d']:List Addr).map V.ref)):=eh8;refine ex1 rfl ⟨r',rfl,⟨_,SqL.of eh8'⟩,p6 (asL (SqL.of eh8')) (fun j σ F=>(∃v8 v9 v10 v11,σ = [some (.ref u),some (.int (i:Int)),some (.ref p),some (.ref r),some (.ref r'),some (.ref D),some (.ref r2),some (.ref S),v8,v9,v10,v11])/\Sm [T.ab] H3 F/\F6 F T.ab E9/\Kl HB G8 F/\F r'=some (.lst (([a',b',g',d']:List Addr).map V.ref))/\(∀z,(z∈([a',b',g',d']:List Addr)\/∃q∈sa',z=q.2.2.2.1)->LstB (100+j) F z)/\(j<=1->F b'=some (.lst ((sa'.map rS).map fun q=>V.ref q.1)))/\(2<=j->∃t,F t=some (.tup [.str "more",.str "more"])/\F b'=some (.lst ((((sa'.map rS).map fun q=>V.ref q.1) ++ [V.ref t]).reverse)))) ?_ ?_ ?_ ?_⟩
     .exact⟨⟨_,_,_,_,rfl⟩,S8,T8,Kl.refl _ _,eh8',ini,fun _=>X8.hs.at_,fun h=>by omega⟩
     .rintro j σ F _ ⟨_,_,_,_,f,_⟩ o e;rw[eh8']at e;cases e;exact f
     .rintro j σ F v hv ⟨⟨v8,v9,v10,v11,rfl⟩,kF3,TF3,KF,ef,lF,b0,b1⟩ D2 hD2 _;rw[AH]at hv;obtain⟨z,hz,rfl⟩:=AU.mp hv;obtain⟨n1,⟨y8,n2⟩,⟨oB,n3⟩,n4,n5,n6⟩:=zz j z hz;have jl:j<4:=(AM.mp hz).1;obtain⟨xs',e1,len1⟩:=lF z (.inl (AN hz));refine Gz fun A1 hA1=>?_;refine ex1 rfl ⟨.inl ⟨rfl,_,SqL.of e1⟩,by show 2<=sizeLine;decide,fun t ht=>?_⟩;have ut:=Same.new (o:=.tup [.str (Str.ofString "more"),.str (Str.ofString "more")]) ht;have et:(upd F t (.tup [.str (Str.ofString "more"),.str (Str.ofString "more")])) t=some (.tup [.str "more",.str "more"]):=A7;generalize upd F t (.tup [.str (Str.ofString "more"),.str (Str.ofString "more")])=F1 at ut et⊢;have e2:=ut _ _ e1;refine⟨z,_,_,rfl,rfl,e2,by rw[sizeLine_eq];omega,hA1 _ _ ?_⟩;refine ex1 rfl ⟨.inl ⟨rfl,_,SqL.of A7⟩,z,_,rfl,rfl,A7,?_⟩;have le3:(xs' ++ [V.ref t]).length<=100 +(j+1):=by rw[BA,CD];omega
      have ntz:t≠z:=O7 et e2 (by intro y;cases y);refine hD2 _ _ ⟨⟨_,_,_,_,rfl⟩,((kF3.trans ut.sm).updN n1).updN n1,K5 (K5 (C4 TF3 ut) e2) A7,(((KF.same ut).upd n2 n3)).upd n2 n3,by rw[B4 n4,B4 n4];exact ut _ _ ef,fun w hw=>(((lF w hw).mono (by omega)).same ut |>.upd le3).upd (by rw[DF];exact le3),fun h=>?_,fun h=>?_⟩
      .have hb:b'≠z:=n6 (by omega);rw[B4 hb,B4 hb];exact ut _ _ (b0 (by omega))
      .by_cases h1:j=1
       .have ez:=n5 h1;subst ez;have:=b0 (by omega);rw[e1]at this;cases this;exact⟨t,by rw[B4 ntz,B4 ntz];exact et,A7⟩
       .obtain⟨t0,h2,h3⟩:=b1 (by omega);have hb:b'≠z:=n6 h1;have n0:t0≠z:=O7 h2 e1 (by intro y;cases y);exact⟨t0,by rw[B4 n0,B4 n0];exact ut _ _ h2,by rw[B4 hb,B4 hb];exact ut _ _ h3⟩
     .rintro σ F ⟨⟨v8,v9,v10,v11,rfl⟩,kF3,TF3,KF,ef,lF,_,b1⟩;obtain⟨t,et,eb⟩:=b1 (by show 2<=4;decide);refine hM9 _ _ (B9 fun MA hMA=>?_);have rowF:∀q∈sa',F q.1=some (.tup [.str q.2.1,.str q.2.2.1,.ref q.2.2.2.1]):=fun q hq=>KF _ _ (X8.hs.row (rS q) (BB.mpr ⟨q,hq,rfl⟩)) (fun _ y=>by cases y) (fun _ y=>by cases y);refine ex1 rfl ⟨r',_,B8 rfl rfl ⟨SqL.of ef,B5 (j:=1) rfl,b',rfl,⟨_,SqL.of eb⟩,p6 (asL (SqL.of eb)) (fun j σ F'=>(∃v8 v9 v10 v11,σ = [some (.ref u),some (.int (i:Int)),some (.ref p),some (.ref r),some (.ref r'),some (.ref D),some (.ref r2),some (.ref S),v8,v9,v10,v11])/\Sm [T.ab] H3 F'/\F6 F' T.ab E9/\Kl HB G8 F'/\F' b'=some (.lst ((((sa'.map rS).map fun q=>V.ref q.1) ++ [V.ref t]).reverse))/\F' t=some (.tup [.str "more",.str "more"])/\(∀q∈sa',F' q.1=some (.tup [.str q.2.1,.str q.2.2.1,.ref q.2.2.2.1]))/\∀q∈sa',LstB (104+j) F' q.2.2.2.1) ?_ ?_ ?_ ?_⟩⟩
      .exact⟨⟨_,_,_,_,rfl⟩,kF3,TF3,KF,eb,et,rowF,fun q hq=>(lF _ (.inr ⟨q,hq,rfl⟩)).mono (by show 100+4<=_;omega)⟩
      .rintro j σ F' _ ⟨_,_,_,_,f,_⟩ o e;rw[eb]at e;cases e;exact f
      .rintro j σ F' v hv ⟨⟨v8,v9,v10,v11,rfl⟩,kF',TF',KF',eb',et',rF',lF'⟩ D2 hD2 _;have jl:=(AM.mp hv).1;rw[DF,BA,AA,AA,CD]at jl;have mv:=List.mem_reverse.mp (AN hv);rcases A_.mp mv with h | h
       .rw[AZ]at h;obtain⟨q,hq,rfl⟩:=BB.mp h;obtain⟨xs',e1,len1⟩:=lF' q hq;have eq:=rF' q hq;refine ex1 rfl (ex1 rfl ⟨q.1,_,B8 rfl rfl ⟨SqT.of eq,rfl,?_⟩⟩);refine⟨.ref q.2.2.2.1, "list",_,true,rfl,Aw (b:=true) e1,Jy true,⟨_,rfl,X2 ?_⟩⟩;refine ex1 rfl (ex1 rfl ⟨q.1,_,B8 rfl rfl ⟨SqT.of eq,rfl,.inl ⟨rfl,_,SqL.of e1⟩,q.2.2.2.1,_,_,rfl,rfl,e1,by rw[sizeLine_eq];omega,hD2 _ _ ?_⟩⟩);have nb:b'≠q.2.2.2.1:=N'.bs q hq;have nt:∀{w:Addr} {ys:List V},F' w=some (.tup ys)->w≠q.2.2.2.1:=fun e=>O7 e e1 (by intro y;cases y);have le3:(xs' ++ [V.str (Str.ofString "nobody")]).length<=104 +(j+1):=by rw[BA,CD];omega
        refine⟨⟨_,_,_,_,rfl⟩,kF'.updN (N'.ns q hq),K5 TF' e1,KF'.upd (X8.sp q hq) (N'.W.sp q hq),by rw[B4 nb];exact eb',by rw[B4 (nt et')];exact et',fun z hz=>by rw[B4 (nt (rF' z hz))];exact rF' z hz,fun z hz=>((lF' z hz).mono (by omega)).upd le3⟩
       .rw[AC.mp h];refine ex1 rfl (ex1 rfl ⟨t,_,B8 rfl rfl ⟨SqT.of et',rfl,?_⟩⟩);refine⟨.str "more", "list",_,false,rfl,.str _,rfl,⟨_,rfl,X1 ?_⟩⟩;exact hD2 _ _ ⟨⟨_,_,_,_,rfl⟩,kF',TF',KF',eb',et',rF',fun z hz=>(lF' z hz).mono (by omega)⟩
      .rintro σ F' ⟨⟨v8,v9,v10,v11,rfl⟩,kF',TF',KF',_⟩;refine hMA _ _ (B9 fun MB hMB=>?_);have W0A:=W08.kl (KF'.more le0);have W1A:=W18.kl (KF'.more le1);have W2A:=W28.kl (KF'.more le2);have in1A:=in18.to W08 fun e=>KF' _ _ e (fun _ y=>by cases y) (fun _ y=>by cases y);have eDA:F' D=some (.lst (([x0,x1,x2]:List Addr).map V.ref)):=KF' _ _ eD8 (fun _ _=>hD) (fun _ y=>by cases y);have k3':∀z o,H3 z=some o->z≠T.ab->F' z=some o:=fun z o e n=>kF' z o e fun y=>n (AC.mp y);have RA:=W3.keep T3 k3';have erA:=k3' _ _ er (J8 T3 er fun _ y=>by cases y);clear W08 W18 W28 in18 eD8 KF' KF lF eb et rowF ef TF3 kF3 zz ini eh8 eh8' X8 T8 S8;refine ex1 rfl ⟨D,rfl,⟨_,SqL.of eDA⟩,fun D5 hD5=>?_⟩;refine Bn (r:=V.ref) (fun _=>V.bl true) (asL (K:=K) (SqL.of eDA)) (fun _=>true) (by show 3<=5000;decide) hD5 (fun y my F sF M hM=>hM F fun b o e=>e) (fun y my F sF M hM=>?_) fun σ' FB sFB eFB=>?_
       .obtain⟨sw,wA,dA⟩:∃sw,WeaveAt T.aa F' y pe sw st ba/\sw.map dS=sa.map dS:=by
         rcases AJ.mp my with e | my
         .rw[e];exact⟨_,W0A.at_,dw0⟩
         rcases AJ.mp my with e | my
         .rw[e];exact⟨_,W1A.at_,dw1⟩
         .rw[AC.mp my];exact⟨_,W2A.at_,dw2⟩
        obtain⟨dx,xa,xb,xc,xd,ex,X⟩:=wA.same sF;refine ex1 rfl ⟨y,dx,xa,xb,xc,xd,rfl,ex,fun l F1 t1 hl el=>ex1 rfl (.inr (.inr ⟨l,r,true,_,_,rfl,el,t1 _ _ (sF _ _ erA),rfl,by show 4<=200;decide,Nt (X.same t1) ((RA.same sF).same t1) ok dA,fun F2 t2=>hM F2 (t1.trans t2)⟩))⟩
       refine⟨D5,[true,true,true],rfl,SqL.of (by rw[eFB,CC.mpr fun _ _=>rfl];rfl),_,rfl,X1 (hMB _ _ (B9 fun MC hMC=>?_))⟩;have W0B:=W0A.same sFB;have W1B:=W1A.same sFB;have in1B:=in1A.to W0A fun e=>sFB _ _ e;have eDB:=sFB _ _ eDA;have RB:=RA.same sFB;have erB:=sFB _ _ erA;have kFB:Sm [T.ab] H3 FB:=kF'.trans sFB.sm;have TFB:=C4 TF' sFB;clear W0A W1A W2A in1A eDA RA erA kF' TF' sFB eFB hD5 k3';obtain⟨dx0,xa,xb,xc,xd,ex0,X0,q1,q2,q3,q4,q5⟩:=id W0B;refine ex1 rfl ⟨D,_,B8 rfl rfl ⟨SqL.of eDB,B5 (j:=0) rfl,x0,dx0,xa,xb,xc,xd,rfl,ex0,fun fl FC sC hfl efl=>?_⟩⟩;refine hMC _ _ (B9 fun MD hMD=>?_);have XC:=X0.same sC;have TC:=C4 TFB sC;refine ex1 rfl ⟨fl,_,B8 rfl rfl ⟨SqL.of efl,B5 (j:=0) rfl,ex1 rfl ⟨fl,_,B8 rfl rfl ⟨SqL.of efl,B5 (j:=1) rfl,ex1 rfl ⟨fl,_,B8 rfl rfl ⟨SqL.of efl,B5 (j:=2) rfl,ex1 rfl ⟨fl,_,B8 rfl rfl ⟨SqL.of efl,B5 (j:=3) rfl,?_⟩⟩⟩⟩⟩⟩⟩⟩;intro x3 dx nx ndx nex;have s0:Same FC (upd (upd FC dx (.own x3)) x3 (.ins T.aa dx [])):=fun b o e=>by
        rw[B4 (A9 e nx),B4 (A9 e ndx)];exact e
       refine⟨true,x3,dx,xa,xb,xc,xd,pe,sw0,st,ba,rfl,A7,(XC.same s0).b,ok.of_dS dw0,C4 TC s0,fun sw3 FD k6 TD dd W6=>⟨rfl,?_⟩⟩;obtain⟨kCD,W3D⟩:=o8 nx ndx k6 W6;have kk:∀{z:Addr} {o:HO},FC z=some o->(∀ps,o≠ .tbl ps)->FD z=some o:=fun e n=>kCD _ _ e fun y=>J8 TC e n (AC.mp y);have kBD:Sm [T.ab] FB FD:=sC.sm.trans kCD;have kB':∀z o,FB z=some o->z≠T.ab->FD z=some o:=fun z o e n=>kBD z o e fun y=>n (AC.mp y);have XD:=X0.keep TFB kB';have exD:=kk (sC _ _ ex0) fun _ y=>by cases y
       have eDD:=kk (sC _ _ eDB) fun _ y=>by cases y
       have W1D:=W1B.kl ((Kl.refl B1 FB).sm TFB kBD);have RD:=RB.keep TFB kB';have erD:=kk (sC _ _ erB) fun _ y=>by cases y
       have k3D:Sm [T.ab] H3 FD:=kFB.trans kBD;obtain⟨i1,i2,i3⟩:=in1B dx0 xa xb xc xd ex0;have dw3:=dd.trans dw0;have zC:∀z xs,FC z=some (.lst xs)->∃o,FC z=some o:=fun z xs e=>⟨_,e⟩;have n3:∀{z:Addr},B0 z=none->H3 z=none:=fun{z} h=>sB.free (le0 z h);have nDz:∀{z:Addr},B0 z=none->D≠z:=fun{z} h y=>nD0 (by rw[y];exact h);have nxb:∀q∈sw0,xb≠q.2.2.2.1:=fun q hq y=>by
        have e1:=XD.hs.at_;have e2:=XD.sp q hq;rw[y,e2]at e1;have e3:=BG e1;injection e3 with e3;have m:V.ref q.1∈((sw0.map rS).map fun q=>V.ref q.1):=by rw[AZ];exact BB.mpr ⟨q,hq,rfl⟩
        rw[<-e3]at m;obtain⟨_,_,e4⟩:=BB.mp m;cases e4
       clear kB' kk s0 k6 W6 nx ndx nex W0B W1B in1B eDB RB erB kFB;refine hMD _ _ (B9 fun ME hME=>?_);have zz:∀z,(z=xc\/z=xd\/∃q∈sw0,z=q.2.2.2.1)->H3 z=none/\(∃ys,FD z=some (.lst ys))/\(∃o,B1 z=some o)/\(∃o,FC z=some o)/\D≠z/\LstB 100 FD z:=fun z hz=>by
        rcases hz with rfl | rfl | ⟨q,hq,rfl⟩
        .exact⟨n3 q3,⟨_,XD.ht.at_⟩,BN.mp i1,⟨_,XC.ht.at_⟩,nDz q3,⟨_,XD.ht.at_,by rw[AA,AA];omega⟩⟩
        .exact⟨n3 q4,⟨_,XD.hb⟩,BN.mp i2,⟨_,XC.hb⟩,nDz q4,⟨_,XD.hb,by unfold Q0;rw[AA];omega⟩⟩
        .exact⟨n3 (q5 q hq),⟨_,XD.sp q hq⟩,BN.mp (i3 q hq),⟨_,XC.sp q hq⟩,nDz (q5 q hq),⟨_,XD.sp q hq,by rw[AA];exact((ok.of_dS dw0).sk q hq).2.2⟩⟩
       have lsw:sw0.length<=30:=(ok.of_dS dw0).len.2.1;have eDD:FD D=some (.lst [.ref x0,.ref x1,.ref x2]):=eDD;have as1:=asL (K:=K) (SqL.of XD.hs.at_);rw[AZ]at as1;refine ex1 rfl ⟨D,_,B8 rfl rfl ⟨SqL.of eDD,B5 (j:=0) rfl,x0,_,_,_,_,rfl,exD,T.ag,T.as,rfl,xb,rfl,⟨_,SqL.of XD.hs.at_⟩,p6 as1 (fun j σ F=>(∃v9,σ = [some (.ref u),some (.int (i:Int)),some (.ref p),some (.ref r),some (.ref r'),some (.ref D),some (.ref r2),some (.ref S),v8,v9,some (.ref fl),some (.ref x3)])/\Sm [T.ab] H3 F/\F6 F T.ab E9/\Kl B1 FD F/\Kl FC FD F/\F D=some (.lst [.ref x0,.ref x1,.ref x2])/\F xb=some (.lst ((sw0.map rS).map fun q=>V.ref q.1))/\∀z,(z=xc\/z=xd\/∃q∈sw0,z=q.2.2.2.1)->LstB (100+j) F z) ?_ ?_ ?_ ?_⟩⟩
       .exact⟨⟨_,rfl⟩,k3D,TD,Kl.refl _ _,Kl.refl _ _,eDD,XD.hs.at_,fun z hz=>(zz z hz).2.2.2.2.2⟩
       .rintro j σ F _ ⟨_,_,_,_,_,_,f,_⟩ o e;rw[XD.hs.at_]at e;cases e;exact f
       .rintro j σ F v hv ⟨⟨v9,rfl⟩,kF9,TF9,K1,K2,eF9,xF9,lF9⟩ D2 hD2 _;rw[AH]at hv;obtain⟨q,hq,rfl⟩:=AU.mp hv;have mq:=AN hq;have jl:=(AM.mp hq).1;have eq:=K1 _ _ (XD.hs.row (rS q) (BB.mpr ⟨q,mq,rfl⟩)) (fun _ y=>by cases y) (fun _ y=>by cases y);obtain⟨z1,⟨y1,z2⟩,⟨o1,z3⟩,⟨o2,z4⟩,z5,_⟩:=zz _ (.inr (.inr ⟨q,mq,rfl⟩));obtain⟨xs',e1,len1⟩:=lF9 _ (.inr (.inr ⟨q,mq,rfl⟩));refine ex1 rfl ⟨q.1,_,B8 rfl rfl ⟨SqT.of eq,B5 (j:=2) rfl,.inl ⟨rfl,_,SqL.of e1⟩,q.2.2.2.1,_,_,rfl,rfl,e1,by rw[sizeLine_eq];omega,hD2 _ _ ?_⟩⟩;have le3:(xs' ++ [V.str (Str.ofString "nobody")]).length<=100 +(j+1):=by rw[BA,CD];omega
        exact⟨⟨_,rfl⟩,kF9.updN z1,K5 TF9 e1,K1.upd z2 z3,K2.upd z2 z4,by rw[B4 z5];exact eF9,by rw[B4 (nxb q mq)];exact xF9,fun w hw=>((lF9 w hw).mono (by omega)).upd le3⟩
       .rintro σ F ⟨⟨v9,rfl⟩,kF9,TF9,K1,K2,eF9,_,lF9⟩;rw[AA]at lF9;refine hME _ _ (B9 fun MF hMF=>?_);have ex9:=K1 _ _ exD (fun _ y=>by cases y) (fun _ y=>by cases y);obtain⟨z1,⟨y1,z2⟩,⟨o1,z3⟩,⟨o2,z4⟩,z5,_⟩:=zz xc (.inl rfl);obtain⟨xs',e1,len1⟩:=lF9 xc (.inl rfl);refine ex1 rfl ⟨D,_,B8 rfl rfl ⟨SqL.of eF9,B5 (j:=0) rfl,x0,_,_,_,_,rfl,ex9,T.ag,T.aE,rfl,.inl ⟨rfl,_,SqL.of e1⟩,xc,_,rfl,rfl,e1,hMF _ _ (B9 fun MG hMG=>?_)⟩⟩;have kFA:Sm [T.ab] H3 (upd F xc (.lst xs'.reverse)):=kF9.updN z1;have TFA:=K5 (ys:=xs'.reverse) TF9 e1;have K1A:=K1.upd (o:=.lst xs'.reverse) z2 z3;have K2A:=K2.upd (o:=.lst xs'.reverse) z2 z4;have eFA:(upd F xc (.lst xs'.reverse)) D=some (.lst [.ref x0,.ref x1,.ref x2]):=by rw[B4 z5];exact eF9
        have lFA:LstB 130 (upd F xc (.lst xs'.reverse)) xd:=((lF9 xd (.inr (.inl rfl))).mono (by omega)).upd (by rw[DF];omega);generalize upd F xc (.lst xs'.reverse)=FA at kFA TFA K1A K2A eFA lFA⊢;clear kF9 TF9 K1 K2 eF9 lF9 ex9 z1 z2 z3 z4 z5 e1 len1;have exA:=K1A _ _ exD (fun _ y=>by cases y) (fun _ y=>by cases y);obtain⟨z1,⟨y1,z2⟩,⟨o1,z3⟩,⟨o2,z4⟩,z5,_⟩:=zz xd (.inr (.inl rfl));obtain⟨xs',e1,len1⟩:=lFA;refine ex1 rfl ⟨D,_,B8 rfl rfl ⟨SqL.of eFA,B5 (j:=0) rfl,x0,_,_,_,_,rfl,exA,T.ag,T.aK,rfl,.inl ⟨rfl,_,SqL.of e1⟩,by show 2<=sizeLine;decide,fun t ht=>?_⟩⟩;have ut:=Same.new (o:=.tup [.str (Str.ofString "more"),.str (Str.ofString "more")]) ht;generalize upd FA t (.tup [.str (Str.ofString "more"),.str (Str.ofString "more")])=FX at ut⊢;have e2:=ut _ _ e1;refine⟨xd,_,_,rfl,rfl,e2,by rw[sizeLine_eq];omega,hMG _ _ (B9 fun MH hMH=>?_)⟩;have kFE:Sm [T.ab] H3 (upd FX xd (.lst (xs' ++ [.ref t]))):=(kFA.trans ut.sm).updN z1;have TFE:=K5 (ys:=xs' ++ [.ref t]) (C4 TFA ut) e2;have K1E:=(K1A.same ut).upd (o:=.lst (xs' ++ [.ref t])) z2 z3;have K2E:=(K2A.same ut).upd (o:=.lst (xs' ++ [.ref t])) z2 z4;have eFE:(upd FX xd (.lst (xs' ++ [.ref t]))) D=some (.lst [.ref x0,.ref x1,.ref x2]):=by rw[B4 z5];exact ut _ _ eFA
        generalize upd FX xd (.lst (xs' ++ [.ref t]))=FE at kFE TFE K1E K2E eFE⊢;clear kFA TFA K1A K2A eFA exA z1 z2 z3 z4 z5 e1 e2 len1;have W1E:=W1D.kl K1E;have W3E:=W3D.kl K2E;have k3':∀z o,H3 z=some o->z≠T.ab->FE z=some o:=fun z o e n=>kFE z o e fun y=>n (AC.mp y);have RE:=W3.keep T3 k3';have erE:=k3' _ _ er (J8 T3 er fun _ y=>by cases y);obtain⟨dx3,ya,yb,yc,yd,ey,Y,_⟩:=W3E;obtain⟨dx1,wa,wb,wc,wd,ew,Z,_⟩:=W1E;refine ex1 rfl ⟨x3,dx3,ya,yb,yc,yd,rfl,ey,fun l F1 t1 hl el=>ex1 rfl (.inr (.inr ⟨l,r,true,_,_,rfl,el,t1 _ _ erE,rfl,by show 4<=200;decide,Nt (Y.same t1) (RE.same t1) ok dw3,fun F2 t2=>⟨_,rfl,X1 ?_⟩⟩))⟩;have t12:=t1.trans t2;refine ex1 rfl ⟨D,_,B8 rfl rfl ⟨SqL.of (t12 _ _ eFE),B5 (j:=1) rfl,x1,dx1,wa,wb,wc,wd,rfl,t12 _ _ ew,fun l2 F3 t3 hl2 el2=>?_⟩⟩;have t13:=t12.trans t3;refine ex1 rfl (.inr (.inr ⟨l2,r,true,_,_,rfl,el2,t13 _ _ erE,rfl,by show 4<=200;decide,Nt (Z.same t13) (RE.same t13) ok dw1,fun F4 t4=>⟨_,rfl,X1 (hMH _ _ ?_)⟩⟩));have t14:=t13.trans t4;refine ex1 rfl ⟨r,a,b,g,d,pe,sa,st,ba,rfl,t14 _ _ erE,RE.same t14,ok,C4 TFE t14,fun H' k' T'=>⟨_,rfl,X1 ?_⟩⟩;exact hD1 _ _ ⟨⟨_,_,_,_,_,_,_,_,_,_,_,rfl⟩,kF.trans ((s3.sm.trans kFE).trans (t14.sm.trans k')),T'⟩
  .rintro σ G _;exact hN0 _ _ (q G)
end
section
variable{K:PySem.W.Frag}{h:Heap}{mg:Str->Option Value}
def fn_mk{x:Str}{st:Stmt}{ps:List Str}{f:Addr}{oc:Value}{od an:Option Addr}{osl:Array (Option Value)}{kV doc pm cdv ct:Value}(X:K.In h)(G:h.Ns mainGlobals mg)(a:PySem.W.nsIn K mainGlobals x=some (some (.ref f)))
  (l:K.lookup f=some ⟨oc,od,.func (PySem.W.fnOf x x (O8 st) (K6 st) (B6 st) .none kV doc pm an cdv ct),osl⟩) (c:PySem.W.codeIn K cdv x=true) (k:PySem.W.keepIn K (.ref f)=true)
  (hb:∀(kV doc pm:Value) (an:Option Addr) (cdv ct:Value) (us:List Value),us.length=ps.length->bindArgs (PySem.W.fnOf x x (O8 st) (K6 st) (B6 st) .none kV doc pm an cdv ct) ⟨us,[]⟩=pure (ps.zip us)):Fn K mg x st ps :=
 ⟨f,_,fun_mk l c k,(fun_mk l c k).binds hb,PySem.W.mg_of X G a⟩
theorem str_mk{x z:Str}{v:Value}(X:K.In h)(G:h.Ns mainGlobals mg)(a:PySem.W.nsIn K mainGlobals x=some (some v))(e:∃t,v = .str z t):∃t,mg x=some (.str z t):=by
 obtain⟨t,rfl⟩:=e;exact⟨t,PySem.W.mg_of X G a⟩
theorem int_mk{x:Str}{z:Int}{v:Value}(X:K.In h)(G:h.Ns mainGlobals mg)(a:PySem.W.nsIn K mainGlobals x=some (some v))(e:∃t,v = .int z t):∃t,mg x=some (.int z t):=by
 obtain⟨t,rfl⟩:=e;exact⟨t,PySem.W.mg_of X G a⟩
theorem len1{us:List Value}(h:us.length=1):∃a,us = [a]:=List.length_eq_one_iff.mp h
theorem len2{us:List Value}(h:us.length=2):∃a b,us = [a,b]:=by
 cases us with
 | nil=>cases h
 | cons a r=>obtain⟨b,rfl⟩:=len1 (Nat.succ.inj h);exact⟨a,b,rfl⟩
theorem len3{us:List Value}(h:us.length=3):∃a b c,us = [a,b,c]:=by
 cases us with
 | nil=>cases h
 | cons a r=>obtain⟨b,c,rfl⟩:=len2 (Nat.succ.inj h);exact⟨a,b,c,rfl⟩
theorem len4{us:List Value}(h:us.length=4):∃a b c d,us = [a,b,c,d]:=by
 cases us with
 | nil=>cases h
 | cons a r=>obtain⟨b,c,d,rfl⟩:=len3 (Nat.succ.inj h);exact⟨a,b,c,d,rfl⟩
theorem len5{us:List Value}(h:us.length=5):∃a b c d e,us = [a,b,c,d,e]:=by
 cases us with
 | nil=>cases h
 | cons a r=>obtain⟨b,c,d,e,rfl⟩:=len4 (Nat.succ.inj h);exact⟨a,b,c,d,e,rfl⟩
def Mw(vs:Array Value)(c p:Addr):Bool:=decide (vs[11]?=some (.ref p)) &&(match vs.getD 18 .none with | .str _ _=>true | _=>false) &&(match vs.getD 7 .none with | .int _ _=>true | _=>false) &&(match vs.getD 9 .none with | .bool _=>true | _=>false) &&(match vs.getD 10 .none with | .int _ _=>true | _=>false)&&decide (c≠p)&&decide (mainGlobals≠p)
theorem tab_mk{c p:Addr}{od:Option Addr}{vs:Array Value}{sl:Array (Option Value)}(l:K.lookup c=some ⟨.type "code",od,.fields vs,sl⟩)(e1:vs.getD 11 .none = .ref p)(e:Mw vs c p=true):TabAt K mg c p:=by
 unfold Mw at e;simp only[BK,decide_eq_true_eq]at e;obtain⟨⟨⟨⟨⟨⟨e11,e18⟩,e7⟩,e9⟩,e10⟩,ne1⟩,ne2⟩:=e;have h18:∃a t,vs.getD 18 .none = .str a t:=by cases q:vs.getD 18 .none<;>rw[q]at e18<;>first | exact⟨_,_,rfl⟩ | cases e18
 have h7:∃a t,vs.getD 7 .none = .int a t:=by cases q:vs.getD 7 .none<;>rw[q]at e7<;>first | exact⟨_,_,rfl⟩ | cases e7
 have h9:∃a,vs.getD 9 .none = .bool a:=by cases q:vs.getD 9 .none<;>rw[q]at e9<;>first | exact⟨_,rfl⟩ | cases e9
 have h10:∃a t,vs.getD 10 .none = .int a t:=by cases q:vs.getD 10 .none<;>rw[q]at e10<;>first | exact⟨_,_,rfl⟩ | cases e10
 obtain⟨f18,t18,h18⟩:=h18;obtain⟨f7,t7,h7⟩:=h7;obtain⟨f9,h9⟩:=h9;obtain⟨f10,t10,h10⟩:=h10;exact⟨fun g k=>⟨_,vs,f18,t18,f7,t7,f9,f10,t10,k _ _ l,rfl,rfl,e11,e1,h18,h7,h9,h10,ne1⟩,ne2⟩
theorem noattr_mk{C:Addr}{f:Str}(h:PySem.W.findIn K (.ref C) f=some none):NoAttr K C f:=h
end
theorem all_mk{l:PySem.W.OpenLaw}{w:World}{K:PySem.W.Frag}{h:Heap}{mg:Str->Option Value}{fa f pt:Addr}{oc:Value}{od an:Option Addr}{osl:Array (Option Value)}{kV doc pm cdv ct:Value}(X:K.In h)(G:h.Ns mainGlobals mg)(hfa:mg "law" = some (.ref fa))
  (T:Tx K mg) (a:PySem.W.nsIn K mainGlobals "law" = some (some (.ref f))) (lk:K.lookup f=some ⟨oc,od,.func (PySem.W.fnOf "law" "law" (O8 s_law) (K6 s_law) (B6 s_law) .none kV doc pm an cdv ct),osl⟩) (c:PySem.W.codeIn K cdv "law" = true) (k:PySem.W.keepIn K (.ref f)=true) (ep:T.ab=pt) (np:K.lookup pt=none) :
  (∀p∈[pt],isCodeTable h p)/\(∀p∈[pt],K.lookup p=none)/\∃fd:FuncData,(∀(s:Shared) (v:Value),BindsTo s fd ⟨[v],[]⟩ [("_law_script",v)])/\∀base:Heap,K.In base->base.Ns mainGlobals mg->(∀p∈[pt],base.BuiltinsAt mg p)->FnOk l.prog w K mg base CX0 9 fa fd ["_law_script"] (Bw K pt):=by
 subst ep;have e:=hfa.symm.trans (PySem.W.mg_of X G a);cases e;refine⟨fun p hp=>?_,fun p hp=>by rw[AC.mp hp];exact np,PySem.W.fnOf "law" "law" (O8 s_law) (K6 s_law) (B6 s_law) .none kV doc pm an cdv ct,fun s v=>.of_eq rfl,fun base _ _ hB=>Mr T (hB _ (AC.mpr rfl)) (fun_mk lk c k)⟩;obtain⟨o,vs,_,_,_,_,_,_,_,e1,e2,e3,e4,_⟩:=T.aN.hd h X;rw[AC.mp hp];exact⟨_,o,vs,e1,e2,e3,e4⟩
theorem walk{l:PySem.W.OpenLaw}{q:Program}{loose:List Str}{XP:(Str->Option Value)->Heap->Prop}{YP:World->Heap->Prop}{d:DefRec}{K:Params->PySem.W.Frag}{pt:Addr}(hn:l.most=some 63)(hdf:d.params.defaults = [])
  (hY:∀(w:World) (h:Heap),YP w h->(K w.params).In h) (hYt:∀(w:World) (h:Heap),YP w h->∀p∈[pt],h.get? p=some (PySem.W.tabObj #[]))
  (F:∀(w:World) (mg:Str->Option Value) (fa:Addr) (h:Heap),(K w.params).In h->h.Ns mainGlobals mg->mg d.name=some (.ref fa) ->
   (∀p∈[pt],isCodeTable h p)/\(∀p∈[pt],(K w.params).lookup p=none)/\∃fd:FuncData,(∀(s:Shared) (u:Value),BindsTo s fd ⟨[u],[]⟩ [("_law_script",u)])/\∀base:Heap,(K w.params).In base->base.Ns mainGlobals mg->(∀p∈[pt],base.BuiltinsAt mg p)->FnOk l.prog w (K w.params) mg base CX0 9 fa fd ["_law_script"] (Bw (K w.params) pt)) :
  PySem.W.WalkO q loose XP YP l.row.toRowW d [] (fun f vs=>PySem.call f vs) :=
 L2.walk_ofT (n:=63) (k:=9) (x := "_law_script") (ts:=[pt]) (sp:=fun w=>Bw (K w.params) pt) hn (by decide) hdf ⟨rfl,by decide,by decide⟩ hY hYt F (fun _ _ a ns hl hT hS=>⟨a,ns,rfl,hS,hl,⟨#[],hT pt (AC.mpr rfl),trivial,fun _ _=>.inl rfl⟩,fun _=>rfl⟩)
end Sw
open PySem PySem.W PyProof.Rows
set_option maxRecDepth 100000 in
set_option maxHeartbeats 0 in
theorem PySem.Challenge.cw_strikeweave_k55_weaves_kept_holds : PySem.Challenge.rw_strikeweave_k55_weaves_kept.Holds := by
 w_on;o_law;k_head;(case hw=>w_witness2)
 k_fill
 refine Sw.walk (l:=PySem.Challenge.rw_strikeweave_k55_weaves_kept) rfl rfl (fun w h Y=>PySem.W.km_in_of Y) (fun w h Y=>PySem.W.km_tabs_of Y) ?F
 case F =>
  intro w mg fa h KX G hmg;refine' Sw.all_mk KX G hmg (Sw.Tx.mk (Sw.fn_mk KX G ?a1 ?l2 ?c3 ?k4 (fun _ _ _ _ _ _ us hl=>by obtain⟨a,rfl⟩:=Sw.len1 hl;rfl))
   (Sw.fn_mk KX G ?a5 ?l6 ?c7 ?k8 (fun _ _ _ _ _ _ us hl=>by obtain⟨a,rfl⟩:=Sw.len1 hl;rfl))
   (Sw.fn_mk KX G ?a9 ?l10 ?c11 ?k12 (fun _ _ _ _ _ _ us hl=>by obtain⟨a,b,rfl⟩:=Sw.len2 hl;rfl))
   (Sw.fn_mk KX G ?a13 ?l14 ?c15 ?k16 (fun _ _ _ _ _ _ us hl=>by obtain⟨a,rfl⟩:=Sw.len1 hl;rfl))
   (Sw.fn_mk KX G ?a17 ?l18 ?c19 ?k20 (fun _ _ _ _ _ _ us hl=>by obtain⟨a,b,c,rfl⟩:=Sw.len3 hl;rfl))
   (Sw.fn_mk KX G ?a21 ?l22 ?c23 ?k24 (fun _ _ _ _ _ _ us hl=>by obtain⟨a,rfl⟩:=Sw.len1 hl;rfl))
   (Sw.fn_mk KX G ?a25 ?l26 ?c27 ?k28 (fun _ _ _ _ _ _ us hl=>by obtain⟨a,rfl⟩:=Sw.len1 hl;rfl))
   (Sw.fn_mk KX G ?a29 ?l30 ?c31 ?k32 (fun _ _ _ _ _ _ us hl=>by obtain⟨a,b,rfl⟩:=Sw.len2 hl;rfl))
   (Sw.fn_mk KX G ?a33 ?l34 ?c35 ?k36 (fun _ _ _ _ _ _ us hl=>by obtain⟨a,b,c,rfl⟩:=Sw.len3 hl;rfl))
   (Sw.fn_mk KX G ?a37 ?l38 ?c39 ?k40 (fun _ _ _ _ _ _ us hl=>by obtain⟨a,b,c,d,rfl⟩:=Sw.len4 hl;rfl))
   (Sw.fn_mk KX G ?a41 ?l42 ?c43 ?k44 (fun _ _ _ _ _ _ us hl=>by obtain⟨a,b,c,rfl⟩:=Sw.len3 hl;rfl))
   (Sw.fn_mk KX G ?a45 ?l46 ?c47 ?k48 (fun _ _ _ _ _ _ us hl=>by obtain⟨a,b,rfl⟩:=Sw.len2 hl;rfl))
   (Sw.fn_mk KX G ?a49 ?l50 ?c51 ?k52 (fun _ _ _ _ _ _ us hl=>by obtain⟨a,rfl⟩:=Sw.len1 hl;rfl))
   (Sw.fn_mk KX G ?a53 ?l54 ?c55 ?k56 (fun _ _ _ _ _ _ us hl=>by obtain⟨a,b,rfl⟩:=Sw.len2 hl;rfl))
   (Sw.fn_mk KX G ?a57 ?l58 ?c59 ?k60 (fun _ _ _ _ _ _ us hl=>by obtain⟨a,b,rfl⟩:=Sw.len2 hl;rfl))
   (Sw.fn_mk KX G ?a61 ?l62 ?c63 ?k64 (fun _ _ _ _ _ _ us hl=>by obtain⟨a,b,rfl⟩:=Sw.len2 hl;rfl))
   (Sw.fn_mk KX G ?a65 ?l66 ?c67 ?k68 (fun _ _ _ _ _ _ us hl=>by obtain⟨a,b,rfl⟩:=Sw.len2 hl;rfl))
   (Sw.fn_mk KX G ?a69 ?l70 ?c71 ?k72 (fun _ _ _ _ _ _ us hl=>by obtain⟨a,b,rfl⟩:=Sw.len2 hl;rfl))
   (Sw.fn_mk KX G ?a73 ?l74 ?c75 ?k76 (fun _ _ _ _ _ _ us hl=>by obtain⟨a,rfl⟩:=Sw.len1 hl;rfl))
   (Sw.fn_mk KX G ?a77 ?l78 ?c79 ?k80 (fun _ _ _ _ _ _ us hl=>by obtain⟨a,b,rfl⟩:=Sw.len2 hl;rfl))
   (Sw.fn_mk KX G ?a81 ?l82 ?c83 ?k84 (fun _ _ _ _ _ _ us hl=>by obtain⟨a,b,rfl⟩:=Sw.len2 hl;rfl))
   (Sw.fn_mk KX G ?a85 ?l86 ?c87 ?k88 (fun _ _ _ _ _ _ us hl=>by obtain⟨a,b,rfl⟩:=Sw.len2 hl;rfl))
   (Sw.fn_mk KX G ?a89 ?l90 ?c91 ?k92 (fun _ _ _ _ _ _ us hl=>by obtain⟨a,b,rfl⟩:=Sw.len2 hl;rfl))
   (Sw.fn_mk KX G ?a93 ?l94 ?c95 ?k96 (fun _ _ _ _ _ _ us hl=>by obtain⟨a,b,rfl⟩:=Sw.len2 hl;rfl))
   (Sw.fn_mk KX G ?a97 ?l98 ?c99 ?k100 (fun _ _ _ _ _ _ us hl=>by obtain⟨a,b,rfl⟩:=Sw.len2 hl;rfl))
   (Sw.fn_mk KX G ?a101 ?l102 ?c103 ?k104 (fun _ _ _ _ _ _ us hl=>by obtain⟨a,rfl⟩:=Sw.len1 hl;rfl))
   (Sw.fn_mk KX G ?a105 ?l106 ?c107 ?k108 (fun _ _ _ _ _ _ us hl=>by obtain⟨a,rfl⟩:=Sw.len1 hl;rfl))
   (Sw.fn_mk KX G ?a109 ?l110 ?c111 ?k112 (fun _ _ _ _ _ _ us hl=>by obtain⟨a,rfl⟩:=Sw.len1 hl;rfl))
   _
   ⟨?g114,?g115,?g116,?g117⟩
   (PySem.W.mg_of KX G ?q113)
   (Sw.noattr_mk ?n118)
   (Sw.noattr_mk ?n119)
   (Sw.noattr_mk ?n120)
   (Sw.noattr_mk ?n121)
   _
   _
   (L2.fun_mk ?l124 ?c125 ?k126)
   (L2.Fun.binds (L2.fun_mk ?l124 ?c125 ?k126) (fun _ _ _ _ _ _ us hl=>by obtain⟨a,b,c,d,e,rfl⟩:=Sw.len5 hl;rfl))
   ⟨?g127,?a122,?i123,?k128⟩
   _
   _
   (Sw.tab_mk ?l130 ?r131 ?r132)
   ?r129
   (Sw.str_mk KX G ?v133 ?e134)
   (Sw.int_mk KX G ?v135 ?e136)
   _
   (PySem.W.mg_of KX G ?v137)
   (L2.gtup_mk ?l138 ?y139)
   (Sw.int_mk KX G ?v140 ?e141)
   (PySem.W.mg_none_of KX G ?z142)
   (PySem.W.mg_none_of KX G ?z143)
   (PySem.W.mg_none_of KX G ?z144)
   (PySem.W.mg_none_of KX G ?z145)
   (PySem.W.mg_none_of KX G ?z146)
   (PySem.W.mg_none_of KX G ?z147)
   (PySem.W.mg_none_of KX G ?z148)
   (PySem.W.mg_none_of KX G ?z149)
   (PySem.W.mg_none_of KX G ?z150)
   (PySem.W.mg_none_of KX G ?z151)
   (PySem.W.mg_none_of KX G ?z152)
   (PySem.W.mg_none_of KX G ?z153)
   (PySem.W.mg_none_of KX G ?z154)
   (PySem.W.mg_none_of KX G ?z155)
   (PySem.W.mg_none_of KX G ?z156)
   (PySem.W.mg_none_of KX G ?z157)) ?aL ?lL ?cL ?kL ?rP ?tP
  case a1|l2|c3|k4|a5|l6|c7|k8|a9|l10|c11|k12|a13|l14|c15|k16|a17|l18|c19|k20|a21|l22|c23|k24|a25|l26|c27|k28|a29|l30|c31|k32|a33|l34|c35|k36|a37|l38|c39|k40|a41|l42|c43|k44|a45|l46|c47|k48|a49|l50|c51|k52|a53|l54|c55|k56|a57|l58|c59|k60|a61|l62|c63|k64|a65|l66|c67|k68|a69|l70|c71|k72|a73|l74|c75|k76|a77|l78|c79|k80|a81|l82|c83|k84|a85|l86|c87|k88|a89|l90|c91|k92|a93|l94|c95|k96|a97|l98|c99|k100|a101|l102|c103|k104|a105|l106|c107|k108|a109|l110|c111|k112|q113|g114|g115|g116|g117|n118|n119|n120|n121|a122|i123|l124|c125|k126|g127|k128=>k_is
  case r129=>rfl
  case l130=>k_is
  case r131=>rfl
  case r132=>rfl
  case v133=>k_is
  case e134=>exact⟨_,rfl⟩
  case v135=>k_is
  case e136=>exact⟨_,rfl⟩
  case v137|l138=>k_is
  case y139=>exact⟨_,_,_,_,rfl,rfl⟩
  case v140=>k_is
  case e141=>exact⟨_,rfl⟩
  case z142|z143|z144|z145|z146|z147|z148|z149|z150|z151|z152|z153|z154|z155|z156|z157|aL|lL|cL|kL=>k_is
  case rP=>rfl
  case tP=>kernel_rfl
