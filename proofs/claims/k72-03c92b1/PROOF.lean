import PyProof.Rows.All
import Wide.All
import OpenK.AllK
import Wide.FinOn
import PyProof.Rows.SortShellK
import KE.KSortTup
import Lean
import PyProof.EqAt
import PyProof.EqKinds
import PyProof.TupleCall
import PyProof.SetRoads
import PyProof.DictRoadsH
import PyProof.IsRules
import PyProof.CollectWalk
import PyProof.FactsAll.set
import PyProof.NeData
import PyProof.P3In
import PyProof.TupleOfSeq
import PyProof.ZipIter
import PyProof.Rows.ZipGen
import KE.KDictOf
import PyProof.AttrMissHeap
import PyProof.Rows.SumAny
import PyProof.DictIter
import PyProof.DictWalks
import PyProof.DictValues
import PyProof.ListRange
import PyProof.ListStr
import PyProof.DictTruth
import PySem.Challenge.RW_strikeweave_k72_weaves_written
namespace PySem.W.Fast
def tw7273431521439413560:=0
def tw3095919214493286142:=0
def tw3792714848244252345:=0
def tw17456409352675129112:=0
def tw6445021488866409377:=0
def tw14387504531981151141:=0
def tw520182044512263667:=0
def tw14050085902874070004:=0
def tw11842096470671837033:=0
def tw5901886891408031290:=0
def tw18184683929971895062:=0
def tw14181057835199006196:=0
def tw6848983542827729068:=0
def tw15136653719170614294:=0
def tw13434909250053039485:=0
def tw14246089787030464427:=0
def tw18186166009509896200:=0
def tw16281304912869368269:=0
def tw15772817739995123267:=0
def tw55991001990766629:=0
def tw671233327630296999:=0
def tw5361847605729318894:=0
def tw12807861982866023822:=0
def tw4901091318500346996:=0
def tw15719880826270994110:=0
def tw9438873672463777328:=0
def tw16878499503259442762:=0
def tw9420603740243854838:=0
def tw10874221982835181368:=0
def tw5966655481921549757:=0
def tw12563781655258865722:=0
def tw12585644117310791991:=0
def tw11565282133192951965:=0
def tw6495220843036437783:=0
def tw3844715398863581543:=0
def tw14767132989909922713:=0
def tw2303464917360780041:=0
def tw1563162232911718937:=0
def tw18302319949930333804:=0
def tw13862789977850816856:=0
def tw11502427026572601637:=0
def tw192909977079133877:=0
def tw14335691246052731580:=0
def tw10861094354855456630:=0
def tw16083064558458869199:=0
def tw15209395035172921163:=0
def tw5029058793926750608:=0
def tw6784772336289235206:=0
def tw5191348001858822911:=0
def tw2940864345304208427:=0
def tw3583319084497836194:=0
def tw12669479607378979852:=0
def tw14448216250804356934:=0
def tw15764514310432544994:=0
def tw6505696565330654177:=0
def tw9206667702982070149:=0
def tw10989633745430482564:=0
def tw6194127538159718683:=0
def tw3644917461691377239:=0
def tw11436196796419167874:=0
def tw5403742792261302150:=0
def tw9544456481116573408:=0
def tw15601888412498247168:=0
def tw17975417335372593397:=0
def tw7553332661704244252:=0
def tw2441822376962522990:=0
def tw12258546129656263357:=0
def tw5392942917026195257:=0
def tw17567802456521837575:=0
def tw18157680043177072663:=0
def tw16840381785965734068:=0
def tw11598095481119854160:=0
def tw15681422657338918028:=0
def tw6897582034636395413:=0
def tw12552758027443966347:=0
def tw3567097017989784036:=0
def tw13785774247776339757:=0
def tw2214156219174047706:=0
def tw14343730175027519274:=0
def tw17512740429743462440:=0
def tw7439377453956498296:=0
def tw10326926962860416893:=0
def tw13578662791372394935:=0
def tw7054365393532648509:=0
def tw16919749601811951082:=0
def tw17926050015025225975:=0
def tw1462610382001711562:=0
def tw17213648735277479274:=0
def tw8115409045195499600:=0
def tw9192552562290422185:=0
def tw17402208083566992841:=0
def tw14858310956006788337:=0
def tw7179407767535481170:=0
def tw5679565050764065496:=0
def tw11134628297553724531:=0
def tw15014491345285591251:=0
def tw15828391078820269280:=0
def tw10164853475357566315:=0
def tw759042033644508486:=0
def tw13811674534412365314:=0
def tw8034687665134723607:=0
def tw12591505684318263113:=0
def tw8249998597623454953:=0
def tw7815950797110306484:=0
def tw4873415357192750492:=0
def tw5741402243864161105:=0
def tw6181201259098312764:=0
def tw12873403904347581687:=0
def tw1091763220533793533:=0
def tw1564652738634596752:=0
def tw10200945116560868245:=0
def tw6848515717972210523:=0
def tw2465926655521490741:=0
def tw7459872492465355601:=0
def tw16600181981483931190:=0
def tw3916039518911078339:=0
def tw5742429543915055766:=0
def tw8500251569702589856:=0
def tw8188257777355372945:=0
def tw10313709079489576624:=0
def tw8886492587842526492:=0
def tw17760746333155891855:=0
def tw3036525608890003309:=0
def tw6838321946635079462:=0
def tw10747109955117150267:=0
def tw9634739511008552517:=0
def tw7276417092006375194:=0
def tw7114919406921166212:=0
def tw2881835896157958299:=0
def tw13579354370854087469:=0
def tw6572932314018449308:=0
def tw18233904540334097813:=0
def tw10653110521795564713:=0
def tw18116381244105668967:=0
def tw2056942630764320104:=0
def tw7021721761623609262:=0
def tw6964233792487794441:=0
def tw496500726367525929:=0
def tw13376308413504701523:=0
def tw16367759013105177687:=0
def tw16266314054935765311:=0
def tw14909778369601030612:=0
def tw2836386977610649891:=0
def tw17491048209348894010:=0
def tw13635268420983212248:=0
def tw4344894147891922535:=0
def tw17879272103891129101:=0
def tw2649996238752932547:=0
def tw13549966642205068824:=0
def tw5507650224229812139:=0
def tw5778468326351579627:=0
def tw6627637763395003569:=0
def tw13970054514633726538:=0
def tw17931335050088956266:=0
def tw6777180721377807424:=0
def tw1490167073686678916:=0
def tw15813178167483652115:=0
def tw5066269668371237368:=0
def tw14513906877305423628:=0
def tw10068223815570753807:=0
def tw12165507526259376026:=0
def tw3400407758484726051:=0
def tw119235123228657899:=0
def tw10903220438774938470:=0
def tw3054248862266040474:=0
def tw1056436874848291086:=0
def tw7681109179734361150:=0
def tw6666191538969712357:=0
def tw6084333196589961462:=0
def tw10979016779025519874:=0
def tw5729072552123724402:=0
def tw8106768941211154235:=0
def tw10958641341581171266:=0
def tw4271334886770886226:=0
def tw16715612458010567532:=0
def tw13451256603416364966:=0
def tw13269228084653351075:=0
def tw2770043119423389067:=0
def tw3535933628871879920:=0
def tw5075654060195242931:=0
def tw9096449708926472066:=0
def tw6750394542838395917:=0
def tw17620011422299851528:=0
def tw14221167439877191030:=0
def tw16421533454524909540:=0
def tw15118818119029550544:=0
def tw17269812519752902826:=0
def tw5707736446313564728:=0
def tw16871252977285837752:=0
def tw3083151749575980472:=0
def tw1198008770998987850:=0
def tw17161995194770365180:=0
def tw10566064846478959942:=0
def tw8485916059401428977:=0
def tw14291875300371219522:=0
def tw18038918546195847193:=0
def tw15565741544397808099:=0
def tw1134834262159825756:=0
def tw14039461196440783108:=0
def tw15940051157498947828:=0
def tw2608114789266186654:=0
def tw5286310393100026222:=0
def tw9850534198255071067:=0
def tw18122880253825030397:=0
def tw3800204483126274874:=0
def tw3722031979425743174:=0
def tw12843521891303157498:=0
def tw8612260980168158401:=0
def tw3217899578207457897:=0
def tw4756592104290104763:=0
def tw4517834786478399854:=0
def tw4250323644603358153:=0
end PySem.W.Fast
set_option autoImplicit false
set_option genSizeOf false
set_option genSizeOfSpec false
set_option bootstrap.genMatcherCode false
set_option compiler.extract_closed false
set_option linter.all false
set_option maxRecDepth 100000
set_option Elab.async false
section
open PySem PySem.Spec PyProof.Rows
def AA:=@List.length_map
def AB:=@List.mem_singleton
def AC:=@Heap.get?_push_of_some
def AD:=@List.not_mem_nil
def AE:=@Heap.lt_size
def AG:=@List.getElem?_map
def AH:=@wpAny_bind
def AI:=@List.size_toArray
def AJ:=@decide_eq_true
def AK:=@List.map_append
def AL:=@Nat.le_refl
def AM:=@List.mem_of_getElem?
def AN:=@Bool.false_ne_true
def AO:=@List.length_append
def AQ:=@List.getElem?_eq_getElem
def AR:=@List.getElem?_eq_some_iff
def AS:=@wpAny_pure
def AU:=@decide_eq_false
def AV:=@List.mem_cons_of_mem
def AW:=@List.length_take
def AX:=@List.map_map
def AY:=@List.mem_cons
def AZ:=@Nat.ne_of_lt
def A_:=@List.mem_map
def BA:=@List.mem_append
def BB:=@List.mem_append_right
def BC:=@Option.map_eq_some_iff
def BD:=@Nat.lt_of_lt_of_le
def BE:=@Heap.get?_push_size
def BF:=@List.mem_cons_self
def BG:=@List.length_cons
def BH:=@if_neg
def BI:=@Nat.zero_le
def BJ:=@if_pos
def BK:=@Nat.le_trans
def BL:=@List.map_cons
def BM:=@List.mem_of_mem_take
def BN:=@Option.some.inj
def BO:=@Bool.and_eq_true
def BP:=@Array.length_toList
def BQ:=@wpAny_truthy_bool
def BR:=@List.nodup_cons
def BS:=@wpAny_mono
def BT:=@List.take_length
def BU:=@List.map_take
def BV:=@Int.toNat_natCast
def BW:=@of_decide_eq_true
def BX:=@Nat.le_of_lt
def BZ:=@List.length_drop
def B_:=@List.all_eq_true
def CA:=@wpAny_Call_Name_kw
def CB:=@List.append_nil
def CC:=@List.mem_append_left
def CD:=@Option.isSome_iff_exists
def CF:=@List.filterMap_cons
def CG:=@Nat.lt_irrefl
def CH:=@wpAny_holding
def CI:=@List.nodup_append
def CJ:=@List.getElem?_append_right
def CK:=@List.getD_eq_getElem?_getD
def CL:=@List.nodup_nil
def CM:=@codeAny_mono
def CN:=@List.getElem?_append_left
def CO:=@List.filter_eq_self
def CP:=@wpAny_standAt
def CQ:=@wpAny_passesOwn
def CS:=@Bool.eq_iff_iff
def CT:=@List.of_mem_zip
def CU:=@Int.emod_lt_of_pos
def CV:=@Bool.false_and
def CW:=@Heap.size_push
def CY:=@List.reverse_cons
def CZ:=@List.append_assoc
def C_:=@List.lookup_cons
def DA:=@Nat.le_succ
end
noncomputable section
namespace L2
open PySem PySem.Spec PyProof.Rows
abbrev Key:=Sum Int Str
def Cy:Key->Value->Bool
 | .inl k,v=>Value.isInt k v
 | .inr x,v=>Value.isStrOf x v
def Lz(w:World):Key->Int
 | .inl k=>hashInt k
 | .inr x=>hashStr w x
theorem D5:∀{k:Key} {v:Value},Cy k v=true->(∃i t,k=Sum.inl i/\v=Value.int i t)\/(∃x t,k=Sum.inr x/\v=Value.str x t)
 | .inl i,v,h=>by
  obtain⟨t,e⟩:=Value.isInt_shape (k:=i) (v:=v) h;exact .inl ⟨i,t,rfl,e⟩
 | .inr x,v,h=>by
  obtain⟨t,e⟩:=Value.isStrOf_shape (x:=x) (v:=v) h;exact .inr ⟨x,t,rfl,e⟩
theorem Z1(x:Str)(t:Tok):Cy (.inr x) (.str x t)=true:=by simp[Cy,Value.isStrOf]
theorem Je(a b:Int):decide ((Sum.inl a:Key)=Sum.inl b) =(a == b):=by
 by_cases e:a=b
 .subst e;simp
 .have h:¬(Sum.inl a:Key)=Sum.inl b:=fun q=>e (Sum.inl.inj q);rw[AU h];exact(beq_eq_false_iff_ne.mpr e).symm
theorem Jq(a b:Str):decide ((Sum.inr a:Key)=Sum.inr b)=decide (a=b):=by
 by_cases e:a=b
 .subst e;simp
 .have h:¬(Sum.inr a:Key)=Sum.inr b:=fun q=>e (Sum.inr.inj q);rw[AU h,AU e]
theorem Ki(a:Int)(b:Str):decide ((Sum.inl a:Key)=Sum.inr b)=false:=AU (fun q=>nomatch q)
theorem Jm(a:Str)(b:Int):decide ((Sum.inr a:Key)=Sum.inl b)=false:=AU (fun q=>nomatch q)
def P7(prog:Program)(w:World):PySem.KeyKind prog w Key where
 is:=Cy
 hash:=Lz w
 inj:=fun v a b ha hb=>by
  rcases D5 ha with⟨i,t,rfl,rfl⟩ | ⟨x,t,rfl,rfl⟩
  .rcases D5 hb with⟨j,u,rfl,e⟩ | ⟨y,u,rfl,e⟩
   .injection e with e1 _;rw[e1]
   .exact nomatch e
  .rcases D5 hb with⟨j,u,rfl,e⟩ | ⟨y,u,rfl,e⟩
   .exact nomatch e
   .injection e with e1 _;rw[e1]
 byValue:=fun k v h=>by
  rcases D5 h with⟨i,t,rfl,rfl⟩ | ⟨x,t,rfl,rfl⟩<;>rfl
 pyHash:=fun hv h=>by
  rcases D5 hv with⟨i,t,rfl,rfl⟩ | ⟨x,t,rfl,rfl⟩
  .exact wpAny_pyHash_int h
  .exact wpAny_pyHash_str h
 eqBool:=fun hu hv h=>by
  rcases D5 hu with⟨i,t,rfl,rfl⟩ | ⟨x,t,rfl,rfl⟩
  .rcases D5 hv with⟨j,u,rfl,rfl⟩ | ⟨y,u,rfl,rfl⟩
   .rw[Je]at h;exact wpAny_eqBool_int h
   .rw[Ki]at h;exact SeqAt.EqAt.int_str i t y u _ _ _ _ h
  .rcases D5 hv with⟨j,u,rfl,rfl⟩ | ⟨y,u,rfl,rfl⟩
   .rw[Jm]at h;exact SeqAt.EqAt.str_int x t j u _ _ _ _ h
   .rw[Jq]at h;exact wpAny_eqBool_str h
 «strs»:=fun k x t v h=>by
  rcases D5 h with⟨i,u,rfl,e⟩ | ⟨y,u,rfl,e⟩
  .exact nomatch e
  .injection e with e1 _;subst e1;cases v<;>rfl
inductive V where
 | non | bl (b:Bool) | int (i:Int) | str (x:Str) | byt (b:Array UInt8) | flt (b:UInt64) | ref (a:Addr) | ty (n:String)
 deriving DecidableEq
def RelV:V->Value->Prop
 | .non,u=>u=Value.none
 | .bl b,u=>u=Value.bool b
 | .int i,u=>∃t,u=Value.int i t
 | .str x,u=>∃t,u=Value.str x t
 | .byt b,u=>∃t,u=Value.bytes b t
 | .flt b,u=>∃t,u=Value.float b t
 | .ref a,u=>u=Value.ref a
 | .ty n,u=>u=Value.type n
abbrev Vals:List V->List Value->Prop:=Paired RelV
theorem Vals.length{xs:List V}{us:List Value}(r:Vals xs us):xs.length=us.length:=Paired.length r
theorem Vals.get:∀{xs:List V} {us:List Value} {i:Nat} {x:V},Vals xs us->xs[i]?=some x->∃u,us[i]?=some u/\RelV x u
 | _,_,_,_,.nil,e=>by simp at e
 | _,_,0,_,.cons r _,e=>by simp at e;subst e;exact⟨_,rfl,r⟩
 | _,_,i+1,x,.cons _ t,e=>by
  obtain⟨u,h1,h2⟩:=Vals.get (i:=i) (x:=x) t (by simpa using e);exact⟨u,by simpa using h1,h2⟩
theorem Vals.set{x:V}{u:Value}(r:RelV x u):∀{xs:List V} {us:List Value} (i:Nat),Vals xs us->Vals (xs.set i x) (us.set i u)
 | _,_,_,.nil=>.nil
 | _,_,0,.cons _ t=>.cons r t
 | _,_,i+1,.cons q t=>.cons q (Vals.set r i t)
theorem Vals.append:∀{xs ys:List V} {us ws:List Value},Vals xs us->Vals ys ws->Vals (xs++ys) (us++ws)
 | _,_,_,_,.nil,s=>s
 | _,_,_,_,.cons r t,s=>.cons r (Vals.append t s)
theorem Vals.take:∀{xs:List V} {us:List Value} (n:Nat),Vals xs us->Vals (xs.take n) (us.take n)
 | _,_,0,_=>.nil
 | _,_,_+1,.nil=>.nil
 | _,_,n+1,.cons r t=>.cons r (Vals.take n t)
theorem Vals.drop:∀{xs:List V} {us:List Value} (n:Nat),Vals xs us->Vals (xs.drop n) (us.drop n)
 | _,_,0,r=>r
 | _,_,_+1,.nil=>.nil
 | _,_,n+1,.cons _ t=>Vals.drop n t
theorem Vals.none_of:∀{xs:List V} {us:List Value} {i:Nat},Vals xs us->xs[i]?=none->us[i]?=none:=fun{xs us i} r e=>by
 have h1:=r.length;have h2:xs.length<=i:=List.getElem?_eq_none_iff.mp e;exact List.getElem?_eq_none_iff.mpr (by omega)
def RelO:Option V->Option Value->Prop
 | some v,some u=>RelV v u
 | none,none=>True
 | _,_=>False
def KV{U:Type}:List (U×V)->List (U×Value)->Prop:=Paired fun(p:U×V) (q:U×Value)=>p.1=q.1/\RelV p.2 q.2
def kV:Key->V
 | .inl i=>.int i
 | .inr x=>.str x
inductive HO where
 | lst (xs:List V)
 | tup (xs:List V)
 | dK (kvs:List (Key×V)) | dT (kvs:List (List Key×V))
 | set (S:Int->Bool) (n:Nat)
 | ins (C dx:Addr) (fs:List (Str×V))
 | own (x:Addr)
 | xd (fs:List (Str×V))
 | met (f x:Addr)
 | rng (lo hi:Int)
 | frz (o:Obj) (u:HO)
 | tbl (ps:Array Value)
 | ext (φ:Heap->Prop)
set_option genInjectivity false
abbrev Hp:=Addr->Option HO
def upd(H:Hp)(a:Addr)(o:HO):Hp:=fun b=>if b=a then some o else H b
theorem A8{H:Hp}{a:Addr}{o:HO}:upd H a o a=some o:=by unfold upd;rw[BJ rfl]
theorem B3{H:Hp}{a b:Addr}{o:HO}(h:b≠a):upd H a o b=H b:=by unfold upd;rw[BH h]
theorem U9{H:Hp}{a b:Addr}{o u:HO}(h:H a=some o)(h':H b=some u)(d:o≠u):a≠b:=by
 intro e;subst e;rw[h]at h';exact d (BN h')
theorem B0{H:Hp}{a b:Addr}{o:HO}(h:H a=some o)(h':H b=none):a≠b:=by
 intro e;subst e;rw[h]at h';cases h'
section
variable(P:Program)(w:World)
def ObjOk(H:Hp)(h:Heap)(a:Addr):HO->Prop
 | .lst xs=>xs.length<=sizeLine/\∃(its:List Value) (n:Nat),Vals xs its/\h.get? a=some { cls:=.type "list",data:=.seq its.toArray n }
 | .tup xs=>xs.length<=sizeLine/\∃its:List Value,Vals xs its/\IsTup h a its.toArray
 | .dK kvs=>kvs.length<=sizeLine/\(a == sysModules)=false/\∃vs,KV kvs vs/\h.DictOf (P7 P w) a vs
 | .dT kvs=>kvs.length<=sizeLine/\(a == sysModules)=false/\∃xs:List (List Key×Addr×Value),
   Paired (fun(p:List Key×V) (q:List Key×Addr×Value)=>p.1=q.1/\H q.2.1=some (.tup (p.1.map kV))/\RelV p.2 q.2.2) kvs xs /\
   ∃o es ep,h.get? a=some o/\o.ExactDict/\o.data = .dict es ep/\es.toList=xs.map (entryOfKey (tupleKind (P7 P w)))/\(xs.map (·.1)).Nodup
 | .set S n=>h.SetOf (intKind P w) a S n
 | .ins C dx fs=>H dx=some (.own a)/\fs.length<=1000/\dx≠a/\h.get? a=some (PySem.W.instObj C dx) /\
   ∃mA,h.Ns1 dx mA/\(∀f,RelO (fs.lookup f) (mA f))/\PySem.Within mA (fs.map (·.1))
 | .own _=>∃o,h.get? a=some o
 | .xd fs=>∃mA,h.Ns1 a mA/\∀f,RelO (fs.lookup f) (mA f)
 | .rng lo hi=>∃t u v,h.get? a=some { cls:=.type "range",data:=.fields #[.int lo t,.int hi u,.int 1 v] }
 | .frz o u=>h.get? a=some o/\ObjOk H h a u
 | .tbl ps=>h.get? a=some { cls:=.none,data:=.fields ps }
 | .met f x=>h.get? a=some (PySem.W.methodObj (.ref f) (.ref x))
 | .ext φ=>φ h/\(∃o,h.get? a=some o)/\∀h1 h2:Heap,φ h1->(∀o,h1.get? a=some o->h2.get? a=some o)->φ h2
def HOk(H:Hp)(h:Heap):Prop:=∀a o,H a=some o->ObjOk P w H h a o
end
section
variable{P:Program}{w:World}{H H':Hp}{h h':Heap}{a:Addr}{o:HO}
theorem ObjOk.lt(x:ObjOk P w H h a o):a<h.objs.size:=by
 cases o with
 | lst xs=>obtain⟨_,_,_,_,e⟩:=x;exact AE e
 | tup xs=>obtain⟨_,_,_,p⟩:=x;exact p.lt
 | dK kvs=>obtain⟨_,_,_,_,o,_,_,e,_⟩:=x;exact AE e
 | dT kvs=>obtain⟨_,_,_,_,o,_,_,e,_⟩:=x;exact AE e
 | set S n=>obtain⟨o,_,_,_,e,_⟩:=x;exact AE e
 | ins C dx fs=>obtain⟨_,_,_,e,_⟩:=x;exact AE e
 | own y=>obtain⟨_,e⟩:=x;exact AE e
 | xd fs=>obtain⟨_,⟨_,_,_,e,_⟩,_⟩:=x;exact AE e
 | rng lo hi=>obtain⟨_,_,_,e⟩:=x;exact AE e
 | frz ob u=>obtain⟨e,_⟩:=x;exact AE e
 | tbl ps=>exact AE (show h.get? a=some _ from x)
 | met f y=>exact AE (show h.get? a=some _ from x)
 | ext φ=>obtain⟨_,⟨_,e⟩,_⟩:=x;exact AE e
theorem Paired.mapP{α β:Type}{F G:α->β->Prop}:∀{l₁:List α} {l₂:List β},Paired F l₁ l₂->(∀a b,F a b->G a b)->Paired G l₁ l₂
 | _,_,.nil,_=>.nil
 | _,_,.cons r t,f=>.cons (f _ _ r) (Paired.mapP t f)
theorem ObjOk.stay(x:ObjOk P w H h a o)(k:∀b u,(b=a\/H b=some (.own a))->h.get? b=some u->h'.get? b=some u)
  (ho:∀b,H b=some (.own a)->H' b=some (.own a)) (ht:∀b xs,H b=some (.tup xs)->H' b=some (.tup xs)):ObjOk P w H' h' a o:=by
 induction o with
 | lst xs=>obtain⟨z,its,n,r,e⟩:=x;exact⟨z,its,n,r,k _ _ (.inl rfl) e⟩
 | tup xs=>obtain⟨z,its,r,ob,e,c⟩:=x;exact⟨z,its,r,ob,k _ _ (.inl rfl) e,c⟩
 | dK kvs=>obtain⟨z,y,vs,r,ob,es,ep,e,c⟩:=x;exact⟨z,y,vs,r,ob,es,ep,k _ _ (.inl rfl) e,c⟩
 | dT kvs =>
  obtain⟨z,y,xs,r,ob,es,ep,e,c⟩:=x;exact⟨z,y,xs,Paired.mapP r fun p q z=>⟨z.1,ht _ _ z.2.1,z.2.2⟩,ob,es,ep,k _ _ (.inl rfl) e,c⟩
 | set S n=>obtain⟨ob,es,ep,t,e,c⟩:=x;exact⟨ob,es,ep,t,k _ _ (.inl rfl) e,c⟩
 | ins C dx fs =>
  obtain⟨d,z,ne,e,mA,⟨od,es,ep,e2,c⟩,r⟩:=x;exact⟨ho _ d,z,ne,k _ _ (.inl rfl) e,mA,⟨od,es,ep,k _ _ (.inr d) e2,c⟩,r⟩
 | own y=>obtain⟨ob,e⟩:=x;exact⟨ob,k _ _ (.inl rfl) e⟩
 | xd fs=>obtain⟨mA,⟨od,es,ep,e,c⟩,r⟩:=x;exact⟨mA,⟨od,es,ep,k _ _ (.inl rfl) e,c⟩,r⟩
 | rng lo hi=>obtain⟨t,u,v,e⟩:=x;exact⟨t,u,v,k _ _ (.inl rfl) e⟩
 | frz ob u ih=>obtain⟨e,q⟩:=x;exact⟨k _ _ (.inl rfl) e,ih q⟩
 | tbl ps =>
  have e:h.get? a=some { cls:=.none,data:=.fields ps }:=x;show h'.get? a=some { cls:=.none,data:=.fields ps };exact k a _ (.inl rfl) e
 | met f y =>
  have e:h.get? a=some (PySem.W.methodObj (.ref f) (.ref y)):=x;show h'.get? a=some (PySem.W.methodObj (.ref f) (.ref y));exact k a _ (.inl rfl) e
 | ext φ=>obtain⟨p,⟨o,e⟩,st⟩:=x;exact⟨st _ _ p fun o q=>k _ _ (.inl rfl) q,⟨o,k _ _ (.inl rfl) e⟩,st⟩
theorem HOk.lt(x:HOk P w H h)(e:H a=some o):a<h.objs.size:=(x a o e).lt
theorem HOk.fresh(x:HOk P w H h)(e:h.objs.size<=a):H a=none:=by
 cases q:H a with
 | none=>rfl
 | some u=>exact absurd (BD (x.lt q) e) (CG _)
theorem HOk.kept(x:HOk P w H h)(k:∀b u,h.get? b=some u->h'.get? b=some u):HOk P w H h':=fun a o e =>
 (x a o e).stay (fun b u _ q=>k b u q) (fun _ q=>q) fun _ _ q=>q
theorem HOk.laid(x:HOk P w H h)(k:∀b u,h.get? b=some u->h'.get? b=some u)(hp:h.objs.size<=a)(new:ObjOk P w (upd H a o) h' a o):HOk P w (upd H a o) h':=fun b u e=>by
 have hn:=x.fresh hp;by_cases hb:b=a
 .subst hb;rw[A8]at e;cases e;exact new
 .rw[B3 hb]at e;exact(x b u e).stay (fun c v _ q=>k c v q) (fun c q=>by rw[B3 (B0 q hn)];exact q) fun c xs q=>by rw[B3 (B0 q hn)];exact q
end
def Rd(H:Hp)(a:Addr)(u:HO):Prop:=H a=some u\/∃o,H a=some (.frz o u)
theorem Rd.ok{P:Program}{w:World}{H:Hp}{h:Heap}{a:Addr}{u:HO}(r:Rd H a u)(x:HOk P w H h):ObjOk P w H h a u:=by
 rcases r with r | ⟨o,r⟩
 .exact x a u r
 .obtain⟨_,q⟩:=x a _ r;exact q
def Mut:Option HO->Prop
 | some (.lst _)=>True
 | some (.dK _)=>True
 | some (.dT _)=>True
 | some (.set _ _)=>True
 | some (.ins _ _ _)=>True
 | some (.ext _)=>True
 | _=>False
section
variable{P:Program}{w:World}{H:Hp}{h h':Heap}{x e:Addr}{o':HO}
theorem HOk.write(ok:HOk P w H h)(mu:Mut (H x))(he:e=x\/H e=some (.own x))(k:∀b u,b≠e->h.get? b=some u->h'.get? b=some u)(heo:∃u,h'.get? e=some u)
  (new:ObjOk P w (upd H x o') h' x o'):HOk P w (upd H x o') h':=fun b u q=>by
 have nown:∀c y,H c=some (.own y)->c≠x:=fun c y r z=>by subst z;rw[r]at mu;exact mu
 have ntup:∀c xs,H c=some (.tup xs)->c≠x:=fun c xs r z=>by subst z;rw[r]at mu;exact mu
 by_cases hb:b=x
 .subst hb;rw[A8]at q;cases q;exact new
 .rw[B3 hb]at q;by_cases hbe:b=e
  .have q':H b=some (.own x):=by
    rcases he with z | z
    .exact absurd (hbe.trans z) hb
    .rw[hbe];exact z
   rw[q]at q';cases q';obtain⟨v,hv⟩:=heo;exact⟨v,by rw[hbe];exact hv⟩
  .refine(ok b u q).stay (fun c v hc r=>k c v ?_ r) (fun c r=>by rw[B3 (nown c b r)];exact r) fun c xs r=>by rw[B3 (ntup c xs r)];exact r
   rcases hc with rfl | hc
   .exact hbe
   .rintro rfl;rcases he with z | z
    .exact nown c b hc z
    .rw[hc]at z;cases z;exact hb rfl
end
structure Un(fs ex:List Addr)(H H':Hp)(h h':Heap):Prop where
 keep:∀b o,h.get? b=some o->H b=none->b∉fs->b∉ex->h'.get? b=some o
 slot:∀b o,h.get? b=some o->H b=none->b∈fs->b∉ex->∃sl,h'.get? b=some { o with slots:=sl }
 free:∀b o,h.get? b=some o->H b=none->b∉ex->H' b=none
 there:∀b o,h.get? b=some o->b∉ex->∃o',h'.get? b=some o'
 tups:∀b xs,H b=some (.tup xs)->H' b=some (.tup xs)
 frzs:∀b o u,H b=some (.frz o u)->H' b=some (.frz o u)
 tbls:∀b ps,H b=some (.tbl ps)->∃more,H' b=some (.tbl (ps++more))
section
variable{fs fs' ex ex':List Addr}{H H1 H2:Hp}{h h1 h2 h':Heap}{a x e:Addr}{o:HO}
theorem Un.any(u:Un fs ex H H1 h h1){b:Addr}{ob:Obj}(q:h.get? b=some ob)(n:H b=none)(hx:b∉ex):∃sl,h1.get? b=some { ob with slots:=sl }:=by
 by_cases hb:b∈fs
 .exact u.slot b ob q n hb hx
 .exact⟨ob.slots,u.keep b ob q n hb hx⟩
theorem Un.kept(k:∀b u,h.get? b=some u->h'.get? b=some u):Un fs ex H H h h' :=
 ⟨fun b ob q _ _ _=>k b ob q,fun b ob q _ _ _=>⟨ob.slots,k b ob q⟩,fun _ _ _ n _=>n,fun b ob q _=>⟨ob,k b ob q⟩,fun _ _ q=>q,fun _ _ _ q=>q,fun _ ps q=>⟨#[],by rw[q];simp⟩⟩
theorem Un.refl:Un fs ex H H h h:=Un.kept fun _ _ q=>q
theorem Un.laid(k:∀b u,h.get? b=some u->h'.get? b=some u)(hp:h.objs.size<=a)(hn:H a=none):Un fs ex H (upd H a o) h h' where
 keep:=fun b u q _ _ _=>k b u q
 slot:=fun b u q _ _ _=>⟨u.slots,k b u q⟩
 free:=fun b u q n _=>by rw[B3 (AZ (BD (AE q) hp))];exact n
 there:=fun b u q _=>⟨u,k b u q⟩
 tups:=fun b xs q=>by rw[B3 (B0 q hn)];exact q
 frzs:=fun b u xs q=>by rw[B3 (B0 q hn)];exact q
 tbls:=fun b ps q=>⟨#[],by rw[B3 (B0 q hn),q];simp⟩
theorem Un.write(mu:Mut (H x))(he:e=x\/H e=some (.own x))(k:∀b u,b≠e->h.get? b=some u->h'.get? b=some u)(heo:∃u,h'.get? e=some u):Un fs ex H (upd H x o) h h':=by
 have hx:∀b,H b=none->b≠x:=fun b n z=>by subst z;rw[n]at mu;exact mu
 have hb:∀b,H b=none->b≠e:=fun b n z=>by
  subst z;rcases he with r | r
  .exact hx b n r
  .rw[n]at r;cases r
 have hm:∀b u,H b=some u->¬Mut (some u)->b≠x:=fun b u q nm z=>by subst z;rw[q]at mu;exact nm mu
 refine⟨fun b u q n _ _=>k b u (hb b n) q,fun b u q n _ _=>⟨u.slots,k b u (hb b n) q⟩,fun b u q n _=>by rw[B3 (hx b n)];exact n,fun b u q _=>?_,
  fun b xs q=>by rw[B3 (hm b _ q fun z=>z)];exact q,fun b u xs q=>by rw[B3 (hm b _ q fun z=>z)];exact q,fun b ps q=>⟨#[],by rw[B3 (hm b _ q fun z=>z),q];simp⟩⟩
 by_cases hbe:b=e
 .subst hbe;exact heo
 .exact⟨u,k b u hbe q⟩
end
def trk(h:Heap)(H:Hp):List Addr:=(List.range h.objs.size).filter fun a=>(H a).isSome
def Eg(h:Heap)(H:Hp):Heap:=PySem.W.hideAll h (trk h H)
theorem p4(h:Heap)(H:Hp):(Eg h H).objs.size=h.objs.size:=PySem.W.hideAll_size _ _
theorem V0{h:Heap}{H:Hp}{b:Addr}{o:Obj}(e:h.get? b=some o)(n:H b=none):(Eg h H).get? b=some o :=
 PySem.W.hideAll_get _ e fun hm=>by
  have q:(H b).isSome=true:=(List.mem_filter.mp hm).2;rw[n]at q;simp at q
theorem Dm{h:Heap}{H:Hp}{b:Addr}{o:Obj}(e:(Eg h H).get? b=some o):h.get? b=some o/\H b=none:=by
 have e':h.get? b=some o:=PySem.W.of_hideAll (trk h H) e;refine⟨e',?_⟩;cases q:H b with
 | none=>rfl
 | some x =>
  have hm:b∈trk h H:=List.mem_filter.mpr ⟨List.mem_range.mpr (AE e'),by simp[q]⟩;have z:(Eg h H).get? b=none:=PySem.W.hideAll_none (trk h H) hm;rw[z]at e;cases e
structure Mod(K:PySem.W.Frag)(mg:Str->Option Value)(base:Heap):Prop where
 kin:K.In base
 glob:base.Ns mainGlobals mg
 blt:∃mb,base.Ns builtinsNs mb/\∀x:Str,x≠ "__name__"->mb x=bootBuiltins x
 nolimit:base.NoLimit
structure Cx where
 prog:Program
 w:World
 K:PySem.W.Frag
 mg:Str->Option Value
 base:Heap
 A:Around
 N:List Str
 s₀:Shared
 H₀:Hp
 env:Env
 outer:List Env
 stack:List Env
 ex:List Addr
 fn:Str->Bool
 calm:Bool
 pn:List (Addr×Obj)
 xe:Value->Shared->Prop
def frs(l:List Env):List Addr:=l.filterMap (·.frame)
abbrev Cx.fs(X:Cx):List Addr:=frs X.outer
def Vis(sc:Scope)(x:Str):Prop:=sc.names.lookup x=some .local\/sc.names.lookup x=some .cell\/sc.names.lookup x=some .free
def Loc(sc:Scope)(x:Str):Prop:=sc.names.lookup x=some .local\/sc.names.lookup x=some .cell
def My(env:Env)(h:Heap)(m:Str->Option Value)(x:Str)(u:Value):Prop :=
 (env.kindOf x=some .local/\m x=some u)\/((env.kindOf x=some .cell\/env.kindOf x=some .free)/\∃c,env.cells.lookup x=some c/\h.IsCell c (some u))
structure Cx.Ok(X:Cx):Prop where
 mod:Mod X.K X.mg X.base
 kind:X.env.scope.kind = .function
 glob:X.env.globals=mainGlobals
 blt:X.env.builtins=builtinsNs
 above:X.s₀.heap.objs.size<=X.env.locals
 inj:∀x y c,X.env.cells.lookup x=some c->X.env.cells.lookup y=some c->x=y
 has:∀x,(X.env.kindOf x=some .cell\/X.env.kindOf x=some .free)->∃c,X.env.cells.lookup x=some c
 cab:∀x c,X.fn x=true->X.env.cells.lookup x=some c->X.s₀.heap.objs.size<=c
 hd:X.calm=true->X.A.handled=none
 frames:X.A.frames=some X.stack
 stk:X.stack=X.outer\/(X.stack=X.env::X.outer/\X.env.frame=some X.env.locals)
 exf:∀b∈X.ex,b≠X.env.locals/\∀x c,X.env.cells.lookup x=some c->c≠b
 bs:∀b o,X.base.get? b=some o->X.s₀.heap.get? b=some o/\X.H₀ b=none
 bsz:X.base.objs.size<=X.s₀.heap.objs.size
 noex:∀b o,X.base.get? b=some o->b∉X.ex
 exfs:∀b∈X.ex,b∉X.fs
 funs:X.s₀.heap.FunFrames X.base X.outer
 frf:∀b∈X.fs,X.H₀ b=none
structure Inv(X:Cx)(pins:List (Addr×Obj))(σ:List (Option V))(H:Hp)(s:Shared):Prop where
 ok:X.Ok
 os:s.os=X.s₀.os
 bare:AllBare s.gens
 base:Un X.fs X.ex X.H₀ H X.s₀.heap s.heap
 loc:∃m,s.heap.Ns X.env.locals m/\∀(i:Nat) (x:Str) (v:V),X.N[i]?=some x->σ[i]?=some (some v)->Vis X.env.scope x->∃u,RelV v u/\My X.env s.heap m x u
 cell:∀x c,X.env.cells.lookup x=some c->∃v,s.heap.IsCell c v
 free:H X.env.locals=none
 freeC:∀x c,X.env.cells.lookup x=some c->H c=none
 pin:∀p∈X.pn++pins,s.heap.get? p.1=some p.2/\H p.1=none/\p.1≠X.env.locals/\p.1∉X.fs/\∀v,p.2.data≠ .cell v
 hok:HOk X.prog X.w H s.heap
 len:σ.length=X.N.length
section
variable{X:Cx}{pins:List (Addr×Obj)}{σ:List (Option V)}{H H':Hp}{s:Shared}{h':Heap}
theorem Cx.Ok.nofr(ok:X.Ok){b:Addr}{o:Obj}(e:X.base.get? b=some o):b∉X.fs:=fun hb=>by
 have:=(ok.funs.mem hb).1;rw[e]at this;cases this
theorem Inv.bs(I:Inv X pins σ H s):∀b o,X.base.get? b=some o->s.heap.get? b=some o/\H b=none:=fun b o e =>
 ⟨I.base.keep b o (I.ok.bs b o e).1 (I.ok.bs b o e).2 (I.ok.nofr e) (I.ok.noex b o e),I.base.free b o (I.ok.bs b o e).1 (I.ok.bs b o e).2 (I.ok.noex b o e)⟩
theorem Inv.bk(I:Inv X pins σ H s):∀b o,X.base.get? b=some o->s.heap.get? b=some o:=fun b o e=>(I.bs b o e).1
theorem Inv.mod(I:Inv X pins σ H s):Mod X.K X.mg X.base:=I.ok.mod
theorem Inv.kIn(I:Inv X pins σ H s):X.K.In s.heap:=I.ok.mod.kin.keeps I.bk
theorem Inv.lt(I:Inv X pins σ H s):X.env.locals<s.heap.objs.size:=let⟨_,hn,_⟩:=I.loc;hn.lt
theorem Inv.sz(I:Inv X pins σ H s):X.s₀.heap.objs.size<=s.heap.objs.size:=BK I.ok.above (BX I.lt)
theorem Inv.nofs(I:Inv X pins σ H s){a:Addr}(h:s.heap.objs.size<=a):a∉X.fs:=fun hb=>by
 obtain⟨_,o,ho,_⟩:=I.ok.funs.mem hb;exact absurd (BD (AE ho) (BK I.sz h)) (CG _)
theorem Inv.cne(I:Inv X pins σ H s):∀x c,X.env.cells.lookup x=some c->c≠X.env.locals:=fun x c e z=>by
 obtain⟨v,o,ho,hd⟩:=I.cell x c e;obtain⟨m,⟨o',es,ep,ho',hd',_⟩,_⟩:=I.loc;rw[z,ho']at ho;cases ho;rw[hd']at hd;cases hd
theorem Inv.funs(I:Inv X pins σ H s):s.heap.FunFrames X.base X.outer:=by
 have all:∀(l:List Env),(∀b∈frs l,b∈X.fs)->X.s₀.heap.FunFrames X.base l->s.heap.FunFrames X.base l:=by
  intro l
  induction l with
  | nil=>intro _ _;trivial
  | cons env r ih =>
   intro hs hl;obtain⟨hk,⟨L,o,hf,hn,ho,hd⟩,hr⟩:=hl;have hL:L∈X.fs:=hs L (by unfold frs;rw[CF,hf];exact BF);obtain⟨sl,e⟩:=I.base.slot L o ho (I.ok.frf L hL) hL fun z=>I.ok.exfs L z hL;exact⟨hk,⟨L,_,hf,hn,e,hd⟩,ih (fun b hb=>hs b (by unfold frs;rw[CF,hf];exact AV _ hb)) hr⟩
 exact all X.outer (fun _ hb=>hb) I.ok.funs
theorem Inv.stack(I:Inv X pins σ H s):s.heap.FunFrames X.base X.stack:=by
 rcases I.ok.stk with e | ⟨e,hf⟩
 .rw[e];exact I.funs
 .rw[e];obtain⟨m,hn,_⟩:=I.loc;refine .cons (by rw[I.ok.kind];decide) hf hn ?_ I.funs;exact Heap.get?_none_of_le (BK I.ok.bsz I.ok.above)
theorem Inv.stkSub(I:Inv X pins σ H s):∀b∈frs X.stack,b∈X.env.locals::X.fs:=fun b hb=>by
 rcases I.ok.stk with e | ⟨e,hf⟩
 .rw[e]at hb;exact AV _ hb
 .rw[e]at hb;unfold frs at hb;rw[CF,hf]at hb;exact hb
theorem Inv.stkFree(I:Inv X pins σ H s):∀b∈frs X.stack,H b=none:=fun b hb=>by
 rcases AY.mp (I.stkSub b hb)with e | hb
 .rw[e];exact I.free
 .obtain⟨_,o,ho,_⟩:=I.ok.funs.mem hb;exact I.base.free b o ho (I.ok.frf b hb) fun z=>I.ok.exfs b z hb
theorem Inv.step{g':Array GenState}{t':Nat}{d':Drawn}{ch:List Addr}(I:Inv X pins σ H s)
  (hch:∀b∈ch,(b∈X.ex\/X.s₀.heap.objs.size<=b)/\b≠X.env.locals/\(∀x c,X.env.cells.lookup x=some c->c≠b)/\∀p∈X.pn++pins,p.1≠b)
  (keep:∀b o,b≠X.env.locals->b∉X.fs->b∉ch->s.heap.get? b=some o->H b=none->h'.get? b=some o)
  (slot:∀b o,b≠X.env.locals->b∈X.fs->b∉ch->s.heap.get? b=some o->H b=none->∃sl,h'.get? b=some { o with slots:=sl }) (free:∀b o,b∉ch->s.heap.get? b=some o->H b=none->H' b=none)
  (there:∀b o,b∉ch->s.heap.get? b=some o->∃o',h'.get? b=some o')
  (tups:∀b xs,H b=some (.tup xs)->H' b=some (.tup xs)) (frzs:∀b o u,H b=some (.frz o u)->H' b=some (.frz o u)) (tbls:∀b ps,H b=some (.tbl ps)->∃more,H' b=some (.tbl (ps++more)))
  (ns:∀m,s.heap.Ns X.env.locals m->h'.Ns X.env.locals m) (hok:HOk X.prog X.w H' h') (hg:AllBare g') :
  Inv X pins σ H' { s with heap:=h',gens:=g',drawn:=d',toks:=t' }:=by
 have neL:∀b o,X.s₀.heap.get? b=some o->b≠X.env.locals:=fun b o e=>AZ (BD (AE e) I.ok.above);have neC:∀b o,X.s₀.heap.get? b=some o->b∉X.ex->b∉ch:=fun b o e hx hb=>by
  rcases(hch b hb).1 with z | z
  .exact hx z
  .exact absurd (BD (AE e) z) (CG _)
 have cellK:∀x c,X.env.cells.lookup x=some c->∀v,s.heap.IsCell c v->h'.IsCell c v:=fun x c e v ⟨o,ho,hd⟩=>by
  have nch:c∉ch:=fun z=>(hch c z).2.2.1 x c e rfl;by_cases hc:c∈X.fs
  .obtain⟨sl,q⟩:=slot c o (I.cne x c e) hc nch ho (I.freeC x c e);exact⟨_,q,hd⟩
  .exact⟨o,keep c o (I.cne x c e) hc nch ho (I.freeC x c e),hd⟩
 refine⟨I.ok,I.os,hg,⟨fun b o e n hb hx=>?_,fun b o e n hb hx=>?_,fun b o e n hx=>?_,fun b o e hx=>?_,fun b xs e=>tups b xs (I.base.tups b xs e),fun b o xs e=>frzs b o xs (I.base.frzs b o xs e),fun b ps e=>?_⟩,?_,fun x c e=>?_,?_,fun x c e=>?_,fun p hp=>?_,hok,I.len⟩
 .exact keep b o (neL b o e) hb (neC b o e hx) (I.base.keep b o e n hb hx) (I.base.free b o e n hx)
 .obtain⟨sl,e1⟩:=I.base.slot b o e n hb hx;obtain⟨sl',e2⟩:=slot b _ (neL b o e) hb (neC b o e hx) e1 (I.base.free b o e n hx);exact⟨sl',e2⟩
 .obtain⟨o',e1⟩:=I.base.there b o e hx;exact free b o' (neC b o e hx) e1 (I.base.free b o e n hx)
 .obtain⟨o',e1⟩:=I.base.there b o e hx;exact there b o' (neC b o e hx) e1
 .obtain⟨m1,e1⟩:=I.base.tbls b ps e;obtain⟨m2,e2⟩:=tbls b _ e1;exact⟨m1++m2,by rw[e2,Array.append_assoc]⟩
 .obtain⟨m,hn,hl⟩:=I.loc;refine⟨m,ns m hn,fun i x v e1 e2 e3=>?_⟩;obtain⟨u,r,l⟩:=hl i x v e1 e2 e3;refine⟨u,r,?_⟩;rcases l with l | ⟨k,c,e,z⟩
  .exact .inl l
  .exact .inr ⟨k,c,e,cellK x c e _ z⟩
 .obtain⟨v,z⟩:=I.cell x c e;exact⟨v,cellK x c e v z⟩
 .obtain⟨m,⟨o,_,_,ho,_⟩,_⟩:=I.loc;exact free _ o (fun z=>(hch _ z).2.1 rfl) ho I.free
 .obtain⟨v,o,ho,hd⟩:=I.cell x c e;exact free c o (fun z=>(hch c z).2.2.1 x c e rfl) ho (I.freeC x c e)
 .obtain⟨e,n,ne,nf,d⟩:=I.pin p hp;have nch:p.1∉ch:=fun z=>(hch p.1 z).2.2.2 p hp rfl;exact⟨keep p.1 p.2 ne nf nch e n,free p.1 p.2 nch e n,ne,nf,d⟩
theorem Inv.un{t':Nat}(I:Inv X pins σ H s)(u:Un X.fs [] H H' s.heap h')(hok:HOk X.prog X.w H' h'):Inv X pins σ H' { s with heap:=h',toks:=t' }:=by
 obtain⟨m,⟨o,es,ep,ho,r⟩,_⟩:=id I.loc;obtain⟨sl,hL⟩:=u.any ho I.free (by simp);exact I.step (g':=s.gens) (d':=s.drawn) (ch:=[]) (fun _ z=>nomatch z) (fun b o _ hb _ e n=>u.keep b o e n hb (by simp)) (fun b o _ hb _ e n=>u.slot b o e n hb (by simp)) (fun b o _ e n=>u.free b o e n (by simp)) (fun b o _ e=>u.there b o e (by simp)) u.tups u.frzs u.tbls (fun m' hm=>by
  obtain⟨o',es',ep',ho',r'⟩:=hm;rw[ho]at ho';cases ho';exact⟨_,es',ep',hL,r'⟩) hok I.bare
theorem Inv.call{g':Array GenState}{t':Nat}{d':Drawn}{ch:List Addr}(I:Inv X pins σ H s)(u:Un (frs X.stack) ch H H' s.heap h')(hok:HOk X.prog X.w H' h')(hg:AllBare g')
  (hch:∀b∈ch,(b∈X.ex\/X.s₀.heap.objs.size<=b)/\b≠X.env.locals/\(∀x c,X.env.cells.lookup x=some c->c≠b)/\∀p∈X.pn++pins,p.1≠b) :
  Inv X pins σ H' { s with heap:=h',gens:=g',drawn:=d',toks:=t' }:=by
 obtain⟨m,⟨o,es,ep,ho,r⟩,_⟩:=id I.loc;obtain⟨sl,hL⟩:=u.any ho I.free fun z=>(hch _ z).2.1 rfl;exact I.step (ch:=ch) hch (fun b o hL hb hc e n=>u.keep b o e n (fun z=>(AY.mp (I.stkSub b z)).elim hL hb) hc) (fun b o _ _ hc e n=>u.any e n hc) (fun b o hc e n=>u.free b o e n hc) (fun b o hc e=>u.there b o e hc) u.tups u.frzs u.tbls (fun m' hm=>by
  obtain⟨o',es',ep',ho',r'⟩:=hm;rw[ho]at ho';cases ho';exact⟨_,es',ep',hL,r'⟩) hok hg
theorem Inv.turned{t':Nat}{it:Addr}(I:Inv X pins σ H s)(k:∀b o,b≠it->s.heap.get? b=some o->h'.get? b=some o)(hn:H it=none)(hL:it≠X.env.locals)
  (h1:it∈X.ex\/X.s₀.heap.objs.size<=it) (h2:∀x c,X.env.cells.lookup x=some c->c≠it) (h3:∀p∈X.pn++pins,p.1≠it):Inv X pins σ H { s with heap:=h',toks:=t' }:=by
 have nit:∀b u,H b=some u->b≠it:=fun b u e z=>by rw[z,hn]at e;cases e
 refine I.step (g':=s.gens) (d':=s.drawn) (ch:=[it]) (fun b hb=>?_) (fun b o _ _ hc e _=>k b o (fun z=>hc (by simp[z])) e) (fun b o _ _ hc e _=>⟨o.slots,k b o (fun z=>hc (by simp[z])) e⟩) (fun _ _ _ _ n=>n)
  (fun b o hc e=>⟨o,k b o (fun z=>hc (by simp[z])) e⟩) (fun _ _ e=>e) (fun _ _ _ e=>e) (fun b ps e=>⟨#[],by rw[e];simp⟩) (fun m hm=>?_) (fun b u e=>?_) I.bare
 .have e:b=it:=by simpa using hb
  subst e;exact⟨h1,hL,h2,h3⟩
 .obtain⟨o,es,ep,ho,r⟩:=hm;exact⟨o,es,ep,k _ o (Ne.symm hL) ho,r⟩
 .refine(I.hok b u e).stay (fun c v hc q=>k c v ?_ q) (fun _ q=>q) fun _ _ q=>q;rcases hc with z | z
  .rw[z];exact nit b u e
  .exact nit c _ z
theorem Inv.tok(I:Inv X pins σ H s)(t:Nat):Inv X pins σ H { s with toks:=t }:=I.un (h':=s.heap) (t':=t) Un.refl I.hok
theorem Inv.kept{t':Nat}(I:Inv X pins σ H s)(k:∀b u,s.heap.get? b=some u->h'.get? b=some u):Inv X pins σ H { s with heap:=h',toks:=t' }:=I.un (Un.kept k) (I.hok.kept k)
theorem Inv.laid{a:Addr}{o:HO}{t':Nat}(I:Inv X pins σ H s)(k:∀b u,s.heap.get? b=some u->h'.get? b=some u)(hp:s.heap.objs.size<=a)(new:ObjOk X.prog X.w (upd H a o) h' a o) :
  Inv X pins σ (upd H a o) { s with heap:=h',toks:=t' }:=I.un (Un.laid k hp (I.hok.fresh hp)) (I.hok.laid k hp new)
theorem Inv.write{x e:Addr}{o:HO}{t':Nat}(I:Inv X pins σ H s)(mu:Mut (H x))(he:e=x\/H e=some (.own x))(k:∀b u,b≠e->s.heap.get? b=some u->h'.get? b=some u)(heo:∃u,h'.get? e=some u)
  (new:ObjOk X.prog X.w (upd H x o) h' x o):Inv X pins σ (upd H x o) { s with heap:=h',toks:=t' }:=I.un (Un.write mu he k heo) (I.hok.write mu he k heo new)
theorem Inv.pins_of{pins':List (Addr×Obj)}(I:Inv X pins σ H s)(h:∀p∈pins',s.heap.get? p.1=some p.2/\H p.1=none/\p.1≠X.env.locals/\p.1∉X.fs/\∀v,p.2.data≠ .cell v):Inv X pins' σ H s :=
 ⟨I.ok,I.os,I.bare,I.base,I.loc,I.cell,I.free,I.freeC,fun p hp=>(BA.mp hp).elim (fun z=>I.pin p (CC _ z)) (h p),I.hok,I.len⟩
theorem z8{N:List Str}(hN:N.Nodup){i j:Nat}{x:Str}(a:N[i]?=some x)(b:N[j]?=some x):i=j:=by
 obtain⟨h1,e1⟩:=AR.mp a;obtain⟨h2,e2⟩:=AR.mp b;exact(List.getElem_inj hN).mp (e1.trans e2.symm)
theorem p5{M:Model}{A:Around}{E:Value->Shared->Prop}{i:Nat}{x:Str}{v:V}{u:Value}{Q:Unit->Shared->Prop}(I:Inv X pins σ H s)(hN:X.N.Nodup)(hi:X.N[i]?=some x)(hx:Loc X.env.scope x)(r:RelV v u)
  (h:∀s',Inv X pins (σ.set i (some v)) H s'->(∃a,Heap.SameBut a s.heap s'.heap/\(a=X.env.locals\/X.env.cells.lookup x=some a))->Q () s') (hf:X.fn x=true\/X.env.scope.names.lookup x=some .local:=by first | exact .inl rfl | exact .inr rfl | assumption):wpAny M A (storeName X.env x u) Q E s:=by
 obtain⟨m,hn,hl⟩:=id I.loc;have hcls:(X.env.scope.kind == .class||(X.env.scope.kind == .module&&X.env.locals != X.env.globals))=false:=by rw[I.ok.kind];rfl
 have hiσ:i<σ.length:=by rw[I.len];exact(AR.mp hi).1
 have cne:=I.cne;have tracked:∀{a:Addr} {h':Heap},(∃o,s.heap.get? a=some o/\H a=none)->Heap.SameBut a s.heap h'->HOk X.prog X.w H h':=fun{a h'} ha hs b ob e=>by
  obtain⟨_,_,hfree⟩:=ha;refine(I.hok b ob e).stay (fun c w' hc q=>(hs.2 c ?_).trans q) (fun _ q=>q) fun _ _ q=>q;rintro rfl;rcases hc with rfl | hc
  .rw[hfree]at e;cases e
  .rw[hfree]at hc;cases hc
 rcases hx with hk | hk
 .refine wpAny_storeName_local hk hn (fun h' hn' hs=>?_) hcls;obtain⟨oL,_,_,hoL,_⟩:=id hn;refine h _ ⟨I.ok,I.os,I.bare,⟨fun b o e n hb hx=>?_,fun b o e n hb hx=>?_,I.base.free,fun b o e hx=>?_,I.base.tups,I.base.frzs,I.base.tbls⟩,⟨_,hn',fun j y v' e1 e2 e3=>?_⟩,fun y c e=>?_,I.free,I.freeC,fun p hp=>?_,tracked ⟨oL,hoL,I.free⟩ hs,by simpa using I.len⟩ ⟨_,hs,.inl rfl⟩
  .exact(hs.2 b (AZ (BD (AE e) I.ok.above))).trans (I.base.keep b o e n hb hx)
  .obtain⟨sl,e1⟩:=I.base.slot b o e n hb hx;exact⟨sl,(hs.2 b (AZ (BD (AE e) I.ok.above))).trans e1⟩
  .obtain⟨o',e1⟩:=I.base.there b o e hx;exact⟨o',(hs.2 b (AZ (BD (AE e) I.ok.above))).trans e1⟩
  .by_cases hj:j=i
   .subst hj;rw[hi]at e1;cases e1;rw[List.getElem?_set_self hiσ]at e2;cases e2;exact⟨u,r,.inl ⟨hk,by simp⟩⟩
   .rw[List.getElem?_set_ne (Ne.symm hj)]at e2;obtain⟨u',r',q⟩:=hl j y v' e1 e2 e3;refine⟨u',r',?_⟩;rcases q with⟨k,e⟩ | ⟨k,c,e,z⟩
    .refine .inl ⟨k,?_⟩;have:y≠x:=fun e=>hj (z8 hN e1 (e▸hi));simp[this,e]
    .exact .inr ⟨k,c,e,z.sameBut hs (cne y c e)⟩
  .obtain⟨w',z⟩:=I.cell y c e;exact⟨w',z.sameBut hs (cne y c e)⟩
  .obtain⟨e,n,ne,nf,d⟩:=I.pin p hp;exact⟨(hs.2 p.1 ne).trans e,n,ne,nf,d⟩
 .have hfn:X.fn x=true:=by
   rcases hf with z | z
   .exact z
   .rw[z]at hk;cases hk
  obtain⟨c,hc⟩:=I.ok.has x (.inl hk);obtain⟨w',z⟩:=I.cell x c hc;refine wpAny_storeName_cell I.ok.kind hk hc z (fun h' hc' hs=>?_);obtain⟨oc,hoc,hocd⟩:=id z;refine h { s with heap:=h' } ⟨I.ok,I.os,I.bare,⟨fun b o e n hb hx=>?_,fun b o e n hb hx=>?_,I.base.free,fun b o e hx=>?_,I.base.tups,I.base.frzs,I.base.tbls⟩,⟨m,hn.sameBut hs (Ne.symm (cne x c hc)),fun j y v' e1 e2 e3=>?_⟩,fun y c' e=>?_,I.free,I.freeC,fun p hp=>?_,tracked ⟨oc,hoc,I.freeC x c hc⟩ hs,by simpa using I.len⟩ ⟨c,hs,.inr hc⟩
  .exact(hs.2 b (AZ (BD (AE e) (I.ok.cab x c hfn hc)))).trans (I.base.keep b o e n hb hx)
  .obtain⟨sl,e1⟩:=I.base.slot b o e n hb hx;exact⟨sl,(hs.2 b (AZ (BD (AE e) (I.ok.cab x c hfn hc)))).trans e1⟩
  .obtain⟨o',e1⟩:=I.base.there b o e hx;exact⟨o',(hs.2 b (AZ (BD (AE e) (I.ok.cab x c hfn hc)))).trans e1⟩
  .by_cases hj:j=i
   .subst hj;rw[hi]at e1;cases e1;rw[List.getElem?_set_self hiσ]at e2;cases e2;exact⟨u,r,.inr ⟨.inl hk,c,hc,hc'⟩⟩
   .rw[List.getElem?_set_ne (Ne.symm hj)]at e2;obtain⟨u',r',q⟩:=hl j y v' e1 e2 e3;refine⟨u',r',?_⟩;rcases q with q | ⟨k,c',e,z'⟩
    .exact .inl q
    .refine .inr ⟨k,c',e,z'.sameBut hs ?_⟩;rintro rfl;exact hj (z8 hN e1 (I.ok.inj _ _ _ e hc▸hi))
  .by_cases hcc:c'=c
   .subst hcc;exact⟨_,hc'⟩
   .obtain⟨w2,z2⟩:=I.cell y c' e;exact⟨w2,z2.sameBut hs hcc⟩
  .obtain⟨e,n,ne,nf,d⟩:=I.pin p hp;refine⟨(hs.2 p.1 ?_).trans e,n,ne,nf,d⟩;intro q;rw[q,hoc]at e;have q':oc=p.2:=BN e;exact d w' (by rw[<-q'];exact hocd)
theorem V2{M:Model}{A:Around}{E:Value->Shared->Prop}{i:Nat}{x:Str}{v:V}{u:Value}{Q:Unit->Shared->Prop}(I:Inv X pins σ H s)(hN:X.N.Nodup)(hi:X.N[i]?=some x)(hx:Loc X.env.scope x)(r:RelV v u)
  (h:∀s',Inv X pins (σ.set i (some v)) H s'->Q () s') (hf:X.fn x=true\/X.env.scope.names.lookup x=some .local:=by first | exact .inl rfl | exact .inr rfl | assumption):wpAny M A (storeName X.env x u) Q E s :=
 p5 I hN hi hx r (fun s' I' _=>h s' I') hf
theorem Inv.call'{s':Shared}{ch:List Addr}(I:Inv X pins σ H s)(ho:s'.os=s.os)(u:Un (frs X.stack) ch H H' s.heap s'.heap)(hok:HOk X.prog X.w H' s'.heap)(hg:AllBare s'.gens)
  (hch:∀b∈ch,(b∈X.ex\/X.s₀.heap.objs.size<=b)/\b≠X.env.locals/\(∀x c,X.env.cells.lookup x=some c->c≠b)/\∀p∈X.pn++pins,p.1≠b):Inv X pins σ H' s':=by
 obtain⟨h',g',d',t',o'⟩:=s';have e:o'=s.os:=ho;subst e;exact I.call (g':=g') (t':=t') (d':=d') u hok hg hch
end
abbrev XK:=Value->Option Addr->Hp->Prop
abbrev St:=List (Option V)
abbrev VK:=V->Hp->Prop
abbrev TE:=St->Hp->VK->Prop
abbrev TT:=St->Hp->(Bool->Hp->Prop)->Prop
abbrev TA:=St->Hp->(List V->Hp->Prop)->Prop
structure Ends where
 nx:St->Hp->Prop
 rt:VK
 bk:St->Hp->Prop:=fun _ _=>False
 ct:St->Hp->Prop:=fun _ _=>False
abbrev TS:=Ends->St->Hp->Prop
def EP(X:Cx)(pins:List (Addr×Obj))(σ:St)(Q:VK)(u:Value)(s':Shared):Prop:=∃v H',Inv X pins σ H' s'/\RelV v u/\Q v H'
def TP(X:Cx)(pins:List (Addr×Obj))(σ:St)(Q:Bool->Hp->Prop)(b:Bool)(s':Shared):Prop:=∃H',Inv X pins σ H' s'/\Q b H'
def AP(X:Cx)(pins:List (Addr×Obj))(σ:St)(Q:List V->Hp->Prop)(us:List Value)(s':Shared):Prop:=∃vs H',Inv X pins σ H' s'/\Vals vs us/\Q vs H'
def SP(X:Cx)(pins:List (Addr×Obj))(D:Ends)(f:Flow)(s':Shared):Prop :=
 match f with
 | .next=>∃σ' H',Inv X pins σ' H' s'/\D.nx σ' H'
 | .brk=>∃σ' H',Inv X pins σ' H' s'/\D.bk σ' H'
 | .cont=>∃σ' H',Inv X pins σ' H' s'/\D.ct σ' H'
 | .ret u=>∃v σ' H',Inv X pins σ' H' s'/\RelV v u/\D.rt v H'
def PE(X:Cx)(e:Expr)(t:TE):Prop :=
 ∀(pins:List (Addr×Obj)) (s:Shared) (σ:St) (H:Hp) (Q:VK),Inv X pins σ H s->t σ H Q->wpAny (model X.prog X.w) X.A (eval e X.env) (EP X pins σ Q) X.xe s
def PT(X:Cx)(e:Expr)(t:TT):Prop :=
 ∀(pins:List (Addr×Obj)) (s:Shared) (σ:St) (H:Hp) (Q:Bool->Hp->Prop),Inv X pins σ H s->t σ H Q->wpAny (model X.prog X.w) X.A (isTrue e X.env (eval e X.env)) (TP X pins σ Q) X.xe s
def PW(X:Cx)(e:Expr)(t:TT):Prop :=
 ∀(whole:Sem Value) (pins:List (Addr×Obj)) (s:Shared) (σ:St) (H:Hp) (Q:Bool->Hp->Prop),Inv X pins σ H s->t σ H Q->wpAny (model X.prog X.w) X.A (isTrue e X.env whole) (TP X pins σ Q) X.xe s
theorem PW.pt{X:Cx}{e:Expr}{t:TT}(h:PW X e t):PT X e t:=h _
def PA(X:Cx)(es:List Expr)(t:TA):Prop :=
 ∀(pos:Pos) (pins:List (Addr×Obj)) (s:Shared) (σ:St) (H:Hp) (Q:List V->Hp->Prop),Inv X pins σ H s->t σ H Q->wpAny (model X.prog X.w) X.A (spliced (backTo pos (starEach es X.env))) (AP X pins σ Q) X.xe s
def PS(X:Cx)(st:Stmt)(t:TS):Prop :=
 ∀(pins:List (Addr×Obj)) (s:Shared) (σ:St) (H:Hp) (D:Ends),Inv X pins σ H s->t D σ H->wpAny (model X.prog X.w) X.A (exec st X.env) (SP X pins D) X.xe s
def PSs(X:Cx)(st:List Stmt)(t:TS):Prop :=
 ∀(pins:List (Addr×Obj)) (s:Shared) (σ:St) (H:Hp) (D:Ends),Inv X pins σ H s->t D σ H->wpAny (model X.prog X.w) X.A (execs st X.env) (SP X pins D) X.xe s
theorem thn{α:Type}{t:Sem α}{Q Q':α->Shared->Prop}{M:Model}{A:Around}{E:Value->Shared->Prop}{s:Shared}(h:wpAny M A t Q E s)(hQ:∀a s,Q a s->Q' a s):wpAny M A t Q' E s:=BS h hQ fun _ _ x=>x
section
variable{X:Cx}
def Ic(i:Nat):TE:=fun σ H Q=>∃v,σ[i]?=some (some v)/\Q v H
def tC(v:V):TE:=fun _ H Q=>Q v H
theorem Gg{i:Nat}{x:Str}{pos:Pos}(hN:X.N[i]?=some x)(hv:Vis X.env.scope x)(hd:(x ==("__debug__":Str))=false:=by decide)(hcd:(x ==("__classdict__":Str))=false:=by decide):PE X (.Name x pos) (Ic i):=by
 intro pins s σ H Q I h;obtain⟨v,e,h⟩:=h;obtain⟨m,hn,hl⟩:=I.loc;obtain⟨u,r,l⟩:=hl i x v hN e hv;have fin:EP X pins σ Q u s:=⟨v,H,I,r,h⟩;rcases l with⟨hk,hm⟩ | ⟨hk,c,hc,hcell⟩
 .exact wpAny_Name (wpAny_loadName_local I.ok.kind hk hn hm fin) hd
 .rcases hk with hk | hk
  .exact wpAny_Name (wpAny_loadName_cell I.ok.kind hk hc hcell fin) hd
  .exact wpAny_Name (wpAny_loadName_free I.ok.kind hk hc hcell fin hcd) hd
theorem B1{i j pos}:PE X (.Constant (.int i) j pos) (tC (.int i)):=fun _ _ _ H _ I h=>wpAny_Constant_int ⟨.int i,H,I.tok _,⟨_,rfl⟩,h⟩
theorem x4{b j pos}:PE X (.Constant (.bool b) j pos) (tC (.bl b)):=fun _ _ _ H _ I h=>Constant_bool ⟨.bl b,H,I,rfl,h⟩
theorem C5{x j pos}:PE X (.Constant (.str x) j pos) (tC (.str x)):=fun _ _ _ H _ I h=>Calls.Constant_str ⟨.str x,H,I.tok _,⟨_,rfl⟩,h⟩
def Gl(X:Cx)(x:Str):Prop:=X.env.kindOf x=some .globalImplicit
theorem i5{E:Value->Shared->Prop}{pins:List (Addr×Obj)}{s:Shared}{σ:St}{H:Hp}{x:Str}{u:Value}{pos:Pos}{Q:Value->Shared->Prop}(I:Inv X pins σ H s)(hg:Gl X x)(hm:X.mg x=some u)(h:Q u s)
  (hd:(x ==("__debug__":Str))=false:=by decide):wpAny (model X.prog X.w) X.A (eval (.Name x pos) X.env) Q E s :=
 Calls.Name_function_global I.ok.kind hg (Calls.loadGlobal_global (by rw[I.ok.glob];exact I.mod.glob.keeps I.bk) hm h) hd
theorem o9{E:Value->Shared->Prop}{pins:List (Addr×Obj)}{s:Shared}{σ:St}{H:Hp}{x:Str}{u:Value}{pos:Pos}{Q:Value->Shared->Prop}(I:Inv X pins σ H s)(hg:Gl X x)(hm:X.mg x=none)(hv:bootBuiltins x=some u)(h:Q u s)
  (hn:x≠ "__name__":=by decide) (hd:(x ==("__debug__":Str))=false:=by decide):wpAny (model X.prog X.w) X.A (eval (.Name x pos) X.env) Q E s:=by
 obtain⟨mb,h1,h2⟩:=I.mod.blt;exact Calls.Name_function_global I.ok.kind hg (Calls.loadGlobal_builtin (by rw[I.ok.glob];exact I.mod.glob.keeps I.bk) hm (by rw[I.ok.blt];exact h1.keeps I.bk) ((h2 x hn).trans hv) h) hd
theorem z0{x:Str}{v:V}{u:Value}{pos:Pos}(hg:Gl X x)(hm:X.mg x=some u)(r:RelV v u)(hd:(x ==("__debug__":Str))=false:=by decide):PE X (.Name x pos) (tC v) :=
 fun _ _ _ H _ I h=>i5 I hg hm ⟨v,H,I,r,h⟩ hd
theorem Gv{x:Str}{v:V}{u:Value}{pos:Pos}(hg:Gl X x)(hm:X.mg x=none)(hv:bootBuiltins x=some u)(r:RelV v u)(hn:x≠ "__name__":=by decide)(hd:(x ==("__debug__":Str))=false:=by decide):PE X (.Name x pos) (tC v) :=
 fun _ _ _ H _ I h=>o9 I hg hm hv ⟨v,H,I,r,h⟩ hn hd
variable{a b:Expr}{ta tb:TE}{pos:Pos}
def tB(t:TE):TT:=fun σ H Q=>t σ H fun x H1=>∃c,x = .bl c/\Q c H1
theorem Q9{e:Expr}{t:TE}(h:PE X e t)(he:∀whole,isTrue e X.env whole =(do let v <-whole;standAt e.pos;holding [v] (truthy v)):=by intro _;rfl):PT X e (tB t):=by
 intro pins s σ H Q I hw;refine isTrue_plain (thn (h pins s σ H _ I hw) fun v s1 ⟨x,H1,I1,r1,q1⟩=>?_) (he _);obtain⟨d,rfl,q⟩:=q1;cases r1;exact BQ ⟨H1,I1,q⟩
variable{tA tB':TT}{rest:List Expr}
def Mm(t u:TT):TT:=fun σ H Q=>t σ H fun c H1=>if c=true then u σ H1 Q else Q false H1
def tOr(t u:TT):TT:=fun σ H Q=>t σ H fun c H1=>if c=true then Q true H1 else u σ H1 Q
def Mj(t:TT):TT:=fun σ H Q=>t σ H fun c H1=>Q (!c) H1
theorem z4(ha:PT X a tA):PW X (.BoolOp .And [a] pos) tA:=by
 intro wh pins s σ H Q I h;refine isTrue_and (thn (ha pins s σ H Q I h) fun c s1 e=>?_);cases c with
 | true=>exact isTrue_and_nil e
 | false=>exact e
theorem j7(ha:PT X a tA):PW X (.BoolOp .Or [a] pos) tA:=by
 intro wh pins s σ H Q I h;refine isTrue_or (thn (ha pins s σ H Q I h) fun c s1 e=>?_);cases c with
 | false=>exact isTrue_or_nil e
 | true=>exact e
theorem Cj(ha:PT X a tA)(hb:PW X (.BoolOp .And (b::rest) pos) tB'):PW X (.BoolOp .And (a::b::rest) pos) (Mm tA tB'):=by
 intro wh pins s σ H Q I h;refine isTrue_and (thn (ha pins s σ H _ I h) fun c s1 ⟨H1,I1,q1⟩=>?_);cases c with
 | true=>exact hb wh pins s1 σ H1 Q I1 q1
 | false=>exact⟨H1,I1,q1⟩
theorem Az(ha:PT X a tA)(hb:PW X (.BoolOp .Or (b::rest) pos) tB'):PW X (.BoolOp .Or (a::b::rest) pos) (tOr tA tB'):=by
 intro wh pins s σ H Q I h;refine isTrue_or (thn (ha pins s σ H _ I h) fun c s1 ⟨H1,I1,q1⟩=>?_);cases c with
 | true=>exact⟨H1,I1,q1⟩
 | false=>exact hb wh pins s1 σ H1 Q I1 q1
theorem R1(ha:PT X a tA):PT X (.UnaryOp .Not a pos) (Mj tA):=by
 intro pins s σ H Q I h;exact isTrue_not (ha pins s σ H (fun c H1=>Q (!c) H1) I h)
def Ld(ta tb:TE):TE:=fun σ H Q=>ta σ H fun x H1=>∃c,x = .bl c/\if c=true then tb σ H1 Q else Q (.bl false) H1
def Mr(ta tb:TE):TE:=fun σ H Q=>ta σ H fun x H1=>∃c,x = .bl c/\if c=true then Q (.bl true) H1 else tb σ H1 Q
def Kv(ta:TE):TE:=fun σ H Q=>ta σ H fun x H1=>∃c,x = .bl c/\Q (.bl (!c)) H1
theorem P0{op}{t:TE}(h:PE X a t):PE X (.BoolOp op [a] pos) t:=fun pins s σ H Q I hw=>BoolOp_one (h pins s σ H Q I hw)
theorem K5(ha:PE X a ta)(hb:PE X (.BoolOp .And (b::rest) pos) tb):PE X (.BoolOp .And (a::b::rest) pos) (Ld ta tb):=by
 intro pins s σ H Q I h;refine BoolOp_and (thn (ha pins s σ H _ I h) fun v s1 ⟨x,H1,I1,r1,q1⟩=>?_);obtain⟨c,rfl,q1⟩:=q1;cases r1;refine BQ ?_;cases c with
 | true=>exact hb pins s1 σ H1 Q I1 q1
 | false=>exact⟨.bl false,H1,I1,rfl,q1⟩
theorem Kq(ha:PE X a ta)(hb:PE X (.BoolOp .Or (b::rest) pos) tb):PE X (.BoolOp .Or (a::b::rest) pos) (Mr ta tb):=by
 intro pins s σ H Q I h;refine BoolOp_or (thn (ha pins s σ H _ I h) fun v s1 ⟨x,H1,I1,r1,q1⟩=>?_);obtain⟨c,rfl,q1⟩:=q1;cases r1;refine BQ ?_;cases c with
 | false=>exact hb pins s1 σ H1 Q I1 q1
 | true=>exact⟨.bl true,H1,I1,rfl,q1⟩
theorem Iv(ha:PE X a ta):PE X (.UnaryOp .Not a pos) (Kv ta):=by
 intro pins s σ H Q I h;refine UnaryOp_ (thn (ha pins s σ H _ I h) fun v s1 ⟨x,H1,I1,r1,q1⟩=>?_);obtain⟨c,rfl,q1⟩:=q1;cases r1;exact not_of (BQ ⟨.bl (!c),H1,I1,rfl,q1⟩)
def tIf(t:TT)(ta tb:TE):TE:=fun σ H Q=>t σ H fun c H1=>if c=true then ta σ H1 Q else tb σ H1 Q
theorem En{c:Expr}(hc:PT X c tA)(ha:PE X a ta)(hb:PE X b tb):PE X (.IfExp c a b pos) (tIf tA ta tb):=by
 intro pins s σ H Q I h;refine wpAny_IfExp (thn (hc pins s σ H _ I h) fun d s1 ⟨H1,I1,q1⟩=>?_);cases d with
 | true=>exact ha pins s1 σ H1 Q I1 q1
 | false=>exact hb pins s1 σ H1 Q I1 q1
end
def SqL(K:PySem.W.Frag)(H:Hp)(a:Addr)(xs:List V):Prop :=
 Rd H a (.lst xs) \/
  ∃(o:Obj) (its:Array Value) (n:Nat),K.lookup a=some o/\o.cls = .type "list"/\o.dict=none/\o.data = .seq its n/\its.size<=sizeLine/\Vals xs its.toList
def SqT(K:PySem.W.Frag)(H:Hp)(a:Addr)(xs:List V):Prop :=
 Rd H a (.tup xs) \/
  ∃(o:Obj) (its:Array Value) (n:Nat),K.lookup a=some o/\o.cls = .type "tuple"/\o.data = .seq its n/\its.size<=sizeLine/\Vals xs its.toList
def Ms:Value->Option V
 | .none=>some .non
 | .bool b=>some (.bl b)
 | .int i _=>some (.int i)
 | .str x _=>some (.str x)
 | .bytes b _=>some (.byt b)
 | .float b _=>some (.flt b)
 | .ref a=>some (.ref a)
 | .type n=>some (.ty n)
 | _=>none
theorem RelV.abs{x:V}{u:Value}(r:RelV x u):Ms u=some x:=by
 cases x with
 | non=>cases r;rfl
 | bl _=>cases r;rfl
 | int _=>obtain⟨t,rfl⟩:=r;rfl
 | str _=>obtain⟨t,rfl⟩:=r;rfl
 | byt _=>obtain⟨t,rfl⟩:=r;rfl
 | flt _=>obtain⟨t,rfl⟩:=r;rfl
 | ref _=>cases r;rfl
 | ty _=>cases r;rfl
theorem RelV.inj{x y:V}{u:Value}(r:RelV x u)(q:RelV y u):x=y:=BN (r.abs.symm.trans q.abs)
theorem Vals.inj:∀{xs ys:List V} {us:List Value},Vals xs us->Vals ys us->xs=ys
 | _,_,_,.nil,.nil=>rfl
 | _,_,_,.cons r t,.cons r' t'=>by rw[r.inj r',Vals.inj t t']
section
variable{X:Cx}{pins:List (Addr×Obj)}{σ:St}{H:Hp}{s:Shared}{a:Addr}{xs ys:List V}
theorem SqL.of{K:PySem.W.Frag}(h:H a=some (.lst xs)):SqL K H a xs:=.inl (.inl h)
theorem SqT.of{K:PySem.W.Frag}(h:H a=some (.tup xs)):SqT K H a xs:=.inl (.inl h)
theorem Inv.list(I:Inv X pins σ H s)(h:SqL X.K H a xs):∃its:List Value,Vals xs its/\PlainL s.heap a its.toArray/\xs.length<=sizeLine:=by
 rcases h with h | ⟨o,its,n,hk,hc,hd,hs,hz,r⟩
 .obtain⟨z,its,n,r,e⟩:=h.ok I.hok;exact⟨its,r,⟨_,n,e,rfl,rfl,rfl⟩,z⟩
 .refine⟨its.toList,r,⟨o,n,I.kIn a o hk,hc,hd,by simpa using hs⟩,?_⟩;have e:=r.length;simp only[BP]at e;omega
theorem Inv.tuple(I:Inv X pins σ H s)(h:SqT X.K H a xs):∃its:List Value,Vals xs its/\IsTup s.heap a its.toArray/\xs.length<=sizeLine:=by
 rcases h with h | ⟨o,its,n,hk,hc,hs,hz,r⟩
 .obtain⟨z,its,r,p⟩:=h.ok I.hok;exact⟨its,r,p,z⟩
 .refine⟨its.toList,r,⟨o,I.kIn a o hk,hc,n,by simpa using hs⟩,?_⟩;have e:=r.length;simp only[BP]at e;omega
theorem Inv.list_inj(I:Inv X pins σ H s)(h:SqL X.K H a xs)(h':SqL X.K H a ys):xs=ys:=by
 obtain⟨its,r,⟨o,n,e,_,_,d⟩,_⟩:=I.list h;obtain⟨its',r',⟨o',n',e',_,_,d'⟩,_⟩:=I.list h';rw[e]at e';cases e';rw[d]at d';injection d' with d1 _;have:its=its':=by simpa using congrArg Array.toList d1
 subst this;exact r.inj r'
end
abbrev Cx.wish(X:Cx)(E:Value->Shared->Prop):Cx:={ X with xe:=E }
abbrev Cx.nox(X:Cx):Cx:=X.wish fun _ _=>False
theorem Cx.Ok.wish{X:Cx}(ok:X.Ok)(E:Value->Shared->Prop):(X.wish E).Ok :=
 ⟨ok.mod,ok.kind,ok.glob,ok.blt,ok.above,ok.inj,ok.has,ok.cab,ok.hd,ok.frames,ok.stk,ok.exf,ok.bs,ok.bsz,ok.noex,ok.exfs,ok.funs,ok.frf⟩
theorem Cx.Ok.unwish{X:Cx}{E:Value->Shared->Prop}(ok:(X.wish E).Ok):X.Ok :=
 ⟨ok.mod,ok.kind,ok.glob,ok.blt,ok.above,ok.inj,ok.has,ok.cab,ok.hd,ok.frames,ok.stk,ok.exf,ok.bs,ok.bsz,ok.noex,ok.exfs,ok.funs,ok.frf⟩
section
variable{X:Cx}{pins:List (Addr×Obj)}{σ:St}{H:Hp}{s:Shared}{E:Value->Shared->Prop}
theorem Inv.wish(I:Inv X pins σ H s)(E:Value->Shared->Prop):Inv (X.wish E) pins σ H s:=⟨I.ok.wish E,I.os,I.bare,I.base,I.loc,I.cell,I.free,I.freeC,I.pin,I.hok,I.len⟩
theorem Inv.unwish(I:Inv (X.wish E) pins σ H s):Inv X pins σ H s:=⟨I.ok.unwish,I.os,I.bare,I.base,I.loc,I.cell,I.free,I.freeC,I.pin,I.hok,I.len⟩
theorem SP.unwish{D:Ends}{f:Flow}{s':Shared}(h:SP (X.wish E) pins D f s'):SP X pins D f s':=by
 cases f with
 | next=>obtain⟨σ',H',I,q⟩:=h;exact⟨σ',H',I.unwish,q⟩
 | brk=>obtain⟨σ',H',I,q⟩:=h;exact⟨σ',H',I.unwish,q⟩
 | cont=>obtain⟨σ',H',I,q⟩:=h;exact⟨σ',H',I.unwish,q⟩
 | ret u=>obtain⟨v,σ',H',I,r,q⟩:=h;exact⟨v,σ',H',I.unwish,r,q⟩
theorem PSs.nox{st:List Stmt}{t:TS}(h:PSs X.nox st t):PSs X st t:=fun pins s σ H D I hw =>
 BS (h pins s σ H D (I.wish _) hw) (fun _ _ q=>q.unwish) fun _ _ z=>False.elim z
end
section
variable{X:Cx}{st:Stmt}{rest:List Stmt}{t u:TS}{e:Expr}{te:TE}{pos:Pos}
def Li:TS:=fun D σ H=>D.nx σ H
def Kk(t u:TS):TS:=fun D σ H=>t { D with nx:=u D } σ H
theorem E5:PSs X [] Li:=fun _ _ σ H _ I h=>wpAny_execs_nil ⟨σ,H,I,h⟩
theorem B2(h1:PS X st t)(h2:PSs X rest u):PSs X (st::rest) (Kk t u):=by
 intro pins s σ H D I h;refine wpAny_execs_cons (thn (h1 pins s σ H { D with nx:=u D } I h) fun f s1 q=>?_);cases f with
 | next =>
  obtain⟨σ',H',I',q⟩:=q;exact h2 pins s1 σ' H' D I' q
 | ret v=>exact q
 | brk=>exact q
 | cont=>exact q
theorem B7(h1:PS X st t):PSs X [st] t:=by
 intro pins s σ H D I h;refine wpAny_execs_cons (thn (h1 pins s σ H D I h) fun f s1 q=>?_);cases f with
 | next=>exact wpAny_execs_nil q
 | ret v=>exact q
 | brk=>exact q
 | cont=>exact q
theorem Inv.quiet{pins:List (Addr×Obj)}{σ:St}{H:Hp}{s:Shared}(I:Inv X pins σ H s):interactive X.env=false:=by simp[interactive,I.ok.kind]
def Kn(te:TE):TS:=fun D σ H=>te σ H fun _ H1=>D.nx σ H1
theorem F8(he:PE X e te)(hs:swapsWith e none pos.line X.env=pure false:=by rfl):PS X (.Expr e pos) (Kn te):=by
 intro pins s σ H D I h;exact wpAny_Expr_any (thn (he pins s σ H _ I h) fun v s1 ⟨x,H1,I1,r1,q1⟩=>⟨σ,H1,I1,q1⟩) I.quiet hs
def Mn(te:TE):TS:=fun D σ H=>te σ H D.rt
theorem C4(he:PE X e te):PS X (.Return (some e) pos) (Mn te):=by
 intro pins s σ H D I h;exact wpAny_Return_some (thn (he pins s σ H _ I h) fun v s1 ⟨x,H1,I1,r1,q1⟩=>⟨x,σ,H1,I1,r1,q1⟩)
def Me(c:TT)(t u:TS):TS:=fun D σ H=>c σ H fun b H1=>if b=true then t D σ H1 else u D σ H1
theorem O8{c:Expr}{a b:List Stmt}{tc:TT}(hc:PT X c tc)(ha:PSs X a t)(hb:PSs X b u):PS X (.If c a b pos) (Me tc t u):=by
 intro pins s σ H D I h;refine wpAny_If (thn (hc pins s σ H _ I h) fun d s1 ⟨H1,I1,q1⟩=>?_);cases d with
 | true=>exact ha pins s1 σ H1 D I1 q1
 | false=>exact hb pins s1 σ H1 D I1 q1
def Iy:TS:=fun _ _ _=>False
theorem Fj:PS X st Iy:=fun _ _ _ _ _ _ h=>h.elim
end
abbrev TG:=V->St->Hp->(St->Hp->Prop)->Prop
abbrev TGs:=List V->St->Hp->(St->Hp->Prop)->Prop
def PG(X:Cx)(target:Expr)(t:TG):Prop :=
 ∀(pins:List (Addr×Obj)) (s:Shared) (σ:St) (H:Hp) (v:V) (u:Value) (Q:St->Hp->Prop),Inv X pins σ H s->RelV v u->t v σ H Q ->
  wpAny (model X.prog X.w) X.A (assign target X.env u) (fun _ s'=>∃σ' H',Inv X pins σ' H' s'/\Q σ' H') X.xe s
def PGs(X:Cx)(ts:List Expr)(t:TGs):Prop :=
 ∀(pins:List (Addr×Obj)) (s:Shared) (σ:St) (H:Hp) (vs:List V) (us:List Value) (Q:St->Hp->Prop),Inv X pins σ H s->Vals vs us->t vs σ H Q ->
  wpAny (model X.prog X.w) X.A (assignInOrder ((assignEach ts X.env).map (·.2)) us) (fun _ s'=>∃σ' H',Inv X pins σ' H' s'/\Q σ' H') X.xe s
abbrev TSet:=V->V->V->Hp->(Hp->Prop)->Prop
def Lo(X:Cx)(t:TSet):Prop :=
 ∀(pins:List (Addr×Obj)) (s:Shared) (σ:St) (H:Hp) (o i v:V) (ov iv u:Value) (Q:Hp->Prop),Inv X pins σ H s->RelV o ov->RelV i iv->RelV v u->t o i v H Q ->
  wpAny (model X.prog X.w) X.A (setItem ov iv u) (fun _ s'=>∃H',Inv X pins σ H' s'/\Q H') X.xe s
section
variable{X:Cx}{pos:Pos}
def i9(i:Nat):TG:=fun v σ H Q=>Q (σ.set i (some v)) H
theorem J5{i:Nat}{x:Str}(hN:X.N.Nodup)(hi:X.N[i]?=some x)(hx:Loc X.env.scope x)(hf:X.fn x=true\/X.env.scope.names.lookup x=some .local:=by first | exact .inl rfl | exact .inr rfl | assumption):PG X (.Name x pos) (i9 i):=by
 intro pins s σ H v u Q I r h;exact wpAny_assign_Name (V2 I hN hi hx r (fun s' I'=>⟨_,H,I',h⟩) hf)
def Mg:TGs:=fun vs σ H Q=>vs = []/\Q σ H
def Lj(t:TG)(u:TGs):TGs:=fun vs σ H Q=>∃v r,vs=v::r/\t v σ H fun σ' H'=>u r σ' H' Q
theorem J9:PGs X [] Mg:=by
 intro pins s σ H vs us Q I r h;obtain⟨e,h⟩:=h;subst e;cases r;exact assignInOrder_nil ⟨σ,H,I,h⟩
theorem C2{e:Expr}{es:List Expr}{t:TG}{u:TGs}(h1:PG X e t)(h2:PGs X es u)
  (hs:(assignEach (e::es) X.env).map (·.2)=assign e X.env ::(assignEach es X.env).map (·.2):=by rfl):PGs X (e::es) (Lj t u):=by
 intro pins s σ H vs us Q I r h;obtain⟨v,vr,e1,h⟩:=h;subst e1;cases r with
 | cons r rr =>
  rw[hs];refine assignInOrder_cons (thn (h1 pins s σ H _ _ _ I r h) fun _ s1 ⟨σ1,H1,I1,q1⟩=>?_);exact h2 pins s1 σ1 H1 _ _ Q I1 rr q1
def Ls(K:PySem.W.Frag)(n:Nat)(t:TGs):TG:=fun v σ H Q=>∃a xs,v = .ref a/\SqT K H a xs/\xs.length=n/\t xs σ H Q
theorem Ja{es:List Expr}{k:Nat}{t:TGs}{n:Nat}(hc:X.calm=true)(h:PGs X es t)
  (hn:(assignEach es X.env).length=n:=by rfl) (hst:(assignEach es X.env).findIdx? (·.1)=none:=by rfl):PG X (.Tuple es k pos) (Ls X.K n t):=by
 intro pins s σ H v u Q I r hw;obtain⟨a,xs,e1,hq,hl,hw⟩:=hw;subst e1;cases r;obtain⟨its,rv,ht,hz⟩:=I.tuple hq;refine assign_Tuple_tuple (I.ok.hd hc) ht (by simp[hn,<-hl,rv.length]) hst fun h' hx=>?_;have I1:Inv X pins σ H { s with heap:=h' }:=I.kept (t':=s.toks) fun b o e=>hx b o (AZ (AE e)) e;exact h pins _ σ H xs _ Q I1 (by simpa using rv) hw
def Mt(to ti:TE)(t:TSet):TG:=fun v σ H Q=>to σ H fun o H1=>ti σ H1 fun i H2=>t o i v H2 fun H3=>Q σ H3
theorem Cf{o i:Expr}{to ti:TE}{t:TSet}(ho:PE X o to)(hi:PE X i ti)(hs:Lo X t)
  (ha:∀v,assign (.Subscript o i pos) X.env v =(do
   let ov <-holding [v] (eval o X.env)
   let iv <-holding [v,ov] (eval i X.env)
   standAt pos
   holding [v,ov,iv] (setItem ov iv v)
   release [v,ov,iv] []):=by intro _;rfl):PG X (.Subscript o i pos) (Mt to ti t):=by
 intro pins s σ H v u Q I r h;rw[ha];refine AH (CH (thn (ho pins s σ H _ I h) fun ov s1 ⟨x,H1,I1,r1,q1⟩=>?_));refine AH (CH (thn (hi pins s1 σ H1 _ I1 q1) fun iv s2 ⟨y,H2,I2,r2,q2⟩=>?_));refine AH (CP (AH (CH (thn (hs pins s2 σ H2 x y v ov iv u _ I2 r1 r2 r q2) fun _ s3 ⟨H3,I3,q3⟩=>?_))));exact wpAny_release ⟨σ,H3,I3,q3⟩
def Kp(te:TE)(g:TG):TS:=fun D σ H=>te σ H fun x H1=>g x σ H1 D.nx
theorem Dr{tg e:Expr}{te:TE}{g:TG}(he:PE X e te)(hg:PG X tg g)(hs:swapsWithSole [tg] e pos.line X.env=pure false:=by rfl)(hw:swappedStores [tg] e X.env=pure none:=by rfl)
  (h1:(assignEach [tg] X.env).map (·.2) = [assign tg X.env]:=by rfl):PS X (.Assign [tg] e pos) (Kp te g):=by
 intro pins s σ H D I h;refine wpAny_Assign_stores (thn (he pins s σ H _ I h) fun v s1 ⟨x,H1,I1,r1,q1⟩=>?_) hs hw;rw[h1];exact thn (hg pins s1 σ H1 x v _ I1 r1 q1) fun _ s2 q=>q
theorem C7{i:Nat}{x:Str}{e:Expr}{te:TE}{pos':Pos}(hN:X.N.Nodup)(hi:X.N[i]?=some x)(hx:Loc X.env.scope x)(he:PE X e te)(hs:swapsWith e (some (.Name x pos')) pos.line X.env=pure false:=by rfl)(hf:X.fn x=true\/X.env.scope.names.lookup x=some .local:=by first | exact .inl rfl | exact .inr rfl | assumption) :
  PS X (.Assign [.Name x pos'] e pos) (Kp te (i9 i)):=by
 intro pins s σ H D I h;refine wpAny_Assign_Name (thn (he pins s σ H _ I h) fun v s1 ⟨y,H1,I1,r1,q1⟩=>?_) hs;exact V2 I1 hN hi hx r1 (fun s2 I2=>⟨_,H1,I2,q1⟩) hf
def Mp(i j:Nat)(ta:TA):TS:=fun D σ H=>ta σ H fun vs H1=>∃v w,vs = [v,w]/\D.nx ((σ.set i (some v)).set j (some w)) H1
theorem Ji{i j:Nat}{x y:Str}{a b:Expr}{ta:TA}{px py pt:Pos}{kt k2 pt2}(hc:X.calm=true)(hN:X.N.Nodup)(hi:X.N[i]?=some x)(hj:X.N[j]?=some y)(hij:i≠j)
  (hx:X.env.scope.names.lookup x=some .local) (hy:X.env.scope.names.lookup y=some .local) (ha:PA X [a,b] ta)
  (hw:swappedStores [.Tuple [.Name x px,.Name y py] kt pt] (.Tuple [a,b] k2 pt2) X.env=pure (some [x,y]))
  (hs:swapsWithSole [.Tuple [.Name x px,.Name y py] kt pt] (.Tuple [a,b] k2 pt2) pos.line X.env=pure false:=by rfl) :
  PS X (.Assign [.Tuple [.Name x px,.Name y py] kt pt] (.Tuple [a,b] k2 pt2) pos) (Mp i j ta):=by
 intro pins s σ H D I h;rw[exec_Assign_arm];refine AH (CP ?_);rw[hs];refine AH (AS ?_);rw[BH (by decide)];refine AH (Tuple_ (thn (ha _ pins s σ H _ I h) fun us s1 ⟨vs,H1,I1,r1,q1⟩=>?_));obtain⟨v,w,e1,q1⟩:=q1;subst e1;obtain⟨u1,u2,rfl,rv,rw'⟩:∃u1 u2,us = [u1,u2]/\RelV v u1/\RelV w u2:=by
  cases r1 with
  | cons p q =>
   cases q with
   | cons p' q' =>
    cases q';exact⟨_,_,rfl,p,p'⟩
 refine wpAny_newObj_type ?_ (by show 2<=sizeLine;decide);have I2:Inv X pins σ H1 { s1 with heap:=s1.heap.push { cls:=.type "tuple",data:=.seq [u1,u2].toArray } }:=I1.kept (t':=s1.toks) fun b o e=>AC _ e;rw[hw];refine AH (AS ?_);show wpAny (model X.prog X.w) X.A (do rule "assign.swapped-stores";let items <-unpackItems (.ref s1.heap.objs.size) 2 none;assignInOrder [fun v=>bindName X.env y v,fun v=>bindName X.env x v] items.reverse;pure Flow.next) _ _ _;refine AH (wpAny_rule (AH (unpackItems_tuple (items:=#[u1,u2]) (I.ok.hd hc) (IsTup.new s1.heap _) fun h' hx'=>?_)));have I3:=I2.kept (h':=h') (t':=s1.toks) fun b o e=>hx' b o (AZ (AE e)) e;show wpAny _ _ (assignInOrder [fun v=>bindName X.env y v,fun v=>bindName X.env x v] [u2,u1] >>= fun _=>pure Flow.next) _ _ _;refine AH (assignInOrder_cons (wpAny_bindName (V2 I3 hN hj (.inl hy) rw' (fun s2 I4=>?_) (.inr hy))));refine assignInOrder_cons (wpAny_bindName (V2 I4 hN hi (.inl hx) rv (fun s3 I5=>assignInOrder_nil (AS ?_)) (.inr hx)));rw[List.set_comm _ _ (Ne.symm hij)]at I5;exact⟨_,H1,I5,q1⟩
end
structure It where
 go:Nat->Hp->Prop
 yld:Nat->Hp->V->Hp->Prop
 stop:Nat->Hp->Prop
def o6(X:Cx)(pins:List (Addr×Obj))(H:Hp)(b:Addr):Prop :=
 H b=none/\b≠X.env.locals/\b∉X.fs/\(b∈X.ex\/X.s₀.heap.objs.size<=b)/\(∀x c,X.env.cells.lookup x=some c->c≠b)/\∀p∈X.pn++pins,p.1≠b
theorem Inv.fpOk{X:Cx}{pins:List (Addr×Obj)}{σ:St}{H H':Hp}{s:Shared}{b:Addr}(I:Inv X pins σ H s)(hb:s.heap.objs.size<=b)(hn:H' b=none):o6 X pins H' b:=by
 refine⟨hn,Nat.ne_of_gt (BD I.lt hb),I.nofs hb,.inr (BK I.sz hb),fun x c e z=>?_,fun p hp z=>?_⟩
 .obtain⟨v,q⟩:=I.cell x c e;exact absurd (BD q.lt (by rw[z];exact hb)) (CG _)
 .exact absurd (BD (AE (I.pin p hp).1) (by rw[z];exact hb)) (CG _)
structure Turn(P:Program)(w:World)(K:PySem.W.Frag)(tg:Expr)(J:It)(fp:List Addr)(it:Addr)(tn:Nat->Heap->Prop):Prop where
 mem:it∈fp
 obj:∀i h,tn i h->∀b∈fp,∃o,h.get? b=some o/\∀v,o.data≠ .cell v
 keep:∀i h h',tn i h->(∀b∈fp,∀o,h.get? b=some o->h'.get? b=some o)->tn i h'
 item:∀(X:Cx),X.prog=P->X.w=w->X.K=K->X.calm=true->∀(i:Nat) (pins:List (Addr×Obj)) (s:Shared) (σ:St) (H:Hp) (E:Value->Shared->Prop),Inv X pins σ H s->(∀b∈fp,o6 X pins H b)->tn i s.heap->J.go i H ->
  wpAny (model P w) X.A (pyNext (.ref it)) (fun r s1=>∃u,r=some u /\
   wpAny (model P w) X.A (letOwnedTupleGo tg (.ref it) u) (fun _ s2=>∃x H',Inv X pins σ H' s2/\RelV x u/\J.yld i H x H'/\tn (i+1) s2.heap/\∀b∈fp,H' b=none) E s1) E s
 done:∀(X:Cx),X.prog=P->X.w=w->X.K=K->X.calm=true->∀(i:Nat) (pins:List (Addr×Obj)) (s:Shared) (σ:St) (H:Hp) (E:Value->Shared->Prop),Inv X pins σ H s->(∀b∈fp,o6 X pins H b)->tn i s.heap->J.stop i H ->
  wpAny (model P w) X.A (pyNext (.ref it)) (fun r s1=>r=none/\Inv X pins σ H s1) E s
 self:∀(A:Around) (i:Nat) (s:Shared) (Q:Value->Shared->Prop) (E:Value->Shared->Prop),tn i s.heap->Q (.ref it) s->wpAny (model P w) A (pyIter (.ref it)) Q E s
abbrev TI:=St->Hp->(It->Hp->Prop)->Prop
def PIE(X:Cx)(pins:List (Addr×Obj))(σ:St)(tg:Expr)(R:It->Hp->Prop)(itv:Value)(s2:Shared):Prop :=
 ∃(it:Addr) (fp:List Addr) (tn:Nat->Heap->Prop) (J:It) (H':Hp),itv = .ref it/\Inv X pins σ H' s2/\Turn X.prog X.w X.K tg J fp it tn/\tn 0 s2.heap/\(∀b∈fp,o6 X pins H' b)/\R J H'
def PI(X:Cx)(tg iter:Expr)(wi:TI):Prop :=
 ∀(pins:List (Addr×Obj)) (s:Shared) (σ:St) (H:Hp) (R:It->Hp->Prop),Inv X pins σ H s->wi σ H R ->
  wpAny (model X.prog X.w) X.A (eval iter X.env) (fun v s1=>wpAny (model X.prog X.w) X.A (pyIter v) (PIE X pins σ tg R) X.xe s1) X.xe s
theorem Go{M:Model}{A:Around}{E:Value->Shared->Prop}{s:Shared}{tg:Expr}{it:Addr}{u:Value}{o:Obj}{n:String}{vs:Array Value}{Q:Unit->Shared->Prop}(ho:s.heap.get? it=some o)(hc:o.cls = .type n)(hd:o.data = .fields vs)
    (hn:["enumerate", "zip", "dict_itemiterator", "dict_reverseitemiterator", "odict_iterator", "itertools.zip_longest", "itertools.pairwise"].contains n=false) (hQ:Q () s):wpAny M A (letOwnedTupleGo tg (.ref it) u) Q E s:=by
  unfold letOwnedTupleGo;cases tg<;>first
    | exact AS hQ
    | (cases u<;>first
        | exact AS hQ
        | (refine AH (wpAny_load ho ?_)
           rw[hc,hd];show wpAny M A (if(["enumerate", "zip", "dict_itemiterator", "dict_reverseitemiterator", "odict_iterator", "itertools.zip_longest", "itertools.pairwise"].contains n&&vs[0]? == some (rawInt _))=true then _ else _) Q E s;rw[BH (by intro h;rw[hn,CV]at h;cases h)];exact AS hQ))
def Itl(K:PySem.W.Frag)(a:Addr):It :=
 ⟨fun i H=>∃xs x,SqL K H a xs/\xs[i]?=some x,fun i H x H'=>H'=H/\∀xs,SqL K H a xs->xs[i]?=some x,fun i H=>∃xs,SqL K H a xs/\xs.length<=i⟩
def Itr(lo:Int)(n:Nat):It:=⟨fun i _=>i<n,fun i H x H'=>H'=H/\x = .int (lo+i),fun i _=>n<=i⟩
theorem Cw{P:Program}{w:World}{K:PySem.W.Frag}{tg:Expr}(a it:Addr):Turn P w K tg (Itl K a) [it] it (fun i h=>h.IsListIter it a i) where
 mem:=by simp
 obj:=fun i h st b hb=>by
  have e:b=it:=by simpa using hb
  subst e;obtain⟨o,e,c,d⟩:=st;exact⟨o,e,fun v z=>by rw[d]at z;cases z⟩
 keep:=fun i h h' st k=>st.at fun o e=>k it (by simp) o e
 item:=by
  intro X hP hw hK hc i pins s σ H E I hf st hg;subst hP hw hK;obtain⟨xs,x,hq,hx⟩:=hg;obtain⟨its,rv,p,hz⟩:=I.list hq;obtain⟨u,hu,ru⟩:=rv.get hx;obtain⟨f0,f1,f2,f3,f4,f5⟩:=hf it (by simp);refine wpAny_pyNext_list_item st p.isList (x:=u) (by simpa using hu) fun h' st' sb=>?_;have I1:Inv X pins σ H { s with heap:=h' }:=I.turned (t':=s.toks) (fun b o hb e=>(sb.2 b hb).trans e) f0 f1 f3 f4 f5;obtain⟨o,e,c,d⟩:=id st';exact⟨u,rfl,Go (s:={ s with heap:=h' }) e c d (by decide) ⟨x,H,I1,ru,⟨rfl,fun ys hy=>by rw[I.list_inj hy hq];exact hx⟩,st',fun b hb=>(hf b hb).1⟩⟩
 done:=by
  intro X hP hw hK hc i pins s σ H E I hf st hg;subst hP hw hK;obtain⟨xs,hq,hx⟩:=hg;obtain⟨its,rv,p,hz⟩:=I.list hq;obtain⟨f0,f1,f2,f3,f4,f5⟩:=hf it (by simp);have hl:=rv.length;exact wpAny_pyNext_list_end (I.ok.hd hc) st p.isList (by simp;omega) fun h' eb=>⟨rfl,I.turned (t':=s.toks) (fun b o hb e=>eb b o hb e) f0 f1 f3 f4 f5⟩
 self:=fun _ _ _ _ _ st h=>wpAny_pyIter_listiter st h
theorem Bj{P:Program}{w:World}{K:PySem.W.Frag}{tg:Expr}(it:Addr)(lo:Int)(n:Nat):Turn P w K tg (Itr lo n) [it] it (fun i h=>IsRangeIter h it (lo +(i:Nat)*1) ((n:Int)-(i:Nat)) 1) where
 mem:=by simp
 obj:=fun i h st b hb=>by
  have e:b=it:=by simpa using hb
  subst e;exact⟨_,st,fun v z=>by
   have z':Data.fields _=Data.cell v:=z;cases z'⟩
 keep:=fun i h h' st k=>k it (by simp) _ st
 item:=by
  intro X hP hw hK hc i pins s σ H E I hf st hg;subst hP hw hK;obtain⟨f0,f1,f2,f3,f4,f5⟩:=hf it (by simp);have W:=Walks.range (prog:=X.prog) (w:=X.w) (I.ok.hd hc) it lo 1 n;refine W.item i s _ _ hg st fun v h' tk hv st' kk=>?_;obtain⟨t,rfl⟩:=hv;have I1:Inv X pins σ H { s with heap:=h',toks:=tk }:=I.turned (fun b o hb e=>kk b o (by simpa using hb) e) f0 f1 f3 f4 f5;refine⟨_,rfl,Go (s:={ s with heap:=h',toks:=tk }) (n := "range_iterator") st' rfl rfl (by decide) ⟨.int (lo+i),H,I1,⟨t,?_⟩,⟨rfl,rfl⟩,st',fun b hb=>(hf b hb).1⟩⟩;rw[Int.mul_one]
 done:=by
  intro X hP hw hK hc i pins s σ H E I hf st hg;subst hP hw hK;obtain⟨f0,f1,f2,f3,f4,f5⟩:=hf it (by simp);exact wpAny_pyNext_range_end (I.ok.hd hc) st (by have:n<=i:=hg;omega) fun h' eb=>⟨rfl,I.turned (t':=s.toks) (fun b o hb e=>eb b o hb e) f0 f1 f3 f4 f5⟩
 self:=fun _ _ _ _ _ st h=>wpAny_pyIter_rangeiter st h
section
variable{X:Cx}{tg:Expr}
def Iz(K:PySem.W.Frag)(tl:TE):TI:=fun σ H R=>tl σ H fun x H1=>∃a,x = .ref a/\(∃xs,SqL K H1 a xs)/\R (Itl K a) H1
theorem Ha{l:Expr}{tl:TE}(hl:PE X l tl):PI X tg l (Iz X.K tl):=by
 intro pins s σ H R I h;refine thn (hl pins s σ H _ I h) fun v s1 ⟨x,H1,I1,r1,q1⟩=>?_;obtain⟨a,e,⟨xs,hq⟩,q⟩:=q1;subst e;cases r1;obtain⟨its,rv,p,hz⟩:=I1.list hq;refine wpAny_pyIter_list p.isList ?_;refine⟨s1.heap.objs.size,[s1.heap.objs.size],_,_,H1,rfl,I1.kept (t':=s1.toks) fun b o e=>AC _ e,Cw a _,⟨_,BE _ rfl,rfl,rfl⟩,fun b hb=>?_,q⟩;have e:b=s1.heap.objs.size:=by simpa using hb
 subst e;exact I1.fpOk (AL _) (I1.hok.fresh (AL _))
theorem Ew{pins:List (Addr×Obj)}{σ:St}{H:Hp}{s:Shared}{R:It->Hp->Prop}{E:Value->Shared->Prop}{lo hi:Int}{t u v:Tok}{tk:Nat}(I:Inv X pins σ H s)(h1:-(2^62)<=lo)(h2:lo<2^62)(h3:-(2^62)<=hi)(h4:hi<2^62)
  (q:R (Itr lo (hi-lo).toNat) H):wpAny (model X.prog X.w) X.A (pyIter (.ref s.heap.objs.size)) (PIE X pins σ tg R) E { s with heap:=s.heap.push { cls:=.type "range",data:=.fields #[.int lo t,.int hi u,.int 1 v] },toks:=tk }:=by
 refine wpAny_pyIter_range (IsRange.new ..) (small_one h1 h2 h3 h4) ?_;have I1:Inv X pins σ H { s with heap:=s.heap.push { cls:=.type "range",data:=.fields #[.int lo t,.int hi u,.int 1 v] },toks:=tk }:=I.kept fun b o e=>AC _ e;refine⟨(s.heap.push { cls:=.type "range",data:=.fields #[.int lo t,.int hi u,.int 1 v] }).objs.size,[(s.heap.push { cls:=.type "range",data:=.fields #[.int lo t,.int hi u,.int 1 v] }).objs.size],_,_,H,rfl,
  I1.kept (t':=tk) fun b o e=>AC _ e,Bj _ lo (hi-lo).toNat,?_,fun b hb=>?_,q⟩
 .have e1:lo +((0:Nat):Int)*1=lo:=by simp
  have e2:(((hi-lo).toNat:Nat):Int)-((0:Nat):Int)=Builtin.Range.rangeSize lo hi 1:=by rw[rangeSize_one];split<;>omega
  show IsRangeIter _ _ (lo +((0:Nat):Int)*1) ((((hi-lo).toNat:Nat):Int)-((0:Nat):Int)) 1;rw[e1,e2];exact BE _ rfl
 .have e:b =(s.heap.push { cls:=.type "range",data:=.fields #[.int lo t,.int hi u,.int 1 v] }).objs.size:=by simpa using hb
  subst e;exact I1.fpOk (AL _) (I1.hok.fresh (AL _))
def Jh(ta:TA):TI:=fun σ H R=>ta σ H fun vs H1=>∃j:Int,vs = [.int j]/\-(2^62)<=j/\j<2^62/\R (Itr 0 j.toNat) H1
theorem Ca{a:Expr}{ta:TA}{p pos:Pos}(hg:Gl X "range")(hm:X.mg "range" = none)(ha:PA X [a] ta)(hs:starEach [a] X.env = [(false,eval a X.env)]:=by rfl):PI X tg (.Call (.Name "range" p) [a] [] pos) (Jh ta):=by
 intro pins s σ H R I h;refine Call_ (o9 I hg hm boot_range (PyProof.Rows.callWith_type1 (thn (ha pos pins s σ H _ I h) fun us s1 ⟨vs,H1,I1,r1,q1⟩=>?_) hs rfl));obtain⟨j,e,q1,q2,q⟩:=q1;subst e;cases r1 with
 | cons r rr =>
  cases rr;obtain⟨t,rfl⟩:=r;exact call_range_1 (Ew I1 (by omega) (by omega) q1 q2 (by simpa using q))
def Mz(wi:TI)(g:TG)(tb:TS):TS:=fun D σ H=>wi σ H fun J H1=>∃W:Nat->Nat->St->Hp->Prop,(∃m,W 0 m σ H1)/\∀i m σ H,W i m σ H ->
 (J.stop i H/\D.nx σ H)\/(J.go i H/\∃N:St->Hp->Prop,(∀σ' H',N σ' H'->∃m',m' < m/\W (i+1) m' σ' H')/\∀x H',J.yld i H x H'->g x σ H' fun σ2 H2=>tb { D with nx:=N,ct:=N,bk:=D.nx } σ2 H2)
def n8(fp:List Addr)(h:Heap):List (Addr×Obj):=fp.filterMap fun b=>(h.get? b).map fun o=>(b,o)
theorem O5{fp:List Addr}{h:Heap}{b:Addr}{o:Obj}(hb:b∈fp)(e:h.get? b=some o):(b,o)∈n8 fp h:=List.mem_filterMap.mpr ⟨b,hb,by rw[e];rfl⟩
theorem Cd{fp:List Addr}{h:Heap}{p:Addr×Obj}(hp:p∈n8 fp h):p.1∈fp/\h.get? p.1=some p.2:=by
 obtain⟨b,hb,e⟩:=List.mem_filterMap.mp hp;cases q:h.get? b with
 | none=>rw[q]at e;cases e
 | some o =>
  rw[q]at e;have e':(b,o)=p:=BN e;subst e';exact⟨hb,q⟩
theorem Inv.pinned{pins:List (Addr×Obj)}{σ:St}{H:Hp}{s:Shared}{fp:List Addr}(I:Inv X pins σ H s)(hf:∀b∈fp,o6 X pins H b)(ho:∀b∈fp,∃o,s.heap.get? b=some o/\∀v,o.data≠ .cell v):Inv X (pins++n8 fp s.heap) σ H s :=
 I.pins_of fun p hp=>(BA.mp hp).elim (fun z=>I.pin p (BB _ z)) fun z=>by
  obtain⟨hb,e⟩:=Cd z;obtain⟨f0,f1,f2,_⟩:=hf p.1 hb;obtain⟨o,e',d⟩:=ho p.1 hb;rw[e]at e';cases e';exact⟨e,f0,f1,f2,d⟩
theorem Inv.unpinned{pins pl:List (Addr×Obj)}{σ:St}{H:Hp}{s:Shared}(I:Inv X (pins++pl) σ H s):Inv X pins σ H s:=I.pins_of fun p hp=>I.pin p (BB _ (CC _ hp))
theorem U7{iter:Expr}{body:List Stmt}{wi:TI}{g:TG}{tb:TS}{pos:Pos}(hp:PassesOwn (model X.prog X.w) X.A X.env X.xe)(hc:X.calm=true)(hi:PI X tg iter wi)(hg:PG X tg g)(hb:PSs X body tb)
  (hs:∀x,foldedSetIterable iter X.env x=pure x:=by intro _;rfl):PS X (.For tg iter body [] pos) (Mz wi g tb):=by
 intro pins s σ H D I h;refine wpAny_For (thn (hi pins s σ H _ I h) fun v s1 h1=>thn h1 fun itv s2 h2=>?_) hs;obtain⟨it,fp,tn,J,H2,e,I2,T,st2,f2,W,⟨m0,w0⟩,turn⟩:=h2;subst e;have stat:∀{H':Hp},(∀b∈fp,H' b=none)->∀b∈fp,o6 X pins H' b:=fun hn b hb=>⟨hn b hb,(f2 b hb).2⟩;refine codeAny_forLoop_any (fun n s'=>∃i σ' H',Inv X pins σ' H' s'/\tn i s'.heap/\(∀b∈fp,H' b=none)/\W i n σ' H') ?_ m0 ⟨0,σ,H2,I2,st2,fun b hb=>(f2 b hb).1,w0⟩;rintro n s3 ⟨i,σ3,H3,I3,st3,fr3,w3⟩;rcases turn i n σ3 H3 w3 with⟨stop,qn⟩ | ⟨go,N,hN,step⟩
 .refine CQ hp (thn (T.done X rfl rfl rfl hc i pins s3 σ3 H3 X.xe I3 (stat fr3) st3 stop) fun r s4 ⟨hr,I4⟩=>?_);subst hr;exact wpAny_execs_nil ⟨σ3,H3,I4,qn⟩
 .refine CQ hp (thn (T.item X rfl rfl rfl hc i pins s3 σ3 H3 X.xe I3 (stat fr3) st3 go) fun r s4 ⟨u,hr,h4⟩=>?_);subst hr;refine CQ hp (thn h4 fun _ s5 ⟨x,H5,I5,r5,y5,st5,fr5⟩=>?_);have I5':=I5.pinned (stat fr5) (T.obj _ _ st5);refine CQ hp (thn (hg _ s5 σ3 H5 x u _ I5' r5 (step x H5 y5)) fun _ s6 ⟨σ6,H6,I6,q6⟩=>?_);refine CQ hp (thn (hb _ s6 σ6 H6 _ I6 q6) fun f s7 q7=>?_);have again:∀{σ7:St} {H7:Hp},Inv X (pins++n8 fp s5.heap) σ7 H7 s7->N σ7 H7->∃m,m<n/\∃i σ' H',Inv X pins σ' H' s7/\tn i s7.heap/\(∀b∈fp,H' b=none)/\W i m σ' H':=fun{σ7 H7} I7 n7=>by
   obtain⟨m',hm,w7⟩:=hN σ7 H7 n7;refine⟨m',hm,i+1,σ7,H7,I7.unpinned,T.keep _ _ _ st5 fun b hb o e=>(I7.pin (b,o) (BB _ (BB _ (O5 hb e)))).1,fun b hb=>?_,w7⟩;obtain⟨o,e,d⟩:=T.obj _ _ st5 b hb;exact(I7.pin (b,o) (BB _ (BB _ (O5 hb e)))).2.1
  cases f with
  | next=>obtain⟨σ7,H7,I7,n7⟩:=q7;exact again I7 n7
  | cont=>obtain⟨σ7,H7,I7,n7⟩:=q7;exact again I7 n7
  | brk=>obtain⟨σ7,H7,I7,q7⟩:=q7;exact⟨σ7,H7,I7.unpinned,q7⟩
  | ret v=>obtain⟨x7,σ7,H7,I7,r7,q7⟩:=q7;exact⟨x7,σ7,H7,I7.unpinned,r7,q7⟩
end
theorem Ci{lo:Int}{n:Nat}{g:TG}{tb:TS}{D:Ends}{σ:St}{H:Hp}(Pv:Nat->St->Hp->Prop)(h0:Pv 0 σ H)
  (hs:∀i σ H,i<n->Pv i σ H->g (.int (lo+i)) σ H fun σ2 H2=>tb { D with nx:=Pv (i+1),ct:=Pv (i+1),bk:=D.nx } σ2 H2) (hd:∀σ H,Pv n σ H->D.nx σ H) :
  ∃W:Nat->Nat->St->Hp->Prop,(∃m,W 0 m σ H)/\∀i m σ H,W i m σ H ->
   ((Itr lo n).stop i H/\D.nx σ H)\/((Itr lo n).go i H/\∃N:St->Hp->Prop,(∀σ' H',N σ' H'->∃m',m' < m/\W (i+1) m' σ' H')/\∀x H',(Itr lo n).yld i H x H'->g x σ H' fun σ2 H2=>tb { D with nx:=N,ct:=N,bk:=D.nx } σ2 H2):=by
 refine⟨fun i m σ H=>m=n-i/\i<=n/\Pv i σ H,⟨n,by simp,BI _,h0⟩,?_⟩;rintro i m σ H ⟨rfl,hi,p⟩;by_cases hlt:i<n
 .refine .inr ⟨hlt,Pv (i+1),fun σ' H' p'=>⟨n-(i+1),by omega,rfl,hlt,p'⟩,fun x H' y=>?_⟩;obtain⟨e,y⟩:=y;subst e y;exact hs i σ _ hlt p
 .have e:i=n:=by omega
  subst e;exact .inl ⟨AL _,hd σ H p⟩
abbrev R2:=V->V->Hp->VK->Prop
def OpR(X:Cx)(f:Value->Value->Sem Value)(r:R2):Prop :=
 ∀(pins:List (Addr×Obj)) (s:Shared) (σ:St) (H:Hp) (x y:V) (v u:Value) (Q:VK),Inv X pins σ H s->RelV x v->RelV y u->r x y H Q ->
  wpAny (model X.prog X.w) X.A (f v u) (EP X pins σ Q) X.xe s
def J0(X:Cx)(f:Value)(r:List V->Hp->VK->Prop):Prop :=
 ∀(pins:List (Addr×Obj)) (s:Shared) (σ:St) (H:Hp) (xs:List V) (us:List Value) (Q:VK),Inv X pins σ H s->Vals xs us->r xs H Q ->
  wpAny (model X.prog X.w) X.A (call f us) (EP X pins σ Q) X.xe s
def tOp(r:R2)(ta tb:TE):TE:=fun σ H Q=>ta σ H fun x H1=>tb σ H1 fun y H2=>r x y H2 Q
def rI(C:Int->Int->Prop)(g:Int->Int->V):R2:=fun x y H Q=>∃i j,x = .int i/\y = .int j/\C i j/\Q (g i j) H
def rI0(g:Int->Int->V):R2:=fun x y H Q=>∃i j,x = .int i/\y = .int j/\Q (g i j) H
section
variable{X:Cx}{a b c:Expr}{ta tb tc:TE}{pos:Pos}
theorem Kz(ha:PE X a ta)(hb:PE X b tb){pins:List (Addr×Obj)}{s:Shared}{σ:St}{H:Hp}{R:V->V->Hp->Prop}(I:Inv X pins σ H s)
  (h:ta σ H fun x H1=>tb σ H1 fun y H2=>R x y H2) {Q:Value->Shared->Prop} {f:Value->Value->Sem Value}
  (hf:∀v u s2 x y H2,Inv X pins σ H2 s2->RelV x v->RelV y u->R x y H2->wpAny (model X.prog X.w) X.A (f v u) Q X.xe s2) :
  wpAny (model X.prog X.w) X.A (eval a X.env) (fun v s₁=>wpAny (model X.prog X.w) X.A (eval b X.env) (fun u s₂=>wpAny (model X.prog X.w) X.A (f v u) Q X.xe s₂) X.xe s₁) X.xe s:=by
 refine thn (ha pins s σ H _ I h) fun v s1 ⟨x,H1,I1,r1,q1⟩=>?_;refine thn (hb pins s1 σ H1 _ I1 q1) fun u s2 ⟨y,H2,I2,r2,q2⟩=>?_;exact hf v u s2 x y H2 I2 r1 r2 q2
theorem D7{op:Operator}{r:R2}(ho:OpR X (binaryOp op) r)(ha:PE X a ta)(hb:PE X b tb):PE X (.BinOp a op b pos) (tOp r ta tb):=by
 intro pins s σ H Q I h;exact wpAny_BinOp (Kz ha hb I h fun v u s2 x y H2 I2 rx ry q=>ho pins s2 σ H2 x y v u Q I2 rx ry q)
theorem opI{f:Value->Value->Sem Value}{C:Int->Int->Prop}{g:Int->Int->Int}
  (rule:∀(i j:Int) (t u:Tok) (s:Shared) (Q:Value->Shared->Prop) (E:Value->Shared->Prop),C i j->Q (.int (g i j) s.toks) { s with toks:=s.toks+1 }->wpAny (model X.prog X.w) X.A (f (.int i t) (.int j u)) Q E s) :
  OpR X f (rI C fun i j=>.int (g i j)):=by
 intro pins s σ H x y v u Q I rx ry h;obtain⟨i,j,rfl,rfl,hc,q⟩:=h;obtain⟨t,rfl⟩:=rx;obtain⟨t',rfl⟩:=ry;exact rule i j t t' s _ _ hc ⟨.int (g i j),H,I.tok _,⟨_,rfl⟩,q⟩
theorem Lv{f:Value->Value->Sem Value}{g:Int->Int->Int}
  (rule:∀(i j:Int) (t u:Tok) (s:Shared) (Q:Value->Shared->Prop) (E:Value->Shared->Prop),Q (.int (g i j) s.toks) { s with toks:=s.toks+1 }->wpAny (model X.prog X.w) X.A (f (.int i t) (.int j u)) Q E s) :
  OpR X f (rI0 fun i j=>.int (g i j)):=by
 intro pins s σ H x y v u Q I rx ry h;obtain⟨i,j,rfl,rfl,q⟩:=h;obtain⟨t,rfl⟩:=rx;obtain⟨t',rfl⟩:=ry;exact rule i j t t' s _ _ ⟨.int (g i j),H,I.tok _,⟨_,rfl⟩,q⟩
theorem Kj{f:Value->Value->Sem Value}{g:Int->Int->Bool}
  (rule:∀(i j:Int) (t u:Tok) (s:Shared) (Q:Value->Shared->Prop) (E:Value->Shared->Prop),Q (.bool (g i j)) s->wpAny (model X.prog X.w) X.A (f (.int i t) (.int j u)) Q E s) :
  OpR X f (rI0 fun i j=>.bl (g i j)):=by
 intro pins s σ H x y v u Q I rx ry h;obtain⟨i,j,rfl,rfl,q⟩:=h;obtain⟨t,rfl⟩:=rx;obtain⟨t',rfl⟩:=ry;exact rule i j t t' s _ _ ⟨.bl (g i j),H,I,rfl,q⟩
def Mh(i j:Int):Prop:=0<j/\j<1073741824
def Md(i j:Int):Prop:=0<=j/\j<=1000000/\i.natAbs<2^64
def CMul(i j:Int):Prop:=(-(2^64)<i/\i<2^64)\/(-(2^64)<j/\j<2^64)
theorem CMul.ok{i j:Int}(h:CMul i j):IntMulOk i j:=by
 rcases h with⟨h1,h2⟩ | ⟨h1,h2⟩
 .exact .of_left (intBits_le_64 h1 h2)
 .exact .of_right (intBits_le_64 h1 h2)
theorem U1:OpR X (binaryOp .Add) (rI0 fun i j=>.int (i+j)):=Lv fun _ _ _ _ _ _ _ q=>add_int q
theorem Bz:OpR X (binaryOp .Sub) (rI0 fun i j=>.int (i-j)):=Lv fun _ _ _ _ _ _ _ q=>sub_int q
theorem a7:OpR X (binaryOp .Mult) (rI CMul fun i j=>.int (i*j)):=opI fun _ _ _ _ _ _ _ hc q=>mul_int q hc.ok
theorem Cr:OpR X (binaryOp .FloorDiv) (rI Mh fun i j=>.int (i / j)):=opI fun i j _ _ _ _ _ hc q=>by
 have h1:(0:Int)<j:=hc.1;have h2:j<1073741824:=hc.2;exact floordiv_int (by omega) (by rw[Int.fdiv_eq_ediv_of_nonneg i (by omega)];exact q) (.inl (PyProof.noPylong_small (by omega)))
theorem q9:OpR X (binaryOp .Mod) (rI (fun _ j=>0<j) fun i j=>.int (i % j)):=opI fun i j _ _ _ _ _ hc q=>by
 have h1:(0:Int)<j:=hc;exact mod_int' (by omega) (by rw[Int.fmod_eq_emod_of_nonneg i (by omega)];exact q)
theorem Ix:OpR X (binaryOp .Pow) (rI Md fun i j=>.int (i^j.toNat)):=opI fun _ _ _ _ _ _ _ hc q=>pow_int_small hc.1 hc.2.1 hc.2.2 q
end
def Lu:V->V->Bool
 | .non,.non=>true | .non,.int _=>true | .int _,.non=>true | .non,.bl _=>true | .bl _,.non=>true | .non,.str _=>true | .str _,.non=>true
 | .int _,.int _=>true | .bl _,.bl _=>true | .str _,.str _=>true | .byt _,.byt _=>true
 | .int _,.str _=>true | .str _,.int _=>true | .bl _,.str _=>true | .str _,.bl _=>true
 | _,_=>false
def rEq:R2:=fun x y H Q=>Lu x y=true/\Q (.bl (decide (x=y))) H
def rNe:R2:=fun x y H Q=>Lu x y=true/\Q (.bl (!decide (x=y))) H
theorem Cv{i j:Int}:decide (V.int i=V.int j) =(i == j):=by
 rw[CS];simp
theorem Gb{i j:Bool}:decide (V.bl i=V.bl j) =(i == j):=by
 rw[CS];simp
theorem Dw{i j:Str}:decide (V.str i=V.str j) =(i == j):=by
 rw[CS];simp
theorem Cl{i j:Array UInt8}:decide (V.byt i=V.byt j) =(i.toList == j.toList):=by
 rw[CS];cases i;cases j;simp
section
variable{X:Cx}{a b c:Expr}{ta tb tc:TE}{pos:Pos}
theorem C9{pins:List (Addr×Obj)}{σ:St}{H:Hp}{s:Shared}{Q:VK}{k k':Bool}(I:Inv X pins σ H s)(q:Q (.bl k) H)(e:k=k'):EP X pins σ Q (.bool k') s:=by
 subst e;exact⟨.bl k,H,I,rfl,q⟩
theorem Bi:OpR X (compareOp .Eq) rEq:=by
 intro pins s σ H x y v u Q I rx ry h;obtain⟨hs,q⟩:=h;cases x with
 | non =>
  cases rx;cases y with
  | non=>cases ry;exact PySem.EqNone.eq_none_none (C9 I q (by simp))
  | bl j=>cases ry;exact PySem.EqNone.eq_none_bool (C9 I q (by simp))
  | int j=>obtain⟨t',rfl⟩:=ry;exact PySem.EqNone.eq_none_int (C9 I q (by simp))
  | str j=>obtain⟨t',rfl⟩:=ry;exact PySem.EqNone.eq_none_str (C9 I q (by simp))
  | _=>exact absurd (show false=true from hs) AN
 | bl i =>
  cases rx;cases y with
  | non=>cases ry;exact PySem.EqNone.eq_bool_none (C9 I q (by simp))
  | bl j=>cases ry;exact eq_bool (C9 I q Gb)
  | str j=>obtain⟨t',rfl⟩:=ry;exact PySem.EqMixed.eq_bool_str (C9 I q (by simp))
  | _=>exact absurd (show false=true from hs) AN
 | int i =>
  obtain⟨t,rfl⟩:=rx;cases y with
  | non=>cases ry;exact PySem.EqNone.eq_int_none (C9 I q (by simp))
  | int j=>obtain⟨t',rfl⟩:=ry;exact eq_int (C9 I q Cv)
  | str j=>obtain⟨t',rfl⟩:=ry;exact PySem.EqMixed.eq_int_str (C9 I q (by simp))
  | _=>exact absurd (show false=true from hs) AN
 | str i =>
  obtain⟨t,rfl⟩:=rx;cases y with
  | non=>cases ry;exact PySem.EqNone.eq_str_none (C9 I q (by simp))
  | bl j=>cases ry;exact PySem.EqMixed.eq_str_bool (C9 I q (by simp))
  | int j=>obtain⟨t',rfl⟩:=ry;exact PySem.EqMixed.eq_str_int (C9 I q (by simp))
  | str j=>obtain⟨t',rfl⟩:=ry;exact eq_str (C9 I q Dw)
  | _=>exact absurd (show false=true from hs) AN
 | byt i =>
  obtain⟨t,rfl⟩:=rx;cases y with
  | byt j=>obtain⟨t',rfl⟩:=ry;exact PySem.W.eq_bytes (C9 I q Cl)
  | _=>exact absurd (show false=true from hs) AN
 | _=>cases y<;>exact absurd (show false=true from hs) AN
theorem Cq:OpR X (compareOp .NotEq) rNe:=by
 intro pins s σ H x y v u Q I rx ry h;obtain⟨hs,q⟩:=h;cases x with
 | non =>
  cases rx;cases y with
  | non=>cases ry;exact PySem.EqNone.ne_none_none (C9 I q (by simp))
  | bl j=>cases ry;exact PySem.EqNone.ne_none_bool (C9 I q (by simp))
  | int j=>obtain⟨t',rfl⟩:=ry;exact PySem.EqNone.ne_none_int (C9 I q (by simp))
  | str j=>obtain⟨t',rfl⟩:=ry;exact PySem.EqNone.ne_none_str (C9 I q (by simp))
  | _=>exact absurd (show false=true from hs) AN
 | bl i =>
  cases rx;cases y with
  | non=>cases ry;exact PySem.EqNone.ne_bool_none (C9 I q (by simp))
  | bl j=>cases ry;exact ne_bool (C9 I q (congrArg not Gb))
  | str j=>obtain⟨t',rfl⟩:=ry;exact PySem.EqMixed.ne_bool_str (C9 I q (by simp))
  | _=>exact absurd (show false=true from hs) AN
 | int i =>
  obtain⟨t,rfl⟩:=rx;cases y with
  | non=>cases ry;exact PySem.EqNone.ne_int_none (C9 I q (by simp))
  | int j=>obtain⟨t',rfl⟩:=ry;exact ne_int (C9 I q (congrArg not Cv))
  | str j=>obtain⟨t',rfl⟩:=ry;exact PySem.EqMixed.ne_int_str (C9 I q (by simp))
  | _=>exact absurd (show false=true from hs) AN
 | str i =>
  obtain⟨t,rfl⟩:=rx;cases y with
  | non=>cases ry;exact PySem.EqNone.ne_str_none (C9 I q (by simp))
  | bl j=>cases ry;exact PySem.EqMixed.ne_str_bool (C9 I q (by simp))
  | int j=>obtain⟨t',rfl⟩:=ry;exact PySem.EqMixed.ne_str_int (C9 I q (by simp))
  | str j=>obtain⟨t',rfl⟩:=ry;exact ne_str (C9 I q (congrArg not Dw))
  | _=>exact absurd (show false=true from hs) AN
 | byt i =>
  obtain⟨t,rfl⟩:=rx;cases y with
  | byt j=>obtain⟨t',rfl⟩:=ry;exact PySem.W.ne_bytes (C9 I q (congrArg not Cl))
  | _=>exact absurd (show false=true from hs) AN
 | _=>cases y<;>exact absurd (show false=true from hs) AN
theorem Lb:OpR X (compareOp .Lt) (rI0 fun i j=>.bl (decide (i<j))):=Kj fun _ _ _ _ _ _ _ q=>lt_int q
theorem Eo:OpR X (compareOp .LtE) (rI0 fun i j=>.bl (decide (i<=j))):=Kj fun _ _ _ _ _ _ _ q=>le_int q
theorem Fo:OpR X (compareOp .Gt) (rI0 fun i j=>.bl (decide (j<i))):=Kj fun _ _ _ _ _ _ _ q=>gt_int q
theorem Lh:OpR X (compareOp .GtE) (rI0 fun i j=>.bl (decide (j<=i))):=Kj fun _ _ _ _ _ _ _ q=>ge_int q
theorem Dk:OpR X (compareOp .In) (fun x y H Q=>∃i j,x = .str i/\y = .str j/\Q (.bl (!(Builtin.Str.occurrences j i 0 j.length 1).isEmpty)) H):=by
 intro pins s σ H x y v u Q I rx ry h;obtain⟨i,j,rfl,rfl,q⟩:=h;obtain⟨t,rfl⟩:=rx;obtain⟨t',rfl⟩:=ry;exact in_str (C9 I q rfl)
theorem F6(b:Expr){op:CmpOp}(h:op≠ .In:=by decide)(h2:op≠ .NotIn:=by decide):behindInMarks op b=false:=by
 have e1:(op == CmpOp.In)=false:=by cases op<;>first | rfl | exact absurd rfl h
 have e2:(op == CmpOp.NotIn)=false:=by cases op<;>first | rfl | exact absurd rfl h2
 cases b<;>simp[behindInMarks,e1,e2]
theorem F7{op:CmpOp}{r:R2}(ho:OpR X (compareOp op) r)(ha:PE X a ta)(hb:PE X b tb)(hm:behindInMarks op b=false):PE X (.Compare a [op] [b] pos) (tOp r ta tb):=by
 intro pins s σ H Q I h;exact wpAny_Compare1 (Kz ha hb I h fun v u s2 x y H2 I2 rx ry q=>ho pins s2 σ H2 x y v u Q I2 rx ry q) hm
def Js(t:TE):TT:=fun σ H Q=>t σ H fun x H'=>∃k,x = .bl k/\Q k H'
theorem D9{op:CmpOp}{r:R2}(ho:OpR X (compareOp op) r)(ha:PE X a ta)(hb:PE X b tb)(hm:behindInMarks op b=false):PT X (.Compare a [op] [b] pos) (Js (tOp r ta tb)):=by
 intro pins s σ H Q I h;refine wpAny_isTrue_Compare1 (thn (ha pins s σ H _ I h) fun v s1 ⟨x,H1,I1,r1,q1⟩=>thn (hb pins s1 σ H1 _ I1 q1) fun u s2 ⟨y,H2,I2,r2,q2⟩ =>
  thn (ho pins s2 σ H2 x y v u _ I2 r1 r2 q2) fun c s3 ⟨z,H3,I3,r3,k,e,q3⟩=>?_) hm
 subst e;cases r3;exact BQ ⟨H3,I3,q3⟩
def Fz(r r':R2)(ta tb tc:TE):TE:=fun σ H Q=>ta σ H fun x H1=>tb σ H1 fun y H2=>r x y H2 fun z H3=>∃k,z = .bl k /\
 (if k=true then tc σ H3 fun w' H4=>r' y w' H4 Q else Q (.bl false) H3)
theorem Ev{op op':CmpOp}{r r':R2}(ho:OpR X (compareOp op) r)(ho':OpR X (compareOp op') r')(ha:PE X a ta)(hb:PE X b tb)(hc:PE X c tc)
  (hm:lastMarks [op,op'] [b,c]=false:=by with_unfolding_all rfl):PE X (.Compare a [op,op'] [b,c] pos) (Fz r r' ta tb tc):=by
 intro pins s σ H Q I h;refine Compare_chain (thn (ha pins s σ H _ I h) fun v s1 ⟨x,H1,I1,r1,q1⟩=>chain_link (thn (hb pins s1 σ H1 _ I1 q1) fun u s2 ⟨y,H2,I2,r2,q2⟩ =>
  thn (ho pins s2 σ H2 x y v u _ I2 r1 r2 q2) fun d s3 ⟨z,H3,I3,r3,k,e,q3⟩=>?_)) hm
 subst e;cases r3;refine BQ ?_;cases k with
 | false=>exact ite_ff ⟨.bl false,H3,I3,rfl,q3⟩
 | true=>exact ite_tt (chain_last (thn (hc pins s3 σ H3 _ I3 q3) fun w' s4 ⟨z',H4,I4,r4,q4⟩=>ho' pins s4 σ H4 y z' u w' Q I4 r2 r4 q4))
theorem Fq{op op':CmpOp}{r r':R2}(ho:OpR X (compareOp op) r)(ho':OpR X (compareOp op') r')(ha:PE X a ta)(hb:PE X b tb)(hc:PE X c tc)
  (hm:lastMarks [op,op'] [b,c]=false:=by with_unfolding_all rfl):PT X (.Compare a [op,op'] [b,c] pos) (Js (Fz r r' ta tb tc)):=by
 intro pins s σ H Q I h;refine isTrue_chain (thn (ha pins s σ H _ I h) fun v s1 ⟨x,H1,I1,r1,q1⟩=>test_link (thn (hb pins s1 σ H1 _ I1 q1) fun u s2 ⟨y,H2,I2,r2,q2⟩ =>
  thn (ho pins s2 σ H2 x y v u _ I2 r1 r2 q2) fun d s3 ⟨z,H3,I3,r3,k,e,q3⟩=>?_)) hm
 subst e;cases r3;refine BQ ?_;cases k with
 | false =>
  obtain⟨k',e',q'⟩:=q3;cases e';exact ite_ff ⟨H3,I3,q'⟩
 | true =>
  refine ite_tt (test_last (thn (hc pins s3 σ H3 _ I3 q3) fun w' s4 ⟨z',H4,I4,r4,q4⟩=>thn (ho' pins s4 σ H4 y z' u w' _ I4 r2 r4 q4) fun d' s5 ⟨z2,H5,I5,r5,k2,e2,q5⟩=>?_));subst e2;cases r5;exact BQ ⟨H5,I5,q5⟩
theorem d0:(sizeLine:Nat)<2^63:=by rw[sizeLine_eq];decide
theorem S4:OpR X (binaryOp .Add) (fun x y H Q=>∃i j,x = .str i/\y = .str j/\i.length+j.length<=sizeLine/\Q (.str (i++j)) H):=by
 intro pins s σ H x y v u Q I rx ry h;obtain⟨i,j,rfl,rfl,hz,q⟩:=h;obtain⟨t,rfl⟩:=rx;obtain⟨t',rfl⟩:=ry;exact add_str (fun t' tk=>⟨.str (i++j),H,I.tok _,⟨_,rfl⟩,q⟩) hz
theorem X9{x:V}{us:List Value}(r:Vals [x] us):∃u,us = [u]/\RelV x u:=by
 cases r with
 | cons r1 r2=>cases r2;exact⟨_,rfl,r1⟩
theorem Kb{x y:V}{us:List Value}(r:Vals [x,y] us):∃u w',us = [u,w']/\RelV x u/\RelV y w':=by
 cases r with
 | cons r1 r2 =>
  cases r2 with
  | cons r3 r4=>cases r4;exact⟨_,_,rfl,r1,r3⟩
theorem Ab:J0 X (.builtin "abs") (fun xs H Q=>∃i,xs = [.int i]/\Q (.int (if i<0 then -i else i)) H):=by
 intro pins s σ H xs us Q I r h;obtain⟨i,rfl,q⟩:=h;obtain⟨u,rfl,t,rfl⟩:=X9 r;exact call_abs_int fun u tk=>⟨.int (if i<0 then -i else i),H,I.tok _,⟨_,rfl⟩,q⟩
theorem t9(hc:X.calm=true):J0 X (.builtin "max") (fun xs H Q=>∃i j,xs = [.int i,.int j]/\Q (.int (if j>i then j else i)) H):=by
 intro pins s σ H xs us Q I r h;obtain⟨i,j,rfl,q⟩:=h;obtain⟨u,w',rfl,⟨t,rfl⟩,⟨t',rfl⟩⟩:=Kb r;refine max_two_ints (I.ok.hd hc) fun h' tk k=>⟨_,H,I.kept k,?_,q⟩;by_cases hj:j>i
 .rw[BJ hj,BJ hj];exact⟨_,rfl⟩
 .rw[BH hj,BH hj];exact⟨_,rfl⟩
theorem Dq(hc:X.calm=true):J0 X (.builtin "min") (fun xs H Q=>∃i j,xs = [.int i,.int j]/\Q (.int (if j<i then j else i)) H):=by
 intro pins s σ H xs us Q I r h;obtain⟨i,j,rfl,q⟩:=h;obtain⟨u,w',rfl,⟨t,rfl⟩,⟨t',rfl⟩⟩:=Kb r;refine min_two_ints (I.ok.hd hc) fun h' tk k=>⟨_,H,I.kept k,?_,q⟩;by_cases hj:j<i
 .rw[BJ hj,BJ hj];exact⟨_,rfl⟩
 .rw[BH hj,BH hj];exact⟨_,rfl⟩
theorem Dx:J0 X (.type "int") (fun xs H Q=>(∃i,xs = [.int i]/\Q (.int i) H)\/∃k,xs = [.bl k]/\Q (.int (if k then 1 else 0)) H):=by
 intro pins s σ H xs us Q I r h;rcases h with⟨i,rfl,q⟩ | ⟨k,rfl,q⟩
 .obtain⟨u,rfl,t,rfl⟩:=X9 r;exact call_int_int ⟨.int i,H,I,⟨_,rfl⟩,q⟩
 .obtain⟨u,rfl,r1⟩:=X9 r;cases r1;exact call_int_bool ⟨.int (if k then 1 else 0),H,I.tok _,⟨_,rfl⟩,q⟩
theorem u0:J0 X (.type "str") (fun xs H Q=>∃i,xs = [.int i]/\i.natAbs.log2<1920/\Q (.str (toString i)) H):=by
 intro pins s σ H xs us Q I r h;obtain⟨i,rfl,hz,q⟩:=h;obtain⟨u,rfl,t,rfl⟩:=X9 r;exact PySem.P.str_of_int hz ⟨.str _,H,I.tok _,⟨_,rfl⟩,q⟩
end
structure ObjM(h:Heap)(x dx C:Addr)(mA:Str->Option Value):Prop where
 obj:h.get? x=some (PySem.W.instObj C dx)
 ns:h.Ns1 dx mA
 ne:dx≠x
theorem Dg{h:Heap}{dx:Addr}{mA:Str->Option Value}(n:h.Ns1 dx mA):∃od,h.get? dx=some od/\∀name,PySem.W.lookIn name od=some (mA name):=by
 obtain⟨o,es,ep,ho,hd,hk,_,hm⟩:=n;refine⟨o,ho,fun name=>?_⟩;have e:=hm name;unfold nsFind findBy at e;rw[<-Array.find?_toList]at e;unfold PySem.W.lookIn;rw[hd];dsimp only;split
 .rename_i y q;rw[q]at e;exact congrArg some e
 .rename_i q;rw[q]at e;have a:es.toList.any (·.refKey)=false:=by
   rw[List.any_eq_false];intro y hy;obtain⟨z,t,hkey⟩:=hk y (Array.mem_toList_iff.mp hy);simp[DictEntry.refKey,hkey]
  have a':¬es.toList.any (·.refKey)=true:=by rw[a];exact AN
  rw[BH a'];exact congrArg some e
theorem ObjM.look{h:Heap}{x dx C:Addr}{mA:Str->Option Value}(I:ObjM h x dx C mA):∃od,PySem.W.InstAt h x (PySem.W.instObj C dx) C (some od)/\∀name,PySem.W.lookIn name od=some (mA name) :=
 let⟨od,ho,hl⟩:=Dg I.ns
 ⟨od,⟨I.obj,rfl,rfl,ho⟩,hl⟩
section
variable{prog:Program}{w:World}{A:Around}{E:Value->Shared->Prop}{s:Shared}{K:PySem.W.Frag}{x dx C f:Addr}{mA:Str->Option Value}{name:Str}{v:Value}
theorem Hw{expr:Bool}{Q:Value->Shared->Prop}(X:K.In s.heap)(I:ObjM s.heap x dx C mA)(hg:PySem.W.plainGet K C name=true)(hh:PySem.W.hasDictIn K C=true)
  (ha:PySem.W.findIn K (.ref C) name=some none) (hv:mA name=some v) (hv':PySem.W.handedIn v=true) (h:Q v { s with toks:=s.toks+1 }) :
  wpAny (model prog w) A (getAttr (.ref x) name expr) Q E s:=by
 obtain⟨od,J,hl⟩:=I.look;exact PySem.W.get_value X J (PySem.W.plainGet_of hg).1 (PySem.W.findObj_own hh ha rfl (by rw[hl,hv])) hv' h
theorem Ia{ns:List Str}{Q:Unit->Shared->Prop}(X:K.In s.heap)(I:ObjM s.heap x dx C mA)
  (hs:PySem.W.findIn K (.ref C) "__setattr__" = some (some (.builtin "object.__setattr__"))) (hp:PySem.W.plainOver K C=true) (ht:PySem.W.takerIn K C name=some none) (hh:PySem.W.hasDictIn K C=true)
  (hw:PySem.Within mA ns) (hsz:ns.length<=sizeLine)
  (h:∀h',ObjM h' x dx C (fun y=>if y=name then some v else mA y)->Heap.SameBut dx s.heap h'->Q () { s with heap:=h',toks:=s.toks+2 }) :
  wpAny (model prog w) A (setAttr (.ref x) name v) Q E s:=by
 obtain⟨od,J,hl⟩:=I.look;refine PySem.W.set_plain X J hs (PySem.W.osa_open (s:={ s with toks:=s.toks+1 }) (r:=none) X J hp ht fun b=>?_);obtain⟨cd,hc,hd'⟩:=PySem.W.any_some hh;have hx:s.heap.get? x=some ⟨.ref C,some dx,.plain,#[]⟩:=I.obj;refine AH (AS (AH (AH (wpAny_loadPart hx (AH (PySem.W.Looks.here (s:={ s with toks:=s.toks+1 }) (PySem.W.looks_clsIn X hc) ?_))))));rw[hd'];refine AS (a:=some dx) (AH (AS (AH ?_)));refine wpAny_nsSet1 (s:={ s with toks:=s.toks+1 }) I.ns fun h' hn2 hs2=>?_;obtain⟨oD,esD,epD,hoD,hdD,hcD⟩:=hn2.count (PySem.Within.cons name v hw);refine AH (wpAny_lookBehind hoD (by rw[hdD];exact pastItsLine_dict (BK hcD (by rw[BG];omega))) ?_);exact AS (h _ ⟨(hs2.2 _ (Ne.symm I.ne)).trans I.obj,hn2,I.ne⟩ hs2)
theorem Ff{R:Result->Shared->Prop}{vs:List Value}{kw:List (Str×Value)}(X:K.In s.heap)(hm:PySem.W.makesIn K C=true)
  (hi:PySem.W.findIn K (.ref C) "__init__" = some (some (.ref f))) (hf:PySem.W.typeIn K (.ref f)=some (.type "function"))
  (h:codeAny (model prog w) (A.under (.builtin "type.__call__" ⟨.ref C::vs,kw⟩)) (.call (.ref f) ⟨.ref (s.heap.objs.size+1)::vs,kw⟩) (PySem.W.InitBack (s.heap.objs.size+1) R)
   { s with heap:=(s.heap.push PySem.W.emptyDict).push (PySem.W.instObj C s.heap.objs.size) }) :
  codeAny (model prog w) A (.call (.ref C) ⟨vs,kw⟩) R s:=by
 obtain⟨hh,g,d,t,os⟩:=s;exact PySem.W.make_core (PySem.W.makes_of X hm) (PySem.W.looks_findIn X hi) (fun self=>PySem.W.bind_fn X self hf) (.inl rfl) h
end
def K4(f:Str)(v:V):List (Str×V)->List (Str×V)
 | []=>[(f,v)]
 | (g,x)::r=>if g=f then(g,v)::r else(g,x)::K4 f v r
theorem Y8(f g:Str)(v:V):∀fs:List (Str×V),(K4 f v fs).lookup g=if g=f then some v else fs.lookup g
 | []=>by
  show List.lookup g [(f,v)]=_;by_cases h:g=f
  .have hb:(g == f)=true:=beq_iff_eq.mpr h;simp only[List.lookup,hb,BJ h]
  .have hb:(g == f)=false:=beq_eq_false_iff_ne.mpr h;simp only[List.lookup,hb,BH h]
 | (k,x)::r=>by
  have ih:=Y8 f g v r;rw[show K4 f v ((k,x)::r) =(if k=f then(k,v)::r else(k,x)::K4 f v r)from rfl];by_cases hk:k=f
  .rw[BJ hk];by_cases h:g=k
   .have hb:(g == k)=true:=beq_iff_eq.mpr h;simp only[List.lookup,hb,BJ (h.trans hk)]
   .have hb:(g == k)=false:=beq_eq_false_iff_ne.mpr h;simp only[List.lookup,hb,BH (fun e:g=f=>h (e.trans hk.symm))]
  .rw[BH hk];by_cases h:g=k
   .have hb:(g == k)=true:=beq_iff_eq.mpr h;simp only[List.lookup,hb,BH (fun e:g=f=>hk (h.symm.trans e))]
   .have hb:(g == k)=false:=beq_eq_false_iff_ne.mpr h;simp only[List.lookup,hb];exact ih
theorem Y1(f:Str)(v:V):∀fs:List (Str×V),f∈(K4 f v fs).map (·.1)/\∀g,g∈fs.map (·.1)->g∈(K4 f v fs).map (·.1)
 | []=>⟨by simp[K4],fun g h=>by simp at h⟩
 | (k,x)::r=>by
  obtain⟨i1,i2⟩:=Y1 f v r;rw[show K4 f v ((k,x)::r) =(if k=f then(k,v)::r else(k,x)::K4 f v r)from rfl];by_cases hk:k=f
  .rw[BJ hk];subst hk;exact⟨by simp,fun g h=>by simpa using h⟩
  .rw[BH hk];refine⟨?_,fun g h=>?_⟩
   .rw[BL];exact AV _ i1
   .rw[BL]at h⊢;rcases AY.mp h with e | e
    .exact AY.mpr (.inl e)
    .exact AV _ (i2 g e)
theorem Y5(f:Str)(v:V):∀fs:List (Str×V),(K4 f v fs).length<=fs.length+1
 | []=>by simp[K4]
 | (k,x)::r=>by
  have ih:=Y5 f v r;rw[show K4 f v ((k,x)::r) =(if k=f then(k,v)::r else(k,x)::K4 f v r)from rfl];by_cases hk:k=f
  .rw[BJ hk,BG,BG];omega
  .rw[BH hk,BG,BG];omega
theorem RelO.some_of{v:V}{o:Option Value}(r:RelO (some v) o):∃u,o=some u/\RelV v u:=by
 cases o with
 | none=>exact(show False from r).elim
 | some u=>exact⟨u,rfl,r⟩
theorem Ee{v:V}{u:Value}(r:RelV v u):PySem.W.handedIn u=true:=by
 cases v with
 | non=>cases(show u=Value.none from r);rfl
 | bl b=>cases(show u=Value.bool b from r);rfl
 | int i=>obtain⟨t,e⟩:=(show ∃t,u=Value.int i t from r);cases e;rfl
 | str x=>obtain⟨t,e⟩:=(show ∃t,u=Value.str x t from r);cases e;rfl
 | byt b=>obtain⟨t,e⟩:=(show ∃t,u=Value.bytes b t from r);cases e;rfl
 | flt b=>obtain⟨t,e⟩:=(show ∃t,u=Value.float b t from r);cases e;rfl
 | ref a=>cases(show u=Value.ref a from r);rfl
 | ty n=>cases(show u=Value.type n from r);rfl
section
variable{P:Program}{w:World}{H H':Hp}{h h':Heap}{a C dx:Addr}{fs fs':List (Str×V)}
theorem w9(hok:HOk P w H h)(e:H a=some (.ins C dx fs)):∃mA,ObjM h a dx C mA/\(∀f,RelO (fs.lookup f) (mA f))/\PySem.Within mA (fs.map (·.1))/\fs.length<=1000/\H dx=some (.own a):=by
 obtain⟨d,z,ne,ob,mA,n,r,q⟩:=(show ObjOk P w H h a (.ins C dx fs)from hok a _ e);exact⟨mA,⟨ob,n,ne⟩,r,q,z,d⟩
end
structure Cls(K:PySem.W.Frag)(C:Addr):Prop where
 pg:PySem.W.plainGet K C Str.empty=true
 hd:PySem.W.hasDictIn K C=true
 po:PySem.W.plainOver K C=true
 sa:PySem.W.findIn K (.ref C) "__setattr__" = some (some (.builtin "object.__setattr__"))
theorem Cls.get{K:PySem.W.Frag}{C:Addr}(c:Cls K C)(f:Str):PySem.W.plainGet K C f=true:=c.pg
def NoAttr(K:PySem.W.Frag)(C:Addr)(f:Str):Prop:=PySem.W.findIn K (.ref C) f=some none
theorem NoAttr.taker{K:PySem.W.Frag}{C:Addr}{f:Str}(n:NoAttr K C f):PySem.W.takerIn K C f=some none:=by
 unfold PySem.W.takerIn;rw[show PySem.W.findIn K (.ref C) f=some none from n];rfl
section
variable{X:Cx}{pins:List (Addr×Obj)}{σ:St}{H:Hp}{s:Shared}{a C dx:Addr}{fs:List (Str×V)}{f:Str}{v:V}{A:Around}{E:Value->Shared->Prop}
theorem Bs{b:Bool}{Q:Value->Shared->Prop}(I:Inv X pins σ H s)(e:H a=some (.ins C dx fs))(c:Cls X.K C)(n:NoAttr X.K C f)(l:fs.lookup f=some v)
  (h:∀u s',Inv X pins σ H s'->RelV v u->Q u s'):wpAny (model X.prog X.w) A (getAttr (.ref a) f b) Q E s:=by
 obtain⟨mA,O,r,_,_,_⟩:=w9 I.hok e;obtain⟨u,hu,ru⟩:=RelO.some_of (v:=v) (o:=mA f) (by rw[<-l];exact r f);exact Hw I.kIn O (c.get f) c.hd n hu (Ee ru) (h u _ (I.tok _) ru)
theorem Bd{y:V}{u:Value}{Q:Unit->Shared->Prop}(I:Inv X pins σ H s)(e:H a=some (.ins C dx fs))(c:Cls X.K C)(n:NoAttr X.K C f)(hl:fs.length<1000)(ry:RelV y u)
  (h:∀s',Inv X pins σ (upd H a (.ins C dx (K4 f y fs))) s'->Q () s'):wpAny (model X.prog X.w) A (setAttr (.ref a) f u) Q E s:=by
 obtain⟨mA,O,r,wi,_,ho⟩:=w9 I.hok e;have hz:(fs.map (·.1)).length<=sizeLine:=by rw[AA,sizeLine_eq];omega
 refine Ia I.kIn O c.sa c.po n.taker c.hd wi hz fun h' O' sb=>h _ ?_;have hd:∃o,h'.get? dx=some o:=let⟨o,_,_,e',_⟩:=O'.ns;⟨o,e'⟩;refine I.write (x:=a) (e:=dx) (by rw[e];exact True.intro) (.inr ho) (fun b q hb z=>(sb.2 b hb).trans z) hd ?_;refine⟨by rw[B3 O.ne];exact ho,?_,O.ne,O'.obj,_,O'.ns,fun g=>?_,fun g hg=>?_⟩
 .have:=Y5 f y fs;omega
 .show RelO ((K4 f y fs).lookup g) (if g=f then some u else mA g);rw[Y8];by_cases q:g=f
  .rw[BJ q,BJ q];exact ry
  .rw[BH q,BH q];exact r g
 .by_cases q:g=f
  .rw[q];exact(Y1 f y fs).1
  .refine(Y1 f y fs).2 g (wi g fun z=>hg ?_);show(if g=f then some u else mA g)=none;rw[BH q];exact z
theorem Inv.made(I:Inv X pins σ H s):Inv X pins σ (upd (upd H s.heap.objs.size (.own (s.heap.objs.size+1))) (s.heap.objs.size+1) (.ins C s.heap.objs.size []))
  { s with heap:=(s.heap.push PySem.W.emptyDict).push (PySem.W.instObj C s.heap.objs.size) }:=by
 have e1:(s.heap.push PySem.W.emptyDict).get? s.heap.objs.size=some PySem.W.emptyDict:=BE s.heap rfl;have e2:((s.heap.push PySem.W.emptyDict).push (PySem.W.instObj C s.heap.objs.size)).get? (s.heap.objs.size+1)=some (PySem.W.instObj C s.heap.objs.size):=by
  have:=BE (s.heap.push PySem.W.emptyDict) (o:=PySem.W.instObj C s.heap.objs.size) rfl
  rwa [CW]at this
 have e3:(s.heap.push PySem.W.emptyDict).Ns s.heap.objs.size (fun _=>none):=⟨PySem.W.emptyDict,#[],_,e1,rfl,(fun e he=>absurd he (by simp)),fun _=>rfl⟩;have I1:=I.laid (a:=s.heap.objs.size) (o:=.own (s.heap.objs.size+1)) (h':=s.heap.push PySem.W.emptyDict) (t':=s.toks) (fun b u q=>AC _ q) (AL _) ⟨_,e1⟩;refine I1.laid (a:=s.heap.objs.size+1) (o:=.ins C s.heap.objs.size []) (t':=s.toks) (fun b u q=>AC _ q) (Nat.le_of_eq (CW _ _)) ?_;have ne:s.heap.objs.size≠s.heap.objs.size+1:=AZ (Nat.lt_succ_self _);refine⟨by rw[B3 ne,A8],BI _,ne,e2,fun _=>none,(Heap.Ns1.of_empty e3).at fun o q=>AC _ q,fun _=>True.intro,fun y hy=>absurd rfl hy⟩
theorem Hn{prog:Program}{w:World}{env:Env}{e:Expr}{f:Str}{pos:Pos}{s:Shared}{Q:Value->Shared->Prop}(hb:attributeBase e f env (eval e env)=eval e env)
  (h:wpAny (model prog w) A (eval e env) (fun o s₁=>wpAny (model prog w) A (getAttr o f true) Q E s₁) E s):wpAny (model prog w) A (eval (.Attribute e f pos) env) Q E s :=
 Attribute_any_ h (by rw[arm_eval_Attribute,hb])
end
def Lx(K:PySem.W.Frag)(ta:TE)(f:Str):TE:=fun σ H Q=>ta σ H fun x H1=>∃a C dx fs v,x = .ref a/\H1 a=some (.ins C dx fs)/\Cls K C/\NoAttr K C f/\fs.lookup f=some v/\Q v H1
def Kr(K:PySem.W.Frag)(ta tv:TE)(f:Str):TS:=fun D σ H=>tv σ H fun y H1=>ta σ H1 fun x H2=>∃a C dx fs,x = .ref a/\H2 a=some (.ins C dx fs)/\Cls K C/\NoAttr K C f/\fs.length<1000 /\
 D.nx σ (upd H2 a (.ins C dx (K4 f y fs)))
section
variable{X:Cx}{o e value:Expr}{f:Str}{pos pos' tpos:Pos}{ta tv:TE}
theorem Jy(he:PE X e ta)(hb:attributeBase e f X.env (eval e X.env)=eval e X.env):PE X (.Attribute e f pos) (Lx X.K ta f):=by
 intro pins s σ H Q I h;refine Hn hb (thn (he pins s σ H _ I h) fun u s1 ⟨x,H1,I1,rx,a,C,dx,fs,v,ex,ea,c,n,l,q⟩=>?_);subst ex;obtain rfl:u=Value.ref a:=rx;exact Bs I1 ea c n l fun u' s2 I2 ru=>⟨v,H1,I2,ru,q⟩
theorem Jz(ha:PE X o ta)(hv:PE X value tv)(hs:swapsWith value (some (.Attribute o f pos')) pos.line X.env=pure false):PS X (.Assign [.Attribute o f pos'] value pos) (Kr X.K ta tv f):=by
 intro pins s σ H D I h;refine plainObj_wpAny_Assign_Attribute (thn (hv pins s σ H _ I h) fun u s1 ⟨y,H1,I1,ry,q⟩=>thn (ha pins s1 σ H1 _ I1 q) fun ov s2 ⟨x,H2,I2,rx,a,C,dx,fs,ex,ea,c,n,l,q2⟩=>?_) hs;subst ex;obtain rfl:ov=Value.ref a:=rx;exact Bd I2 ea c n l ry fun s3 I3=>⟨σ,_,I3,q2⟩
end
section
variable{X:Cx}{pins:List (Addr×Obj)}{σ:St}{H:Hp}{s:Shared}{A:Around}{E:Value->Shared->Prop}{Q:Value->Shared->Prop}{c:Value}{b:Bool}
inductive TyOf(K:PySem.W.Frag)(H:Hp):V->Value->Prop where
 | non:TyOf K H .non (.type "NoneType")
 | bl (x:Bool):TyOf K H (.bl x) (.type "bool")
 | int (i:Int):TyOf K H (.int i) (.type "int")
 | str (x:Str):TyOf K H (.str x) (.type "str")
 | flt (x:UInt64):TyOf K H (.flt x) (.type "float")
 | lst {a:Addr} {xs:List V} (e:H a=some (.lst xs)):TyOf K H (.ref a) (.type "list")
 | frz {a:Addr} {o:Obj} {xs:List V} (e:H a=some (.frz o (.lst xs))):TyOf K H (.ref a) (.type "list")
 | tup {a:Addr} {xs:List V} (e:H a=some (.tup xs)):TyOf K H (.ref a) (.type "tuple")
 | dK {a:Addr} {kvs:List (Key×V)} (e:H a=some (.dK kvs)):TyOf K H (.ref a) (.type "dict")
 | dT {a:Addr} {kvs:List (List Key×V)} (e:H a=some (.dT kvs)):TyOf K H (.ref a) (.type "dict")
 | ins {a C dx:Addr} {fs:List (Str×V)} (e:H a=some (.ins C dx fs)) (cl:Cls K C) (ha:PySem.W.findIn K (.ref C) "__class__" = some (some (.builtin "object.__class__")))
   (hn:PySem.W.specialIn K (.builtin "object.__class__") "__get__" = some (some (.builtin "getset_descriptor.__get__"))) (htk:PySem.W.takesIn K (.builtin "object.__class__")=some true)
   (hm:PySem.W.mroIn K C (.type "object")=some true):TyOf K H (.ref a) (.ref C)
theorem Cm{x:V}{u t:Value}(I:Inv X pins σ H s)(rx:RelV x u)(ty:TyOf X.K H x t)(e:PySem.W.kitOne X.K t c=some b)(h:∀tk,Q (.bool b) { s with toks:=tk }) :
  wpAny (model X.prog X.w) A (call (.builtin "isinstance") [u,c]) Q E s:=by
 cases ty with
 | non=>cases(show u=Value.none from rx);exact PySem.W.kia_one PySem.W.kitx_none I.kIn True.intro e (fun z=>nomatch z) h
 | bl y=>cases(show u=Value.bool y from rx);exact PySem.W.kia_one PySem.W.kitx_bool I.kIn True.intro e (fun z=>nomatch z) h
 | int i=>obtain⟨t,q⟩:=(show ∃t,u=Value.int i t from rx);cases q;exact PySem.W.kia_one PySem.W.kitx_int I.kIn True.intro e (fun z=>nomatch z) h
 | str y=>obtain⟨t,q⟩:=(show ∃t,u=Value.str y t from rx);cases q;exact PySem.W.kia_one PySem.W.kitx_str I.kIn True.intro e (fun z=>nomatch z) h
 | flt y=>obtain⟨t,q⟩:=(show ∃t,u=Value.float y t from rx);cases q;exact PySem.W.kia_one PySem.W.kitx_float I.kIn True.intro e (fun z=>nomatch z) h
 | @lst a xs ea =>
  cases(show u=Value.ref a from rx);obtain⟨_,_,n,_,h1⟩:=(show ObjOk X.prog X.w H s.heap a (.lst xs)from I.hok a _ ea);exact PySem.W.kia_one PySem.W.kitx_list I.kIn ⟨_,h1,rfl⟩ e (fun z=>nomatch z) h
 | @frz a ob xs ea =>
  cases(show u=Value.ref a from rx);obtain⟨_,_,_,n,_,h1⟩:=(show ObjOk X.prog X.w H s.heap a (.frz ob (.lst xs))from I.hok a _ ea);exact PySem.W.kia_one PySem.W.kitx_list I.kIn ⟨_,h1,rfl⟩ e (fun z=>nomatch z) h
 | @tup a xs ea =>
  cases(show u=Value.ref a from rx);obtain⟨_,_,_,p⟩:=(show ObjOk X.prog X.w H s.heap a (.tup xs)from I.hok a _ ea);obtain⟨o,h1,h2,_⟩:=p;exact PySem.W.kia_one PySem.W.kitx_tuple I.kIn ⟨o,h1,h2⟩ e (fun z=>nomatch z) h
 | @dK a kvs ea =>
  cases(show u=Value.ref a from rx);obtain⟨_,_,vs,_,p⟩:=(show ObjOk X.prog X.w H s.heap a (.dK kvs)from I.hok a _ ea);obtain⟨o,es,ep,h1,h2,_⟩:=p;exact PySem.W.kia_one PySem.W.kitx_dict I.kIn ⟨o,h1,h2.1⟩ e (fun z=>nomatch z) h
 | @dT a kvs ea =>
  cases(show u=Value.ref a from rx);obtain⟨_,_,xs,_,o,es,ep,h1,h2,_⟩:=(show ObjOk X.prog X.w H s.heap a (.dT kvs)from I.hok a _ ea);exact PySem.W.kia_one PySem.W.kitx_dict I.kIn ⟨o,h1,h2.1⟩ e (fun z=>nomatch z) h
 | @ins a C dx fs ea cl ha hn htk hm =>
  cases(show u=Value.ref a from rx);obtain⟨mA,O,_⟩:=w9 I.hok ea;obtain⟨od,J,_⟩:=O.look;exact PySem.W.kia_one (PySem.W.kitx_own (cl.get _) cl.hd ha hn htk hm) I.kIn J e (fun z=>nomatch z) h
end
structure Room(k:Nat)(A:Around):Prop where
 hd:A.handled=none
 dp:A.depth+3*k+5<recursionLimit
 un:A.units+16*k+200<cLine
theorem Room.mono{j k:Nat}{A:Around}(r:Room k A)(h:j<=k):Room j A:=⟨r.hd,by have:=r.dp;omega,by have:=r.un;omega⟩
theorem Room.deeper{k:Nat}{A:Around}(r:Room (k+1) A)(env:Env):Room k (A.deeper env) :=
 ⟨r.hd,by have:=r.dp;show A.depth+1+3*k+5<_;omega,by have:=r.un;show A.units+3+16*k+200<_;omega⟩
theorem Bo{A:Around}{C:Addr}{us:List Value}{kw:List (Str×Value)}:(A.under (.builtin "type.__call__" ⟨.ref C::us,kw⟩)).depth=A.depth+1:=by
 first | rfl | simp[Around.under,Code.weight,Code.isCreation,Code.isGuard,Code.isCaller,Code.frames,Code.isFrame,guardIds]
theorem Bf{A:Around}{C:Addr}{us:List Value}{kw:List (Str×Value)}:(A.under (.builtin "type.__call__" ⟨.ref C::us,kw⟩)).units=A.units+1:=by
 first | rfl | simp[Around.under,Code.cUnits,Code.frames,Code.isFrame]
theorem Room.make{k:Nat}{A:Around}(r:Room (k+1) A)(C:Addr)(us:List Value)(kw:List (Str×Value)):Room k (A.under (.builtin "type.__call__" ⟨.ref C::us,kw⟩)) :=
 ⟨r.hd,by have:=r.dp;rw[Bo];omega,by have:=r.un;rw[Bf];omega⟩
theorem Room.depth{k:Nat}{A:Around}(r:Room k A):A.depth<recursionLimit:=by have:=r.dp;omega
theorem Room.units{k:Nat}{A:Around}(r:Room k A):A.units+64<cLine:=by have:=r.un;omega
def Fl:TA:=fun _ H Q=>Q [] H
def V8(ta:TE)(tr:TA):TA:=fun σ H Q=>ta σ H fun x H1=>tr σ H1 fun xs H2=>Q (x::xs) H2
section
variable{X:Cx}{e:Expr}{es:List Expr}{te:TE}{t:TA}{pos:Pos}
theorem A9:PA X [] Fl:=fun _ _ _ _ H Q I h=>Calls.spliced_nil ⟨[],H,I,.nil,h⟩
theorem A7(ha:PE X e te)(hr:PA X es t)(hs:starEach (e::es) X.env =(false,eval e X.env)::starEach es X.env:=by rfl):PA X (e::es) (V8 te t):=by
 intro pos pins s σ H Q I h;rw[hs];show wpAny _ _ (spliced ((false,eval e X.env)::backTo pos (starEach es X.env))) _ _ s;refine Calls.spliced_cons (thn (ha pins s σ H _ I h) fun u s1 ⟨x,H1,I1,r1,q1⟩=>?_);exact thn (hr pos pins s1 σ H1 _ I1 q1) fun us s2 ⟨xs,H2,I2,r2,q2⟩=>⟨x::xs,H2,I2,.cons r1 r2,q2⟩
def Mq(t:TA):TE:=fun σ H Q=>t σ H fun xs H1=>xs.length<=sizeLine/\∀p,H1 p=none->Q (.ref p) (upd H1 p (.tup xs))
def Lf(t:TA):TE:=fun σ H Q=>t σ H fun xs H1=>xs.length<=sizeLine/\∀p,H1 p=none->Q (.ref p) (upd H1 p (.lst xs))
theorem Q7{x1}(h:PA X es t):PE X (.Tuple es x1 pos) (Mq t):=by
 intro pins s σ H Q I hq;refine wpAny_Tuple_spliced (thn (h pos pins s σ H _ I hq) fun us s1 ⟨xs,H1,I1,r,z,q⟩=>⟨by rw[<-r.length];exact z,?_⟩);have hf:H1 s1.heap.objs.size=none:=I1.hok.fresh (AL _);refine⟨.ref s1.heap.objs.size,upd H1 s1.heap.objs.size (.tup xs),I1.laid (t':=s1.toks) (fun b u e=>AC _ e) (AL _) ?_,rfl,q _ hf⟩;exact⟨z,us,r,⟨_,BE _ rfl,rfl,_,rfl⟩⟩
theorem D6(h:PA X es t):PE X (.List es pos) (Lf t):=by
 intro pins s σ H Q I hq;refine wpAny_List_spliced (thn (h pos pins s σ H _ I hq) fun us s1 ⟨xs,H1,I1,r,z,q⟩=>⟨by rw[<-r.length];exact z,?_⟩);have hf:H1 s1.heap.objs.size=none:=I1.hok.fresh (AL _);refine⟨.ref s1.heap.objs.size,upd H1 s1.heap.objs.size (.lst xs),I1.laid (t':=s1.toks) (fun b u e=>AC _ e) (AL _) ?_,rfl,q _ hf⟩;exact⟨z,us,0,r,BE _ rfl⟩
end
abbrev Sp:=List V->Hp->VK->XK->Prop
abbrev CXT:=List Env->Hp->Shared->XK->Value->Shared->Prop
structure Env0(P:Program)(w:World)(K:PySem.W.Frag)(mg:Str->Option Value)(base:Heap)(A:Around)(outer:List Env)(s:Shared)(H:Hp):Prop where
 frames:A.frames=some outer
 mod:Mod K mg base
 bs:∀b o,base.get? b=some o->s.heap.get? b=some o/\H b=none
 bsz:base.objs.size<=s.heap.objs.size
 funs:s.heap.FunFrames base outer
 frf:∀b∈frs outer,H b=none
 hok:HOk P w H s.heap
 bare:AllBare s.gens
def CE(outer:List Env)(P:Program)(w:World)(H:Hp)(s:Shared)(Q:VK)(u:Value)(s':Shared):Prop :=
 ∃v H',s'.os=s.os/\AllBare s'.gens/\Un (frs outer) [] H H' s.heap s'.heap/\HOk P w H' s'.heap/\RelV v u/\Q v H'
def CR(CX:CXT)(outer:List Env)(P:Program)(w:World)(H:Hp)(s:Shared)(Q:VK)(E:XK)(r:Result)(s':Shared):Prop :=
 match r with
 | .ok (.ret u)=>CE outer P w H s Q u s'
 | .ok _=>False
 | .error e=>CX outer H s E e s'
structure FnOk(P:Program)(w:World)(K:PySem.W.Frag)(mg:Str->Option Value)(base:Heap)(CX:CXT)(k:Nat)(f:Addr)(fd:FuncData)(ps:List Str)(sp:Sp):Prop where
 len:∀vs H Q E,sp vs H Q E->vs.length=ps.length
 run:∀(A:Around) (outer:List Env) (s:Shared) (H:Hp) (args:Args) (us:List Value) (vs:List V) (Q:VK) (E:XK),Room k A->Env0 P w K mg base A outer s H->BindsTo s fd args (ps.zip us)->Vals vs us->sp vs H Q E ->
  codeAny (model P w) A (.call (.ref f) args) (CR CX outer P w H s Q E) s
theorem FnOk.mono{P:Program}{w:World}{K:PySem.W.Frag}{mg:Str->Option Value}{base:Heap}{CX:CXT}{j k:Nat}{f:Addr}{fd:FuncData}{ps:List Str}{sp:Sp}(F:FnOk P w K mg base CX j f fd ps sp)(h:j<=k) :
  FnOk P w K mg base CX k f fd ps sp:=⟨F.len,fun A outer s H args us vs Q E hr=>F.run A outer s H args us vs Q E (hr.mono h)⟩
theorem Env0.make{P:Program}{w:World}{K:PySem.W.Frag}{mg:Str->Option Value}{base:Heap}{A:Around}{outer:List Env}{s:Shared}{H:Hp}(e:Env0 P w K mg base A outer s H)(C:Addr)(us:List Value)(kw:List (Str×Value)) :
  Env0 P w K mg base (A.under (.builtin "type.__call__" ⟨.ref C::us,kw⟩)) outer s H:=⟨by first | exact e.frames | (simpa [Around.under,Code.envs,Code.isFrame,pushEnvs] using e.frames),e.mod,e.bs,e.bsz,e.funs,e.frf,e.hok,e.bare⟩
section
variable{X:Cx}{pins:List (Addr×Obj)}{σ:St}{H:Hp}{s s':Shared}
theorem Inv.env0(I:Inv X pins σ H s):Env0 X.prog X.w X.K X.mg X.base X.A X.stack s H :=
 ⟨I.ok.frames,I.ok.mod,I.bs,BK I.ok.bsz I.sz,I.stack,I.stkFree,I.hok,I.bare⟩
theorem Inv.after{Q:VK}{u:Value}(I:Inv X pins σ H s)(h:CE X.stack X.prog X.w H s Q u s'):EP X pins σ Q u s':=by
 obtain⟨v,H',os,bare,un,hok,r,q⟩:=h;obtain⟨hh,g,d,t,os'⟩:=s';obtain rfl:os'=s.os:=os;exact⟨v,H',I.call (h':=hh) (g':=g) (d':=d) (t':=t) (ch:=[]) un hok bare (fun b z=>absurd z (by simp)),r,q⟩
end
def Is(sp:Sp)(dvs:List V)(E:XK)(t:TA):TE:=fun σ H Q=>t σ H fun vs H1=>sp (vs++dvs) H1 Q E
def La(C:Addr)(sp:Sp)(dvs:List V)(E:XK)(t:TA):TE:=fun σ H Q=>t σ H fun vs H1=>∀x dx,H1 x=none->H1 dx=none->dx≠x ->
 sp (.ref x ::(vs++dvs)) (upd (upd H1 dx (.own x)) x (.ins C dx [])) (fun v H2=>v = .non/\Q (.ref x) H2) E
def Binds(K:PySem.W.Frag)(fd:FuncData)(ps:List Str)(ds:List Value):Prop :=
 ∀(s:Shared) (us:List Value),K.In s.heap->(us++ds).length=ps.length->BindsTo s fd ⟨us,[]⟩ (ps.zip (us++ds))
theorem Binds.all{K:PySem.W.Frag}{fd:FuncData}{ps:List Str}(h:∀us:List Value,us.length=ps.length->bindArgs fd ⟨us,[]⟩=pure (ps.zip us)):Binds K fd ps []:=fun s us _ hl=>by
 rw[CB]at hl⊢;exact .of_eq (h us hl)
def p7(CX:CXT)(X:Cx)(E:XK):Prop:=∀(pins:List (Addr×Obj)) (σ:St) (H:Hp) (s:Shared) (e:Value) (s':Shared),Inv X pins σ H s->CX X.stack H s E e s'->X.xe e s'
section
variable{X:Cx}{CX:CXT}{k:Nat}{f C:Addr}{fd:FuncData}{ps:List Str}{sp:Sp}{dvs:List V}{ds:List Value}{E:XK}{x m:Str}{p pos apos:Pos}{e o:Expr}{es:List Expr}{ta:TE}{t:TA}
theorem Gf{pins:List (Addr×Obj)}{σ:St}{H:Hp}{s:Shared}{Q:VK}{us:List Value}{vs:List V}(F:FnOk X.prog X.w X.K X.mg X.base CX k f fd ps sp)(hr:Room k X.A)(hb:Binds X.K fd ps ds)(hd:Vals dvs ds)(hx:p7 CX X E)
  (I:Inv X pins σ H s) (r:Vals vs us) (h:sp (vs++dvs) H Q E):wpAny (model X.prog X.w) X.A (call (.ref f) us) (EP X pins σ Q) X.xe s:=by
 have r2:Vals (vs++dvs) (us++ds):=r.append hd;have hl:(us++ds).length=ps.length:=by rw[<-r2.length];exact F.len _ _ _ _ h
 refine wpAny_call (CM (F.run X.A X.stack s H ⟨us,[]⟩ (us++ds) (vs++dvs) Q E hr I.env0 (hb s us I.kIn hl) r2 h) fun r s' hq=>?_);cases r with
 | error e=>exact hx pins σ H s e s' I hq
 | ok fl =>
  cases fl with
  | ret u=>exact I.after hq
  | next=>exact False.elim hq
  | brk=>exact False.elim hq
  | cont=>exact False.elim hq
theorem Hd(F:FnOk X.prog X.w X.K X.mg X.base CX k f fd ps sp)(hr:Room k X.A)(hg:Gl X x)(hm:X.mg x=some (.ref f))(hk:PySem.W.keepIn X.K (.ref f)=true)(hb:Binds X.K fd ps ds)(hd:Vals dvs ds)(hx:p7 CX X E)
  (ha:PA X (e::es) t) (hdb:(x ==("__debug__":Str))=false:=by decide) (he:starEach (e::es) X.env =(false,eval e X.env)::starEach es X.env:=by rfl) (hpl:(backTo pos (starEach es X.env)).any (·.1)=false:=by rfl) :
  PE X (.Call (.Name x p) (e::es) [] pos) (Is sp dvs E t):=by
 intro pins s σ H Q I h;refine CA (i5 I hg hm ?_ hdb);refine PySem.W.callWith_K (h₀:=X.base) I.ok.mod.kin hk (thn (ha pos pins s σ H _ I h) fun us s1 ⟨vs,H1,I1,r,q⟩=>⟨I1.kIn,?_⟩) he hpl;exact Gf F hr hb hd hx I1 r q
structure Mk(K:PySem.W.Frag)(C f:Addr):Prop where
 makes:PySem.W.makesIn K C=true
 init:PySem.W.findIn K (.ref C) "__init__" = some (some (.ref f))
 fn:PySem.W.isFn K (.ref f)=true
 kp:PySem.W.keepIn K (.ref C)=true
theorem Em{pins:List (Addr×Obj)}{σ:St}{H:Hp}{s:Shared}{Q:VK}{us:List Value}{vs:List V}(M:Mk X.K C f)(F:FnOk X.prog X.w X.K X.mg X.base CX k f fd ps sp)(hr:Room (k+1) X.A)(hb:Binds X.K fd ps ds)(hd:Vals dvs ds)
  (hx:p7 CX X E) (I:Inv X pins σ H s) (r:Vals vs us)
  (h:∀x dx,H x=none->H dx=none->dx≠x->sp (.ref x ::(vs++dvs)) (upd (upd H dx (.own x)) x (.ins C dx [])) (fun v H2=>v = .non/\Q (.ref x) H2) E) :
  wpAny (model X.prog X.w) X.A (call (.ref C) us) (EP X pins σ Q) X.xe s:=by
 have hq:=h (s.heap.objs.size+1) s.heap.objs.size (I.hok.fresh (DA _)) (I.hok.fresh (AL _)) (AZ (Nat.lt_succ_self _));have I2:=Inv.made (C:=C) I;have r2:Vals (V.ref (s.heap.objs.size+1) ::(vs++dvs)) (Value.ref (s.heap.objs.size+1) ::(us++ds)):=.cons rfl (r.append hd);have hl:(Value.ref (s.heap.objs.size+1)::us++ds).length=ps.length:=by
  have e:=r2.length;rw[F.len _ _ _ _ hq]at e;exact e.symm
 refine wpAny_call (Ff (f:=f) I.kIn M.makes M.init (beq_iff_eq.mp M.fn) (CM (F.run _ X.stack _ _ ⟨Value.ref (s.heap.objs.size+1)::us,[]⟩ (Value.ref (s.heap.objs.size+1) ::(us++ds)) _ _ E (hr.make C us [])
  (I2.env0.make C us []) (hb _ (Value.ref (s.heap.objs.size+1)::us) I2.kIn hl) r2 hq) fun r s' hq'=>?_))
 cases r with
 | error e=>exact hx pins σ _ _ e s' I2 hq'
 | ok fl =>
  cases fl with
  | ret u =>
   obtain⟨v,H',I3,rv,ev,q3⟩:=I2.after hq';subst ev;exact⟨rv,⟨V.ref (s.heap.objs.size+1),H',I3,rfl,q3⟩⟩
  | next=>exact False.elim hq'
  | brk=>exact False.elim hq'
  | cont=>exact False.elim hq'
theorem Ds(M:Mk X.K C f)(F:FnOk X.prog X.w X.K X.mg X.base CX k f fd ps sp)(hr:Room (k+1) X.A)(hg:Gl X x)(hm:X.mg x=some (.ref C))(hb:Binds X.K fd ps ds)(hd:Vals dvs ds)(hx:p7 CX X E)
  (ha:PA X (e::es) t) (hdb:(x ==("__debug__":Str))=false:=by decide) (he:starEach (e::es) X.env =(false,eval e X.env)::starEach es X.env:=by rfl) (hpl:(backTo pos (starEach es X.env)).any (·.1)=false:=by rfl) :
  PE X (.Call (.Name x p) (e::es) [] pos) (La C sp dvs E t):=by
 intro pins s σ H Q I h;refine CA (i5 I hg hm ?_ hdb);refine PySem.W.callWith_K (h₀:=X.base) I.ok.mod.kin M.kp (thn (ha pos pins s σ H _ I h) fun us s1 ⟨vs,H1,I1,r,q⟩=>⟨I1.kIn,?_⟩) he hpl;exact Em M F hr hb hd hx I1 r q
end
structure FnScope(N P:List Str)(sc:Scope):Prop where
 kind:sc.kind = .function
 co:sc.isCoroutine=false
 gen:sc.isGenerator=false
 nd:N.Nodup
 pre:N.take P.length=P
 par:∀x∈P,sc.names.lookup x=some .local\/sc.names.lookup x=some .cell
 nofree:∀y∈sc.names,y.2≠ .free
theorem t6{kindOf:Str->Option NameKind}{x:Str}:∀{binds:List (Str×Value)} {m:Str->Option Value},(∀v,(x,v)∉binds)->bindL kindOf binds m x=m x
 | [],_,_=>rfl
 | (n,v)::r,m,h=>by
  unfold bindL;rw[t6 fun w hw=>h w (AV _ hw)];split
  .have:x≠n:=by rintro rfl;exact h v BF
   simp[this]
  .rfl
theorem l0{kindOf:Str->Option NameKind}{x:Str}:∀{binds:List (Str×Value)} {m:Str->Option Value},(∀v,(x,v)∉binds)->bindC kindOf binds m x=m x
 | [],_,_=>rfl
 | (n,v)::r,m,h=>by
  unfold bindC;rw[l0 fun w hw=>h w (AV _ hw)];split
  .rfl
  .have:x≠n:=by rintro rfl;exact h v BF
   simp[this]
theorem j6{kindOf:Str->Option NameKind}{x:Str}{v:Value}:∀{P:List Str} {vs:List Value} {i:Nat} {m:Str->Option Value},P.Nodup->P[i]?=some x->vs[i]?=some v->kindOf x=some .local ->
  bindL kindOf (P.zip vs) m x=some v
 | [],_,_,_,_,h,_,_=>by simp at h
 | _::_,[],_,_,_,_,h,_=>by simp at h
 | p::P,w::vs,0,m,nd,h1,h2,hk=>by
  simp at h1 h2;subst h1;subst h2;show bindL kindOf ((p,w)::P.zip vs) m p=_;unfold bindL;rw[t6 fun v hv=>(BR.mp nd).1 (CT hv).1,BJ hk];simp
 | p::P,w::vs,i+1,m,nd,h1,h2,hk=>by
  show bindL kindOf ((p,w)::P.zip vs) m x=_;unfold bindL;exact j6 (i:=i) (BR.mp nd).2 (by simpa using h1) (by simpa using h2) hk
theorem p0{kindOf:Str->Option NameKind}{x:Str}{v:Value}:∀{P:List Str} {vs:List Value} {i:Nat} {m:Str->Option Value},P.Nodup->P[i]?=some x->vs[i]?=some v->kindOf x≠some .local ->
  bindC kindOf (P.zip vs) m x=some v
 | [],_,_,_,_,h,_,_=>by simp at h
 | _::_,[],_,_,_,_,h,_=>by simp at h
 | p::P,w::vs,0,m,nd,h1,h2,hk=>by
  simp at h1 h2;subst h1;subst h2;show bindC kindOf ((p,w)::P.zip vs) m p=_;unfold bindC;rw[l0 fun v hv=>(BR.mp nd).1 (CT hv).1,BH hk];simp
 | p::P,w::vs,i+1,m,nd,h1,h2,hk=>by
  show bindC kindOf ((p,w)::P.zip vs) m x=_;unfold bindC;exact p0 (i:=i) (BR.mp nd).2 (by simpa using h1) (by simpa using h2) hk
def f8(N:List Str)(vs:List V):St:=vs.map some++List.replicate (N.length-vs.length) none
def Ho(CX:CXT)(P:Program)(w:World)(K:PySem.W.Frag)(mg:Str->Option Value)(base:Heap)(N:List Str)(qual:Str)(scope:Scope)(f:Addr)(cd:Value)(A:Around)(outer:List Env)(s:Shared)(H:Hp)(E:XK):Cx where
 prog:=P
 w:=w
 K:=K
 mg:=mg
 base:=base
 A:=A.deeper (envOfC qual scope s.heap.objs.size f cd)
 N:=N
 s₀:=s
 H₀:=H
 env:=envOfC qual scope s.heap.objs.size f cd
 outer:=outer
 stack:=envOfC qual scope s.heap.objs.size f cd::outer
 ex:=[]
 calm:=true
 fn:=fun _=>true
 pn:=[]
 xe:=fun e s'=>wpAny (model P w) (A.deeper (envOfC qual scope s.heap.objs.size f cd)) (leaving (envOfC qual scope s.heap.objs.size f cd) e) (fun _ s''=>CX outer H s E e s'') (fun e' s''=>CX outer H s E e' s'') s'
theorem Af{sc:Scope}{n:Nat}{x:Str}(h:sc.names.lookup x=some .cell):∃c,(cellsFrom n sc.names []).lookup x=some c:=by
 have q:=PySem.W.cellsFrom_some sc.names n [] (.inl h);exact CD.mp q
theorem Cs{CX:CXT}{P:Program}{w:World}{K:PySem.W.Frag}{mg:Str->Option Value}{base:Heap}{N ps:List Str}{qual:Str}{scope:Scope}{f:Addr}{cd:Value}{A:Around}{outer:List Env}{s s1:Shared}{H:Hp}{E:XK}{us:List Value}{vs:List V}
  (S:FnScope N ps scope) (hd:A.handled=none) (e0:Env0 P w K mg base A outer s H) (hl:vs.length=ps.length) (r:Vals vs us)
  (x:InCallC s s.heap.objs.size (bindL (envOfC qual scope s.heap.objs.size f cd).kindOf (ps.zip us) fun _=>none) (cellsFrom (s.heap.objs.size+1) scope.names []) (bindC (envOfC qual scope s.heap.objs.size f cd).kindOf (ps.zip us) fun _=>none) s1) :
  Inv (Ho CX P w K mg base N qual scope f cd A outer s H E) [] (f8 N vs) H s1:=by
 have hpl:ps.length<=N.length:=by have:=congrArg List.length S.pre;rw[AW]at this;omega
 obtain⟨h1,tk,rfl,hk⟩:=x.done;have noA:∀b:Addr,b∉(Ho CX P w K mg base N qual scope f cd A outer s H E).ex:=fun b z=>absurd (show b∈([]:List Addr)from z) (by simp);refine⟨⟨e0.mod,S.kind,rfl,rfl,AL _,fun y z c h1 h2=>?_,fun y hy=>?_,fun y c _ h=>?_,fun _=>hd,Around.frames_deeper e0.frames,.inr ⟨rfl,rfl⟩,fun b z=>absurd z (noA b),e0.bs,e0.bsz,fun b _ _=>noA b,fun b z=>absurd z (noA b),e0.funs,e0.frf⟩,
  rfl,e0.bare,Un.kept hk,⟨_,x.toInCall.ns,fun i y v h1 h2 h3=>?_⟩,fun y c h=>⟨_,x.cell y c h⟩,e0.hok.fresh (AL _),fun y c h=>?_,fun p hp=>absurd (show p∈([]:List (Addr×Obj))from hp) (by simp),e0.hok.kept hk,?_⟩
 .exact name_of_addr x.apart (PySem.mem_of_lookup h1) (PySem.mem_of_lookup h2)
 .have hy:scope.names.lookup y=some .cell\/scope.names.lookup y=some .free:=hy;rcases hy with hy | hy
  .exact Af hy
  .exact absurd rfl (S.nofree _ (PySem.mem_of_lookup hy))
 .exact BX (x.above y c (PySem.mem_of_lookup h))
 .have hi:i<vs.length:=by
   unfold f8 at h2;by_cases hi:i<vs.length
   .exact hi
   .rw[CJ (by simpa using hi)]at h2;rw[List.getElem?_replicate]at h2;split at h2<;>cases h2
  have ha:vs[i]?=some v:=by
   unfold f8 at h2;rw[CN (by simpa using hi),AG]at h2;cases e:vs[i]? with
   | none=>rw[e]at h2;cases h2
   | some a=>rw[e]at h2;cases h2;rfl
  obtain⟨u,hu,rv⟩:=r.get ha;have hp:ps[i]?=some y:=by
   rw[<-S.pre,List.getElem?_take_of_lt (by omega)];exact h1
  have ndP:ps.Nodup:=by rw[<-S.pre];exact S.nd.sublist (List.take_sublist _ _)
  refine⟨u,rv,?_⟩;rcases S.par y (AM hp)with k | k
  .exact .inl ⟨k,j6 ndP hp hu k⟩
  .obtain⟨c,e⟩:=Af (n:=s.heap.objs.size+1) k;refine .inr ⟨.inl k,c,e,?_⟩;have q:=x.cell y c e;rw[p0 ndP hp hu (by show scope.names.lookup y≠_;rw[k];decide)]at q;exact q
 .exact e0.hok.fresh (BX (x.above y c (PySem.mem_of_lookup h)))
 .unfold f8;show _=N.length;rw[AO,AA,List.length_replicate];omega
theorem Jt{CX:CXT}{P:Program}{w:World}{K:PySem.W.Frag}{mg:Str->Option Value}{base:Heap}{k:Nat}{f:Addr}{name qual:Str}{params:Arguments}{body:List Stmt}{scope:Scope}{dV kV doc pm cdv ct oc:Value}{an od:Option Addr}
  {osl:Array (Option Value)} {N ps:List Str} {sp:Sp} (lk:K.lookup f=some ⟨oc,od,.func (PySem.W.fnOf name qual params body scope dV kV doc pm an cdv ct),osl⟩) (hcd:PySem.W.codeIn K cdv qual=true) (S:FnScope N ps scope)
  (len:∀vs H Q E,sp vs H Q E->vs.length=ps.length)
  (hbody:∀(A:Around) (outer:List Env) (s:Shared) (H:Hp) (vs:List V) (Q:VK) (E:XK),Room k (A.deeper (envOfC qual scope s.heap.objs.size f cdv))->sp vs H Q E ->
   ∃t,PSs (Ho CX P w K mg base N qual scope f cdv A outer s H E) body t/\t { nx:=fun _ H'=>Q .non H',rt:=Q } (f8 N vs) H) :
  FnOk P w K mg base CX (k+1) f (PySem.W.fnOf name qual params body scope dV kV doc pm an cdv ct) ps sp:=by
 refine⟨len,fun A outer s H args us vs Q E hr e0 hb r hsp=>?_⟩;have hl:=len _ _ _ _ hsp;have KX:K.In s.heap:=e0.mod.kin.keeps fun b o e=>(e0.bs b o e).1;have lim:s.heap.NoLimit:=e0.mod.nolimit.keeps fun b o e=>(e0.bs b o e).1;have hkind:∀y∈ps.zip us,scope.names.lookup y.1=some .local\/(scope.names.lookup y.1=some .cell/\((cellsFrom (s.heap.objs.size+1) scope.names []).lookup y.1).isSome=true):=fun⟨n,v⟩ hy=>by
  rcases S.par n (CT hy).1 with q | q
  .exact .inl q
  .exact .inr ⟨q,PySem.W.cellsFrom_some _ _ _ (.inl q)⟩
 refine codeAny_call_function hr.depth (KX _ _ lk) rfl S.co S.gen rfl (PySem.W.codeRec_of KX hcd) (hb _ _ _ _ ?_);refine wpAny_newFunctionEnv_cells S.kind hkind fun env he s1 x=>?_;subst he;refine⟨lim.keeps x.toInCall.keep,codeAny_func ?_⟩;obtain⟨t,ht,hq⟩:=hbody A outer s H vs Q E (hr.deeper _) hsp;have I:Inv (Ho CX P w K mg base N qual scope f cdv A outer s H E) [] (f8 N vs) H s1:=Cs S hr.hd e0 hl r x;refine BS (ht [] s1 (f8 N vs) H _ I hq) (fun fl s' hs=>?_) fun e s' hs=>hs;have fin:∀{σ':St} {H':Hp} {v:V} {u:Value},Inv (Ho CX P w K mg base N qual scope f cdv A outer s H E) [] σ' H' s'->RelV v u->Q v H'->CE outer P w H s Q u s' :=
  fun{σ' H' v u} J rv q=>⟨v,H',J.os,J.bare,J.base,J.hok,rv,q⟩
 cases fl with
 | ret u =>
  obtain⟨v,σ',H',J,rv,q⟩:=hs;exact fin J rv q
 | next =>
  obtain⟨σ',H',J,q⟩:=hs;exact fin (v:=V.non) (u:=Value.none) J rfl q
 | brk =>
  obtain⟨_,_,_,q⟩:=hs;exact False.elim q
 | cont =>
  obtain⟨_,_,_,q⟩:=hs;exact False.elim q
section
variable{X:Cx}{x:Str}{p pos:Pos}{e:Expr}{es:List Expr}{t:TA}{id T:String}{r:List V->Hp->VK->Prop}
def tCB(r:List V->Hp->VK->Prop)(t:TA):TE:=fun σ H Q=>t σ H fun vs H1=>r vs H1 Q
theorem Fh(hc:J0 X (.builtin id) r)(hg:Gl X x)(hm:X.mg x=none)(hv:bootBuiltins x=some (.builtin id))(ha:PA X (e::es) t)(hn:x≠ "__name__":=by decide)(hdb:(x ==("__debug__":Str))=false:=by decide)
  (he:starEach (e::es) X.env =(false,eval e X.env)::starEach es X.env:=by rfl) (hpl:(backTo pos (starEach es X.env)).any (·.1)=false:=by rfl):PE X (.Call (.Name x p) (e::es) [] pos) (tCB r t):=by
 intro pins s σ H Q I h;refine CA (o9 I hg hm hv ?_ hn hdb);exact PyProof.Rows.callWith_builtin1 (thn (ha pos pins s σ H _ I h) fun us s1 ⟨vs,H1,I1,r1,q1⟩=>hc pins s1 σ H1 vs us Q I1 r1 q1) he hpl
theorem Di(hc:J0 X (.type T) r)(hg:Gl X x)(hm:X.mg x=none)(hv:bootBuiltins x=some (.type T))(ha:PA X (e::es) t)(hn:x≠ "__name__":=by decide)(hdb:(x ==("__debug__":Str))=false:=by decide)
  (he:starEach (e::es) X.env =(false,eval e X.env)::starEach es X.env:=by rfl) (hpl:(backTo pos (starEach es X.env)).any (·.1)=false:=by rfl):PE X (.Call (.Name x p) (e::es) [] pos) (tCB r t):=by
 intro pins s σ H Q I h;refine CA (o9 I hg hm hv ?_ hn hdb);exact PyProof.Rows.callWith_type1 (thn (ha pos pins s σ H _ I h) fun us s1 ⟨vs,H1,I1,r1,q1⟩=>hc pins s1 σ H1 vs us Q I1 r1 q1) he hpl
end
end L2
namespace HT
open PySem PyProof.Rows
section
variable{prog:Program}{w:World}{A:Around}{E:Value->Shared->Prop}{s:Shared}
def sIx(n d:Nat):Option Int->Nat
 | none=>d
 | some v=>if v<0 then(v +(n:Int)).toNat else min v.toNat n
theorem sIx_none(n d:Nat):sIx n d none=d:=rfl
theorem sIx_nat(n d k:Nat):sIx n d (some (k:Int))=min k n:=by
 show(if(k:Int)<0 then((k:Int) +(n:Int)).toNat else min (k:Int).toNat n)=min k n;rw[BH (by omega),BV]
end
end HT
namespace L2
open PySem PySem.Spec PyProof.Rows
abbrev TO:=St->Hp->(Option Int->Hp->Prop)->Prop
def PO(X:Cx)(e:Option Expr)(t:TO):Prop :=
 ∀(pins:List (Addr×Obj)) (s:Shared) (σ:St) (H:Hp) (Q:Option Int->Hp->Prop),Inv X pins σ H s->t σ H Q ->
  wpAny (model X.prog X.w) X.A (evalPart e X.env) (fun u s'=>∃o H',Inv X pins σ H' s'/\IsPart u o/\Q o H') X.xe s
def Hb:TO:=fun _ H Q=>Q none H
def Lm(t:TE):TO:=fun σ H Q=>t σ H fun x H1=>∃i,x = .int i/\Q (some i) H1
section
variable{X:Cx}{e:Expr}{te:TE}{lo hi:Option Expr}{tl th:TO}{pos p2:Pos}
theorem S5:PO X none Hb:=by
 intro pins s σ H Q I h;rw[evalPart_none];exact AS ⟨none,H,I,.none,h⟩
theorem S7(h:PE X e te):PO X (some e) (Lm te):=by
 intro pins s σ H Q I hw;rw[evalPart_some];refine thn (h pins s σ H _ I hw) fun u s1 ⟨x,H1,I1,r1,q1⟩=>?_;obtain⟨i,rfl,q⟩:=q1;obtain⟨t,rfl⟩:=r1;exact⟨some i,H1,I1,.int i t,q⟩
def SlR(X:Cx)(r:V->Option Int->Option Int->Hp->VK->Prop):Prop :=
 ∀(pins:List (Addr×Obj)) (s:Shared) (σ:St) (H:Hp) (x:V) (v vl vu:Value) (lo hi:Option Int) (sl:Addr) (Q:VK),Inv X pins σ H s->RelV x v->s.heap.IsSliceOf sl vl vu .none->IsPart vl lo->IsPart vu hi->r x lo hi H Q ->
  ∃T id,typeLookup (.type T) "__getitem__" = pure (some (.builtin id))/\s.TypeIs v T/\wpAny (model X.prog X.w) X.A (getItem v (.ref sl)) (EP X pins σ Q) X.xe s
def tSl(r:V->Option Int->Option Int->Hp->VK->Prop)(te:TE)(tl th:TO):TE:=fun σ H Q=>te σ H fun x H1=>tl σ H1 fun l H2=>th σ H2 fun u H3=>r x l u H3 Q
theorem O4{r:V->Option Int->Option Int->Hp->VK->Prop}(hr:SlR X r)(he:PE X e te)(hl:PO X lo tl)(hu:PO X hi th):PE X (.Subscript e (.Slice lo hi none p2) pos) (tSl r te tl th):=by
 intro pins s σ H Q I h;refine Subscript_ (thn (he pins s σ H _ I h) fun v s1 ⟨x,H1,I1,r1,q1⟩=>?_);refine wpAny_Slice (thn (hl pins s1 σ H1 _ I1 q1) fun vl s2 ⟨l,H2,I2,pl,q2⟩=>thn (hu pins s2 σ H2 _ I2 q2) fun vu s3 ⟨u,H3,I3,pu,q3⟩=>?_);rw[evalPart_none];refine AS ?_;have I4:Inv X pins σ H3 { s3 with heap:=s3.heap.push { cls:=.type "slice",data:=.fields #[vl,vu,.none] } }:=I3.kept (t':=s3.toks) fun b ob q=>AC _ q;obtain⟨T,id,hT,ht,hg⟩:=hr pins { s3 with heap:=s3.heap.push { cls:=.type "slice",data:=.fields #[vl,vu,.none] } } σ H3 x v vl vu l u s3.heap.objs.size Q I4 r1 (Heap.IsSliceOf.new ..) pl pu q3;show wpAny (model X.prog X.w) X.A (subscriptTail e (.Slice lo hi none p2) v (.ref s3.heap.objs.size)) (EP X pins σ Q) X.xe { s3 with heap:=s3.heap.push { cls:=.type "slice",data:=.fields #[vl,vu,.none] } };exact tail_any (ops:=[.ref s3.heap.objs.size,v]) ht hT hg (by with_unfolding_all rfl)
def R8(xs:List V)(lo hi:Option Int):List V:=(xs.drop (HT.sIx xs.length 0 lo)).take (HT.sIx xs.length xs.length hi-HT.sIx xs.length 0 lo)
theorem x5(xs:List V)(lo hi:Option Int):(R8 xs lo hi).length<=xs.length:=by
 unfold R8;rw[AW,BZ];omega
end
def ixN(n:Nat)(i:Int):Option Nat:=if 0<=i then(if i<n then some i.toNat else none)else if -(n:Int)<=i then some (i+n).toNat else none
def atI{α:Type}(xs:List α)(i:Int):Option α:=(ixN xs.length i).bind fun j=>xs[j]?
theorem Cn{n:Nat}{i:Int}{j:Nat}(h:ixN n i=some j):seqIndex? i n=some j/\j<n/\-(n:Int)<=i/\i<n:=by
 unfold ixN at h;by_cases h0:0<=i
 .rw[BJ h0]at h;by_cases h1:i<n
  .rw[BJ h1]at h;have e:i.toNat=j:=BN h;exact⟨by rw[seqIndex_of h0 h1,e],by omega,by omega,h1⟩
  .rw[BH h1]at h;cases h
 .rw[BH h0]at h;by_cases h1:-(n:Int)<=i
  .rw[BJ h1]at h;have e:(i+n).toNat=j:=BN h;exact⟨by rw[seqIndex_neg (by omega) h1,e],by omega,h1,by omega⟩
  .rw[BH h1]at h;cases h
theorem w8{α:Type}{xs:List α}{i:Int}{v:α}(h:atI xs i=some v):∃j,seqIndex? i xs.length=some j/\xs[j]?=some v/\j<xs.length/\-(xs.length:Int)<=i/\i<xs.length:=by
 unfold atI at h;cases e:ixN xs.length i with
 | none=>rw[e]at h;cases h
 | some j =>
  rw[e]at h;obtain⟨h1,h2,h3,h4⟩:=Cn e;exact⟨j,h1,h,h2,h3,h4⟩
theorem B5{α:Type}{xs:List α}{j:Nat}{v:α}(h:xs[j]?=some v):atI xs (j:Int)=some v:=by
 have hj:j<xs.length:=(AR.mp h).1;have e:ixN xs.length (j:Int)=some j:=by
  unfold ixN;rw[BJ (by omega),BJ (by omega)];simp
 unfold atI;rw[e];exact h
def Gs(b:Expr):Prop:=∀o i,subscripted b false o i=operate [o,i] (getItem o i)
def IxR(X:Cx)(r:R2):Prop :=
 ∀(value slice:Expr) (pins:List (Addr×Obj)) (s:Shared) (σ:St) (H:Hp) (x y:V) (v u:Value) (Q:VK),Inv X pins σ H s->RelV x v->RelV y u->r x y H Q ->
  subscripted slice false v u=operate [v,u] (getItem v u)->wpAny (model X.prog X.w) X.A (subscriptTail value slice v u) (EP X pins σ Q) X.xe s
def MtR(X:Cx)(id:String)(r:V->List V->Hp->VK->Prop):Prop :=
 ∀(pins:List (Addr×Obj)) (s:Shared) (σ:St) (H:Hp) (x:V) (xs:List V) (v:Value) (us:List Value) (Q:VK),Inv X pins σ H s->RelV x v->Vals xs us->r x xs H Q ->
  wpAny (model X.prog X.w) X.A (call (.builtin id) (v::us)) (EP X pins σ Q) X.xe s
section
variable{X:Cx}{a b:Expr}{ta tb:TE}{pos:Pos}
theorem C3{r:R2}(hr:IxR X r)(ha:PE X a ta)(hb:PE X b tb)(hs:Gs b):PE X (.Subscript a b pos) (tOp r ta tb):=by
 intro pins s σ H Q I h;exact Subscript_ (Kz ha hb I h fun v u s2 x y H2 I2 rx ry q=>hr a b pins s2 σ H2 x y v u Q I2 rx ry q (hs _ _))
def Ly(K:PySem.W.Frag):R2:=fun x y H Q=>∃p xs i v,x = .ref p/\y = .int i/\SqL K H p xs/\atI xs i=some v/\Q v H
def Ln(K:PySem.W.Frag):R2:=fun x y H Q=>∃p xs i v,x = .ref p/\y = .int i/\SqT K H p xs/\atI xs i=some v/\Q v H
def Mb:R2:=fun x y H Q=>∃z i c,x = .str z/\y = .int i/\z.length<=sizeLine/\atI z.cps.toList i=some c/\Q (.str ⟨#[c]⟩) H
theorem Hy:IxR X (Ly X.K):=by
 intro value slice pins s σ H x y v u Q I rx ry h hs;obtain⟨p,xs,i,z,rfl,rfl,hq,he,q⟩:=h;cases rx;obtain⟨t,rfl⟩:=ry;obtain⟨its,r,pl,hz⟩:=I.list hq;obtain⟨j,h1,h2,h3,h4,h5⟩:=w8 he;obtain⟨w,ew,rw'⟩:=r.get h2;have hl:=r.length;have hn:=d0;have fin:EP X pins σ Q w s:=⟨z,H,I,rw',q⟩;by_cases h0:0<=i
 .have hj:i.toNat=j:=by
   rw[seqIndex_of h0 h5]at h1;exact BN h1
  exact item_listR pl.isList h0 (by omega) (by rw[hj];simpa using ew) fin hs
 .have hj:(i +(its.toArray.size:Int)).toNat=j:=by
   rw[seqIndex_neg (by omega) h4]at h1;rw[AI,<-hl];exact BN h1
  exact subscriptTail_builtinR (x:=w) pl.isList.typeIs slot_list_getitem.lookup
   (wpAny_getItem_list_neg (Q:=fun r s'=>r=w/\EP X pins σ Q r s') pl.isList (by omega) (by rw[AI]<;>omega) (by omega) (by rw[hj];simpa using ew) ⟨rfl,fin⟩) hs
theorem Jf:IxR X (Ln X.K):=by
 intro value slice pins s σ H x y v u Q I rx ry h hs;obtain⟨p,xs,i,z,rfl,rfl,hq,he,q⟩:=h;cases rx;obtain⟨t,rfl⟩:=ry;obtain⟨its,r,pl,hz⟩:=I.tuple hq;obtain⟨j,h1,h2,h3,h4,h5⟩:=w8 he;obtain⟨w,ew,rw'⟩:=r.get h2;have hl:=r.length;have hn:=d0;have fin:EP X pins σ Q w s:=⟨z,H,I,rw',q⟩;exact subscriptTail_builtinR (x:=w) pl.typeIs slot_tuple_getitem.lookup
  (getItem_tuple (j:=j) (Q:=fun r s'=>r=w/\EP X pins σ Q r s') pl (by omega) (by omega) (by rw[AI,<-hl];exact h1) (by simpa using ew) ⟨rfl,fin⟩) hs
theorem Jo:IxR X Mb:=by
 intro value slice pins s σ H x y v u Q I rx ry h hs;obtain⟨z,i,c,rfl,rfl,hz,he,q⟩:=h;obtain⟨t,rfl⟩:=rx;obtain⟨t',rfl⟩:=ry;obtain⟨j,h1,h2,h3,h4,h5⟩:=w8 he;have hl:z.cps.toList.length=z.length:=by simp[Str.length]
 rw[hl]at h1 h4 h5;have hn:=d0;exact tail_any (typeIs_str s z t) slot_str_getitem.lookup (getItem_str (c:=c) (by
  have e1:decide (i < -(2^63:Int))=false:=AU (by omega);have e2:decide (i ≥ 2^63)=false:=AU (by omega);rw[e1,e2,Bool.or_false]) (by rw[h1];simpa using h2) ⟨.str ⟨#[c]⟩,H,I.tok _,⟨_,rfl⟩,q⟩) hs
theorem Bn(its:List Value)(n j:Nat)(u:Value):Obj.mapSeq (·.setIfInBounds j u) { cls:=.type "list",data:=.seq its.toArray n } ={ cls:=.type "list",data:=.seq (its.set j u).toArray n }:=by
 simp[Obj.mapSeq]
theorem Inv.lst{pins:List (Addr×Obj)}{σ:St}{H:Hp}{s:Shared}{p:Addr}{xs:List V}(I:Inv X pins σ H s)(h:H p=some (.lst xs)) :
  ∃(its:List Value) (n:Nat),Vals xs its/\s.heap.get? p=some { cls:=.type "list",data:=.seq its.toArray n }/\xs.length<=sizeLine:=by
 obtain⟨z,its,n,r,e⟩:=I.hok p _ h;exact⟨its,n,r,e,z⟩
theorem Inv.lstUpd{pins:List (Addr×Obj)}{σ:St}{H:Hp}{s:Shared}{p:Addr}{xs ys:List V}{its its':List Value}{n n':Nat}{f:Obj->Obj}(I:Inv X pins σ H s)(h:H p=some (.lst xs))
  (ho:s.heap.get? p=some { cls:=.type "list",data:=.seq its.toArray n }) (hf:f { cls:=.type "list",data:=.seq its.toArray n } ={ cls:=.type "list",data:=.seq its'.toArray n' }) (r:Vals ys its') (hz:ys.length<=sizeLine) (t:Nat) :
  Inv X pins σ (upd H p (.lst ys)) { s with heap:=s.heap.update p f,toks:=t }:=by
 have e:(s.heap.update p f).get? p=some { cls:=.type "list",data:=.seq its'.toArray n' }:=by
  rw[Heap.get?_update_self f ho (by rw[hf]<;>rfl),hf]
 refine I.write (x:=p) (e:=p) (by rw[h];trivial) (.inl rfl) (fun b u hb q=>(Heap.get?_update_other _ _ (Ne.symm hb)).trans q) ⟨_,e⟩ ?_;exact⟨hz,its',n',r,e⟩
def Kx:V->V->V->Hp->(Hp->Prop)->Prop:=fun o i v H Q=>∃p xs k j,o = .ref p/\i = .int k/\H p=some (.lst xs)/\ixN xs.length k=some j/\Q (upd H p (.lst (xs.set j v)))
theorem g9:Lo X Kx:=by
 intro pins s σ H o i v ov iv u Q I ro ri rv h;obtain⟨p,xs,k,j,rfl,rfl,hp,hj,q⟩:=h;cases ro;obtain⟨t,rfl⟩:=ri;obtain⟨its,n,r,ho,hz⟩:=I.lst hp;obtain⟨h1,h2,h3,h4⟩:=Cn hj;have hl:=r.length;have hn:=d0;have I':Inv X pins σ (upd H p (.lst (xs.set j v))) { s with heap:=s.heap.update p (Obj.mapSeq (·.setIfInBounds j u)) } :=
  I.lstUpd hp ho (Bn its n j u) (r.set rv j) (by rw[List.length_set];exact hz) s.toks
 by_cases h0:0<=k
 .have hk:k.toNat=j:=by
   rw[seqIndex_of h0 h4]at h1;exact BN h1
  exact PySem.W.ki_setAt ho h0 (by omega) (by rw[AI,<-hl];exact h4) (by rw[hk];exact⟨_,I',q⟩)
 .have hk:(k +(its.toArray.size:Int)).toNat=j:=by
   rw[seqIndex_neg (by omega) h3]at h1;rw[AI,<-hl];exact BN h1
  exact PySem.W.ki_setBack ho (by omega) (by rw[AI,<-hl];exact h3) (by omega) (by rw[hk];exact⟨_,I',q⟩)
theorem t8(lo hi:Option Int)(n:Nat):(sliceBounds lo hi none n).1 =((HT.sIx n 0 lo:Nat):Int)/\(sliceBounds lo hi none n).2.1 =((HT.sIx n n hi:Nat):Int)/\(sliceBounds lo hi none n).2.2=1:=by
 refine⟨?_,?_,rfl⟩
 .cases lo with
  | none=>simp[sliceBounds,HT.sIx]
  | some i =>
   simp only[sliceBounds,HT.sIx,Option.getD_none,show(1:Int)>0 by decide,if_true];by_cases h:i<0
   .simp only[h,if_true]<;>omega
   .simp only[h,if_false]<;>omega
 .cases hi with
  | none=>simp[sliceBounds,HT.sIx]
  | some i =>
   simp only[sliceBounds,HT.sIx,Option.getD_none,show(1:Int)>0 by decide,if_true];by_cases h:i<0
   .simp only[h,if_true]<;>omega
   .simp only[h,if_false]<;>omega
theorem g7(its:List Value)(lo hi:Option Int):slicePick its.toArray lo hi none =((its.drop (HT.sIx its.length 0 lo)).take (HT.sIx its.length its.length hi-HT.sIx its.length 0 lo)).toArray:=by
 obtain⟨h1,h2,h3⟩:=t8 lo hi its.toArray.size;unfold slicePick;rw[h1,h2,h3];simp only[sliceRange_one,pick_run,AI]<;>rfl
def Lq(K:PySem.W.Frag):V->Option Int->Option Int->Hp->VK->Prop:=fun x lo hi H Q=>∃a xs,x = .ref a/\SqL K H a xs/\∀p,H p=none->Q (.ref p) (upd H p (.lst (R8 xs lo hi)))
theorem Hj:SlR X (Lq X.K):=by
 intro pins s σ H x v vl vu lo hi sl Q I rx hs pl pu h;obtain⟨a,xs,rfl,hx,q⟩:=h;cases rx;obtain⟨its,r,ht,hz⟩:=I.list hx;have hlen:=r.length;refine⟨"list",_,slot_list_getitem.lookup,ht.isList.typeIs,?_⟩;refine wpAny_getItem_list_slice ht.isList hs pl pu .none (by simp) ?_ (by rw[AI]<;>omega);rw[g7,<-hlen];refine⟨.ref s.heap.objs.size,_,I.laid (t':=s.toks) (o:=.lst (R8 xs lo hi)) (fun b ob q=>AC _ q) (AL _) ?_,rfl,q _ (I.hok.fresh (AL _))⟩;exact⟨BK (x5 xs lo hi) hz,_,0,(r.drop (HT.sIx xs.length 0 lo)).take (HT.sIx xs.length xs.length hi-HT.sIx xs.length 0 lo),BE _ rfl⟩
def i8:V->Bool
 | .non=>true
 | .bl _=>true
 | .int _=>true
 | .str _=>true
 | _=>false
def eqV:V->V->Bool
 | .non,.non=>true
 | .bl a,.bl b=>a == b
 | .bl a,.int b=>(if a then 1 else 0) == b
 | .int a,.bl b=>a ==(if b then 1 else 0)
 | .int a,.int b=>a == b
 | .str a,.str b=>a == b
 | _,_=>false
theorem Ju{A:Around}{s:Shared}{y x:V}{u v:Value}(ry:RelV y u)(rx:RelV x v)(fy:i8 y=true)(fx:i8 x=true):SeqAt.EqAt A s u v (eqV y x):=by
 cases y with
 | non =>
  cases ry;cases x with
  | non=>cases rx;exact SeqAt.EqAt.same _
  | bl b=>cases rx;exact SeqAt.EqAt.none_bool b
  | int b=>obtain⟨t,rfl⟩:=rx;exact SeqAt.EqAt.none_int b t
  | str b=>obtain⟨t,rfl⟩:=rx;exact SeqAt.EqAt.none_str b t
  | _=>exact absurd (show false=true from fx) AN
 | bl a =>
  cases ry;cases x with
  | non=>cases rx;exact SeqAt.EqAt.bool_none a
  | bl b=>cases rx;exact SeqAt.EqAt.bool_bool a b
  | int b=>obtain⟨t,rfl⟩:=rx;exact SeqAt.EqAt.bool_int a b t
  | str b=>obtain⟨t,rfl⟩:=rx;exact SeqAt.EqAt.bool_str a b t
  | _=>exact absurd (show false=true from fx) AN
 | int a =>
  obtain⟨t',rfl⟩:=ry;cases x with
  | non=>cases rx;exact SeqAt.EqAt.int_none a t'
  | bl b=>cases rx;exact SeqAt.EqAt.int_bool a t' b
  | int b=>obtain⟨t,rfl⟩:=rx;exact SeqAt.EqAt.int_int a t' b t
  | str b=>obtain⟨t,rfl⟩:=rx;exact SeqAt.EqAt.int_str a t' b t
  | _=>exact absurd (show false=true from fx) AN
 | str a =>
  obtain⟨t',rfl⟩:=ry;cases x with
  | non=>cases rx;exact SeqAt.EqAt.str_none a t'
  | bl b=>cases rx;exact SeqAt.EqAt.str_bool a t' b
  | int b=>obtain⟨t,rfl⟩:=rx;exact SeqAt.EqAt.str_int a t' b t
  | str b=>obtain⟨t,rfl⟩:=rx;exact SeqAt.EqAt.str_str a t' b t
  | _=>exact absurd (show false=true from fx) AN
 | _=>exact absurd (show false=true from fy) AN
def eqU(x:V)(u:Value):Bool:=match u with
 | .none=>eqV .non x
 | .bool b=>eqV (.bl b) x
 | .int i _=>eqV (.int i) x
 | .str z _=>eqV (.str z) x
 | _=>false
theorem Fs{x y:V}{u:Value}(r:RelV y u)(f:i8 y=true):eqU x u=eqV y x:=by
 cases y with
 | non=>cases r;rfl
 | bl b=>cases r;rfl
 | int i=>obtain⟨t,rfl⟩:=r;rfl
 | str z=>obtain⟨t,rfl⟩:=r;rfl
 | _=>exact absurd (show false=true from f) AN
theorem X1{x:V}:∀{xs:List V} {us:List Value},Vals xs us->xs.all i8=true->us.any (eqU x)=xs.any fun y=>eqV y x
 | _,_,.nil,_=>rfl
 | y::xs,u::us,.cons r t,f=>by
  rw[List.all_cons,BO]at f;rw[List.any_cons,List.any_cons,Fs r f.1,X1 t f.2]
theorem Q8{A:Around}{s:Shared}{x:V}{v:Value}(rx:RelV x v)(fx:i8 x=true):∀{xs:List V} {us:List Value},Vals xs us->xs.all i8=true->∀u∈us,SeqAt.EqAt A s u v (eqU x u)
 | _,_,.nil,_=>fun u hu=>by cases hu
 | y::xs,u::us,.cons r t,f=>fun u' hu=>by
  rw[List.all_cons,BO]at f;rcases AY.mp hu with rfl | hu
  .rw[Fs r f.1];exact Ju r rx f.1 fx
  .exact Q8 rx fx t f.2 u' hu
def inV(x:V)(xs:List V):Bool:=xs.any fun y=>eqV y x
def rIn(K:PySem.W.Frag)(neg:Bool):R2:=fun x y H Q=>∃p xs,y = .ref p/\(SqL K H p xs\/SqT K H p xs)/\i8 x=true/\xs.all i8=true/\Q (.bl (if neg then !inV x xs else inV x xs)) H
theorem Eb:OpR X (compareOp .In) (rIn X.K false):=by
 intro pins s σ H x y v u Q I rx ry h;obtain⟨p,xs,rfl,hq,fx,fs,q⟩:=h;cases ry;rcases hq with hq | hq
 .obtain⟨its,r,pl,hz⟩:=I.list hq;refine SeqAt.in_listAt (eqU x) pl.isList (fun w hw=>Q8 rx fx r fs w (by simpa using hw)) ⟨.bl _,H,I,rfl,?_⟩;rw[show its.toArray.any (eqU x)=its.any (eqU x) by simp,X1 r fs];exact q
 .obtain⟨its,r,pl,hz⟩:=I.tuple hq;refine SeqAt.in_tupleAt (eqU x) pl (fun w hw=>Q8 rx fx r fs w (by simpa using hw)) ⟨.bl _,H,I,rfl,?_⟩;rw[show its.toArray.any (eqU x)=its.any (eqU x) by simp,X1 r fs];exact q
theorem r6:OpR X (compareOp .NotIn) (rIn X.K true):=by
 intro pins s σ H x y v u Q I rx ry h;obtain⟨p,xs,rfl,hq,fx,fs,q⟩:=h;cases ry;rcases hq with hq | hq
 .obtain⟨its,r,pl,hz⟩:=I.list hq;refine SeqAt.notIn_listAt (eqU x) pl.isList (fun w hw=>Q8 rx fx r fs w (by simpa using hw)) ⟨.bl _,H,I,rfl,?_⟩;rw[show its.toArray.any (eqU x)=its.any (eqU x) by simp,X1 r fs];exact q
 .obtain⟨its,r,pl,hz⟩:=I.tuple hq;refine SeqAt.notIn_tupleAt (eqU x) pl (fun w hw=>Q8 rx fx r fs w (by simpa using hw)) ⟨.bl _,H,I,rfl,?_⟩;rw[show its.toArray.any (eqU x)=its.any (eqU x) by simp,X1 r fs];exact q
theorem o7:J0 X (.builtin "len") (fun xs H Q=>∃p ys,xs = [.ref p]/\(SqL X.K H p ys\/SqT X.K H p ys)/\Q (.int ys.length) H):=by
 intro pins s σ H xs us Q I r h;obtain⟨p,ys,rfl,hq,q⟩:=h;obtain⟨u,rfl,rx⟩:=X9 r;cases rx;have hn:=d0;rcases hq with hq | hq
 .obtain⟨its,r',pl,hz⟩:=I.list hq;have hlen:=r'.length;exact Calls.call_len_list pl.isList (by simp only[AI]<;>omega) ⟨.int ys.length,H,I.tok _,⟨s.toks+1,by rw[AI,hlen]⟩,q⟩
 .obtain⟨its,r',pl,hz⟩:=I.tuple hq;have hlen:=r'.length;exact len_tuple pl (by simp only[AI]<;>omega) ⟨.int ys.length,H,I.tok _,⟨s.toks+1,by rw[AI,hlen]⟩,q⟩
theorem u8:J0 X (.builtin "len") (fun xs H Q=>∃z,xs = [.str z]/\z.length<=sizeLine/\Q (.int z.length) H):=by
 intro pins s σ H xs us Q I r h;obtain⟨z,rfl,hz,q⟩:=h;obtain⟨u,rfl,t,rfl⟩:=X9 r;have hn:=d0;exact len_str (by omega) ⟨.int z.length,H,I.tok _,⟨_,rfl⟩,q⟩
theorem t0:J0 X (.type "list") (fun xs H Q=>∃p ys,xs = [.ref p]/\(SqL X.K H p ys\/SqT X.K H p ys)/\∀l,H l=none->Q (.ref l) (upd H l (.lst ys))):=by
 intro pins s σ H xs us Q I r h;obtain⟨p,ys,rfl,hq,q⟩:=h;obtain⟨u,rfl,rx⟩:=X9 r;cases rx;have fin:∀(its:List Value),Vals ys its->ys.length<=sizeLine->∀(h':Heap) (c':Nat),(∀b o',s.heap.get? b=some o'->h'.get? b=some o') ->
   h'.get? s.heap.objs.size=some { cls:=.type "list",dict:=none,data:=.seq its.toArray c',slots:=#[] }->EP X pins σ Q (.ref s.heap.objs.size) { s with heap:=h' }:=fun its r' hz h' c' kp e =>
  ⟨.ref s.heap.objs.size,_,I.laid (t':=s.toks) kp (AL _) (show ObjOk X.prog X.w _ h' _ (.lst ys)from⟨hz,its,c',r',e⟩),rfl,q _ (I.hok.fresh (AL _))⟩
 rcases hq with hq | hq
 .obtain⟨its,r',pl,hz⟩:=I.list hq;have hlen:=r'.length;obtain⟨o,ho,hc,n,hd⟩:=pl.isList;exact call_list_seq p (.inl rfl) ho hc hd (fun h' c' kp e=>fin its r' hz h' c' kp e) (by simp only[AI]<;>omega)
 .obtain⟨its,r',pl,hz⟩:=I.tuple hq;have hlen:=r'.length;obtain⟨o,ho,hc,n,hd⟩:=pl;exact call_list_seq p (.inr rfl) ho hc hd (fun h' c' kp e=>fin its r' hz h' c' kp e) (by simp only[AI]<;>omega)
def tyV(K:PySem.W.Frag)(T:String)(x:V)(H:Hp):Prop:=match x with
 | .str _=>T = "str"
 | .int _=>T = "int"
 | .ref p=>(T = "list"/\∃xs,SqL K H p xs)\/(T = "tuple"/\∃o,K.lookup p=some o/\o.cls = .type "tuple"/\o.dict=none) \/
   (T = "dict"/\((∃kvs,H p=some (.dK kvs))\/∃kvs,H p=some (.dT kvs)))\/(T = "set"/\∃S n,H p=some (.set S n))
 | _=>False
theorem Ga{pins:List (Addr×Obj)}{σ:St}{H:Hp}{s:Shared}{T:String}{x:V}{v:Value}(I:Inv X pins σ H s)(r:RelV x v)(ty:tyV X.K T x H) :
  s.TypeIs v T/\∀a,v = .ref a->∃ob,s.heap.get? a=some ob/\ob.dict=none:=by
 cases x with
 | str z =>
  obtain⟨t,rfl⟩:=r;cases(show T = "str" from ty);exact⟨typeIs_str s z t,fun _ e=>nomatch e⟩
 | int i =>
  obtain⟨t,rfl⟩:=r;cases(show T = "int" from ty);exact⟨typeIs_int s i t,fun _ e=>nomatch e⟩
 | ref p =>
  cases r;rcases ty with⟨rfl,xs,hq⟩ | ⟨rfl,o,hk,hc,hd⟩ | ⟨rfl,hk⟩ | ⟨rfl,S,n,hk⟩
  .obtain⟨its,_,pl,_⟩:=I.list hq;refine⟨pl.isList.typeIs,fun a e=>?_⟩;cases e;obtain⟨o,n,e,c,hd,_⟩:=pl;exact⟨o,e,hd⟩
  .refine⟨⟨o,I.kIn p o hk,hc⟩,fun a e=>?_⟩;cases e;exact⟨o,I.kIn _ o hk,hd⟩
  .have z:∃o,s.heap.get? p=some o/\o.ExactDict:=by
    rcases hk with⟨kvs,hk⟩ | ⟨kvs,hk⟩
    .obtain⟨_,_,_,_,o,_,_,e,ex,_⟩:=I.hok p _ hk;exact⟨o,e,ex⟩
    .obtain⟨_,_,_,_,o,_,_,e,ex,_⟩:=I.hok p _ hk;exact⟨o,e,ex⟩
   obtain⟨o,e,ex⟩:=z;refine⟨⟨o,e,ex.1⟩,fun a e2=>?_⟩;cases e2;exact⟨o,e,ex.2.1⟩
  .obtain⟨o,_,_,_,e,ex,_⟩:=I.hok p _ hk;refine⟨⟨o,e,ex.1⟩,fun a e2=>?_⟩;cases e2;exact⟨o,e,ex.2.1⟩
 | _=>exact False.elim ty
def Lr(K:PySem.W.Frag)(T:String)(r:V->List V->Hp->VK->Prop)(to:TE):TE:=fun σ H Q=>to σ H fun x H1=>tyV K T x H1/\r x [] H1 Q
def tBM(K:PySem.W.Frag)(T:String)(r:V->List V->Hp->VK->Prop)(to:TE)(t:TA):TE:=fun σ H Q=>to σ H fun x H1=>tyV K T x H1/\t σ H1 fun xs H2=>r x xs H2 Q
variable{o e:Expr}{es:List Expr}{to:TE}{t:TA}{name:Str}{apos cpos:Pos}{T id:String}{r:V->List V->Hp->VK->Prop}
theorem Jr(pa:PlainAttrs T)(slot:Slot T name id)(hty:typeOf (.builtin id)=pure (.type "method_descriptor"))(hm:MtR X id r)(ho:PE X o to)
  (hbase:attributeBase o name X.env (eval o X.env)=eval o X.env:=by rfl) (hline:(apos.endLine == cpos.line)=true:=by rfl):PE X (.Call (.Attribute o name apos) [] [] cpos) (Lr X.K T r to):=by
 intro pins s σ H Q I h;refine wpAny_Call_method0_late hbase hline (thn (ho pins s σ H _ I h) fun v s1 ⟨x,H1,I1,r1,ty,q1⟩=>?_);obtain⟨h1,h2⟩:=Ga I1 r1 ty;exact⟨T,id,pa,slot,hty,h1,h2,Calls.callWith_builtin rfl (PySem.evalArgs_none (hm pins s1 σ H1 x [] v [] Q I1 r1 .nil q1))⟩
theorem Ko(pa:PlainAttrs T)(slot:Slot T name id)(hty:typeOf (.builtin id)=pure (.type "method_descriptor"))(hm:MtR X id r)(ho:PE X o to)(ha:PA X (e::es) t)
  (hbase:attributeBase o name X.env (eval o X.env)=eval o X.env:=by rfl)
  (hfew:((backTo cpos (starEach (e::es) X.env)).all (fun x=>!x.1) &&(backToKw cpos (keywordEach [] X.env)).all (fun x=>x.1.isSome)
   && decide ((e::es).length +([]:List Keyword).length +(if([]:List Keyword).isEmpty then 0 else 1)<30))=true:=by rfl)
  (hline:(apos.endLine == cpos.line)=true:=by rfl) (hs:starEach (e::es) X.env =(false,eval e X.env)::starEach es X.env:=by rfl) (hplain:(backTo cpos (starEach es X.env)).any (·.1)=false:=by rfl) :
  PE X (.Call (.Attribute o name apos) (e::es) [] cpos) (tBM X.K T r to t):=by
 intro pins s σ H Q I h;refine wpAny_Call_method_late hbase hfew hline rfl (thn (ho pins s σ H _ I h) fun v s1 ⟨x,H1,I1,r1,ty,q1⟩=>?_);obtain⟨h1,h2⟩:=Ga I1 r1 ty;refine⟨T,id,pa,slot,hty,h1,h2,?_⟩;have hA:=ha cpos pins s1 σ H1 _ I1 q1;rw[hs]at hA⊢;refine Calls.callWith_builtin (by show(false||(backTo cpos (starEach es X.env)).any (·.1))=false;rw[hplain]<;>rfl) (Calls.evalArgs_plain ?_);exact thn hA fun us s2 ⟨vs,H2,I2,r2,q2⟩=>hm pins s2 σ H2 x vs v us Q I2 r1 r2 q2
end
def MtM(X:Cx)(id:String)(r:V->List V->Hp->VK->Prop):Prop :=
 ∀(pins:List (Addr×Obj)) (s:Shared) (σ:St) (H:Hp) (x:V) (xs:List V) (v:Value) (us:List Value) (Q:VK),Inv X pins σ H s->RelV x v->Vals xs us->r x xs H Q ->
  wpAny (model X.prog X.w) X.A (call (.builtin id) (v::us)) (EP X pins σ Q) X.xe s
theorem Vals.one:∀{x:V} {us:List Value},Vals [x] us->∃u,us = [u]/\RelV x u
 | _,_,.cons r .nil=>⟨_,rfl,r⟩
theorem Vals.two:∀{x y:V} {us:List Value},Vals [x,y] us->∃u v,us = [u,v]/\RelV x u/\RelV y v
 | _,_,_,.cons r (.cons q .nil)=>⟨_,_,rfl,r,q⟩
theorem Vals.zero:∀{us:List Value},Vals [] us->us = []
 | _,.nil=>rfl
theorem Vals.eraseIdx:∀{xs:List V} {us:List Value} (i:Nat),Vals xs us->Vals (xs.eraseIdx i) (us.eraseIdx i)
 | _,_,_,.nil=>.nil
 | _,_,0,.cons _ t=>t
 | _,_,i+1,.cons r t=>.cons r (Vals.eraseIdx i t)
theorem Vals.reverse{xs:List V}{us:List Value}(h:Vals xs us):Vals xs.reverse us.reverse:=by
 induction h with
 | nil=>exact .nil
 | cons r t ih=>rw[CY,CY];exact Vals.append ih (.cons r .nil)
theorem j9{α:Type}:∀(l:List α) (i:Nat),(l.eraseIdx i).length<=l.length
 | [],_=>AL _
 | _::_,0=>DA _
 | _::r,i+1=>Nat.succ_le_succ (j9 r i)
section
variable{X:Cx}{pins:List (Addr×Obj)}{σ:St}{H:Hp}{s:Shared}{l b:Addr}{xs ys zs:List V}
theorem Inv.lset{its its':List Value}{n:Nat}{f:Array Value->Array Value}{t':Nat}(I:Inv X pins σ H s)(hH:H l=some (.lst xs))
  (e:s.heap.get? l=some { cls:=.type "list",data:=.seq its.toArray n }) (hf:f its.toArray=its'.toArray) (hv:Vals ys its') (hz:ys.length<=sizeLine) :
  Inv X pins σ (upd H l (.lst ys)) { s with heap:=s.heap.update l (Obj.mapSeq f),toks:=t' }:=by
 have q:=PySem.IsL.update e f;rw[hf]at q;refine I.write (x:=l) (e:=l) (by rw[hH];exact trivial) (.inl rfl) (fun b' u hb hu=>(Heap.get?_update_other s.heap (Obj.mapSeq f) (Ne.symm hb)).trans hu) ⟨_,q⟩ ?_;exact⟨hz,its',_,hv,q⟩
theorem Inv.lnew{its:List Value}{t':Nat}(I:Inv X pins σ H s)(hv:Vals ys its)(hz:ys.length<=sizeLine) :
  Inv X pins σ (upd H s.heap.objs.size (.lst ys)) { s with heap:=s.heap.push { cls:=.type "list",data:=.seq its.toArray },toks:=t' } :=
 I.laid (fun _ _ q=>AC _ q) (AL _) ⟨hz,its,0,hv,BE _ rfl⟩
theorem Inv.fresh(I:Inv X pins σ H s):H s.heap.objs.size=none:=I.hok.fresh (AL _)
theorem Inv.lstM(I:Inv X pins σ H s)(hH:H l=some (.lst xs)):xs.length<=sizeLine/\∃(its:List Value) (n:Nat),Vals xs its/\xs.length=its.length/\s.heap.get? l=some { cls:=.type "list",data:=.seq its.toArray n }:=by
 obtain⟨z,its,n,r,e⟩:=I.hok l _ hH;exact⟨z,its,n,r,r.length,e⟩
theorem Ez{n:Nat}(h:n<=sizeLine):Builtin.List.listTooLong n=false:=by
 unfold Builtin.List.listTooLong;exact AU (by omega)
end
section
variable{X:Cx}
def Gh:V->List V->Hp->VK->Prop:=fun x vs H Q=>∃l xs y,x = .ref l/\vs = [y]/\H l=some (.lst xs)/\xs.length<sizeLine/\Q .non (upd H l (.lst (xs ++ [y])))
theorem K8:MtM X "list.append" Gh:=by
 intro pins s σ H x vs v us Q I rx rv h;obtain⟨l,xs,y,rfl,rfl,hH,hz,q⟩:=h;cases rx;obtain⟨u,rfl,ru⟩:=rv.one;obtain⟨z,its,n,r,hl,e⟩:=I.lstM hH;refine call_meets F.slot_list_append ⟨_,e,rfl⟩ F.entry_list_append (F.args_list_append_2 _ _) (PySem.list_append l its.toArray n u (by rw[AI];omega)) ⟨e,?_⟩;refine⟨.non,_,I.lset (its':=its ++ [u]) hH e (by simp) (r.append (.cons ru .nil)) ?_,rfl,q⟩;rw[AO,List.length_singleton];omega
def Hq:V->List V->Hp->VK->Prop:=fun x vs H Q=>∃l b xs zs,x = .ref l/\vs = [.ref b]/\H l=some (.lst xs)/\H b=some (.lst zs)/\xs.length+zs.length<=sizeLine/\Q .non (upd H l (.lst (xs++zs)))
theorem X7:MtM X "list.extend" Hq:=by
 intro pins s σ H x vs v us Q I rx rv h;obtain⟨l,b,xs,zs,rfl,rfl,hH,hB,hz,q⟩:=h;cases rx;obtain⟨u,rfl,ru⟩:=rv.one;cases ru;obtain⟨z,its,n,r,hl,e⟩:=I.lstM hH;obtain⟨z2,its2,n2,r2,hl2,e2⟩:=I.lstM hB;have hsz:its.toArray.size+its2.toArray.size<=sizeLine:=by rw[AI,AI];omega
 have hlong:¬(!its.toArray.isEmpty&&Builtin.List.listTooLong (its.toArray.size+its2.toArray.size))=true:=by
  rw[Ez hsz,Bool.and_false];exact AN
 refine call_meets F.slot_list_extend ⟨_,e,rfl⟩ F.entry_list_extend (F.args_list_extend_2 _ _)
  (AutoSeq1.list_extend_list_list_0 l its.toArray n b its2.toArray n2 hlong (by rw[AI];omega) (by omega)) ⟨e,e2,?_⟩
 refine⟨.non,_,I.lset (its':=its++its2) hH e (by simp) (r.append r2) ?_,rfl,q⟩;rw[AO];omega
def Kg:V->List V->Hp->VK->Prop:=fun x vs H Q=>∃l xs i k y,x = .ref l/\vs = [.int i]/\H l=some (.lst xs)/\-(2^63)<=i/\i<2^63/\seqIndex? i xs.length=some k/\xs[k]?=some y/\Q y (upd H l (.lst (xs.eraseIdx k)))
theorem Er:MtM X "list.pop" Kg:=by
 intro pins s σ H x vs v us Q I rx rv h;obtain⟨l,xs,i,k,y,rfl,rfl,hH,h1,h2,hk,hy,q⟩:=h;cases rx;obtain⟨u,rfl,ru⟩:=rv.one;obtain⟨t,rfl⟩:=ru;obtain⟨z,its,n,r,hl,e⟩:=I.lstM hH;obtain⟨w,hw,rw'⟩:=r.get hy;refine call_meets F.slot_list_pop ⟨_,e,rfl⟩ F.entry_list_pop (F.args_list_pop_2 _ _)
  (MeetsSeq.list_pop_at l its.toArray n i t k w (fitsIndex_both h1 h2) (by rw[AI,<-hl];exact hk) (by rw[<-Array.getElem?_toList];exact hw) (by rw[AI];omega)) ⟨e,?_⟩
 refine⟨y,_,I.lset (its':=its.eraseIdx k) hH e ?_ (r.eraseIdx k) ?_,rw',q⟩
 .show its.toArray.eraseIdxIfInBounds k =(its.eraseIdx k).toArray;rw[List.eraseIdxIfInBounds_toArray]
 .have:=j9 xs k;omega
def Fd:V->List V->Hp->VK->Prop:=fun x vs H Q=>∃l xs,x = .ref l/\vs = []/\H l=some (.lst xs)/\Q .non (upd H l (.lst xs.reverse))
theorem Bl:MtM X "list.reverse" Fd:=by
 intro pins s σ H x vs v us Q I rx rv h;obtain⟨l,xs,rfl,rfl,hH,q⟩:=h;cases rx;have hus:=rv.zero;subst hus;obtain⟨z,its,n,r,hl,e⟩:=I.lstM hH;refine call_meets F.slot_list_reverse ⟨_,e,rfl⟩ F.entry_list_reverse (F.args_list_reverse_1 _) (AutoSeq1.list_reverse_list_0 l its.toArray n (by rw[AI];omega)) ⟨e,?_⟩;refine⟨.non,_,I.lset (its':=its.reverse) hH e (by simp) r.reverse ?_,rfl,q⟩;rw[List.length_reverse];omega
def Kf:V->List V->Hp->VK->Prop:=fun x vs H Q=>∃l xs,x = .ref l/\vs = []/\H l=some (.lst xs)/\Q .non (upd H l (.lst []))
theorem Ej:MtM X "list.clear" Kf:=by
 intro pins s σ H x vs v us Q I rx rv h;obtain⟨l,xs,rfl,rfl,hH,q⟩:=h;cases rx;have hus:=rv.zero;subst hus;obtain⟨z,its,n,r,hl,e⟩:=I.lstM hH;refine call_meets F.slot_list_clear ⟨_,e,rfl⟩ F.entry_list_clear (F.args_list_clear_1 _) (AutoSeq1.list_clear_list_0 l its.toArray n (by rw[AI];omega)) ⟨e,?_⟩;exact⟨.non,_,I.lset (its':=[]) (ys:=[]) hH e rfl .nil (BI _),rfl,q⟩
def Lg:R2:=fun x y H Q=>∃l b xs zs,x = .ref l/\y = .ref b/\H l=some (.lst xs)/\H b=some (.lst zs)/\xs.length+zs.length<=sizeLine/\∀p,H p=none->Q (.ref p) (upd H p (.lst (xs++zs)))
theorem K7:OpR X (binaryOp .Add) Lg:=by
 intro pins s σ H x y v u Q I rx ry h;obtain⟨l,b,xs,zs,rfl,rfl,hH,hB,hz,q⟩:=h;cases rx;cases ry;obtain⟨z,its,n,r,hl,e⟩:=I.lstM hH;obtain⟨z2,its2,n2,r2,hl2,e2⟩:=I.lstM hB;refine PySem.P.add_list e e2 ?_ (by rw[AI,AI];omega);have ea:its.toArray++its2.toArray =(its++its2).toArray:=by simp
 rw[ea];exact⟨.ref _,_,I.lnew (t':=s.toks) (r.append r2) (by rw[AO];omega),rfl,q _ I.fresh⟩
end
end L2
namespace Att
open PySem PySem.W PySem.Calls PyProof.Rows
theorem Z2{P:Params}{h:Heap}:∀(ns:List Int) (vs:List Value),WellAll P h vs (ns.map WData.int)->IntsAre vs ns:=by
 intro ns
 induction ns with
 | nil =>
  intro vs w;rw[List.map_nil]at w;cases w;exact .nil
 | cons n ns ih =>
  intro vs w;rw[BL]at w;cases w with
  | cons a b =>
   cases a;exact .cons _ _ (ih _ b)
theorem Cb{l:OpenLaw}{n:Nat}(hn:l.most=some n){P:Params}{h:Heap}{args:List WData}{vals:List Value}
  (hpre:l.row.toRowW.claim.pre args=true) (hwl:WellAll P h vals args) :
  ∃a vs ns,vals = [Value.ref a]/\args = [WData.list (ns.map WData.int)]/\h.get? a=some { cls:=.type "list",data:=.seq vs.toArray }/\IntsAre vs ns/\ns.length<=n:=by
 have hsh:WShape.hasAll [] args [.list .int]=true:=(pre_splitW hpre).1;have hc:l.pre.holds [] { args:=args }=true:=(pre_splitW hpre).2;obtain⟨d,r,rfl,h1,h2⟩:=hasAllW_cons hsh;obtain rfl:=hasAllW_nil h2;obtain⟨xs,rfl,h3⟩:=hasW_list h1;obtain⟨ns,rfl⟩:=items_int h3;have hlen:ns.length<=n:=by
  unfold OpenLaw.pre at hc;have h4:(WTm.not (.lt (.lit (.int (n:Int))) (.len (.arg 0)))).holds [] { args:=[.list (ns.map .int)] }=true:=by
   have h4:=(holds_andW hc).1;rw[hn]at h4;exact h4
  have h5:=condW_of h4 (w_not (w_lt w_lit (w_len_list (w_arg rfl))));rw[AA]at h5;refine Nat.le_of_not_lt fun q=>?_;have q':(n:Int) <((ns.length:Nat):Int):=by omega
  first
   | (rw[AJ q']at h5;exact absurd h5 (by decide))
   | (simp at h5;omega)
 cases hwl with
 | cons w1 w2 =>
  cases w2;cases w1 with
  | list ho hall=>exact⟨_,_,ns,rfl,rfl,ho,Z2 ns _ hall,hlen⟩
theorem Df(l:OpenLaw)(args:List WData):l.row.toRowW.claim.post args (.bool true) args=true :=
 postW_of (r:=l.row.toRowW) (X:=(true == true))
  (show WShape.has [] (.bool true) .bool=true by first | rfl | decide | simp[WShape.has,WShape.arms,WShape.armsAll])
  (show(WTm.eq .res (.lit (.bool true))).value [] { args:=args,res:=some (.bool true),after:=args }=some (.bool (true == true))from w_eq_bool (w_res rfl) w_lit) rfl
theorem attach_call{l:OpenLaw}{n:Nat}{q:Program}{loose:List Str}{XP:(Str->Option Value)->Heap->Prop}{YP:World->Heap->Prop}{d:DefRec}
  (hn:l.most=some n) (hdf:d.params.defaults = [])
  (call:∀(w:World) (s₀ s₁:Shared) (mg mb:Str->Option Value) (fa:Addr) (o:Obj) (pm cd doc:Value) (a:Addr) (vs:List Value) (ns:List Int),
   Ground q loose [] XP w s₀ mg mb s₁.heap->YP w s₁.heap ->
   s₁.heap.get? fa=some o->o.data = .func (docDef d.name d.params d.body d.scope pm cd doc)->s₁.heap.CodeRec cd d.name->mg d.name=some (.ref fa) ->
   s₁.heap.get? a=some { cls:=.type "list",data:=.seq vs.toArray }->IntsAre vs ns->ns.length<=n->s₁.gens = #[] ->
   codeAny (model l.prog w) callerA (.call (.ref fa) ⟨[.ref a],[]⟩) (fun r s'=>r = .ok (.ret (.bool true))/\OldK s₁.heap s'.heap/\s'.os=s₁.os/\AllBare s'.gens) s₁) :
  WalkO q loose XP YP l.row.toRowW d [] (fun f vs=>PySem.call f vs):=by
 intro w s₀ s₁ mg mb G Y fa o pm cd doc dV kV ho hd hcd hD hmg hg args vals as hpre hlay hrd hwl hlo;obtain rfl:dV = .none:=Dflts.none hD hdf;obtain rfl:kV = .none:=Dflts.noKw hD;obtain⟨a,vs,ns,rfl,rfl,hobj,hints,hlen⟩:=Cb hn hpre hwl;refine enter_call (CM (call w s₀ s₁ mg mb fa o pm cd doc a vs ns G Y ho (fd_plain hd) hcd hmg hobj hints hlen hg) fun r s' hq=>?_);obtain⟨rfl,h2,h3,h4⟩:=hq;exact⟨.inl ⟨.bool true,.bool true,[],rfl,fun _=>rfl,.bool true,Df l _,fun _=>⟨List.Pairwise.nil,fun _ hm=>(nomatch hm)⟩⟩,h2,h3,h4⟩
end Att
namespace L2
open PySem PySem.Spec PyProof.Rows
theorem o8:∀{vs:List Value} {ns:List Int},IntsAre vs ns->Vals (ns.map V.int) vs
 | _,_,.nil=>.nil
 | _,_,.cons n t h=>.cons ⟨t,rfl⟩ (o8 h)
def Hz(s:Stmt)(j:Nat):Stmt:=match s with
 | .ClassDef _ _ _ body _ _ _ _ _ _ _=>body.getD j (.Pass ⟨0,0,0,0⟩)
 | _=>.Pass ⟨0,0,0,0⟩
def K6(s:Stmt):Arguments:=match s with
 | .FunctionDef _ a _ _ _ _ _ _ _ _=>a
 | _=>{ posonlyargs:=[],args:=[],vararg:=none,kwonlyargs:=[],kw_defaults:=[],kwarg:=none,defaults:=[] }
def J4(s:Stmt):List Stmt:=match s with
 | .FunctionDef _ _ b _ _ _ _ _ _ _=>b
 | _=>[]
def B4(s:Stmt):Scope:=match s with
 | .FunctionDef _ _ _ _ _ _ sc _ _ _=>sc
 | _=>{ kind:=.function,names:=[],isGenerator:=false,isCoroutine:=false }
abbrev CX0:CXT:=fun _ _ _ _ _ _=>False
abbrev E0:XK:=fun _ _ _=>False
theorem Ep{X:Cx}:p7 CX0 X E0:=fun _ _ _ _ _ _ _ h=>h.elim
structure Fun(K:PySem.W.Frag)(x qual:Str)(st:Stmt)(f:Addr)(fd:FuncData):Prop where
 ex:∃(oc:Value) (od:Option Addr) (kV doc pm:Value) (an:Option Addr) (cdv ct:Value) (osl:Array (Option Value)),
  fd=PySem.W.fnOf x qual (K6 st) (J4 st) (B4 st) .none kV doc pm an cdv ct/\K.lookup f=some ⟨oc,od,.func fd,osl⟩/\PySem.W.codeIn K cdv qual=true
 kp:PySem.W.keepIn K (.ref f)=true
section
variable{P:Program}{w:World}{K:PySem.W.Frag}{mg:Str->Option Value}{base:Heap}
theorem Fun.ok{x qual:Str}{st:Stmt}{f:Addr}{fd:FuncData}{N ps:List Str}{k:Nat}{sp:Sp}(F:Fun K x qual st f fd)(S:FnScope N ps (B4 st))(len:∀vs H Q E,sp vs H Q E->vs.length=ps.length)
  (hbody:∀(cdv:Value) (A:Around) (outer:List Env) (s:Shared) (H:Hp) (vs:List V) (Q:VK) (E:XK),Room k (A.deeper (envOfC qual (B4 st) s.heap.objs.size f cdv))->sp vs H Q E ->
   ∃t,PSs (Ho CX0 P w K mg base N qual (B4 st) f cdv A outer s H E).nox (J4 st) t/\t { nx:=fun _ H'=>Q .non H',rt:=Q } (f8 N vs) H):FnOk P w K mg base CX0 (k+1) f fd ps sp:=by
 obtain⟨oc,od,kV,doc,pm,an,cdv,ct,osl,rfl,lk,hcd⟩:=F.ex;refine Jt lk hcd S len fun A outer s H vs Q E hr hsp=>?_;obtain⟨t,h,q⟩:=hbody cdv A outer s H vs Q E hr hsp;exact⟨t,h.nox,q⟩
theorem Fun.binds{x qual:Str}{st:Stmt}{f:Addr}{fd:FuncData}{ps:List Str}(F:Fun K x qual st f fd)
  (h:∀(kV doc pm:Value) (an:Option Addr) (cdv ct:Value) (us:List Value),us.length=ps.length->bindArgs (PySem.W.fnOf x qual (K6 st) (J4 st) (B4 st) .none kV doc pm an cdv ct) ⟨us,[]⟩=pure (ps.zip us)):Binds K fd ps []:=by
 obtain⟨oc,od,kV,doc,pm,an,cdv,ct,osl,rfl,lk,hcd⟩:=F.ex;exact .all (h kV doc pm an cdv ct)
theorem fun_mk{x qual:Str}{st:Stmt}{f:Addr}{oc:Value}{od an:Option Addr}{osl:Array (Option Value)}{kV doc pm cdv ct:Value}(l:K.lookup f=some ⟨oc,od,.func (PySem.W.fnOf x qual (K6 st) (J4 st) (B4 st) .none kV doc pm an cdv ct),osl⟩)
  (c:PySem.W.codeIn K cdv qual=true) (k:PySem.W.keepIn K (.ref f)=true):Fun K x qual st f (PySem.W.fnOf x qual (K6 st) (J4 st) (B4 st) .none kV doc pm an cdv ct):=⟨⟨oc,od,kV,doc,pm,an,cdv,ct,osl,rfl,l,c⟩,k⟩
end
theorem Ky{A:Around}{k:Nat}(hr:Room k A):A.units+1<cLine:=Nat.lt_of_le_of_lt (Nat.add_le_add_left (by decide:1<=64) _) hr.units
section
variable{X:Cx}
theorem pv(i:Nat){x:Str}{pos:Pos}(hN:X.N[i]?=some x:=by rfl)(hv:Vis X.env.scope x:=by first | exact Or.inl rfl | exact Or.inr (Or.inl rfl) | exact Or.inr (Or.inr rfl))(hd:(x ==("__debug__":Str))=false:=by decide)
  (hcd:(x ==("__classdict__":Str))=false:=by decide):PE X (.Name x pos) (Ic i):=Gg hN hv hd hcd
end
theorem Ad{A B:Prop}(h:B):if false=true then A else B:=by
 rw[BH AN];exact h
theorem U0{A B:Prop}(h:A):if true=true then A else B:=by
 rw[BJ rfl];exact h
theorem x2{c A B:Prop}[Decidable c](h1:c->A)(h2:¬c->B):if c then A else B:=by
 by_cases h:c
 .rw[BJ h];exact h1 h
 .rw[BH h];exact h2 h
def Same(H H':Hp):Prop:=∀b o,H b=some o->H' b=some o
theorem Same.refl(H:Hp):Same H H:=fun _ _ h=>h
theorem Same.trans{H H1 H2:Hp}(a:Same H H1)(b:Same H1 H2):Same H H2:=fun c o h=>b c o (a c o h)
theorem Same.free{H H':Hp}(e:Same H H'){l:Addr}(h:H' l=Option.none):H l=Option.none:=by
 cases q:H l with
 | none=>rfl
 | some o =>
  rw[e l o q]at h;cases h
section
variable{U:Type}[DecidableEq U]
theorem Dl:∀{l:List U} {k:U},l.Nodup->¬k∈l->(l ++ [k]).Nodup
 | [],k,_,_=>by simp
 | a::r,k,h,hk=>by
  obtain⟨h1,h2⟩:=BR.mp h;show(a ::(r ++ [k])).Nodup;refine BR.mpr ⟨fun m=>?_,Dl h2 fun m=>hk (AY.mpr (Or.inr m))⟩;rcases BA.mp m with q | q
  .exact h1 q
  .exact hk (AY.mpr (Or.inl (AB.mp q).symm))
end
def cxC(X:Cx)(scope:Scope)(cl:List (Str×Addr))(N':List Str)(pins:List (Addr×Obj))(ex:List Addr)(s3:Shared)(H3:Hp):Cx where
 prog:=X.prog
 w:=X.w
 K:=X.K
 mg:=X.mg
 base:=X.base
 A:=X.A
 N:=N'
 s₀:=s3
 H₀:=H3
 env:=compEnvC scope cl s3.heap.objs.size X.env
 outer:=X.stack
 stack:=X.stack
 ex:=ex
 fn:=fun _=>false
 calm:=X.calm
 pn:=X.pn++pins
 xe:=fun _ _=>False
def Caps(X:Cx)(scope:Scope)(cl:List (Str×Addr)):List Str->List (Option Nat)->Prop
 | [],[]=>True
 | _::N,none::c=>Caps X scope cl N c
 | x::N,some j::c=>(X.N[j]?=some x/\X.env.scope.names.lookup x=some .cell/\(relabel scope X.env).names.lookup x=some .cell/\cl.lookup x=X.env.cells.lookup x)/\Caps X scope cl N c
 | _,_=>False
def ClIn(X:Cx):List (Str×Addr)->Prop
 | []=>True
 | p::r=>X.env.cells.lookup p.1=some p.2/\ClIn X r
structure CScope(X:Cx)(scope:Scope)(cl:List (Str×Addr))(N':List Str)(cap:List (Option Nat)):Prop where
 kind:scope.kind = .function
 nocell:∀y∈scope.names,y.2≠ .cell
 loc:∀y∈scope.names,y.2 = .local->scope.names.lookup y.1=some .local
 clos:closureFor scope X.env=pure cl
 cin:ClIn X cl
 has:((relabel scope X.env).names.all fun y=>!(y.2 == .cell||y.2 == .free)||(cl.lookup y.1).isSome)=true
 caps:Caps X scope cl N' cap
def Fv(cap:List (Option Nat))(σ:St):St:=cap.map fun o=>o.bind fun j=>(σ[j]?).join
theorem ClIn.get{X:Cx}:∀{cl:List (Str×Addr)} {x:Str} {c:Addr},ClIn X cl->cl.lookup x=some c->X.env.cells.lookup x=some c
 | [],_,_,_,h=>by simp at h
 | (y,d)::r,x,c,⟨h1,h2⟩,h=>by
  rw[C_]at h;cases e:x == y with
  | true =>
   rw[e]at h;cases h;rw[beq_iff_eq.mp e];exact h1
  | false =>
   rw[e]at h;exact ClIn.get h2 h
theorem Caps.len{X:Cx}{scope:Scope}{cl:List (Str×Addr)}:∀{N:List Str} {cap:List (Option Nat)},Caps X scope cl N cap->cap.length=N.length
 | [],[],_=>rfl
 | _::N,none::c,h=>by rw[BG,BG,Caps.len (N:=N) (cap:=c) h]
 | _::N,some j::c,h=>by rw[BG,BG,Caps.len h.2]
 | [],_::_,h=>h.elim
 | _::_,[],h=>h.elim
theorem Caps.get{X:Cx}{scope:Scope}{cl:List (Str×Addr)}{j:Nat}{x:Str}:∀{N:List Str} {cap:List (Option Nat)} {i:Nat},Caps X scope cl N cap->N[i]?=some x->cap[i]?=some (some j) ->
  X.N[j]?=some x/\X.env.scope.names.lookup x=some .cell/\(relabel scope X.env).names.lookup x=some .cell/\cl.lookup x=X.env.cells.lookup x
 | [],_,_,_,h,_=>by simp at h
 | _::_,[],_,_,_,h=>by simp at h
 | y::N,none::c,0,_,_,h=>by simp at h
 | y::N,none::c,i+1,h,h1,h2=>Caps.get (N:=N) (cap:=c) (i:=i) h (by simpa using h1) (by simpa using h2)
 | y::N,some k::c,0,h,h1,h2=>by
  simp at h1 h2;subst h1;subst h2;exact h.1
 | y::N,some k::c,i+1,h,h1,h2=>Caps.get (N:=N) (cap:=c) (i:=i) h.2 (by simpa using h1) (by simpa using h2)
section
variable{X:Cx}{scope:Scope}{cl:List (Str×Addr)}{N':List Str}{cap:List (Option Nat)}{pins:List (Addr×Obj)}{σ:St}{H3:Hp}{s3:Shared}{ex:List Addr}
theorem a3{p:NameKind->Bool}:∀{names:List (Str×NameKind)} {q:Str->NameKind->Bool} {x:Str} {k:NameKind},(names.all fun y=>q y.1 y.2)=true->names.lookup x=some k->q x k=true
 | [],_,_,_,_,h=>by simp at h
 | (y,d)::r,q,x,k,ha,h=>by
  rw[List.all_cons,BO]at ha;rw[C_]at h;cases e:x == y with
  | true =>
   rw[e]at h;cases h;rw[beq_iff_eq.mp e];exact ha.1
  | false =>
   rw[e]at h;exact a3 (p:=p) (names:=r) (q:=q) ha.2 h
theorem Inv.block(I:Inv X pins σ H3 s3)(S:CScope X scope cl N' cap)(hc:X.calm=true)(hex:∀b∈ex,o6 X pins H3 b/\∃o,s3.heap.get? b=some o){h1:Heap}{tk:Nat}
  (hns:h1.Ns s3.heap.objs.size (fun _=>none)) (hk:∀b o,s3.heap.get? b=some o->h1.get? b=some o) :
  Inv (cxC X scope cl N' pins ex s3 H3) [] (Fv cap σ) H3 { s3 with heap:=h1,toks:=tk }:=by
 have lt3:∀b o,s3.heap.get? b=some o->b≠s3.heap.objs.size:=fun b o e=>AZ (AE e);have hcell:∀x c,cl.lookup x=some c->∃v,s3.heap.IsCell c v:=fun x c e=>I.cell x c (S.cin.get e);have hfree:H3 s3.heap.objs.size=none:=I.hok.fresh (AL _);refine⟨⟨I.ok.mod,?_,I.ok.glob,I.ok.blt,AL _,fun x y c e1 e2=>I.ok.inj x y c (S.cin.get e1) (S.cin.get e2),fun x hx=>?_,fun x c h _=>absurd h AN,I.ok.hd,I.ok.frames,.inl rfl,fun b hb=>?_,I.bs,BK I.ok.bsz I.sz,fun b o e hb=>?_,fun b hb=>?_,I.stack,I.stkFree⟩,
  rfl,I.bare,Un.kept hk,⟨_,hns,fun i x v e1 e2 e3=>?_⟩,fun x c e=>?_,hfree,fun x c e=>I.freeC x c (S.cin.get e),fun p hp=>?_,I.hok.kept hk,?_⟩
 .exact S.kind
 .have q:∀k,(relabel scope X.env).names.lookup x=some k->(!(k == .cell||k == .free)||(cl.lookup x).isSome)=true:=fun k e=>a3 (p:=fun _=>true) (q:=fun a k=>!(k == .cell||k == .free)||(cl.lookup a).isSome) S.has e;have hx':(relabel scope X.env).names.lookup x=some .cell\/(relabel scope X.env).names.lookup x=some .free:=hx;have:(cl.lookup x).isSome=true:=by
   rcases hx' with e | e
   .exact q _ e
   .exact q _ e
  exact CD.mp this
 .obtain⟨⟨_,_,_,_,f4,_⟩,o,e⟩:=hex b hb;exact⟨lt3 b o e,fun x c ec=>f4 x c (S.cin.get ec)⟩
 .obtain⟨⟨f0,f1,f2,f3,_⟩,_⟩:=hex b hb;rcases f3 with f3 | f3
  .exact I.ok.noex b o e f3
  .have:=(I.ok.bs b o e).1;exact absurd (BD (AE this) f3) (CG _)
 .intro hf;obtain⟨⟨_,f1,f2,_⟩,_⟩:=hex b hb;rcases AY.mp (I.stkSub b hf)with z | z
  .exact f1 z
  .exact f2 z
 .unfold Fv at e2;rw[AG]at e2;cases ec:cap[i]? with
  | none=>rw[ec]at e2;cases e2
  | some o =>
   rw[ec]at e2;cases o with
   | none=>cases e2
   | some j =>
    have e2':(σ[j]?).join=some v:=BN e2;obtain⟨c1,c2,c3,c4⟩:=S.caps.get e1 ec;have ej:σ[j]?=some (some v):=by
     cases ej:σ[j]? with
     | none=>rw[ej]at e2';cases e2'
     | some z=>rw[ej]at e2';cases z with
      | none=>cases e2'
      | some z=>cases e2';rfl
    obtain⟨m,hn,hl⟩:=I.loc;obtain⟨u,r,l⟩:=hl j x v c1 ej (.inr (.inl c2));refine⟨u,r,?_⟩;rcases l with⟨k,_⟩ | ⟨_,c,hc',hcell'⟩
    .have:X.env.scope.names.lookup x=some .local:=k;rw[c2]at this;cases this
    .exact .inr ⟨.inl c3,c,c4.trans hc',let⟨o,ho,hd⟩:=hcell';⟨o,hk _ _ ho,hd⟩⟩
 .obtain⟨v,o,ho,hd⟩:=hcell x c e;exact⟨v,o,hk _ _ ho,hd⟩
 .have hp':p∈X.pn++pins:=by simpa [cxC] using hp
  obtain⟨e,n,ne,nf,d⟩:=I.pin p hp';refine⟨hk _ _ e,n,lt3 _ _ e,fun hf=>?_,d⟩;rcases AY.mp (I.stkSub p.1 hf)with z | z
  .exact ne z
  .exact nf z
 .unfold Fv;rw[AA];exact S.caps.len
theorem Inv.unblock{σ':St}{H':Hp}{s':Shared}{h':Heap}(I:Inv X pins σ H3 s3)(hex:∀b∈ex,o6 X pins H3 b)(J:Inv (cxC X scope cl N' pins ex s3 H3) [] σ' H' s')(hb:Heap.SameBut s3.heap.objs.size s'.heap h') :
  Inv X pins σ H' { s' with heap:=h' }:=by
 have hfr:H' s3.heap.objs.size=none:=J.free;refine I.call' (ch:=ex) J.os ⟨fun b o e n h1 h2=>?_,fun b o e n h1 h2=>?_,fun b o e n h2=>?_,fun b o e h2=>?_,J.base.tups,J.base.frzs,J.base.tbls⟩ (fun b ob e=>?_) J.bare fun b hbx=>?_
 .exact(hb.2 b (AZ (AE e))).trans (J.base.keep b o e n h1 h2)
 .obtain⟨sl,q⟩:=J.base.slot b o e n h1 h2;exact⟨sl,(hb.2 b (AZ (AE e))).trans q⟩
 .exact J.base.free b o e n h2
 .obtain⟨o',q⟩:=J.base.there b o e h2;exact⟨o',(hb.2 b (AZ (AE e))).trans q⟩
 .refine(J.hok b ob e).stay (fun c w' hc q=>(hb.2 c ?_).trans q) (fun _ q=>q) fun _ _ q=>q;rintro rfl;rcases hc with z | z
  .rw[<-z,hfr]at e;cases e
  .rw[hfr]at z;cases z
 .obtain⟨_,f1,_,f3,f4,f5⟩:=hex b hbx;exact⟨f3,f1,f4,f5⟩
end
def Ck(e:Expr)(d:Nat)(iter tg:Expr)(ifs:List Expr)(emit:Sem Fin->Sem Fin)(it acc:Value)(env:Env):Sem Fin:=do
 standAt iter.pos
 match <-pyNext it with
 | none=>pure (.done .next)
 | some v =>
  letOwnedTupleGo tg it v
  assign tg env v
  let mut ok:=true
  for c in ifs do
   if ok then ok <-isTrue c env (eval c env)
  if ok then emit (again (.compLoop e d it acc env))else again (.compLoop e d it acc env)
def emL(elt:Expr)(acc:Value)(env:Env)(k:Sem Fin):Sem Fin:=(do let _ <-call (.builtin "list.append") [acc,<-eval elt env]:Sem Unit) >>= fun _=>k
theorem Z6(elt tg iter:Expr)(ifs:List Expr)(scope:Scope)(pos:Pos)(it acc:Value)(env:Env) :
  compTurn (.ListComp elt [⟨tg,iter,ifs,0⟩] scope pos) 0 it acc env=Ck (.ListComp elt [⟨tg,iter,ifs,0⟩] scope pos) 0 iter tg ifs (emL elt acc env) it acc env:=rfl
abbrev TEm:=St->Hp->(St->Hp->Prop)->Prop
def PEm(X:Cx)(emit:Sem Fin->Sem Fin)(t:TEm):Prop :=
 ∀(pins:List (Addr×Obj)) (s:Shared) (σ:St) (H:Hp) (Q:St->Hp->Prop) (k:Sem Fin) (F:Fin->Shared->Prop) (E:Value->Shared->Prop),Inv X pins σ H s->t σ H Q ->
  (∀s' σ' H',Inv X pins σ' H' s'->Q σ' H'->wpAny (model X.prog X.w) X.A k F E s')->wpAny (model X.prog X.w) X.A (emit k) F E s
def PTs(X:Cx)(ifs:List Expr)(t:TT):Prop :=
 ∀(pins:List (Addr×Obj)) (s:Shared) (σ:St) (H:Hp) (Q:Bool->Hp->Prop),Inv X pins σ H s->t σ H Q ->
  wpAny (model X.prog X.w) X.A (forIn ifs true fun c r=>if r=true then do let ok <-isTrue c X.env (eval c X.env);pure (ForInStep.yield ok)else pure (ForInStep.yield r)) (TP X pins σ Q) X.xe s
def Q3:TT:=fun _ H Q=>Q true H
theorem D8{X:Cx}:PTs X [] Q3:=fun _ _ _ H _ I h=>wpAny_tests_nil ⟨H,I,h⟩
theorem Gj{X:Cx}{c:Expr}{t:TT}(h:PT X c t):PTs X [c] t:=fun pins s σ H Q I q=>wpAny_tests_one (h pins s σ H Q I q)
def Hu(g:TG)(tc:TT)(em:TEm)(J:It)(σ:St)(H:Hp)(Q:St->Hp->Prop):Prop :=
 ∃W:Nat->Nat->St->Hp->Prop,(∃m,W 0 m σ H)/\∀i m σ H,W i m σ H->(J.stop i H/\Q σ H)\/(J.go i H/\∀x H',J.yld i H x H'->g x σ H' fun σ2 H2=>tc σ2 H2 fun b H3 =>
  if b=true then em σ2 H3 fun σ3 H4=>∃m',m' < m/\W (i+1) m' σ3 H4 else ∃m',m' < m/\W (i+1) m' σ2 H3)
section
variable{X:Cx}{e tg iter:Expr}{d:Nat}{ifs:List Expr}{emit:Sem Fin->Sem Fin}{it:Addr}{acc:Value}{g:TG}{tc:TT}{em:TEm}{J:It}{fp:List Addr}{tn:Nat->Heap->Prop}{R:Result->Shared->Prop}
theorem o4(hun:X.A.under (.compLoop e d (.ref it) acc X.env)=X.A)(hden:(model X.prog X.w).den (.compLoop e d (.ref it) acc X.env) =(compTurn e d (.ref it) acc X.env).onRaise (fun x=>do noteFrame x X.env;theTreesLotGoes x))(hc:X.calm=true)(hxe:X.xe=fun _ _=>False)(hct:compTurn e d (.ref it) acc X.env=Ck e d iter tg ifs emit (.ref it) acc X.env)(hg:PG X tg g)(ht:PTs X ifs tc)(hem:PEm X emit em)
  (T:Turn X.prog X.w X.K tg J fp it tn) {pins:List (Addr×Obj)} {s:Shared} {σ:St} {H:Hp} {Q:St->Hp->Prop} (I:Inv X pins σ H s) (st:tn 0 s.heap) (hf:∀b∈fp,o6 X pins H b) (h:Hu g tc em J σ H Q)
  (hR:∀s' σ' H',Inv X pins σ' H' s'->Q σ' H'->R (.ok .next) s'):codeAny (model X.prog X.w) X.A (.compLoop e d (.ref it) acc X.env) R s:=by
 obtain⟨W,⟨m0,w0⟩,turn⟩:=h;have stat:∀{H':Hp},(∀b∈fp,H' b=none)->∀b∈fp,o6 X pins H' b:=fun hn b hb=>⟨hn b hb,(hf b hb).2⟩;have no:∀{α:Type} {m:Sem α} {P:α->Shared->Prop} {E:Value->Shared->Prop} {s:Shared},wpAny (model X.prog X.w) X.A m P X.xe s->wpAny (model X.prog X.w) X.A m P E s:=fun q=>by
  rw[hxe]at q;exact BS q (fun _ _ z=>z) fun _ _ z=>z.elim
 refine codeAny_loop rfl (fun n s'=>∃i σ' H',Inv X pins σ' H' s'/\tn i s'.heap/\(∀b∈fp,H' b=none)/\W i n σ' H') (fun n s3 hI=>?_) m0 ⟨0,σ,H,I,st,fun b hb=>(hf b hb).1,w0⟩;obtain⟨i,σ3,H3,I3,st3,fr3,w3⟩:=hI;rw[hun,hden];refine wpAny_noted ?_;rw[hct];unfold Ck;refine AH (CP (AH ?_));rcases turn i n σ3 H3 w3 with⟨stop,qn⟩ | ⟨go,step⟩
 .refine BS (T.done X rfl rfl rfl hc i pins s3 σ3 H3 _ I3 (stat fr3) st3 stop) (fun r s4 ⟨hr,I4⟩=>?_) fun _ _ z=>z;subst hr;exact AS (hR s4 σ3 H3 I4 qn)
 .refine BS (T.item X rfl rfl rfl hc i pins s3 σ3 H3 _ I3 (stat fr3) st3 go) (fun r s4 ⟨u,hr,h4⟩=>?_) fun _ _ z=>z;subst hr;refine AH (BS h4 (fun _ s5 ⟨x,H5,I5,r5,y5,st5,fr5⟩=>?_) fun _ _ z=>z);have I5':=I5.pinned (stat fr5) (T.obj _ _ st5);have again:∀{σ7:St} {H7:Hp} {s7:Shared},Inv X (pins++n8 fp s5.heap) σ7 H7 s7->(∃m',m' < n/\W (i+1) m' σ7 H7)->∃m,m<n/\∃i σ' H',Inv X pins σ' H' s7/\tn i s7.heap/\(∀b∈fp,H' b=none)/\W i m σ' H':=fun{σ7 H7 s7} I7 n7=>by
   obtain⟨m',hm,w7⟩:=n7;refine⟨m',hm,i+1,σ7,H7,I7.unpinned,T.keep _ _ _ st5 fun b hb o e=>(I7.pin (b,o) (BB _ (BB _ (O5 hb e)))).1,fun b hb=>?_,w7⟩;obtain⟨o,e,d⟩:=T.obj _ _ st5 b hb;exact(I7.pin (b,o) (BB _ (BB _ (O5 hb e)))).2.1
  refine AH (BS (no (hg _ s5 σ3 H5 x u _ I5' r5 (step x H5 y5))) (fun _ s6 ⟨σ6,H6,I6,q6⟩=>?_) fun _ _ z=>z);refine AH (BS (no (ht _ s6 σ6 H6 _ I6 q6)) (fun ok s7 ⟨H7,I7,q7⟩=>?_) fun _ _ z=>z);cases ok with
  | false=>exact AS ⟨rfl,again I7 q7⟩
  | true =>
   exact hem _ s7 σ6 H7 _ _ _ _ I7 q7 fun s8 σ8 H8 I8 q8=>AS ⟨rfl,again I8 q8⟩
theorem c8(hun:X.A.under (.compStart e d (.ref it) acc X.env)=X.A)(hden:(model X.prog X.w).den (.compStart e d (.ref it) acc X.env) =(compStart e d (.ref it) acc X.env).onRaise (fun x=>do noteFrame x X.env;standAt theWindowsPlace)){gs:List Comprehension}(hgs:clausesOf e=gs)(hd:gs[d]?=some ⟨tg,iter,ifs,0⟩){s:Shared}(T:Turn X.prog X.w X.K tg J fp it tn)(st:tn 0 s.heap)
  (h:codeAny (model X.prog X.w) X.A (.compLoop e d (.ref it) acc X.env) R s):codeAny (model X.prog X.w) X.A (.compStart e d (.ref it) acc X.env) R s:=by
 refine codeAny_of_tree ?_;rw[hun,hden];refine wpAny_notedAt ?_;unfold compStart;rw[hgs,hd];show wpAny _ X.A (ask >>= _) _ _ s;refine AH (wpAny_askSetting (wpAny_ite ?_));have h1:=T.self X.A 0 s (fun it' s'=>codeAny (model X.prog X.w) X.A (.compLoop e d it' acc X.env) R s') (notedBy (model X.prog X.w) X.A X.env fun x s'=>R (.error x) s') st h;split
 .first
   | exact AH (AS (AS (And.intro rfl h)))
   | exact AS (And.intro rfl h)
 .first
   | exact AH (wpAny_rule (AH (CP (AH (BS h1 (fun it' s' h'=>AS (And.intro rfl h')) fun _ _ x=>x)))))
   | (refine AH (wpAny_rule ?_);show wpAny _ _ (standAt iter.pos >>= _) _ _ s;exact AH (CP (AH (BS h1 (fun it' s' h'=>AS (And.intro rfl h')) fun _ _ x=>x))))
end
section
variable{X:Cx}{tg iter:Expr}{ifs:List Expr}{g:TG}{tc:TT}{em:TEm}{scope:Scope}{cl:List (Str×Addr)}{N':List Str}{cap:List (Option Nat)}{pos:Pos}{wi:TI}
def Eu(wi:TI)(o:Addr->HO)(cap:List (Option Nat))(lp:Addr->It->St->Hp->(St->Hp->Prop)->Prop):TE:=fun σ H Q=>wi σ H fun J H1=>∀D,H1 D=none->lp D J (Fv cap σ) (upd H1 D (o D)) fun _ H2=>Q (.ref D) H2
theorem Ex{e:Expr}{gs:List Comprehension}{newAcc:Sem Value}{p2:Pos}(hcl:clausesOf e =⟨tg,iter,ifs,0⟩::gs)(o:Addr->HO)(hs:∀x,foldedSetIterable iter X.env x=pure x)(S:CScope X scope cl N' cap)(hc:X.calm=true)(hi:PI X tg iter wi)
  {lp:Addr->It->St->Hp->(St->Hp->Prop)->Prop}
  (hnew:∀(pins:List (Addr×Obj)) (s:Shared) (σ:St) (H:Hp) (Q:Value->Shared->Prop) (E:Value->Shared->Prop),Inv X pins σ H s->(∀s',Inv X pins σ (upd H s.heap.objs.size (o s.heap.objs.size)) s'->(∀b ob,s.heap.get? b=some ob->s'.heap.get? b=some ob)->Q (.ref s.heap.objs.size) s')->wpAny (model X.prog X.w) X.A newAcc Q E s)
  (hlp:∀(pins:List (Addr×Obj)) (ex:List Addr) (s3:Shared) (H3:Hp) (D it:Addr) (fp:List Addr) (tn:Nat->Heap->Prop) (J:It) (σ:St) (s:Shared) (H:Hp) (Q:St->Hp->Prop) (R:Result->Shared->Prop),
   Turn X.prog X.w X.K tg J fp it tn->Inv (cxC X scope cl N' pins ex s3 H3) [] σ H s->tn 0 s.heap->(∀b∈fp,o6 (cxC X scope cl N' pins ex s3 H3) [] H b)->lp D J σ H Q ->
   (∀s' σ' H',Inv (cxC X scope cl N' pins ex s3 H3) [] σ' H' s'->Q σ' H'->R (.ok .next) s') ->
   codeAny (model X.prog X.w) X.A (.compLoop e 0 (.ref it) (.ref D) (compEnvC scope cl s3.heap.objs.size X.env)) R s)
  (hun:∀it D env,X.A.under (.compStart e 0 (.ref it) (.ref D) env)=X.A) (hden:∀it D env,(model X.prog X.w).den (.compStart e 0 (.ref it) (.ref D) env) =(compStart e 0 (.ref it) (.ref D) env).onRaise (fun x=>do noteFrame x env;standAt theWindowsPlace))
  (hev:∀E Q s,wpAny (model X.prog X.w) X.A (comprehension e scope X.env p2 newAcc false (eval iter X.env)) Q E s->wpAny (model X.prog X.w) X.A (eval e X.env) Q E s) :
  PE X e (Eu wi o cap lp):=by
 intro pins s σ H Q I h;refine hev _ _ _ (wpAny_comprehension_free (use:=none) hcl hs S.clos S.kind S.loc (thn (hi pins s σ H _ I h) fun v s1 h1=>thn h1 fun itv s2 h2=>?_));obtain⟨it,fp,tn,J,H2,eit,I2,T,st2,f2,R2⟩:=h2;subst eit;refine hnew pins s2 σ H2 _ _ I2 fun s3 I3 k3=>?_;have hD:H2 s2.heap.objs.size=none:=I2.hok.fresh (AL _);have fok:∀b∈fp,o6 X pins (upd H2 s2.heap.objs.size (o s2.heap.objs.size)) b/\∃ob,s3.heap.get? b=some ob:=fun b hb=>by
  obtain⟨ob,e,_⟩:=T.obj _ _ st2 b hb;obtain⟨f0,fr⟩:=f2 b hb;exact⟨⟨by rw[B3 (AZ (AE e))];exact f0,fr⟩,ob,k3 b ob e⟩
 refine wpAny_newFunctionEnv S.nocell (by intro y hy;simp at hy) (fun h1 hns hsb=>?_) S.kind;have hk:∀b ob,s3.heap.get? b=some ob->h1.get? b=some ob:=fun b ob e=>(hsb.2 b (AZ (AE e))).trans (AC _ e);have I4:Inv (cxC X scope cl N' pins fp s3 (upd H2 s2.heap.objs.size (o s2.heap.objs.size))) [] (Fv cap σ) (upd H2 s2.heap.objs.size (o s2.heap.objs.size)) { s3 with heap:=h1,toks:=s3.toks +([]:List (Str×Value)).length } :=
  I3.block S hc fok hns hk
 have st4:tn 0 h1:=T.keep 0 _ _ st2 fun b hb ob e=>hk b ob (k3 b ob e);refine c8 (X:=cxC X scope cl N' pins fp s3 (upd H2 s2.heap.objs.size (o s2.heap.objs.size))) (gs:=⟨tg,iter,ifs,0⟩::gs) (e:=e) (d:=0) (tg:=tg) (iter:=iter) (ifs:=ifs) (hun _ _ _) (hden _ _ _) hcl rfl T st4 ?_;refine hlp pins fp s3 _ s2.heap.objs.size it fp tn J (Fv cap σ) _ _ _ _ T I4 st4 (fun b hb=>?_) (R2 _ hD) fun s' σ' H' I' q'=>?_
 .obtain⟨⟨f0,f1,f2',f3,f4,f5⟩,ob,eo⟩:=fok b hb;refine⟨f0,AZ (AE eo),fun hf=>?_,.inl hb,fun x c e=>f4 x c (S.cin.get e),fun p hp=>f5 p (by simpa [cxC] using hp)⟩;rcases AY.mp (I3.stkSub b hf)with z | z
  .exact f1 z
  .exact f2' z
 .obtain⟨m,hn,_⟩:=I'.loc;exact⟨m,hn,fun h' hb=>⟨.ref _,H',I3.unblock (fun b hb=>(fok b hb).1) I' hb,rfl,q'⟩⟩
end
section
variable{X:Cx}{tg iter elt:Expr}{ifs:List Expr}{g:TG}{tc:TT}{te:TE}{scope:Scope}{cl:List (Str×Addr)}{N':List Str}{cap:List (Option Nat)}{pos:Pos}{wi:TI}
def Cu(D:Addr)(te:TE):TEm:=fun σ H Q=>te σ H fun y H1=>∃ys,H1 D=some (.lst ys)/\ys.length<sizeLine/\Q σ (upd H1 D (.lst (ys ++ [y])))
theorem Fx{α:Type}{X:Cx}(hxe:X.xe=fun _ _=>False){m:Sem α}{P:α->Shared->Prop}{E:Value->Shared->Prop}{s:Shared}(q:wpAny (model X.prog X.w) X.A m P X.xe s):wpAny (model X.prog X.w) X.A m P E s:=by
 rw[hxe]at q;exact BS q (fun _ _ z=>z) fun _ _ z=>z.elim
theorem Ai{D:Addr}(hxe:X.xe=fun _ _=>False)(he:PE X elt te):PEm X (emL elt (.ref D) X.env) (Cu D te):=by
 intro pins s σ H Q k F E I h hk;unfold emL;refine AH (AH (BS (Fx hxe (he pins s σ H _ I h)) (fun u s1 ⟨y,H1,I1,r1,ys,e1,z1,q1⟩=>?_) fun _ _ z=>z));refine AH (BS (Fx hxe (K8 pins s1 σ H1 (.ref D) [y] (.ref D) [u] (fun v H2=>v = .non/\Q σ H2) I1 rfl (.cons r1 .nil) ⟨D,ys,y,rfl,rfl,e1,z1,rfl,q1⟩)) (fun v s2 ⟨y2,H2,I2,r2,_,q2⟩=>?_) fun _ _ z=>z);exact AS (hk s2 σ H2 I2 q2)
theorem Q0(S:CScope X scope cl N' cap)(hc:X.calm=true)(hi:PI X tg iter wi)
  (hb:∀(pins:List (Addr×Obj)) (ex:List Addr) (s3:Shared) (H3:Hp),PG (cxC X scope cl N' pins ex s3 H3) tg g/\PTs (cxC X scope cl N' pins ex s3 H3) ifs tc/\PE (cxC X scope cl N' pins ex s3 H3) elt te)
  (hs:∀x,foldedSetIterable iter X.env x=pure x:=by intro _;rfl) :
  PE X (.ListComp elt [⟨tg,iter,ifs,0⟩] scope pos) (Eu wi (fun _=>.lst []) cap fun D J σ H Q=>Hu g tc (Cu D te) J σ H Q):=by
 refine Ex (newAcc:=newList []) (p2:=firstIterPos [⟨tg,iter,ifs,0⟩] pos) rfl (fun _=>.lst []) hs S hc hi (fun pins s σ H Q E I h=>?_) (fun pins ex s3 H3 D it fp tn J σ s H Q R T I st hf h hR=>?_) (fun _ _ _=>rfl) (fun _ _ _=>rfl) (fun E Q s h=>h)
 .refine wpAny_newList ?_;exact h _ (I.lnew (t':=s.toks) (its:=[]) .nil (BI _)) fun b ob e=>AC _ e
 .obtain⟨b1,b2,b3⟩:=hb pins ex s3 H3;exact o4 (X:=cxC X scope cl N' pins ex s3 H3) rfl rfl hc rfl (Z6 elt tg iter ifs scope pos _ _ _) b1 b2 (Ai rfl b3) T I st hf h hR
end
instance:LawfulBEq Key where
 rfl {a}:=by cases a with
  | inl i=>show(i == i)=true;simp
  | inr x=>show(x == x)=true;simp
 eq_of_beq {a b} h:=by
  cases a with
  | inl i=>cases b with
   | inl j=>exact congrArg Sum.inl (eq_of_beq (show(i == j)=true from h))
   | inr j=>exact absurd h (by intro z;cases z)
  | inr i=>cases b with
   | inl j=>exact absurd h (by intro z;cases z)
   | inr j=>exact congrArg Sum.inr (eq_of_beq (show(i == j)=true from h))
def Its(x:Str):It:=⟨fun i _=>i<x.cps.size,fun i H v H'=>H'=H/\∃c,x.cps[i]?=some c/\v = .str ⟨#[c]⟩,fun i _=>i=x.cps.size⟩
theorem Aa{P:Program}{w:World}{K:PySem.W.Frag}{tg:Expr}(it:Addr)(x:Str)(t:Tok)(ty:String)(hty:["enumerate", "zip", "dict_itemiterator", "dict_reverseitemiterator", "odict_iterator", "itertools.zip_longest", "itertools.pairwise"].contains ty=false)
  (W:∀A':Around,A'.handled=none->Walks P w A' it [it] [it] x.cps.size (SignAt x) (fun i h=>h.IsStrIter it ty x t i))
  (hself:∀(A:Around) (i:Nat) (s:Shared) (Q:Value->Shared->Prop) (E:Value->Shared->Prop),s.heap.IsStrIter it ty x t i->Q (.ref it) s->wpAny (model P w) A (pyIter (.ref it)) Q E s):Turn P w K tg (Its x) [it] it (fun i h=>h.IsStrIter it ty x t i) where
 mem:=by simp
 obj:=fun i h st b hb=>by
  have e:b=it:=by simpa using hb
  subst e;obtain⟨o,e,c,d⟩:=st;exact⟨o,e,fun v z=>by rw[d]at z;cases z⟩
 keep:=fun i h h' st k=>let⟨o,e,r⟩:=st;⟨o,k it (by simp) o e,r⟩
 item:=by
  intro X hP hw hK hc i pins s σ H E I hf st hg;subst hP hw hK;obtain⟨f0,f1,f2,f3,f4,f5⟩:=hf it (by simp);refine(W X.A (I.ok.hd hc)).item i s _ _ hg st fun v h' tk hv st' k=>?_;obtain⟨c,u,ec,ev⟩:=hv;have I1:Inv X pins σ H { s with heap:=h',toks:=tk }:=I.turned (fun b o hb e=>k b o (by simpa using hb) e) f0 f1 f3 f4 f5;obtain⟨o,e,c',d⟩:=id st';exact⟨v,rfl,Go (s:={ s with heap:=h',toks:=tk }) e c' d hty ⟨.str ⟨#[c]⟩,H,I1,⟨u,ev⟩,⟨rfl,c,ec,rfl⟩,st',fun b hb=>(hf b hb).1⟩⟩
 done:=by
  intro X hP hw hK hc i pins s σ H E I hf st hg;subst hP hw hK;obtain⟨f0,f1,f2,f3,f4,f5⟩:=hf it (by simp);have hg':i=x.cps.size:=hg;subst hg';exact(W X.A (I.ok.hd hc)).done s _ _ st fun h' tk k=>⟨rfl,I.turned (fun b o hb e=>k b o (by simpa using hb) e) f0 f1 f3 f4 f5⟩
 self:=fun A i s Q E st h=>hself A i s Q E st h
section
variable{X:Cx}{tg:Expr}
def Mw(te:TE):TI:=fun σ H R=>te σ H fun x H1=>∃z,x = .str z/\R (Its z) H1
theorem Iu{l:Expr}{tl:TE}(hl:PE X l tl):PI X tg l (Mw tl):=by
 intro pins s σ H R I h;refine thn (hl pins s σ H _ I h) fun v s1 ⟨x,H1,I1,r1,q1⟩=>?_;obtain⟨z,e,q⟩:=q1;subst e;obtain⟨t,rfl⟩:=r1;have fin:∀(o:Obj) (ty:String),o.cls = .type ty->o.data = .fields #[.str z t,.int (0:Nat) 0]->o.isFreed=false->Turn X.prog X.w X.K tg (Its z) [s1.heap.objs.size] s1.heap.objs.size (fun i h=>h.IsStrIter s1.heap.objs.size ty z t i) ->
   PIE X pins σ tg R (.ref s1.heap.objs.size) { s1 with heap:=s1.heap.push o }:=fun o ty c d hf T=>by
  refine⟨s1.heap.objs.size,[s1.heap.objs.size],_,_,H1,rfl,I1.kept (t':=s1.toks) fun b o e=>AC _ e,T,⟨o,BE _ hf,c,d⟩,fun b hb=>?_,q⟩;have e:b=s1.heap.objs.size:=by simpa using hb
  subst e;exact I1.fpOk (AL _) (I1.hok.fresh (AL _))
 cases ha:z.cps.all (· < 128)
 .exact wpAny_pyIter_wide ha (fin _ _ rfl rfl rfl (Aa _ z t "str_iterator" (by decide) (fun A' hA=>Walks.strWide hA _ z t) fun A i s Q E st h=>wpAny_pyIter_striter_wide st h))
 .exact wpAny_pyIter_ascii ha (fin _ _ rfl rfl rfl (Aa _ z t "str_ascii_iterator" (by decide) (fun A' hA=>Walks.strAscii hA _ z t) fun A i s Q E st h=>wpAny_pyIter_striter_ascii st h))
end
section
variable{X:Cx}
theorem Fa(hc:X.calm=true):J0 X (.builtin "all") (fun xs H Q=>∃(p:Addr) (bs:List Bool),xs = [.ref p]/\SqL X.K H p (bs.map V.bl)/\Q (.bl (bs.all id)) H):=by
 intro pins s σ H xs us Q I r h;obtain⟨p,bs,rfl,hq,q⟩:=h;obtain⟨u,rfl,ru⟩:=X9 r;cases ru;obtain⟨its,rv,pl,hz⟩:=I.list hq;refine call_all_walk (wpAny_pyIter_list pl.isList ?_);have hne:p≠s.heap.objs.size:=by
  obtain⟨o,n,e,_⟩:=pl;exact AZ (AE e)
 refine⟨s.heap.objs.size,_,_,_,_,_,fun i=>bs.getD i true,rfl,Walks.list (A:=X.A.in1) (show X.A.in1.handled=none from I.ok.hd hc) _ p hne its.toArray,⟨⟨_,BE _ rfl,rfl,rfl⟩,?_⟩,fun i v s' Q' E' hv q'=>?_,fun h' tk k=>?_⟩
 .obtain⟨o,n,e,c,d,e2⟩:=pl;exact⟨o,AC _ e,c,n,e2⟩
 .have hb:(bs.map V.bl)[i]?=some (V.bl (bs.getD i true))/\RelV (V.bl (bs.getD i true)) v:=by
   have hv':its[i]?=some v:=by simpa using hv
   have hi:i<its.length:=(AR.mp hv').1;have hl:=rv.length;rw[AA]at hl;have e:(bs.map V.bl)[i]?=some (V.bl (bs.getD i true)):=by
    rw[AG,AQ (by omega)];simp[CK,AQ (show i<bs.length by omega)]
   obtain⟨u,hu,ru⟩:=rv.get e;rw[hv']at hu;cases hu;exact⟨e,ru⟩
  cases hb.2;exact BQ q'
 .have hl:=rv.length;rw[AA]at hl;have e:(List.range its.toArray.size).all (fun i=>bs.getD i true)=bs.all id:=by
   rw[AI,<-hl];rw[CS,B_,B_];constructor
   .intro z b hb;obtain⟨i,hi,rfl⟩:=List.mem_iff_getElem.mp hb;have:=z i (List.mem_range.mpr hi);simpa [CK,AQ hi] using this
   .intro z i hi;have hi':=List.mem_range.mp hi;have:=z bs[i] (List.getElem_mem hi');simpa [CK,AQ hi'] using this
  rw[e];exact⟨.bl (bs.all id),H,I.kept fun b o eb=>k b o (by
   intro hb;have:b=s.heap.objs.size:=by simpa using hb
   exact absurd (AE eb) (by rw[this];exact CG _)) (AC _ eb),rfl,q⟩
theorem b7:∀{ss:List Str} {us:List Value},Vals (ss.map V.str) us->StrsAre us ss
 | [],_,.nil=>.nil
 | _::_,_,.cons ⟨t,e⟩ r=>by subst e;exact .cons _ _ (b7 r)
end
abbrev PA2:=Addr×Str×Str
def P1(H:Hp)(q:PA2):Prop:=H q.1=some (.tup [.str q.2.1,.str q.2.2])
theorem Inv.turnLaid{X:Cx}{pins:List (Addr×Obj)}{σ:St}{H:Hp}{s:Shared}{h':Heap}{t':Nat}{fp:List Addr}{T:Addr}{o:HO}(I:Inv X pins σ H s)(k:∀b ob,b∉fp->s.heap.get? b=some ob->h'.get? b=some ob)
  (hf:∀b∈fp,o6 X pins H b) (hfo:∀b∈fp,∃ob,s.heap.get? b=some ob) (hT:s.heap.objs.size<=T) (new:ObjOk X.prog X.w (upd H T o) h' T o):Inv X pins σ (upd H T o) { s with heap:=h',toks:=t' }:=by
 have hn:=I.hok.fresh hT;have nT:∀b ob,s.heap.get? b=some ob->b≠T:=fun b ob e=>AZ (BD (AE e) hT);have nf:∀b u,H b=some u->b∉fp:=fun b u e hb=>by rw[(hf b hb).1]at e;cases e
 refine I.step (g':=s.gens) (d':=s.drawn) (ch:=fp) (fun b hb=>let⟨_,f1,_,f3,f4,f5⟩:=hf b hb;⟨f3,f1,f4,f5⟩) (fun b ob _ _ hc e _=>k b ob hc e) (fun b ob _ _ hc e _=>⟨ob.slots,k b ob hc e⟩) (fun b ob _ e n=>by rw[B3 (nT b ob e)];exact n)
  (fun b ob hc e=>⟨ob,k b ob hc e⟩) (fun b xs e=>by rw[B3 (B0 e hn)];exact e) (fun b u xs e=>by rw[B3 (B0 e hn)];exact e) (fun b ps e=>⟨#[],by rw[B3 (B0 e hn),e];simp⟩) (fun m hm=>?_) (fun b u e=>?_) I.bare
 .obtain⟨ob,es,ep,ho,r⟩:=hm;exact⟨ob,es,ep,k _ ob (fun hb=>(hf _ hb).2.1 rfl) ho,r⟩
 .by_cases hb:b=T
  .subst hb;rw[A8]at e;cases e;exact new
  .rw[B3 hb]at e;refine(I.hok b u e).stay (fun c v hc q=>k c v ?_ q) (fun c q=>by rw[B3 (B0 q hn)];exact q) fun c xs q=>by rw[B3 (B0 q hn)];exact q
   rcases hc with z | z
   .rw[z];exact nf b u e
   .exact nf c _ z
def Ite(K:PySem.W.Frag)(a:Addr):It :=
 ⟨fun i H=>∃xs x,SqL K H a xs/\xs[i]?=some x,fun i H v H'=>∃T x,v = .ref T/\H T=none/\H'=upd H T (.tup [.int i,x])/\∀xs,SqL K H a xs->xs[i]?=some x,fun i H=>∃xs,SqL K H a xs/\xs.length=i⟩
theorem Cg{P:Program}{w:World}{K:PySem.W.Frag}{elts:List Expr}{kk:Nat}{tp:Pos}(a it e:Addr)(hei:e≠it):Turn P w K (.Tuple elts kk tp) (Ite K a) [e,it] e (fun i h=>(∃old,IsEnum h e it i old)/\h.IsListIter it a i) where
 mem:=by simp
 obj:=fun i h st b hb=>by
  obtain⟨⟨old,h1⟩,o,h2,c,d⟩:=st;rcases AY.mp hb with rfl | hb
  .exact⟨_,h1,fun v z=>by cases z⟩
  .rw[AB.mp hb];exact⟨o,h2,fun v z=>by rw[d]at z;cases z⟩
 keep:=fun i h h' st k=>⟨let⟨old,h1⟩:=st.1;⟨old,k e (by simp) _ h1⟩,st.2.at fun o x=>k it (by simp) o x⟩
 item:=by
  intro X hP hw hK hc i pins s σ H E I hf st hg;subst hP hw hK;obtain⟨xs,x,hq,hx⟩:=hg;obtain⟨its,rv,p,hz⟩:=I.list hq;obtain⟨u,hu,ru⟩:=rv.get hx;obtain⟨f0,f1,f2,f3,f4,f5⟩:=hf e (by simp);obtain⟨g0,g1,g2,g3,g4,g5⟩:=hf it (by simp);have hae:a≠e:=fun z=>by
   obtain⟨old,h1⟩:=st.1;obtain⟨o,n,e1,c,_⟩:=p;rw[z,h1]at e1;cases e1;exact absurd c (by show ¬Value.type "enumerate" = Value.type "list";decide)
  have hai:a≠it:=fun z=>by
   obtain⟨o2,h2,c2,d2⟩:=st.2;obtain⟨o,n,e1,c,_⟩:=p;rw[z,h2]at e1;cases e1;rw[c2]at c;exact absurd c (by decide)
  have hi:i<its.toArray.size:=by
   rw[AI];exact(AR.mp hu).1
  have W:=WalksT.enumerate (prog:=X.prog) (w:=X.w) (A:=X.A) (I.ok.hd hc) e it a hei hae hai its.toArray;refine W.item i s _ _ hi ⟨st.1,st.2,p.isList⟩ fun T vals h' tk hv hT ht hm k=>?_;obtain⟨t,x',hx',rfl⟩:=hv;have:x'=u:=by
   have:its.toArray[i]?=some u:=by simpa using hu
   rw[this]at hx';exact(BN hx').symm
  subst this;refine⟨.ref T,rfl,W.go elts kk tp i T _ _ _ hm fun h2 st2 k2=>?_⟩;have hTn:H T=none:=I.hok.fresh hT;have hTe:T≠e:=fun z=>W.apart i T h' hm (by simp[z]);have hTi:T≠it:=fun z=>W.apart i T h' hm (by simp[z]);have kk2:∀b o,b≠e->b≠it->s.heap.get? b=some o->h2.get? b=some o:=fun b o b1 b2 eb=>k2 b o (by simp[b1,b2]) (k b o (by simp[b1,b2]) eb);have hT2:h2.IsTuple T #[.int i t,x']:=by
   obtain⟨o,e1,r⟩:=ht;exact⟨o,k2 T o (by simp[hTe,hTi]) e1,r⟩
  refine⟨.ref T,upd H T (.tup [.int i,x]),I.turnLaid (fp:=[e,it]) (fun b o hb eb=>kk2 b o (fun z=>hb (by simp[z])) (fun z=>hb (by simp[z])) eb) hf (fun b hb=>?_) hT ⟨?_,[.int i t,x'],.cons ⟨t,rfl⟩ (.cons ru .nil),hT2⟩,rfl,⟨T,x,rfl,hTn,rfl,fun ys hy=>by rw[I.list_inj hy hq];exact hx⟩,⟨st2.1,st2.2.1⟩,fun b hb=>?_⟩
  .rcases AY.mp hb with rfl | hb
   .obtain⟨old,h1⟩:=st.1;exact⟨_,h1⟩
   .rw[AB.mp hb];obtain⟨o,h1,_⟩:=st.2;exact⟨o,h1⟩
  .show 2<=sizeLine;decide
  .rcases AY.mp hb with rfl | hb
   .rw[B3 (Ne.symm hTe)];exact f0
   .rw[AB.mp hb,B3 (Ne.symm hTi)];exact g0
 done:=by
  intro X hP hw hK hc i pins s σ H E I hf st hg;subst hP hw hK;obtain⟨xs,hq,hx⟩:=hg;obtain⟨its,rv,p,hz⟩:=I.list hq;obtain⟨f0,f1,f2,f3,f4,f5⟩:=hf e (by simp);obtain⟨g0,g1,g2,g3,g4,g5⟩:=hf it (by simp);have hae:a≠e:=fun z=>by
   obtain⟨old,h1⟩:=st.1;obtain⟨o,n,e1,c,_⟩:=p;rw[z,h1]at e1;cases e1;exact absurd c (by show ¬Value.type "enumerate" = Value.type "list";decide)
  have hai:a≠it:=fun z=>by
   obtain⟨o2,h2,c2,d2⟩:=st.2;obtain⟨o,n,e1,c,_⟩:=p;rw[z,h2]at e1;cases e1;rw[c2]at c;exact absurd c (by decide)
  have W:=WalksT.enumerate (prog:=X.prog) (w:=X.w) (A:=X.A) (I.ok.hd hc) e it a hei hae hai its.toArray;have hl:=rv.length;have hi:i=its.toArray.size:=by rw[AI];omega
  rw[hi]at st;refine W.done s _ _ ⟨st.1,st.2,p.isList⟩ fun h' tk k=>⟨rfl,?_⟩;have I1:=I.step (h':=h') (H':=H) (t':=tk) (g':=s.gens) (d':=s.drawn) (ch:=[e,it]) (fun b hb=>let⟨_,f1,_,f3,f4,f5⟩:=hf b hb;⟨f3,f1,f4,f5⟩) (fun b ob _ _ hc e _=>k b ob hc e) (fun b ob _ _ hc e _=>⟨ob.slots,k b ob hc e⟩) (fun _ _ _ _ n=>n)
   (fun b ob hc e=>⟨ob,k b ob hc e⟩) (fun _ _ e=>e) (fun _ _ _ e=>e) (fun b ps e=>⟨#[],by rw[e];simp⟩) (fun m hm=>?_) (fun b u eb=>?_) I.bare
  .exact I1
  .obtain⟨ob,es,ep,ho,r⟩:=hm;exact⟨ob,es,ep,k _ ob (fun hb=>(hf _ hb).2.1 rfl) ho,r⟩
  .have nf:∀b u,H b=some u->b∉[e,it]:=fun b u e hb=>by rw[(hf b hb).1]at e;cases e
   refine(I.hok b u eb).stay (fun c v hc q=>k c v ?_ q) (fun _ q=>q) fun _ _ q=>q;rcases hc with z | z
   .rw[z];exact nf b u eb
   .exact nf c _ z
 self:=fun A i s Q E st h=>by
  obtain⟨old,he⟩:=st.1;exact wpAny_pyIter_enum he h
section
variable{X:Cx}{elts:List Expr}{kk:Nat}{tp:Pos}
def Jj(K:PySem.W.Frag)(ta:TA):TI:=fun σ H R=>ta σ H fun vs H1=>∃a xs,vs = [.ref a]/\SqL K H1 a xs/\R (Ite K a) H1
theorem Hf{a:Expr}{ta:TA}{p pos:Pos}(hg:Gl X "enumerate")(hm:X.mg "enumerate" = none)(hv:bootBuiltins "enumerate" = some (.type "enumerate"))(ha:PA X [a] ta)(hs:starEach [a] X.env = [(false,eval a X.env)]:=by rfl):PI X (.Tuple elts kk tp) (.Call (.Name "enumerate" p) [a] [] pos) (Jj X.K ta):=by
 intro pins s σ H R I h;refine Call_ (o9 I hg hm hv (PyProof.Rows.callWith_type1 (thn (ha pos pins s σ H _ I h) fun us s1 ⟨vs,H1,I1,r1,q1⟩=>?_) hs rfl));obtain⟨l,xs,e,hq,q⟩:=q1;subst e;obtain⟨u,rfl,ru⟩:=X9 r1;cases ru;obtain⟨its,rv,pl,hz⟩:=I1.list hq;refine call_enumerate_list pl.isList fun h' he hit hsz k=>wpAny_pyIter_enum he ?_;have I2:Inv X pins σ H1 { s1 with heap:=h' }:=I1.kept (t':=s1.toks) k;refine⟨s1.heap.objs.size+1,[s1.heap.objs.size+1,s1.heap.objs.size],_,_,H1,rfl,I2,Cg l s1.heap.objs.size (s1.heap.objs.size+1) (Nat.succ_ne_self _),⟨⟨_,he⟩,hit⟩,fun b hb=>?_,q⟩;rcases AY.mp hb with z | hb
 .rw[z];exact I1.fpOk (DA _) (I1.hok.fresh (DA _))
 .rw[AB.mp hb];exact I1.fpOk (AL _) (I1.hok.fresh (AL _))
end
end L2
namespace ST
open PySem
section
variable{prog:Program}{w:World}{K:Type}[DecidableEq K]{knd:KeyKind prog w K}{A:Around}{E:Value->Shared->Prop}{s:Shared}
theorem Ce{h:Heap}{a:Addr}{o:Obj}{es:Array (Int×Value)}{ep:Nat}{t:SetTable}(ho:h.get? a=some o)(hd:o.data = .set es ep t)(es':Array (Int×Value))(t':SetTable) :
  (h.update a (Obj.putSet es' t')).get? a=some { o with data:=.set es' (ep+1) t' }:=by
 have:=Heap.get?_update_self (Obj.putSet es' t') ho (by rw[putSet_of es' t' hd];rfl);rw[putSet_of es' t' hd]at this;exact this
end
section
variable{prog:Program}{w:World}{A:Around}{E:Value->Shared->Prop}{s:Shared}
theorem erase_perm{α:Type}:∀{l:List α} {i:Nat} {x:α},l[i]?=some x->(x::l.eraseIdx i).Perm l
 | [],i,x,h=>by simp at h
 | y::l,0,x,h=>by
  have:y=x:=by simpa using h
  subst this;exact .refl _
 | y::l,i+1,x,h=>by
  have h':l[i]?=some x:=by simpa using h
  exact(List.Perm.swap y x _).trans ((erase_perm h').cons y)
structure SAt(w:World)(h:Heap)(a:Addr)(o:Obj)(es:Array (Int×Value))(ep:Nat)(t:SetTable):Prop where
 ho:h.get? a=some o
 ex:o.ExactSet
 hd:o.data = .set es ep t
 ft:t.fits es.size=true
 led:t.led=!(w.params.followText "set-order")
 pln:t.plain=true->es.size=0
 few:es.size<4096
variable{a it:Addr}{o:Obj}{es:Array (Int×Value)}{ep:Nat}{t:SetTable}
end
section
variable{prog:Program}{w:World}{A:Around}{E:Value->Shared->Prop}{s:Shared}{a it T:Addr}{o:Obj}{es:Array (Int×Value)}{ep:Nat}{t:SetTable}
theorem SAt.at{h h':Heap}(S:SAt w h a o es ep t)(e:h'.get? a=some o):SAt w h' a o es ep t:=⟨e,S.ex,S.hd,S.ft,S.led,S.pln,S.few⟩
end
end ST
namespace ST
open PySem L2
theorem Jp(t:SetTable)(n:Nat):(t.orStandIn n).led=t.led:=by
 unfold SetTable.orStandIn;split<;>rfl
theorem Gi(t:SetTable)(es:Array (Int×Value))(h:Int)(x:Value):(layNew t es h x).2.1.led=t.led:=by
 unfold layNew;split
 .rename_i sl wd e;show((t.put sl).1.orStandIn _).led=_;rw[Jp];rfl
 .rfl
theorem Bb{t t':SetTable}{hs:Array Int}{n:Nat}{ord:Array Nat}(h:t.relaid hs n=some (t',ord)):t'.led=t.led/\t'.plain=t.plain:=by
 unfold SetTable.relaid SetTable.laid at h;cases e:SetTable.layClean (SetTable.sizeAbove n-1) hs with
 | none=>rw[e]at h;cases h
 | some ow =>
  rw[e]at h;cases h;exact⟨rfl,rfl⟩
theorem Ch(t:SetTable)(es:Array (Int×Value))(n:Nat)(hp:t.plain=false):(relayAll t es n).2.1.led=t.led/\(relayAll t es n).2.1.plain=false:=by
 unfold relayAll;split
 .rename_i t' ord e;obtain⟨e1,e2⟩:=Bb e;dsimp only;split
  .exact⟨e1,e2.trans hp⟩
  .exact⟨rfl,rfl⟩
 .exact⟨rfl,rfl⟩
def Mo:Value->Str
 | .str x _=>x
 | _=>Str.empty
section
variable{prog:Program}{w:World}{A:Around}{E:Value->Shared->Prop}{s:Shared}{a:Addr}
structure TxtEs(w:World)(es:Array (Int×Value))(ss:List Str):Prop where
 el:∀e∈es.toList,∃x tk,e =(hashStr w x,Value.str x tk)
 pm:(es.toList.map fun e=>Mo e.2).Perm ss
 nd:ss.Nodup
def WS(w:World)(h:Heap)(a:Addr)(ss:List Str):Prop:=∃o es ep t,SAt w h a o es ep t/\TxtEs w es ss
theorem TxtEs.elems{es:Array (Int×Value)}{ss:List Str}(h:TxtEs w es ss):ElemsOf (P7 prog w) es.toList:=fun e he=>by
 obtain⟨x,tk,rfl⟩:=h.el e he;exact⟨⟨.inr x,Z1 x tk,rfl⟩,rfl⟩
theorem TxtEs.mem{es:Array (Int×Value)}{ss:List Str}(h:TxtEs w es ss)(x:Str):x∈ss↔∃e∈es.toList,(P7 prog w).is (.inr x) e.2=true:=by
 rw[<-h.pm.mem_iff];constructor
 .intro hm;obtain⟨e,he,rfl⟩:=A_.mp hm;obtain⟨y,tk,rfl⟩:=h.el e he;exact⟨_,he,Z1 y tk⟩
 .rintro⟨e,he,hk⟩;obtain⟨y,tk,rfl⟩:=h.el e he;have:y=x:=by
   rcases D5 (show Cy (.inr x) (.str y tk)=true from hk)with⟨i,t,e1,e2⟩ | ⟨z,t,e1,e2⟩
   .cases e2
   .cases e1;cases e2;rfl
  subst this;exact A_.mpr ⟨_,he,rfl⟩
theorem TxtEs.len{es:Array (Int×Value)}{ss:List Str}(h:TxtEs w es ss):es.size=ss.length:=by
 have:=h.pm.length_eq;rw[AA,BP]at this;exact this
theorem add_txt{ss:List Str}{x:Str}{tk:Tok}{Q:Bool->Shared->Prop}(S:WS w s.heap a ss)(hl:ss.length+1<4096)
  (h:∀h' b,Heap.SameBut a s.heap h'->WS w h' a (if x∈ss then ss else ss ++ [x])->Q b { s with heap:=h' }) :
  wpAny (model prog w) A (setAddHashed a (.str x tk) (hashStr w x)) Q E s:=by
 obtain⟨o,es,ep,t,S,T⟩:=id S;have hkey:(P7 prog w).is (.inr x) (.str x tk)=true:=Z1 x tk;have hsz:=T.len;unfold setAddHashed setAddHashedIn;refine CH (AH (wpAny_setState_of S.ho S.hd S.ft ?_));dsimp only;rw[byScan_of (knd:=P7 prog w) rfl S.few T.elems,BJ rfl];unfold setAddByScan;refine AH (AH (wpAny_rule ?_));refine AH (wpAny_setScan_of hkey S.ho S.hd S.ft T.elems ?_);cases hr:List.findIdx? (fun e=>(P7 prog w).is (.inr x) e.2) es.toList with
 | some j =>
  dsimp only;obtain⟨hj,hpj,_⟩:=List.findIdx?_eq_some_iff_getElem.mp hr;have hx:x∈ss:=(T.mem (prog:=prog) x).mpr ⟨es.toList[j],List.getElem_mem hj,hpj⟩;refine AS (AS ?_);have:=h s.heap false (Heap.SameBut.refl a s.heap) (by rw[BJ hx];exact⟨o,es,ep,t,S,T⟩);exact this
 | none =>
  dsimp only;have hx:¬x∈ss:=fun hx=>by
   obtain⟨e,he,hp⟩:=(T.mem (prog:=prog) x).mp hx;have:=List.findIdx?_eq_none_iff.mp hr e he;rw[hp]at this;exact Bool.noConfusion this
  have hgw:∀(b:Bool) {s1:Shared} {Q':Unit->Shared->Prop},Q' () s1->wpAny (model prog w) A (match b with | true=>rule "set.scan.the-table-gave-way" | false=>pure ()) Q' E s1 :=
   fun b s1 Q' hq=>by cases b<;>first | exact AS hq | exact wpAny_rule hq
  have hperm:=layNew_perm t es (hashStr w x) (.str x tk);have hfits:=layNew_fits t es (hashStr w x) (.str x tk);have hled:=Gi t es (hashStr w x) (.str x tk);show wpAny _ _ (match layNew t es (hashStr w x) (.str x tk)with | (es,t,wasDummy,gave)=>_) _ _ _;generalize layNew t es (hashStr w x) (.str x tk)=L at hperm hfits hled⊢;obtain⟨es1,t1,wasDummy,gave⟩:=L;dsimp only at hperm hfits hled⊢;rw[Array.toList_push]at hperm;have hT1:∀es2:Array (Int×Value),es2.toList.Perm es1.toList->TxtEs w es2 (ss ++ [x]):=fun es2 hp2=>by
   refine⟨fun e he=>?_,?_,?_⟩
   .rcases BA.mp (hperm.mem_iff.mp (hp2.mem_iff.mp he))with z | z
    .exact T.el e z
    .exact⟨x,tk,AB.mp z⟩
   .refine((hp2.trans hperm).map _).trans ?_;rw[AK];exact T.pm.append (.refl _)
   .rw[CI];refine⟨T.nd,by simp,fun y hy z hz=>?_⟩;rw[AB.mp hz];rintro rfl;exact hx hy
  have hsz1:es1.size=ss.length+1:=by
   have:=(hT1 es1 (.refl _)).len;rw[AO]at this;exact this
  refine AH (hgw _ ?_);have key:∀t2:SetTable,t2.led=t.led->t2.plain=false->t2.fits es1.size=true->wpAny (model prog w) A (do
    storeSet a es1 t2
    if(!wasDummy&&t2.tooFull)=true then do
      (match(relayAll t2 es1 (SetTable.grown es1.size)).2.2 with | true=>rule "set.scan.the-table-gave-way" | false=>pure ())
      storeSet a (relayAll t2 es1 (SetTable.grown es1.size)).1 (relayAll t2 es1 (SetTable.grown es1.size)).2.1
      pure (some true)
     else pure (some true)) (fun r s'=>wpAny (model prog w) A (match r with | some added=>pure added | none=>setAddHashedIn a (.str x tk) (hashStr w x) 99999) Q E s') E s:=by
   intro t2 l2 p2 f2;refine AH (wpAny_storeSet_of S.ho S.hd ?_ (by rw[hsz1,sizeLine_eq];omega));have ho1:=Ce S.ho S.hd es1 t2;have sb1:=Heap.SameBut.update s.heap a (Obj.putSet es1 t2);split
   .have hp:=relayAll_perm t2 es1 (SetTable.grown es1.size);have hf:=relayAll_fits t2 es1 (SetTable.grown es1.size);obtain⟨hl3,hp3⟩:=Ch t2 es1 (SetTable.grown es1.size) p2;have hz2:(relayAll t2 es1 (SetTable.grown es1.size)).1.size=es1.size:=by rw[<-BP,hp.length_eq,BP]
    refine AH (hgw _ ?_);refine AH (wpAny_storeSet_of ho1 rfl ?_ (by rw[hz2,hsz1,sizeLine_eq];omega));refine AS (AS (h _ true (sb1.trans (Heap.SameBut.update _ a _)) ?_));rw[BH hx];exact⟨_,_,_,_,⟨Ce ho1 rfl _ _,S.ex,rfl,hf,hl3.trans (l2.trans S.led),(fun z=>by rw[hp3]at z;cases z),by rw[hz2,hsz1];omega⟩,hT1 _ hp⟩
   .refine AS (AS (h _ true sb1 ?_));rw[BH hx];exact⟨_,es1,_,t2,⟨ho1,S.ex,rfl,f2,l2.trans S.led,(fun z=>by rw[p2]at z;cases z),by rw[hsz1];omega⟩,hT1 _ (.refl _)⟩
  cases hpl:t1.plain with
  | true =>
   rw[BJ rfl,hashByValue_scannable 8 (x:=Value.str x tk) rfl];refine AH (AS ?_);exact key { t1 with plain:=false } hled rfl (SetTable.fits_plain_off hfits)
  | false =>
   rw[BH (by decide)];refine AH (AS ?_);exact key t1 hled hpl hfits
end
end ST
namespace L2
open PySem PySem.Spec PyProof.Rows
def Ig(w:World)(a:Addr)(ss:List Str):HO:=.ext fun h=>ST.WS w h a ss
section
variable{X:Cx}{pins:List (Addr×Obj)}{σ:St}{H:Hp}{s:Shared}{a:Addr}{ss:List Str}
theorem Jk{P:Program}{w:World}{H:Hp}{h:Heap}(z:ST.WS w h a ss):ObjOk P w H h a (Ig w a ss) :=
 ⟨z,let⟨o,_,_,_,S,_⟩:=z;⟨o,S.ho⟩,fun h1 h2 ⟨o,es,ep,t,S,r⟩ k=>⟨o,es,ep,t,S.at (k o S.ho),r⟩⟩
theorem Inv.setw(I:Inv X pins σ H s)(e:H a=some (Ig X.w a ss)):ST.WS X.w s.heap a ss:=by
 obtain⟨z,_⟩:=(show ObjOk X.prog X.w H s.heap a (Ig X.w a ss)from I.hok a _ e);exact z
def Ib(l:List Str)(x:Str):List Str:=if x∈l then l else l ++ [x]
end
section
variable{X:Cx}
theorem Dh:J0 X (.builtin "isinstance") (fun xs H Q=>∃x n t b,xs = [x,.ty n]/\TyOf X.K H x t/\PySem.W.kitOne X.K t (.type n)=some b/\Q (.bl b) H):=by
 intro pins s σ H xs us Q I r h;obtain⟨x,n,t,b,rfl,ht,he,q⟩:=h;obtain⟨u,v,rfl,ru,rv⟩:=r.two;cases rv;exact Cm I ru ht he fun tk=>⟨.bl b,H,I.tok _,rfl,q⟩
end
mutual
def Rp(K:PySem.W.Frag)(H:Hp):PyData->V->Prop
 | .none,v=>v = .non
 | .bool b,v=>v = .bl b
 | .int i,v=>v = .int i
 | .str x,v=>v = .str x
 | .list ds,v=>∃a xs,v = .ref a/\SqL K H a xs/\Rps K H ds xs
 | .tuple ds,v=>∃a xs,v = .ref a/\SqT K H a xs/\Rps K H ds xs
 | .dict _,_=>False
def Rps(K:PySem.W.Frag)(H:Hp):List PyData->List V->Prop
 | [],vs=>vs = []
 | d::ds,vs=>∃v r,vs=v::r/\Rp K H d v/\Rps K H ds r
end
section
variable{X:Cx}{pins:List (Addr×Obj)}{σ:St}{H:Hp}{s:Shared}
mutual
theorem Inv.reads(I:Inv X pins σ H s):∀(d:PyData) (v:V) (u:Value),Rp X.K H d v->RelV v u->∃as,Reads s.heap u d as
 | .none,v,u,h,r=>by
  cases(show v = .non by simpa [Rp] using h);cases r;exact⟨_,.none⟩
 | .bool b,v,u,h,r=>by
  cases(show v = .bl b by simpa [Rp] using h);cases r;exact⟨_,.bool b⟩
 | .int i,v,u,h,r=>by
  cases(show v = .int i by simpa [Rp] using h);obtain⟨t,rfl⟩:=r;exact⟨_,.int i t⟩
 | .str x,v,u,h,r=>by
  cases(show v = .str x by simpa [Rp] using h);obtain⟨t,rfl⟩:=r;exact⟨_,.str x t⟩
 | .list ds,v,u,h,r=>by
  obtain⟨a,xs,e,hq,hs⟩:=(show ∃a xs,v=V.ref a/\SqL X.K H a xs/\Rps X.K H ds xs by simpa [Rp] using h);subst e;cases r;obtain⟨its,rv,⟨o,n,e,hc,hd,hda⟩,_⟩:=I.list hq;obtain⟨as,z⟩:=I.readsAll ds xs its hs rv;exact⟨_,.list e hc hda (by simpa using z)⟩
 | .tuple ds,v,u,h,r=>by
  obtain⟨a,xs,e,hq,hs⟩:=(show ∃a xs,v=V.ref a/\SqT X.K H a xs/\Rps X.K H ds xs by simpa [Rp] using h);subst e;cases r;obtain⟨its,rv,⟨o,e,hc,n,hda⟩,_⟩:=I.tuple hq;obtain⟨as,z⟩:=I.readsAll ds xs its hs rv;exact⟨_,.tuple e hc hda (by simpa using z)⟩
 | .dict _,v,u,h,r=>by simp[Rp]at h
theorem Inv.readsAll(I:Inv X pins σ H s):∀(ds:List PyData) (vs:List V) (us:List Value),Rps X.K H ds vs->Vals vs us->∃as,ReadsAll s.heap us ds as
 | [],vs,us,h,r=>by
  cases(show vs = [] by simpa [Rps] using h);cases r;exact⟨_,.nil⟩
 | d::ds,vs,us,h,r=>by
  obtain⟨v,vr,e,h1,h2⟩:=(show ∃v r,vs=v::r/\Rp X.K H d v/\Rps X.K H ds r by simpa [Rps] using h);subst e;cases r with
  | cons r1 r2 =>
   obtain⟨as,z⟩:=I.reads d v _ h1 r1;obtain⟨bs,z'⟩:=I.readsAll ds vr _ h2 r2;exact⟨_,.cons z z'⟩
end
def Pl(d:PyData):Prop:=d.canLay0=true/\d.depth<=50
def Lw(K:PySem.W.Frag):R2:=fun x y H Q=>∃d e,Rp K H d x/\Rp K H e y/\Pl d/\Pl e/\Q (.bl (!PyData.eqv d e)) H
theorem Ir(hu:X.A.units+64<cLine):OpR X (compareOp .NotEq) (Lw X.K):=by
 intro pins s σ H x y v u Q I rx ry h;obtain⟨d,e,h1,h2,p1,p2,q⟩:=h;obtain⟨as,z1⟩:=I.reads d x v h1 rx;obtain⟨bs,z2⟩:=I.reads e y u h2 ry;exact PySem.SeqAt.compareNe_reads z1 z2 p1.1 p2.1 (by have:=p1.2;have:=p2.2;omega) ⟨.bl (!PyData.eqv d e),H,I,rfl,q⟩
def Ie(K:PySem.W.Frag)(neg:Bool):R2:=fun x y H Q=>∃d ds,Rp K H d x/\(Rp K H (.list ds) y\/Rp K H (.tuple ds) y)/\Pl d/\PyData.canLayAll0 ds=true/\Q (.bl (if neg then !(ds.any fun z=>PyData.eqv z d)else ds.any fun z=>PyData.eqv z d)) H
theorem Jc(hu:X.A.units+64<cLine):OpR X (compareOp .In) (Ie X.K false):=by
 intro pins s σ H x y v u Q I rx ry h;obtain⟨d,ds,h1,h2,p1,p2,q⟩:=h;obtain⟨as,z1⟩:=I.reads d x v h1 rx;have hu':X.A.units+1+min (PyData.depthAll ds) d.depth<cLine:=by have:=p1.2;omega
 rcases h2 with h2 | h2
 .obtain⟨bs,z2⟩:=I.reads (.list ds) y u h2 ry;exact PySem.SeqAt.in_list_reads z2 z1 p2 p1.1 hu' ⟨.bl _,H,I,rfl,q⟩
 .obtain⟨bs,z2⟩:=I.reads (.tuple ds) y u h2 ry;exact PySem.SeqAt.in_tuple_reads z2 z1 p2 p1.1 hu' ⟨.bl _,H,I,rfl,q⟩
theorem Dz(hu:X.A.units+64<cLine):OpR X (compareOp .NotIn) (Ie X.K true):=by
 intro pins s σ H x y v u Q I rx ry h;obtain⟨d,ds,h1,h2,p1,p2,q⟩:=h;obtain⟨as,z1⟩:=I.reads d x v h1 rx;have hu':X.A.units+1+min (PyData.depthAll ds) d.depth<cLine:=by have:=p1.2;omega
 rcases h2 with h2 | h2
 .obtain⟨bs,z2⟩:=I.reads (.list ds) y u h2 ry;exact PySem.SeqAt.notIn_list_reads z2 z1 p2 p1.1 hu' ⟨.bl _,H,I,rfl,q⟩
 .obtain⟨bs,z2⟩:=I.reads (.tuple ds) y u h2 ry;exact PySem.SeqAt.notIn_tuple_reads z2 z1 p2 p1.1 hu' ⟨.bl _,H,I,rfl,q⟩
end
section
variable{X:Cx}
def Al:V->List V->Hp->VK->Prop:=fun x vs H Q=>∃z y ps,x = .str z/\vs = [.str y]/\(decide (z.length<y.length)||decide (Builtin.Str.strKind z<Builtin.Str.strKind y))=false/\(y.length == 0)=false /\
 (Builtin.Str.occurrences z y 0 z.length (z.length+1)).isEmpty=false/\z.length<=4000/\Builtin.Str.partsBetween z (Builtin.Str.occurrences z y 0 z.length (z.length+1)) y.length=ps/\ps.length<=4000/\∀l,H l=none->Q (.ref l) (upd H l (.lst (ps.map V.str)))
theorem j3:∀(ps:List Str) (tk:Nat),Vals (ps.map V.str) (strsFrom tk ps)
 | [],_=>.nil
 | _::r,tk=>.cons ⟨tk,rfl⟩ (j3 r (tk+1))
theorem i4:MtM X "str.split" Al:=by
 intro pins s σ H x vs v us Q I rx rv h;obtain⟨z,y,ps,rfl,rfl,h1,h2,h3,h4,rfl,h6,q⟩:=h;obtain⟨t,rfl⟩:=rx;obtain⟨u,rfl,⟨tk,rfl⟩⟩:=rv.one;have hz:z.length<=sizeLine:=by rw[sizeLine_eq];omega
 have hp:(Builtin.Str.partsBetween z (Builtin.Str.occurrences z y 0 z.length (z.length+1)) y.length).length<=sizeLine:=by rw[sizeLine_eq];omega
 refine call_meets F.slot_str_split (typeIs_str _ _ _) F.entry_str_split (F.args_str_split_2 _ _) (PySem.meets_str_split_sep z y t tk h1 h2 h3 hz hp) ?_;exact⟨.ref s.heap.objs.size,_,I.lnew (j3 _ _) (by rw[AA];exact hp),rfl,q _ I.fresh⟩
end
end L2
namespace L2
open PySem PySem.Spec PyProof.Rows
structure Fn(K:PySem.W.Frag)(mg:Str->Option Value)(x:Str)(st:Stmt)(ps:List Str) where
 f:Addr
 fd:FuncData
 F:Fun K x x st f fd
 b:Binds K fd ps []
 m:mg x=some (.ref f)
section
variable{X:Cx}
theorem C1{x:Str}{st:Stmt}{ps:List Str}{k:Nat}{sp:Sp}{e:Expr}{es:List Expr}{t:TA}{p pos:Pos}(D:Fn X.K X.mg x st ps)(G:FnOk X.prog X.w X.K X.mg X.base CX0 k D.f D.fd ps sp)(hr:Room k X.A)(ha:PA X (e::es) t)
  (hg:Gl X x:=by rfl) (hdb:(x ==("__debug__":Str))=false:=by decide) (hs:starEach (e::es) X.env =(false,eval e X.env)::starEach es X.env:=by rfl) (hpl:(backTo pos (starEach es X.env)).any (·.1)=false:=by rfl) :
  PE X (.Call (.Name x p) (e::es) [] pos) (Is sp [] E0 t):=Hd G hr hg D.m D.F.kp D.b .nil Ep ha hdb hs hpl
theorem Kc{x:Str}{i:Int}{pos:Pos}(h:∃t,X.mg x=some (.int i t))(hg:Gl X x:=by rfl)(hd:(x ==("__debug__":Str))=false:=by decide):PE X (.Name x pos) (tC (.int i)):=by
 obtain⟨t,e⟩:=h;exact z0 hg e ⟨t,rfl⟩ hd
theorem Km{x y:Str}{pos:Pos}(h:∃t,X.mg x=some (.str y t))(hg:Gl X x:=by rfl)(hd:(x ==("__debug__":Str))=false:=by decide):PE X (.Name x pos) (tC (.str y)):=by
 obtain⟨t,e⟩:=h;exact z0 hg e ⟨t,rfl⟩ hd
theorem w5{x:Str}{n:String}{pos:Pos}(hm:X.mg x=none)(hv:bootBuiltins x=some (.type n))(hg:Gl X x:=by rfl)(hn:x≠ "__name__":=by decide)(hd:(x ==("__debug__":Str))=false:=by decide):PE X (.Name x pos) (tC (.ty n)) :=
 Gv hg hm hv rfl hn hd
theorem F9{x:Str}{id:String}{r:List V->Hp->VK->Prop}{e:Expr}{es:List Expr}{t:TA}{p pos:Pos}(hc:J0 X (.builtin id) r)(hm:X.mg x=none)(hv:bootBuiltins x=some (.builtin id))(ha:PA X (e::es) t)(hg:Gl X x:=by rfl)(hn:x≠ "__name__":=by decide)(hdb:(x ==("__debug__":Str))=false:=by decide)
  (hs:starEach (e::es) X.env =(false,eval e X.env)::starEach es X.env:=by rfl) (hpl:(backTo pos (starEach es X.env)).any (·.1)=false:=by rfl):PE X (.Call (.Name x p) (e::es) [] pos) (tCB r t):=Fh hc hg hm hv ha hn hdb hs hpl
theorem R7{x:Str}{T:String}{r:List V->Hp->VK->Prop}{e:Expr}{es:List Expr}{t:TA}{p pos:Pos}(hc:J0 X (.type T) r)(hm:X.mg x=none)(hv:bootBuiltins x=some (.type T))(ha:PA X (e::es) t)(hg:Gl X x:=by rfl)(hn:x≠ "__name__":=by decide)(hdb:(x ==("__debug__":Str))=false:=by decide)
  (hs:starEach (e::es) X.env =(false,eval e X.env)::starEach es X.env:=by rfl) (hpl:(backTo pos (starEach es X.env)).any (·.1)=false:=by rfl):PE X (.Call (.Name x p) (e::es) [] pos) (tCB r t):=Di hc hg hm hv ha hn hdb hs hpl
theorem K1{scope:Scope}{cl:List (Str×Addr)}{N':List Str}{cap:List (Option Nat)}(caps:Caps X scope cl N' cap)(cin:ClIn X cl)(clos:closureFor scope X.env=pure cl:=by rfl)(kind:scope.kind = .function:=by rfl)(nocell:∀y∈scope.names,y.2≠ .cell:=by decide +kernel)
  (loc:∀y∈scope.names,y.2 = .local->scope.names.lookup y.1=some .local:=by decide +kernel) (has:((relabel scope X.env).names.all fun y=>!(y.2 == .cell||y.2 == .free)||(cl.lookup y.1).isSome)=true:=by rfl):CScope X scope cl N' cap:=⟨kind,nocell,loc,clos,cin,has,caps⟩
theorem pgC{scope:Scope}{cl:List (Str×Addr)}{N':List Str}{pins:List (Addr×Obj)}{ex:List Addr}{s3:Shared}{H3:Hp}{x:Str}{pos:Pos}(i:Nat)(hN:N'.Nodup:=by decide +kernel)(hi:N'[i]?=some x:=by rfl)(hx:Loc (cxC X scope cl N' pins ex s3 H3).env.scope x:=by exact Or.inl rfl)
  (hf:(cxC X scope cl N' pins ex s3 H3).env.scope.names.lookup x=some .local:=by rfl):PG (cxC X scope cl N' pins ex s3 H3) (.Name x pos) (i9 i):=J5 (X:=cxC X scope cl N' pins ex s3 H3) hN hi hx (.inr hf)
end
theorem J3:bootBuiltins "len" = some (.builtin "len"):=by decide +kernel
theorem o3:bootBuiltins "enumerate" = some (.type "enumerate"):=by decide +kernel
theorem Kd:bootBuiltins "min" = some (.builtin "min"):=by decide +kernel
theorem Gc:bootBuiltins "max" = some (.builtin "max"):=by decide +kernel
theorem Fr:bootBuiltins "abs" = some (.builtin "abs"):=by decide +kernel
theorem Fy:bootBuiltins "int" = some (.type "int"):=by decide +kernel
theorem Cc:bootBuiltins "str" = some (.type "str"):=by decide +kernel
theorem Hi:bootBuiltins "bool" = some (.type "bool"):=by decide +kernel
theorem G0:bootBuiltins "list" = some (.type "list"):=by decide +kernel
theorem Ak:bootBuiltins "tuple" = some (.type "tuple"):=by decide +kernel
theorem Kh:bootBuiltins "set" = some (.type "set"):=by decide +kernel
theorem E1:bootBuiltins "isinstance" = some (.builtin "isinstance"):=by decide +kernel
theorem Fw:bootBuiltins "all" = some (.builtin "all"):=by decide +kernel
def KeepAt(a:Addr)(H0 H:Hp):Prop:=∀o,H0 a=some o->H a=some o
def Sm(D:List Addr)(H H':Hp):Prop:=∀b o,H b=some o->b∉D->H' b=some o
theorem Same.at{H0 H:Hp}(h:Same H0 H)(a:Addr):KeepAt a H0 H:=fun o e=>h a o e
theorem Same.new{H:Hp}{p:Addr}{o:HO}(h:H p=none):Same H (upd H p o):=fun b u e=>by rw[B3 (B0 e h)];exact e
theorem Same.upd{H0 H:Hp}{p:Addr}{o:HO}(s:Same H0 H)(h:H0 p=none):Same H0 (upd H p o):=fun b u e=>by rw[B3 (B0 e h)];exact s b u e
theorem Same.sm{D:List Addr}{H H':Hp}(h:Same H H'):Sm D H H':=fun b o e _=>h b o e
theorem Sm.refl(D:List Addr)(H:Hp):Sm D H H:=fun _ _ e _=>e
theorem Sm.trans{D:List Addr}{H H1 H2:Hp}(a:Sm D H H1)(b:Sm D H1 H2):Sm D H H2:=fun c o h n=>b c o (a c o h n) n
theorem Sm.new{D:List Addr}{H H1:Hp}{p:Addr}{o:HO}(a:Sm D H H1)(h:H1 p=none):Sm D H (L2.upd H1 p o):=fun b u e n=>by
 have:=a b u e n;rw[B3 (B0 this h)];exact this
theorem Sm.upd{D:List Addr}{H H1:Hp}{p:Addr}{o:HO}(a:Sm D H H1)(h:p∈D):Sm D H (L2.upd H1 p o):=fun b u e n=>by
 rw[B3 (show b≠p from fun z=>n (by rw[z];exact h))];exact a b u e n
theorem Sm.updN{D:List Addr}{H H1:Hp}{p:Addr}{o:HO}(a:Sm D H H1)(h:H p=none):Sm D H (L2.upd H1 p o):=fun b u e n=>by rw[B3 (B0 e h)];exact a b u e n
theorem KeepAt.seqL{K:PySem.W.Frag}{H H':Hp}{a:Addr}{xs:List V}(e:KeepAt a H H')(h:SqL K H a xs):SqL K H' a xs:=by
 rcases h with(h | ⟨o,h⟩) | h
 .exact .inl (.inl (e _ h))
 .exact .inl (.inr ⟨o,e _ h⟩)
 .exact .inr h
def Sqs(K:PySem.W.Frag)(H:Hp)(a:Addr)(xs:List V):Prop:=SqL K H a xs\/SqT K H a xs
structure AsSeq(J:It)(xs:List V)(a:Addr)(H0:Hp):Prop where
 go:∀H i,KeepAt a H0 H->i<xs.length->J.go i H
 stop:∀H,KeepAt a H0 H->J.stop xs.length H
 yld:∀H i x H',KeepAt a H0 H->i<xs.length->J.yld i H x H'->H'=H/\xs[i]?=some x
theorem asL{K:PySem.W.Frag}{H0:Hp}{a:Addr}{xs:List V}(h:SqL K H0 a xs):AsSeq (Itl K a) xs a H0 :=
 ⟨fun H i k hi=>⟨xs,xs[i],k.seqL h,AQ hi⟩,fun H k=>⟨xs,k.seqL h,AL _⟩,fun H i x H' k hi ⟨e,y⟩=>⟨e,y xs (k.seqL h)⟩⟩
theorem Iw{J:It}{n:Nat}{g:TG}{tb:TS}{D:Ends}{σ:St}{H:Hp}(Pv:Nat->St->Hp->Prop)(h0:Pv 0 σ H)(hgo:∀i σ H,i<n->Pv i σ H->J.go i H)(hst:∀σ H,Pv n σ H->J.stop n H)
  (hs:∀i σ H x H',i<n->Pv i σ H->J.yld i H x H'->g x σ H' fun σ2 H2=>tb { D with nx:=Pv (i+1),ct:=Pv (i+1),bk:=D.nx } σ2 H2) (hd:∀σ H,Pv n σ H->D.nx σ H) :
  ∃W:Nat->Nat->St->Hp->Prop,(∃m,W 0 m σ H)/\∀i m σ H,W i m σ H ->
   (J.stop i H/\D.nx σ H)\/(J.go i H/\∃N:St->Hp->Prop,(∀σ' H',N σ' H'->∃m',m' < m/\W (i+1) m' σ' H')/\∀x H',J.yld i H x H'->g x σ H' fun σ2 H2=>tb { D with nx:=N,ct:=N,bk:=D.nx } σ2 H2):=by
 refine⟨fun i m σ H=>m=n-i/\i<=n/\Pv i σ H,⟨n,by simp,BI _,h0⟩,?_⟩;rintro i m σ H ⟨rfl,hi,p⟩;by_cases hlt:i<n
 .exact .inr ⟨hgo i σ H hlt p,Pv (i+1),fun σ' H' p'=>⟨n-(i+1),by omega,rfl,hlt,p'⟩,fun x H' y=>hs i σ H x H' hlt p y⟩
 .have e:i=n:=by omega
  subst e;exact .inl ⟨hst σ H p,hd σ H p⟩
theorem Jw{J:It}{xs:List V}{a:Addr}{H0:Hp}(as:AsSeq J xs a H0){g:TG}{tb:TS}{D:Ends}{σ:St}{H:Hp}(Pv:Nat->St->Hp->Prop)(h0:Pv 0 σ H)(hk:∀i σ H,i<=xs.length->Pv i σ H->KeepAt a H0 H)
  (hs:∀i σ H x,xs[i]?=some x->Pv i σ H->g x σ H fun σ2 H2=>tb { D with nx:=Pv (i+1),ct:=Pv (i+1),bk:=D.nx } σ2 H2) (hd:∀σ H,Pv xs.length σ H->D.nx σ H) :
  ∃W:Nat->Nat->St->Hp->Prop,(∃m,W 0 m σ H)/\∀i m σ H,W i m σ H ->
   (J.stop i H/\D.nx σ H)\/(J.go i H/\∃N:St->Hp->Prop,(∀σ' H',N σ' H'->∃m',m' < m/\W (i+1) m' σ' H')/\∀x H',J.yld i H x H'->g x σ H' fun σ2 H2=>tb { D with nx:=N,ct:=N,bk:=D.nx } σ2 H2) :=
 Iw (n:=xs.length) Pv h0 (fun i σ H hi p=>as.go H i (hk i σ H (BX hi) p) hi) (fun σ H p=>as.stop H (hk _ σ H (AL _) p)) (fun i σ H x H' hi p y=>by
  obtain⟨rfl,e⟩:=as.yld H i x H' (hk i σ H (BX hi) p) hi y;exact hs i σ _ x e p) hd
theorem p6{J:It}{n:Nat}{g:TG}{tc:TT}{em:TEm}{σ:St}{H:Hp}{Q:St->Hp->Prop}(Pv:Nat->St->Hp->Prop)(h0:Pv 0 σ H)(hgo:∀i σ H,i<n->Pv i σ H->J.go i H)(hst:∀σ H,Pv n σ H->J.stop n H)
  (hs:∀i σ H x H' (N:St->Hp->Prop),i<n->Pv i σ H->J.yld i H x H'->(∀σ' H',Pv (i+1) σ' H'->N σ' H')->g x σ H' fun σ2 H2=>tc σ2 H2 fun b H3=>if b=true then em σ2 H3 N else N σ2 H3)
  (hd:∀σ H,Pv n σ H->Q σ H):Hu g tc em J σ H Q:=by
 refine⟨fun i m σ H=>m=n-i/\i<=n/\Pv i σ H,⟨n,by simp,BI _,h0⟩,?_⟩;rintro i m σ H ⟨rfl,hi,p⟩;by_cases hlt:i<n
 .exact .inr ⟨hgo i σ H hlt p,fun x H' y=>hs i σ H x H' _ hlt p y fun σ3 H4 p'=>⟨n-(i+1),by omega,rfl,hlt,p'⟩⟩
 .have e:i=n:=by omega
  subst e;exact .inl ⟨hst σ H p,hd σ H p⟩
theorem Y4{J:It}{xs:List V}{a:Addr}{H0:Hp}(as:AsSeq J xs a H0){g:TG}{tc:TT}{em:TEm}{σ:St}{H:Hp}{Q:St->Hp->Prop}(Pv:Nat->St->Hp->Prop)(h0:Pv 0 σ H)(hk:∀i σ H,i<=xs.length->Pv i σ H->KeepAt a H0 H)
  (hs:∀i σ H x (N:St->Hp->Prop),xs[i]?=some x->Pv i σ H->(∀σ' H',Pv (i+1) σ' H'->N σ' H')->g x σ H fun σ2 H2=>tc σ2 H2 fun b H3=>if b=true then em σ2 H3 N else N σ2 H3)
  (hd:∀σ H,Pv xs.length σ H->Q σ H):Hu g tc em J σ H Q :=
 p6 (n:=xs.length) Pv h0 (fun i σ H hi p=>as.go H i (hk i σ H (BX hi) p) hi) (fun σ H p=>as.stop H (hk _ σ H (AL _) p)) (fun i σ H x H' N hi p y hN=>by
  obtain⟨rfl,e⟩:=as.yld H i x H' (hk i σ H (BX hi) p) hi y;exact hs i σ _ x N e p hN) hd
theorem o5{em:TEm}{N:St->Hp->Prop}{σ:St}{H:Hp}{i:Nat}{x:V}(h:em (σ.set i (some x)) H N):i9 i x σ H fun σ2 H2=>Q3 σ2 H2 fun b H3=>if b=true then em σ2 H3 N else N σ2 H3:=by
 show if true=true then em (σ.set i (some x)) H N else N (σ.set i (some x)) H
 rw[BJ rfl];exact h
section
variable{X:Cx}(K:PySem.W.Frag)(P:Program)(w:World){tg:Expr}
theorem piL{l:Expr}{tl:TE}(hl:PE X l tl)(hK:X.K=K:=by rfl):PI X tg l (Iz K tl):=by subst hK;exact Ha hl
theorem piE{elts:List Expr}{kk:Nat}{tp:Pos}{a:Expr}{ta:TA}{p pos:Pos}(hm:X.mg "enumerate" = none)(ha:PA X [a] ta)(hg:Gl X "enumerate":=by rfl)(hs:starEach [a] X.env = [(false,eval a X.env)]:=by rfl)(hK:X.K=K:=by rfl) :
  PI X (.Tuple elts kk tp) (.Call (.Name "enumerate" p) [a] [] pos) (Jj K ta):=by subst hK;exact Hf hg hm o3 ha hs
theorem Gu{a:Expr}{ta:TA}{p pos:Pos}(hm:X.mg "range" = none)(ha:PA X [a] ta)(hg:Gl X "range":=by rfl)(hs:starEach [a] X.env = [(false,eval a X.env)]:=by rfl):PI X tg (.Call (.Name "range" p) [a] [] pos) (Jh ta):=Ca hg hm ha hs
theorem pgT{es:List Expr}{k:Nat}{t:TGs}{n:Nat}{pos:Pos}(h:PGs X es t)(hc:X.calm=true:=by rfl)(hn:(assignEach es X.env).length=n:=by rfl)(hst:(assignEach es X.env).findIdx? (·.1)=none:=by rfl)(hK:X.K=K:=by rfl):PG X (.Tuple es k pos) (Ls K n t):=by subst hK;exact Ja hc h hn hst
theorem peF{e:Expr}{ta:TE}{f:Str}{pos:Pos}(he:PE X e ta)(hb:attributeBase e f X.env (eval e X.env)=eval e X.env:=by rfl)(hK:X.K=K:=by rfl):PE X (.Attribute e f pos) (Lx K ta f):=by subst hK;exact Jy he hb
theorem psF{o value:Expr}{ta tv:TE}{f:Str}{pos pos':Pos}(ha:PE X o ta)(hv:PE X value tv)(hs:swapsWith value (some (.Attribute o f pos')) pos.line X.env=pure false:=by rfl)(hK:X.K=K:=by rfl):PS X (.Assign [.Attribute o f pos'] value pos) (Kr K ta tv f):=by subst hK;exact Jz ha hv hs
theorem K2(hK:X.K=K:=by rfl):J0 X (.builtin "len") (fun xs H Q=>∃p ys,xs = [.ref p]/\(SqL K H p ys\/SqT K H p ys)/\Q (.int ys.length) H):=by subst hK;exact o7
theorem I9(hK:X.K=K:=by rfl):J0 X (.type "list") (fun xs H Q=>∃p ys,xs = [.ref p]/\(SqL K H p ys\/SqT K H p ys)/\∀l,H l=none->Q (.ref l) (upd H l (.lst ys))):=by subst hK;exact t0
theorem Ft(hc:X.calm=true:=by rfl)(hK:X.K=K:=by rfl):J0 X (.builtin "all") (fun xs H Q=>∃(p:Addr) (bs:List Bool),xs = [.ref p]/\SqL K H p (bs.map V.bl)/\Q (.bl (bs.all id)) H):=by subst hK;exact Fa hc
theorem Y9(hK:X.K=K:=by rfl):J0 X (.builtin "isinstance") (fun xs H Q=>∃x n t b,xs = [x,.ty n]/\TyOf K H x t/\PySem.W.kitOne K t (.type n)=some b/\Q (.bl b) H):=by subst hK;exact Dh
theorem Ll(hu:X.A.units+64<cLine)(hK:X.K=K:=by rfl):OpR X (compareOp .In) (Ie K false):=by subst hK;exact Jc hu
theorem Eh(hu:X.A.units+64<cLine)(hK:X.K=K:=by rfl):OpR X (compareOp .NotIn) (Ie K true):=by subst hK;exact Dz hu
theorem Lk(hu:X.A.units+64<cLine)(hK:X.K=K:=by rfl):OpR X (compareOp .NotEq) (Lw K):=by subst hK;exact Ir hu
theorem y4(hK:X.K=K:=by rfl):OpR X (compareOp .In) (rIn K false):=by subst hK;exact Eb
theorem An(hK:X.K=K:=by rfl):OpR X (compareOp .NotIn) (rIn K true):=by subst hK;exact r6
theorem ixL(hK:X.K=K:=by rfl):IxR X (Ly K):=by subst hK;exact Hy
theorem ixT(hK:X.K=K:=by rfl):IxR X (Ln K):=by subst hK;exact Jf
theorem slL(hK:X.K=K:=by rfl):SlR X (Lq K):=by subst hK;exact Hj
theorem j0{T id:String}{name:Str}{o e:Expr}{es:List Expr}{to:TE}{t:TA}{apos cpos:Pos}{r:V->List V->Hp->VK->Prop}(pa:PlainAttrs T)(slot:Slot T name id)(hty:typeOf (.builtin id)=pure (.type "method_descriptor"))(hm:MtM X id r)(ho:PE X o to)(ha:PA X (e::es) t)
  (hbase:attributeBase o name X.env (eval o X.env)=eval o X.env:=by rfl)
  (hfew:((backTo cpos (starEach (e::es) X.env)).all (fun x=>!x.1) &&(backToKw cpos (keywordEach [] X.env)).all (fun x=>x.1.isSome)
   && decide ((e::es).length +([]:List Keyword).length +(if([]:List Keyword).isEmpty then 0 else 1)<30))=true:=by rfl)
  (hline:(apos.endLine == cpos.line)=true:=by rfl) (hs:starEach (e::es) X.env =(false,eval e X.env)::starEach es X.env:=by rfl) (hplain:(backTo cpos (starEach es X.env)).any (·.1)=false:=by rfl) (hK:X.K=K:=by rfl) :
  PE X (.Call (.Attribute o name apos) (e::es) [] cpos) (tBM K T r to t):=by subst hK;exact Ko pa slot hty hm ho ha hbase hfew hline hs hplain
theorem Io{T id:String}{name:Str}{o:Expr}{to:TE}{apos cpos:Pos}{r:V->List V->Hp->VK->Prop}(pa:PlainAttrs T)(slot:Slot T name id)(hty:typeOf (.builtin id)=pure (.type "method_descriptor"))(hm:MtM X id r)(ho:PE X o to)
  (hbase:attributeBase o name X.env (eval o X.env)=eval o X.env:=by rfl) (hline:(apos.endLine == cpos.line)=true:=by rfl) (hK:X.K=K:=by rfl):PE X (.Call (.Attribute o name apos) [] [] cpos) (Lr K T r to):=by subst hK;exact Jr pa slot hty hm ho hbase hline
end
section
variable{X:Cx}
theorem Bu{pins:List (Addr×Obj)}{σ:St}{H:Hp}{s:Shared}{A:Around}{E:Value->Shared->Prop}{Q:Value->Shared->Prop}{b:Bool}{x:V}{u t:Value}{tp:Addr}{its:List Value}(I:Inv X pins σ H s)(rx:RelV x u)(ty:TyOf X.K H x t)(htp:IsTup s.heap tp its.toArray)(e:PySem.W.kitAny X.K t its=some b)(hv:(∃y,x = .str y)\/(∃a xs,x = .ref a/\(H a=some (.lst xs)\/H a=some (.tup xs))))(h:∀tk,Q (.bool b) { s with toks:=tk }) :
  wpAny (model X.prog X.w) A (call (.builtin "isinstance") [u,.ref tp]) Q E s:=by
 obtain⟨⟨oc,od,odt,osl⟩,ho,hc,n,hd⟩:=htp;cases hc;cases hd;rcases hv with⟨y,rfl⟩ | ⟨a,xs,rfl,ea | ea⟩
 .cases ty;obtain⟨t,q⟩:=(show ∃t,u=Value.str y t from rx);cases q;exact PySem.W.kia_tup PySem.W.kitx_str I.kIn True.intro ho e (fun z=>nomatch z) h
 .cases(show u=Value.ref a from rx);have hty:t = .type "list":=by cases ty with
   | lst=>rfl
   | frz=>rfl
   | tup ea'=>rw[ea]at ea';cases ea'
   | dK ea'=>rw[ea]at ea';cases ea'
   | dT ea'=>rw[ea]at ea';cases ea'
   | ins ea'=>rw[ea]at ea';cases ea'
  subst hty;obtain⟨_,_,n,_,h1⟩:=(show ObjOk X.prog X.w H s.heap a (.lst xs)from I.hok a _ ea);exact PySem.W.kia_tup PySem.W.kitx_list I.kIn ⟨_,h1,rfl⟩ ho e (fun z=>nomatch z) h
 .cases(show u=Value.ref a from rx);have hty:t = .type "tuple":=by cases ty with
   | tup=>rfl
   | frz ea'=>rw[ea]at ea';cases ea'
   | lst ea'=>rw[ea]at ea';cases ea'
   | dK ea'=>rw[ea]at ea';cases ea'
   | dT ea'=>rw[ea]at ea';cases ea'
   | ins ea'=>rw[ea]at ea';cases ea'
  subst hty;obtain⟨_,_,_,p⟩:=(show ObjOk X.prog X.w H s.heap a (.tup xs)from I.hok a _ ea);obtain⟨o,h1,h2,_⟩:=p;exact PySem.W.kia_tup PySem.W.kitx_tuple I.kIn ⟨o,h1,h2⟩ ho e (fun z=>nomatch z) h
def Gk(K:PySem.W.Frag):List V->Hp->VK->Prop:=fun xs H Q=>∃(x:V) (p:Addr) (ns:List String) (t:Value) (b:Bool),xs = [x,.ref p]/\H p=some (.tup (ns.map V.ty))/\TyOf K H x t/\((∃y,x = .str y)\/(∃a xs,x = .ref a/\(H a=some (.lst xs)\/H a=some (.tup xs))))/\PySem.W.kitAny K t (ns.map Value.type)=some b/\Q (.bl b) H
theorem x3:∀{ns:List String} {us:List Value},Vals (ns.map V.ty) us->us=ns.map Value.type
 | [],_,.nil=>rfl
 | _::_,_,.cons r t=>by rw[BL,x3 t];cases r;rfl
theorem Be:J0 X (.builtin "isinstance") (Gk X.K):=by
 intro pins s σ H xs us Q I r h;obtain⟨x,p,ns,t,b,rfl,hp,ht,hv,he,q⟩:=h;obtain⟨u,v,rfl,ru,rv⟩:=r.two;cases rv;obtain⟨its,rv,pl,hz⟩:=I.tuple (SqT.of hp);rw[x3 rv]at pl;exact Bu I ru ht pl he hv fun tk=>⟨.bl b,H,I.tok _,rfl,q⟩
variable(K:PySem.W.Frag)
theorem Ek(hK:X.K=K:=by rfl):J0 X (.builtin "isinstance") (Gk K):=by subst hK;exact Be
end
section
variable{X:Cx}{tg iter elt:Expr}{ifs:List Expr}{scope:Scope}{cl:List (Str×Addr)}{N':List Str}{cap:List (Option Nat)}{wi:TI}{pos:Pos}
theorem Dc{e:Expr}{gs:List Comprehension}{newAcc:Sem Value}{p2:Pos}{use:Option (Value->Sem Unit)}{Qv:Value->Shared->Prop}(hcl:clausesOf e =⟨tg,iter,ifs,0⟩::gs)(o:Addr->HO)(hs:∀x,foldedSetIterable iter X.env x=pure x)(S:CScope X scope cl N' cap)(hc:X.calm=true)(hi:PI X tg iter wi)
  {lp:Addr->It->St->Hp->(St->Hp->Prop)->Prop}
  (hnew:∀(pins:List (Addr×Obj)) (s:Shared) (σ:St) (H:Hp) (Q:Value->Shared->Prop) (E:Value->Shared->Prop),Inv X pins σ H s->(∀s',Inv X pins σ (upd H s.heap.objs.size (o s.heap.objs.size)) s'->(∀b ob,s.heap.get? b=some ob->s'.heap.get? b=some ob)->Q (.ref s.heap.objs.size) s')->wpAny (model X.prog X.w) X.A newAcc Q E s)
  (hlp:∀(pins:List (Addr×Obj)) (ex:List Addr) (s3:Shared) (H3:Hp) (D it:Addr) (fp:List Addr) (tn:Nat->Heap->Prop) (J:It) (σ:St) (s:Shared) (H:Hp) (Q:St->Hp->Prop) (R:Result->Shared->Prop),
   Turn X.prog X.w X.K tg J fp it tn->Inv (cxC X scope cl N' pins ex s3 H3) [] σ H s->tn 0 s.heap->(∀b∈fp,o6 (cxC X scope cl N' pins ex s3 H3) [] H b)->lp D J σ H Q ->
   (∀s' σ' H',Inv (cxC X scope cl N' pins ex s3 H3) [] σ' H' s'->Q σ' H'->R (.ok .next) s') ->
   codeAny (model X.prog X.w) X.A (.compLoop e 0 (.ref it) (.ref D) (compEnvC scope cl s3.heap.objs.size X.env)) R s)
  (hun:∀it D env,X.A.under (.compStart e 0 (.ref it) (.ref D) env)=X.A) (hden:∀it D env,(model X.prog X.w).den (.compStart e 0 (.ref it) (.ref D) env) =(compStart e 0 (.ref it) (.ref D) env).onRaise (fun x=>do noteFrame x env;standAt theWindowsPlace))
  {pins:List (Addr×Obj)} {s:Shared} {σ:St} {H:Hp} {Q:V->Hp->Prop} (I:Inv X pins σ H s) (h:Eu wi o cap lp σ H Q)
  (hend:∀(D:Addr) (fp:List Addr) (H2:Hp) (s3 s':Shared) (σ':St) (H':Hp),Inv X pins σ H2 s3->(∀b∈fp,o6 X pins H2 b)->Inv (cxC X scope cl N' pins fp s3 H2) [] σ' H' s'->Q (.ref D) H'->compPost (model X.prog X.w) X.A X.xe use Qv (.ref D) s3.heap.objs.size (.ok .next) s') :
  wpAny (model X.prog X.w) X.A (comprehension e scope X.env p2 newAcc false (eval iter X.env) use) Qv X.xe s:=by
 refine wpAny_comprehension_free hcl hs S.clos S.kind S.loc (thn (hi pins s σ H _ I h) fun v s1 h1=>thn h1 fun itv s2 h2=>?_);obtain⟨it,fp,tn,J,H2,eit,I2,T,st2,f2,R2⟩:=h2;subst eit;refine hnew pins s2 σ H2 _ _ I2 fun s3 I3 k3=>?_;have hD:H2 s2.heap.objs.size=none:=I2.hok.fresh (AL _);have fok:∀b∈fp,o6 X pins (upd H2 s2.heap.objs.size (o s2.heap.objs.size)) b/\∃ob,s3.heap.get? b=some ob:=fun b hb=>by
  obtain⟨ob,e,_⟩:=T.obj _ _ st2 b hb;obtain⟨f0,fr⟩:=f2 b hb;exact⟨⟨by rw[B3 (AZ (AE e))];exact f0,fr⟩,ob,k3 b ob e⟩
 refine wpAny_newFunctionEnv S.nocell (by intro y hy;simp at hy) (fun h1 hns hsb=>?_) S.kind;have hk:∀b ob,s3.heap.get? b=some ob->h1.get? b=some ob:=fun b ob e=>(hsb.2 b (AZ (AE e))).trans (AC _ e);have I4:Inv (cxC X scope cl N' pins fp s3 (upd H2 s2.heap.objs.size (o s2.heap.objs.size))) [] (Fv cap σ) (upd H2 s2.heap.objs.size (o s2.heap.objs.size)) { s3 with heap:=h1,toks:=s3.toks +([]:List (Str×Value)).length } :=
  I3.block S hc fok hns hk
 have st4:tn 0 h1:=T.keep 0 _ _ st2 fun b hb ob e=>hk b ob (k3 b ob e);refine c8 (X:=cxC X scope cl N' pins fp s3 (upd H2 s2.heap.objs.size (o s2.heap.objs.size))) (gs:=⟨tg,iter,ifs,0⟩::gs) (e:=e) (d:=0) (tg:=tg) (iter:=iter) (ifs:=ifs) (hun _ _ _) (hden _ _ _) hcl rfl T st4 ?_;refine hlp pins fp s3 _ s2.heap.objs.size it fp tn J (Fv cap σ) _ _ _ _ T I4 st4 (fun b hb=>?_) (R2 _ hD) fun s' σ' H' I' q'=>?_
 .obtain⟨⟨f0,f1,f2',f3,f4,f5⟩,ob,eo⟩:=fok b hb;refine⟨f0,AZ (AE eo),fun hf=>?_,.inl hb,fun x c e=>f4 x c (S.cin.get e),fun p hp=>f5 p (by simpa [cxC] using hp)⟩;rcases AY.mp (I3.stkSub b hf)with z | z
  .exact f1 z
  .exact f2' z
 .exact hend _ fp _ s3 s' σ' H' I3 (fun b hb=>(fok b hb).1) I' q'
theorem Q6{i:Nat}{x:Str}{pos' cpos:Pos}{g:TG}{tc:TT}{te:TE}(hN:X.N.Nodup)(hi:X.N[i]?=some x)(hx:Loc X.env.scope x)(S:CScope X scope cl N' cap)(hc:X.calm=true)(hI:PI X tg iter wi)
  (hb:∀(pins:List (Addr×Obj)) (ex:List Addr) (s3:Shared) (H3:Hp),PG (cxC X scope cl N' pins ex s3 H3) tg g/\PTs (cxC X scope cl N' pins ex s3 H3) ifs tc/\PE (cxC X scope cl N' pins ex s3 H3) elt te)
  (hs:∀x,foldedSetIterable iter X.env x=pure x:=by intro _;rfl)
  (hsw:swapsWith (.ListComp elt [⟨tg,iter,ifs,0⟩] scope cpos) (some (.Name x pos')) pos.line X.env=pure true:=by rfl)
  (hf:X.fn x=true\/X.env.scope.names.lookup x=some .local:=by first | exact .inl rfl | exact .inr rfl | assumption) :
  PS X (.Assign [.Name x pos'] (.ListComp elt [⟨tg,iter,ifs,0⟩] scope cpos) pos) (Kp (Eu wi (fun _=>.lst []) cap fun D J σ H Q=>Hu g tc (Cu D te) J σ H Q) (i9 i)):=by
 intro pins s σ H D I h;rw[exec_Assign];refine AH (CP (AH (wpAny_of_eq hsw (wpAny_ite_true rfl (AH (AH ?_))))));refine Dc (newAcc:=newList []) (p2:=firstIterPos [⟨tg,iter,ifs,0⟩] cpos) rfl (fun _=>.lst []) hs S hc hI (fun pins s σ H Q E I h=>?_) (fun pins ex s3 H3 D it fp tn J σ s H Q R T I st hf h hR=>?_) (fun _ _ _=>rfl) (fun _ _ _=>rfl) I h fun E fp H2 s3 s' σ' H' I3 fok I' q=>?_
 .refine wpAny_newList ?_;exact h _ (I.lnew (t':=s.toks) (its:=[]) .nil (BI _)) fun b ob e=>AC _ e
 .obtain⟨b1,b2,b3⟩:=hb pins ex s3 H3;exact o4 (X:=cxC X scope cl N' pins ex s3 H3) rfl rfl hc rfl (Z6 elt tg iter ifs scope cpos _ _ _) b1 b2 (Ai rfl b3) T I st hf h hR
 .have IX:Inv X pins σ H' s':=I3.unblock fok I' ⟨rfl,fun _ _=>rfl⟩;have fC:o6 X pins H' s3.heap.objs.size:=I3.fpOk (AL _) I'.free;obtain⟨m,hn,_⟩:=I'.loc;show wpAny _ _ (assign (.Name x pos') X.env (.ref E)) _ _ _;refine wpAny_assign_Name (p5 (v:=.ref E) IX hN hi hx rfl (fun s2 I2 ⟨a,hsb,ha⟩=>?_) hf);have nC:s3.heap.objs.size≠a:=by
   rcases ha with rfl | ha
   .exact fC.2.1
   .exact(fC.2.2.2.2.1 _ _ ha).symm
  refine⟨m,?_,fun h' hsb'=>AS (AS ?_)⟩
  .obtain⟨ob,es,ep,e1,r⟩:=hn;exact⟨ob,es,ep,(hsb.2 _ nC).trans e1,r⟩
  refine⟨_,H',?_,q⟩;have k:∀b ob,b∉[s3.heap.objs.size]->s2.heap.get? b=some ob->h'.get? b=some ob:=fun b ob hb e=>(hsb'.2 b fun z=>hb (AB.mpr z)).trans e;refine I2.step (h':=h') (H':=H') (t':=s2.toks) (g':=s2.gens) (d':=s2.drawn) (ch:=[s3.heap.objs.size]) (fun b hb=>by rw[AB.mp hb];exact⟨fC.2.2.2.1,fC.2.1,fC.2.2.2.2⟩) (fun b ob _ _ hc e _=>k b ob hc e) (fun b ob _ _ hc e _=>⟨ob.slots,k b ob hc e⟩) (fun _ _ _ _ n=>n)
   (fun b ob hc e=>⟨ob,k b ob hc e⟩) (fun _ _ e=>e) (fun _ _ _ e=>e) (fun b ps e=>⟨#[],by rw[e];simp⟩) (fun m hm=>?_) (fun b u eb=>?_) I2.bare
  .obtain⟨ob,es,ep,ho,r⟩:=hm;exact⟨ob,es,ep,k _ ob (fun hb=>fC.2.1 (AB.mp hb).symm) ho,r⟩
  .have nf:∀b u,H' b=some u->b∉[s3.heap.objs.size]:=fun b u e hb=>by rw[AB.mp hb,fC.1]at e;cases e
   refine(I2.hok b u eb).stay (fun c v hc q=>k c v ?_ q) (fun _ q=>q) fun _ _ q=>q;rcases hc with z | z
   .rw[z];exact nf b u eb
   .exact nf c _ z
end
section
variable{X:Cx}
theorem Ih{x:Str}{C:Addr}{pos:Pos}(h:X.mg x=some (.ref C))(hg:Gl X x:=by rfl)(hd:(x ==("__debug__":Str))=false:=by decide):PE X (.Name x pos) (tC (.ref C)):=z0 hg h rfl hd
end
def V5(l xs:List Str):List Str:=xs.foldl Ib l
theorem Fe(l:List Str)(x:Str):(Ib l x).length<=l.length+1:=by
 unfold Ib;split
 .omega
 .rw[AO];exact AL _
theorem Jv{w:World}{h h':Heap}{a:Addr}{ss:List Str}(z:ST.WS w h a ss)(k:∀o,h.get? a=some o->h'.get? a=some o):ST.WS w h' a ss:=by
 obtain⟨o,es,ep,t,S,r⟩:=z;exact⟨o,es,ep,t,S.at (k o S.ho),r⟩
section
variable{prog:Program}{w:World}{A:Around}{R:Result->Shared->Prop}{I:Addr}{fp wr:List Addr}{G:Array GenState->Array GenState->Prop}{n:Nat}{P:Nat->Value->Prop}{St:Nat->Shared->Prop}
theorem Co(W:WalksS prog w A.in1 I fp wr G n P St)(S:Addr)(hSf:S∉fp)(xs:List Str)(hn:xs.length=n)(hval:∀i v,P i v->∃x t,xs[i]?=some x/\v = .str x t) :
  ∀(k i:Nat) (s:Shared) (ss:List Str),n-i=k->i<=n->St i s->ST.WS w s.heap S ss->ss.length+k<4096 ->
   (∀s',Moved (S::wr) G s s'->ST.WS w s'.heap S (V5 ss (xs.drop i))->R (.ok (.ret .none)) s') ->
   codeAny (model prog w) A (.builtin "set.update.loop" ⟨[.ref S,.ref I],[]⟩) R s:=by
 have hSw:S∉wr:=fun h=>hSf (W.sub _ h);have hsub:∀b∈wr,b∈S::wr:=fun b hb=>AV _ hb;intro k
 induction k with
 | zero =>
  intro i s ss hk hi hst hS _ hR;have hin:i=n:=by omega
  subst hin;refine codeAny_builtin F.entry_set_update_loop ?_;rw[Around.under_plainId F.plain_set_update_loop _];refine AH (W.done s _ _ hst fun s' hm=>?_);have q:=hR s' (hm.mono hsub);rw[<-hn,List.drop_length]at q;exact AS (q (Jv hS fun o=>hm.heap S o hSw))
 | succ k ih =>
  intro i s ss hk hi hst hS hz hR;refine codeAny_builtin F.entry_set_update_loop ?_;rw[Around.under_plainId F.plain_set_update_loop _];refine AH (W.item i s _ _ (by omega) hst fun v s' hP hst' hm=>?_);obtain⟨x,t,hx,rfl⟩:=hval i v hP;show wpAny _ A.in1 (holding [Value.str x t] (setAdd S (.str x t)) >>= _) _ _ s';refine AH (CH ?_);unfold setAdd;refine CH (AH (wpAny_pyHash_str ?_));refine ST.add_txt (s:={ s' with toks:=s'.toks+1 }) (Jv hS fun o=>hm.heap S o hSw) (by omega) fun h' b hsb z'=>?_;refine AS ⟨plainId_quiet F.plain_set_update_loop _,ih (i+1) _ (Ib ss x) (by omega) (by omega) (W.frame _ s' _ _ hst' (DA _) fun b hb o e=>?_) z' (by have:=Fe ss x;omega) fun s'' hm'' hS''=>?_⟩
  .rw[hsb.2 b (fun h:b=S=>hSf (by rw[<-h];exact hb))];exact e
  .refine hR s'' (Moved.trans W.gtrans ((hm.mono hsub).then_heap (DA _) fun b o hb e=>?_) hm'') ?_
   .rw[hsb.2 b (fun h:b=S=>hb (by rw[h];exact BF))];exact e
   .have hd:xs.drop i=x::xs.drop (i+1):=by
     obtain⟨hi',ex⟩:=AR.mp hx;rw[<-ex];exact List.drop_eq_getElem_cons hi'
    rw[hd];exact hS''
end
section
variable{prog:Program}{w:World}{A:Around}{E:Value->Shared->Prop}{s:Shared}
abbrev freshW(w:World):Obj:={ cls:=.type "set",dict:=none,data:=.set #[] 0 (.fresh 0 0 (!(w.params.followText "set-order"))) }
theorem Es{h:Heap}{a:Addr}(e:h.get? a=some (freshW w)):ST.WS w h a [] :=
 ⟨_,#[],0,_,⟨e,⟨rfl,rfl,rfl⟩,rfl,by rfl,rfl,fun _=>rfl,by decide⟩,⟨fun e he=>by simp at he,by simp,CL⟩⟩
theorem Et(a:Value){Q₁:Value->Shared->Prop}(h:Q₁ (.ref s.heap.objs.size) { s with heap:=s.heap.push (freshW w) }) :
  codeAny (model prog w) A (.call (.builtin "set.__new__") ⟨[.type "set",a],[]⟩) (wants Q₁ E) s:=by
 refine codeAny_of_tree ?_;show wpAny _ A.in1 (do checkBuiltinCall "set.__new__" ⟨[.type "set",a],[]⟩;again (.builtin "set.__new__" ⟨[.type "set",a],[]⟩)) _ _ s;refine AH (wpAny_of_eq (F.newCall_set_1 a) (AS ⟨plainId_quiet F.plain_set_new _,codeAny_builtin F.entry_set_new ?_⟩));rw[Around.under_plainId F.plain_set_new _];unfold Builtin.«set.__new__» Builtin.Frozenset.newClass;have hsub:=sub_set_self;obtain⟨hp,g,d,tk,os⟩:=s;dsimp only;wp_walk;refine wpAny_askSetting (AS ?_);dsimp only;simp only[newObj];refine AH (wpAny_alloc (AS ?_));exact AS h
set_option maxHeartbeats 3200000 in
theorem Z7{l:Addr}{ol it:Obj}{nm:String}{xs:List Str}{n:Nat}{P:Nat->Value->Prop}{St:Addr->Nat->Heap->Prop}{Q:Value->Shared->Prop}(hh:A.handled=none)(hol:s.heap.get? l=some ol)(hcl:ol.cls = .type nm)
  (hs1:isSubtype (.type nm) (.type "set")=pure false) (hs2:isSubtype (.type nm) (.type "frozenset")=pure false) (hne:(Value.type nm == Value.type "dict")=false)
  (hit:∀{A:Around} {E:Value->Shared->Prop} {Q:Value->Shared->Prop} (s1:Shared),s1.heap.get? l=some ol->Q (.ref s1.heap.objs.size) { s1 with heap:=s1.heap.push it }->wpAny (model prog w) A (pyIter (.ref l)) Q E s1)
  (hW:∀(A:Around) (I:Addr),A.handled=none->l≠I->Walks prog w A I [I,l] [I] n P (St I)) (hSt:∀(h:Heap) (I:Addr),h.get? I=some it->h.get? l=some ol->St I 0 h) (hiti:it.isFreed=false)
  (hn:xs.length=n) (hval:∀i v,P i v->∃x t,xs[i]?=some x/\v = .str x t) (hb:n<4096)
  (h:∀(h':Heap) (tk:Nat),ST.WS w h' s.heap.objs.size (V5 [] xs)->(∀b o,s.heap.get? b=some o->h'.get? b=some o)->Q (.ref s.heap.objs.size) { s with heap:=h',toks:=tk }) :
  wpAny (model prog w) A (call (.type "set") [.ref l]) Q E s:=by
 obtain⟨c,tl,hmro⟩:=F.called_set.mro;have hmade:=F.called_set.made;have hsub:=F.called_set.sub;refine wpAny_call (codeAny_of_tree ?_);show wpAny _ _ (callAny (.type "set") _) _ _ _;refine AS ⟨Code.quiet_builtin _ (by decide +kernel),codeAny_builtin F.entry_type_call ?_⟩;rw[Around.under_plain (weight_type_call_type "set" [.ref l] []) rfl];have h1:=F.called_set.notType;have h2:=F.called_set.canCreate;have hct:=F.typeCall_set_1 (.ref l)
 repeat (any_goals (first | assumption | wp_step))
 refine CM (Et (.ref l) (E:=E) (Q₁:=fun obj s₁=>obj = .ref s.heap.objs.size/\s₁ ={ s with heap:=s.heap.push (freshW w) }) ⟨rfl,rfl⟩) fun r s₁ hr=>?_;cases r with
 | error e=>exact hr
 | ok fl =>
  cases fl with
  | ret obj =>
   obtain⟨rfl,rfl⟩:=hr;have hS:(s.heap.push (freshW w)).get? s.heap.objs.size=some (freshW w):=BE _ rfl;have hT:Shared.TypeIs { s with heap:=s.heap.push (freshW w) } (.ref s.heap.objs.size) "set":=⟨_,hS,rfl⟩;have hli:=F.called_set.init.lookup;have hbi:=F.called_set.init.bind (.ref s.heap.objs.size)
   repeat (any_goals (first | assumption | wp_step))
   refine CM (codeAny_call_builtin (R:=wants (fun r s₂=>r = .none/\∃h' tk,s₂ ={ s with heap:=h',toks:=tk }/\ST.WS w h' s.heap.objs.size (V5 [] xs) /\
     (∀b o,s.heap.get? b=some o->h'.get? b=some o)) E) F.called_set.init.plain F.entry_set_init (check_set_init_1 hT ?_)) fun r₂ s₂ hr₂=>?_
   .have hol':(s.heap.push (freshW w)).get? l=some ol:=AC _ hol;obtain⟨ocls,odict,odata,oslots⟩:=ol;simp only at hcl;subst hcl;unfold Builtin.«set.__init__» noKeywords Builtin.Frozenset.updateFrom;generalize hPI:pyIter=PI;wp_walk;subst hPI;refine hit _ hol' ?_;refine AH (wpAny_runValue ?_);have hlS:l<s.heap.objs.size:=AE hol;have hh3:A.in1.in1.in1.handled=none:=by simp[hh]
    have hneI:l≠(s.heap.push (freshW w)).objs.size:=by
     rw[CW];exact AZ (Nat.lt_succ_of_lt hlS)
    have hSf:s.heap.objs.size∉[(s.heap.push (freshW w)).objs.size,l]:=by
     rw[CW];simp only[AY,AD,or_false,not_or];exact⟨AZ (Nat.lt_succ_self _),Nat.ne_of_gt hlS⟩
    refine Co ((hW _ _ hh3 hneI).toS) s.heap.objs.size hSf xs hn hval (n-0) 0 _ [] rfl (BI _) (hSt _ _ (BE _ hiti) (AC _ hol')) (Es (AC _ hS)) (by simpa using hb) fun s' hm hS'=>?_;obtain⟨h',g',d',tk',os'⟩:=s';have eg:g'=s.gens:=hm.gens;have ed:d'=s.drawn:=hm.drawn;have eo:os'=s.os:=hm.os;subst eg;subst ed;subst eo;show wpAny _ _ _ _ _ _;refine AS ?_;show wpAny _ _ (ret Value.none) _ _ _;refine AS ⟨rfl,h',tk',rfl,hS',fun b o e=>?_⟩;have hb:=AE e;have hb1:b≠s.heap.objs.size:=AZ hb;have hb2:b≠(s.heap.push (freshW w)).objs.size:=by
     rw[CW];exact AZ (Nat.lt_succ_of_lt hb)
    exact hm.heap b o (by simp only[AY,AD,or_false,not_or];exact⟨hb1,hb2⟩) (AC _ (AC _ e))
   .cases r₂ with
    | error e=>exact hr₂
    | ok fl₂ =>
     cases fl₂ with
     | ret r =>
      obtain⟨rfl,h',tk,rfl,hS',hk'⟩:=hr₂
      repeat (any_goals (first | assumption | wp_step))
      exact h _ _ hS' hk'
     | _=>exact hr₂.elim
  | _=>exact hr.elim
end
theorem g8:isSubtype (.type "tuple") (.type "set")=pure false:=by rw[isSubtype_type];kernel_rfl
theorem P4:isSubtype (.type "tuple") (.type "frozenset")=pure false:=by rw[isSubtype_type];kernel_rfl
theorem j4:∀{xs l:List Str},xs.Nodup->(∀x∈xs,x∉l)->V5 l xs=l++xs
 | [],l,_,_=>(CB l).symm
 | x::xs,l,nd,ni=>by
  obtain⟨n1,n2⟩:=BR.mp nd;show V5 (Ib l x) xs=_;have e:Ib l x=l ++ [x]:=BH (ni x (BF ..));rw[e,j4 n2 fun y hy hm=>?_,CZ]
  .rfl
  .rcases BA.mp hm with hm | hm
   .exact ni y (AV _ hy) hm
   .exact n1 (AB.mp hm▸hy)
theorem By{ss:List Str}{its:List Value}(r:Vals (ss.map V.str) its)(i:Nat)(v:Value)(e:its.toArray[i]?=some v):∃x t,ss[i]?=some x/\v = .str x t:=by
 rw[List.getElem?_toArray]at e;cases h:ss[i]? with
 | none =>
  have:=r.none_of (i:=i) (by rw[AG,h];rfl);rw[this]at e;cases e
 | some x =>
  obtain⟨u,e1,t,e2⟩:=r.get (i:=i) (x:=.str x) (by rw[AG,h];rfl);rw[e1]at e;cases e;exact⟨x,t,rfl,e2⟩
section
variable{X:Cx}
theorem Gx(K:PySem.W.Frag)(w:World)(hc:X.calm=true:=by rfl)(hK:X.K=K:=by rfl)(hw:X.w=w:=by rfl):J0 X (.type "set") (fun xs H Q=>∃(p:Addr) (ss:List Str),xs = [.ref p]/\(SqL K H p (ss.map V.str)\/SqT K H p (ss.map V.str))/\ss.Nodup/\ss.length<4096/\∀l,H l=none->Q (.ref l) (upd H l (Ig w l ss))):=by
 subst hK;subst hw;intro pins s σ H xs us Q I r h;obtain⟨p,ss,rfl,hq,nd,hb,q⟩:=h;obtain⟨u,rfl,rx⟩:=X9 r;cases rx;have en:V5 [] ss=ss:=j4 nd fun _ _ h=>nomatch h
 have fin:∀(h':Heap) (tk:Nat),ST.WS X.w h' s.heap.objs.size (V5 [] ss)->(∀b o,s.heap.get? b=some o->h'.get? b=some o)->EP X pins σ Q (.ref s.heap.objs.size) { s with heap:=h',toks:=tk }:=fun h' tk z k=>by
  rw[en]at z;exact⟨.ref s.heap.objs.size,_,I.laid (t':=tk) k (AL _) (Jk z),rfl,q _ (I.hok.fresh (AL _))⟩
 rcases hq with hq | hq
 .obtain⟨its,r',pl,hz⟩:=I.list hq;have hlen:=r'.length;rw[AA]at hlen;obtain⟨o,ho,hc',n,hd⟩:=pl.isList;exact Z7 (I.ok.hd hc) ho hc' F.sub_list_set F.sub_list_frozenset (by decide) (fun s1 e q=>wpAny_pyIter_list ⟨_,e,hc',n,hd⟩ q) (fun A I hA hne=>Walks.list hA I p hne its.toArray) (fun h I e1 e2=>⟨⟨_,e1,rfl,rfl⟩,⟨_,e2,hc',n,hd⟩⟩) rfl (by simp[hlen]) (By r') (by simpa [<-hlen] using hb) fin
 .obtain⟨its,r',pl,hz⟩:=I.tuple hq;have hlen:=r'.length;rw[AA]at hlen;obtain⟨o,ho,hc',n,hd⟩:=pl;exact Z7 (I.ok.hd hc) ho hc' g8 P4 (by decide) (fun s1 e q=>wpAny_pyIter_tuple ⟨_,e,hc',n,hd⟩ q) (fun A I hA hne=>Walks.tuple hA I p hne its.toArray) (fun h I e1 e2=>⟨⟨_,e1,rfl,rfl⟩,⟨_,e2,hc',n,hd⟩⟩) rfl (by simp[hlen]) (By r') (by simpa [<-hlen] using hb) fin
def Ey(K:PySem.W.Frag):V->List V->Hp->VK->Prop:=fun x vs H Q=>∃(z:Str) (p:Addr) (ys:List Str),x = .str z/\vs = [.ref p]/\SqL K H p (ys.map V.str)/\(ys.map fun x=>x.length).sum+ys.length*z.length<=16777216/\Q (.str (Txt.join z ys)) H
theorem Gp:MtM X "str.join" (Ey X.K):=by
 intro pins s σ H x vs v us Q I rx rv h;obtain⟨z,p,ys,rfl,rfl,hq,hb,q⟩:=h;obtain⟨t,rfl⟩:=rx;obtain⟨u,rfl,ru⟩:=rv.one;cases ru;obtain⟨its,rv,pl,hz⟩:=I.list hq;exact PyProof.Rows.join_list pl.isList (by simpa using b7 rv) hb fun t' k=>⟨.str _,H,I.tok _,⟨_,rfl⟩,q⟩
variable(K:PySem.W.Frag)
theorem P9(hK:X.K=K:=by rfl):MtM X "str.join" (Ey K):=by subst hK;exact Gp
end
def Fk:List Str->List Value->Bool
 | [],[]=>true
 | x::xs,.str y _::us=>x == y&&Fk xs us
 | _,_=>false
theorem Dv:∀{xs:List Str} {us:List Value},Fk xs us=true->Vals (xs.map V.str) us
 | [],[],_=>.nil
 | x::xs,.str y t::us,h=>by
  obtain⟨h1,h2⟩:=(BO _ _).mp (show(x == y&&Fk xs us)=true from h);have e:x=y:=beq_iff_eq.mp h1;exact .cons ⟨t,by rw[e]⟩ (Dv h2)
def GTup(K:PySem.W.Frag)(a:Addr)(xs:List Str):Prop:=∃(o:Obj) (its:Array Value) (n:Nat),K.lookup a=some o/\o.cls = .type "tuple"/\o.data = .seq its n/\its.size<=sizeLine/\Vals (xs.map V.str) its.toList
theorem GTup.sq{K:PySem.W.Frag}{H:Hp}{a:Addr}{xs:List Str}(h:GTup K a xs):SqT K H a (xs.map V.str):=.inr h
theorem As:∀{xs:List V} {us:List Value},Vals xs us->us.length=xs.length
 | _,_,.nil=>rfl
 | _,_,.cons _ t=>by rw[BG,BG,As t]
theorem gtup_mk{K:PySem.W.Frag}{a:Addr}{xs:List Str}{o:Obj}(l:K.lookup a=some o)(e:∃its n d osl,o =⟨.type "tuple",d,.seq its n,osl⟩/\(decide (xs.length<=100)&&Fk xs its.toList)=true):GTup K a xs:=by
 obtain⟨its,n,d,osl,rfl,h⟩:=e;obtain⟨h1,h2⟩:=(BO _ _).mp h;have v:=Dv h2;refine⟨_,its,n,l,rfl,rfl,?_,v⟩;have e1:=As v;rw[AA,BP]at e1;have:=BW h1;rw[sizeLine_eq,e1];omega
theorem S1{a b:Addr}{n:Nat}(h1:a<n)(h2:n<=b):b≠a:=fun z=>by subst z;exact absurd h2 (Nat.not_le_of_lt h1)
section
variable{fs ex:List Addr}{H:Hp}{h h':Heap}{a:Addr}
theorem HOk.table{P:Program}{w:World}{ps qs:Array Value}(ok:HOk P w H h)(hp:H a=some (.tbl ps))(k:∀b u,b≠a->h.get? b=some u->h'.get? b=some u)(he:h'.get? a=some { cls:=.none,data:=.fields qs }):HOk P w (upd H a (.tbl qs)) h':=fun b u q=>by
 by_cases hb:b=a
 .subst hb;rw[A8]at q;cases q;exact he
 .rw[B3 hb]at q;have n:∀c o,H c=some o->o≠ .tbl ps->c≠a:=fun c o e ne z=>by rw[z,hp]at e;cases e;exact ne rfl
  refine(ok b u q).stay (fun c v hc r=>k c v ?_ r) (fun c r=>by rw[B3 (n c _ r (by intro z;cases z))];exact r) fun c xs r=>by rw[B3 (n c _ r (by intro z;cases z))];exact r
  rcases hc with rfl | hc
  .exact hb
  .exact n c _ hc (by intro z;cases z)
end
section
variable{P:Program}{w:World}{fs ex:List Addr}{H H':Hp}{h h':Heap}{a:Addr}{o:HO}
theorem Un.more{p:Addr}{ps more:Array Value}(hp:H p=some (.tbl ps))(hp':H' p=some (.tbl (ps++more)))(old:∀b o,H b=some o->b≠p->H' b=some o)(fre:∀b,b<h.objs.size->H b=none->H' b=none)
  (k:∀b u,b≠p->h.get? b=some u->h'.get? b=some u) (he:∃u,h'.get? p=some u):Un fs ex H H' h h':=by
 have ne:∀b,H b=none->b≠p:=fun b n e=>by rw[e,hp]at n;cases n
 refine⟨fun b u q n _ _=>k b u (ne b n) q,fun b u q n _ _=>⟨u.slots,k b u (ne b n) q⟩,fun b u q n _=>fre b (AE q) n,fun b u q _=>?_,fun b xs q=>old b _ q fun e=>?_,fun b o u q=>old b _ q fun e=>?_,fun b qs q=>?_⟩
 .by_cases e:b=p
  .subst e;exact he
  .exact⟨u,k b u e q⟩
 .rw[e,hp]at q;cases q
 .rw[e,hp]at q;cases q
 .by_cases e:b=p
  .subst e;rw[hp]at q;cases q;exact⟨more,hp'⟩
  .exact⟨#[],by rw[old b _ q e];simp⟩
theorem HOk.track(x:HOk P w H h)(hn:H a=none)(new:ObjOk P w (upd H a o) h a o):HOk P w (upd H a o) h:=fun b u e=>by
 by_cases hb:b=a
 .subst hb;rw[A8]at e;cases e;exact new
 .rw[B3 hb]at e;exact(x b u e).stay (fun c v _ q=>q) (fun c q=>by rw[B3 (B0 q hn)];exact q) fun c xs q=>by rw[B3 (B0 q hn)];exact q
end
def CodeO(c:Addr)(q:Str):HO:=.ext fun h=>h.CodeRec (.ref c) q
def LamO(f c:Addr)(q:Str)(ps:Arguments)(b:Expr)(sc:Scope)(cl:List (Str×Addr)):HO:=.ext fun h=>∃pm ct,h.get? f=some (PySem.W.kla_obj "<lambda>" q ps b sc cl pm c ct)
theorem CodeO.ok{P:Program}{w:World}{H:Hp}{h:Heap}{c:Addr}{q:Str}(r:h.CodeRec (.ref c) q):ObjOk P w H h c (CodeO c q):=by
 have r0:=r;obtain⟨c',o,vs,t,e,ho,hd,hv⟩:=r;cases e;refine⟨r0,⟨o,ho⟩,fun h1 h2 r1 k=>?_⟩;obtain⟨c',o,vs,t,e,ho,hd,hv⟩:=r1;cases e;exact⟨c,o,vs,t,rfl,k o ho,hd,hv⟩
theorem LamO.ok{P:Program}{w:World}{H:Hp}{h:Heap}{f c:Addr}{q:Str}{ps:Arguments}{b:Expr}{sc:Scope}{cl:List (Str×Addr)}{pm ct:Value}(r:h.get? f=some (PySem.W.kla_obj "<lambda>" q ps b sc cl pm c ct)):ObjOk P w H h f (LamO f c q ps b sc cl) :=
 ⟨⟨pm,ct,r⟩,⟨_,r⟩,fun h1 h2 ⟨pm,ct,e⟩ k=>⟨pm,ct,k _ e⟩⟩
def F5(cells:List (Str×Addr)):List (Str×NameKind)->List (Str×Addr)->List (Str×Addr)
 | [],cs=>cs
 | (n,k)::r,cs=>F5 cells r (if(k == NameKind.free)=true then(n,(cells.lookup n).getD 0)::cs else cs)
theorem Q5{scope:Scope}{env:Env}(h:∀x∈scope.names,x.2 = .free->(env.cells.lookup x.1).isSome=true):closureFor scope env=pure (F5 env.cells scope.names []):=by
 have main:∀(l:List (Str×NameKind)) (cs:List (Str×Addr)),(∀x∈l,x.2 = .free->(env.cells.lookup x.1).isSome=true) ->
   (forIn (m:=Sem) l cs fun x __s=>match x with
    | (name,kind)=>if(kind == NameKind.free)=true then do
      let __do_lift <-cellOf env name
      pure (ForInStep.yield ((name,__do_lift)::__s))
     else pure (ForInStep.yield __s))=pure (F5 env.cells l cs):=by
  intro l
  induction l with
  | nil=>intro cs _;rfl
  | cons x r ih =>
   obtain⟨n,k⟩:=x;intro cs hx;rw[List.forIn_cons];by_cases e:(k == NameKind.free)=true
   .have hk:k = .free:=eq_of_beq e;obtain⟨c,hc⟩:=CD.mp (hx (n,k) (BF ..) hk);have hc':cellOf env n=pure c:=by
     unfold cellOf;rw[show List.lookup n env.cells=some c from hc]
    simp only[e,if_true,hc',pure_bind];rw[ih _ fun y hy=>hx y (AV _ hy)];show _=pure (F5 env.cells r (if(k == NameKind.free)=true then(n,(env.cells.lookup n).getD 0)::cs else cs));rw[BJ e,show List.lookup n env.cells=some c from hc];rfl
   .simp only[e,Bool.false_eq_true,if_false,pure_bind];rw[ih _ fun y hy=>hx y (AV _ hy)];show _=pure (F5 env.cells r (if(k == NameKind.free)=true then(n,(env.cells.lookup n).getD 0)::cs else cs));rw[BH e]
 unfold closureFor;simp only[main scope.names [] h,pure_bind]
theorem Y2{pos q:Pos}{c:Value}:∀(l:List Value),TriplesOk l->¬(pos.line=q.line/\pos.col=q.col)->codeAmong q (l ++ [rawInt pos.line,rawInt pos.col,c])=codeAmong q l
 | [],_,n=>by
  show(if((pos.line:Int) ==(q.line:Int) &&(pos.col:Int) ==(q.col:Int))=true then some c else none)=none;rw[BH];intro z;rw[BO,beq_iff_eq,beq_iff_eq]at z;exact n ⟨by omega,by omega⟩
 | .int a _ :: .int b _::x::r,h,n=>by
  show(if(a ==(q.line:Int)&&b ==(q.col:Int))=true then some x else codeAmong q (r ++ [rawInt pos.line,rawInt pos.col,c]))=if(a ==(q.line:Int)&&b ==(q.col:Int))=true then some x else codeAmong q r
  rw[Y2 r h n]
def O7(H:Hp)(P:Addr)(ls:List (Pos×Str)):Prop:=∃ps,H P=some (.tbl ps)/\TriplesOk ps.toList/\∀l∈ls,codeAmong l.1 ps.toList=none\/∃c,codeAmong l.1 ps.toList=some (.ref c)/\H c=some (CodeO c l.2)
structure TabAt(K:PySem.W.Frag)(mg:Str->Option Value)(c P:Addr):Prop where
 hd:∀h:Heap,K.In h->PySem.W.CodeHd h c P
 ne:mainGlobals≠P
def Mi(P:Addr)(ls:List (Pos×Str))(cl:List (Str×Addr))(q:Str)(ps:Arguments)(b:Expr)(sc:Scope):TE:=fun _ H Q=>O7 H P ls/\∀f c H',H f=none->O7 H' P ls->H' c=some (CodeO c q)->H' f=some (LamO f c q ps b sc cl)->f≠P->(∀a o,H a=some o->a≠P->H' a=some o)->Q (.ref f) H'
section
variable{X:Cx}
theorem Ef{args:Arguments}{body:Expr}{scope:Scope}{pos:Pos}{c P:Addr}{ls:List (Pos×Str)}(T:TabAt X.K X.mg c P)(hB:X.base.BuiltinsAt X.mg P)(hc:X.env.code = .ref c)(hd1:args.defaults = [])(hd2:args.kw_defaults = [])
  (hfr:∀x∈scope.names,x.2 = .free->X.env.scope.names.lookup x.1=some .cell) (hl:(pos,X.env.qual ++ "<lambda>")∈ls) (hu:∀l∈ls,∀l'∈ls,l.1.line=l'.1.line->l.1.col=l'.1.col->l=l') :
  PE X (.Lambda args body scope pos) (Mi P ls (F5 X.env.cells scope.names []) (X.env.qual ++ "<lambda>") args body scope):=by
 intro pins s σ H Q I h;obtain⟨⟨ps,hP,tr,hls⟩,q⟩:=h;have hdef:defaultsOf args X.env =([],[]):=by
  cases args;cases hd1;cases hd2;rfl
 rw[arm_eval_Lambda,hdef];refine AH (AS (AH (CH (AS ?_))));have hPs:s.heap.get? P=some (PySem.W.tabObj ps):=I.hok P _ hP;have hfr:∀x∈scope.names,x.2 = .free->(X.env.cells.lookup x.1).isSome=true:=fun x hx e=>by
  obtain⟨c,hc⟩:=I.ok.has x.1 (.inl (hfr x hx e));rw[hc];rfl
 have hns:s.heap.Ns mainGlobals X.mg:=I.mod.glob.keeps I.bk;have hB:s.heap.BuiltinsAt X.mg P:=let⟨bm,o,h1,h2,h3,h4,h5,h6⟩:=hB;⟨bm,o,h1,h2,h3,h4,I.bk _ _ h5,h6⟩;rcases hls _ hl with e | ⟨c',e,hc'⟩
 .refine PySem.W.kla_makeFunction (Q5 hfr) I.ok.glob hns hc (T.hd _ I.kIn) hPs tr e T.ne hB fun c' ctv h' tk xb le lt cr eP=>?_;have szP:P<s.heap.objs.size:=AE hPs;have ncP:c'≠P:=S1 szP le;have nfP:h'.objs.size≠P:=S1 szP (BK le (BX lt));have nfc:h'.objs.size≠c':=S1 lt (AL _);have hnc:H c'=none:=I.hok.fresh le;have hnf:H h'.objs.size=none:=I.hok.fresh (BK le (BX lt));have eO:(h'.push (PySem.W.kla_obj "<lambda>" (X.env.qual ++ "<lambda>") args body scope (F5 X.env.cells scope.names []) ((X.mg "__name__").getD .none) c' ctv)).get? h'.objs.size=some (PySem.W.kla_obj "<lambda>" (X.env.qual ++ "<lambda>") args body scope (F5 X.env.cells scope.names []) ((X.mg "__name__").getD .none) c' ctv):=BE _ rfl;have kk:∀b u,h'.get? b=some u->(h'.push (PySem.W.kla_obj "<lambda>" (X.env.qual ++ "<lambda>") args body scope (F5 X.env.cells scope.names []) ((X.mg "__name__").getD .none) c' ctv)).get? b=some u:=fun b u e=>AC _ e;generalize h'.push (PySem.W.kla_obj "<lambda>" (X.env.qual ++ "<lambda>") args body scope (F5 X.env.cells scope.names []) ((X.mg "__name__").getD .none) c' ctv)=h2 at eO kk⊢;have k:∀b u,b≠P->s.heap.get? b=some u->h2.get? b=some u:=fun b u n e=>kk b u (xb b u n e);have cr2:h2.CodeRec (.ref c') (X.env.qual ++ "<lambda>"):=by
   obtain⟨c1,o,vs,t,e1,ho,hd,hv⟩:=cr;exact⟨c1,o,vs,t,e1,kk _ _ ho,hd,hv⟩
  have eP2:=kk _ _ eP;have u1:upd H P (.tbl (ps ++ #[rawInt pos.line,rawInt pos.col,.ref c'])) c'=none:=by rw[B3 ncP];exact hnc
  have u2:upd (upd H P (.tbl (ps ++ #[rawInt pos.line,rawInt pos.col,.ref c']))) c' (CodeO c' (X.env.qual ++ "<lambda>")) h'.objs.size=none:=by rw[B3 nfc,B3 nfP];exact hnf
  have hok2:=((I.hok.table hP k eP2).track u1 (CodeO.ok cr2)).track u2 (LamO.ok eO);have hp':upd (upd (upd H P (.tbl (ps ++ #[rawInt pos.line,rawInt pos.col,.ref c']))) c' (CodeO c' (X.env.qual ++ "<lambda>"))) h'.objs.size (LamO h'.objs.size c' (X.env.qual ++ "<lambda>") args body scope (F5 X.env.cells scope.names [])) P=some (.tbl (ps ++ #[rawInt pos.line,rawInt pos.col,.ref c'])):=by rw[B3 nfP.symm,B3 ncP.symm,A8]
  have hc2:upd (upd (upd H P (.tbl (ps ++ #[rawInt pos.line,rawInt pos.col,.ref c']))) c' (CodeO c' (X.env.qual ++ "<lambda>"))) h'.objs.size (LamO h'.objs.size c' (X.env.qual ++ "<lambda>") args body scope (F5 X.env.cells scope.names [])) c'=some (CodeO c' (X.env.qual ++ "<lambda>")):=by rw[B3 nfc.symm,A8]
  have old:∀b o,H b=some o->b≠P->upd (upd (upd H P (.tbl (ps ++ #[rawInt pos.line,rawInt pos.col,.ref c']))) c' (CodeO c' (X.env.qual ++ "<lambda>"))) h'.objs.size (LamO h'.objs.size c' (X.env.qual ++ "<lambda>") args body scope (F5 X.env.cells scope.names [])) b=some o:=fun b o e n=>by
   rw[B3 (B0 e hnf),B3 (B0 e hnc),B3 n];exact e
  refine⟨.ref h'.objs.size,_,I.un (Un.more hP hp' old (fun b lb n=>?_) k ⟨_,eP2⟩) hok2,rfl,q _ c' _ hnf ⟨_,hp',?_,fun l ml=>?_⟩ hc2 A8 nfP old⟩
  .rw[B3 (S1 lb (BK le (BX lt))).symm,B3 (S1 lb le).symm,B3 (by intro z;rw[z,hP]at n;cases n)];exact n
  .rw[Array.toList_append];exact TriplesOk_snoc _ _ _ _ tr
  .rw[Array.toList_append];by_cases el:l =(pos,X.env.qual ++ "<lambda>")
   .subst el;exact .inr ⟨c',codeAmong_snoc _ tr e,hc2⟩
   .have ne:¬(pos.line=l.1.line/\pos.col=l.1.col):=fun z=>el (hu l ml _ hl z.1.symm z.2.symm);rw[show(#[rawInt pos.line,rawInt pos.col,Value.ref c']:Array Value).toList = [rawInt pos.line,rawInt pos.col,Value.ref c']from rfl,Y2 _ tr ne];rcases hls l ml with z | ⟨cc,z,hz⟩
    .exact .inl z
    .exact .inr ⟨cc,z,old _ _ hz fun y=>by rw[y,hP]at hz;cases hz⟩
 .refine PySem.W.kla_makeFunctionHit (Q5 hfr) I.ok.glob hns hc (T.hd _ I.kIn) hPs tr e hB fun ctv h' tk k le=>?_;have szP:P<s.heap.objs.size:=AE hPs;have nfP:h'.objs.size≠P:=S1 szP le;have hnf:H h'.objs.size=none:=I.hok.fresh le;have old:∀b o,H b=some o->upd H h'.objs.size (LamO h'.objs.size c' (X.env.qual ++ "<lambda>") args body scope (F5 X.env.cells scope.names [])) b=some o:=fun b o e=>by rw[B3 (B0 e hnf)];exact e
  refine⟨.ref h'.objs.size,_,I.laid (t':=tk) (fun b u e=>AC _ (k b u e)) le (LamO.ok (BE _ rfl)),rfl,q _ c' _ hnf ⟨ps,old _ _ hP,tr,fun l ml=>?_⟩ (old _ _ hc') A8 nfP fun b o e _=>old b o e⟩;rcases hls l ml with z | ⟨cc,z,hz⟩
  .exact .inl z
  .exact .inr ⟨cc,z,old _ _ hz⟩
structure CellsIn(X:Cx)(base':Heap)(σ:St):Prop where
 val:∀(i:Nat) (x:Str) (v:V) (c:Addr),X.N[i]?=some x->σ[i]?=some (some v)->X.env.scope.names.lookup x=some .cell->X.env.cells.lookup x=some c->∃u,RelV v u/\base'.IsCell c (some u)
 inj:∀x y c,X.env.cells.lookup x=some c->X.env.cells.lookup y=some c->x=y
 has:∀x,X.env.scope.names.lookup x=some .cell->∃c,X.env.cells.lookup x=some c
def Z4(X:Cx)(h:Heap):Heap:=Eg h fun b=>open Classical in if(X.base.get? b).isSome=true\/∃x,X.fn x=true/\X.env.cells.lookup x=some b then none else some (.own 0)
theorem j8{h:Heap}{b:Addr}{o:Obj}(e:h.get? b=some o)(p:(X.base.get? b).isSome=true\/∃x,X.fn x=true/\X.env.cells.lookup x=some b):(Z4 X h).get? b=some o:=V0 e (by rw[BJ p])
theorem Av{h:Heap}{b:Addr}{o:Obj}(e:(Z4 X h).get? b=some o):h.get? b=some o/\((X.base.get? b).isSome=true\/∃x,X.fn x=true/\X.env.cells.lookup x=some b):=by
 obtain⟨e1,e2⟩:=Dm e;refine⟨e1,Classical.byContradiction fun z=>?_⟩;rw[BH z]at e2;cases e2
variable{pins:List (Addr×Obj)}{σ:St}{H:Hp}{s:Shared}
theorem Inv.wbs(I:Inv X pins σ H s){b:Addr}{o:Obj}(e:X.base.get? b=some o):(Z4 X s.heap).get? b=some o:=j8 (I.bk b o e) (.inl (by rw[e];rfl))
theorem Inv.wmod(I:Inv X pins σ H s):Mod X.K X.mg (Z4 X s.heap):=by
 obtain⟨kin,glob,⟨mb,hb,hbb⟩,lim⟩:=I.ok.mod;exact⟨kin.keeps fun b o e=>I.wbs e,glob.keeps fun b o e=>I.wbs e,⟨mb,hb.keeps fun b o e=>I.wbs e,hbb⟩,lim.keeps fun b o e=>I.wbs e⟩
theorem Inv.cell_nofs(I:Inv X pins σ H s){x:Str}{c:Addr}(hf:X.fn x=true)(e:X.env.cells.lookup x=some c):c∉frs X.stack:=fun z=>by
 rcases AY.mp (I.stkSub c z)with y | y
 .exact I.cne x c e y
 .obtain⟨_,o,ho,_⟩:=I.ok.funs.mem y;exact absurd (AE ho) (Nat.not_lt_of_le (I.ok.cab x c hf e))
theorem Inv.wfuns(I:Inv X pins σ H s):s.heap.FunFrames (Z4 X s.heap) X.stack:=by
 have all:∀l:List Env,(∀b∈frs l,b∈frs X.stack)->s.heap.FunFrames X.base l->s.heap.FunFrames (Z4 X s.heap) l:=by
  intro l
  induction l with
  | nil=>intro _ _;trivial
  | cons env r ih =>
   intro hs hl;obtain⟨hk,⟨L,o,hf,hn,ho,hd⟩,hr⟩:=hl;have hL:L∈frs X.stack:=hs L (by unfold frs;rw[CF,hf];exact BF);refine⟨hk,⟨L,o,hf,?_,ho,hd⟩,ih (fun b hb=>hs b (by unfold frs;rw[CF,hf];exact AV _ hb)) hr⟩;cases q:(Z4 X s.heap).get? L with
   | none=>rfl
   | some u =>
    rcases(Av q).2 with z | ⟨x,z,y⟩
    .rw[hn]at z;cases z
    .exact absurd hL (I.cell_nofs z y)
 exact all X.stack (fun _ h=>h) I.stack
theorem Inv.wenv(I:Inv X pins σ H s):Env0 X.prog X.w X.K X.mg (Z4 X s.heap) X.A X.stack s H:=by
 refine⟨I.ok.frames,I.wmod,fun b o e=>?_,Nat.le_of_eq (p4 _ _),I.wfuns,I.stkFree,I.hok,I.bare⟩;obtain⟨e1,e2⟩:=Av e;refine⟨e1,?_⟩;rcases e2 with z | ⟨x,_,y⟩
 .obtain⟨u,hu⟩:=CD.mp z;exact(I.bs b u hu).2
 .exact I.freeC x b y
theorem Inv.wcells(I:Inv X pins σ H s)(hf:∀x,X.fn x=true):CellsIn X (Z4 X s.heap) σ:=by
 refine⟨fun i x v c e1 e2 e3 e4=>?_,I.ok.inj,fun x h=>I.ok.has x (.inl h)⟩;obtain⟨m,_,h⟩:=I.loc;obtain⟨u,r,l⟩:=h i x v e1 e2 (.inr (.inl e3));refine⟨u,r,?_⟩;rcases l with⟨z,_⟩ | ⟨_,c',e5,o,ho,hd⟩
 .rw[show X.env.kindOf x=some .cell from e3]at z;cases z
 .rw[e4]at e5;cases e5;exact⟨o,j8 ho (.inr ⟨x,hf x,e4⟩),hd⟩
end
def Ke(X:Cx)(k:Nat)(f:Addr)(fd:FuncData)(ps:List Str)(t:TA):TE:=fun σ H Q=>t σ H fun vs H1=>∀base':Heap,CellsIn X base' σ->X.K.In base'->∃sp:Sp,FnOk X.prog X.w X.K X.mg base' CX0 k f fd ps sp/\sp vs H1 Q E0
section
variable{X:Cx}{k:Nat}{x:Str}{st:Stmt}{ps:List Str}{e:Expr}{es:List Expr}{t:TA}{p pos:Pos}
theorem Am(hf:∀x,X.fn x=true)(D:Fn X.K X.mg x st ps)(hr:Room k X.A)(ha:PA X (e::es) t)(hg:Gl X x:=by rfl)(hdb:(x ==("__debug__":Str))=false:=by decide)
  (he:starEach (e::es) X.env =(false,eval e X.env)::starEach es X.env:=by rfl) (hpl:(backTo pos (starEach es X.env)).any (·.1)=false:=by rfl) :
  PE X (.Call (.Name x p) (e::es) [] pos) (Ke X k D.f D.fd ps t):=by
 intro pins s σ H Q I h;refine CA (i5 I hg D.m ?_ hdb);refine PySem.W.callWith_K (h₀:=X.base) I.ok.mod.kin D.F.kp (thn (ha pos pins s σ H _ I h) fun us s1 ⟨vs,H1,I1,r,q⟩=>⟨I1.kIn,?_⟩) he hpl;obtain⟨sp,F,hsp⟩:=q (Z4 X s1.heap) (I1.wcells hf) I1.wmod.kin;have hl:us.length=ps.length:=by rw[<-r.length];exact F.len _ _ _ _ hsp
 have hb:=D.b s1 us I1.kIn (by rw[CB];exact hl);rw[CB]at hb;refine wpAny_call (CM (F.run X.A X.stack s1 H1 ⟨us,[]⟩ us vs Q E0 hr I1.wenv hb r hsp) fun r s' hq=>?_);cases r with
 | error e=>exact hq.elim
 | ok fl =>
  cases fl with
  | ret u=>exact I1.after hq
  | next=>exact False.elim hq
  | brk=>exact False.elim hq
  | cont=>exact False.elim hq
end
structure LamScope(N ps fr:List Str)(sc:Scope):Prop where
 kind:sc.kind = .function
 co:sc.isCoroutine=false
 gen:sc.isGenerator=false
 eq:N=ps++fr
 nd:N.Nodup
 par:∀x∈ps,sc.names.lookup x=some .local
 fre:∀x∈fr,sc.names.lookup x=some .free
 nocell:∀y∈sc.names,y.2≠ .cell
 has:∀y∈sc.names,y.2 = .free->y.1∈fr
def Da(P:Program)(w:World)(K:PySem.W.Frag)(mg:Str->Option Value)(base:Heap)(N:List Str)(qual:Str)(scope:Scope)(f:Addr)(cd:Value)(cl:List (Str×Addr))(A:Around)(outer:List Env)(s:Shared)(H:Hp):Cx where
 prog:=P
 w:=w
 K:=K
 mg:=mg
 base:=base
 A:=A.deeper (PySem.W.envX qual scope s.heap.objs.size f cd cl)
 N:=N
 s₀:=s
 H₀:=H
 env:=PySem.W.envX qual scope s.heap.objs.size f cd cl
 outer:=outer
 stack:=PySem.W.envX qual scope s.heap.objs.size f cd cl::outer
 ex:=[]
 calm:=true
 fn:=fun _=>false
 pn:=[]
 xe:=fun _ _=>False
theorem d5{us:List Value}:∀{ps:List Str} {us:List Value} {i:Nat} {x:Str} {u:Value},ps.Nodup->ps[i]?=some x->us[i]?=some u->(ps.zip us).reverse.lookup x=some u
 | [],_,_,_,_,_,h,_=>by simp at h
 | _::_,[],_,_,_,_,_,h=>by simp at h
 | p::ps,w::us,0,x,u,nd,h1,h2=>by
  simp at h1 h2;subst h1 h2;rw[List.zip_cons_cons,CY,List.lookup_append];have:(ps.zip us).reverse.lookup p=none:=by
   rw[List.lookup_eq_none_iff];intro q hq;have:=(CT (List.mem_reverse.mp hq)).1;simp;intro e;exact(BR.mp nd).1 (e▸this)
  rw[this];simp
 | p::ps,w::us,i+1,x,u,nd,h1,h2=>by
  rw[List.zip_cons_cons,CY,List.lookup_append,d5 (us:=us) (BR.mp nd).2 (by simpa using h1) (by simpa using h2)];rfl
section
variable{P:Program}{w:World}{K:PySem.W.Frag}{mg:Str->Option Value}{base:Heap}{N ps fr:List Str}{qual:Str}{scope:Scope}{f c:Addr}{cl:List (Str×Addr)}{A:Around}{outer:List Env}{s:Shared}{H:Hp}
structure ClosV(base:Heap)(cl:List (Str×Addr))(fr:List Str)(gs:List V):Prop where
 len:gs.length=fr.length
 val:∀(i:Nat) (x:Str) (v:V),fr[i]?=some x->gs[i]?=some v->∃c u,cl.lookup x=some c/\RelV v u/\base.IsCell c (some u)
 only:∀x c,cl.lookup x=some c->x∈fr
 inj:∀x y c,cl.lookup x=some c->cl.lookup y=some c->x=y
theorem He{us:List Value}{vs gs:List V}{h':Heap}{tk:Nat}(S:LamScope N ps fr scope)(C:ClosV base cl fr gs)(hd:A.handled=none)(e0:Env0 P w K mg base A outer s H)(hl:vs.length=ps.length)(r:Vals vs us)
  (ns:h'.Ns s.heap.objs.size fun x=>(ps.zip us).reverse.lookup x) (k:∀b o,s.heap.get? b=some o->h'.get? b=some o) :
  Inv (Da P w K mg base N qual scope f (.ref c) cl A outer s H) [] (vs.map some++gs.map some) H { s with heap:=h',toks:=tk }:=by
 have cell:∀x d,cl.lookup x=some d->∃u o,base.get? d=some o/\o.data = .cell (some u):=fun x d e=>by
  obtain⟨i,hi⟩:=List.mem_iff_getElem?.mp (C.only x d e);have li:i<gs.length:=by rw[C.len];exact(AR.mp hi).1
  obtain⟨d',u,e',_,o,ho,hd⟩:=C.val i x gs[i] hi (AQ li);rw[e]at e';cases e';exact⟨u,o,ho,hd⟩
 have noA:∀b:Addr,b∉(Da P w K mg base N qual scope f (.ref c) cl A outer s H).ex:=fun b z=>absurd (show b∈([]:List Addr)from z) (by simp);refine⟨⟨e0.mod,S.kind,rfl,rfl,AL _,C.inj,fun y hy=>?_,fun y d z _=>?_,fun _=>hd,Around.frames_deeper e0.frames,.inr ⟨rfl,rfl⟩,fun b z=>absurd z (noA b),e0.bs,e0.bsz,fun b _ _=>noA b,fun b z=>absurd z (noA b),e0.funs,e0.frf⟩,
  rfl,e0.bare,Un.kept k,⟨_,ns,fun i y v h1 h2 h3=>?_⟩,fun y d h=>?_,e0.hok.fresh (AL _),fun y d h=>?_,fun p hp=>absurd (show p∈([]:List (Addr×Obj))from hp) (by simp),e0.hok.kept k,?_⟩
 .have hy:scope.names.lookup y=some .cell\/scope.names.lookup y=some .free:=hy;rcases hy with hy | hy
  .exact absurd rfl (S.nocell _ (PySem.mem_of_lookup hy))
  .obtain⟨i,hi⟩:=List.mem_iff_getElem?.mp (S.has _ (PySem.mem_of_lookup hy) rfl);have li:i<gs.length:=by rw[C.len];exact(AR.mp hi).1
   obtain⟨d',_,e',_⟩:=C.val i y gs[i] hi (AQ li);exact⟨d',e'⟩
 .cases(show false=true from z)
 .have h1:(ps++fr)[i]?=some y:=by rw[<-S.eq];exact h1
  have nd:(ps++fr).Nodup:=by rw[<-S.eq];exact S.nd
  by_cases li:i<vs.length
  .rw[CN (by rw[AA];exact li),AG]at h2;rw[CN (by omega)]at h1;obtain⟨v',hv,e⟩:=BC.mp h2;cases e;obtain⟨u,hu,rv⟩:=r.get hv;exact⟨u,rv,.inl ⟨S.par y (AM h1),d5 (us:=us) (CI.mp nd).1 h1 hu⟩⟩
  .rw[CJ (by rw[AA];omega),AG,AA]at h2;rw[CJ (by omega)]at h1;obtain⟨v',hv,e⟩:=BC.mp h2;cases e;rw[hl]at hv;obtain⟨d,u,e1,rv,o,ho,hd⟩:=C.val _ y v h1 hv;exact⟨u,rv,.inr ⟨.inr (S.fre y (AM h1)),d,e1,o,k _ _ (e0.bs _ _ ho).1,hd⟩⟩
 .obtain⟨u,o,ho,hd⟩:=cell y d h;exact⟨_,o,k _ _ (e0.bs _ _ ho).1,hd⟩
 .obtain⟨u,o,ho,hd⟩:=cell y d h;exact(e0.bs _ _ ho).2
 .show _=N.length;rw[S.eq,AO,AA,AA,AO,hl,C.len]
theorem Jd{args:Arguments}{body:Expr}{k:Nat}{gs:List V}{sp:Sp}{pm ct:Value}(S:LamScope N ps fr scope)(C:ClosV base cl fr gs)(len:∀vs H Q E,sp vs H Q E->vs.length=ps.length)
  (at_:∀vs H Q E,sp vs H Q E->H f=some (LamO f c qual args body scope cl)/\H c=some (CodeO c qual))
  (hbody:∀(A:Around) (outer:List Env) (s:Shared) (H:Hp) (vs:List V) (Q:VK) (E:XK),Room k (A.deeper (PySem.W.envX qual scope s.heap.objs.size f (.ref c) cl))->sp vs H Q E ->
   ∃t,PE (Da P w K mg base N qual scope f (.ref c) cl A outer s H) body t/\t (vs.map some++gs.map some) H Q) :
  FnOk P w K mg base CX0 (k+1) f (PySem.W.kla_fn "<lambda>" qual args body scope cl pm (.ref c) ct) ps sp:=by
 refine⟨len,fun A outer s H bargs us vs Q E hr e0 hb r hsp=>?_⟩;have hl:=len _ _ _ _ hsp;obtain⟨hf,hc⟩:=at_ _ _ _ _ hsp;obtain⟨⟨pm',ct',ef⟩,_⟩:=(show ObjOk P w H s.heap f (LamO f c qual args body scope cl)from e0.hok f _ hf);obtain⟨ec,_⟩:=(show ObjOk P w H s.heap c (CodeO c qual)from e0.hok c _ hc);have lim:s.heap.NoLimit:=e0.mod.nolimit.keeps fun b o e=>(e0.bs b o e).1;have hk:∀y∈ps.zip us,scope.names.lookup y.1=some .local:=fun⟨n,v⟩ hy=>S.par n (CT hy).1;have hb':BindsTo s (PySem.W.kla_fn "<lambda>" qual args body scope cl pm' (.ref c) ct') bargs (ps.zip us):=hb;refine PySem.W.kla_callFunE hr.depth ef rfl S.co S.gen rfl ec (hb' _ _ _ _ ?_);refine wpAny_newFunctionEnv S.nocell hk (fun h' ns sb=>?_) S.kind;have k1:∀b o,s.heap.get? b=some o->h'.get? b=some o:=fun b o e=>by
  rw[sb.2 b (AZ (AE e))];exact AC _ e
 refine⟨lim.keeps k1,PySem.W.kla_codeExpr ?_⟩;obtain⟨t,ht,hq⟩:=hbody A outer s H vs Q E (hr.deeper _) hsp;have I:Inv (Da P w K mg base N qual scope f (.ref c) cl A outer s H) [] (vs.map some++gs.map some) H { s with heap:=h',toks:=s.toks +(ps.zip us).length }:=He S C hr.hd e0 hl r ns k1;refine BS (ht [] _ _ H Q I hq) (fun u s' hs=>?_) fun e s' hs=>hs.elim;obtain⟨v,H',J,rv,qv⟩:=hs;exact⟨v,H',J.os,J.bare,J.base,J.hok,rv,qv⟩
theorem At{cells:List (Str×Addr)}:∀{names:List (Str×NameKind)} {cs:List (Str×Addr)} {x:Str} {c:Addr},(F5 cells names cs).lookup x=some c->((x,NameKind.free)∈names/\c =(cells.lookup x).getD 0)\/cs.lookup x=some c
 | [],_,_,_,h=>.inr h
 | (n,k)::r,cs,x,c,h=>by
  rcases At (names:=r) h with⟨z,e⟩ | z
  .exact .inl ⟨AV _ z,e⟩
  .by_cases f:(k == NameKind.free)=true
   .rw[BJ f]at z;by_cases e:x=n
    .subst e;rw[List.lookup_cons_self]at z;cases z;exact .inl ⟨by rw[eq_of_beq f];exact BF ..,rfl⟩
    .rw[C_,show(x == n)=false from by simpa using e]at z;exact .inr z
   .rw[BH f]at z;exact .inr z
theorem Ao{cells:List (Str×Addr)}{x:Str}:∀{names:List (Str×NameKind)} {cs:List (Str×Addr)},(x,NameKind.free)∈names\/(∃c,cs.lookup x=some c)->∃c,(F5 cells names cs).lookup x=some c
 | [],_,h=>h.resolve_left (by simp)
 | (n,k)::r,cs,h=>by
  refine Ao (names:=r) ?_;by_cases e:x=n
  .by_cases f:(k == NameKind.free)=true
   .subst e;exact .inr ⟨_,by rw[BJ f,List.lookup_cons_self]⟩
   .rw[BH f];rcases h with z | z
    .rcases AY.mp z with y | y
     .cases y;exact absurd rfl f
     .exact .inl y
    .exact .inr z
  .rcases h with z | ⟨c,z⟩
   .rcases AY.mp z with y | y
    .cases y;exact absurd rfl e
    .exact .inl y
   .refine .inr ⟨c,?_⟩;by_cases f:(k == NameKind.free)=true
    .rw[BJ f,C_,show(x == n)=false from by simpa using e];exact z
    .rw[BH f];exact z
theorem CellsIn.clos{X:Cx}{base':Heap}{σ:St}{fr:List Str}{gs:List V}{names:List (Str×NameKind)}(h:CellsIn X base' σ)(hf:∀y∈names,y.2=NameKind.free->y.1∈fr)(hm:∀x∈fr,(x,NameKind.free)∈names)(hc:∀x∈fr,X.env.scope.names.lookup x=some .cell)(len:gs.length=fr.length)
  (hs:∀(i:Nat) (x:Str) (v:V),fr[i]?=some x->gs[i]?=some v->∃j:Nat,X.N[j]?=some x/\σ[j]?=some (some v)):ClosV base' (F5 X.env.cells names []) fr gs:=by
 have key:∀{x c},(F5 X.env.cells names []).lookup x=some c->x∈fr/\X.env.cells.lookup x=some c:=fun{x c} e=>by
  rcases At e with⟨z,y⟩ | z
  .have m:=hf _ z rfl;obtain⟨d,hd⟩:=h.has x (hc x m);rw[hd]at y;rw[hd,y];exact⟨m,rfl⟩
  .cases z
 refine⟨len,fun i x v h1 h2=>?_,fun x c e=>(key e).1,fun x y c e1 e2=>h.inj x y c (key e1).2 (key e2).2⟩;have m:=AM h1;obtain⟨c,e⟩:=Ao (cells:=X.env.cells) (cs:=[]) (.inl (hm x m));obtain⟨j,j1,j2⟩:=hs i x v h1 h2;obtain⟨u,r,ic⟩:=h.val j x v c j1 j2 (hc x m) (key e).2;exact⟨c,u,e,r,ic⟩
end
def FnHere(base:Heap)(H:Hp)(f:Addr):Prop:=PySem.W.FnAt f base\/∃φ,H f=some (.ext φ)/\∀h,φ h->PySem.W.FnAt f h
theorem FnHere.lam{base:Heap}{H:Hp}{f c:Addr}{q:Str}{ps:Arguments}{b:Expr}{sc:Scope}{cl:List (Str×Addr)}(h:H f=some (LamO f c q ps b sc cl)):FnHere base H f:=.inr ⟨_,h,fun h ⟨_,_,e⟩=>⟨_,_,_,_,e⟩⟩
theorem FnHere.def{K:PySem.W.Frag}{base:Heap}{H:Hp}{x qual:Str}{st:Stmt}{f:Addr}{fd:FuncData}(F:Fun K x qual st f fd)(k:K.In base):FnHere base H f:=by
 obtain⟨oc,od,kV,doc,pm,an,cdv,ct,osl,rfl,lk,_⟩:=F.ex;exact .inl ⟨_,_,_,_,k _ _ lk⟩
theorem FnHere.same{base:Heap}{H H':Hp}{f:Addr}(h:FnHere base H f)(s:Same H H'):FnHere base H' f:=h.imp id fun⟨φ,e,p⟩=>⟨φ,s _ _ e,p⟩
def Ii(base:Heap)(i:Nat)(f:Addr)(sp:Sp)(t:TA):TE:=fun σ H Q=>σ[i]?=some (some (.ref f))/\FnHere base H f/\t σ H fun vs H1=>FnHere base H1 f/\sp vs H1 Q E0
section
variable{X:Cx}{k:Nat}{f:Addr}{fd:FuncData}{ps:List Str}{sp:Sp}{x:Str}{e:Expr}{es:List Expr}{t:TA}{p pos:Pos}
theorem Inv.fnAt{pins:List (Addr×Obj)}{σ:St}{H:Hp}{s:Shared}(I:Inv X pins σ H s)(h:FnHere X.base H f):PySem.W.FnAt f s.heap:=by
 rcases h with⟨oc,od,fd,sl,e⟩ | ⟨φ,e,q⟩
 .exact⟨oc,od,fd,sl,I.bk _ _ e⟩
 .exact q _ (show ObjOk X.prog X.w H s.heap f (.ext φ)from I.hok f _ e).1
theorem Fb{i:Nat}(F:FnOk X.prog X.w X.K X.mg X.base CX0 k f fd ps sp)(hr:Room k X.A)(hb:Binds X.K fd ps [])
  (ha:PA X (e::es) t) (hN:X.N[i]?=some x:=by rfl) (hv:Vis X.env.scope x:=by first | exact Or.inl rfl | exact Or.inr (Or.inl rfl) | exact Or.inr (Or.inr rfl)) (hdb:(x ==("__debug__":Str))=false:=by decide) (hcd:(x ==("__classdict__":Str))=false:=by decide)
  (he:starEach (e::es) X.env =(false,eval e X.env)::starEach es X.env:=by rfl) (hpl:(backTo pos (starEach es X.env)).any (·.1)=false:=by rfl) :
  PE X (.Call (.Name x p) (e::es) [] pos) (Ii X.base i f sp t):=by
 intro pins s σ H Q I h;obtain⟨e1,fa,h⟩:=h;refine CA (thn (Gg (i:=i) (pos:=p) hN hv hdb hcd pins s σ H (fun v H'=>v = .ref f/\H'=H) I ⟨_,e1,rfl,rfl⟩) fun u s1 ⟨v,H1,I1,r1,e2,e3⟩=>?_);subst e2 e3;cases r1;refine PySem.W.callWith_F (I1.fnAt fa) (thn (ha pos pins s1 σ H1 _ I1 h) fun us s2 ⟨vs,H2,I2,r,fa2,q⟩=>⟨I2.fnAt fa2,?_⟩) he hpl;exact Gf F hr hb .nil Ep I2 r (by rw[CB];exact q)
end
theorem Fun.okC{P:Program}{w:World}{K:PySem.W.Frag}{mg:Str->Option Value}{base:Heap}{x qual:Str}{st:Stmt}{f:Addr}{fd:FuncData}{N ps:List Str}{k:Nat}{sp:Sp}(F:Fun K x qual st f fd)(S:FnScope N ps (B4 st))(len:∀vs H Q E,sp vs H Q E->vs.length=ps.length)
  (hbody:∀(cdv:Value) (A:Around) (outer:List Env) (s:Shared) (H:Hp) (vs:List V) (Q:VK) (E:XK),fd.code=cdv->Room k (A.deeper (envOfC qual (B4 st) s.heap.objs.size f cdv))->sp vs H Q E ->
   ∃t,PSs (Ho CX0 P w K mg base N qual (B4 st) f cdv A outer s H E).nox (J4 st) t/\t { nx:=fun _ H'=>Q .non H',rt:=Q } (f8 N vs) H):FnOk P w K mg base CX0 (k+1) f fd ps sp:=by
 obtain⟨oc,od,kV,doc,pm,an,cdv,ct,osl,rfl,lk,hcd⟩:=F.ex;refine Jt lk hcd S len fun A outer s H vs Q E hr hsp=>?_;obtain⟨t,h,q⟩:=hbody cdv A outer s H vs Q E rfl hr hsp;exact⟨t,h.nox,q⟩
theorem Bv{P:Program}{w:World}{K:PySem.W.Frag}{mg mb:Str->Option Value}{k:Nat}{fa a:Addr}{fd:FuncData}{x:Str}{sp:Sp}{s₁:Shared}{vs:List Value}{ns:List Int}{ts:List Addr}
  (hts:∀p∈ts,s₁.heap.get? p=some (PySem.W.tabObj #[])) (hct:∀p∈ts,isCodeTable s₁.heap p) (hbm:∀p∈ts,s₁.heap.BuiltinsAt mg p) (hkt:∀p∈ts,K.lookup p=none)
  (KX:K.In s₁.heap) (hns:s₁.heap.Ns mainGlobals mg) (hb:s₁.heap.Ns builtinsNs mb) (hbb:∀x:Str,x≠ "__name__"->mb x=bootBuiltins x) (hlim:s₁.heap.NoLimit) (hg:s₁.gens = #[])
  (ha:s₁.heap.get? a=some { cls:=.type "list",data:=.seq vs.toArray }) (hi:IntsAre vs ns) (hl:ns.length<=sizeLine) (hr:Room k callerA)
  (F:∀base:Heap,K.In base->base.Ns mainGlobals mg->(∀p∈ts,base.BuiltinsAt mg p)->FnOk P w K mg base CX0 k fa fd [x] sp) (hbind:∀(s:Shared) (u:Value),BindsTo s fd ⟨[u],[]⟩ [(x,u)])
  (hsp:∀H:Hp,(∀p∈ts,H p=some (.tbl #[]))->SqL K H a (ns.map V.int)->sp [.ref a] H (fun v _=>v = .bl true) fun _ _ _=>False) :
  codeAny (model P w) callerA (.call (.ref fa) ⟨[.ref a],[]⟩) (fun r s'=>r = .ok (.ret (.bool true))/\OldK s₁.heap s'.heap/\s'.os=s₁.os/\AllBare s'.gens) s₁:=by
 have rv:=o8 hi;have nat:a∉ts:=fun z=>by
  have:=hts a z;rw[ha]at this;cases this
 obtain⟨H,hT,hS,hO,ok,hK⟩:∃H:Hp,(∀p∈ts,H p=some (.tbl #[]))/\SqL K H a (ns.map V.int)/\(∀b o,H b=some o->(b∈ts/\o = .tbl #[])\/(b=a/\∃ob xs,o = .frz ob (.lst xs)))/\HOk P w H s₁.heap/\∀b,H b≠none->K.lookup b=none:=by
  cases hk:K.lookup a with
  | some o =>
   have e:=KX a o hk;rw[ha]at e;cases e;refine⟨fun b=>if b∈ts then some (.tbl #[])else none,fun p hp=>BJ hp,.inr ⟨_,vs.toArray,_,hk,rfl,rfl,rfl,by rw[AI,hi.length];exact hl,by simpa using rv⟩,fun b o e=>?_,fun b o e=>?_,fun b e=>?_⟩
   .dsimp only at e;by_cases c:b∈ts
    .rw[BJ c]at e;cases e;exact .inl ⟨c,rfl⟩
    .rw[BH c]at e;cases e
   .dsimp only at e;by_cases c:b∈ts
    .rw[BJ c]at e;cases e;exact hts b c
    .rw[BH c]at e;cases e
   .by_cases c:b∈ts
    .exact hkt b c
    .exact absurd (BH c) e
  | none =>
   refine⟨fun b=>if b=a then some (.frz { cls:=.type "list",data:=.seq vs.toArray } (.lst (ns.map V.int)))else if b∈ts then some (.tbl #[])else none,fun p hp=>?_,.inl (.inr ⟨{ cls:=.type "list",data:=.seq vs.toArray },BJ rfl⟩),fun b o e=>?_,fun b o e=>?_,fun b e=>?_⟩
   .show(if p=a then _ else if p∈ts then _ else _)=_;have np:p≠a:=fun z=>nat (z▸hp);rw[BH np,BJ hp]
   .dsimp only at e;by_cases d:b=a
    .rw[BJ d]at e;cases e;exact .inr ⟨d,_,_,rfl⟩
    .rw[BH d]at e;by_cases c:b∈ts
     .rw[BJ c]at e;cases e;exact .inl ⟨c,rfl⟩
     .rw[BH c]at e;cases e
   .dsimp only at e;by_cases d:b=a
    .rw[BJ d]at e;cases e;subst d;exact⟨ha,by rw[AA];exact hl,vs,_,rv,ha⟩
    .rw[BH d]at e;by_cases c:b∈ts
     .rw[BJ c]at e;cases e;exact hts b c
     .rw[BH c]at e;cases e
   .by_cases d:b=a
    .rw[d];exact hk
    .by_cases c:b∈ts
     .exact hkt b c
     .exact absurd ((BH d).trans (BH c)) e
 have nod:∀{b:Addr} {o:Obj} {es:Array DictEntry} {ep:Nat},s₁.heap.get? b=some o->o.data = .dict es ep->H b=none:=fun{b o es ep} e d=>by
  cases q:H b with
  | none=>rfl
  | some u =>
   rcases hO b u q with⟨z,_⟩ | ⟨z,_⟩
   .rw[hts b z]at e;cases e;cases d
   .rw[z,ha]at e;cases e;cases d
 have nsK:∀{b:Addr} {m:Str->Option Value},s₁.heap.Ns b m->(Eg s₁.heap H).Ns b m:=fun{b m} ⟨o,es,ep,e,d,r⟩=>⟨o,es,ep,V0 e (nod e d),d,r⟩;have hBb:∀p∈ts,(Eg s₁.heap H).BuiltinsAt mg p:=fun p hp=>by
  obtain⟨bm,o,h1,h2,h3,h4,h5,h6,h7,h8⟩:=hbm p hp;refine⟨bm,o,h1,h2,h3,h4,V0 h5 ?_,h6,h7,h8⟩;cases q:H bm with
  | none=>rfl
  | some u =>
   rcases hO bm u q with⟨z,_⟩ | ⟨z,_⟩
   .rw[hts bm z]at h5;cases h5;cases h8
   .rw[z,ha]at h5;cases h5;cases h8
 have hKb:K.In (Eg s₁.heap H):=fun b o e=>V0 (KX b o e) (by
  cases q:H b with
  | none=>rfl
  | some u=>rw[hK b (by rw[q];simp)]at e;cases e)
 have hM:Mod K mg (Eg s₁.heap H):=⟨hKb,nsK hns,⟨mb,nsK hb,hbb⟩,let⟨mc,h1,h2⟩:=hlim;⟨mc,nsK h1,h2⟩⟩;have e0:Env0 P w K mg (Eg s₁.heap H) callerA [] s₁ H:=⟨rfl,hM,fun b o e=>Dm e,Nat.le_of_eq (p4 _ _),trivial,fun b hb=>absurd (show b∈([]:List Addr)from hb) (by simp),ok,.of_eq hg⟩;refine CM ((F _ hKb (nsK hns) hBb).run callerA [] s₁ H ⟨[.ref a],[]⟩ [.ref a] [.ref a] _ _ hr e0 (hbind s₁ (.ref a)) (.cons rfl .nil) (hsp H hT hS)) fun r s' h=>?_;cases r with
 | error e=>exact h.elim
 | ok fl =>
  cases fl with
  | next=>exact False.elim h
  | brk=>exact False.elim h
  | cont=>exact False.elim h
  | ret u =>
   obtain⟨v,H',os,bare,un,ok',r',q⟩:=h;have q':v = .bl true:=q;subst q';obtain rfl:u=Value.bool true:=r';refine⟨rfl,⟨fun b o e=>?_,fun b o e=>un.there b o e (by simp)⟩,os,bare⟩;cases q:H b with
   | none=>exact .inl (un.keep b o e q (fun z=>absurd (show b∈([]:List Addr)from z) (by simp)) (by simp))
   | some u =>
    rcases hO b u q with⟨z,rfl⟩ | ⟨_,ob,xs,rfl⟩
    .obtain⟨more,em⟩:=un.tbls b _ q;have e2:s'.heap.get? b=some { cls:=.none,data:=.fields (#[]++more) }:=ok' b _ em;rw[hts b z]at e;cases e;exact .inr (.inl ⟨hct b z,rfl,#[],more,rfl,e2⟩)
    .obtain⟨e1,_⟩:=ok b _ q;obtain⟨e2,_⟩:=ok' b _ (un.frzs b ob _ q);rw[e]at e1;cases e1;exact .inl e2
theorem walk_ofT{l:PySem.W.OpenLaw}{n k:Nat}{q:Program}{loose:List Str}{XP:(Str->Option Value)->Heap->Prop}{YP:World->Heap->Prop}{d:DefRec}{K:Params->PySem.W.Frag}{sp:World->Sp}{x:Str}{ts:List Addr}
  (hn:l.most=some n) (hn2:n<=sizeLine) (hdf:d.params.defaults = []) (hr:Room k callerA) (hY:∀(w:World) (h:Heap),YP w h->(K w.params).In h) (hYt:∀(w:World) (h:Heap),YP w h->∀p∈ts,h.get? p=some (PySem.W.tabObj #[]))
  (F:∀(w:World) (mg:Str->Option Value) (fa:Addr) (h:Heap),(K w.params).In h->h.Ns mainGlobals mg->mg d.name=some (.ref fa) ->
   (∀p∈ts,isCodeTable h p)/\(∀p∈ts,(K w.params).lookup p=none)/\∃fd:FuncData,(∀(s:Shared) (u:Value),BindsTo s fd ⟨[u],[]⟩ [(x,u)]) /\
    ∀base:Heap,(K w.params).In base->base.Ns mainGlobals mg->(∀p∈ts,base.BuiltinsAt mg p)->FnOk l.prog w (K w.params) mg base CX0 k fa fd [x] (sp w))
  (hsp:∀(w:World) (H:Hp) (a:Addr) (ns:List Int),ns.length<=n->(∀p∈ts,H p=some (.tbl #[]))->SqL (K w.params) H a (ns.map V.int)->sp w [.ref a] H (fun v _=>v = .bl true) fun _ _ _=>False) :
  PySem.W.WalkO q loose XP YP l.row.toRowW d [] (fun f vs=>PySem.call f vs):=by
 refine Att.attach_call hn hdf fun w s₀ s₁ mg mb fa o pm cd doc a vs ns G Y ho hd hcd hmg hobj hints hlen hg=>?_;have KX:=hY w _ Y;obtain⟨h1,h2,fd,hb,hF⟩:=F w mg fa _ KX G.T.g hmg;have hbm:∀p∈ts,s₁.heap.BuiltinsAt mg p:=fun p hp=>by
  obtain⟨bm,o,b1,b2,b3,b4,b5,b6⟩:=G.T.bmain;refine⟨bm,o,b1,b2,fun z=>?_,fun z=>?_,b3,b4,b5,b6⟩
  .obtain⟨o',es,ep,e1,e2,_⟩:=G.T.g;rw[<-z,b3]at e1;cases e1;rw[b6]at e2;cases e2
  .have:=hYt w _ Y p hp;rw[<-z,b3]at this;cases this;cases b6
 exact Bv (hYt w _ Y) h1 hbm h2 KX G.T.g G.T.b G.T.builtins G.T.nolimit hg hobj hints (BK hlen hn2) hr hF hb fun H hO hS=>hsp w H a ns hlen hO hS
section
variable{X:Cx}
theorem Hm(w:World)(hw:X.w=w:=by rfl):J0 X (.builtin "len") (fun xs H Q=>∃(a:Addr) (ss:List Str),xs = [V.ref a]/\H a=some (Ig w a ss)/\Q (.int ss.length) H):=by
 subst hw;intro pins s σ H xs us Q I r h;obtain⟨a,ss,rfl,ha,q⟩:=h;obtain⟨u,rfl,ru⟩:=X9 r;cases ru;obtain⟨o,es,ep,t,S,T⟩:=I.setw ha;have el:es.size=ss.length:=by
  have:=T.pm.length_eq;rw[AA]at this;rw[<-BP];exact this
 refine call_len_set S.ho S.ex S.hd S.ft (by have:=S.few;omega) ?_;exact⟨.int ss.length,H,I.tok _,⟨_,by rw[el]⟩,q⟩
end
def Mv(v:V)(x:Str):Prop:=(v = .str x/\x.length<=sizeLine)\/∃i:Int,v = .int i/\i.natAbs.log2<1920/\x=Str.ofString (toString i)
def Ml(t:TE):TE:=fun σ H Q=>t σ H fun v H'=>∃x,Mv v x/\Q (.str x) H'
def tJn(t:TE)(u:Str->TE):Str->TE:=fun acc σ H Q=>t σ H fun v H1=>∃y,v = .str y/\(acc++y).length<=sizeLine/\u (acc++y) σ H1 Q
def tJ0:Str->TE:=fun acc _ H Q=>Q (.str acc) H
section
variable{X:Cx}
theorem Y3{e:Expr}{t:TE}{pos:Pos}(h:PE X e t):PE X (.FormattedValue e (-1) none pos) (Ml t):=by
 intro pins s σ H Q I hq;refine wpAny_FormattedValue_plain (thn (h pins s σ H _ I hq) fun u s1 ⟨v,H1,I1,r,x,ex,q⟩=>?_);rcases ex with⟨rfl,hl⟩ | ⟨i,rfl,hs,rfl⟩
 .obtain⟨t',rfl⟩:=(show ∃t,u=Value.str x t from r);exact formatField_str (fun t k=>⟨.str x,H1,I1.tok _,⟨_,rfl⟩,q⟩) hl
 .obtain⟨t',rfl⟩:=(show ∃t,u=Value.int i t from r);exact formatField_int_small hs ⟨.str _,H1,I1.tok _,⟨_,rfl⟩,q⟩
def PJ(X:Cx)(es:List Expr)(t:Str->TE):Prop:=∀(pins:List (Addr×Obj)) (s:Shared) (σ:St) (H:Hp) (acc:Str) (Q:VK),Inv X pins σ H s->acc.length<=sizeLine->t acc σ H Q ->
 Joins (model X.prog X.w) X.A X.xe (evalEach es X.env) acc (fun out s1=>out.length<=sizeLine/\∃H',Inv X pins σ H' s1/\Q (.str out) H') s
theorem Ct:PJ X [] tJ0:=fun pins s σ H acc Q I hl h=>⟨hl,H,I,h⟩
theorem F4{e:Expr}{es:List Expr}{t:TE}{u:Str->TE}(h:PE X e t)(r:PJ X es u):PJ X (e::es) (tJn t u):=fun pins s σ H acc Q I hl hq =>
 thn (h pins s σ H _ I hq) fun w s1 ⟨v,H1,I1,rv,y,ev,ly,q⟩=>by
  subst ev;obtain⟨t',rfl⟩:=(show ∃t,w=Value.str y t from rv);exact⟨y,t',rfl,ly,r pins s1 σ H1 _ Q I1 ly q⟩
theorem y6{e1 e2:Expr}{es:List Expr}{t:Str->TE}{pos:Pos}(h:PJ X (e1::e2::es) t):PE X (.JoinedStr (e1::e2::es) pos) (t Str.empty):=by
 intro pins s σ H Q I hq;have:=h pins s σ H Str.empty Q I (BI _) hq;refine wpAny_JoinedStr ?_;revert this;have mono:∀(l:List (Sem Value)) (acc:Str) (P P':Str->Shared->Prop) (s:Shared),(∀o s,P o s->P' o s)->Joins (model X.prog X.w) X.A X.xe l acc P s->Joins (model X.prog X.w) X.A X.xe l acc P' s:=by
  intro l
  induction l with
  | nil=>intro acc P P' s hp h;exact hp _ _ h
  | cons m r ih =>
   intro acc P P' s hp h;exact thn h fun w s1 ⟨y,t,e,ly,q⟩=>⟨y,t,e,ly,ih _ _ _ _ hp q⟩
 exact mono _ _ _ _ _ fun o s1 ⟨ho,H',I',q⟩=>⟨ho,.str o,H',I'.tok _,⟨_,rfl⟩,q⟩
end
end L2
namespace Sw
open PySem L2
def top(i:Nat):Stmt:=PySem.Challenge.pw_strikeweave_k72_weaves_written.main.body.getD i (.Pass ⟨0,0,0,0⟩)
abbrev s_is_number:Stmt:=top 4
abbrev s_is_listed:Stmt:=top 5
abbrev s_is_row_of:Stmt:=top 6
abbrev s_is_name:Stmt:=top 10
abbrev s_check_part:Stmt:=top 15
abbrev s_begins_of:Stmt:=top 16
abbrev s_names_of:Stmt:=top 17
abbrev s_fits_people:Stmt:=top 18
abbrev s_fits_sayings:Stmt:=top 19
abbrev s_fits_strikes:Stmt:=top 20
abbrev s_fits_backs:Stmt:=top 21
abbrev s_is_fresh:Stmt:=top 22
abbrev s_is_rank:Stmt:=top 23
abbrev s_are_speakers:Stmt:=top 24
abbrev s_text_of:Stmt:=top 26
abbrev s_law_mix:Stmt:=top 28
abbrev s_law_left:Stmt:=top 29
abbrev s_law_pick:Stmt:=top 30
abbrev s_law_any_name:Stmt:=top 31
abbrev s_law_spelled:Stmt:=top 32
abbrev s_law_many_names:Stmt:=top 33
abbrev s_law_people:Stmt:=top 34
abbrev s_law_speakers:Stmt:=top 35
abbrev s_law_sizes:Stmt:=top 36
abbrev s_law_weave_rows:Stmt:=top 37
abbrev s_law_text_rows:Stmt:=top 38
abbrev s_law:Stmt:=top 39
abbrev s_Weave___init__:Stmt:=Hz (top 14) 0
def w6:Str:=("Weave.__init__":Str) ++ ".<locals>." ++ "<lambda>"
def P5:List (Pos×Str):=[(⟨30,39,30,90⟩,w6),(⟨32,39,32,98⟩,w6),(⟨33,35,33,85⟩,w6)]
structure Tx(K:PySem.W.Frag)(mg:Str->Option Value) where
 aB:Fn K mg "is_number" s_is_number ["thing"]
 ay:Fn K mg "is_listed" s_is_listed ["thing"]
 aj:Fn K mg "is_row_of" s_is_row_of ["thing", "many"]
 aI:Fn K mg "is_name" s_is_name ["thing"]
 ah:Fn K mg "check_part" s_check_part ["part", "rows", "fits"]
 aC:Fn K mg "begins_of" s_begins_of ["rows"]
 ae:Fn K mg "names_of" s_names_of ["rows"]
 ad:Fn K mg "fits_people" s_fits_people ["ahead", "row"]
 ar:Fn K mg "fits_sayings" s_fits_sayings ["people", "ahead", "row"]
 as:Fn K mg "fits_strikes" s_fits_strikes ["sayings", "goals", "ahead", "row"]
 az:Fn K mg "fits_backs" s_fits_backs ["sayings", "ahead", "row"]
 au:Fn K mg "is_fresh" s_is_fresh ["taken", "thing"]
 aJ:Fn K mg "is_rank" s_is_rank ["thing"]
 av:Fn K mg "are_speakers" s_are_speakers ["names", "thing"]
 ap:Fn K mg "text_of" s_text_of ["weave"]
 aE:Fn K mg "_law_mix" s_law_mix ["_law_cell", "_law_k"]
 aF:Fn K mg "_law_left" s_law_left ["_law_script", "_law_k"]
 ab:Fn K mg "_law_pick" s_law_pick ["_law_left_here", "_law_many"]
 aw:Fn K mg "_law_any_name" s_law_any_name ["_law_left_here"]
 an:Fn K mg "_law_spelled" s_law_spelled ["_law_left_here", "_law_names"]
 ak:Fn K mg "_law_many_names" s_law_many_names ["_law_left_here", "_law_many"]
 aA:Fn K mg "_law_people" s_law_people ["_law_left_here", "_law_many"]
 ax:Fn K mg "_law_speakers" s_law_speakers ["_law_left_here", "_law_people_here"]
 aD:Fn K mg "_law_sizes" s_law_sizes ["_law_left_here", "_law_most"]
 al:Fn K mg "_law_weave_rows" s_law_weave_rows ["_law_left_here", "_law_most"]
 ao:Fn K mg "_law_text_rows" s_law_text_rows ["_law_told"]
 aa:Addr
 am:Cls K aa
 aT:mg "Weave" = some (.ref aa)
 aM:NoAttr K aa "people"
 aK:NoAttr K aa "sayings"
 aL:NoAttr K aa "strikes"
 aN:NoAttr K aa "backs"
 aQ:Addr
 aP:FuncData
 aR:Fun K "__init__" "Weave.__init__" s_Weave___init__ aQ aP
 aH:Binds K aP ["self", "people", "sayings", "strikes", "backs"] []
 aU:Mk K aa aQ
 a9:Addr
 ac:Addr
 aG:TabAt K mg a9 ac
 aO:aP.code = .ref a9
 a3:∃t,mg "LETTERS" = some (.str "abcdefghijklmnopqrstuvwxyz" t)
 aX:∃t,mg "LONGEST_NAME" = some (.int 8 t)
 ba:Addr
 a4:mg "KINDS" = some (.ref ba)
 a5:GTup K ba ["fact", "claim"]
 aV:∃t,mg "GREATEST_RANK" = some (.int 9 t)
 ai:mg "len" = none
 aq:mg "range" = none
 aY:mg "enumerate" = none
 a7:mg "min" = none
 aZ:mg "max" = none
 a0:mg "abs" = none
 a1:mg "int" = none
 aS:mg "str" = none
 a6:mg "bool" = none
 af:mg "list" = none
 aW:mg "tuple" = none
 a8:mg "set" = none
 ag:mg "isinstance" = none
 a2:mg "all" = none
 bb:mg "ValueError" = none
end Sw
namespace L2
open PySem
theorem fsc{N ps:List Str}{sc:Scope}(h1:sc.kind = .function:=by rfl)(h2:sc.isCoroutine=false:=by rfl)(h3:sc.isGenerator=false:=by rfl)(h4:N.Nodup:=by decide +kernel)(h5:N.take ps.length=ps:=by rfl)(h6:∀x∈ps,sc.names.lookup x=some .local\/sc.names.lookup x=some .cell:=by decide +kernel)(h7:∀y∈sc.names,y.2≠ .free:=by decide +kernel):FnScope N ps sc:=⟨h1,h2,h3,h4,h5,h6,h7⟩
theorem Rm{j k:Nat}{A:Around}(h:Room k A)(e:j<=k:=by decide):Room j A:=h.mono e
theorem y0{J:It}{xs:List V}{a:Addr}{H0:Hp}(as:AsSeq J xs a H0){g:TG}{tb:TS}{D:Ends}{σ:St}{H:Hp}(Pv:Nat->St->Hp->Prop)(h0:Pv 0 σ H)(hk:∀i σ H,i<=xs.length->Pv i σ H->KeepAt a H0 H)
  (hs:∀i σ H x,xs[i]?=some x->Pv i σ H->∀D':Ends,(∀σ' H',Pv (i+1) σ' H'->D'.nx σ' H')->D'.rt=D.rt->g x σ H fun σ2 H2=>tb D' σ2 H2) (hd:∀σ H,Pv xs.length σ H->D.nx σ H) :
  ∃W:Nat->Nat->St->Hp->Prop,(∃m,W 0 m σ H)/\∀i m σ H,W i m σ H ->
   (J.stop i H/\D.nx σ H)\/(J.go i H/\∃N:St->Hp->Prop,(∀σ' H',N σ' H'->∃m',m' < m/\W (i+1) m' σ' H')/\∀x H',J.yld i H x H'->g x σ H' fun σ2 H2=>tb { D with nx:=N,ct:=N,bk:=D.nx } σ2 H2) :=
 Jw as Pv h0 hk (fun i σ H x hx hp=>hs i σ H x hx hp _ (fun _ _ z=>z) rfl) hd
theorem O6{lo:Int}{n:Nat}{g:TG}{tb:TS}{D:Ends}{σ:St}{H:Hp}(Pv:Nat->St->Hp->Prop)(h0:Pv 0 σ H)
  (hs:∀i σ H,i<n->Pv i σ H->∀D':Ends,(∀σ' H',Pv (i+1) σ' H'->D'.nx σ' H')->D'.rt=D.rt->g (.int (lo+i)) σ H fun σ2 H2=>tb D' σ2 H2) (hd:∀σ H,Pv n σ H->D.nx σ H) :
  ∃W:Nat->Nat->St->Hp->Prop,(∃m,W 0 m σ H)/\∀i m σ H,W i m σ H ->
   ((Itr lo n).stop i H/\D.nx σ H)\/((Itr lo n).go i H/\∃N:St->Hp->Prop,(∀σ' H',N σ' H'->∃m',m' < m/\W (i+1) m' σ' H')/\∀x H',(Itr lo n).yld i H x H'->g x σ H' fun σ2 H2=>tb { D with nx:=N,ct:=N,bk:=D.nx } σ2 H2) :=
 Ci Pv h0 (fun i σ H hi hp=>hs i σ H hi hp _ (fun _ _ z=>z) rfl) hd
theorem ex1{α:Type}{A C:α->Prop}{a:α}(e:A a)(h:C a):∃v,A v/\C v:=⟨a,e,h⟩
theorem J1{α0 α1 α2:Type}{A0 A1 A2 A3 A4 A5:α0->α1->α2->Prop}{a:α0}{b:α1}{c:α2}(h0:A0 a b c)(h1:A1 a b c)(h2:A2 a b c)(h3:A3 a b c)(h4:A4 a b c)(h5:A5 a b c):∃a b c,A0 a b c/\A1 a b c/\A2 a b c/\A3 a b c/\A4 a b c/\A5 a b c:=⟨a,b,c,h0,h1,h2,h3,h4,h5⟩
theorem B8{α0 α1:Type}{A0 A1 A2:α0->α1->Prop}{a:α0}{b:α1}(h0:A0 a b)(h1:A1 a b)(h2:A2 a b):∃a b,A0 a b/\A1 a b/\A2 a b:=⟨a,b,h0,h1,h2⟩
theorem B6{t u:TS}{D:Ends}{σ:St}{H:Hp}(h:∀N:St->Hp->Prop,(∀σ' H',u D σ' H'->N σ' H')->t { D with nx:=N } σ H):Kk t u D σ H:=h _ fun _ _ z=>z
theorem Hh{i:Nat}{v:V}{t u:TS}{D:Ends}{σ:St}{H:Hp}(h:∀N:St->Hp->Prop,(∀σ' H',u D σ' H'->N σ' H')->t { D with nx:=N } (σ.set i (some v)) H):i9 i v σ H (fun σ2 H2=>Kk t u D σ2 H2):=h _ fun _ _ z=>z
end L2
namespace Sw
open PySem L2
section
variable{P:Program}{w:World}{K:PySem.W.Frag}{mg:Str->Option Value}{base:Heap}
def Db(c:Nat):Bool:=decide (97<=c)&&decide (c<=122)
def E6(x:Str):Bool:=decide (1<=x.length)&&decide (x.length<=8)&&x.cps.toList.all Db
theorem Z0:("abcdefghijklmnopqrstuvwxyz":Str).cps.toList=List.range' 97 26:=by decide +kernel
theorem Hr(c:Nat):decide (c∈("abcdefghijklmnopqrstuvwxyz":Str).cps.toList)=Db c:=by
 rw[Z0];unfold Db;by_cases h1:97<=c
 .by_cases h2:c<=122
  .rw[AJ (List.mem_range'_1.mpr (by omega)),AJ h1,AJ h2];rfl
  .rw[AU (fun z=>by have:=List.mem_range'_1.mp z;omega),AU h2,Bool.and_false]
 .rw[AU (fun z=>by have:=List.mem_range'_1.mp z;omega),AU h1,CV]
theorem Bq:FnScope ["thing"] ["thing"] (B4 s_is_name):=fsc
def Ba:Sp:=fun vs H Q _=>∃x,vs = [.str x]/\x.length<=1000/\∀H',Same H H'->Q (.bl (E6 x)) H'
theorem Bg(T:Tx K mg):FnOk P w K mg base CX0 1 T.aI.f T.aI.fd ["thing"] Ba:=by
 refine T.aI.F.ok Bq (fun vs H Q E h=>?_) (fun cdv A outer s H vs Q E hr h=>?_)
 .obtain⟨x,rfl,_⟩:=h;rfl
 .obtain⟨x,rfl,hx,k⟩:=h;refine⟨_,(B2 (O8 (PW.pt (Az (R1 (Q9 (F9 (Y9 K) T.ag E1 (A7 (pv 0) (A7 (w5 T.aS Cc) A9))))) (j7 (R1 (Fq Eo Eo B1 (F9 u8 T.ai J3 (A7 (pv 0) A9)) (Kc T.aX)))))) (B7 (C4 x4)) E5)
   (B7 (C4 (F9 (Ft K) T.a2 Fw (A7 (Q0 (N':=["letter"]) (cap:=[none]) (cl:=[]) (K1 trivial trivial) rfl (Iu (pv 0)) (fun _ _ _ _=>by exact⟨(pgC 0),D8,(F7 Dk (pv 0) (Km T.a3) rfl)⟩)) A9))))),?_⟩
  have h64:x.length<=sizeLine:=by rw[sizeLine_eq];omega
  have hlen:x.cps.size=x.length:=rfl;refine ex1 rfl ⟨.str x, "str",_,true,rfl,.str x,rfl,ex1 rfl ?_⟩;refine Ad ?_;refine ex1 rfl ⟨x,rfl,h64,B8 rfl rfl (ex1 rfl ?_)⟩;refine x2 (fun c1=>?_) (fun c1=>?_)
  .have c1:(1:Int)<=(x.length:Int):=BW c1;refine B8 rfl rfl (ex1 rfl ?_);by_cases c2:(x.length:Int)<=8
   .rw[AJ c2];refine Ad ?_;refine ex1 rfl ⟨x,rfl,fun D hD=>?_⟩;refine p6 (n:=x.cps.size) (fun i σ H'=>(∃v,σ = [v])/\Same H H'/\H' D=some (.lst ((x.cps.toList.take i).map fun c=>V.bl (Db c)))) ⟨⟨_,rfl⟩,Same.new hD,A8⟩ (fun i _ _ hi _=>hi) (fun _ _ _=>rfl) ?_ ?_
    .rintro i σ H1 v H' N hi ⟨⟨v0,rfl⟩,s1,e1⟩ ⟨rfl,c,hc,rfl⟩ hN;refine o5 ?_;refine ex1 rfl (B8 rfl rfl ⟨_,e1,?_,?_⟩)
     .rw[AA,AW,sizeLine_eq];omega
     .rw[PySem.StrLaws.found_one,Hr];refine hN _ _ ⟨⟨_,rfl⟩,s1.upd hD,?_⟩;rw[A8];have:x.cps.toList[i]?=some c:=by rw[Array.getElem?_toList];exact hc
      rw[List.take_add_one,this,AK];rfl
    .rintro σ H1 ⟨_,s1,e1⟩;refine⟨D,x.cps.toList.map Db,rfl,SqL.of ?_,?_⟩
     .rw[e1,<-BP,BT,AX];rfl
     .have e:(x.cps.toList.map Db).all id=E6 x:=by
       unfold E6;rw[AJ (show 1<=x.length by omega),AJ (show x.length<=8 by omega),List.all_map];rfl
      rw[e];exact k _ s1
   .rw[AU c2];refine U0 ?_;have e:E6 x=false:=by
     unfold E6;rw[AU (show ¬x.length<=8 by omega),Bool.and_false,CV]
    have:=k H (Same.refl H);rw[e]at this;exact this
  .have c1:¬(1:Int)<=(x.length:Int):=fun z=>c1 (AJ z);refine ex1 rfl ?_;refine U0 ?_;have e:E6 x=false:=by
    unfold E6;rw[AU (show ¬1<=x.length by omega),CV,CV]
   have:=k H (Same.refl H);rw[e]at this;exact this
theorem I0{α:Type}{l:List α}{i:Nat}{x:α}(h:l[i]?=some x):l.take (i+1)=l.take i ++ [x]:=by
 rw[List.take_add_one,h];rfl
theorem O3{α:Type}{l:List α}{i:Nat}{x:α}(nd:l.Nodup)(h:l[i]?=some x):x∉l.take i:=by
 intro hm;obtain⟨j,hj,e⟩:=List.getElem_of_mem hm;have hj':j<i:=by rw[AW]at hj;omega
 rw[List.getElem_take]at e;obtain⟨hi,e'⟩:=AR.mp h;have:=(List.getElem_inj nd).mp (e.trans e'.symm);omega
def O1(ss:List Str):Prop:=(∀x∈ss,E6 x=true)/\ss.Nodup/\ss.length<=100
theorem Q2{x:Str}(h:E6 x=true):1<=x.length/\x.length<=8:=by
 unfold E6 at h;rw[BO,BO]at h;exact⟨BW h.1.1,BW h.1.2⟩
end
theorem r8(ss:List Str):(ss.map V.str).all i8=true:=by
 rw[B_];intro v hv;obtain⟨x,_,rfl⟩:=A_.mp hv;rfl
theorem Bx(x:Str)(ss:List Str):inV (.str x) (ss.map V.str)=decide (x∈ss):=by
 unfold inV;rw[List.any_map]
 induction ss with
 | nil=>rfl
 | cons y r ih =>
  rw[List.any_cons,ih];show((y == x)||decide (x∈r))=decide (x∈y::r);by_cases e:x=y
  .subst e;simp
  .have:(y == x)=false:=by simpa using fun z=>e z.symm
   rw[this,Bool.false_or];by_cases h:x∈r
   .rw[AJ h,AJ (AV _ h)]
   .rw[AU h,AU (fun z=>(AY.mp z).elim e h)]
theorem P8{K:PySem.W.Frag}{H:Hp}{p:Addr}{x:Str}{ss:List Str}{Q:VK}(h:Sqs K H p (ss.map V.str))(q:Q (.bl (decide (x∈ss))) H):rIn K false (.str x) (.ref p) H Q :=
 ⟨p,_,rfl,h,rfl,r8 ss,by rw[BH (by decide),Bx];exact q⟩
theorem a8{K:PySem.W.Frag}{H:Hp}{p:Addr}{x:Str}{ss:List Str}{Q:VK}(h:Sqs K H p (ss.map V.str))(q:Q (.bl (!decide (x∈ss))) H):rIn K true (.str x) (.ref p) H Q :=
 ⟨p,_,rfl,h,rfl,r8 ss,by rw[BJ rfl,Bx];exact q⟩
theorem El{α:Type}{J:It}{ys:List α}{r:α->V}(f:α->V){a D:Addr}{H:Hp}(as:AsSeq J (ys.map r) a H){tc:TT}{te:TE}{c:St}{v0:Option V}{Q:St->Hp->Prop}(p:α->Bool)(len:ys.length<=5000)(hD:H D=none)
  (ht:∀y∈ys,∀G,Same H G->∀M:Bool->Hp->Prop,(∀G',Same G G'->M (p y) G')->tc (some (r y)::c) G M) (he:∀y∈ys,∀G,Same H G->∀M:VK,(∀G',Same G G'->M (f y) G')->te (some (r y)::c) G M)
  (q:∀σ G,Same H G->G D=some (.lst ((ys.filter p).map f))->Q σ G):Hu (i9 0) tc (Cu D te) J (v0::c) (upd H D (.lst [])) Q:=by
 refine Y4 as (fun i σ G=>(∃v,σ=v::c)/\Same H G/\G D=some (.lst (((ys.take i).filter p).map f))) ⟨⟨_,rfl⟩,Same.new hD,A8⟩ (fun i σ G _ h=>h.2.1.at a) ?_ ?_
 .rintro i σ G v N hx ⟨⟨v0,rfl⟩,sG,eG⟩ hN;rw[AG]at hx;obtain⟨y,hy,rfl⟩:=BC.mp hx;have my:=AM hy;refine ht y my G sG _ fun G' s'=>?_;have eG:=s' _ _ eG;have sG:=sG.trans s';have hs:(ys.take (i+1)).filter p =(ys.take i).filter p++if p y=true then [y]else []:=by
   rw[I0 hy,List.filter_append,List.filter_cons,List.filter_nil]
  have hl:=List.length_filter_le p (ys.take i);rw[AW]at hl;refine x2 (fun c=>he y my G' sG _ fun G2 s2=>⟨_,s2 _ _ eG,by rw[AA,sizeLine_eq];omega,hN _ _ ⟨⟨_,rfl⟩,(sG.trans s2).upd hD,?_⟩⟩) (fun c=>hN _ _ ⟨⟨_,rfl⟩,sG,?_⟩)
  .rw[A8,hs,BJ c,AK];rfl
  .rw[hs,BH c,CB];exact eG
 .rintro σ G ⟨_,sG,eG⟩;rw[AA,BT]at eG;exact q σ G sG eG
def tyB(b:Bool):Value:=.type (bif b then "list" else "tuple")
theorem Ks{K:PySem.W.Frag}:∀b,PySem.W.kitAny K (tyB b) (["list", "tuple"].map Value.type)=some true
 | true=>rfl
 | false=>rfl
def LT(b:Bool)(xs:List V):HO:=bif b then .lst xs else .tup xs
theorem Kw{K:PySem.W.Frag}{H:Hp}{l:Addr}{xs:List V}:∀{b:Bool},H l=some (LT b xs)->TyOf K H (.ref l) (tyB b)
 | true,h=>.lst h
 | false,h=>.tup h
theorem Lc{H:Hp}{l:Addr}{xs:List V}:∀{b:Bool},H l=some (LT b xs)->H l=some (.lst xs)\/H l=some (.tup xs)
 | true,h=>.inl h
 | false,h=>.inr h
def Kt(K:PySem.W.Frag):List V->Hp->VK->Prop:=fun xs H Q=>Gk K xs H Q\/∃(x:V) (p:Addr) (ns:List String) (b:Bool) (T:String),xs = [x,.ref p]/\H p=some (.tup (ns.map V.ty))/\((x = .non/\T = "NoneType")\/∃i,x = .int i/\T = "int")/\PySem.W.kitAny K (.type T) (ns.map Value.type)=some b/\Q (.bl b) H
theorem Fi{X:Cx}(K:PySem.W.Frag)(hK:X.K=K:=by rfl):J0 X (.builtin "isinstance") (Kt K):=by
 subst hK;intro pins s σ H xs us Q I r h;rcases h with h | ⟨x,p,ns,b,T,rfl,hp,ht,he,q⟩
 .exact Ek X.K rfl pins s σ H xs us Q I r h
 obtain⟨u,v,rfl,ru,rv⟩:=r.two;cases rv;obtain⟨its,rv,⟨⟨oc,od,odt,osl⟩,ho,hc,n,hd⟩,hz⟩:=I.tuple (SqT.of hp);rw[x3 rv]at hd;cases hc;cases hd;rcases ht with⟨rfl,rfl⟩ | ⟨i,rfl,rfl⟩
 .cases ru;exact PySem.W.kia_tup PySem.W.kitx_none I.kIn True.intro ho he (fun z=>nomatch z) fun tk=>⟨.bl b,H,I.tok _,rfl,q⟩
 .obtain⟨t,rfl⟩:=(show ∃t,u=Value.int i t from ru);exact PySem.W.kia_tup PySem.W.kitx_int I.kIn True.intro ho he (fun z=>nomatch z) fun tk=>⟨.bl b,H,I.tok _,rfl,q⟩
abbrev RW:Type:=Addr×Str×List V
def Jl(H:Hp)(q:RW):Prop:=H q.1=some (.tup (.str q.2.1::q.2.2))
structure RowsAt(H:Hp)(l:Addr)(rs:List RW):Prop where
 at_:H l=some (.lst (rs.map fun q=>V.ref q.1))
 row:∀q∈rs,Jl H q
theorem RowsAt.same{H H':Hp}{l:Addr}{rs:List RW}(h:RowsAt H l rs)(s:Same H H'):RowsAt H' l rs:=⟨s _ _ h.at_,fun q hq=>s _ _ (h.row q hq)⟩
def T0(rs:List RW):List Str:=rs.map fun q=>q.2.1
section
variable{P:Program}{w:World}{K:PySem.W.Frag}{mg:Str->Option Value}{base:Heap}
theorem U5:FnScope ["thing"] ["thing"] (B4 s_is_number):=fsc
def Cz:Sp:=fun vs H Q _=>∃i:Int,vs = [.int i]/\Q (.bl true) H
theorem m8(T:Tx K mg):FnOk P w K mg base CX0 1 T.aB.f T.aB.fd ["thing"] Cz:=by
 have sc:=U5;refine T.aB.F.ok U5 (fun vs H Q E h=>?_) (fun cdv A outer s H vs Q E hr h=>?_)
 .obtain⟨i,rfl,_⟩:=h;rfl
 .obtain⟨i,rfl,q⟩:=h;refine⟨_,(B7 (C4 (K5 (F9 (Y9 K) T.ag E1 (A7 (pv 0) (A7 (w5 T.a1 Fy) A9))) (P0 (Iv (F9 (Y9 K) T.ag E1 (A7 (pv 0) (A7 (w5 T.a6 Hi) A9)))))))),?_⟩;refine ex1 rfl ⟨.int i, "int",_,true,rfl,.int i,rfl,ex1 rfl (U0 ?_)⟩;exact ex1 rfl ⟨.int i, "bool",_,false,rfl,.int i,rfl,ex1 rfl q⟩
theorem U6:FnScope ["thing"] ["thing"] (B4 s_is_listed):=fsc
def Dt:Sp:=fun vs H Q _=>∃(a:Addr) (b:Bool) (xs:List V),vs = [.ref a]/\H a=some (LT b xs)/\∀H',Same H H'->Q (.bl true) H'
theorem U2(T:Tx K mg):FnOk P w K mg base CX0 1 T.ay.f T.ay.fd ["thing"] Dt:=by
 have sc:=U6;refine T.ay.F.ok U6 (fun vs H Q E h=>?_) (fun cdv A outer s H vs Q E hr h=>?_)
 .obtain⟨a,b,xs,rfl,_⟩:=h;rfl
 .obtain⟨a,b,xs,rfl,hS,q⟩:=h;refine⟨_,(B7 (C4 (F9 (Fi K) T.ag E1 (A7 (pv 0) (A7 (Q7 (A7 (w5 T.af G0) (A7 (w5 T.aW Ak) A9))) A9))))),?_⟩;refine ex1 rfl ⟨by show 2<=sizeLine;decide,fun t ht=>?_⟩;have s1:=Same.new (o:=.tup [.ty "list",.ty "tuple"]) ht;have m1:=s1 _ _ hS;exact .inl ⟨.ref a,t,["list", "tuple"],_,true,rfl,A8,Kw m1,.inr ⟨a,_,rfl,Lc m1⟩,Ks b,q _ s1⟩
theorem S8:FnScope ["thing", "many"] ["thing", "many"] (B4 s_is_row_of):=fsc
def Dn:Sp:=fun vs H Q _=>∃(p:Addr) (xs:List V) (n:Int),vs = [.ref p,.int n]/\H p=some (.tup xs)/\(xs.length:Int)=n/\Q (.bl true) H
theorem J2(T:Tx K mg):FnOk P w K mg base CX0 1 T.aj.f T.aj.fd ["thing", "many"] Dn:=by
 have sc:=S8;refine T.aj.F.ok S8 (fun vs H Q E h=>?_) (fun cdv A outer s H vs Q E hr h=>?_)
 .obtain⟨p,xs,n,rfl,_⟩:=h;rfl
 .obtain⟨p,xs,n,rfl,hp,hn,q⟩:=h;refine⟨_,(B7 (C4 (K5 (F9 (Y9 K) T.ag E1 (A7 (pv 0) (A7 (w5 T.aW Ak) A9))) (P0 (F7 Bi (F9 (K2 K) T.ai J3 (A7 (pv 0) A9)) (pv 1) (F6 _)))))),?_⟩;refine ex1 rfl ⟨.ref p, "tuple",_,true,rfl,.tup hp,rfl,ex1 rfl (U0 ?_)⟩;refine ex1 rfl (B8 (a:=p) rfl (.inr (SqT.of hp)) (ex1 rfl ⟨rfl,?_⟩));rw[hn,AJ rfl];exact q
theorem X5:FnScope ["rows"] ["rows"] (B4 s_names_of):=fsc
def Y6:Sp:=fun vs H Q _=>∃(l:Addr) (rs:List RW),vs = [.ref l]/\RowsAt H l rs/\rs.length<=1000/\∀m H',Same H H'->H m=none->H' m=some (.lst ((T0 rs).map V.str))->Q (.ref m) H'
theorem K0(T:Tx K mg):FnOk P w K mg base CX0 1 T.ae.f T.ae.fd ["rows"] Y6:=by
 have sc:=X5;refine T.ae.F.ok X5 (fun vs H Q E h=>?_) (fun cdv A outer s H vs Q E hr h=>?_)
 .obtain⟨l,rs,rfl,_⟩:=h;rfl
 .obtain⟨l,rs,rfl,hR,len,q⟩:=h;refine⟨_,(B7 (C4 (Q0 (N':=["row"]) (cap:=[none]) (cl:=[]) (K1 trivial trivial) rfl (piL K (pv 0)) (fun _ _ _ _=>by exact⟨(pgC 0),D8,(C3 (ixT K) (pv 0) B1 (fun _ _=>rfl))⟩)))),?_⟩;refine ex1 rfl ⟨l,rfl,⟨_,SqL.of hR.at_⟩,fun D hD=>?_⟩;refine El (r:=fun q:RW=>V.ref q.1) (fun q=>V.str q.2.1) (asL (SqL.of hR.at_)) (fun _=>true) (by omega) hD (fun y my G sG M hM=>hM G fun b o e=>e) (fun y my G sG M hM=>?_) fun σ' G sG eG=>?_
  .exact ex1 rfl ⟨y.1,_,B8 rfl rfl ⟨SqT.of (sG _ _ (hR.row y my)),B5 (j:=0) rfl,hM G fun b o e=>e⟩⟩
  .refine q D G sG hD ?_;rw[eG,CO.mpr fun _ _=>rfl];unfold T0;rw[AX];rfl
theorem U4:FnScope ["rows"] ["rows"] (B4 s_begins_of):=fsc
theorem p9(T:Tx K mg):FnOk P w K mg base CX0 2 T.aC.f T.aC.fd ["rows"] Y6:=by
 have G_is_listed:=U2 (P:=P) (w:=w) (base:=base) T;have sc:=U4;refine T.aC.F.ok U4 (fun vs H Q E h=>?_) (fun cdv A outer s H vs Q E hr h=>?_)
 .obtain⟨l,rs,rfl,_⟩:=h;rfl
 .obtain⟨l,rs,rfl,hR,len,q⟩:=h;refine⟨_,(B7 (C4 (Q0 (N':=["row"]) (cap:=[none]) (cl:=[]) (K1 trivial trivial) rfl (piL K (pv 0)) (fun _ _ _ _=>by exact⟨(pgC 0),(Gj (PW.pt (Cj (Q9 (C1 T.ay G_is_listed (Rm hr) (A7 (pv 0) A9))) (z4 (D9 Fo (F9 (K2 K) T.ai J3 (A7 (pv 0) A9)) B1 (F6 _)))))),(C3 (ixT K) (pv 0) B1 (fun _ _=>rfl))⟩)))),?_⟩;refine ex1 rfl ⟨l,rfl,⟨_,SqL.of hR.at_⟩,fun D hD=>?_⟩;refine El (r:=fun q:RW=>V.ref q.1) (fun q=>V.str q.2.1) (asL (SqL.of hR.at_)) (fun _=>true) (by omega) hD (fun y my G sG M hM=>?_) (fun y my G sG M hM=>?_) fun σ' G sG eG=>?_
  .have ey:=sG _ _ (hR.row y my);refine ex1 rfl ⟨y.1,false,_,rfl,ey,fun G2 s2=>⟨_,rfl,U0 ?_⟩⟩;refine ex1 rfl (B8 (a:=y.1) rfl (.inr (SqT.of (s2 _ _ ey))) (B8 rfl rfl (ex1 rfl ?_)));rw[AJ (by rw[BG];omega)];exact hM G2 s2
  .exact ex1 rfl ⟨y.1,_,B8 rfl rfl ⟨SqT.of (sG _ _ (hR.row y my)),B5 (j:=0) rfl,hM G fun b o e=>e⟩⟩
  .refine q D G sG hD ?_;rw[eG,CO.mpr fun _ _=>rfl];unfold T0;rw[AX];rfl
theorem X4:FnScope ["taken", "thing"] ["taken", "thing"] (B4 s_is_fresh):=fsc
def Fm(K:PySem.W.Frag):Sp:=fun vs H Q _=>∃(l:Addr) (ss:List Str) (x:Str),vs = [.ref l,.str x]/\SqL K H l (ss.map V.str)/\E6 x=true/\x∉ss/\∀H',Same H H'->Q (.bl true) H'
theorem P6(T:Tx K mg):FnOk P w K mg base CX0 2 T.au.f T.au.fd ["taken", "thing"] (Fm K):=by
 have G_is_name:=Bg (P:=P) (w:=w) (base:=base) T;have sc:=X4;refine T.au.F.ok X4 (fun vs H Q E h=>?_) (fun cdv A outer s H vs Q E hr h=>?_)
 .obtain⟨l,ss,x,rfl,_⟩:=h;rfl
 .obtain⟨l,ss,x,rfl,hS,hn,hx,q⟩:=h;refine⟨_,(B7 (C4 (K5 (C1 T.aI G_is_name (Rm hr) (A7 (pv 1) A9)) (P0 (F7 (An K) (pv 1) (pv 0) rfl))))),?_⟩;have hl:=Q2 hn;refine ex1 rfl ⟨x,rfl,by omega,fun H1 s1=>⟨_,rfl,?_⟩⟩;rw[hn];refine U0 (ex1 rfl (ex1 rfl (a8 (.inl ((s1.at l).seqL hS)) ?_)));rw[AU hx];exact q H1 s1
theorem a6:FnScope ["thing"] ["thing"] (B4 s_is_rank):=fsc
def Gq:Sp:=fun vs H Q _=>∃i:Int,vs = [.int i]/\0<=i/\i<=9/\Q (.bl true) H
theorem Bp(T:Tx K mg):FnOk P w K mg base CX0 2 T.aJ.f T.aJ.fd ["thing"] Gq:=by
 have G_is_number:=m8 (P:=P) (w:=w) (base:=base) T;have sc:=a6;refine T.aJ.F.ok a6 (fun vs H Q E h=>?_) (fun cdv A outer s H vs Q E hr h=>?_)
 .obtain⟨i,rfl,_⟩:=h;rfl
 .obtain⟨i,rfl,h0,h9,q⟩:=h;refine⟨_,(B7 (C4 (K5 (C1 T.aB G_is_number (Rm hr) (A7 (pv 0) A9)) (P0 (Ev Eo Eo B1 (pv 0) (Kc T.aV)))))),?_⟩;refine ex1 rfl ⟨i,rfl,_,rfl,U0 ?_⟩;refine ex1 rfl (B8 rfl rfl (ex1 rfl ?_));rw[AJ h0];refine U0 (B8 rfl rfl ?_);show Q (.bl (decide (i<=9))) H;rw[AJ h9];exact q
theorem M0:FnScope ["names", "thing"] ["names", "thing"] (B4 s_are_speakers):=fsc
def z6(K:PySem.W.Frag):Sp:=fun vs H Q _=>∃(l m:Addr) (ns ss:List Str),vs = [.ref l,.ref m]/\H l=some (.lst (ns.map V.str))/\H m=some (.lst (ss.map V.str))/\(∀x∈ss,x∈ns)/\ss.Nodup/\ss.length<=100/\∀H',Same H H'->Q (.bl true) H'
theorem X3(T:Tx K mg):FnOk P w K mg base CX0 2 T.av.f T.av.fd ["names", "thing"] (z6 K):=by
 have G_is_listed:=U2 (P:=P) (w:=w) (base:=base) T;have sc:=M0;refine T.av.F.ok M0 (fun vs H Q E h=>?_) (fun cdv A outer s H vs Q E hr h=>?_)
 .obtain⟨l,m,ns,ss,rfl,_⟩:=h;rfl
 .obtain⟨l,m,ns,ss,rfl,hl,hm,sub,nd,len,q⟩:=h;refine⟨_,(B7 (C4 (K5 (C1 T.ay G_is_listed (Rm hr) (A7 (pv 1) A9)) (K5 (F9 (Ft K) T.a2 Fw (A7 (Q0 (N':=["one", "names"]) (cap:=[none,some 0]) (cl:=[("names",_)]) (K1 ⟨⟨rfl,rfl,rfl,rfl⟩,trivial⟩ ⟨rfl,trivial⟩) rfl (piL K (pv 1)) (fun _ _ _ _=>by exact⟨(pgC 0),D8,(F7 (y4 K) (pv 0) (pv 1) rfl)⟩)) A9)) (P0 (F7 Bi (F9 (Hm w) T.ai J3 (A7 (R7 (Gx K w) T.a8 Kh (A7 (pv 1) A9)) A9)) (F9 (K2 K) T.ai J3 (A7 (pv 1) A9)) (F6 _))))))),?_⟩;refine ex1 rfl ⟨m,true,_,rfl,hm,fun H1 s1=>⟨_,rfl,U0 ?_⟩⟩;have l1:=s1 _ _ hl;have m1:=s1 _ _ hm;refine ex1 rfl ⟨m,rfl,⟨_,SqL.of m1⟩,fun D hD=>?_⟩;refine El (fun x=>V.bl (decide (x∈ns))) (asL (SqL.of m1)) (fun _=>true) (by omega) hD (fun y my G sG M hM=>hM G fun b o e=>e) (fun y my G sG M hM=>ex1 rfl (ex1 rfl (P8 (.inl (SqL.of (sG _ _ l1))) (hM G fun b o e=>e)))) fun σ' G sG eG=>?_;have eG:G D=some (.lst ((ss.map fun x=>decide (x∈ns)).map V.bl)):=by
   rw[eG,CO.mpr fun _ _=>rfl,AX];rfl
  have ea:((ss.map fun x=>decide (x∈ns)).all id)=true:=by
   rw[List.all_map,B_];exact fun x hx=>AJ (sub x hx)
  refine⟨D,_,rfl,SqL.of eG,_,rfl,?_⟩;rw[ea];refine U0 ?_;have m2:=sG _ _ m1;refine ex1 rfl ⟨m,ss,rfl,.inl (SqL.of m2),nd,by omega,fun z hz=>?_⟩;have uz:=Same.new (o:=Ig w z ss) hz;refine⟨z,ss,rfl,A8,ex1 rfl (B8 (a:=m) rfl (.inl (SqL.of (uz _ _ m2))) ⟨rfl,?_⟩)⟩;rw[AA,AJ rfl];exact q _ ((s1.trans sG).trans uz)
theorem O9:FnScope ["ahead", "row"] ["ahead", "row"] (B4 s_fits_people):=fsc
def Ap:Sp:=fun vs H Q _=>∃(l p:Addr) (rs:List RW) (n:Str) (r:Int),vs = [.ref l,.ref p]/\RowsAt H l rs/\rs.length<=1000/\H p=some (.tup [.str n,.int r])/\E6 n=true/\n∉T0 rs/\0<=r/\r<=9/\∀H',Same H H'->Q (.bl true) H'
theorem Z5(T:Tx K mg):FnOk P w K mg base CX0 3 T.ad.f T.ad.fd ["ahead", "row"] Ap:=by
 have G_is_row_of:=J2 (P:=P) (w:=w) (base:=base) T;have G_names_of:=K0 (P:=P) (w:=w) (base:=base) T;have G_is_fresh:=P6 (P:=P) (w:=w) (base:=base) T;have G_is_rank:=Bp (P:=P) (w:=w) (base:=base) T;have sc:=O9;refine T.ad.F.ok O9 (fun vs H Q E h=>?_) (fun cdv A outer s H vs Q E hr h=>?_)
 .obtain⟨l,p,rs,n,r,rfl,_⟩:=h;rfl
 .obtain⟨l,p,rs,n,r,rfl,hR,len,hp,hn,hx,r0,r9,q⟩:=h;refine⟨_,(B7 (C4 (K5 (C1 T.aj G_is_row_of (Rm hr) (A7 (pv 1) (A7 B1 A9))) (K5 (C1 T.au G_is_fresh (Rm hr) (A7 (C1 T.ae G_names_of (Rm hr) (A7 (pv 0) A9)) (A7 (C3 (ixT K) (pv 1) B1 (fun _ _=>rfl)) A9))) (P0 (C1 T.aJ G_is_rank (Rm hr) (A7 (C3 (ixT K) (pv 1) B1 (fun _ _=>rfl)) A9))))))),?_⟩;refine ex1 rfl ⟨p,_,_,rfl,hp,rfl,_,rfl,U0 ?_⟩;refine ex1 rfl ⟨l,rs,rfl,hR,len,fun m H1 s1 hm em=>?_⟩;refine ex1 rfl ⟨p,_,B8 rfl rfl ⟨SqT.of (s1 _ _ hp),B5 (j:=0) rfl,?_⟩⟩;refine⟨m,_,n,rfl,SqL.of em,hn,hx,fun H2 s2=>⟨_,rfl,U0 ?_⟩⟩;refine ex1 rfl ⟨p,_,B8 rfl rfl ⟨SqT.of (s2 _ _ (s1 _ _ hp)),B5 (j:=1) rfl,?_⟩⟩;exact⟨r,rfl,r0,r9,q H2 (s1.trans s2)⟩
theorem K9:FnScope ["people", "ahead", "row"] ["people", "ahead", "row"] (B4 s_fits_sayings):=fsc
def Aj:Sp:=fun vs H Q _=>∃(a l p m:Addr) (ps rs:List RW) (n kd:Str) (ss:List Str),vs = [.ref a,.ref l,.ref p]/\RowsAt H a ps/\ps.length<=1000/\RowsAt H l rs/\rs.length<=1000/\H p=some (.tup [.str n,.str kd,.ref m])/\H m=some (.lst (ss.map V.str))/\E6 n=true/\n∉T0 rs/\(kd = "fact"\/kd = "claim")/\(∀x∈ss,x∈T0 ps)/\ss.Nodup/\ss.length<=100/\∀H',Same H H'->Q (.bl true) H'
theorem Y0(T:Tx K mg):FnOk P w K mg base CX0 3 T.ar.f T.ar.fd ["people", "ahead", "row"] Aj:=by
 have G_is_row_of:=J2 (P:=P) (w:=w) (base:=base) T;have G_names_of:=K0 (P:=P) (w:=w) (base:=base) T;have G_is_fresh:=P6 (P:=P) (w:=w) (base:=base) T;have G_are_speakers:=X3 (P:=P) (w:=w) (base:=base) T;have sc:=K9;refine T.ar.F.ok K9 (fun vs H Q E h=>?_) (fun cdv A outer s H vs Q E hr h=>?_)
 .obtain⟨a,l,p,m,ps,rs,n,kd,ss,rfl,_⟩:=h;rfl
 .obtain⟨a,l,p,m,ps,rs,n,kd,ss,rfl,hP,lp,hR,lr,hp,hm,hn,hx,hk,sub,nd,ls,q⟩:=h;refine⟨_,(B2 (O8 (PW.pt (Az (R1 (Q9 (C1 T.aj G_is_row_of (Rm hr) (A7 (pv 2) (A7 B1 A9))))) (j7 (R1 (Q9 (C1 T.au G_is_fresh (Rm hr) (A7 (C1 T.ae G_names_of (Rm hr) (A7 (pv 1) A9)) (A7 (C3 (ixT K) (pv 2) B1 (fun _ _=>rfl)) A9)))))))) (B7 (C4 x4)) E5)
   (B7 (C4 (K5 (F7 (y4 K) (C3 (ixT K) (pv 2) B1 (fun _ _=>rfl)) (Ih T.a4) rfl) (P0 (C1 T.av G_are_speakers (Rm hr) (A7 (C1 T.ae G_names_of (Rm hr) (A7 (pv 0) A9)) (A7 (C3 (ixT K) (pv 2) B1 (fun _ _=>rfl)) A9)))))))),?_⟩
  refine ex1 rfl ⟨p,_,_,rfl,hp,rfl,_,rfl,Ad ?_⟩;refine ex1 rfl ⟨l,rs,rfl,hR,lr,fun m1 H1 s1 hm1 em=>?_⟩;refine ex1 rfl ⟨p,_,B8 rfl rfl ⟨SqT.of (s1 _ _ hp),B5 (j:=0) rfl,?_⟩⟩;refine⟨m1,_,n,rfl,SqL.of em,hn,hx,fun H2 s2=>⟨_,rfl,Ad ?_⟩⟩;have s2:=s1.trans s2;refine ex1 rfl ⟨p,_,B8 rfl rfl ⟨SqT.of (s2 _ _ hp),B5 (j:=1) rfl,?_⟩⟩;have hk':decide (kd∈(["fact", "claim"]:List Str))=true:=AJ (by rcases hk with rfl | rfl<;>decide);dsimp only[tC];refine P8 (ss:=["fact", "claim"]) (.inr T.a5.sq) ?_;rw[hk'];refine⟨_,rfl,U0 ?_⟩;refine ex1 rfl ⟨a,ps,rfl,hP.same s2,lp,fun m2 H3 s3 hm2 em2=>?_⟩;have s3:=s2.trans s3;refine ex1 rfl ⟨p,_,B8 rfl rfl ⟨SqT.of (s3 _ _ hp),B5 (j:=2) rfl,?_⟩⟩;exact⟨m2,m,_,ss,rfl,em2,s3 _ _ hm,sub,nd,ls,fun H4 s4=>q H4 (s3.trans s4)⟩
theorem L0:FnScope ["sayings", "goals", "ahead", "row", "said"] ["sayings", "goals", "ahead", "row"] (B4 s_fits_strikes):=fsc
def Aw:Sp:=fun vs H Q _=>∃(a g l p:Addr) (ss rs:List RW) (gs:List Str) (n o t:Str),vs = [.ref a,.ref g,.ref l,.ref p]/\RowsAt H a ss/\ss.length<=1000/\H g=some (.lst (gs.map V.str))/\RowsAt H l rs/\rs.length<=1000/\H p=some (.tup [.str n,.str o,.str t])/\E6 n=true/\n∉T0 ss/\n∉T0 rs/\o∈T0 ss/\(t∈T0 ss\/t∈gs)/\∀H',Same H H'->Q (.bl true) H'
theorem X0(T:Tx K mg):FnOk P w K mg base CX0 3 T.as.f T.as.fd ["sayings", "goals", "ahead", "row"] Aw:=by
 have G_is_row_of:=J2 (P:=P) (w:=w) (base:=base) T;have G_names_of:=K0 (P:=P) (w:=w) (base:=base) T;have G_is_fresh:=P6 (P:=P) (w:=w) (base:=base) T;have sc:=L0;refine T.as.F.ok L0 (fun vs H Q E h=>?_) (fun cdv A outer s H vs Q E hr h=>?_)
 .obtain⟨a,g,l,p,ss,rs,gs,n,o,t,rfl,_⟩:=h;rfl
 .obtain⟨a,g,l,p,ss,rs,gs,n,o,t,rfl,hS,ls,hg,hR,lr,hp,hn,hx1,hx2,ho,ht,q⟩:=h;refine⟨_,(B2 (C7 (i:=4) sc.nd rfl (.inl rfl) (C1 T.ae G_names_of (Rm hr) (A7 (pv 0) A9)))
   (B2 (O8 (PW.pt (Az (R1 (Q9 (C1 T.aj G_is_row_of (Rm hr) (A7 (pv 3) (A7 B1 A9))))) (j7 (R1 (Q9 (C1 T.au G_is_fresh (Rm hr) (A7 (D7 K7 (pv 4) (C1 T.ae G_names_of (Rm hr) (A7 (pv 2) A9))) (A7 (C3 (ixT K) (pv 3) B1 (fun _ _=>rfl)) A9)))))))) (B7 (C4 x4)) E5)
   (B7 (C4 (K5 (F7 (y4 K) (C3 (ixT K) (pv 3) B1 (fun _ _=>rfl)) (pv 4) rfl) (P0 (Kq (F7 (y4 K) (C3 (ixT K) (pv 3) B1 (fun _ _=>rfl)) (pv 4) rfl) (P0 (F7 (y4 K) (C3 (ixT K) (pv 3) B1 (fun _ _=>rfl)) (pv 1) rfl))))))))),?_⟩
  refine B6 fun N1 hN1=>?_;refine ex1 rfl ⟨a,ss,rfl,hS,ls,fun m1 H1 s1 hm1 em1=>?_⟩;refine hN1 _ _ (B6 fun N2 hN2=>?_);refine ex1 rfl ⟨p,_,_,rfl,s1 _ _ hp,rfl,_,rfl,Ad ?_⟩;refine ex1 rfl (ex1 rfl ⟨l,rs,rfl,hR.same s1,lr,fun m2 H2 s2 hm2 em2=>?_⟩);have em1:=s2 _ _ em1;have s2:=s1.trans s2;have lss:(T0 ss).length=ss.length:=by unfold T0;rw[AA]
  have lrs:(T0 rs).length=rs.length:=by unfold T0;rw[AA]
  refine⟨m1,m2,_,_,rfl,rfl,em1,em2,by rw[AA,AA,lss,lrs,sizeLine_eq];omega,fun m3 hm3=>?_⟩;have u3:=Same.new (o:=.lst ((T0 ss).map V.str ++(T0 rs).map V.str)) hm3;have s3:=s2.trans u3;refine ex1 rfl ⟨p,_,B8 rfl rfl ⟨SqT.of (s3 _ _ hp),B5 (j:=0) rfl,?_⟩⟩;refine⟨m3,T0 ss++T0 rs,n,rfl,SqL.of (by rw[A8,AK]),hn,fun z=>(BA.mp z).elim hx1 hx2,fun H4 s4=>⟨_,rfl,Ad ?_⟩⟩;have em1:=s4 _ _ (u3 _ _ em1);have s4:=s3.trans s4;refine hN2 _ _ ?_;refine ex1 rfl ⟨p,_,B8 rfl rfl ⟨SqT.of (s4 _ _ hp),B5 (j:=1) rfl,ex1 rfl (P8 (.inl (SqL.of em1)) ?_)⟩⟩;rw[AJ ho];refine⟨_,rfl,U0 ?_⟩;refine ex1 rfl ⟨p,_,B8 rfl rfl ⟨SqT.of (s4 _ _ hp),B5 (j:=2) rfl,ex1 rfl (P8 (.inl (SqL.of em1)) ⟨_,rfl,x2 (fun c=>q _ s4) (fun c=>?_)⟩)⟩⟩;refine ex1 rfl ⟨p,_,B8 rfl rfl ⟨SqT.of (s4 _ _ hp),B5 (j:=2) rfl,ex1 rfl (P8 (.inl (SqL.of (s4 _ _ hg))) ?_)⟩⟩;rw[AJ (ht.resolve_left fun z=>c (AJ z))];exact q _ s4
end
def V4(ps:List PA2):List V:=ps.map fun q=>V.ref q.1
theorem Z9{H H':Hp}{ps:List PA2}(s:Same H H')(h:∀q∈ps,P1 H q):∀q∈ps,P1 H' q:=fun q hq=>s _ _ (h q hq)
def pd(k:Str×Str):PyData:=.tuple [.str k.1,.str k.2]
theorem G8{x:Str}(h:E6 x=true):PySem.PyData.strOk x=true:=by
 unfold E6 at h;rw[BO]at h;unfold PySem.PyData.strOk;rw[<-Array.all_toList,B_];intro c hc;have:=(B_.mp h.2) c hc;unfold Db at this;rw[BO]at this;have:=BW this.2;exact AJ (by omega)
theorem w4{K:PySem.W.Frag}{H:Hp}{t:Addr}{k:Str×Str}(h:H t=some (.tup [.str k.1,.str k.2])):Rp K H (pd k) (.ref t):=by
 unfold pd;simp only[Rp,Rps];exact⟨t,_,rfl,SqT.of h,_,_,rfl,rfl,_,_,rfl,rfl,rfl⟩
theorem u9{K:PySem.W.Frag}{H:Hp}:∀{ps:List PA2},(∀q∈ps,P1 H q)->Rps K H (ps.map fun q=>pd q.2) (V4 ps)
 | [],_=>by simp[Rps,V4]
 | q::r,h=>by
  show Rps K H (pd q.2::r.map fun q=>pd q.2) (V.ref q.1::V4 r);simp only[Rps];exact⟨_,_,rfl,w4 (h q (BF ..)),u9 fun z hz=>h z (AV _ hz)⟩
theorem Ar{K:PySem.W.Frag}{H:Hp}{l:Addr}{ps:List PA2}(hl:H l=some (.lst (V4 ps)))(h:∀q∈ps,P1 H q):Rp K H (.list (ps.map fun q=>pd q.2)) (.ref l):=by
 simp only[Rp];exact⟨l,_,rfl,SqL.of hl,u9 h⟩
theorem Ka(a b:Str×Str):PyData.eqv (pd a) (pd b)=decide (a=b):=by
 unfold pd;rw[PyData.eqv,PyData.eqvAll,PyData.eqvAll,PyData.eqvAll,PyData.eqv,PyData.eqv];by_cases h1:a.1=b.1
 .by_cases h2:a.2=b.2
  .rw[AJ (Prod.ext h1 h2),h1,h2];simp
  .rw[AU fun z=>h2 (congrArg Prod.snd z)];simp[h2]
 .rw[AU fun z=>h1 (congrArg Prod.fst z)];simp[h1]
theorem V7(k:Str×Str):∀ps:List PA2,((ps.map fun q=>pd q.2).any fun z=>PyData.eqv z (pd k))=decide (k∈ps.map fun q=>q.2)
 | []=>rfl
 | q::r=>by
  rw[BL,List.any_cons,V7 k r,Ka,BL];by_cases e:q.2=k
  .rw[AJ e,Bool.true_or,AJ (show k∈q.2::_ from by rw[<-e];exact BF ..)]
  .rw[AU e,Bool.false_or];by_cases h:k∈r.map fun q=>q.2
   .rw[AJ h,AJ (AV _ h)]
   .rw[AU h,AU fun z=>(AY.mp z).elim (fun z=>e z.symm) h]
theorem Du{k:Str×Str}(h1:PySem.PyData.strOk k.1=true)(h2:PySem.PyData.strOk k.2=true):(pd k).canLay0=true:=by
 unfold pd;simp[PyData.canLay0,PyData.canLayAll0,h1,h2]
theorem y8:∀{ps:List PA2},(∀q∈ps,PySem.PyData.strOk q.2.1=true/\PySem.PyData.strOk q.2.2=true)->PyData.canLayAll0 (ps.map fun q=>pd q.2)=true
 | [],_=>rfl
 | q::r,h=>by
  rw[BL,PyData.canLayAll0,Du (h q (BF ..)).1 (h q (BF ..)).2,y8 fun z hz=>h z (AV _ hz)];rfl
theorem Ay{K:PySem.W.Frag}{H:Hp}{t l:Addr}{k:Str×Str}{ps:List PA2}{Q:VK}(ht:H t=some (.tup [.str k.1,.str k.2]))(hl:H l=some (.lst (V4 ps)))(hp:∀q∈ps,P1 H q)
  (hk:PySem.PyData.strOk k.1=true/\PySem.PyData.strOk k.2=true) (hs:∀q∈ps,PySem.PyData.strOk q.2.1=true/\PySem.PyData.strOk q.2.2=true) (q:Q (.bl (!decide (k∈ps.map fun q=>q.2))) H):Ie K true (.ref t) (.ref l) H Q :=
 ⟨pd k,_,w4 ht,.inl (Ar hl hp),⟨Du hk.1 hk.2,by simp[pd,PyData.depth,PyData.depthAll]⟩,y8 hs,by rw[BJ rfl,V7];exact q⟩
section
variable{P:Program}{w:World}{K:PySem.W.Frag}{mg:Str->Option Value}{base:Heap}
theorem Hv{H:Hp}{t l:Addr}{k:Str×Str}{ps:List PA2}{Q:VK}(ht:H t=some (.tup [.str k.1,.str k.2]))(hl:H l=some (.lst (V4 ps)))(hp:∀q∈ps,P1 H q)
  (hk:PySem.PyData.strOk k.1=true/\PySem.PyData.strOk k.2=true) (hs:∀q∈ps,PySem.PyData.strOk q.2.1=true/\PySem.PyData.strOk q.2.2=true) (q:Q (.bl (decide (k∈ps.map fun q=>q.2))) H):Ie K false (.ref t) (.ref l) H Q :=
 ⟨pd k,_,w4 ht,.inl (Ar hl hp),⟨Du hk.1 hk.2,by simp[pd,PyData.depth,PyData.depthAll]⟩,y8 hs,by rw[BH (by decide),V7];exact q⟩
theorem Q1:FnScope ["sayings", "ahead", "row", "said"] ["sayings", "ahead", "row"] (B4 s_fits_backs):=fsc
def Ag:Sp:=fun vs H Q _=>∃(a l p:Addr) (ss:List RW) (bs:List PA2) (o t:Str),vs = [.ref a,.ref l,.ref p]/\RowsAt H a ss/\ss.length<=1000/\H l=some (.lst (V4 bs))/\(∀q∈bs,P1 H q)/\(∀q∈bs,E6 q.2.1=true/\E6 q.2.2=true)/\H p=some (.tup [.str o,.str t])/\E6 o=true/\E6 t=true/\(o,t)∉(bs.map fun q=>q.2)/\o∈T0 ss/\t∈T0 ss/\o≠t/\∀H',Same H H'->Q (.bl true) H'
theorem i7(T:Tx K mg):FnOk P w K mg base CX0 3 T.az.f T.az.fd ["sayings", "ahead", "row"] Ag:=by
 have G_is_row_of:=J2 (P:=P) (w:=w) (base:=base) T;have G_names_of:=K0 (P:=P) (w:=w) (base:=base) T;have sc:=Q1;refine T.az.F.ok Q1 (fun vs H Q E h=>?_) (fun cdv A outer s H vs Q E hr h=>?_)
 .obtain⟨a,l,p,ss,bs,o,t,rfl,_⟩:=h;rfl
 .obtain⟨a,l,p,ss,bs,o,t,rfl,hS,ls,hl,hb,nb,hp,no,nt,hx,ho,ht,ne,q⟩:=h;refine⟨_,(B2 (C7 (i:=3) sc.nd rfl (.inl rfl) (C1 T.ae G_names_of (Rm hr) (A7 (pv 0) A9)))
   (B2 (O8 (PW.pt (Az (R1 (Q9 (C1 T.aj G_is_row_of (Rm hr) (A7 (pv 2) (A7 B1 A9))))) (j7 (D9 (Ll K hr.units) (pv 2) (pv 1) rfl)))) (B7 (C4 x4)) E5)
   (B7 (C4 (K5 (F7 (y4 K) (C3 (ixT K) (pv 2) B1 (fun _ _=>rfl)) (pv 3) rfl) (K5 (F7 (y4 K) (C3 (ixT K) (pv 2) B1 (fun _ _=>rfl)) (pv 3) rfl) (P0 (F7 Cq (C3 (ixT K) (pv 2) B1 (fun _ _=>rfl)) (C3 (ixT K) (pv 2) B1 (fun _ _=>rfl)) (F6 _))))))))),?_⟩
  refine B6 fun N1 hN1=>?_;refine ex1 rfl ⟨a,ss,rfl,hS,ls,fun m1 H1 s1 hm1 em1=>?_⟩;refine hN1 _ _ (B6 fun N2 hN2=>?_);have p1:=s1 _ _ hp;refine ex1 rfl ⟨p,_,_,rfl,p1,rfl,_,rfl,Ad ?_⟩;refine ex1 rfl (ex1 rfl (Hv (k:=(o,t)) p1 (s1 _ _ hl) (Z9 s1 hb) ⟨G8 no,G8 nt⟩ (fun q hq=>⟨G8 (nb q hq).1,G8 (nb q hq).2⟩) ?_));rw[AU hx];refine⟨_,rfl,Ad ?_⟩;refine hN2 _ _ ?_;refine ex1 rfl ⟨p,_,B8 rfl rfl ⟨SqT.of p1,B5 (j:=0) rfl,ex1 rfl (P8 (.inl (SqL.of em1)) ?_)⟩⟩;rw[AJ ho];refine⟨_,rfl,U0 ?_⟩;refine ex1 rfl ⟨p,_,B8 rfl rfl ⟨SqT.of p1,B5 (j:=1) rfl,ex1 rfl (P8 (.inl (SqL.of em1)) ?_)⟩⟩;rw[AJ ht];refine⟨_,rfl,U0 ?_⟩;refine ex1 rfl ⟨p,_,B8 rfl rfl ⟨SqT.of p1,B5 (j:=0) rfl,ex1 rfl ⟨p,_,B8 rfl rfl ⟨SqT.of p1,B5 (j:=1) rfl,rfl,?_⟩⟩⟩⟩;have e:(!decide (V.str o=V.str t))=true:=by rw[AU fun z=>ne (V.str.inj z)];rfl
  rw[e];exact q H1 s1
theorem Ik(xs:List V)(i:Nat)(h:i<=xs.length):R8 xs none (some (i:Int))=xs.take i:=by
 unfold R8;rw[HT.sIx_none,HT.sIx_nat,List.drop_zero,Nat.sub_zero,Nat.min_eq_left h]
def X6(base:Heap)(f:Addr)(sp:Sp):Sp:=fun vs H Q _=>∃(x:Str) (a:Addr) (as:List Addr),vs = [.str x,.ref a,.ref f]/\H a=some (.lst (as.map V.ref))/\as.length<=1000/\FnHere base H f /\
 (∀(i:Nat) (q:Addr),as[i]?=some q->∀(G:Hp) (l:Addr) (Q':VK),Same H G->G l=some (.lst ((as.take i).map V.ref))->(∀G',Same G G'->Q' (.bl true) G')->sp [.ref l,.ref q] G Q' E0)/\∀H',Same H H'->Q .non H'
theorem R0:FnScope ["part", "rows", "fits", "place", "row"] ["part", "rows", "fits"] (B4 s_check_part):=fsc
theorem G9(T:Tx K mg){f:Addr}{fd:FuncData}{k:Nat}{sp:Sp}(G_fits:FnOk P w K mg base CX0 k f fd ["ahead", "row"] sp)(hb_fits:Binds K fd ["ahead", "row"] []):FnOk P w K mg base CX0 (k+1) T.ah.f T.ah.fd ["part", "rows", "fits"] (X6 base f sp):=by
 have sc:=R0;refine T.ah.F.ok R0 (fun vs H Q E h=>?_) (fun cdv A outer s H vs Q E hr h=>?_)
 .obtain⟨x,a,as,rfl,_⟩:=h;rfl
 .obtain⟨x,a,as,rfl,ha,len,hf,hfit,q⟩:=h;refine⟨_,(B7 (U7 PassesOwn.never rfl (piE K T.aY (A7 (pv 1) A9)) (pgT K (n:=2) (C2 (J5 (i:=3) sc.nd rfl (.inl rfl)) (C2 (J5 (i:=4) sc.nd rfl (.inl rfl)) J9)))
   (B7 (O8 (R1 (Q9 (Fb (i:=2) G_fits (hr.mono (AL _)) hb_fits (A7 (O4 (slL K) (pv 1) S5 (S7 (pv 3))) (A7 (pv 4) A9))))) (B7 Fj) E5)))),?_⟩
  refine ex1 rfl ⟨a,ex1 rfl ⟨SqL.of ha,Iw (n:=as.length) (fun i σ H1=>∃v3 v4,σ = [some (.str x),some (.ref a),some (.ref f),v3,v4]/\Same H H1) ⟨_,_,rfl,fun b o e=>e⟩ ?_ ?_ ?_ ?_⟩⟩
  .rintro i σ H1 hi ⟨v3,v4,rfl,s1⟩;exact⟨_,_,SqL.of (s1 _ _ ha),by rw[AG,AQ hi];rfl⟩
  .rintro σ H1 ⟨v3,v4,rfl,s1⟩;exact⟨_,SqL.of (s1 _ _ ha),by rw[AA]⟩
  .rintro i σ H1 v H' hi ⟨v3,v4,rfl,s1⟩ ⟨t,y,rfl,ht,rfl,hy⟩;have hy:=hy _ (SqL.of (s1 _ _ ha));have hi':as[i]?=some as[i]:=AQ hi;rw[AG,hi']at hy;cases hy;have ut:=s1.trans (Same.new (o:=.tup [.int (i:Int),.ref as[i]]) ht);refine⟨t,_,rfl,SqT.of A8,rfl,_,_,rfl,_,_,rfl,rfl,?_⟩;refine⟨rfl,hf.same ut,?_⟩;refine ex1 rfl (ex1 rfl ⟨_,rfl,a,_,rfl,SqL.of (ut _ _ ha),fun l hl=>?_⟩);have ul:=ut.trans (Same.new (o:=.lst (R8 (as.map V.ref) none (some (i:Int)))) hl);have el:(upd (upd H1 t (.tup [.int (i:Int),.ref as[i]])) l (.lst (R8 (as.map V.ref) none (some (i:Int))))) l=some (.lst ((as.take i).map V.ref)):=by rw[A8,Ik _ _ (by rw[AA];omega),BU]
   generalize upd (upd H1 t (.tup [.int (i:Int),.ref as[i]])) l (.lst (R8 (as.map V.ref) none (some (i:Int))))=H2 at ul el⊢;refine ex1 rfl ⟨hf.same ul,hfit i _ hi' H2 l _ ul el fun G' s'=>⟨_,rfl,Ad ?_⟩⟩;exact⟨_,_,rfl,ul.trans s'⟩
  .rintro σ H1 ⟨v3,v4,rfl,s1⟩;exact q H1 s1
end
abbrev PEr:Type:=Addr×Str×Int
abbrev SAr:Type:=Addr×Str×Str×Addr×List Str
abbrev STr:Type:=Addr×Str×Str×Str
def rP(q:PEr):RW:=(q.1,q.2.1,[.int q.2.2])
def rS(q:SAr):RW:=(q.1,q.2.1,[.str q.2.2.1,.ref q.2.2.2.1])
def rT(q:STr):RW:=(q.1,q.2.1,[.str q.2.2.1,.str q.2.2.2])
structure WRows(H:Hp)(a b c d:Addr)(pe:List PEr)(sa:List SAr)(st:List STr)(ba:List PA2):Prop where
 hp:RowsAt H a (pe.map rP)
 hs:RowsAt H b (sa.map rS)
 sp:∀q∈sa,H q.2.2.2.1=some (.lst (q.2.2.2.2.map V.str))
 ht:RowsAt H c (st.map rT)
 hb:H d=some (.lst (V4 ba))
 pb:∀q∈ba,P1 H q
theorem WRows.same{H H':Hp}{a b c d:Addr}{pe:List PEr}{sa:List SAr}{st:List STr}{ba:List PA2}(h:WRows H a b c d pe sa st ba)(s:Same H H'):WRows H' a b c d pe sa st ba :=
 ⟨h.hp.same s,h.hs.same s,fun q hq=>s _ _ (h.sp q hq),h.ht.same s,s _ _ h.hb,Z9 s h.pb⟩
theorem WRows.keep{H H':Hp}{a b c d p:Addr}{ls:List (Pos×Str)}{pe:List PEr}{sa:List SAr}{st:List STr}{ba:List PA2}(h:WRows H a b c d pe sa st ba)(t:O7 H p ls)(k:∀z o,H z=some o->z≠p->H' z=some o):WRows H' a b c d pe sa st ba:=by
 obtain⟨ps,e,_⟩:=t;have kk:∀{z:Addr} {o:HO},H z=some o->o≠ .tbl ps->H' z=some o:=fun hz n=>k _ _ hz fun y=>by rw[y,e]at hz;cases hz;exact n rfl
 exact⟨⟨kk h.hp.at_ (by intro z;cases z),fun q hq=>kk (h.hp.row q hq) (by intro z;cases z)⟩,⟨kk h.hs.at_ (by intro z;cases z),fun q hq=>kk (h.hs.row q hq) (by intro z;cases z)⟩,fun q hq=>kk (h.sp q hq) (by intro z;cases z),⟨kk h.ht.at_ (by intro z;cases z),fun q hq=>kk (h.ht.row q hq) (by intro z;cases z)⟩,kk h.hb (by intro z;cases z),fun q hq=>kk (h.pb q hq) (by intro z;cases z)⟩
theorem WRows.keepX{H H':Hp}{a b c d x C dx:Addr}{fs:List (Str×V)}{pe:List PEr}{sa:List SAr}{st:List STr}{ba:List PA2}(h:WRows H a b c d pe sa st ba)(hx:H x=some (.ins C dx fs))(k:Sm [x] H H'):WRows H' a b c d pe sa st ba:=by
 have kk:∀{z:Addr} {o:HO},H z=some o->o≠ .ins C dx fs->H' z=some o:=fun hz n=>k _ _ hz fun y=>by rw[AB.mp y,hx]at hz;cases hz;exact n rfl
 exact⟨⟨kk h.hp.at_ (by intro z;cases z),fun q hq=>kk (h.hp.row q hq) (by intro z;cases z)⟩,⟨kk h.hs.at_ (by intro z;cases z),fun q hq=>kk (h.hs.row q hq) (by intro z;cases z)⟩,fun q hq=>kk (h.sp q hq) (by intro z;cases z),⟨kk h.ht.at_ (by intro z;cases z),fun q hq=>kk (h.ht.row q hq) (by intro z;cases z)⟩,kk h.hb (by intro z;cases z),fun q hq=>kk (h.pb q hq) (by intro z;cases z)⟩
theorem V1{H H':Hp}{p x C dx:Addr}{fs:List (Str×V)}{ls:List (Pos×Str)}(h:O7 H p ls)(hx:H x=some (.ins C dx fs))(k:Sm [x] H H'):O7 H' p ls:=by
 have kk:∀{z:Addr} {o:HO},H z=some o->o≠ .ins C dx fs->H' z=some o:=fun hz n=>k _ _ hz fun y=>by rw[AB.mp y,hx]at hz;cases hz;exact n rfl
 obtain⟨ps,e,t,q⟩:=h;exact⟨ps,kk e (by intro z;cases z),t,fun l hl=>(q l hl).imp id fun⟨c,e,hc⟩=>⟨c,e,kk hc (by intro z;cases z)⟩⟩
def nP(pe:List PEr):List Str:=pe.map fun q=>q.2.1
def nS(sa:List SAr):List Str:=sa.map fun q=>q.2.1
def nT(st:List STr):List Str:=st.map fun q=>q.2.1
structure WOk(pe:List PEr)(sa:List SAr)(st:List STr)(ba:List PA2):Prop where
 len:pe.length<=30/\sa.length<=30/\st.length<=30/\ba.length<=30
 pn:(nP pe).Nodup
 pm:∀q∈pe,E6 q.2.1=true/\0<=q.2.2/\q.2.2<=9
 sn:(nS sa++nT st).Nodup
 nm:∀x∈nS sa++nT st,E6 x=true
 kd:∀q∈sa,q.2.2.1 = "fact"\/q.2.2.1 = "claim"
 sk:∀q∈sa,(∀x∈q.2.2.2.2,x∈nP pe)/\q.2.2.2.2.Nodup/\q.2.2.2.2.length<=100
 tg:∀q∈st,q.2.2.1∈nS sa/\(q.2.2.2∈nS sa\/q.2.2.2∈nT st)
 bn:(ba.map fun q=>q.2).Nodup
 bk:∀q∈ba,q.2.1∈nS sa/\q.2.2∈nS sa/\q.2.1≠q.2.2
theorem Ip(pe:List PEr):T0 (pe.map rP)=nP pe:=by unfold T0 nP;rw[AX];rfl
theorem Bk(sa:List SAr):T0 (sa.map rS)=nS sa:=by unfold T0 nS;rw[AX];rfl
theorem Ij(st:List STr):T0 (st.map rT)=nT st:=by unfold T0 nT;rw[AX];rfl
theorem Z3{α:Type}{r:α->RW}{xs:List α}{i:Nat}{H G:Hp}{l:Addr}(h:∀q∈xs.map r,Jl H q)(s:Same H G)(el:G l=some (.lst (((xs.map fun x=>(r x).1).take i).map V.ref))):RowsAt G l ((xs.take i).map r):=by
 refine⟨?_,fun q hq=>s _ _ (h q ?_)⟩
 .rw[el,<-BU,AX,AX];rfl
 .obtain⟨x,hx,rfl⟩:=A_.mp hq;exact A_.mpr ⟨x,BM hx,rfl⟩
theorem x6{α:Type}{r:α->RW}{xs:List α}:((xs.map r).map fun q=>V.ref q.1) =(xs.map fun x=>(r x).1).map V.ref:=by rw[AX,AX];rfl
def wfW(a b c d:Addr):List (Str×V):=[("people",.ref a),("sayings",.ref b),("strikes",.ref c),("backs",.ref d)]
def WeaveAt(C:Addr)(H:Hp)(x:Addr)(pe:List PEr)(sa:List SAr)(st:List STr)(ba:List PA2):Prop:=∃dx a b c d,H x=some (.ins C dx (wfW a b c d))/\WRows H a b c d pe sa st ba
theorem WeaveAt.same{C:Addr}{H H':Hp}{x:Addr}{pe:List PEr}{sa:List SAr}{st:List STr}{ba:List PA2}(h:WeaveAt C H x pe sa st ba)(s:Same H H'):WeaveAt C H' x pe sa st ba:=let⟨dx,a,b,c,d,e,w⟩:=h;⟨dx,a,b,c,d,s _ _ e,w.same s⟩
def WeaveNew(C:Addr)(H0 H:Hp)(x:Addr)(pe:List PEr)(sa:List SAr)(st:List STr)(ba:List PA2):Prop:=∃dx a b c d,H x=some (.ins C dx (wfW a b c d))/\WRows H a b c d pe sa st ba/\H0 a=none/\H0 b=none/\H0 c=none/\H0 d=none/\∀q∈sa,H0 q.2.2.2.1=none
theorem WeaveNew.at_{C:Addr}{H0 H:Hp}{x:Addr}{pe:List PEr}{sa:List SAr}{st:List STr}{ba:List PA2}(h:WeaveNew C H0 H x pe sa st ba):WeaveAt C H x pe sa st ba:=let⟨dx,a,b,c,d,e,w,_⟩:=h;⟨dx,a,b,c,d,e,w⟩
theorem WeaveNew.same{C:Addr}{H0 H H':Hp}{x:Addr}{pe:List PEr}{sa:List SAr}{st:List STr}{ba:List PA2}(h:WeaveNew C H0 H x pe sa st ba)(s:Same H H'):WeaveNew C H0 H' x pe sa st ba:=let⟨dx,a,b,c,d,e,w,n⟩:=h;⟨dx,a,b,c,d,s _ _ e,w.same s,n⟩
theorem WeaveNew.keep{C:Addr}{H0 H H':Hp}{x:Addr}{pe:List PEr}{sa:List SAr}{st:List STr}{ba:List PA2}(h:WeaveNew C H0 H x pe sa st ba)(k:∀z o,H z=some o->(∀xs,o = .lst xs->H0 z=none)->H' z=some o):WeaveNew C H0 H' x pe sa st ba:=by
 obtain⟨dx,a,b,c,d,e,w,n1,n2,n3,n4,n5⟩:=h;have kt:∀{z:Addr} {xs:List V},H z=some (.tup xs)->H' z=some (.tup xs):=fun e=>k _ _ e fun _ y=>by cases y
 exact⟨dx,a,b,c,d,k _ _ e (fun _ y=>by cases y),⟨⟨k _ _ w.hp.at_ fun _ _=>n1,fun q hq=>kt (w.hp.row q hq)⟩,⟨k _ _ w.hs.at_ fun _ _=>n2,fun q hq=>kt (w.hs.row q hq)⟩,fun q hq=>k _ _ (w.sp q hq) fun _ _=>n5 q hq,⟨k _ _ w.ht.at_ fun _ _=>n3,fun q hq=>kt (w.ht.row q hq)⟩,k _ _ w.hb fun _ _=>n4,fun q hq=>kt (w.pb q hq)⟩,n1,n2,n3,n4,n5⟩
theorem none_of{L:List Addr}{H H':Hp}{z:Addr}(k:Sm L H H')(n:z∉L)(h:H' z=none):H z=none:=by
 cases y:H z with
 | none=>rfl
 | some o=>rw[k z o y n]at h;cases h
theorem E7{H H':Hp}{p:Addr}{ls:List (Pos×Str)}(h:O7 H p ls)(s:Same H H'):O7 H' p ls:=let⟨ps,e,t,q⟩:=h;⟨ps,s _ _ e,t,fun l hl=>(q l hl).imp id fun⟨c,e,hc⟩=>⟨c,e,s _ _ hc⟩⟩
def dS(q:SAr):Str×Str×List Str:=(q.2.1,q.2.2.1,q.2.2.2.2)
section
variable{P:Program}{w:World}{K:PySem.W.Frag}{mg:Str->Option Value}{base:Heap}
def Ac(f c:Addr)(q:Str)(ar:Arguments)(bd:Expr)(sco:Scope)(cl:List (Str×Addr))(g:V->V->Hp->VK->Prop):Sp:=fun vs H Q _=>∃u v,vs = [u,v]/\H f=some (LamO f c q ar bd sco cl)/\H c=some (CodeO c q)/\g u v H Q
theorem d9{f c:Addr}{q:Str}{ar:Arguments}{bd:Expr}{sco:Scope}{cl:List (Str×Addr)}{fr:List Str}{gs:List V}{k:Nat}{g:V->V->Hp->VK->Prop}(S:LamScope ("ahead" :: "row" :: fr) ["ahead", "row"] fr sco)(C:ClosV base cl fr gs)
  (hbody:∀(A:Around) (outer:List Env) (s:Shared) (H:Hp) (u v:V) (Q:VK),Room k (A.deeper (PySem.W.envX q sco s.heap.objs.size f (.ref c) cl))->g u v H Q ->
   ∃t,PE (Da P w K mg base ("ahead" :: "row" :: fr) q sco f (.ref c) cl A outer s H) bd t/\t (some u::some v::gs.map some) H Q) :
  FnOk P w K mg base CX0 (k+1) f (PySem.W.kla_fn "<lambda>" q ar bd sco cl .none (.ref c) .none) ["ahead", "row"] (Ac f c q ar bd sco cl g):=by
 refine Jd S C (fun vs H Q E h=>?_) (fun vs H Q E h=>?_) fun A outer s H vs Q E hr h=>?_
 .obtain⟨u,v,rfl,_⟩:=h;rfl
 .obtain⟨u,v,rfl,h1,h2,_⟩:=h;exact⟨h1,h2⟩
 .obtain⟨u,v,rfl,_,_,h⟩:=h;exact hbody A outer s H u v Q hr h
theorem J7:FnScope ["self", "people", "sayings", "strikes", "backs", "goals"] ["self", "people", "sayings", "strikes", "backs"] (B4 s_Weave___init__):=fsc
def d8(C pt:Addr):Sp:=fun vs H Q _=>∃(x dx a b c d:Addr) (pe:List PEr) (sa:List SAr) (st:List STr) (ba:List PA2),vs = [.ref x,.ref a,.ref b,.ref c,.ref d]/\H x=some (.ins C dx [])/\WRows H a b c d pe sa st ba/\WOk pe sa st ba/\O7 H pt P5 /\
 ∀(sa':List SAr) H',Sm [x,pt] H H'->O7 H' pt P5->sa'.map dS=sa.map dS->WeaveNew C H H' x pe sa' st ba->Q .non H'
set_option maxHeartbeats 8000000 in
theorem d7(T:Tx K mg)(hB:base.BuiltinsAt mg T.ac):FnOk P w K mg base CX0 6 T.aQ T.aP ["self", "people", "sayings", "strikes", "backs"] (d8 T.aa T.ac):=by
 have G_begins_of:=p9 (P:=P) (w:=w) (base:=base) T;have sc:=J7;refine T.aR.okC J7 (fun vs H Q E h=>?_) (fun cdv A outer s H vs Q E hcd hr h=>?_)
 .obtain⟨x,dx,a,b,c,d,pe,sa,st,ba,rfl,_⟩:=h;rfl
 .obtain⟨x,dx,a,b,c,d,pe,sa,st,ba,rfl,hx,hW,ok,hT,q⟩:=h;have hu:=Ky hr;refine⟨_,(B2 (F8 (Am (k:=5) (fun _=>rfl) T.ah (Rm hr) (A7 C5 (A7 (pv 1) (A7 (Ih T.ad.m) A9)))))
   (B2 (F8 (Am (k:=5) (fun _=>rfl) T.ah (Rm hr) (A7 C5 (A7 (pv 2) (A7 (Ef (ls:=P5) T.aG hB (hcd.symm.trans T.aO) rfl rfl (by show ∀x:Str×NameKind,x∈_->x.2=NameKind.free->(B4 s_Weave___init__).names.lookup x.1=some NameKind.cell;decide +kernel) (by first | exact .head _ | exact .tail _ (.head _) | exact .tail _ (.tail _ (.head _))) (by decide +kernel)) A9)))))
   (B2 (C7 (i:=5) sc.nd rfl (.inr rfl) (C1 T.aC G_begins_of (Rm hr) (A7 (pv 3) A9)))
   (B2 (F8 (Am (k:=5) (fun _=>rfl) T.ah (Rm hr) (A7 C5 (A7 (pv 3) (A7 (Ef (ls:=P5) T.aG hB (hcd.symm.trans T.aO) rfl rfl (by show ∀x:Str×NameKind,x∈_->x.2=NameKind.free->(B4 s_Weave___init__).names.lookup x.1=some NameKind.cell;decide +kernel) (by first | exact .head _ | exact .tail _ (.head _) | exact .tail _ (.tail _ (.head _))) (by decide +kernel)) A9)))))
   (B2 (F8 (Am (k:=5) (fun _=>rfl) T.ah (Rm hr) (A7 C5 (A7 (pv 4) (A7 (Ef (ls:=P5) T.aG hB (hcd.symm.trans T.aO) rfl rfl (by show ∀x:Str×NameKind,x∈_->x.2=NameKind.free->(B4 s_Weave___init__).names.lookup x.1=some NameKind.cell;decide +kernel) (by first | exact .head _ | exact .tail _ (.head _) | exact .tail _ (.tail _ (.head _))) (by decide +kernel)) A9)))))
   (B2 (psF K (pv 0) (R7 (I9 K) T.af G0 (A7 (pv 1) A9)))
   (B2 (psF K (pv 0) (Q0 (N':=["name", "kind", "speakers"]) (cap:=[none,none,none]) (cl:=[]) (K1 trivial trivial) rfl (piL K (pv 2)) (fun _ _ _ _=>by exact⟨(pgT K (n:=3) (C2 (pgC 0) (C2 (pgC 1) (C2 (pgC 2) J9)))),D8,(Q7 (A7 (pv 0) (A7 (pv 1) (A7 (R7 (I9 K) T.af G0 (A7 (pv 2) A9)) A9))))⟩)))
   (B2 (psF K (pv 0) (R7 (I9 K) T.af G0 (A7 (pv 3) A9)))
   (B7 (psF K (pv 0) (R7 (I9 K) T.af G0 (A7 (pv 4) A9)))))))))))),?_⟩
  obtain⟨lp,lsa,lst,lba⟩:=ok.len;refine B6 fun N1 hN1=>?_;have hWp:=hW.hp.at_;rw[x6]at hWp;refine ex1 rfl fun base' cells kin=>⟨X6 base' T.ad.f Ap,(G9 T (Z5 T) T.ad.b).mono (by decide), "people",a,_,rfl,hWp,by rw[AA];omega,FnHere.def T.ad.F kin,fun i z hz G l Q' sG el hQ=>?_,fun H1 s1=>?_⟩
  .rw[AG]at hz;obtain⟨p,hp,rfl⟩:=BC.mp hz;have mp:=AM hp;obtain⟨p1,p2,p3⟩:=ok.pm p mp;refine⟨l,p.1,_,p.2.1,p.2.2,rfl,Z3 hW.hp.row sG el,by rw[AA,AW];omega,sG _ _ (hW.hp.row (rP p) (A_.mpr ⟨p,mp,rfl⟩)),p1,fun y=>?_,p2,p3,hQ⟩;rw[Ip]at y;unfold nP at y;rw[BU]at y;exact O3 ok.pn (by unfold nP;rw[AG,hp];rfl) y
  refine hN1 _ _ (B6 fun N2 hN2=>?_);have W1:=hW.same s1;have T1:=E7 hT s1;refine ex1 rfl ⟨T1,fun f cc H2 hf T2 hc2 hf2 nfp k2=>?_⟩;have W2:WRows H2 a b c d pe sa st ba:=W1.keep T1 k2;have hWs:=W2.hs.at_;rw[x6]at hWs;refine fun base' cells kin=>⟨X6 base' f (Ac f cc _ _ _ _ _ fun u v H Q=>Aj [.ref a,u,v] H Q E0),?F, "sayings",b,_,rfl,hWs,by rw[AA];omega,FnHere.lam hf2,fun i z hz G l Q' sG el hQ=>⟨_,_,rfl,sG _ _ hf2,sG _ _ hc2,?_⟩,fun H3 s3=>?_⟩
  case F =>
   refine G9 (k:=4) T (d9 (fr:=["people"]) (gs:=[.ref a]) ⟨rfl,rfl,rfl,rfl,by decide +kernel,by decide +kernel,by decide +kernel,by decide +kernel,by decide +kernel⟩ (cells.clos (by decide +kernel) (by decide +kernel) (by show ∀x∈_,(B4 s_Weave___init__).names.lookup x=some NameKind.cell;decide +kernel) rfl fun i x v h1 h2=>?_) fun A outer s H u v Q hr h=>⟨_,C1 T.ar (Y0 T) (Rm hr) (A7 (pv 2) (A7 (pv 0) (A7 (pv 1) A9))),ex1 rfl (ex1 rfl (ex1 rfl h))⟩) (Binds.all fun us hl=>by match us,hl with | [_,_],_=>rfl)
   match i,h1,h2 with
   | 0,h1,h2=>cases h1;cases h2;exact⟨1,rfl,rfl⟩
   | n+1,h1,_=>cases h1
  .rw[AG]at hz;obtain⟨p,hp,rfl⟩:=BC.mp hz;have mp:=AM hp;obtain⟨sk1,sk2,sk3⟩:=ok.sk p mp;have hp':(nS sa)[i]?=some p.2.1:=by unfold nS;rw[AG,hp];rfl
   refine⟨a,l,p.1,p.2.2.2.1,_,_,p.2.1,p.2.2.1,p.2.2.2.2,rfl,W2.hp.same sG,by rw[AA];omega,Z3 W2.hs.row sG el,by rw[AA,AW];omega,sG _ _ (W2.hs.row (rS p) (A_.mpr ⟨p,mp,rfl⟩)),sG _ _ (W2.sp p mp),ok.nm _ (CC _ (AM hp')),fun y=>?_,ok.kd p mp,fun y hy=>by rw[Ip];exact sk1 y hy,sk2,sk3,hQ⟩;rw[Bk]at y;unfold nS at y;rw[BU]at y;exact O3 (CI.mp ok.sn).1 hp' y
  refine hN2 _ _ (B6 fun N3 hN3=>?_);have W3:=W2.same s3;have T3:=E7 T2 s3;have k3:∀z o,H z=some o->z≠T.ac->H3 z=some o:=fun z o e n=>s3 _ _ (k2 z o (s1 _ _ e) n);clear hc2 hf2 W2 W1 T1 T2 k2 s1 s3 hWs hWp;refine ex1 rfl ⟨c,_,rfl,W3.ht,by rw[AA];omega,fun gg H4 s4 hgg egg=>?_⟩;rw[Ij]at egg;refine hN3 _ _ (B6 fun N4 hN4=>?_);have W4:=W3.same s4;have T4:=E7 T3 s4;refine ex1 rfl ⟨T4,fun f2 cc2 H5 hf T5 hc5 hf5 nfp k5=>?_⟩;have W5:WRows H5 a b c d pe sa st ba:=W4.keep T4 k5;have egg:H5 gg=some (.lst ((nT st).map V.str)):=k5 _ _ egg fun y=>by
   obtain⟨ps,e,_⟩:=T4;rw[y,e]at egg;cases egg
  have hWt:=W5.ht.at_;rw[x6]at hWt;refine fun base' cells kin=>⟨X6 base' f2 (Ac f2 cc2 _ _ _ _ _ fun u v H Q=>Aw [.ref b,.ref gg,u,v] H Q E0),?F2, "strikes",c,_,rfl,hWt,by rw[AA];omega,FnHere.lam hf5,fun i z hz G l Q' sG el hQ=>⟨_,_,rfl,sG _ _ hf5,sG _ _ hc5,?_⟩,fun H6 s6=>?_⟩
  case F2 =>
   refine G9 (k:=4) T (d9 (fr:=["sayings", "goals"]) (gs:=[.ref b,.ref gg]) ⟨rfl,rfl,rfl,rfl,by decide +kernel,by decide +kernel,by decide +kernel,by decide +kernel,by decide +kernel⟩ (cells.clos (by decide +kernel) (by decide +kernel) (by show ∀x∈_,(B4 s_Weave___init__).names.lookup x=some NameKind.cell;decide +kernel) rfl fun i x v h1 h2=>?_) fun A outer s H u v Q hr h=>⟨_,C1 T.as (X0 T) (Rm hr) (A7 (pv 2) (A7 (pv 3) (A7 (pv 0) (A7 (pv 1) A9)))),ex1 rfl (ex1 rfl (ex1 rfl (ex1 rfl h)))⟩) (Binds.all fun us hl=>by match us,hl with | [_,_],_=>rfl)
   match i,h1,h2 with
   | 0,h1,h2=>cases h1;cases h2;exact⟨2,rfl,rfl⟩
   | 1,h1,h2=>cases h1;cases h2;exact⟨5,rfl,rfl⟩
   | n+2,h1,_=>cases h1
  .rw[AG]at hz;obtain⟨p,hp,rfl⟩:=BC.mp hz;have mp:=AM hp;obtain⟨t1,t2⟩:=ok.tg p mp;have hp':(nT st)[i]?=some p.2.1:=by unfold nT;rw[AG,hp];rfl
   have mt:=AM hp';obtain⟨_,ndt,dis⟩:=CI.mp ok.sn;refine⟨b,gg,l,p.1,_,_,nT st,p.2.1,p.2.2.1,p.2.2.2,rfl,W5.hs.same sG,by rw[AA];omega,sG _ _ egg,Z3 W5.ht.row sG el,by rw[AA,AW];omega,sG _ _ (W5.ht.row (rT p) (A_.mpr ⟨p,mp,rfl⟩)),ok.nm _ (BB _ mt),fun y=>?_,fun y=>?_,by rw[Bk];exact t1,by rw[Bk];exact t2,hQ⟩
   .rw[Bk]at y;exact dis _ y _ mt rfl
   .rw[Ij]at y;unfold nT at y;rw[BU]at y;exact O3 ndt hp' y
  refine hN4 _ _ (B6 fun N5 hN5=>?_);have W6:=W5.same s6;have T6:=E7 T5 s6;have k6:∀z o,H z=some o->z≠T.ac->H6 z=some o:=fun z o e n=>s6 _ _ (k5 z o (s4 _ _ (k3 z o e n)) n);clear hc5 hf5 W5 W4 T4 T5 k5 s4 s6 hWt W3 T3 k3 egg;refine ex1 rfl ⟨T6,fun f3 cc3 H7 hf T7 hc7 hf7 nfp k7=>?_⟩;have W7:WRows H7 a b c d pe sa st ba:=W6.keep T6 k7;refine fun base' cells kin=>⟨X6 base' f3 (Ac f3 cc3 _ _ _ _ _ fun u v H Q=>Ag [.ref b,u,v] H Q E0),?F3, "backs",d,ba.map fun q=>q.1,rfl,by rw[W7.hb];unfold V4;rw[AX];rfl,by rw[AA];omega,FnHere.lam hf7,fun i z hz G l Q' sG el hQ=>⟨_,_,rfl,sG _ _ hf7,sG _ _ hc7,?_⟩,fun H8 s8=>?_⟩
  case F3 =>
   refine G9 (k:=4) T (d9 (fr:=["sayings"]) (gs:=[.ref b]) ⟨rfl,rfl,rfl,rfl,by decide +kernel,by decide +kernel,by decide +kernel,by decide +kernel,by decide +kernel⟩ (cells.clos (by decide +kernel) (by decide +kernel) (by show ∀x∈_,(B4 s_Weave___init__).names.lookup x=some NameKind.cell;decide +kernel) rfl fun i x v h1 h2=>?_) fun A outer s H u v Q hr h=>⟨_,C1 T.az (i7 T) (Rm hr) (A7 (pv 2) (A7 (pv 0) (A7 (pv 1) A9))),ex1 rfl (ex1 rfl (ex1 rfl h))⟩) (Binds.all fun us hl=>by match us,hl with | [_,_],_=>rfl)
   match i,h1,h2 with
   | 0,h1,h2=>cases h1;cases h2;exact⟨2,rfl,rfl⟩
   | n+1,h1,_=>cases h1
  .rw[AG]at hz;obtain⟨p,hp,rfl⟩:=BC.mp hz;have mp:=AM hp;obtain⟨b1,b2,b3⟩:=ok.bk p mp;have nmb:∀x∈nS sa,E6 x=true:=fun x hx=>ok.nm x (CC _ hx);have tk:∀q∈ba.take i,q∈ba:=fun q hq=>BM hq;refine⟨b,l,p.1,_,ba.take i,p.2.1,p.2.2,rfl,W7.hs.same sG,by rw[AA];omega,by rw[el,<-BU,AX];rfl,fun q hq=>sG _ _ (W7.pb q (tk q hq)),fun q hq=>⟨nmb _ (ok.bk q (tk q hq)).1,nmb _ (ok.bk q (tk q hq)).2.1⟩,sG _ _ (W7.pb p mp),nmb _ b1,nmb _ b2,fun y=>?_,by rw[Bk];exact b1,by rw[Bk];exact b2,b3,hQ⟩;rw[BU]at y;exact O3 ok.bn (by rw[AG,hp];rfl) y
  refine hN5 _ _ (B6 fun N6 hN6=>?_);have W8:=W7.same s8;have T8:=E7 T7 s8;have k8:∀z o,H z=some o->z≠T.ac->H8 z=some o:=fun z o e n=>s8 _ _ (k7 z o (k6 z o e n) n);clear hc7 hf7 W7 W6 T6 T7 k7 s8 k6;have xp:x≠T.ac:=fun y=>by
   obtain⟨ps,e,_⟩:=hT;rw[<-y,hx]at e;cases e
  have x8:=k8 _ _ hx xp;have new8:∀{z:Addr},H8 z=none->H z=none:=fun{z} h=>by
   cases y:H z with
   | none=>rfl
   | some o =>
    have ne:z≠T.ac:=fun e=>by
     obtain⟨ps,e8,_⟩:=T8;rw[e,e8]at h;cases h
    rw[k8 z o y ne]at h;cases h
  refine ex1 rfl ⟨a,_,rfl,.inl (SqL.of W8.hp.at_),fun l1 hl1=>?_⟩;have nx1:x≠l1:=B0 x8 hl1;refine ex1 rfl ⟨x,T.aa,dx,[],rfl,by rw[B3 nx1];exact x8,T.am,T.aM,by decide,?_⟩;have nin:∀{b:Addr},b≠x->b∉[x]:=fun h z=>h (AB.mp z);have k9:Sm [x] H8 (upd (upd H8 l1 (.lst ((pe.map rP).map fun q=>V.ref q.1))) x (.ins T.aa dx (K4 "people" (.ref l1) []))):=(Sm.new (Sm.refl _ _) hl1).upd (by simp);have e9:(upd (upd H8 l1 (.lst ((pe.map rP).map fun q=>V.ref q.1))) x (.ins T.aa dx (K4 "people" (.ref l1) []))) l1=some (.lst ((pe.map rP).map fun q=>V.ref q.1)):=by rw[B3 nx1.symm,A8]
  have x9:(upd (upd H8 l1 (.lst ((pe.map rP).map fun q=>V.ref q.1))) x (.ins T.aa dx (K4 "people" (.ref l1) []))) x=some (.ins T.aa dx [("people",.ref l1)]):=by rw[A8];rfl
  refine hN6 _ _ ?_;show Kk _ _ _ _ (upd (upd H8 l1 (.lst ((pe.map rP).map fun q=>V.ref q.1))) x (.ins T.aa dx (K4 "people" (.ref l1) [])));generalize upd (upd H8 l1 (.lst ((pe.map rP).map fun q=>V.ref q.1))) x (.ins T.aa dx (K4 "people" (.ref l1) []))=H9 at k9 e9 x9⊢;have W9:=W8.keepX x8 k9;have T9:=V1 T8 x8 k9;refine B6 fun N7 hN7=>?_;refine ex1 rfl ⟨b,rfl,⟨_,SqL.of W9.hs.at_⟩,fun D hD=>?_⟩;refine Y4 (asL (K:=K) (SqL.of W9.hs.at_)) (fun i σ G=>(∃v0 v1 v2,σ = [v0,v1,v2])/\Same H9 G/\∃sa':List SAr,RowsAt G D (sa'.map rS)/\(∀q∈sa',q.2.2.2.1≠D/\G q.2.2.2.1=some (.lst (q.2.2.2.2.map V.str))/\H9 q.2.2.2.1=none)/\sa'.map dS =(sa.take i).map dS)
   ⟨⟨_,_,_,rfl⟩,Same.new hD,[],⟨A8,fun q h=>absurd h AD⟩,fun q h=>absurd h AD,rfl⟩ (fun i σ G _ ⟨_,s1,_⟩=>s1.at b) ?_ ?_
  .rintro i σ G v N hv ⟨⟨v0,v1,v2,rfl⟩,sG,sa',RG,spG,dG⟩ hN;rw[AX,AG]at hv;obtain⟨p,hp,rfl⟩:=BC.mp hv;have mp:=AM hp;have li:=(AR.mp hp).1;have lsa':=congrArg List.length dG;rw[AA,AA,AW]at lsa';have ep:=sG _ _ (W9.hs.row (rS p) (A_.mpr ⟨p,mp,rfl⟩));have es:=sG _ _ (W9.sp p mp);refine⟨p.1,ex1 rfl ⟨SqT.of ep,rfl,_,ex1 rfl ⟨_,ex1 rfl (B8 rfl rfl ?_)⟩⟩⟩;dsimp only[Q3];refine U0 ?_;refine ex1 rfl (ex1 rfl (ex1 rfl ⟨p.2.2.2.1,_,rfl,.inl (SqL.of es),fun l hl=>⟨by show 3<=sizeLine;decide,fun t ht=>?_⟩⟩));have ul:=Same.new (o:=.lst (p.2.2.2.2.map V.str)) hl;have nlD:l≠D:=(B0 RG.at_ hl).symm;have ntD:t≠D:=(B0 (ul _ _ RG.at_) ht).symm;have ntl:l≠t:=B0 A8 ht;have el:(upd (upd G l (.lst (p.2.2.2.2.map V.str))) t (.tup [.str (rS p).2.1,.str p.2.2.1,.ref l])) l=some (.lst (p.2.2.2.2.map V.str)):=by rw[B3 ntl,A8]
   have et:(upd (upd G l (.lst (p.2.2.2.2.map V.str))) t (.tup [.str (rS p).2.1,.str p.2.2.1,.ref l])) t=some (.tup [.str (rS p).2.1,.str p.2.2.1,.ref l]):=A8;have ut:=ul.trans (Same.new (o:=.tup [.str (rS p).2.1,.str p.2.2.1,.ref l]) ht);generalize upd (upd G l (.lst (p.2.2.2.2.map V.str))) t (.tup [.str (rS p).2.1,.str p.2.2.1,.ref l])=G2 at el et ut⊢;have RG2:=RG.same ut;refine⟨_,RG2.at_,by rw[AA,AA,sizeLine_eq];omega,hN _ _ ⟨⟨_,_,_,rfl⟩,(sG.trans ut).upd hD,sa' ++ [(t,p.2.1,p.2.2.1,l,p.2.2.2.2)],⟨by rw[A8,AK,AK];rfl,fun z hz=>?_⟩,fun z hz=>?_,by rw[AK,dG,I0 hp,AK];rfl⟩⟩
   .rw[AK]at hz;rcases BA.mp hz with y | y
    .exact(B3 (U9 (RG2.row z y) RG2.at_ (by intro z;cases z))).trans (RG2.row z y)
    .rw[AB.mp y];exact(B3 ntD).trans et
   .rcases BA.mp hz with y | y
    .exact⟨(spG z y).1,(B3 (spG z y).1).trans (ut _ _ (spG z y).2.1),(spG z y).2.2⟩
    .rw[AB.mp y];exact⟨nlD,(B3 nlD).trans el,none_of sG.sm AD hl⟩
  .rintro σ G ⟨_,sG,sa',RG,spG,dG⟩;rw[AA,AA,BT]at dG;have x10:=sG _ _ x9;refine ex1 rfl ⟨x,T.aa,dx,_,rfl,x10,T.am,T.aK,by simp,?_⟩;have k11:Sm [x] G (upd G x (.ins T.aa dx (K4 "sayings" (.ref D) [("people",.ref l1)]))):=(Sm.refl _ _).upd (by simp);have x11:(upd G x (.ins T.aa dx (K4 "sayings" (.ref D) [("people",.ref l1)]))) x=some (.ins T.aa dx [("people",.ref l1),("sayings",.ref D)]):=by rw[A8];rfl
   have W11:=(W9.same sG).keepX x10 k11;have T11:=V1 (E7 T9 sG) x10 k11;have kx:∀{z:Addr} {o:HO},G z=some o->z≠x->(upd G x (.ins T.aa dx (K4 "sayings" (.ref D) [("people",.ref l1)]))) z=some o:=fun e n=>(B3 n).trans e;have nxl:∀{z:Addr} {xs:List V},G z=some (.lst xs)->z≠x:=fun e=>U9 e x10 (by intro z;cases z);have nxt:∀{z:Addr} {xs:List V},G z=some (.tup xs)->z≠x:=fun e=>U9 e x10 (by intro z;cases z);have p11:=kx (sG _ _ e9) (nxl (sG _ _ e9));have R11:RowsAt (upd G x (.ins T.aa dx (K4 "sayings" (.ref D) [("people",.ref l1)]))) D (sa'.map rS):=⟨kx RG.at_ (nxl RG.at_),fun q hq=>kx (RG.row q hq) (nxt (RG.row q hq))⟩;have S11:∀q∈sa',(upd G x (.ins T.aa dx (K4 "sayings" (.ref D) [("people",.ref l1)]))) q.2.2.2.1=some (.lst (q.2.2.2.2.map V.str)):=fun q hq=>kx (spG q hq).2.1 (nxl (spG q hq).2.1);have m11:Sm [x] H8 (upd G x (.ins T.aa dx (K4 "sayings" (.ref D) [("people",.ref l1)]))):=(k9.trans sG.sm).trans k11;refine hN7 _ _ ?_;generalize upd G x (.ins T.aa dx (K4 "sayings" (.ref D) [("people",.ref l1)]))=H11 at x11 W11 T11 p11 R11 S11 m11⊢;have n9:∀{z:Addr},H9 z=none->H z=none:=fun{z} h=>new8 (none_of k9 (fun y=>by rw[AB.mp y,x9]at h;cases h) h);have nD:=n9 hD;have nS':∀q∈sa',H q.2.2.2.1=none:=fun q hq=>n9 (spG q hq).2.2;clear kx nxl nxt k11 W9 T9 RG spG x10 sG hD k9 e9 n9;refine B6 fun N8 hN8=>?_;refine ex1 rfl ⟨c,_,rfl,.inl (SqL.of W11.ht.at_),fun l2 hl2=>?_⟩;have nx2:x≠l2:=B0 x11 hl2;have nl2:=new8 (none_of m11 (fun y=>nx2 (AB.mp y).symm) hl2);refine ex1 rfl ⟨x,T.aa,dx,_,rfl,by rw[B3 nx2];exact x11,T.am,T.aL,by simp,?_⟩;have k12:Sm [x] H11 (upd (upd H11 l2 (.lst ((st.map rT).map fun q=>V.ref q.1))) x (.ins T.aa dx (K4 "strikes" (.ref l2) [("people",.ref l1),("sayings",.ref D)]))):=(Sm.new (Sm.refl _ _) hl2).upd (by simp);have e12:(upd (upd H11 l2 (.lst ((st.map rT).map fun q=>V.ref q.1))) x (.ins T.aa dx (K4 "strikes" (.ref l2) [("people",.ref l1),("sayings",.ref D)]))) l2=some (.lst ((st.map rT).map fun q=>V.ref q.1)):=by rw[B3 nx2.symm,A8]
   have x12:(upd (upd H11 l2 (.lst ((st.map rT).map fun q=>V.ref q.1))) x (.ins T.aa dx (K4 "strikes" (.ref l2) [("people",.ref l1),("sayings",.ref D)]))) x=some (.ins T.aa dx [("people",.ref l1),("sayings",.ref D),("strikes",.ref l2)]):=by rw[A8];rfl
   refine hN8 _ _ ?_;show Kr _ _ _ _ _ _ (upd (upd H11 l2 (.lst ((st.map rT).map fun q=>V.ref q.1))) x (.ins T.aa dx (K4 "strikes" (.ref l2) [("people",.ref l1),("sayings",.ref D)])));generalize upd (upd H11 l2 (.lst ((st.map rT).map fun q=>V.ref q.1))) x (.ins T.aa dx (K4 "strikes" (.ref l2) [("people",.ref l1),("sayings",.ref D)]))=H12 at k12 e12 x12⊢;have W12:=W11.keepX x11 k12;have T12:=V1 T11 x11 k12;have kx:∀{z:Addr} {o:HO},H11 z=some o->z≠x->H12 z=some o:=fun e n=>k12 _ _ e (nin n);have nxl:∀{z:Addr} {xs:List V},H11 z=some (.lst xs)->z≠x:=fun e=>U9 e x11 (by intro z;cases z);have nxt:∀{z:Addr} {xs:List V},H11 z=some (.tup xs)->z≠x:=fun e=>U9 e x11 (by intro z;cases z);have p12:=kx p11 (nxl p11);have R12:RowsAt H12 D (sa'.map rS):=⟨kx R11.at_ (nxl R11.at_),fun q hq=>kx (R11.row q hq) (nxt (R11.row q hq))⟩;have S12:∀q∈sa',H12 q.2.2.2.1=some (.lst (q.2.2.2.2.map V.str)):=fun q hq=>kx (S11 q hq) (nxl (S11 q hq));have m12:=m11.trans k12;clear kx nxl nxt p11 R11 S11 W11 T11 k12 m11 x11;refine ex1 rfl ⟨d,_,rfl,.inl (SqL.of W12.hb),fun l3 hl3=>?_⟩;have nx3:x≠l3:=B0 x12 hl3;have nl3:=new8 (none_of m12 (fun y=>nx3 (AB.mp y).symm) hl3);refine ex1 rfl ⟨x,T.aa,dx,_,rfl,by rw[B3 nx3];exact x12,T.am,T.aN,by simp,?_⟩;have k13:Sm [x] H12 (upd (upd H12 l3 (.lst (V4 ba))) x (.ins T.aa dx (K4 "backs" (.ref l3) [("people",.ref l1),("sayings",.ref D),("strikes",.ref l2)]))):=(Sm.new (Sm.refl _ _) hl3).upd (by simp);have e13:(upd (upd H12 l3 (.lst (V4 ba))) x (.ins T.aa dx (K4 "backs" (.ref l3) [("people",.ref l1),("sayings",.ref D),("strikes",.ref l2)]))) l3=some (.lst (V4 ba)):=by rw[B3 nx3.symm,A8]
   have x13:(upd (upd H12 l3 (.lst (V4 ba))) x (.ins T.aa dx (K4 "backs" (.ref l3) [("people",.ref l1),("sayings",.ref D),("strikes",.ref l2)]))) x=some (.ins T.aa dx (wfW l1 D l2 l3)):=by rw[A8];rfl
   show Q .non (upd (upd H12 l3 (.lst (V4 ba))) x (.ins T.aa dx (K4 "backs" (.ref l3) [("people",.ref l1),("sayings",.ref D),("strikes",.ref l2)])));generalize upd (upd H12 l3 (.lst (V4 ba))) x (.ins T.aa dx (K4 "backs" (.ref l3) [("people",.ref l1),("sayings",.ref D),("strikes",.ref l2)]))=H13 at k13 e13 x13⊢;have kx:∀{z:Addr} {o:HO},H12 z=some o->z≠x->H13 z=some o:=fun e n=>k13 _ _ e (nin n);have nxl:∀{z:Addr} {xs:List V},H12 z=some (.lst xs)->z≠x:=fun e=>U9 e x12 (by intro z;cases z);have nxt:∀{z:Addr} {xs:List V},H12 z=some (.tup xs)->z≠x:=fun e=>U9 e x12 (by intro z;cases z);refine q sa' H13 (fun z o e n=>?_) (V1 T12 x12 k13) dG ⟨dx,l1,D,l2,l3,x13,⟨⟨kx p12 (nxl p12),fun q hq=>kx (W12.hp.row q hq) (nxt (W12.hp.row q hq))⟩,⟨kx R12.at_ (nxl R12.at_),fun q hq=>kx (R12.row q hq) (nxt (R12.row q hq))⟩,fun q hq=>kx (S12 q hq) (nxl (S12 q hq)),⟨kx e12 (nxl e12),fun q hq=>kx (W12.ht.row q hq) (nxt (W12.ht.row q hq))⟩,e13,fun q hq=>kx (W12.pb q hq) (nxt (W12.pb q hq))⟩,new8 hl1,nD,nl2,nl3,nS'⟩;have nz:z≠x/\z≠T.ac:=by simpa using n
   exact kx (m12 _ _ (k8 z o e nz.2) (nin nz.1)) nz.1
theorem b9:FnScope ["_law_cell", "_law_k", "_law_m"] ["_law_cell", "_law_k"] (B4 s_law_mix):=fsc
def Im:Sp:=fun vs H Q _=>∃(cell k:Int),vs = [.int cell,.int k]/\0<=k/\k<=2000000/\∀m:Int,0<=m->m<1999999973->Q (.int m) H
theorem Bh(T:Tx K mg):FnOk P w K mg base CX0 1 T.aE.f T.aE.fd ["_law_cell", "_law_k"] Im:=by
 have sc:=b9;refine T.aE.F.ok b9 (fun vs H Q E h=>?_) (fun cdv A outer s H vs Q E hr h=>?_)
 .obtain⟨c,k,rfl,_⟩:=h;rfl
 .obtain⟨cell,k,rfl,k0,k1,q⟩:=h;refine⟨_,(B2 (C7 (i:=2) sc.nd rfl (.inl rfl) (D7 q9 (D7 a7 (D7 U1 (D7 U1 (D7 q9 (pv 0) B1) (D7 a7 (D7 a7 (pv 1) (pv 1)) B1)) B1) B1) B1))
   (B7 (C4 (D7 q9 (D7 a7 (pv 2) (pv 2)) B1)))),?_⟩
  refine ex1 rfl (B8 rfl rfl ⟨(show(0:Int)<2147483629 by decide),ex1 rfl (ex1 rfl (B8 rfl rfl ⟨.inl ⟨by omega,by omega⟩,B8 rfl rfl ⟨.inr ⟨by decide,by decide⟩,B8 rfl rfl (B8 rfl rfl (B8 rfl rfl ⟨.inr ⟨by decide,by decide⟩,B8 rfl rfl ⟨(show(0:Int)<2147483647 by decide),?_⟩⟩))⟩⟩))⟩);generalize hm:(cell % 2147483629+k*k*7919+11)*48271 % 2147483647=m;have h1:0<=m:=by rw[<-hm];exact Int.emod_nonneg _ (by decide)
  have h2:m<2147483647:=by rw[<-hm];exact CU _ (by decide)
  exact⟨_,rfl,_,rfl,_,_,rfl,rfl,.inl ⟨by omega,by omega⟩,_,_,rfl,rfl,(show(0:Int)<1999999973 by decide),q _ (Int.emod_nonneg _ (by decide)) (CU _ (by decide))⟩
def LeftAt(H:Hp)(p:Addr)(c:Int):Prop:=∃a b:Int,H p=some (.lst [.int a,.int b,.int c])/\0<=c
theorem LeftAt.isS{H:Hp}{p:Addr}{c:Int}(h:LeftAt H p c):(H p).isSome=true:=by
 obtain⟨_,_,e,_⟩:=h;rw[e];rfl
theorem LeftAt.get{H:Hp}{p:Addr}{c:Int}(h:LeftAt H p c):H p=some ((H p).get h.isS):=(Option.some_get _).symm
theorem LeftAt.cast{H:Hp}{p:Addr}{c c':Int}(h:LeftAt H p c)(e:c=c'):LeftAt H p c':=e▸h
theorem LeftAt.upd{H:Hp}{p a:Addr}{c:Int}{o:HO}(h:LeftAt H p c)(n:p≠a):LeftAt (L2.upd H a o) p c:=by
 obtain⟨x,y,e,z⟩:=h;exact⟨x,y,by rw[B3 n];exact e,z⟩
theorem LeftAt.same{H H':Hp}{p:Addr}{c:Int}(h:LeftAt H p c)(s:Same H H'):LeftAt H' p c:=by
 obtain⟨x,y,e,z⟩:=h;exact⟨x,y,s _ _ e,z⟩
theorem Lp(c:Bool):-(2^64) <(if c=true then(1:Int)else 0)/\(if c=true then(1:Int)else 0)<2^64:=by cases c<;>exact⟨by decide,by decide⟩
theorem X2:FnScope ["_law_script", "_law_k", "_law_cell"] ["_law_script", "_law_k"] (B4 s_law_left):=fsc
def Hl(K:PySem.W.Frag):Sp:=fun vs H Q _=>∃(p:Addr) (xs:List Int) (k:Nat),vs = [.ref p,.int (k:Int)]/\SqL K H p (xs.map V.int)/\k<=1000/\∀l H',H l=none->Same H H'->LeftAt H' l 0->Q (.ref l) H'
theorem z7(T:Tx K mg):FnOk P w K mg base CX0 1 T.aF.f T.aF.fd ["_law_script", "_law_k"] (Hl K):=by
 have sc:=X2;refine T.aF.F.ok X2 (fun vs H Q E h=>?_) (fun cdv A outer s H vs Q E hr h=>?_)
 .obtain⟨p,xs,k,rfl,_⟩:=h;rfl
 .obtain⟨p,xs,k,rfl,hS,hk,q⟩:=h;refine⟨_,(B2 (C7 (i:=2) sc.nd rfl (.inl rfl) (En (D9 Lb (pv 1) (F9 (K2 K) T.ai J3 (A7 (pv 0) A9)) (F6 _)) (C3 (ixL K) (pv 0) (pv 1) (fun _ _=>rfl)) B1))
   (B7 (C4 (D6 (A7 (D7 a7 (F9 Ab T.a0 Fr (A7 (pv 2) A9)) (R7 Dx T.a1 Fy (A7 (F7 Lh (F9 Ab T.a0 Fr (A7 (pv 2) A9)) (D7 Ix B1 B1) (F6 _)) A9))) (A7 (D7 U1 (pv 2) (D7 a7 B1 (pv 1))) (A7 B1 A9))))))),?_⟩
  refine ex1 rfl (ex1 rfl (B8 (a:=p) rfl (.inl hS) (B8 rfl rfl (ex1 rfl ?_))));have at1:decide ((k:Int) <((xs.map V.int).length:Int))=true->∃c:Int,atI (xs.map V.int) (k:Int)=some (.int c):=fun c1=>by
   have c1:(k:Int) <((xs.map V.int).length:Int):=BW c1;rw[AA]at c1;have hk':xs[k]?=some (xs[k]'(by omega)):=AQ (by omega);exact⟨_,B5 (by rw[AG,hk'];rfl)⟩
  refine x2 (fun c1=>?_) (fun c1=>?_)
  .obtain⟨c,hc⟩:=at1 c1;refine ex1 rfl (ex1 rfl ⟨p,_,B8 rfl rfl ⟨hS,hc,?_⟩⟩)
   (repeat first | refine⟨_,rfl,?_⟩ | refine⟨_,_,rfl,rfl,?_⟩)
   refine⟨⟨by decide,by decide,by decide⟩,?_⟩
   (repeat first | refine⟨_,rfl,?_⟩ | refine⟨_,_,rfl,rfl,?_⟩)
   refine .inr ⟨_,rfl,?_⟩
   (repeat first | refine⟨_,rfl,?_⟩ | refine⟨_,_,rfl,rfl,?_⟩)
   refine⟨.inr ?_,?_⟩
   .exact Lp _
   (repeat first | refine⟨_,rfl,?_⟩ | refine⟨_,_,rfl,rfl,?_⟩)
   refine⟨.inl ⟨by decide,by decide⟩,?_⟩
   (repeat first | refine⟨_,rfl,?_⟩ | refine⟨_,_,rfl,rfl,?_⟩)
   exact⟨by show 3<=sizeLine;decide,fun l hl=>q l _ hl (Same.new hl) ⟨_,_,A8,by decide⟩⟩
  .skip;(repeat first | refine⟨_,rfl,?_⟩ | refine⟨_,_,rfl,rfl,?_⟩)
   refine⟨⟨by decide,by decide,by decide⟩,?_⟩
   (repeat first | refine⟨_,rfl,?_⟩ | refine⟨_,_,rfl,rfl,?_⟩)
   refine .inr ⟨_,rfl,?_⟩
   (repeat first | refine⟨_,rfl,?_⟩ | refine⟨_,_,rfl,rfl,?_⟩)
   refine⟨.inr ?_,?_⟩
   .exact Lp _
   (repeat first | refine⟨_,rfl,?_⟩ | refine⟨_,_,rfl,rfl,?_⟩)
   refine⟨.inl ⟨by decide,by decide⟩,?_⟩
   (repeat first | refine⟨_,rfl,?_⟩ | refine⟨_,_,rfl,rfl,?_⟩)
   exact⟨by show 3<=sizeLine;decide,fun l hl=>q l _ hl (Same.new hl) ⟨_,_,A8,by decide⟩⟩
theorem V3:FnScope ["_law_left_here", "_law_many", "_law_digit"] ["_law_left_here", "_law_many"] (B4 s_law_pick):=fsc
def Hk:Sp:=fun vs H Q _=>∃(p:Addr) (c many:Int),vs = [.ref p,.int many]/\LeftAt H p c/\c<=1000000/\0<many/\many<=1000000 /\
 ∀(d:Nat) H',(d:Int)<many->Sm [p] H H'->LeftAt H' p (c+1)->Q (.int (d:Int)) H'
theorem E9(T:Tx K mg):FnOk P w K mg base CX0 2 T.ab.f T.ab.fd ["_law_left_here", "_law_many"] Hk:=by
 have G_law_mix:=Bh (P:=P) (w:=w) (base:=base) T;have sc:=V3;refine T.ab.F.ok V3 (fun vs H Q E h=>?_) (fun cdv A outer s H vs Q E hr h=>?_)
 .obtain⟨p,c,m,rfl,_⟩:=h;rfl
 .obtain⟨p,c,many,rfl,⟨a,b,e,c0⟩,c1,m0,m1,q⟩:=h;refine⟨_,(B2 (Dr (D7 U1 (C3 (ixL K) (pv 0) B1 (fun _ _=>rfl)) B1) (Cf (pv 0) B1 g9))
   (B2 (O8 (D9 Fo (C3 (ixL K) (pv 0) B1 (fun _ _=>rfl)) B1 (F6 _)) (B2 (C7 (i:=2) sc.nd rfl (.inl rfl) (D7 q9 (C3 (ixL K) (pv 0) B1 (fun _ _=>rfl)) (pv 1)))
   (B2 (Dr (D7 Cr (C3 (ixL K) (pv 0) B1 (fun _ _=>rfl)) (pv 1)) (Cf (pv 0) B1 g9))
   (B7 (C4 (pv 2))))) E5)
   (B7 (C4 (D7 q9 (D7 Cr (C1 T.aE G_law_mix (Rm hr) (A7 (C1 T.aE G_law_mix (Rm hr) (A7 (C3 (ixL K) (pv 0) B1 (fun _ _=>rfl)) (A7 (C3 (ixL K) (pv 0) B1 (fun _ _=>rfl)) A9))) (A7 (D7 U1 (C3 (ixL K) (pv 0) B1 (fun _ _=>rfl)) B1) A9))) B1) (pv 1)))))),?_⟩
  have nn:∀d:Int,0<=d->d<many->∀a' b',Q (.int d) (upd (upd H p (.lst [.int a,.int b,.int (c+1)])) p (.lst [.int a',.int b',.int (c+1)]))/\Q (.int d) (upd H p (.lst [.int a',.int b',.int (c+1)])):=fun d h0 h1 a' b'=>by
   obtain⟨n,rfl⟩:=Int.eq_ofNat_of_zero_le h0;exact⟨q n _ h1 (((Sm.refl _ _).upd (by simp)).upd (by simp)) ⟨a',b',A8,by omega⟩,q n _ h1 ((Sm.refl _ _).upd (by simp)) ⟨a',b',A8,by omega⟩⟩
  refine ex1 rfl ⟨p,_,B8 rfl rfl ⟨SqL.of e,rfl,B8 rfl rfl (ex1 rfl ⟨p,_,_,2,rfl,rfl,e,rfl,?_⟩)⟩⟩;refine ex1 rfl ⟨p,_,B8 rfl rfl ⟨SqL.of A8,rfl,B8 rfl rfl (ex1 rfl ?_)⟩⟩;refine x2 (fun h1=>?_) (fun h1=>?_)
  .have h1:(0:Int)<a:=BW h1;refine ex1 rfl ⟨p,_,B8 rfl rfl ⟨SqL.of A8,rfl,ex1 rfl (B8 rfl rfl ⟨m0,?_⟩)⟩⟩;refine ex1 rfl ⟨p,_,B8 rfl rfl ⟨SqL.of A8,rfl,ex1 rfl (B8 rfl rfl ⟨⟨m0,by omega⟩,ex1 rfl ⟨p,_,_,0,rfl,rfl,A8,rfl,?_⟩⟩)⟩⟩;exact⟨_,rfl,(nn _ (Int.emod_nonneg _ (by omega)) (CU _ m0) _ _).1⟩
  .refine ex1 rfl ⟨p,_,B8 rfl rfl ⟨SqL.of A8,rfl,ex1 rfl ⟨p,_,B8 rfl rfl ⟨SqL.of A8,rfl,_,ex1 rfl ⟨by omega,by omega,fun m2 h2 h3=>?_⟩⟩⟩⟩⟩;refine ex1 rfl ⟨p,_,B8 rfl rfl ⟨SqL.of A8,rfl,B8 rfl rfl ⟨_,ex1 rfl ⟨by omega,by omega,fun m3 h4 h5=>?_⟩⟩⟩⟩;refine B8 rfl rfl ⟨⟨by decide,by decide⟩,ex1 rfl (B8 rfl rfl ⟨m0,?_⟩)⟩;exact(nn _ (Int.emod_nonneg _ (by omega)) (CU _ m0) _ _).2
end
theorem six{d n:Nat}(h:d<n):seqIndex? (d:Int) n=some d:=by
 unfold seqIndex?;simp;omega
theorem erase_perm{α:Type}{l:List α}{i:Nat}{x:α}(h:l[i]?=some x):(x::l.eraseIdx i).Perm l:=ST.erase_perm h
theorem p8{α β:Type}(f:α->β):∀(l:List α) (i:Nat),(l.map f).eraseIdx i =(l.eraseIdx i).map f
 | [],_=>rfl
 | _::_,0=>rfl
 | a::l,i+1=>by
  show f a ::(l.map f).eraseIdx i=f a ::(l.eraseIdx i).map f;rw[p8 f l i]
theorem names_of{all rest got:List Str}(pm:(rest++got).Perm all)(h1:∀x∈all,E6 x=true)(h2:all.Nodup)(h3:all.length<=100):O1 got:=by
 refine⟨fun x hx=>h1 x (pm.mem_iff.mp (BB _ hx)),?_,?_⟩
 .exact(CI.mp (pm.nodup_iff.mpr h2)).2.1
 .have:=pm.length_eq;rw[AO]at this;omega
theorem Ei{all rest got:List Str}{d:Nat}{x:Str}(pm:(rest++got).Perm all)(h:rest[d]?=some x):(rest.eraseIdx d ++(got ++ [x])).Perm all:=by
 refine List.Perm.trans ?_ pm;rw[<-CZ];refine List.perm_append_comm.trans ?_;rw[<-CZ];exact(erase_perm h).append_right got
theorem Sm1{p b:Addr}{H H':Hp}{o:HO}(h:Sm [p] H H')(e:H b=some o)(n:b≠p):H' b=some o:=h b o e fun z=>n (AB.mp z)
theorem z5(l:List Str):∀acc:Array Nat,(List.foldl (fun acc (p:Str)=>acc ++("":Str).cps++p.cps) acc l).toList=acc.toList++l.flatMap fun y=>y.cps.toList:=by
 induction l with
 | nil=>intro acc;simp
 | cons y r ih =>
  intro acc;rw[List.foldl_cons,ih,List.flatMap_cons,<-CZ];have e:("":Str).cps = #[]:=rfl;rw[e,Array.append_empty,Array.toList_append]
theorem j5(cs:List Nat):(Txt.join "" (cs.map fun c=>(⟨#[c]⟩:Str))).cps.toList=cs:=by
 unfold Txt.join Builtin.Str.glued;cases cs with
 | nil=>rfl
 | cons c r =>
  rw[BL,List.drop_succ_cons,List.drop_zero];refine(z5 _ _).trans ?_;have e:∀r:List Nat,((r.map fun c=>(⟨#[c]⟩:Str)).flatMap fun y=>y.cps.toList)=r:=fun r=>by
   induction r with
   | nil=>rfl
   | cons a t ih=>rw[BL,List.flatMap_cons,ih];rfl
  rw[e];rfl
theorem Dj{cs:List Nat}(h:∀c∈cs,Db c=true)(h1:1<=cs.length)(h2:cs.length<=8):E6 (Txt.join "" (cs.map fun c=>(⟨#[c]⟩:Str)))=true:=by
 have l:(Txt.join "" (cs.map fun c=>(⟨#[c]⟩:Str))).length=cs.length:=by
  unfold Str.length;rw[<-BP,j5]
 unfold E6;rw[l,j5,AJ h1,AJ h2,B_.mpr h];rfl
abbrev lets:Str := "abcdefghijklmnopqrstuvwxyz"
theorem Hg{d:Nat}(h:d<26):∃c,atI lets.cps.toList (d:Int)=some c/\Db c=true:=by
 refine⟨97+d,B5 ?_,?_⟩
 .rw[Z0,List.getElem?_range' (by omega)];simp
 .unfold Db;rw[AJ (by omega),AJ (by omega)];rfl
section
variable{P:Program}{w:World}{K:PySem.W.Frag}{mg:Str->Option Value}{base:Heap}
theorem L6:FnScope ["_law_left_here", "_law_letters"] ["_law_left_here"] (B4 s_law_any_name):=fsc
def y7:Sp:=fun vs H Q _=>∃(p:Addr) (c:Int),vs = [.ref p]/\LeftAt H p c/\c<=900000/\∀x c' H',Sm [p] H H'->E6 x=true->c'<=c+9->LeftAt H' p c'->Q (.str x) H'
set_option maxHeartbeats 2000000 in
theorem X8(T:Tx K mg):FnOk P w K mg base CX0 3 T.aw.f T.aw.fd ["_law_left_here"] y7:=by
 have G_law_pick:=E9 (P:=P) (w:=w) (base:=base) T;have sc:=L6;refine T.aw.F.ok L6 (fun vs H Q E h=>?_) (fun cdv A outer s H vs Q E hr h=>?_)
 .obtain⟨p,c,rfl,_⟩:=h;rfl
 .obtain⟨p,c,rfl,hL,c1,q⟩:=h;refine⟨_,(B2 (C7 (i:=1) sc.nd rfl (.inr rfl) C5)
   (B7 (C4 (j0 K PySem.F.plainAttrs_str PySem.F.slot_str_join PySem.F.type_str_join (P9 K) C5 (A7 (Q0 (N':=["_law_turn", "_law_letters", "_law_left_here"]) (cap:=[none,some 1,some 0]) (cl:=[("_law_letters",_),("_law_left_here",_)]) (K1 ⟨⟨rfl,rfl,rfl,rfl⟩,⟨⟨rfl,rfl,rfl,rfl⟩,trivial⟩⟩ ⟨rfl,⟨rfl,trivial⟩⟩) rfl (Gu T.aq (A7 (D7 U1 B1 (C1 T.ab G_law_pick (Rm hr) (A7 (pv 0) (A7 B1 A9)))) A9)) (fun _ _ _ _=>by exact⟨(pgC 0),D8,(C3 Jo (pv 1) (C1 T.ab G_law_pick (Rm hr) (A7 (pv 2) (A7 B1 A9))) (fun _ _=>rfl))⟩)) A9))))),?_⟩
  refine⟨rfl,?_⟩;refine ex1 rfl (J1 (a:=p) rfl hL (by omega) (by decide) (by decide) fun m H1 hm k1 L1=>B8 rfl rfl (ex1 rfl ⟨by omega,by omega,fun D hD=>?_⟩));rw[show((1:Int) +(m:Int)).toNat=1+m by omega];have npD:p≠D:=B0 L1.get hD;refine p6 (n:=1+m) (fun i σ H2=>(∃v,σ = [v,some (.str lets),some (.ref p)])/\Sm [p] H1 H2/\LeftAt H2 p (c+1+i)/\∃cs:List Nat,H2 D=some (.lst ((cs.map fun c=>(⟨#[c]⟩:Str)).map V.str))/\cs.length=i/\∀c∈cs,Db c=true) ?_ (fun i _ _ hi _=>hi) (fun _ _ _=>AL _) ?_ ?_
  .exact⟨⟨_,rfl⟩,(Same.new hD).sm,(L1.cast (by omega)).upd npD,[],A8,rfl,fun c h=>absurd h (AD)⟩
  .rintro i σ H2 v H' N hi ⟨⟨v0,rfl⟩,k2,L2,cs,eD,hl,hc⟩ ⟨rfl,rfl⟩ hN;refine o5 ?_;refine ex1 rfl (ex1 rfl (J1 (a:=p) rfl L2 (by omega) (by decide) (by decide) fun d H3 hd k3 L3=>?_));obtain⟨a,ha,hb⟩:=Hg (d:=d) (by omega);refine⟨lets,_,a,rfl,rfl,by decide,ha,_,Sm1 k3 eD npD.symm,?_,hN _ _ ⟨⟨_,rfl⟩,(k2.trans k3).updN hD,(L3.cast (by omega)).upd npD,cs ++ [a],?_,?_,?_⟩⟩
   .rw[AA,AA,sizeLine_eq];omega
   .rw[A8,AK,AK];rfl
   .rw[AO,hl];rfl
   .intro y hy;rcases BA.mp hy with z | z
    .exact hc y z
    .rw[AB.mp z];exact hb
  .rintro σ H2 ⟨⟨v0,rfl⟩,k2,L2,cs,eD,hl,hc⟩;refine⟨"",D,_,rfl,rfl,SqL.of eD,?_,q _ _ _ (k1.trans k2) (Dj hc (by omega) (by omega)) (by omega) L2⟩;have e:((cs.map fun c=>(⟨#[c]⟩:Str)).map fun x=>x.length)=cs.map fun _=>1:=by rw[AX];rfl
   rw[e,List.map_const',List.sum_replicate_nat,AA,show("":Str).length=0 from rfl];omega
end
theorem Ea{ts:List Str}{i:Nat}{x:Str}(h:O1 ts)(hi:i<ts.length)(hx:E6 x=true)(hn:x∉ts):O1 (ts.set i x):=by
 obtain⟨h1,h2,h3⟩:=h;refine⟨fun y hy=>?_,?_,by rw[List.length_set];exact h3⟩
 .rcases List.mem_or_eq_of_mem_set hy with z | z
  .exact h1 y z
  .rw[z];exact hx
 .rw[List.set_eq_take_append_cons_drop,BJ hi];refine(List.perm_middle.nodup_iff).mpr ?_;rw[<-List.eraseIdx_eq_take_drop_succ];have sb:=List.eraseIdx_sublist ts i;exact BR.mpr ⟨fun z=>hn (sb.subset z),sb.nodup h2⟩
section
variable{P:Program}{w:World}{K:PySem.W.Frag}{mg:Str->Option Value}{base:Heap}
theorem P3:FnScope ["_law_left_here", "_law_names", "_law_found", "_law_k", "_law_name"] ["_law_left_here", "_law_names"] (B4 s_law_spelled):=fsc
def Br:Sp:=fun vs H Q _=>∃(p n:Addr) (c:Int) (ss:List Str),vs = [.ref p,.ref n]/\LeftAt H p c/\c<=890000/\H n=some (.lst (ss.map V.str))/\O1 ss/\ss.length<=30 /\
 ∀l (ts:List Str) c' H',H l=none->Sm [p] H H'->H' l=some (.lst (ts.map V.str))->O1 ts->ts.length=ss.length->c'<=c+400->LeftAt H' p c'->Q (.ref l) H'
set_option maxHeartbeats 2000000 in
theorem P2(T:Tx K mg):FnOk P w K mg base CX0 4 T.an.f T.an.fd ["_law_left_here", "_law_names"] Br:=by
 have G_law_pick:=E9 (P:=P) (w:=w) (base:=base) T;have G_law_any_name:=X8 (P:=P) (w:=w) (base:=base) T;have sc:=P3;refine T.an.F.ok P3 (fun vs H Q E h=>?_) (fun cdv A outer s H vs Q E hr h=>?_)
 .obtain⟨p,n,c,ss,rfl,_⟩:=h;rfl
 .obtain⟨p,n,c,ss,rfl,hL,c1,hn,hN,hlen,q⟩:=h;refine⟨_,(B2 (C7 (i:=2) sc.nd rfl (.inl rfl) (R7 (I9 K) T.af G0 (A7 (pv 1) A9)))
   (B2 (O8 (D9 Fo (C1 T.ab G_law_pick (Rm hr) (A7 (pv 0) (A7 B1 A9))) B1 (F6 _)) (B7 (C4 (pv 2))) E5)
   (B2 (U7 PassesOwn.never rfl (Gu T.aq (A7 (F9 (K2 K) T.ai J3 (A7 (pv 2) A9)) A9)) (J5 (i:=3) sc.nd rfl (.inl rfl))
   (B2 (C7 (i:=4) sc.nd rfl (.inl rfl) (C1 T.aw G_law_any_name (Rm hr) (A7 (pv 0) A9)))
   (B7 (O8 (PW.pt (Cj (D9 (An K) (pv 4) (pv 2) rfl) (z4 (D9 Bi (C1 T.ab G_law_pick (Rm hr) (A7 (pv 0) (A7 B1 A9))) B1 (F6 _))))) (B7 (Dr (pv 4) (Cf (pv 2) (pv 3) g9))) E5))))
   (B7 (C4 (pv 2)))))),?_⟩
  refine B6 fun N1 hN1=>?_;refine ex1 rfl ⟨n,ex1 rfl ⟨.inl (SqL.of hn),fun l hl=>?_⟩⟩;have s1:=Same.new (o:=.lst (ss.map V.str)) hl;have e1:(upd H l (.lst (ss.map V.str))) l=some (.lst (ss.map V.str)):=A8;have L1:=hL.same s1;have npl:p≠l:=B0 hL.get hl;generalize upd H l (.lst (ss.map V.str))=H1 at s1 e1 L1⊢;refine hN1 _ _ (B6 fun N2 hN2=>?_);refine ex1 rfl (J1 (a:=p) rfl L1 (by omega) (by decide) (by decide) fun d H2 hd k2 L2=>B8 rfl rfl (ex1 rfl ?_));have e2:=Sm1 k2 e1 npl.symm;refine x2 (fun _=>ex1 rfl (q l ss _ H2 hl (s1.sm.trans k2) e2 hN rfl (by omega) L2)) (fun _=>hN2 _ _ (B6 fun N3 hN3=>?_));refine ex1 rfl (B8 (a:=l) rfl (.inl (SqL.of e2)) (ex1 rfl ⟨by omega,by rw[AA];omega,?_⟩));rw[BV,AA];refine O6 (fun i σ H3=>(∃v3 v4,σ = [some (.ref p),some (.ref n),some (.ref l),v3,v4])/\Sm [p] H H3/\(∃c',c'<=c+1+10*i/\LeftAt H3 p c')/\∃ts:List Str,H3 l=some (.lst (ts.map V.str))/\O1 ts/\ts.length=ss.length) ?_ ?_ ?_
  .exact⟨⟨_,_,rfl⟩,s1.sm.trans k2,⟨_,by omega,L2⟩,ss,e2,hN,rfl⟩
  .rintro i σ H3 hi ⟨⟨v3,v4,rfl⟩,k3,⟨c3,hc3,L3⟩,ts,e3,N3',len3⟩ D1 hD1 _;rw[Int.zero_add];refine Hh fun M1 hM1=>?_;refine ex1 rfl ⟨p,_,rfl,L3,by omega,fun x c4 H4 k4 hx hc4 L4=>?_⟩;have e4:=Sm1 k4 e3 npl.symm;refine hM1 _ _ ?_;refine ex1 rfl (ex1 rfl (a8 (.inl (SqL.of e4)) ⟨_,rfl,?_⟩));refine x2 (fun h5=>?_) (fun h5=>Ad (hD1 _ _ ⟨⟨_,_,rfl⟩,k3.trans k4,⟨c4,by omega,L4⟩,ts,e4,N3',len3⟩));have h5':x∉ts:=by simpa using h5
   refine ex1 rfl (J1 (a:=p) rfl L4 (by omega) (by decide) (by decide) fun d1 H5 hd1 k5 L5=>⟨rfl,_,rfl,?_⟩);have e5:=Sm1 k5 e4 npl.symm;refine x2 (fun h6=>?_) (fun h6=>hD1 _ _ ⟨⟨_,_,rfl⟩,(k3.trans k4).trans k5,⟨_,by omega,L5⟩,ts,e5,N3',len3⟩);have hi':i<ts.length:=by omega
   refine ex1 rfl (ex1 rfl (ex1 rfl ⟨l,_,_,i,rfl,rfl,e5,?_,hD1 _ _ ⟨⟨_,_,rfl⟩,((k3.trans k4).trans k5).updN hl,⟨_,?_,L5.upd npl⟩,ts.set i x,?_,Ea N3' hi' hx h5',by rw[List.length_set];exact len3⟩⟩))
   .unfold ixN;rw[AA,BJ (by omega),BJ (by omega),BV]
   .omega
   .rw[A8,List.map_set]
  .rintro σ H3 ⟨⟨v3,v4,rfl⟩,k3,⟨c3,hc3,L3⟩,ts,e3,N3',len3⟩;exact hN3 _ _ (ex1 rfl (q l ts _ H3 hl k3 e3 N3' len3 (by omega) L3))
def all30:List Str:=["b", "aa", "zebra", "c", "quartzes", "ab", "m", "knows", "d", "mm", "likes", "z", "a", "ba", "abcdefgh", "y", "zz", "e", "x", "f", "g", "hh", "i", "jj", "k", "ll", "say", "strike", "fact", "back"]
abbrev txt20:Str := "b aa zebra c quartzes ab m knows d mm likes z a ba abcdefgh y zz e x f"
abbrev txt10:Str := "g hh i jj k ll say strike fact back"
abbrev txt8:Str := "b aa zebra cy quartzes eve m knows"
def all20:List Str:=["b", "aa", "zebra", "c", "quartzes", "ab", "m", "knows", "d", "mm", "likes", "z", "a", "ba", "abcdefgh", "y", "zz", "e", "x", "f"]
def all10:List Str:=["g", "hh", "i", "jj", "k", "ll", "say", "strike", "fact", "back"]
def all8:List Str:=["b", "aa", "zebra", "cy", "quartzes", "eve", "m", "knows"]
theorem Gn:Builtin.Str.partsBetween txt20 (Builtin.Str.occurrences txt20 " " 0 txt20.length (txt20.length+1)) (" ":Str).length=all20:=by decide +kernel
theorem Gm:Builtin.Str.partsBetween txt10 (Builtin.Str.occurrences txt10 " " 0 txt10.length (txt10.length+1)) (" ":Str).length=all10:=by decide +kernel
theorem Iq:Builtin.Str.partsBetween txt8 (Builtin.Str.occurrences txt8 " " 0 txt8.length (txt8.length+1)) (" ":Str).length=all8:=by decide +kernel
theorem all30_ok:(∀x∈all30,E6 x=true)/\all30.Nodup:=⟨by decide +kernel,by decide +kernel⟩
theorem Gw:O1 all8:=⟨by decide +kernel,by decide +kernel,by decide⟩
theorem Hc:all20++all10=all30:=rfl
theorem Mf(Q:VK)(H:Hp)(h:∀l,H l=none->Q (.ref l) (upd H l (.lst (all20.map V.str)))):Al (.str txt20) [.str " "] H Q:=⟨txt20, " ",all20,rfl,rfl,by decide +kernel,by decide +kernel,by decide +kernel,by decide +kernel,Gn,by decide +kernel,h⟩
theorem Mx(Q:VK)(H:Hp)(h:∀l,H l=none->Q (.ref l) (upd H l (.lst (all10.map V.str)))):Al (.str txt10) [.str " "] H Q:=⟨txt10, " ",all10,rfl,rfl,by decide +kernel,by decide +kernel,by decide +kernel,by decide +kernel,Gm,by decide +kernel,h⟩
theorem sp8(Q:VK)(H:Hp)(h:∀l,H l=none->Q (.ref l) (upd H l (.lst (all8.map V.str)))):Al (.str txt8) [.str " "] H Q:=⟨txt8, " ",all8,rfl,rfl,by decide +kernel,by decide +kernel,by decide +kernel,by decide +kernel,Iq,by decide +kernel,h⟩
theorem J8:FnScope ["_law_left_here", "_law_many", "_law_some", "_law_names", "_law_k"] ["_law_left_here", "_law_many"] (B4 s_law_many_names):=fsc
def i3:Sp:=fun vs H Q _=>∃(p:Addr) (c:Int) (many:Nat),vs = [.ref p,.int (many:Int)]/\LeftAt H p c/\c<=900000/\many<=30 /\
 ∀l (ss:List Str) H',H l=none->Sm [p] H H'->H' l=some (.lst (ss.map V.str))->ss.length=many->O1 ss->LeftAt H' p (c+many)->Q (.ref l) H'
set_option maxHeartbeats 2000000 in
theorem S0(T:Tx K mg):FnOk P w K mg base CX0 3 T.ak.f T.ak.fd ["_law_left_here", "_law_many"] i3:=by
 have G_law_pick:=E9 (P:=P) (w:=w) (base:=base) T;have sc:=J8;refine T.ak.F.ok J8 (fun vs H Q E h=>?_) (fun cdv A outer s H vs Q E hr h=>?_)
 .obtain⟨p,c,m,rfl,_⟩:=h;rfl
 .obtain⟨p,c,many,rfl,hL,c1,m1,q⟩:=h;obtain⟨a0,b0,e0,c0⟩:=id hL;refine⟨_,(B2 (C7 (i:=2) sc.nd rfl (.inl rfl) (j0 K PySem.F.plainAttrs_str PySem.F.slot_str_split PySem.F.type_str_split i4 C5 (A7 C5 A9)))
   (B2 (C7 (i:=2) sc.nd rfl (.inl rfl) (D7 K7 (pv 2) (j0 K PySem.F.plainAttrs_str PySem.F.slot_str_split PySem.F.type_str_split i4 C5 (A7 C5 A9))))
   (B2 (C7 (i:=3) sc.nd rfl (.inl rfl) (D6 A9))
   (B2 (U7 PassesOwn.never rfl (Gu T.aq (A7 (pv 1) A9)) (J5 (i:=4) sc.nd rfl (.inl rfl))
   (B7 (F8 (j0 K PySem.F.plainAttrs_list PySem.F.slot_list_append PySem.F.type_list_append K8 (pv 3) (A7 (j0 K PySem.F.plainAttrs_list PySem.F.slot_list_pop PySem.F.type_list_pop Er (pv 2) (A7 (C1 T.ab G_law_pick (Rm hr) (A7 (pv 0) (A7 (F9 (K2 K) T.ai J3 (A7 (pv 2) A9)) A9))) A9)) A9)))))
   (B7 (C4 (pv 3))))))),?_⟩
  refine B6 fun N1 hN1=>?_;refine⟨rfl,?_⟩;dsimp only[V8,tC,Fl];refine Mf _ _ fun a1 ha1=>?_;have u1:=Same.new (o:=.lst (all20.map V.str)) ha1;have e1:(upd H a1 (.lst (all20.map V.str))) a1=some (.lst (all20.map V.str)):=A8;generalize upd H a1 (.lst (all20.map V.str))=H1 at u1 e1⊢;refine hN1 _ _ (B6 fun N2 hN2=>?_);refine ex1 rfl ⟨rfl,?_⟩;dsimp only[V8,tC,Fl];refine Mx _ _ fun a2 ha2=>?_;have u2:=Same.new (o:=.lst (all10.map V.str)) ha2;refine⟨a1,a2,_,_,rfl,rfl,u2 _ _ e1,A8,by rw[AA,AA];show 30<=sizeLine;decide,fun a ha=>?_⟩;have u3:=(u1.trans u2).trans (Same.new (o:=.lst (all20.map V.str++all10.map V.str)) ha);have ea:(upd (upd H1 a2 (.lst (all10.map V.str))) a (.lst (all20.map V.str++all10.map V.str))) a=some (.lst (all30.map V.str)):=by rw[A8,<-Hc,AK]
  have ha0:H a=none:=(u1.trans u2).free ha;generalize upd (upd H1 a2 (.lst (all10.map V.str))) a (.lst (all20.map V.str++all10.map V.str))=H2 at u3 ea⊢;clear u1 u2 e1 ha ha1 ha2;have ha:=ha0;have a1:=all30_ok.1;have a2:=all30_ok.2;have al:all30.length=30:=rfl;generalize all30=all at ea a1 a2 al;refine hN2 _ _ ?_;refine⟨BI _,fun b hb=>?_⟩;have hb':H b=none:=u3.free hb;have nab:a≠b:=B0 ea hb;have npa:p≠a:=B0 e0 ha;have npb:p≠b:=B0 e0 hb';refine ex1 rfl (ex1 rfl ⟨by omega,by omega,?_⟩);rw[BV];refine O6 (fun i σ H1=>(∃v4,σ = [some (.ref p),some (.int (many:Int)),some (.ref a),some (.ref b),v4])/\Sm [p] H H1/\LeftAt H1 p (c+i)/\∃rest got:List Str,H1 a=some (.lst (rest.map V.str))/\H1 b=some (.lst (got.map V.str))/\(rest++got).Perm all/\got.length=i) ?_ ?_ ?_
  .refine⟨⟨_,rfl⟩,(u3.trans (Same.new hb)).sm,((hL.cast (by omega)).same u3).upd npb,all,[],by rw[B3 nab];exact ea,by rw[A8];rfl,by rw[CB],rfl⟩
  .rintro i σ H1 hi ⟨⟨v4,rfl⟩,k1,L1,rest,got,ea,eb,pm,hg⟩ D1 hD1 _;have hlen:rest.length=30-i:=by
    have:=pm.length_eq;rw[AO,hg,al]at this;omega
   refine ex1 rfl ⟨.inl ⟨rfl,_,SqL.of eb⟩,ex1 rfl ⟨.inl ⟨rfl,_,SqL.of ea⟩,ex1 rfl (ex1 rfl (B8 (a:=a) rfl (.inl (SqL.of ea)) (J1 (a:=p) (b:=c+i) rfl L1 (by omega) ?_ ?_ fun d H2 hd k2 L2=>?_)))⟩⟩
   .rw[AA];omega
   .rw[AA];omega
   rw[AA]at hd;have hd':d<rest.length:=by omega
   have hx:rest[d]?=some rest[d]:=AQ hd';have ea2:=Sm1 k2 ea npa.symm;have eb2:=Sm1 k2 eb npb.symm;refine⟨a,_,_,d,.str rest[d],rfl,rfl,ea2,by omega,by omega,six (by rw[AA];exact hd'),by rw[AG,hx];rfl,b,B8 rfl rfl ⟨by rw[B3 nab.symm];exact eb2,?_,?_⟩⟩
   .rw[AA,sizeLine_eq];omega
   refine hD1 _ _ ⟨⟨_,rfl⟩,?_,?_,rest.eraseIdx d,got ++ [rest[d]],?_,?_,Ei pm hx,by rw[AO,hg];rfl⟩
   .exact((k1.trans k2).updN ha).updN hb'
   .exact((L2.cast (by omega)).upd npa).upd npb
   .rw[B3 nab,A8,p8]
   .rw[A8,AK];rfl
  .rintro σ H1 ⟨⟨v4,rfl⟩,k1,L1,rest,got,ea,eb,pm,hg⟩;exact⟨_,rfl,q b got H1 hb' k1 eb hg (names_of pm a1 a2 (by omega)) L1⟩
end
theorem Hs{d:Nat}(h:d<6):∃r:Int,atI [V.int 0,.int 1,.int 1,.int 2,.int 5,.int 9] (d:Int)=some (.int r)/\0<=r/\r<=9:=by
 match d,h with
 | 0,_=>exact⟨0,rfl,by decide,by decide⟩
 | 1,_=>exact⟨1,rfl,by decide,by decide⟩
 | 2,_=>exact⟨1,rfl,by decide,by decide⟩
 | 3,_=>exact⟨2,rfl,by decide,by decide⟩
 | 4,_=>exact⟨5,rfl,by decide,by decide⟩
 | 5,_=>exact⟨9,rfl,by decide,by decide⟩
theorem LeftAt.neL{H:Hp}{p a:Addr}{c:Int}{xs:List V}(h:LeftAt H p c)(e:H a=some (.lst xs))(n:∀x y,xs≠[.int x,.int y,.int c]):a≠p:=fun z=>by
 obtain⟨x,y,e',_⟩:=h;rw[z,e']at e;cases e;exact n x y rfl
theorem LeftAt.neT{H:Hp}{p a:Addr}{c:Int}{xs:List V}(h:LeftAt H p c)(e:H a=some (.tup xs)):a≠p:=fun z=>by
 obtain⟨x,y,e',_⟩:=h;rw[z,e']at e;cases e
theorem LeftAt.neR{H:Hp}{p a:Addr}{c:Int}{as:List Addr}(h:LeftAt H p c)(e:H a=some (.lst (as.map V.ref))):a≠p:=h.neL e fun x y z=>by
 cases as with
 | nil=>cases z
 | cons b r=>cases z
theorem LeftAt.ne{H:Hp}{p a:Addr}{c:Int}{ss:List Str}(h:LeftAt H p c)(e:H a=some (.lst (ss.map V.str))):a≠p:=h.neL e fun x y z=>by
 cases ss with
 | nil=>cases z
 | cons b r=>cases z
theorem RowsAt.sm{H H':Hp}{l p:Addr}{c:Int}{rs:List RW}(h:RowsAt H l rs)(L:LeftAt H p c)(k:Sm [p] H H'):RowsAt H' l rs:=by
 have e:(rs.map fun q=>V.ref q.1) =(rs.map fun q=>q.1).map V.ref:=by rw[AX];rfl
 refine⟨Sm1 k h.at_ (L.neR (by rw[<-e];exact h.at_)),fun q hq=>Sm1 k (h.row q hq) (L.neT (h.row q hq))⟩
theorem RowsAt.snoc{H:Hp}{l t:Addr}{rs:List RW}{n:Str}{xs:List V}(h:RowsAt H l rs)(ht:H t=some (.tup (.str n::xs))):RowsAt (upd H l (.lst ((rs.map fun q=>V.ref q.1) ++ [.ref t]))) l (rs ++ [(t,n,xs)]):=by
 refine⟨by rw[A8,AK];rfl,fun q hq=>?_⟩;rcases BA.mp hq with z | z
 .exact(B3 (U9 (h.row q z) h.at_ (by intro y;cases y))).trans (h.row q z)
 .rw[AB.mp z];exact(B3 (U9 ht h.at_ (by intro y;cases y))).trans ht
section
variable{P:Program}{w:World}{K:PySem.W.Frag}{mg:Str->Option Value}{base:Heap}
theorem Q4:FnScope ["_law_left_here", "_law_many", "_law_some"] ["_law_left_here", "_law_many"] (B4 s_law_people):=fsc
def Do:Sp:=fun vs H Q _=>∃(p:Addr) (c:Int) (many:Nat),vs = [.ref p,.int (many:Int)]/\LeftAt H p c/\c<=800000/\many<=8 /\
 ∀l (pe:List PEr) c' H',H l=none->Sm [p] H H'->RowsAt H' l (pe.map rP)->pe.length=many->(nP pe).Nodup->(∀q∈pe,E6 q.2.1=true/\0<=q.2.2/\q.2.2<=9)->c'<=c+500->LeftAt H' p c'->Q (.ref l) H'
set_option maxHeartbeats 2000000 in
theorem g6(T:Tx K mg):FnOk P w K mg base CX0 5 T.aA.f T.aA.fd ["_law_left_here", "_law_many"] Do:=by
 have G_law_pick:=E9 (P:=P) (w:=w) (base:=base) T;have G_law_spelled:=P2 (P:=P) (w:=w) (base:=base) T;have sc:=Q4;refine T.aA.F.ok Q4 (fun vs H Q E h=>?_) (fun cdv A outer s H vs Q E hr h=>?_)
 .obtain⟨p,c,m,rfl,_⟩:=h;rfl
 .obtain⟨p,c,many,rfl,hL,c1,m1,q⟩:=h;refine⟨_,(B2 (C7 (i:=2) sc.nd rfl (.inr rfl) (C1 T.an G_law_spelled (Rm hr) (A7 (pv 0) (A7 (j0 K PySem.F.plainAttrs_str PySem.F.slot_str_split PySem.F.type_str_split i4 C5 (A7 C5 A9)) A9))))
   (@B7 _ _ _ (@C4 _ _ _ _ (Q0 (N':=["_law_k", "_law_some", "_law_left_here"]) (cap:=[none,some 2,some 0]) (cl:=[("_law_some",_),("_law_left_here",_)]) (K1 ⟨⟨rfl,rfl,rfl,rfl⟩,⟨⟨rfl,rfl,rfl,rfl⟩,trivial⟩⟩ ⟨rfl,⟨rfl,trivial⟩⟩) rfl (Gu T.aq (A7 (pv 1) A9)) (fun _ _ _ _=>by exact⟨(pgC 0),D8,(@Q7 _ _ _ _ _ (@A7 _ _ _ _ _ (C3 (ixL K) (pv 1) (pv 0) (fun _ _=>rfl)) (@A7 _ _ _ _ _ (@C3 _ _ _ _ _ _ _ (ixL K) (@D6 _ _ _ _ (@A7 _ _ _ _ _ B1 (@A7 _ _ _ _ _ B1 (@A7 _ _ _ _ _ B1 (@A7 _ _ _ _ _ B1 (@A7 _ _ _ _ _ B1 (@A7 _ _ _ _ _ B1 A9 (by rfl)) (by rfl)) (by rfl)) (by rfl)) (by rfl)) (by rfl))) (C1 T.ab G_law_pick (Rm hr) (A7 (pv 2) (A7 B1 A9))) (fun _ _=>rfl)) A9 (by rfl)) (by rfl)))⟩))))),?_⟩
  refine B6 fun N1 hN1=>?_;refine ex1 rfl ⟨rfl,?_⟩;dsimp only[V8,tC,Fl];refine sp8 _ _ fun a ha=>?_;have ua:=Same.new (o:=.lst (all8.map V.str)) ha;refine⟨p,a,c,all8,rfl,hL.same ua,by omega,A8,Gw,by decide,fun l ts c2 H1 hl k1 e1 N1' len1 hc1 L1=>?_⟩;have k1:=ua.sm.trans k1;refine hN1 _ _ ?_;refine ex1 rfl (ex1 rfl ⟨by omega,by omega,fun D hD=>?_⟩);rw[BV];have l8:ts.length=8:=len1;have npD:p≠D:=B0 L1.get hD;have nlD:l≠D:=B0 e1 hD;have hD0:H D=none:=by
   cases z:H D with
   | none=>rfl
   | some o =>
    have:=k1 D o z (by simpa using npD.symm);rw[hD]at this;cases this
  refine p6 (n:=many) (fun i σ H2=>(∃v,σ = [v,some (.ref l),some (.ref p)])/\Sm [p] H H2/\H2 l=some (.lst (ts.map V.str))/\(∃c',c'<=c2+i/\LeftAt H2 p c')/\∃pe:List PEr,RowsAt H2 D (pe.map rP)/\nP pe=ts.take i/\∀q∈pe,0<=q.2.2/\q.2.2<=9) ?_ (fun i _ _ hi _=>hi) (fun _ _ _=>AL _) ?_ ?_
  .exact⟨⟨_,rfl⟩,k1.updN hD0,by rw[B3 nlD];exact e1,⟨_,by omega,L1.upd npD⟩,[],⟨A8,fun q h=>absurd h AD⟩,rfl,fun q h=>absurd h AD⟩
  .rintro i σ H2 v H' N hi ⟨⟨v0,rfl⟩,k2,e2,⟨c3,hc3,L3⟩,pe,R2,n2,r2⟩ ⟨rfl,rfl⟩ hN;have li:i<ts.length:=by omega
   have hi':ts[i]?=some ts[i]:=AQ li;have lpe:pe.length=i:=by
    have:=congrArg List.length n2;unfold nP at this;rw[AA,AW]at this;omega
   refine o5 ?_;rw[Int.zero_add];refine ex1 rfl (ex1 rfl ⟨l,_,B8 rfl rfl ⟨SqL.of e2,B5 (by rw[AG,hi'];rfl),?_⟩⟩);refine⟨by show 6<=sizeLine;decide,fun t ht=>?_⟩;have ut:=Same.new (o:=.lst [V.int 0,.int 1,.int 1,.int 2,.int 5,.int 9]) ht;refine ex1 rfl (J1 (a:=p) rfl (L3.same ut) (by omega) (by decide) (by decide) fun d H3 hd k3 L4=>?_);obtain⟨r,hr1,hr0,hr9⟩:=Hs (d:=d) (by omega);have e3:H3 t=some (.lst [V.int 0,.int 1,.int 1,.int 2,.int 5,.int 9]):=Sm1 k3 A8 (B0 L3.get ht).symm;refine⟨t,_,B8 rfl rfl ⟨SqL.of e3,hr1,by show 2<=sizeLine;decide,fun t2 ht2=>?_⟩⟩;have R3:=(R2.same ut).sm (L3.same ut) k3;have u2:=Same.new (o:=.tup [.str ts[i],.int r]) ht2;have R4:=R3.same u2;have e4:=Sm1 (k3.trans u2.sm) (ut _ _ e2) ((L3.same ut).ne (ut _ _ e2));have L5:=L4.same u2;have k4:Sm [p] H (upd H3 t2 (.tup [.str ts[i],.int r])):=(k2.trans ut.sm).trans (k3.trans u2.sm);have et:(upd H3 t2 (.tup [.str ts[i],.int r])) t2=some (.tup [.str ts[i],.int r]):=A8;generalize upd H3 t2 (.tup [.str ts[i],.int r])=H4 at R4 e4 L5 k4 et⊢;refine⟨_,R4.at_,by rw[AA,AA,sizeLine_eq];omega,hN _ _ ⟨⟨_,rfl⟩,k4.updN hD0,by rw[B3 nlD];exact e4,⟨_,by omega,L5.upd npD⟩,pe ++ [(t2,ts[i],r)],?_,?_,fun z hz=>?_⟩⟩
   .rw[AK];exact R4.snoc et
   .unfold nP at n2⊢;rw[AK,n2,I0 hi'];rfl
   .rcases BA.mp hz with y | y
    .exact r2 z y
    .rw[AB.mp y];exact⟨hr0,hr9⟩
  .rintro σ H2 ⟨⟨v0,rfl⟩,k2,e2,⟨c3,hc3,L3⟩,pe,R2,n2,r2⟩;have lpe:pe.length=many:=by
    have:=congrArg List.length n2;unfold nP at this;rw[AA,AW]at this;omega
   refine q D pe c3 H2 hD0 k2 R2 lpe (by rw[n2];exact N1'.2.1.sublist (List.take_sublist _ _)) (fun z hz=>⟨N1'.1 _ (BM (i:=many) (by rw[<-n2];exact A_.mpr ⟨z,hz,rfl⟩)),r2 z hz⟩) (by omega) L3
end
theorem Gr{d:Nat}(h:d<4):∃r:Nat,r<=8/\atI [V.int 0,.int 1,.int 2,.int 8] (d:Int)=some (.int (r:Int)):=by
 match d,h with
 | 0,_=>exact⟨0,by decide,rfl⟩
 | 1,_=>exact⟨1,by decide,rfl⟩
 | 2,_=>exact⟨2,by decide,rfl⟩
 | 3,_=>exact⟨8,by decide,rfl⟩
theorem Au(xs:List V)(i:Nat)(h:i<=xs.length):R8 xs (some (i:Int)) none=xs.drop i:=by
 unfold R8;rw[HT.sIx_none,HT.sIx_nat,Nat.min_eq_left h];exact List.take_of_length_le (by rw[BZ];exact AL _)
theorem i0(xs:List V)(i:Nat):R8 xs none (some (i:Int))=xs.take i:=by
 unfold R8;rw[HT.sIx_none,HT.sIx_nat,List.drop_zero,Nat.sub_zero];by_cases h:i<=xs.length
 .rw[Nat.min_eq_left h]
 .rw[Nat.min_eq_right (by omega),BT,List.take_of_length_le (by omega)]
section
variable{P:Program}{w:World}{K:PySem.W.Frag}{mg:Str->Option Value}{base:Heap}
theorem O2:FnScope ["_law_left_here", "_law_people_here", "_law_names", "_law_many", "_law_at"] ["_law_left_here", "_law_people_here"] (B4 s_law_speakers):=fsc
def Cp:Sp:=fun vs H Q _=>∃(p a:Addr) (c:Int) (pe:List PEr),vs = [.ref p,.ref a]/\LeftAt H p c/\c<=800000/\RowsAt H a (pe.map rP)/\pe.length<=8/\(nP pe).Nodup /\
 ∀l (ss:List Str) c' H',H l=none->Sm [p] H H'->H' l=some (.lst (ss.map V.str))->(∀x∈ss,x∈nP pe)->ss.Nodup->ss.length<=8->c'<=c+4->LeftAt H' p c'->Q (.ref l) H'
set_option maxHeartbeats 2000000 in
theorem Y7(T:Tx K mg):FnOk P w K mg base CX0 3 T.ax.f T.ax.fd ["_law_left_here", "_law_people_here"] Cp:=by
 have G_law_pick:=E9 (P:=P) (w:=w) (base:=base) T;have sc:=O2;refine T.ax.F.ok O2 (fun vs H Q E h=>?_) (fun cdv A outer s H vs Q E hr h=>?_)
 .obtain⟨p,a,c,pe,rfl,_⟩:=h;rfl
 .obtain⟨p,a,c,pe,rfl,hL,c1,hR,len,nd,q⟩:=h;refine⟨_,(B2 (Q6 (i:=2) (N':=["_law_row"]) (cap:=[none]) (cl:=[]) sc.nd rfl (.inl rfl) (K1 trivial trivial) rfl (piL K (pv 1)) (fun _ _ _ _=>by exact⟨(pgC 0),D8,(C3 (ixT K) (pv 0) B1 (fun _ _=>rfl))⟩))
   (B2 (Ji (i:=3) (j:=4) rfl sc.nd rfl rfl (by decide) rfl rfl (A7 (C3 (ixL K) (D6 (A7 B1 (A7 B1 (A7 B1 (A7 B1 A9))))) (C1 T.ab G_law_pick (Rm hr) (A7 (pv 0) (A7 B1 A9))) (fun _ _=>rfl)) (A7 (C1 T.ab G_law_pick (Rm hr) (A7 (pv 0) (A7 (F9 (t9 rfl) T.aZ Gc (A7 B1 (A7 (F9 (K2 K) T.ai J3 (A7 (pv 2) A9)) A9))) A9))) A9)) rfl)
   (B2 (O8 (D9 Fo (pv 3) B1 (F6 _)) (B7 (C7 (i:=3) sc.nd rfl (.inl rfl) (D7 U1 B1 (C1 T.ab G_law_pick (Rm hr) (A7 (pv 0) (A7 B1 A9)))))) E5)
   (B2 (O8 (D9 Bi (C1 T.ab G_law_pick (Rm hr) (A7 (pv 0) (A7 B1 A9))) B1 (F6 _)) (B7 (F8 (Io K PySem.F.plainAttrs_list PySem.F.slot_list_reverse PySem.F.type_list_reverse Bl (pv 2)))) E5)
   (B7 (C4 (O4 (slL K) (D7 K7 (O4 (slL K) (pv 2) (S7 (pv 4)) S5) (O4 (slL K) (pv 2) S5 (S7 (pv 4)))) S5 (S7 (pv 3))))))))),?_⟩
  refine B6 fun N1 hN1=>?_;refine ex1 rfl ⟨a,rfl,⟨_,SqL.of hR.at_⟩,fun D hD=>?_⟩;refine El (r:=fun q:RW=>V.ref q.1) (fun q=>V.str q.2.1) (asL (SqL.of hR.at_)) (fun _=>true) (by rw[AA];omega) hD (fun y my G sG M hM=>hM G fun b o e=>e) (fun y my G sG M hM=>?_) fun σ' H1 s1 e1=>?_
  .exact ex1 rfl ⟨y.1,_,B8 rfl rfl ⟨SqT.of (sG _ _ (hR.row y my)),B5 (j:=0) rfl,hM G fun b o e=>e⟩⟩
  have e1:H1 D=some (.lst ((nP pe).map V.str)):=by
   rw[e1,CO.mpr fun _ _=>rfl,AX];unfold nP;rw[AX];rfl
  have L1:=hL.same s1;have lnp:(nP pe).length=pe.length:=by unfold nP;rw[AA]
  refine hN1 _ _ (B6 fun N2 hN2=>?_);refine⟨by show 4<=sizeLine;decide,fun t ht=>?_⟩;have ut:=Same.new (o:=.lst [V.int 0,.int 1,.int 2,.int 8]) ht;refine ex1 rfl (J1 (a:=p) rfl (L1.same ut) (by omega) (by decide) (by decide) fun d H2 hd k2 L2=>?_);obtain⟨r,hr8,hr1⟩:=Gr (d:=d) (by omega);have et:H2 t=some (.lst [V.int 0,.int 1,.int 2,.int 8]):=Sm1 k2 A8 (B0 L1.get ht).symm;have e2:=Sm1 k2 (ut _ _ e1) ((L1.same ut).ne (ut _ _ e1));have k2:Sm [p] H H2:=(s1.trans ut).sm.trans k2;refine⟨t,_,B8 rfl rfl ⟨SqL.of et,hr1,?_⟩⟩;refine ex1 rfl (ex1 rfl ⟨D,_,rfl,.inl (SqL.of e2),_,_,rfl,?_⟩);obtain⟨m,em,hm1,hm2⟩:∃m:Nat,(if(((nP pe).map V.str).length:Int)>1 then(((nP pe).map V.str).length:Int)else 1) =(m:Int)/\1<=m/\m<=8:=by
   rw[AA,lnp];by_cases h:(pe.length:Int)>1
   .rw[BJ h];exact⟨pe.length,rfl,by omega,by omega⟩
   .rw[BH h];exact⟨1,rfl,by decide,by decide⟩
  have em2:m<=pe.length\/m=1:=by
   rw[AA,lnp]at em;by_cases h:(pe.length:Int)>1
   .rw[BJ h]at em;exact .inl (by omega)
   .rw[BH h]at em;exact .inr (by omega)
  rw[em];refine J1 (a:=p) rfl L2 (by omega) (by omega) (by omega) fun d2 H3 hd2 k3 L3=>⟨_,_,rfl,hN2 _ _ ?_⟩;have e3:=Sm1 k3 e2 (L2.ne e2);have k3:=k2.trans k3;have hd2':d2<=pe.length:=by
   rcases em2 with z | z
   .omega
   .omega
  refine B6 fun N3 hN3=>?_;have rest:∀(r:Nat) (c4:Int) (G:Hp),r<=8->c4<=c+3->Sm [p] H G->G D=some (.lst ((nP pe).map V.str))->LeftAt G p c4->N3 [some (.ref p),some (.ref a),some (.ref D),some (.int (r:Int)),some (.int (d2:Int))] G:=fun r c4 G hr hc kG eG LG=>by
   refine hN3 _ _ (B6 fun N4 hN4=>?_);have rest2:∀(nl:List Str) (c5:Int) (G:Hp),nl.Perm (nP pe)->c5<=c+4->Sm [p] H G->G D=some (.lst (nl.map V.str))->LeftAt G p c5->N4 [some (.ref p),some (.ref a),some (.ref D),some (.int (r:Int)),some (.int (d2:Int))] G:=fun nl c5 G pm hc5 kG eG LG=>by
    have lnl:nl.length=pe.length:=by rw[pm.length_eq,lnp]
    refine hN4 _ _ ?_;refine ex1 rfl (ex1 rfl ⟨_,rfl,D,_,rfl,SqL.of eG,fun l1 hl1=>?_⟩);have u1:=Same.new (o:=.lst (R8 (nl.map V.str) (some (d2:Int)) none)) hl1;refine ex1 rfl (ex1 rfl ⟨_,rfl,D,_,rfl,SqL.of (u1 _ _ eG),fun l2 hl2=>?_⟩);have u2:=Same.new (o:=.lst (R8 (nl.map V.str) none (some (d2:Int)))) hl2;have f1:(upd (upd G l1 (.lst (R8 (nl.map V.str) (some (d2:Int)) none))) l2 (.lst (R8 (nl.map V.str) none (some (d2:Int))))) l1=some (.lst ((nl.drop d2).map V.str)):=u2 _ _ (by rw[A8,Au _ _ (by rw[AA];omega),List.map_drop]);have f2:(upd (upd G l1 (.lst (R8 (nl.map V.str) (some (d2:Int)) none))) l2 (.lst (R8 (nl.map V.str) none (some (d2:Int))))) l2=some (.lst ((nl.take d2).map V.str)):=by rw[A8,i0,BU]
    have u12:=u1.trans u2;generalize upd (upd G l1 (.lst (R8 (nl.map V.str) (some (d2:Int)) none))) l2 (.lst (R8 (nl.map V.str) none (some (d2:Int))))=G2 at f1 f2 u12⊢;refine⟨l1,l2,_,_,rfl,rfl,f1,f2,by rw[AA,AA,BZ,AW,sizeLine_eq];omega,fun l3 hl3=>?_⟩;have u3:=Same.new (o:=.lst ((nl.drop d2).map V.str ++(nl.take d2).map V.str)) hl3;refine ex1 rfl ⟨_,rfl,l3,_,rfl,SqL.of A8,fun l4 hl4=>?_⟩;have u4:=u12.trans (u3.trans (Same.new (o:=.lst (R8 ((nl.drop d2).map V.str ++(nl.take d2).map V.str) none (some (r:Int)))) hl4));have pm2:(nl.drop d2++nl.take d2).Perm nl:=by
     have:=List.perm_append_comm (l₁:=nl.drop d2) (l₂:=nl.take d2)
     rwa [List.take_append_drop]at this
    refine q l4 ((nl.drop d2++nl.take d2).take r) c5 _ ?_ (kG.trans u4.sm) (by rw[A8,i0,<-AK,BU]) (fun x hx=>pm.mem_iff.mp (pm2.mem_iff.mp (BM hx))) ((pm2.nodup_iff.mpr (pm.nodup_iff.mpr nd)).sublist (List.take_sublist _ _)) (by rw[AW];omega) hc5 (LG.same u4);cases z:H l4 with
    | none=>rfl
    | some o =>
     have n4:l4≠p:=(B0 ((LG.same u12).same u3).get hl4).symm;have:=(u12.trans u3) _ _ (kG l4 o z (by simpa using n4));rw[hl4]at this;cases this
   refine ex1 rfl (J1 (a:=p) rfl LG (by omega) (by decide) (by decide) fun d4 G2 hd4 k4 L4=>⟨rfl,_,rfl,?_⟩);have e4:=Sm1 k4 eG (LG.ne eG);have k4:=kG.trans k4;refine x2 (fun _=>?_) (fun _=>rest2 _ _ _ (List.Perm.refl _) (by omega) k4 e4 L4);refine ex1 rfl ⟨.inl ⟨rfl,_,SqL.of e4⟩,D,_,rfl,rfl,e4,?_⟩;have npD:p≠D:=B0 hL.get hD;exact rest2 (nP pe).reverse _ _ (List.reverse_perm _) (by omega) (k4.updN hD) (by rw[A8,List.map_reverse]) (L4.upd npD)
  refine ex1 rfl (B8 rfl rfl (ex1 rfl (x2 (fun h=>?_) (fun h=>rest r _ _ hr8 (by omega) k3 e3 L3))));refine ex1 rfl (J1 (a:=p) rfl L3 (by omega) (by decide) (by decide) fun d3 H4 hd3 k4 L4=>B8 rfl rfl ?_);have:=rest (1+d3) _ H4 (by omega) (by omega) (k3.trans k4) (Sm1 k4 e3 (L3.ne e3)) L4;rw[Int.natCast_add]at this;exact this
end
structure Sz(n0 n1 n2 n3:Nat):Prop where
 h0:n0<=8
 h1:n1<=12
 h2:n2<=12
 h3:n3<=12
 one:0<n3->0<n1
section
variable{P:Program}{w:World}{K:PySem.W.Frag}{mg:Str->Option Value}{base:Heap}
theorem U3:FnScope ["_law_left_here", "_law_most", "_law_way", "_law_some"] ["_law_left_here", "_law_most"] (B4 s_law_sizes):=fsc
def Fc:Sp:=fun vs H Q _=>∃(p:Addr) (c:Int),vs = [.ref p,.int 12]/\LeftAt H p c/\c<=800000 /\
 ∀l (n0 n1 n2 n3:Nat) c' H',H l=none->Sm [p] H H'->H' l=some (.lst [.int (n0:Int),.int (n1:Int),.int (n2:Int),.int (n3:Int)])->Sz n0 n1 n2 n3->c'<=c+5->LeftAt H' p c'->Q (.ref l) H'
set_option maxHeartbeats 2000000 in
theorem t5(T:Tx K mg):FnOk P w K mg base CX0 3 T.aD.f T.aD.fd ["_law_left_here", "_law_most"] Fc:=by
 have G_law_pick:=E9 (P:=P) (w:=w) (base:=base) T;have sc:=U3;refine T.aD.F.ok U3 (fun vs H Q E h=>?_) (fun cdv A outer s H vs Q E hr h=>?_)
 .obtain⟨p,c,rfl,_⟩:=h;rfl
 .obtain⟨p,c,rfl,hL,c1,q⟩:=h;refine⟨_,(B2 (C7 (i:=2) sc.nd rfl (.inl rfl) (C1 T.ab G_law_pick (Rm hr) (A7 (pv 0) (A7 B1 A9))))
   (B2 (O8 (D9 Bi (pv 2) B1 (F6 _)) (B7 (C4 (D7 K7 (D6 (A7 (D7 Bz B1 (C1 T.ab G_law_pick (Rm hr) (A7 (pv 0) (A7 B1 A9)))) A9)) (Q0 (N':=["_law_k", "_law_most", "_law_left_here"]) (cap:=[none,some 1,some 0]) (cl:=[("_law_most",_),("_law_left_here",_)]) (K1 ⟨⟨rfl,rfl,rfl,rfl⟩,⟨⟨rfl,rfl,rfl,rfl⟩,trivial⟩⟩ ⟨rfl,⟨rfl,trivial⟩⟩) rfl (Gu T.aq (A7 B1 A9)) (fun _ _ _ _=>by exact⟨(pgC 0),D8,(D7 Bz (pv 1) (C1 T.ab G_law_pick (Rm hr) (A7 (pv 2) (A7 B1 A9))))⟩))))) E5)
   (B2 (O8 (D9 Bi (pv 2) B1 (F6 _)) (B7 (C4 (D6 (A7 (C1 T.ab G_law_pick (Rm hr) (A7 (pv 0) (A7 B1 A9))) (A7 (C1 T.ab G_law_pick (Rm hr) (A7 (pv 0) (A7 B1 A9))) (A7 (C1 T.ab G_law_pick (Rm hr) (A7 (pv 0) (A7 B1 A9))) (A7 B1 A9))))))) E5)
   (@B2 _ _ _ _ _ (@C7 _ _ 3 _ _ _ _ sc.nd rfl (.inl rfl) (@D6 _ _ _ _ (@A7 _ _ _ _ _ (D6 (A7 B1 (A7 B1 (A7 B1 (A7 B1 A9))))) (@A7 _ _ _ _ _ (D6 (A7 B1 (A7 B1 (A7 B1 (A7 B1 A9))))) (@A7 _ _ _ _ _ (D6 (A7 B1 (A7 B1 (A7 B1 (A7 B1 A9))))) (@A7 _ _ _ _ _ (D6 (A7 B1 (A7 B1 (A7 B1 (A7 B1 A9))))) (@A7 _ _ _ _ _ (D6 (A7 B1 (A7 B1 (A7 B1 (A7 B1 A9))))) (@A7 _ _ _ _ _ (D6 (A7 B1 (A7 B1 (A7 B1 (A7 B1 A9))))) A9 (by rfl)) (by rfl)) (by rfl)) (by rfl)) (by rfl)) (by rfl))) (by rfl) (by first | exact .inl rfl | exact .inr rfl | assumption))
   (B7 (C4 (C3 (ixL K) (pv 3) (D7 Bz (pv 2) B1) (fun _ _=>rfl)))))))),?_⟩
  have new:∀{G:Hp} {l:Addr},Sm [p] H G->(∃c,LeftAt G p c)->G l=none->H l=none:=fun{G l} k ⟨c,L⟩ hl=>by
   cases z:H l with
   | none=>rfl
   | some o =>
    have:=k l o z (by simpa using (B0 L.get hl).symm);rw[hl]at this;cases this
  refine B6 fun N1 hN1=>?_;refine ex1 rfl (J1 (a:=p) rfl hL (by omega) (by decide) (by decide) fun d H1 hd k1 L1=>?_);refine hN1 _ _ (B6 fun N2 hN2=>?_);refine ex1 rfl ⟨rfl,ex1 rfl (x2 (fun c0=>?_) (fun c0=>?_))⟩
  .refine ex1 rfl (J1 (a:=p) rfl L1 (by omega) (by decide) (by decide) fun d1 H2 hd1 k2 L2=>B8 rfl rfl ⟨by show 1<=sizeLine;decide,fun l1 hl1=>?_⟩);have e8:((8:Int)-(d1:Int)) =((8-d1:Nat):Int):=by omega
   dsimp only;rw[e8];have u1:=Same.new (o:=.lst [.int ((8-d1:Nat):Int)]) hl1;have f1:(upd H2 l1 (.lst [.int ((8-d1:Nat):Int)])) l1=some (.lst [.int ((8-d1:Nat):Int)]):=A8;generalize upd H2 l1 (.lst [.int ((8-d1:Nat):Int)])=H3 at u1 f1⊢;have L3:=L2.same u1;have k3:=k1.trans (k2.trans u1.sm);refine ex1 rfl ⟨by decide,by decide,fun D hD=>?_⟩;have npD:p≠D:=B0 L3.get hD;have nlD:l1≠D:=B0 f1 hD;have npl:l1≠p:=(B0 L2.get hl1).symm;have hD0:=new k3 ⟨_,L3⟩ hD;refine p6 (n:=3) (fun i σ G=>(∃v,σ = [v,some (.int 12),some (.ref p)])/\Sm [p] H G/\LeftAt G p (c+2+i)/\G l1=some (.lst [.int ((8-d1:Nat):Int)])/\∃ds:List Nat,G D=some (.lst (ds.map fun n:Nat=>V.int (n:Int)))/\ds.length=i/\∀x∈ds,10<=x/\x<=12) ?_ (fun i _ _ hi _=>hi) (fun _ _ _=>AL _) ?_ ?_
   .exact⟨⟨_,rfl⟩,k3.updN hD0,(L3.cast (by omega)).upd npD,by rw[B3 nlD];exact f1,[],A8,rfl,fun x h=>absurd h AD⟩
   .rintro i σ G v G' N hi ⟨⟨v0,rfl⟩,kG,LG,fG,ds,eG,hl,hx⟩ ⟨rfl,rfl⟩ hN;refine o5 ?_;refine ex1 rfl (ex1 rfl (J1 (a:=p) rfl LG (by omega) (by decide) (by decide) fun d3 G2 hd3 k4 L4=>B8 rfl rfl ?_));have e12:((12:Int)-(d3:Int)) =((12-d3:Nat):Int):=by omega
    have eD:=Sm1 k4 eG npD.symm;refine⟨_,eD,by rw[AA,sizeLine_eq];omega,hN _ _ ⟨⟨_,rfl⟩,(kG.trans k4).updN hD0,(L4.cast (by omega)).upd npD,by rw[B3 nlD];exact Sm1 k4 fG npl,ds ++ [12-d3],?_,by rw[AO,hl];rfl,fun x hm=>?_⟩⟩
    .rw[A8,AK];dsimp only;rw[e12];rfl
    .rcases BA.mp hm with y | y
     .exact hx x y
     .rw[AB.mp y];omega
   .rintro σ G ⟨⟨v0,rfl⟩,kG,LG,fG,ds,eG,hl,hx⟩;refine⟨l1,D,_,_,rfl,rfl,fG,eG,by rw[AA,hl];show 1+3<=sizeLine;decide,fun l2 hl2=>?_⟩
    match ds,hl,hx with
    | [a,b,e],_,hx =>
     obtain⟨a1,a2⟩:=hx a (by simp);obtain⟨b1,b2⟩:=hx b (by simp);obtain⟨g1,g2⟩:=hx e (by simp);exact q l2 (8-d1) a b e _ _ (new kG ⟨_,LG⟩ hl2) (kG.trans (Same.new hl2).sm) A8 ⟨by omega,a2,b2,g2,fun _=>by omega⟩ (by omega) (LG.same (Same.new hl2))
  refine hN2 _ _ (B6 fun N3 hN3=>?_);refine ex1 rfl ⟨rfl,ex1 rfl (x2 (fun c1=>?_) (fun c1=>?_))⟩
  .refine ex1 rfl (J1 (a:=p) rfl L1 (by omega) (by decide) (by decide) fun d1 H2 hd1 k2 L2=>?_);refine ex1 rfl (J1 (a:=p) rfl L2 (by omega) (by decide) (by decide) fun d2 H3 hd2 k3 L3=>?_);refine ex1 rfl (J1 (a:=p) rfl L3 (by omega) (by decide) (by decide) fun d3 H4 hd3 k4 L4=>?_);have k:=k1.trans (k2.trans (k3.trans k4));refine⟨by show 4<=sizeLine;decide,fun l hl=>?_⟩;exact q l d1 d2 d3 0 _ _ (new k ⟨_,L4⟩ hl) (k.trans (Same.new hl).sm) A8 ⟨by omega,by omega,by omega,by omega,fun h=>absurd h (by omega)⟩ (by omega) (L4.same (Same.new hl))
  refine hN3 _ _ (B6 fun N4 hN4=>?_);refine⟨by show 4<=sizeLine;decide,fun l1 hl1=>?_⟩;have u1:=Same.new (o:=.lst [V.int 3,.int 4,.int 4,.int 0]) hl1;have e1:(upd H1 l1 (.lst [V.int 3,.int 4,.int 4,.int 0])) l1=some (.lst [V.int 3,.int 4,.int 4,.int 0]):=A8;generalize upd H1 l1 (.lst [V.int 3,.int 4,.int 4,.int 0])=G1 at u1 e1⊢;refine⟨by show 4<=sizeLine;decide,fun l2 hl2=>?_⟩;have u2:=Same.new (o:=.lst [V.int 3,.int 4,.int 5,.int 2]) hl2;have e2:(upd G1 l2 (.lst [V.int 3,.int 4,.int 5,.int 2])) l2=some (.lst [V.int 3,.int 4,.int 5,.int 2]):=A8;generalize upd G1 l2 (.lst [V.int 3,.int 4,.int 5,.int 2])=G2 at u2 e2⊢;refine⟨by show 4<=sizeLine;decide,fun l3 hl3=>?_⟩;have u3:=Same.new (o:=.lst [V.int 2,.int 3,.int 3,.int 2]) hl3;have e3:(upd G2 l3 (.lst [V.int 2,.int 3,.int 3,.int 2])) l3=some (.lst [V.int 2,.int 3,.int 3,.int 2]):=A8;generalize upd G2 l3 (.lst [V.int 2,.int 3,.int 3,.int 2])=G3 at u3 e3⊢;refine⟨by show 4<=sizeLine;decide,fun l4 hl4=>?_⟩;have u4:=Same.new (o:=.lst [V.int 4,.int 5,.int 5,.int 3]) hl4;have e4:(upd G3 l4 (.lst [V.int 4,.int 5,.int 5,.int 3])) l4=some (.lst [V.int 4,.int 5,.int 5,.int 3]):=A8;generalize upd G3 l4 (.lst [V.int 4,.int 5,.int 5,.int 3])=G4 at u4 e4⊢;refine⟨by show 4<=sizeLine;decide,fun l5 hl5=>?_⟩;have u5:=Same.new (o:=.lst [V.int 3,.int 3,.int 5,.int 1]) hl5;have e5:(upd G4 l5 (.lst [V.int 3,.int 3,.int 5,.int 1])) l5=some (.lst [V.int 3,.int 3,.int 5,.int 1]):=A8;generalize upd G4 l5 (.lst [V.int 3,.int 3,.int 5,.int 1])=G5 at u5 e5⊢;refine⟨by show 4<=sizeLine;decide,fun l6 hl6=>?_⟩;have u6:=Same.new (o:=.lst [V.int 2,.int 4,.int 4,.int 2]) hl6;have e6:(upd G5 l6 (.lst [V.int 2,.int 4,.int 4,.int 2])) l6=some (.lst [V.int 2,.int 4,.int 4,.int 2]):=A8;generalize upd G5 l6 (.lst [V.int 2,.int 4,.int 4,.int 2])=G6 at u6 e6⊢;refine⟨by show 6<=sizeLine;decide,fun l7 hl7=>?_⟩;have u7:=Same.new (o:=.lst [V.ref l1,.ref l2,.ref l3,.ref l4,.ref l5,.ref l6]) hl7;have e7:(upd G6 l7 (.lst [V.ref l1,.ref l2,.ref l3,.ref l4,.ref l5,.ref l6])) l7=some (.lst [V.ref l1,.ref l2,.ref l3,.ref l4,.ref l5,.ref l6]):=A8;generalize upd G6 l7 (.lst [V.ref l1,.ref l2,.ref l3,.ref l4,.ref l5,.ref l6])=G7 at u7 e7⊢;have v6:=u7;have v5:=u6.trans v6;have v4:=u5.trans v5;have v3:=u4.trans v4;have v2:=u3.trans v3;have v1:=u2.trans v2;have v0:=u1.trans v1;have k7:=k1.trans v0.sm;have L7:=L1.same v0;have n1:H l1=none:=new k1 ⟨_,L1⟩ hl1;have n2:H l2=none:=new (k1.trans u1.sm) ⟨_,(L1.same u1)⟩ hl2;have n3:H l3=none:=new (k1.trans (u1.trans u2).sm) ⟨_,(L1.same (u1.trans u2))⟩ hl3;have n4:H l4=none:=new (k1.trans ((u1.trans u2).trans u3).sm) ⟨_,(L1.same ((u1.trans u2).trans u3))⟩ hl4;have n5:H l5=none:=new (k1.trans (((u1.trans u2).trans u3).trans u4).sm) ⟨_,(L1.same (((u1.trans u2).trans u3).trans u4))⟩ hl5;have n6:H l6=none:=new (k1.trans ((((u1.trans u2).trans u3).trans u4).trans u5).sm) ⟨_,(L1.same ((((u1.trans u2).trans u3).trans u4).trans u5))⟩ hl6;refine hN4 _ _ ?_;have hd2:2<=d:=by
   have a0:d≠0:=fun z=>by subst z;exact absurd rfl (fun y=>c0 (AJ y))
   have a1:d≠1:=fun z=>by subst z;exact absurd rfl (fun y=>c1 (AJ y))
   omega
  refine ex1 rfl (ex1 rfl (B8 rfl rfl ?_));obtain⟨i,rfl⟩:∃i,d=i+2:=⟨d-2,by omega⟩;have ei:(((i+2:Nat):Int)-2) =(i:Int):=by omega
  dsimp only;rw[ei]
  match i,hd with
  | 0,_=>exact⟨l7,_,_,_,rfl,rfl,SqL.of e7,B5 (j:=0) rfl,q l1 3 4 4 0 _ _ n1 k7 (v1 _ _ e1) ⟨by decide,by decide,by decide,by decide,by decide⟩ (by omega) L7⟩
  | 1,_=>exact⟨l7,_,_,_,rfl,rfl,SqL.of e7,B5 (j:=1) rfl,q l2 3 4 5 2 _ _ n2 k7 (v2 _ _ e2) ⟨by decide,by decide,by decide,by decide,by decide⟩ (by omega) L7⟩
  | 2,_=>exact⟨l7,_,_,_,rfl,rfl,SqL.of e7,B5 (j:=2) rfl,q l3 2 3 3 2 _ _ n3 k7 (v3 _ _ e3) ⟨by decide,by decide,by decide,by decide,by decide⟩ (by omega) L7⟩
  | 3,_=>exact⟨l7,_,_,_,rfl,rfl,SqL.of e7,B5 (j:=3) rfl,q l4 4 5 5 3 _ _ n4 k7 (v4 _ _ e4) ⟨by decide,by decide,by decide,by decide,by decide⟩ (by omega) L7⟩
  | 4,_=>exact⟨l7,_,_,_,rfl,rfl,SqL.of e7,B5 (j:=4) rfl,q l5 3 3 5 1 _ _ n5 k7 (v5 _ _ e5) ⟨by decide,by decide,by decide,by decide,by decide⟩ (by omega) L7⟩
  | 5,_=>exact⟨l7,_,_,_,rfl,rfl,SqL.of e7,B5 (j:=5) rfl,q l6 2 4 4 2 _ _ n6 k7 (v6 _ _ e6) ⟨by decide,by decide,by decide,by decide,by decide⟩ (by omega) L7⟩
  | n+6,hd=>exact absurd hd (by omega)
end
def sd(ss:List Str):PyData:=.list (ss.map PyData.str)
theorem z9{K:PySem.W.Frag}{H:Hp}:∀ss:List Str,Rps K H (ss.map PyData.str) (ss.map V.str)
 | []=>by simp[Rps]
 | x::r=>by
  simp only[BL,Rps,Rp];exact⟨_,_,rfl,rfl,z9 r⟩
theorem Ht{K:PySem.W.Frag}{H:Hp}{l:Addr}{ss:List Str}(h:SqL K H l (ss.map V.str)):Rp K H (sd ss) (.ref l):=by
 unfold sd;simp only[Rp];exact⟨l,_,rfl,h,z9 ss⟩
theorem a4:∀ss:List Str,PyData.depthAll (ss.map PyData.str)<=1
 | []=>by simp[PyData.depthAll]
 | x::r=>by
  have:=a4 r;simp only[BL,PyData.depthAll,PyData.depth];omega
theorem Aq:∀{ss:List Str},(∀x∈ss,PySem.PyData.strOk x=true)->PyData.canLayAll0 (ss.map PyData.str)=true
 | [],_=>rfl
 | x::r,h=>by
  rw[BL,PyData.canLayAll0,Aq fun z hz=>h z (AV _ hz)];simp[PyData.canLay0,h x (BF ..)]
theorem Hx{ss:List Str}(h:∀x∈ss,E6 x=true):Pl (sd ss):=by
 refine⟨?_,?_⟩
 .unfold sd;rw[PyData.canLay0];exact Aq fun x hx=>G8 (h x hx)
 .unfold sd;rw[PyData.depth];have:=a4 ss;omega
theorem Gz:∀ds:List PyData,PyData.eqv (.list ds) (.list [])=ds.isEmpty
 | []=>by rw[PyData.eqv,PyData.eqvAll];rfl
 | _::_=>by rw[PyData.eqv,PyData.eqvAll];rfl
theorem Bc(ss:List Str):PyData.eqv (sd ss) (.list [])=ss.isEmpty:=by
 unfold sd;rw[Gz];cases ss<;>rfl
theorem Jx:Pl (.list []):=⟨by simp[PyData.canLay0,PyData.canLayAll0],by simp[PyData.depth,PyData.depthAll]⟩
theorem Jn{K:PySem.W.Frag}{H:Hp}{l:Addr}(h:SqL K H l []):Rp K H (.list []) (.ref l):=by
 simp only[Rp];exact⟨l,_,rfl,h,by simp[Rps]⟩
theorem Gy{d:Nat}(h:d<3):∃k:Str,atI [V.str "claim",.str "claim",.str "fact"] (d:Int)=some (.str k)/\(k = "fact"\/k = "claim"):=by
 match d,h with
 | 0,_=>exact⟨"claim",rfl,.inr rfl⟩
 | 1,_=>exact⟨"claim",rfl,.inr rfl⟩
 | 2,_=>exact⟨"fact",rfl,.inl rfl⟩
section
variable{P:Program}{w:World}{K:PySem.W.Frag}{mg:Str->Option Value}{base:Heap}
theorem J6:FnScope ["_law_left_here", "_law_most", "_law_many", "_law_people_here", "_law_names", "_law_said", "_law_sayings", "_law_strikes", "_law_name", "_law_goals", "_law_backs", "_law_k", "_law_pair"] ["_law_left_here", "_law_most"] (B4 s_law_weave_rows):=fsc
def Fp:Sp:=fun vs H Q _=>∃(p:Addr) (c:Int),vs = [.ref p,.int 12]/\LeftAt H p c/\c<=700000 /\
 ∀r a b g d (pe:List PEr) (sa:List SAr) (st:List STr) (ba:List PA2) c' H',Sm [p] H H'->H' r=some (.lst [.ref a,.ref b,.ref g,.ref d])->WRows H' a b g d pe sa st ba->WOk pe sa st ba->LeftAt H' p c'->c'<=c+5000->Q (.ref r) H'
set_option maxHeartbeats 8000000 in
theorem S3(T:Tx K mg):FnOk P w K mg base CX0 6 T.al.f T.al.fd ["_law_left_here", "_law_most"] Fp:=by
 have G_law_pick:=E9 (P:=P) (w:=w) (base:=base) T;have G_law_sizes:=t5 (P:=P) (w:=w) (base:=base) T;have G_law_people:=g6 (P:=P) (w:=w) (base:=base) T;have G_law_spelled:=P2 (P:=P) (w:=w) (base:=base) T;have G_law_many_names:=S0 (P:=P) (w:=w) (base:=base) T;have G_law_speakers:=Y7 (P:=P) (w:=w) (base:=base) T;have sc:=J6;refine T.al.F.ok J6 (fun vs H Q E h=>?_) (fun cdv A outer s H vs Q E hr h=>?_)
 .obtain⟨p,c,rfl,_⟩:=h;rfl
 .obtain⟨p,c,rfl,hL,c0,q⟩:=h;refine⟨_,(B2 (C7 (i:=2) sc.nd rfl (.inl rfl) (C1 T.aD G_law_sizes (Rm hr) (A7 (pv 0) (A7 (pv 1) A9))))
   (B2 (C7 (i:=3) sc.nd rfl (.inr rfl) (C1 T.aA G_law_people (Rm hr) (A7 (pv 0) (A7 (C3 (ixL K) (pv 2) B1 (fun _ _=>rfl)) A9))))
   (B2 (C7 (i:=4) sc.nd rfl (.inl rfl) (C1 T.an G_law_spelled (Rm hr) (A7 (pv 0) (A7 (C1 T.ak G_law_many_names (Rm hr) (A7 (pv 0) (A7 (D7 U1 (C3 (ixL K) (pv 2) B1 (fun _ _=>rfl)) (C3 (ixL K) (pv 2) B1 (fun _ _=>rfl))) A9))) A9))))
   (B2 (C7 (i:=5) sc.nd rfl (.inl rfl) (O4 (slL K) (pv 4) S5 (S7 (C3 (ixL K) (pv 2) B1 (fun _ _=>rfl)))))
   (B2 (Q6 (i:=6) (N':=["_law_name", "_law_left_here", "_law_people_here"]) (cap:=[none,some 0,some 3]) (cl:=[("_law_people_here",_),("_law_left_here",_)]) sc.nd rfl (.inl rfl) (K1 ⟨⟨rfl,rfl,rfl,rfl⟩,⟨⟨rfl,rfl,rfl,rfl⟩,trivial⟩⟩ ⟨rfl,⟨rfl,trivial⟩⟩) rfl (piL K (pv 5)) (fun _ _ _ _=>by exact⟨(pgC 0),D8,(Q7 (A7 (pv 0) (A7 (C3 (ixL K) (D6 (A7 C5 (A7 C5 (A7 C5 A9)))) (C1 T.ab G_law_pick (Rm hr) (A7 (pv 1) (A7 B1 A9))) (fun _ _=>rfl)) (A7 (C1 T.ax G_law_speakers (Rm hr) (A7 (pv 1) (A7 (pv 2) A9))) A9))))⟩))
   (B2 (C7 (i:=7) sc.nd rfl (.inl rfl) (D6 A9))
   (B2 (U7 PassesOwn.never rfl (piL K (O4 (slL K) (pv 4) (S7 (C3 (ixL K) (pv 2) B1 (fun _ _=>rfl))) S5)) (J5 (i:=8) sc.nd rfl (.inl rfl))
   (B7 (O8 (D9 (Lk K hr.units) (pv 5) (D6 A9) (F6 _)) (B2 (C7 (i:=9) sc.nd rfl (.inl rfl) (C3 (ixL K) (D6 (A7 (pv 5) (A7 (pv 5) (A7 (pv 4) A9)))) (C1 T.ab G_law_pick (Rm hr) (A7 (pv 0) (A7 B1 A9))) (fun _ _=>rfl)))
   (B7 (F8 (j0 K PySem.F.plainAttrs_list PySem.F.slot_list_append PySem.F.type_list_append K8 (pv 7) (A7 (Q7 (A7 (pv 8) (A7 (C3 (ixL K) (pv 5) (C1 T.ab G_law_pick (Rm hr) (A7 (pv 0) (A7 (F9 (K2 K) T.ai J3 (A7 (pv 5) A9)) A9))) (fun _ _=>rfl)) (A7 (C3 (ixL K) (pv 9) (C1 T.ab G_law_pick (Rm hr) (A7 (pv 0) (A7 (F9 (K2 K) T.ai J3 (A7 (pv 9) A9)) A9))) (fun _ _=>rfl)) A9)))) A9))))) E5)))
   (B2 (C7 (i:=10) sc.nd rfl (.inl rfl) (D6 A9))
   (B2 (U7 PassesOwn.never rfl (Gu T.aq (A7 (C3 (ixL K) (pv 2) B1 (fun _ _=>rfl)) A9)) (J5 (i:=11) sc.nd rfl (.inl rfl))
   (B2 (C7 (i:=12) sc.nd rfl (.inl rfl) (Q7 (A7 (C3 (ixL K) (pv 5) (C1 T.ab G_law_pick (Rm hr) (A7 (pv 0) (A7 (F9 (K2 K) T.ai J3 (A7 (pv 5) A9)) A9))) (fun _ _=>rfl)) (A7 (C3 (ixL K) (pv 5) (C1 T.ab G_law_pick (Rm hr) (A7 (pv 0) (A7 (F9 (K2 K) T.ai J3 (A7 (pv 5) A9)) A9))) (fun _ _=>rfl)) A9))))
   (B7 (O8 (PW.pt (Cj (D9 Cq (C3 (ixT K) (pv 12) B1 (fun _ _=>rfl)) (C3 (ixT K) (pv 12) B1 (fun _ _=>rfl)) (F6 _)) (z4 (D9 (Eh K hr.units) (pv 12) (pv 10) rfl)))) (B7 (F8 (j0 K PySem.F.plainAttrs_list PySem.F.slot_list_append PySem.F.type_list_append K8 (pv 10) (A7 (pv 12) A9)))) E5))))
   (B7 (C4 (D6 (A7 (pv 3) (A7 (pv 6) (A7 (pv 7) (A7 (pv 10) A9)))))))))))))))),?_⟩
  refine B6 fun N1 hN1=>?_;refine ex1 rfl (ex1 rfl ⟨p,c,rfl,hL,by omega,fun m n0 n1 n2 n3 c1 H1 hm k1 e1 Z hc1 L1=>?_⟩);have nmp:m≠p:=L1.neL e1 fun x y z=>by cases z
  refine hN1 _ _ (B6 fun N2 hN2=>?_);refine ex1 rfl (ex1 rfl ⟨m,_,B8 rfl rfl ⟨SqL.of e1,B5 (j:=0) rfl,?_⟩⟩);refine⟨p,c1,n0,rfl,L1,by omega,Z.h0,fun a pe c2 H2 ha k2 R2 len2 nd2 ok2 hc2 L2=>?_⟩;have e2:=Sm1 k2 e1 nmp;refine hN2 _ _ (B6 fun N3 hN3=>?_);refine ex1 rfl (ex1 rfl (ex1 rfl ⟨m,_,B8 rfl rfl ⟨SqL.of e2,B5 (j:=1) rfl,ex1 rfl ⟨m,_,B8 rfl rfl ⟨SqL.of e2,B5 (j:=2) rfl,B8 rfl rfl ?_⟩⟩⟩⟩));have e12:((n1:Int) +(n2:Int)) =((n1+n2:Nat):Int):=by omega
  dsimp only;rw[e12];have z1:=Z.h1;have z2:=Z.h2;have z3:=Z.h3;refine⟨p,c2,n1+n2,rfl,L2,by omega,by omega,fun nl ss H3 hnl k3 e3 len3 N3' L3=>?_⟩;have R3:=R2.sm L2 k3;have m3:=Sm1 k3 e2 nmp;refine⟨p,nl,_,ss,rfl,L3,by omega,e3,N3',by omega,fun nm ts c4 H4 hnm k4 e4 N4' len4 hc4 L4=>?_⟩;have R4:=R3.sm L3 k4;have m4:=Sm1 k4 m3 nmp;have k4:=(k1.trans k2).trans (k3.trans k4);clear k1 k2 k3 e1 e2 m3 R2 R3 e3 hnl N3' L1 L2 L3;refine hN3 _ _ (B6 fun N4 hN4=>?_);refine ex1 rfl (ex1 rfl ⟨m,_,B8 rfl rfl ⟨SqL.of m4,B5 (j:=1) rfl,_,rfl,nm,_,rfl,SqL.of e4,fun sq hsd=>?_⟩⟩);have us:=Same.new (o:=.lst (R8 (ts.map V.str) none (some (n1:Int)))) hsd;have e5:(upd H4 sq (.lst (R8 (ts.map V.str) none (some (n1:Int))))) sq=some (.lst ((ts.take n1).map V.str)):=by rw[A8,i0,BU]
  generalize upd H4 sq (.lst (R8 (ts.map V.str) none (some (n1:Int))))=H5 at us e5⊢;have R5:=R4.same us;have m5:=us _ _ m4;have f5:=us _ _ e4;have L5:=L4.same us;have k5:=k4.trans us.sm;clear R4 m4 e4 L4 k4 us hsd;have lts:ts.length=n1+n2:=by omega
  refine hN4 _ _ (B6 fun N5 hN5=>?_);have l8:pe.length<=8:=by have:=Z.h0;omega
  have c5:c4<=c+1000:=by omega
  clear hc1 hc2 hc4;refine ex1 rfl ⟨sq,rfl,⟨_,SqL.of e5⟩,fun D hD=>?_⟩;have npD:p≠D:=B0 L5.get hD;refine Y4 (asL (K:=K) (SqL.of e5)) (fun i σ G=>(∃v,σ = [v,some (.ref p),some (.ref a)])/\Sm [p] H5 G/\(∃c',c'<=c4+10*i/\LeftAt G p c')/\∃sa:List SAr,RowsAt G D (sa.map rS)/\(∀q∈sa,q.2.2.2.1≠D/\G q.2.2.2.1=some (.lst (q.2.2.2.2.map V.str))/\(q.2.2.1 = "fact"\/q.2.2.1 = "claim")/\(∀x∈q.2.2.2.2,x∈nP pe)/\q.2.2.2.2.Nodup/\q.2.2.2.2.length<=8)/\nS sa =(ts.take n1).take i)
   ⟨⟨_,rfl⟩,(Sm.refl _ _).updN hD,⟨_,by omega,L5.upd npD⟩,[],⟨A8,fun q h=>absurd h AD⟩,fun q h=>absurd h AD,rfl⟩ (fun i σ G _ ⟨_,kG,_⟩ o e=>kG sq o e (by simpa using L5.ne e5)) ?_ ?_
  .rintro i σ G v N hx ⟨⟨v0,rfl⟩,kG,⟨c6,hc6,LG⟩,sa,RG,spG,nG⟩ hN;rw[AG]at hx;obtain⟨x,hy,rfl⟩:=BC.mp hx;have hx:=hy;have li:=(AR.mp hx).1;rw[AW]at li;have lsa:sa.length=i:=by
    have:=congrArg List.length nG;unfold nS at this;rw[AA,AW,AW]at this;omega
   refine o5 (ex1 rfl ⟨by show 3<=sizeLine;decide,fun t ht=>?_⟩);have ut:=Same.new (o:=.lst [V.str "claim",.str "claim",.str "fact"]) ht;refine ex1 rfl (J1 (a:=p) rfl (LG.same ut) (by omega) (by decide) (by decide) fun dd G2 hd k2 L2=>?_);obtain⟨kd,hk1,hk2⟩:=Gy (d:=dd) (by omega);have et:G2 t=some (.lst [V.str "claim",.str "claim",.str "fact"]):=Sm1 k2 A8 (B0 LG.get ht).symm;refine⟨t,_,B8 rfl rfl ⟨SqL.of et,hk1,?_⟩⟩;have k2:=ut.sm.trans k2;have kG2:=kG.trans k2;refine ex1 rfl (ex1 rfl ⟨p,a,_,pe,rfl,L2,by omega,R5.sm L5 kG2,l8,nd2,fun l ss' c7 G3 hl k3 el sub nds lss hc7 L3=>⟨by show 3<=sizeLine;decide,fun t2 ht2=>?_⟩⟩);have u4:=Same.new (o:=.tup [.str x,.str kd,.ref l]) ht2;have k4:Sm [p] G (upd G3 t2 (.tup [.str x,.str kd,.ref l])):=k2.trans (k3.trans u4.sm);have R4:=RG.sm LG k4;have nlD:l≠D:=(B0 (RG.sm LG k2).at_ hl).symm;have e4:=u4 _ _ el;have L4:=L3.same u4;have et2:(upd G3 t2 (.tup [.str x,.str kd,.ref l])) t2=some (.tup [.str x,.str kd,.ref l]):=A8;generalize upd G3 t2 (.tup [.str x,.str kd,.ref l])=G4 at k4 R4 e4 L4 et2⊢;refine⟨_,R4.at_,by rw[AA,AA,sizeLine_eq];omega,hN _ _ ⟨⟨_,rfl⟩,(kG.trans k4).updN hD,⟨_,by omega,L4.upd npD⟩,sa ++ [(t2,x,kd,l,ss')],?_,fun z hz=>?_,?_⟩⟩
   .rw[AK];exact R4.snoc et2
   .rcases BA.mp hz with y | y
    .obtain⟨y1,y2,y3⟩:=spG z y;exact⟨y1,(B3 y1).trans (Sm1 k4 y2 (LG.ne y2)),y3⟩
    .rw[AB.mp y];exact⟨nlD,(B3 nlD).trans e4,hk2,sub,nds,lss⟩
   .unfold nS at nG⊢;rw[AK,nG,I0 hx];rfl
  .rintro σ G ⟨⟨v0,rfl⟩,kG,⟨c6,hc6,LG⟩,sa,RG,spG,nG⟩;rw[AA,BT]at nG;have c6':c6<=c+1200:=by
    rw[AA,AW]at hc6;omega
   clear hc6;have m6:=Sm1 kG m5 nmp;have R6:=R5.sm L5 kG;have f6:=Sm1 kG f5 (L5.ne f5);have e6:=Sm1 kG e5 (L5.ne e5);have k6:=k5.trans kG;clear m5 R5 f5 e5 kG k5;refine hN5 _ _ (B6 fun N6 hN6=>?_);refine⟨BI _,fun S hS=>?_⟩;have uS:=Same.new (o:=.lst []) hS;have eS:(upd G S (.lst [])) S=some (.lst []):=A8;have L7:=LG.same uS;have k7:Sm [p] G (upd G S (.lst [])):=uS.sm;have npS:p≠S:=B0 LG.get hS;generalize upd G S (.lst [])=H7 at eS L7 k7⊢;refine hN6 _ _ (B6 fun N7 hN7=>?_);have m7:=Sm1 k7 m6 nmp;have f7:=Sm1 k7 f6 (LG.ne f6);refine ex1 rfl (ex1 rfl ⟨m,_,B8 rfl rfl ⟨SqL.of m7,B5 (j:=1) rfl,_,rfl,nm,_,rfl,SqL.of f7,fun rs hrs=>?_⟩⟩);have ur:=Same.new (o:=.lst (R8 (ts.map V.str) (some (n1:Int)) none)) hrs;have e8:(upd H7 rs (.lst (R8 (ts.map V.str) (some (n1:Int)) none))) rs=some (.lst ((ts.drop n1).map V.str)):=by rw[A8,Au _ _ (by rw[AA];omega),List.map_drop]
   have nrS:rs≠S:=(B0 eS hrs).symm;have nrp:rs≠p:=(B0 L7.get hrs).symm;have eS8:=ur _ _ eS;have L8:=L7.same ur;have k8:=k7.trans ur.sm;clear m7 f7 k7 L7 eS;generalize upd H7 rs (.lst (R8 (ts.map V.str) (some (n1:Int)) none))=H8 at e8 eS8 L8 k8⊢;refine⟨rs,rfl,⟨_,SqL.of e8⟩,y0 (asL (SqL.of e8)) (fun i σ G'=>(∃v8 v9 v10 v11 v12,σ = [some (.ref p),some (.int 12),some (.ref m),some (.ref a),some (.ref nm),some (.ref sq),some (.ref D),some (.ref S),v8,v9,v10,v11,v12])/\Sm [p] G G'/\G' rs=some (.lst ((ts.drop n1).map V.str))/\(∃c',c'<=c6+3*i/\LeftAt G' p c')/\∃st:List STr,RowsAt G' S (st.map rT)/\nT st =(if ts.take n1 = []then []else(ts.drop n1).take i)/\∀q∈st,q.2.2.1∈ts.take n1/\q.2.2.2∈ts) ?_ ?_ ?_ ?_⟩
   .exact⟨⟨_,_,_,_,_,rfl⟩,k8,e8,⟨_,by omega,L8⟩,[],⟨eS8,fun q h=>absurd h AD⟩,by split<;>rfl,fun q h=>absurd h AD⟩
   .rintro i σ G' _ ⟨_,_,er,_⟩ o e;rw[e8]at e;cases e;exact er
   .rintro i σ G' y hy ⟨⟨v8,v9,v10,v11,v12,rfl⟩,kG',er,⟨c9,hc9,L9⟩,st,RS,nS',tS⟩ D1 hD1 _;rw[AG]at hy;obtain⟨x,hx,rfl⟩:=BC.mp hy;have li:=(AR.mp hx).1;rw[BZ]at li;have f9:=Sm1 kG' f6 (LG.ne f6);have e9:=Sm1 kG' e6 (LG.ne e6);have R9:=RS.at_;refine ex1 rfl ⟨BI _,fun z hz=>?_⟩;have uz:=Same.new (o:=.lst []) hz;refine⟨Sw.sd (ts.take n1),.list [],Ht (SqL.of (uz _ _ e9)),Jn (SqL.of A8),Hx (fun y hy=>N4'.1 y (BM hy)),Jx,?_⟩;rw[Bc];have LZ:=L9.same uz;have kZ:=kG'.trans uz.sm;have eZ:=uz _ _ e9;have fZ:=uz _ _ f9;have RZ:=RS.same uz;have rZ:=uz _ _ er;generalize upd G' z (.lst [])=GZ at LZ kZ eZ fZ RZ rZ uz⊢;refine⟨_,rfl,x2 (fun h=>?_) (fun h=>?_)⟩
    .have ne:ts.take n1≠[]:=fun y=>by rw[y]at h;exact absurd h (by decide)
     have lt1:1<=(ts.take n1).length:=List.length_pos_iff.mpr ne;have lt2:(ts.take n1).length<=ts.length:=by rw[AW];omega
     rw[BH ne]at nS';have lst:st.length=i:=by
      have:=congrArg List.length nS';unfold nT at this;rw[AA,AW,BZ]at this;omega
     refine B6 fun M1 hM1=>?_;refine ex1 rfl (ex1 rfl (ex1 rfl ⟨by show 3<=sizeLine;decide,fun t ht=>?_⟩));have ut:=Same.new (o:=.lst [V.ref sq,.ref sq,.ref nm]) ht;refine ex1 rfl (J1 (a:=p) rfl (LZ.same ut) (by omega) (by decide) (by decide) fun dd G2 hdd k2 L2=>?_);have et:G2 t=some (.lst [V.ref sq,.ref sq,.ref nm]):=Sm1 k2 A8 (B0 LZ.get ht).symm;have k2:Sm [p] GZ G2:=ut.sm.trans k2;have e2:=Sm1 k2 eZ (LZ.ne eZ);have f2:=Sm1 k2 fZ (LZ.ne fZ);obtain⟨gl,gs,ga,ge,gm,g1⟩:∃(gl:Addr) (gs:List Str),atI [V.ref sq,.ref sq,.ref nm] (dd:Int)=some (.ref gl)/\G2 gl=some (.lst (gs.map V.str))/\(∀y∈gs,y∈ts)/\1<=gs.length/\gs.length<=30:=by
      match dd,hdd with
      | 0,_=>exact⟨sq,_,B5 (j:=0) rfl,e2,fun y hy=>BM hy,lt1,by omega⟩
      | 1,_=>exact⟨sq,_,B5 (j:=1) rfl,e2,fun y hy=>BM hy,lt1,by omega⟩
      | 2,_=>exact⟨nm,_,B5 (j:=2) rfl,f2,fun y hy=>hy,by omega,by omega⟩
      | n+3,hdd=>exact absurd hdd (by omega)
     refine⟨t,_,B8 rfl rfl ⟨SqL.of et,ga,hM1 _ _ ?_⟩⟩;have R2:=RZ.sm LZ k2;refine ex1 rfl ⟨.inl ⟨rfl,_,SqL.of R2.at_⟩,?_⟩;refine ex1 rfl (ex1 rfl (ex1 rfl (ex1 rfl ⟨sq,_,rfl,.inl (SqL.of e2),?_⟩)));rw[AA];refine J1 (a:=p) rfl L2 (by omega) (by omega) (by omega) fun d1 G3 hd1 k3 L3=>?_;have e3:=Sm1 k3 e2 (L2.ne e2);have hi1:(ts.take n1)[d1]?=some ((ts.take n1)[d1]'(by omega)):=AQ (by omega);refine⟨sq,_,B8 rfl rfl ⟨SqL.of e3,B5 (by rw[AG,hi1];rfl),?_⟩⟩;have g3:=Sm1 k3 ge (L2.ne ge);refine ex1 rfl (ex1 rfl (ex1 rfl ⟨gl,_,rfl,.inl (SqL.of g3),?_⟩));rw[AA];refine J1 (a:=p) rfl L3 (by omega) (by omega) (by omega) fun d2 G4 hd2 k4 L4=>?_;have g4:=Sm1 k4 g3 (L3.ne g3);have hi2:gs[d2]?=some (gs[d2]'(by omega)):=AQ (by omega);refine⟨gl,_,B8 rfl rfl ⟨SqL.of g4,B5 (by rw[AG,hi2];rfl),by show 3<=sizeLine;decide,fun t2 ht2=>?_⟩⟩;have mem1:=AM hi1;have mem2:=gm _ (AM hi2);generalize (ts.take n1)[d1]'(by omega)=o1 at mem1 ht2⊢;generalize gs[d2]'(by omega)=o2 at mem2 ht2⊢;have u5:=Same.new (o:=.tup [.str x,.str o1,.str o2]) ht2;have k5:Sm [p] GZ (upd G4 t2 (.tup [.str x,.str o1,.str o2])):=k2.trans (k3.trans (k4.trans u5.sm));have R5:=RZ.sm LZ k5;have r5:=Sm1 k5 rZ nrp;have L5':=L4.same u5;have et2:(upd G4 t2 (.tup [.str x,.str o1,.str o2])) t2=some (.tup [.str x,.str o1,.str o2]):=A8;generalize upd G4 t2 (.tup [.str x,.str o1,.str o2])=G5 at k5 R5 r5 L5' et2⊢;refine⟨S,_,_,rfl,rfl,R5.at_,by rw[AA,AA,sizeLine_eq];omega,hD1 _ _ ⟨⟨_,_,_,_,_,rfl⟩,(kZ.trans k5).updN hS,by rw[B3 nrS];exact r5,⟨_,by omega,L5'.upd npS⟩,st ++ [(t2,x,o1,o2)],?_,?_,fun z hz=>?_⟩⟩
     .rw[AK];exact R5.snoc et2
     .rw[BH ne];unfold nT at nS'⊢;rw[AK,nS',I0 hx];rfl
     .rcases BA.mp hz with y | y
      .exact tS z y
      .rw[AB.mp y];exact⟨mem1,mem2⟩
    .have e0:ts.take n1 = []:=by
      cases y:ts.take n1 with
      | nil=>rfl
      | cons b r=>rw[y]at h;exact absurd rfl h
     rw[BJ e0]at nS';exact hD1 _ _ ⟨⟨_,_,_,_,_,rfl⟩,kZ,rZ,⟨_,by omega,LZ⟩,st,RZ,by rw[BJ e0];exact nS',tS⟩
   .rintro σ G' ⟨⟨v8,v9,v10,v11,v12,rfl⟩,kG',er,⟨c9,hc9,L9⟩,st,RS,nS',tS⟩;rw[AA,BZ]at hc9;have nT':nT st=if ts.take n1 = []then []else ts.drop n1:=by
     rw[nS',AA,BT]
    refine hN7 _ _ (B6 fun N8 hN8=>?_);refine⟨BI _,fun B hB=>?_⟩;have uB:=Same.new (o:=.lst []) hB;have eB:(upd G' B (.lst [])) B=some (.lst []):=A8;have LB:=L9.same uB;have kB:Sm [p] G' (upd G' B (.lst [])):=uB.sm;have npB:p≠B:=B0 L9.get hB;generalize upd G' B (.lst [])=H9 at eB LB kB⊢;refine hN8 _ _ (B6 fun N9 hN9=>?_);have m9:=Sm1 (kG'.trans kB) m6 nmp;refine ex1 rfl ⟨m,_,B8 rfl rfl ⟨SqL.of m9,B5 (j:=3) rfl,ex1 rfl ⟨by omega,by omega,?_⟩⟩⟩;rw[BV];refine O6 (fun i σ F=>(∃v8 v9 v11 v12,σ = [some (.ref p),some (.int 12),some (.ref m),some (.ref a),some (.ref nm),some (.ref sq),some (.ref D),some (.ref S),v8,v9,some (.ref B),v11,v12])/\Sm [p] G' F/\(∃c',c'<=c9+2*i/\LeftAt F p c')/\∃ba:List PA2,F B=some (.lst (V4 ba))/\(∀q∈ba,P1 F q)/\ba.length<=i/\(ba.map fun q=>q.2).Nodup/\∀q∈ba,q.2.1∈ts.take n1/\q.2.2∈ts.take n1/\q.2.1≠q.2.2) ?_ ?_ ?_
    .exact⟨⟨_,_,_,_,rfl⟩,kB,⟨_,by omega,LB⟩,[],eB,fun q h=>absurd h AD,AL _,CL,fun q h=>absurd h AD⟩
    .rintro i σ F hi ⟨⟨v8,v9,v11,v12,rfl⟩,kF,⟨cF,hcF,LF⟩,ba,eF,pF,lF,nF,tF⟩ D1 hD1 _;have n1p:=Z.one (by omega);have lt1:(ts.take n1).length=n1:=by rw[AW];omega
     have kGF:=kG'.trans kF;have eq0:=Sm1 kGF e6 (LG.ne e6);refine Hh fun M1 hM1=>?_;refine ex1 rfl (ex1 rfl (ex1 rfl ⟨sq,_,rfl,.inl (SqL.of eq0),?_⟩));rw[AA,lt1];refine J1 (a:=p) rfl LF (by omega) (by omega) (by omega) fun d1 F1 hd1 k1 L1=>?_;have e1:=Sm1 k1 eq0 (LF.ne eq0);have hi1:(ts.take n1)[d1]?=some ((ts.take n1)[d1]'(by omega)):=AQ (by omega);refine⟨sq,_,B8 rfl rfl ⟨SqL.of e1,B5 (by rw[AG,hi1];rfl),?_⟩⟩;refine ex1 rfl (ex1 rfl (ex1 rfl ⟨sq,_,rfl,.inl (SqL.of e1),?_⟩));rw[AA];refine J1 (a:=p) rfl L1 (by omega) (by omega) (by omega) fun d2 F2 hd2 k2 L2=>?_;have e2:=Sm1 k2 e1 (L1.ne e1);have hi2:(ts.take n1)[d2]?=some ((ts.take n1)[d2]'(by omega)):=AQ (by omega);refine⟨sq,_,B8 rfl rfl ⟨SqL.of e2,B5 (by rw[AG,hi2];rfl),by show 2<=sizeLine;decide,fun t ht=>?_⟩⟩;have mem1:=AM hi1;have mem2:=AM hi2;generalize (ts.take n1)[d1]'(by omega)=o1 at mem1 ht⊢;generalize (ts.take n1)[d2]'(by omega)=o2 at mem2 ht⊢;have u3:=Same.new (o:=.tup [.str o1,.str o2]) ht;have k3:Sm [p] F (upd F2 t (.tup [.str o1,.str o2])):=k1.trans (k2.trans u3.sm);have L3:=L2.same u3;have et:(upd F2 t (.tup [.str o1,.str o2])) t=some (.tup [.str o1,.str o2]):=A8;have nBp:B≠p:=npB.symm;have eB3:=Sm1 k3 eF nBp;have pB3:∀q∈ba,P1 (upd F2 t (.tup [.str o1,.str o2])) q:=fun q hq=>Sm1 k3 (pF q hq) (LF.neT (pF q hq));generalize upd F2 t (.tup [.str o1,.str o2])=F3 at k3 L3 et eB3 pB3⊢;have nmt:∀y∈ts.take n1,E6 y=true:=fun y hy=>N4'.1 y (BM hy);refine hM1 _ _ ?_;have no:∀(v12:Option V),D1.nx [some (.ref p),some (.int 12),some (.ref m),some (.ref a),some (.ref nm),some (.ref sq),some (.ref D),some (.ref S),v8,v9,some (.ref B),some (.int (0 +(i:Int))),v12] F3:=fun v12=>hD1 _ _ ⟨⟨_,_,_,_,rfl⟩,kF.trans k3,⟨_,by omega,L3⟩,ba,eB3,pB3,by omega,nF,tF⟩;refine ex1 rfl ⟨t,_,B8 rfl rfl ⟨SqT.of et,B5 (j:=0) rfl,ex1 rfl ⟨t,_,B8 rfl rfl ⟨SqT.of et,B5 (j:=1) rfl,rfl,_,rfl,?_⟩⟩⟩⟩;refine x2 (fun h=>?_) (fun h=>no _);have ne12:o1≠o2:=fun y=>by rw[y]at h;exact absurd h (by simp)
     refine ex1 rfl (ex1 rfl (Ay (k:=(o1,o2)) et eB3 pB3 ⟨G8 (nmt _ mem1),G8 (nmt _ mem2)⟩ (fun q hq=>⟨G8 (nmt _ (tF q hq).1),G8 (nmt _ (tF q hq).2.1)⟩) ⟨_,rfl,x2 (fun h2=>?_) (fun h2=>no _)⟩));have nin:(o1,o2)∉ba.map fun q=>q.2:=by simpa using h2
     have lrb:(V4 ba).length=ba.length:=by unfold V4;rw[AA]
     refine ex1 rfl ⟨.inl ⟨rfl,_,SqL.of eB3⟩,ex1 rfl ⟨B,_,_,rfl,rfl,eB3,by rw[lrb,sizeLine_eq];omega,hD1 _ _ ⟨⟨_,_,_,_,rfl⟩,(kF.trans k3).updN hB,⟨_,by omega,L3.upd npB⟩,ba ++ [(t,o1,o2)],by rw[A8];unfold V4;rw[AK];rfl,fun q hq=>?_,by rw[AO];show _+1<=_;omega,?_,fun q hq=>?_⟩⟩⟩
     .rcases BA.mp hq with y | y
      .exact(B3 (U9 (pB3 q y) eB3 (by intro z;cases z))).trans (pB3 q y)
      .rw[AB.mp y];exact(B3 (U9 et eB3 (by intro z;cases z))).trans et
     .rw[AK];exact Dl nF nin
     .rcases BA.mp hq with y | y
      .exact tF q y
      .rw[AB.mp y];exact⟨mem1,mem2,ne12⟩
    .rintro σ F ⟨⟨v8,v9,v11,v12,rfl⟩,kF,⟨cF,hcF,LF⟩,ba,eF,pF,lF,nF,tF⟩;refine hN9 _ _ ?_;refine ex1 rfl (ex1 rfl (ex1 rfl (ex1 rfl ⟨by show 4<=sizeLine;decide,fun r hr=>?_⟩)));have kGF:=kG'.trans kF;have W:WRows F a D S B pe sa st ba:=⟨R6.sm LG kGF,RG.sm LG kGF,fun q hq=>Sm1 kGF (spG q hq).2.1 (LG.ne (spG q hq).2.1),RS.sm L9 kF,eF,pF⟩;have ur:=Same.new (o:=.lst [.ref a,.ref D,.ref S,.ref B]) hr;have lsa:sa.length=n1:=by
      have:=congrArg List.length nG;unfold nS at this;rw[AA,AW]at this;omega
     have lst:st.length<=n2:=by
      have:=congrArg List.length nT';unfold nT at this;rw[AA]at this;split at this
      .rw[this];exact BI _
      .rw[BZ]at this;omega
     refine q r a D S B pe sa st ba cF _ (k6.trans (kGF.trans ur.sm)) A8 (W.same ur) ⟨⟨by omega,by omega,by omega,by omega⟩,nd2,ok2,?_,fun x hx=>?_,fun z hz=>(spG z hz).2.2.1,fun z hz=>⟨(spG z hz).2.2.2.1,(spG z hz).2.2.2.2.1,BK (spG z hz).2.2.2.2.2 (by decide)⟩,fun z hz=>?_,nF,fun z hz=>by rw[nG];exact tF z hz⟩ (LF.same ur) (by omega)
     .rw[nG,nT'];split
      .rename_i e0;rw[e0];exact CL
      .rw[List.take_append_drop];exact N4'.2.1
     .rw[nG,nT']at hx;refine N4'.1 x ?_;rcases BA.mp hx with y | y
      .exact BM y
      .split at y
       .cases y
       .exact List.mem_of_mem_drop y
     .obtain⟨z1,z2⟩:=tS z hz;rw[nG,nT'];refine⟨z1,?_⟩;have ne:ts.take n1≠[]:=fun y=>by rw[y]at z1;cases z1
      rw[BH ne];rw[<-List.take_append_drop n1 ts]at z2;exact BA.mp z2
end
theorem De(z:Str)(l:List Str):∀acc:Array Nat,(List.foldl (fun acc (p:Str)=>acc++z.cps++p.cps) acc l).size=acc.size +(l.map fun x=>x.length).sum+l.length*z.length:=by
 induction l with
 | nil=>intro acc;simp
 | cons y r ih =>
  intro acc;rw[List.foldl_cons,ih,Array.size_append,Array.size_append,BL,List.sum_cons,BG,Nat.succ_mul];unfold Str.length;omega
theorem i6(z:Str)(l:List Str):(Txt.join z l).length<=(l.map fun x=>x.length).sum+l.length*z.length:=by
 cases l with
 | nil=>exact BI _
 | cons x r =>
  have e:(Txt.join z (x::r)).length=x.length +(r.map fun x=>x.length).sum+r.length*z.length:=De z r x.cps;rw[e,BL,List.sum_cons,BG,Nat.succ_mul];omega
theorem Ge{l:List Str}{B:Nat}(h:∀x∈l,x.length<=B):(l.map fun x=>x.length).sum<=l.length*B:=by
 induction l with
 | nil=>exact BI _
 | cons x r ih =>
  have h1:=h x (BF ..);have h2:=ih fun y hy=>h y (AV _ hy);rw[BL,List.sum_cons,BG,Nat.succ_mul];omega
theorem C6(a b:Str):(a++b).length=a.length+b.length:=Array.size_append
theorem Dd{i:Int}(h0:0<=i)(h9:i<=9):i.natAbs.log2<1920/\(Str.ofString (toString i)).length<=4:=by
 have key:∀n:Fin 10,(n.1:Int).natAbs.log2<1920/\(Str.ofString (toString (n.1:Int))).length<=4:=by decide +kernel
 have e:i =((⟨i.toNat,by omega⟩:Fin 10).1:Int):=by show i =(i.toNat:Int);omega
 rw[e];exact key _
def tyP(q:PEr):Str := "person " ++ q.2.1 ++ " " ++ Str.ofString (toString q.2.2)
def tyS(q:Str×Str×List Str):Str:=Txt.join " " ("say" :: q.1::q.2.1::q.2.2)
def tyT(q:STr):Str:=Txt.join " " ["strike",q.2.1,q.2.2.1,q.2.2.2]
def tyK(q:PA2):Str:=Txt.join " " ["back",q.2.1,q.2.2]
abbrev DSr:Type:=Str×Str×List Str
def txt(pe:List PEr)(da:List DSr)(st:List STr)(ba:List PA2):List Str:=pe.map tyP++da.map tyS++st.map tyT++ba.map tyK
structure TxOk(pe:List PEr)(da:List DSr)(st:List STr)(ba:List PA2):Prop where
 len:pe.length<=30/\da.length<=30/\st.length<=30/\ba.length<=30
 p:∀q∈pe,q.2.1.length<=8/\0<=q.2.2/\q.2.2<=9
 s:∀q∈da,q.1.length<=8/\q.2.1.length<=8/\q.2.2.length<=100/\∀x∈q.2.2,x.length<=8
 t:∀q∈st,q.2.1.length<=8/\q.2.2.1.length<=8/\q.2.2.2.length<=8
 b:∀q∈ba,q.2.1.length<=8/\q.2.2.length<=8
theorem WOk.tx{pe:List PEr}{sa:List SAr}{st:List STr}{ba:List PA2}(h:WOk pe sa st ba):TxOk pe (sa.map dS) st ba:=by
 have nm:∀x∈nS sa++nT st,x.length<=8:=fun x hx=>(Q2 (h.nm x hx)).2;have ns:∀x∈nS sa,x.length<=8:=fun x hx=>nm x (CC _ hx);refine⟨by rw[AA];exact h.len,fun q hq=>⟨(Q2 (h.pm q hq).1).2,(h.pm q hq).2⟩,fun q hq=>?_,fun q hq=>?_,fun q hq=>⟨ns _ (h.bk q hq).1,ns _ (h.bk q hq).2.1⟩⟩
 .obtain⟨z,hz,rfl⟩:=A_.mp hq;obtain⟨k1,k2,k3⟩:=h.sk z hz;refine⟨ns _ (A_.mpr ⟨z,hz,rfl⟩),?_,k3,fun x hx=>?_⟩
  .rcases h.kd z hz with y | y
   .show z.2.2.1.length<=8;rw[y];decide
   .show z.2.2.1.length<=8;rw[y];decide
  .obtain⟨w,hw,rfl⟩:=A_.mp (k1 x hx);exact(Q2 (h.pm w hw).1).2
 .refine⟨nm _ (BB _ (A_.mpr ⟨q,hq,rfl⟩)),ns _ (h.tg q hq).1,?_⟩;rcases(h.tg q hq).2 with y | y
  .exact ns _ y
  .exact nm _ (BB _ y)
theorem Mu(a b c d:Str):([a,b,c,d].map fun x=>x.length).sum=a.length +(b.length +(c.length +(d.length+0))):=rfl
theorem Mc(a b c:Str):([a,b,c].map fun x=>x.length).sum=a.length +(b.length +(c.length+0)):=rfl
theorem Ku:("say":Str).length=3:=by decide +kernel
theorem S2:(" ":Str).length=1:=by decide +kernel
theorem Fg:("strike":Str).length=6:=by decide +kernel
theorem B9:("strike ":Str).length=7:=by decide +kernel
theorem Il:("back":Str).length=4:=by decide +kernel
theorem C8:("back ":Str).length=5:=by decide +kernel
theorem C0:("person ":Str).length=7:=by decide +kernel
theorem Ma:("\n":Str).length=1:=by decide +kernel
theorem Ed{q:DSr}(h:q.1.length<=8/\q.2.1.length<=8/\q.2.2.length<=100/\∀x∈q.2.2,x.length<=8):(("say" :: q.1::q.2.1::q.2.2:List Str).map fun x:Str=>x.length).sum +("say" :: q.1::q.2.1::q.2.2:List Str).length *(" ":Str).length<=1000:=by
 obtain⟨h1,h2,h3,h4⟩:=h;have:=Ge h4;simp only[BL,List.sum_cons,BG,Ku,S2];omega
theorem Z8{a b c:Str}(h1:a.length<=8)(h2:b.length<=8)(h3:c.length<=8):((["strike",a,b,c]:List Str).map fun x:Str=>x.length).sum +(["strike",a,b,c]:List Str).length *(" ":Str).length<=1000:=by
 rw[Mu,Fg,S2];show _+4*1<=_;omega
theorem Ae{a b:Str}(h1:a.length<=8)(h2:b.length<=8):((["back",a,b]:List Str).map fun x:Str=>x.length).sum +(["back",a,b]:List Str).length *(" ":Str).length<=1000:=by
 rw[Mc,Il,S2];show _+3*1<=_;omega
theorem TxOk.row{pe:List PEr}{da:List DSr}{st:List STr}{ba:List PA2}(h:TxOk pe da st ba):∀x∈txt pe da st ba,x.length<=1000:=by
 intro x hx;unfold txt at hx;simp only[BA,A_]at hx;rcases hx with((⟨q,hq,rfl⟩ | ⟨q,hq,rfl⟩) | ⟨q,hq,rfl⟩) | ⟨q,hq,rfl⟩
 .obtain⟨h1,h2,h3⟩:=h.p q hq;have d:=(Dd h2 h3).2;unfold tyP;rw[C6,C6,C6,C0,S2];omega
 .exact BK (i6 _ _) (Ed (h.s q hq))
 .obtain⟨h1,h2,h3⟩:=h.t q hq;exact BK (i6 _ _) (Z8 h1 h2 h3)
 .obtain⟨h1,h2⟩:=h.b q hq;exact BK (i6 _ _) (Ae h1 h2)
theorem TxOk.many{pe:List PEr}{da:List DSr}{st:List STr}{ba:List PA2}(h:TxOk pe da st ba):(txt pe da st ba).length<=120:=by
 obtain⟨h1,h2,h3,h4⟩:=h.len;unfold txt;simp only[AO,AA];omega
theorem TxOk.sum{pe:List PEr}{da:List DSr}{st:List STr}{ba:List PA2}(h:TxOk pe da st ba):((txt pe da st ba).map fun x=>x.length).sum +(txt pe da st ba).length *("\n":Str).length<=16777216:=by
 have h1:=Ge h.row;have h2:=h.many;rw[Ma];omega
theorem f_P(n r:Str):Str.empty ++ "person " ++ n ++ " " ++ r = "person " ++ n ++ " " ++ r:=by
 rw[show Str.empty ++("person ":Str) = "person " from by decide +kernel]
theorem f_T(a b c:Str):Str.empty ++ "strike " ++ a ++ " " ++ b ++ " " ++ c=Txt.join " " ["strike",a,b,c]:=by
 rw[show Str.empty ++("strike ":Str) = "strike" ++ " " from by decide +kernel];rfl
theorem f_K(a b:Str):Str.empty ++ "back " ++ a ++ " " ++ b=Txt.join " " ["back",a,b]:=by
 rw[show Str.empty ++("back ":Str) = "back" ++ " " from by decide +kernel];rfl
theorem t4{α:Type}{J:It}{ys:List α}{r:α->V}(f:α->V){a D:Addr}{H:Hp}(as:AsSeq J (ys.map r) a H){g:TG}{te:TE}{σ0:St}{Q:St->Hp->Prop}(S:St->Prop)(h0:S σ0)(len:ys.length<=5000)(hD:H D=none)
  (he:∀y∈ys,∀σ G,S σ->Same H G->∀(M:St->VK) (N:St->Hp->Prop),(∀σ' G',S σ'->Same G G'->M σ' (f y) G')->g (r y) σ G fun σ2 H2=>Q3 σ2 H2 fun b H3=>if b=true then te σ2 H3 (M σ2)else N σ2 H3)
  (q:∀σ G,Same H G->G D=some (.lst (ys.map f))->Q σ G):Hu g Q3 (Cu D te) J σ0 (upd H D (.lst [])) Q:=by
 refine Y4 as (fun i σ G=>S σ/\Same H G/\G D=some (.lst ((ys.take i).map f))) ⟨h0,Same.new hD,A8⟩ (fun i σ G _ h=>h.2.1.at a) ?_ ?_
 .rintro i σ G v N hx ⟨hS,sG,eG⟩ hN;rw[AG]at hx;obtain⟨y,hy,rfl⟩:=BC.mp hx;have my:=AM hy;refine he y my σ G hS sG (fun σ2 v H1=>∃ys,H1 D=some (HO.lst ys)/\ys.length<sizeLine/\N σ2 (upd H1 D (HO.lst (ys ++ [v])))) N fun σ' G' hS' s'=>⟨_,s' _ _ eG,?_,hN _ _ ⟨hS',(sG.trans s').upd hD,?_⟩⟩
  .rw[AA,AW,sizeLine_eq];omega
  .rw[A8,I0 hy,AK];rfl
 .rintro σ G ⟨_,sG,eG⟩;rw[AA,BT]at eG;exact q σ G sG eG
section
variable{P:Program}{w:World}{K:PySem.W.Frag}{mg:Str->Option Value}{base:Heap}
theorem D0:Str.empty.length=0:=by decide +kernel
theorem E8{n:Nat}(h:n<=5000):n<=sizeLine:=by rw[sizeLine_eq];omega
theorem Bw{K:PySem.W.Frag}{G:Hp}{l:Addr}{q:DSr}{Q:VK}(el:G l=some (.lst (q.2.2.map V.str)))(h:q.1.length<=8/\q.2.1.length<=8/\q.2.2.length<=100/\∀x∈q.2.2,x.length<=8)(hQ:∀G',Same G G'->Q (.str (tyS q)) G') :
  tBM K "str" (Ey K) (tC (.str (Str.ofString " "))) (V8 (tOp Lg (Lf (V8 (tC (.str (Str.ofString "say"))) (V8 (Ic 0) (V8 (Ic 1) Fl)))) (Ic 2)) Fl) [some (.str q.1),some (.str q.2.1),some (.ref l)] G Q:=by
 refine⟨rfl,?_⟩;refine ex1 rfl (ex1 rfl ⟨by show 3<=sizeLine;decide,fun z hz=>?_⟩);have u:=Same.new (o:=.lst [.str (Str.ofString "say"),.str q.1,.str q.2.1]) hz;refine ex1 rfl ⟨z,l,_,_,rfl,rfl,A8,u _ _ el,?_,fun p hp=>?_⟩
 .rw[AA];refine E8 ?_;show 3+_<=_;omega
 .refine⟨" ",p, "say" :: q.1::q.2.1::q.2.2,rfl,rfl,SqL.of A8,BK (Ed h) (by decide),hQ _ (u.trans (Same.new hp))⟩
theorem Ax{K:PySem.W.Frag}{G:Hp}{t:Addr}{y:Str}{ys:List Str}{Q:VK}(et:G t=some (.tup (ys.map V.str)))(hl:ys.length<=10)(h:((y::ys).map fun x:Str=>x.length).sum +(y::ys).length *(" ":Str).length<=1000)(hQ:∀G',Same G G'->Q (.str (Txt.join " " (y::ys))) G') :
  tBM K "str" (Ey K) (tC (.str (Str.ofString " "))) (V8 (tOp Lg (Lf (V8 (tC (.str y)) Fl)) (tCB (fun xs H Q=>∃p ys,xs = [V.ref p]/\(SqL K H p ys\/SqT K H p ys)/\∀(l:Addr),H l=none->Q (V.ref l) (upd H l (HO.lst ys))) (V8 (Ic 0) Fl))) Fl) [some (.ref t)] G Q:=by
 refine⟨rfl,?_⟩;refine⟨by show 1<=sizeLine;decide,fun z hz=>?_⟩;have u:=Same.new (o:=.lst [.str y]) hz;refine ex1 rfl ⟨t,_,rfl,.inr (SqT.of (u _ _ et)),fun z2 hz2=>?_⟩;have u2:=Same.new (o:=.lst (ys.map V.str)) hz2;refine⟨z,z2,_,_,rfl,rfl,u2 _ _ A8,A8,?_,fun p hp=>?_⟩
 .rw[AA];refine E8 ?_;show 1+_<=_;omega
 .refine⟨" ",p,y::ys,rfl,rfl,SqL.of A8,BK h (by decide),hQ _ ((u.trans u2).trans (Same.new hp))⟩
theorem b8:FnScope ["weave", "rows"] ["weave"] (B4 s_text_of):=fsc
def Bt(C:Addr):Sp:=fun vs H Q _=>∃(x:Addr) (pe:List PEr) (sa:List SAr) (st:List STr) (ba:List PA2),vs = [.ref x]/\WeaveAt C H x pe sa st ba/\TxOk pe (sa.map dS) st ba /\
 ∀H',Same H H'->Q (.str (Txt.join "\n" (txt pe (sa.map dS) st ba))) H'
set_option maxHeartbeats 4000000 in
theorem Bm(T:Tx K mg):FnOk P w K mg base CX0 1 T.ap.f T.ap.fd ["weave"] (Bt T.aa):=by
 have sc:=b8;refine T.ap.F.ok b8 (fun vs H Q E h=>?_) (fun cdv A outer s H vs Q E hr h=>?_)
 .obtain⟨x,pe,sa,st,ba,rfl,_⟩:=h;rfl
 .obtain⟨x,pe,sa,st,ba,rfl,⟨dx,a,b,c,d,hx,W⟩,ok,q⟩:=h;refine⟨_,(B2 (Q6 (i:=1) (N':=["name", "rank"]) (cap:=[none,none]) (cl:=[]) sc.nd rfl (.inl rfl) (K1 trivial trivial) rfl (piL K (peF K (pv 0))) (fun _ _ _ _=>by exact⟨(pgT K (n:=2) (C2 (pgC 0) (C2 (pgC 1) J9))),D8,(y6 (F4 C5 (F4 (Y3 (pv 0)) (F4 C5 (F4 (Y3 (pv 1)) Ct)))))⟩))
   (B2 (F8 (j0 K PySem.F.plainAttrs_list PySem.F.slot_list_extend PySem.F.type_list_extend X7 (pv 1) (A7 (Q0 (N':=["name", "kind", "speakers"]) (cap:=[none,none,none]) (cl:=[]) (K1 trivial trivial) rfl (piL K (peF K (pv 0))) (fun _ _ _ _=>by exact⟨(pgT K (n:=3) (C2 (pgC 0) (C2 (pgC 1) (C2 (pgC 2) J9)))),D8,(j0 K PySem.F.plainAttrs_str PySem.F.slot_str_join PySem.F.type_str_join (P9 K) C5 (A7 (D7 K7 (D6 (A7 C5 (A7 (pv 0) (A7 (pv 1) A9)))) (pv 2)) A9))⟩)) A9)))
   (B2 (F8 (j0 K PySem.F.plainAttrs_list PySem.F.slot_list_extend PySem.F.type_list_extend X7 (pv 1) (A7 (Q0 (N':=["name", "one", "goal"]) (cap:=[none,none,none]) (cl:=[]) (K1 trivial trivial) rfl (piL K (peF K (pv 0))) (fun _ _ _ _=>by exact⟨(pgT K (n:=3) (C2 (pgC 0) (C2 (pgC 1) (C2 (pgC 2) J9)))),D8,(y6 (F4 C5 (F4 (Y3 (pv 0)) (F4 C5 (F4 (Y3 (pv 1)) (F4 C5 (F4 (Y3 (pv 2)) Ct)))))))⟩)) A9)))
   (B2 (F8 (j0 K PySem.F.plainAttrs_list PySem.F.slot_list_extend PySem.F.type_list_extend X7 (pv 1) (A7 (Q0 (N':=["one", "other"]) (cap:=[none,none]) (cl:=[]) (K1 trivial trivial) rfl (piL K (peF K (pv 0))) (fun _ _ _ _=>by exact⟨(pgT K (n:=2) (C2 (pgC 0) (C2 (pgC 1) J9))),D8,(y6 (F4 C5 (F4 (Y3 (pv 0)) (F4 C5 (F4 (Y3 (pv 1)) Ct)))))⟩)) A9)))
   (B7 (C4 (j0 K PySem.F.plainAttrs_str PySem.F.slot_str_join PySem.F.type_str_join (P9 K) C5 (A7 (pv 1) A9)))))))),?_⟩
  obtain⟨n1,n2,n3,n4⟩:=ok.len;rw[AA]at n2;refine B6 fun N1 hN1=>?_;refine ex1 rfl ⟨x,_,_,_,_,rfl,hx,T.am,T.aM,rfl,a,rfl,⟨_,SqL.of W.hp.at_⟩,fun D hD=>?_⟩;have as1:=asL (K:=K) (SqL.of W.hp.at_);rw[AX]at as1;refine t4 (fun q:PEr=>V.str (tyP q)) as1 (fun σ=>∃v0 v1,σ = [v0,v1]) ⟨_,_,rfl⟩ (by omega) hD ?_ fun σ H1 s1 e1=>?_
  .rintro q hq σ G ⟨v0,v1,rfl⟩ sG M N hM;obtain⟨h1,h2,h3⟩:=ok.p q hq;obtain⟨d1,d2⟩:=Dd h2 h3;have et:=sG _ _ (W.hp.row (rP q) (A_.mpr ⟨q,hq,rfl⟩));refine⟨q.1,ex1 rfl ⟨SqT.of et,rfl,_,ex1 rfl (B8 rfl rfl ?_)⟩⟩;dsimp only[Q3];refine U0 ?_;refine⟨_,rfl,by refine E8 ?_;(try simp only[C6,D0,C0,S2,B9,C8]);omega,ex1 rfl ⟨q.2.1,.inl ⟨rfl,by refine E8 ?_;(try simp only[C6,D0,C0,S2,B9,C8]);omega⟩,_,rfl,by refine E8 ?_;(try simp only[C6,D0,C0,S2,B9,C8]);omega,_,rfl,by refine E8 ?_;(try simp only[C6,D0,C0,S2,B9,C8]);omega,ex1 rfl ⟨_,.inr ⟨q.2.2,rfl,d1,rfl⟩,_,rfl,by refine E8 ?_;(try simp only[C6,D0,C0,S2,B9,C8]);omega,?_⟩⟩⟩;have e:=f_P q.2.1 (Str.ofString (toString q.2.2));show M _ (V.str (Str.empty ++ "person " ++ q.2.1 ++ " " ++ Str.ofString (toString q.2.2))) G;rw[e];exact hM _ _ ⟨_,_,rfl⟩ fun _ _ z=>z
  refine hN1 _ _ (B6 fun N2 hN2=>?_);have x1:=s1 _ _ hx;have W1:=W.same s1;refine ex1 rfl ⟨.inl ⟨rfl,_,SqL.of e1⟩,?_⟩;refine ex1 rfl ⟨x,_,_,_,_,rfl,x1,T.am,T.aK,rfl,b,rfl,⟨_,SqL.of W1.hs.at_⟩,fun D2 hD2=>?_⟩;have as2:=asL (K:=K) (SqL.of W1.hs.at_);rw[AX]at as2;refine t4 (fun q:SAr=>V.str (tyS (dS q))) as2 (fun σ=>∃v0 v1 v2,σ = [v0,v1,v2]) ⟨_,_,_,rfl⟩ (by omega) hD2 ?_ fun σ H2 s2 e2=>?_
  .rintro q hq σ G ⟨v0,v1,v2,rfl⟩ sG M N hM;have et:=sG _ _ (W1.hs.row (rS q) (A_.mpr ⟨q,hq,rfl⟩));refine⟨q.1,ex1 rfl ⟨SqT.of et,rfl,_,ex1 rfl ⟨_,ex1 rfl (B8 rfl rfl ?_)⟩⟩⟩;dsimp only[Q3];refine U0 ?_;exact Bw (q:=dS q) (sG _ _ (W1.sp q hq)) (ok.s _ (A_.mpr ⟨q,hq,rfl⟩)) fun G' s'=>hM _ _ ⟨_,_,_,rfl⟩ s'
  refine⟨D,D2,_,_,rfl,rfl,s2 _ _ e1,e2,by rw[AA,AA];exact E8 (by omega),?_⟩;have t2:Same H (upd H2 D (.lst (pe.map (fun q:PEr=>V.str (tyP q))++sa.map fun q=>V.str (tyS (dS q))))):=(s1.trans s2).upd hD;have f2:(upd H2 D (.lst (pe.map (fun q:PEr=>V.str (tyP q))++sa.map fun q=>V.str (tyS (dS q))))) D=some (.lst (pe.map (fun q:PEr=>V.str (tyP q))++sa.map fun q=>V.str (tyS (dS q)))):=A8;refine hN2 _ _ ?_;generalize upd H2 D (.lst (pe.map (fun q:PEr=>V.str (tyP q))++sa.map fun q=>V.str (tyS (dS q))))=G2 at t2 f2⊢;refine B6 fun N3 hN3=>?_;clear s1 s2 e1 e2 x1 W1 as1 as2 hD2;have x1:=t2 _ _ hx;have W1:=W.same t2;refine ex1 rfl ⟨.inl ⟨rfl,_,SqL.of f2⟩,?_⟩;refine ex1 rfl ⟨x,_,_,_,_,rfl,x1,T.am,T.aL,rfl,c,rfl,⟨_,SqL.of W1.ht.at_⟩,fun D3 hD3=>?_⟩;have as3:=asL (K:=K) (SqL.of W1.ht.at_);rw[AX]at as3;refine t4 (fun q:STr=>V.str (tyT q)) as3 (fun σ=>∃v0 v1 v2,σ = [v0,v1,v2]) ⟨_,_,_,rfl⟩ (by omega) hD3 ?_ fun σ H3 s3 e3=>?_
  .rintro q hq σ G ⟨v0,v1,v2,rfl⟩ sG M N hM;obtain⟨h1,h2,h3⟩:=ok.t q hq;have et:=sG _ _ (W1.ht.row (rT q) (A_.mpr ⟨q,hq,rfl⟩));refine⟨q.1,ex1 rfl ⟨SqT.of et,rfl,_,ex1 rfl ⟨_,ex1 rfl (B8 rfl rfl ?_)⟩⟩⟩;dsimp only[Q3];refine U0 ?_;refine⟨_,rfl,by refine E8 ?_;(try simp only[C6,D0,C0,S2,B9,C8]);omega,ex1 rfl ⟨q.2.1,.inl ⟨rfl,by refine E8 ?_;(try simp only[C6,D0,C0,S2,B9,C8]);omega⟩,_,rfl,by refine E8 ?_;(try simp only[C6,D0,C0,S2,B9,C8]);omega,_,rfl,by refine E8 ?_;(try simp only[C6,D0,C0,S2,B9,C8]);omega,ex1 rfl ⟨q.2.2.1,.inl ⟨rfl,by refine E8 ?_;(try simp only[C6,D0,C0,S2,B9,C8]);omega⟩,_,rfl,by refine E8 ?_;(try simp only[C6,D0,C0,S2,B9,C8]);omega,_,rfl,by refine E8 ?_;(try simp only[C6,D0,C0,S2,B9,C8]);omega,ex1 rfl ⟨q.2.2.2,.inl ⟨rfl,by refine E8 ?_;(try simp only[C6,D0,C0,S2,B9,C8]);omega⟩,_,rfl,by refine E8 ?_;(try simp only[C6,D0,C0,S2,B9,C8]);omega,?_⟩⟩⟩⟩;have e:=f_T q.2.1 q.2.2.1 q.2.2.2;show M _ (V.str (Str.empty ++ "strike " ++ q.2.1 ++ " " ++ q.2.2.1 ++ " " ++ q.2.2.2)) G;rw[e];exact hM _ _ ⟨_,_,_,rfl⟩ fun _ _ z=>z
  refine⟨D,D3,_,_,rfl,rfl,s3 _ _ f2,e3,by rw[AO,AA,AA,AA];exact E8 (by omega),?_⟩;have t3:Same H (upd H3 D (.lst (pe.map (fun q:PEr=>V.str (tyP q))++sa.map (fun q=>V.str (tyS (dS q)))++st.map fun q=>V.str (tyT q)))):=(t2.trans s3).upd hD;have f3:(upd H3 D (.lst (pe.map (fun q:PEr=>V.str (tyP q))++sa.map (fun q=>V.str (tyS (dS q)))++st.map fun q=>V.str (tyT q)))) D=some (.lst (pe.map (fun q:PEr=>V.str (tyP q))++sa.map (fun q=>V.str (tyS (dS q)))++st.map fun q=>V.str (tyT q))):=A8;refine hN3 _ _ ?_;generalize upd H3 D (.lst (pe.map (fun q:PEr=>V.str (tyP q))++sa.map (fun q=>V.str (tyS (dS q)))++st.map fun q=>V.str (tyT q)))=G3 at t3 f3⊢;refine B6 fun N4 hN4=>?_;clear s3 e3 x1 W1 as3 hD3 t2 f2;have x1:=t3 _ _ hx;have W1:=W.same t3;refine ex1 rfl ⟨.inl ⟨rfl,_,SqL.of f3⟩,?_⟩;refine ex1 rfl ⟨x,_,_,_,_,rfl,x1,T.am,T.aN,rfl,d,rfl,⟨_,SqL.of W1.hb⟩,fun D4 hD4=>?_⟩;refine t4 (r:=fun q:PA2=>V.ref q.1) (fun q:PA2=>V.str (tyK q)) (asL (K:=K) (SqL.of W1.hb)) (fun σ=>∃v0 v1,σ = [v0,v1]) ⟨_,_,rfl⟩ (by omega) hD4 ?_ fun σ H4 s4 e4=>?_
  .rintro q hq σ G ⟨v0,v1,rfl⟩ sG M N hM;obtain⟨h1,h2⟩:=ok.b q hq;have et:=sG _ _ (W1.pb q hq);refine⟨q.1,ex1 rfl ⟨SqT.of et,rfl,_,ex1 rfl (B8 rfl rfl ?_)⟩⟩;dsimp only[Q3];refine U0 ?_;refine⟨_,rfl,by refine E8 ?_;(try simp only[C6,D0,C0,S2,B9,C8]);omega,ex1 rfl ⟨q.2.1,.inl ⟨rfl,by refine E8 ?_;(try simp only[C6,D0,C0,S2,B9,C8]);omega⟩,_,rfl,by refine E8 ?_;(try simp only[C6,D0,C0,S2,B9,C8]);omega,_,rfl,by refine E8 ?_;(try simp only[C6,D0,C0,S2,B9,C8]);omega,ex1 rfl ⟨q.2.2,.inl ⟨rfl,by refine E8 ?_;(try simp only[C6,D0,C0,S2,B9,C8]);omega⟩,_,rfl,by refine E8 ?_;(try simp only[C6,D0,C0,S2,B9,C8]);omega,?_⟩⟩⟩;have e:=f_K q.2.1 q.2.2;show M _ (V.str (Str.empty ++ "back " ++ q.2.1 ++ " " ++ q.2.2)) G;rw[e];exact hM _ _ ⟨_,_,rfl⟩ fun _ _ z=>z
  refine⟨D,D4,_,_,rfl,rfl,s4 _ _ f3,e4,by rw[AO,AO,AA,AA,AA,AA];exact E8 (by omega),?_⟩;refine hN4 _ _ ?_;refine⟨rfl,ex1 rfl ⟨"\n",D,txt pe (sa.map dS) st ba,rfl,rfl,SqL.of (by rw[A8];unfold txt;simp only[AK,AX];rfl),ok.sum,q _ ((t3.trans s4).upd hD)⟩⟩
theorem K3:FnScope ["_law_told", "_law_rows"] ["_law_told"] (B4 s_law_text_rows):=fsc
def l9:Sp:=fun vs H Q _=>∃(r a b c d:Addr) (pe:List PEr) (sa:List SAr) (st:List STr) (ba:List PA2),vs = [.ref r]/\H r=some (.lst [.ref a,.ref b,.ref c,.ref d])/\WRows H a b c d pe sa st ba/\TxOk pe (sa.map dS) st ba /\
 ∀l H',Same H H'->H' l=some (.lst ((txt pe (sa.map dS) st ba).map V.str))->Q (.ref l) H'
set_option maxHeartbeats 4000000 in
theorem U8(T:Tx K mg):FnOk P w K mg base CX0 1 T.ao.f T.ao.fd ["_law_told"] l9:=by
 have sc:=K3;refine T.ao.F.ok K3 (fun vs H Q E h=>?_) (fun cdv A outer s H vs Q E hr h=>?_)
 .obtain⟨r,a,b,c,d,pe,sa,st,ba,rfl,_⟩:=h;rfl
 .obtain⟨r,a,b,c,d,pe,sa,st,ba,rfl,er,W,ok,q⟩:=h;refine⟨_,(B2 (Q6 (i:=1) (N':=["_law_name", "_law_rank"]) (cap:=[none,none]) (cl:=[]) sc.nd rfl (.inl rfl) (K1 trivial trivial) rfl (piL K (C3 (ixL K) (pv 0) B1 (fun _ _=>rfl))) (fun _ _ _ _=>by exact⟨(pgT K (n:=2) (C2 (pgC 0) (C2 (pgC 1) J9))),D8,(D7 S4 (D7 S4 (D7 S4 C5 (pv 0)) C5) (R7 u0 T.aS Cc (A7 (pv 1) A9)))⟩))
   (B2 (C7 (i:=1) sc.nd rfl (.inl rfl) (D7 K7 (pv 1) (Q0 (N':=["_law_name", "_law_kind", "_law_speakers_here"]) (cap:=[none,none,none]) (cl:=[]) (K1 trivial trivial) rfl (piL K (C3 (ixL K) (pv 0) B1 (fun _ _=>rfl))) (fun _ _ _ _=>by exact⟨(pgT K (n:=3) (C2 (pgC 0) (C2 (pgC 1) (C2 (pgC 2) J9)))),D8,(j0 K PySem.F.plainAttrs_str PySem.F.slot_str_join PySem.F.type_str_join (P9 K) C5 (A7 (D7 K7 (D6 (A7 C5 (A7 (pv 0) (A7 (pv 1) A9)))) (pv 2)) A9))⟩))))
   (B2 (C7 (i:=1) sc.nd rfl (.inl rfl) (D7 K7 (pv 1) (Q0 (N':=["_law_strike"]) (cap:=[none]) (cl:=[]) (K1 trivial trivial) rfl (piL K (C3 (ixL K) (pv 0) B1 (fun _ _=>rfl))) (fun _ _ _ _=>by exact⟨(pgC 0),D8,(j0 K PySem.F.plainAttrs_str PySem.F.slot_str_join PySem.F.type_str_join (P9 K) C5 (A7 (D7 K7 (D6 (A7 C5 A9)) (R7 (I9 K) T.af G0 (A7 (pv 0) A9))) A9))⟩))))
   (B7 (C4 (D7 K7 (pv 1) (Q0 (N':=["_law_back"]) (cap:=[none]) (cl:=[]) (K1 trivial trivial) rfl (piL K (C3 (ixL K) (pv 0) B1 (fun _ _=>rfl))) (fun _ _ _ _=>by exact⟨(pgC 0),D8,(j0 K PySem.F.plainAttrs_str PySem.F.slot_str_join PySem.F.type_str_join (P9 K) C5 (A7 (D7 K7 (D6 (A7 C5 A9)) (R7 (I9 K) T.af G0 (A7 (pv 0) A9))) A9))⟩)))))))),?_⟩
  obtain⟨n1,n2,n3,n4⟩:=ok.len;rw[AA]at n2;refine B6 fun N1 hN1=>?_;refine ex1 rfl ⟨r,_,B8 rfl rfl ⟨SqL.of er,B5 (j:=0) rfl,a,rfl,⟨_,SqL.of W.hp.at_⟩,fun D hD=>?_⟩⟩;have as1:=asL (K:=K) (SqL.of W.hp.at_);rw[AX]at as1;refine t4 (fun q:PEr=>V.str (tyP q)) as1 (fun σ=>∃v0 v1,σ = [v0,v1]) ⟨_,_,rfl⟩ (by omega) hD ?_ fun σ H1 s1 e1=>?_
  .rintro q hq σ G ⟨v0,v1,rfl⟩ sG M N hM;obtain⟨h1,h2,h3⟩:=ok.p q hq;obtain⟨d1,d2⟩:=Dd h2 h3;have et:=sG _ _ (W.hp.row (rP q) (A_.mpr ⟨q,hq,rfl⟩));refine⟨q.1,ex1 rfl ⟨SqT.of et,rfl,_,ex1 rfl (B8 rfl rfl ?_)⟩⟩;dsimp only[Q3];refine U0 ?_;refine ex1 rfl ⟨_,q.2.1,rfl,rfl,by refine E8 ?_;(try simp only[C6,D0,C0,S2,B9,C8]);omega,_,_,rfl,rfl,by refine E8 ?_;(try simp only[C6,D0,C0,S2,B9,C8]);omega,ex1 rfl ⟨q.2.2,rfl,d1,_,_,rfl,rfl,by refine E8 ?_;(try simp only[C6,D0,C0,S2,B9,C8]);omega,hM _ _ ⟨_,_,rfl⟩ fun _ _ z=>z⟩⟩
  refine hN1 _ _ (B6 fun N2 hN2=>?_);have x1:=s1 _ _ er;have W1:=W.same s1;refine ex1 rfl (ex1 rfl ⟨r,_,B8 rfl rfl ⟨SqL.of x1,B5 (j:=1) rfl,b,rfl,⟨_,SqL.of W1.hs.at_⟩,fun D2 hD2=>?_⟩⟩);have as2:=asL (K:=K) (SqL.of W1.hs.at_);rw[AX]at as2;refine t4 (fun q:SAr=>V.str (tyS (dS q))) as2 (fun σ=>∃v0 v1 v2,σ = [v0,v1,v2]) ⟨_,_,_,rfl⟩ (by omega) hD2 ?_ fun σ H2 s2 e2=>?_
  .rintro q hq σ G ⟨v0,v1,v2,rfl⟩ sG M N hM;have et:=sG _ _ (W1.hs.row (rS q) (A_.mpr ⟨q,hq,rfl⟩));refine⟨q.1,ex1 rfl ⟨SqT.of et,rfl,_,ex1 rfl ⟨_,ex1 rfl (B8 rfl rfl ?_)⟩⟩⟩;dsimp only[Q3];refine U0 ?_;exact Bw (q:=dS q) (sG _ _ (W1.sp q hq)) (ok.s _ (A_.mpr ⟨q,hq,rfl⟩)) fun G' s'=>hM _ _ ⟨_,_,_,rfl⟩ s'
  refine⟨D,D2,_,_,rfl,rfl,s2 _ _ e1,e2,by rw[AA,AA];exact E8 (by omega),fun E2 hE2=>?_⟩;have t2:=(s1.trans s2).trans (Same.new (o:=.lst (pe.map (fun q:PEr=>V.str (tyP q))++sa.map fun q=>V.str (tyS (dS q)))) hE2);have f2:(upd H2 E2 (.lst (pe.map (fun q:PEr=>V.str (tyP q))++sa.map fun q=>V.str (tyS (dS q))))) E2=some (.lst (pe.map (fun q:PEr=>V.str (tyP q))++sa.map fun q=>V.str (tyS (dS q)))):=A8;refine hN2 _ _ ?_;generalize upd H2 E2 (.lst (pe.map (fun q:PEr=>V.str (tyP q))++sa.map fun q=>V.str (tyS (dS q))))=G2 at t2 f2⊢;refine B6 fun N3 hN3=>?_;clear s1 s2 e1 e2 x1 W1 as1 as2 hD2 hD;have x1:=t2 _ _ er;have W1:=W.same t2;refine ex1 rfl (ex1 rfl ⟨r,_,B8 rfl rfl ⟨SqL.of x1,B5 (j:=2) rfl,c,rfl,⟨_,SqL.of W1.ht.at_⟩,fun D3 hD3=>?_⟩⟩);have as3:=asL (K:=K) (SqL.of W1.ht.at_);rw[AX]at as3;refine t4 (fun q:STr=>V.str (tyT q)) as3 (fun σ=>∃v0,σ = [v0]) ⟨_,rfl⟩ (by omega) hD3 ?_ fun σ H3 s3 e3=>?_
  .rintro q hq σ G ⟨v0,rfl⟩ sG M N hM;obtain⟨h1,h2,h3⟩:=ok.t q hq;have et:=sG _ _ (W1.ht.row (rT q) (A_.mpr ⟨q,hq,rfl⟩));dsimp only[Q3,i9];refine U0 ?_;exact Ax (ys:=[q.2.1,q.2.2.1,q.2.2.2]) et (by show 3<=10;omega) (Z8 h1 h2 h3) fun G' s'=>hM _ _ ⟨_,rfl⟩ s'
  refine⟨E2,D3,_,_,rfl,rfl,s3 _ _ f2,e3,by rw[AO,AA,AA,AA];exact E8 (by omega),fun E3 hE3=>?_⟩;have t3:=(t2.trans s3).trans (Same.new (o:=.lst (pe.map (fun q:PEr=>V.str (tyP q))++sa.map (fun q=>V.str (tyS (dS q)))++st.map fun q=>V.str (tyT q))) hE3);have f3:(upd H3 E3 (.lst (pe.map (fun q:PEr=>V.str (tyP q))++sa.map (fun q=>V.str (tyS (dS q)))++st.map fun q=>V.str (tyT q)))) E3=some (.lst (pe.map (fun q:PEr=>V.str (tyP q))++sa.map (fun q=>V.str (tyS (dS q)))++st.map fun q=>V.str (tyT q))):=A8;refine hN3 _ _ ?_;generalize upd H3 E3 (.lst (pe.map (fun q:PEr=>V.str (tyP q))++sa.map (fun q=>V.str (tyS (dS q)))++st.map fun q=>V.str (tyT q)))=G3 at t3 f3⊢;clear s3 e3 x1 W1 as3 hD3 t2 f2;have x1:=t3 _ _ er;have W1:=W.same t3;refine ex1 rfl (ex1 rfl ⟨r,_,B8 rfl rfl ⟨SqL.of x1,B5 (j:=3) rfl,d,rfl,⟨_,SqL.of W1.hb⟩,fun D4 hD4=>?_⟩⟩);refine t4 (r:=fun q:PA2=>V.ref q.1) (fun q:PA2=>V.str (tyK q)) (asL (K:=K) (SqL.of W1.hb)) (fun σ=>∃v0,σ = [v0]) ⟨_,rfl⟩ (by omega) hD4 ?_ fun σ H4 s4 e4=>?_
  .rintro q hq σ G ⟨v0,rfl⟩ sG M N hM;obtain⟨h1,h2⟩:=ok.b q hq;have et:=sG _ _ (W1.pb q hq);dsimp only[Q3,i9];refine U0 ?_;exact Ax (ys:=[q.2.1,q.2.2]) et (by show 2<=10;omega) (Ae h1 h2) fun G' s'=>hM _ _ ⟨_,rfl⟩ s'
  refine⟨E3,D4,_,_,rfl,rfl,s4 _ _ f3,e4,by rw[AO,AO,AA,AA,AA,AA];exact E8 (by omega),fun E4 hE4=>?_⟩;exact q E4 _ ((t3.trans s4).trans (Same.new hE4)) (by rw[A8];unfold txt;simp only[AK,AX];rfl)
end
theorem Dy{K:PySem.W.Frag}{H G:Hp}{u p:Addr}{xs:List V}{ls:List (Pos×Str)}(h:SqL K H u xs)(t:O7 H p ls)(k:Sm [p] H G):SqL K G u xs:=by
 obtain⟨ps,e,_⟩:=t;have kk:∀{o:HO},H u=some o->o≠ .tbl ps->G u=some o:=fun hz n=>k _ _ hz fun y=>by rw[AB.mp y,e]at hz;cases hz;exact n rfl
 rcases h with(h | ⟨o,h⟩) | h
 .exact .inl (.inl (kk h (by intro z;cases z)))
 .exact .inl (.inr ⟨o,kk h (by intro z;cases z)⟩)
 .exact .inr h
theorem Ec{H H':Hp}{p:Addr}{ls:List (Pos×Str)}(h:O7 H p ls)(k:∀z o,H z=some o->(∀xs,o≠ .lst xs)->H' z=some o):O7 H' p ls:=by
 obtain⟨ps,e,t,q⟩:=h;exact⟨ps,k _ _ e (by intro xs z;cases z),t,fun l hl=>(q l hl).imp id fun⟨c,e,hc⟩=>⟨c,e,k _ _ hc (by intro xs z;cases z)⟩⟩
theorem WeaveAt.keep{C:Addr}{H H':Hp}{x p:Addr}{ls:List (Pos×Str)}{pe:List PEr}{sa:List SAr}{st:List STr}{ba:List PA2}(h:WeaveAt C H x pe sa st ba)(t:O7 H p ls)(k:Sm [p] H H'):WeaveAt C H' x pe sa st ba:=by
 obtain⟨dx,a,b,c,d,e,w⟩:=h;have k':∀z o,H z=some o->z≠p->H' z=some o:=fun z o e n=>k z o e (by simpa using n);refine⟨dx,a,b,c,d,k' _ _ e fun y=>?_,w.keep t k'⟩;obtain⟨ps,e',_⟩:=t;rw[y,e']at e;cases e
theorem Fu{sa sa':List SAr}(d:sa'.map dS=sa.map dS){q:SAr}(h:q∈sa'):∃q0∈sa,dS q0=dS q:=by
 have:dS q∈sa'.map dS:=A_.mpr ⟨q,h,rfl⟩;rw[d]at this;exact A_.mp this
theorem WOk.of_dS{pe:List PEr}{sa sa':List SAr}{st:List STr}{ba:List PA2}(h:WOk pe sa st ba)(d:sa'.map dS=sa.map dS):WOk pe sa' st ba:=by
 have e:nS sa'=nS sa:=by
  have:=congrArg (List.map fun q:Str×Str×List Str=>q.1) d;rw[AX,AX]at this;exact this
 have l:sa'.length=sa.length:=by
  have:=congrArg List.length d
  rwa [AA,AA]at this
 refine⟨by rw[l];exact h.len,h.pn,h.pm,by rw[e];exact h.sn,by rw[e];exact h.nm,fun q hq=>?_,fun q hq=>?_,by rw[e];exact h.tg,h.bn,by rw[e];exact h.bk⟩
 .obtain⟨q0,h0,e0⟩:=Fu d hq;have:=h.kd q0 h0;have e1:q0.2.2.1=q.2.2.1:=congrArg (fun z:Str×Str×List Str=>z.2.1) e0
  rwa [e1]at this
 .obtain⟨q0,h0,e0⟩:=Fu d hq;have:=h.sk q0 h0;have e1:q0.2.2.2.2=q.2.2.2.2:=congrArg (fun z:Str×Str×List Str=>z.2.2) e0
  rwa [e1]at this
def AheadAt(C:Addr)(G:Hp)(t:Addr):Prop:=∃x pe sa st ba,G t=some (.tup [.ref x,.str (Txt.join "\n" (txt pe (sa.map dS) st ba))])/\WeaveAt C G x pe sa st ba/\TxOk pe (sa.map dS) st ba
theorem AheadAt.keep{C:Addr}{H H':Hp}{t p:Addr}{ls:List (Pos×Str)}(h:AheadAt C H t)(tb:O7 H p ls)(k:Sm [p] H H'):AheadAt C H' t:=by
 obtain⟨x,pe,sa,st,ba,e,w,o⟩:=h;refine⟨x,pe,sa,st,ba,k _ _ e fun y=>?_,w.keep tb k,o⟩;obtain⟨ps,e',_⟩:=tb;rw[AB.mp y,e']at e;cases e
def Kl(B H G:Hp):Prop:=∀z o,H z=some o->(∀xs,o = .lst xs->B z=none)->G z=some o
theorem Kl.upd{B H G:Hp}{z:Addr}{ys:List V}{o o':HO}(h:Kl B H G)(e:H z=some (.lst ys))(b:B z=some o'):Kl B H (upd G z o):=fun y u e' c=>by
 by_cases n:y=z
 .subst n;rw[e]at e';cases e';rw[c _ rfl]at b;cases b
 .rw[B3 n];exact h y u e' c
theorem Dp(x:Str):(!decide (V.str x=V.str x))=false:=congrArg _ (AJ rfl)
section
variable{P:Program}{w:World}{K:PySem.W.Frag}{mg:Str->Option Value}{base:Heap}
theorem Gd:FnScope ["_law_script", "_law_ahead", "_law_k", "_law_told", "_law_due", "_law_said", "_law_handed", "_law_weave", "_law_row", "_law_rows"] ["_law_script"] (B4 s_law):=fsc
def Ah(K:PySem.W.Frag)(pt:Addr):Sp:=fun vs H Q _=>∃(u:Addr) (xs:List Int),vs = [.ref u]/\SqL K H u (xs.map V.int)/\xs.length<=63/\O7 H pt P5/\∀H',Q (.bl true) H'
set_option maxHeartbeats 8000000 in
theorem Jg(T:Tx K mg)(hB:base.BuiltinsAt mg T.ac){f:Addr}{fd:FuncData}(F:Fun K "law" "law" s_law f fd):FnOk P w K mg base CX0 9 f fd ["_law_script"] (Ah K T.ac):=by
 have G_law_left:=z7 (P:=P) (w:=w) (base:=base) T;have G_law_weave_rows:=S3 (P:=P) (w:=w) (base:=base) T;have G_law_text_rows:=U8 (P:=P) (w:=w) (base:=base) T;have G_text_of:=Bm (P:=P) (w:=w) (base:=base) T;have G_Weave___init__:=d7 (P:=P) (w:=w) T hB;have sc:=Gd;refine F.ok Gd (fun vs H Q E h=>?_) (fun cdv A outer s H vs Q E hr h=>?_)
 .obtain⟨u,xs,rfl,_⟩:=h;rfl
 .obtain⟨u,xs,rfl,hS,hlen,hT,q⟩:=h;refine⟨_,(B2 (C7 (i:=1) sc.nd rfl (.inl rfl) (Q7 (A7 (Ds T.aU G_Weave___init__ (Rm hr) rfl T.aT T.aH .nil Ep (A7 (D6 A9) (A7 (D6 A9) (A7 (D6 A9) (A7 (D6 A9) A9))))) (A7 C5 A9))))
   (B2 (U7 PassesOwn.never rfl (Gu T.aq (A7 (F9 (t9 rfl) T.aZ Gc (A7 B1 (A7 (F9 (Dq rfl) T.a7 Kd (A7 (F9 (K2 K) T.ai J3 (A7 (pv 0) A9)) (A7 B1 A9))) A9))) A9)) (J5 (i:=2) sc.nd rfl (.inl rfl))
   (B2 (C7 (i:=3) sc.nd rfl (.inl rfl) (C1 T.al G_law_weave_rows (Rm hr) (A7 (C1 T.aF G_law_left (Rm hr) (A7 (pv 0) (A7 (pv 2) A9))) (A7 B1 A9))))
   (B2 (C7 (i:=4) sc.nd rfl (.inl rfl) (j0 K PySem.F.plainAttrs_str PySem.F.slot_str_join PySem.F.type_str_join (P9 K) C5 (A7 (C1 T.ao G_law_text_rows (Rm hr) (A7 (pv 3) A9)) A9)))
   (B2 (Q6 (i:=5) (N':=["_law_name", "_law_kind", "_law_some"]) (cap:=[none,none,none]) (cl:=[]) sc.nd rfl (.inl rfl) (K1 trivial trivial) rfl (piL K (C3 (ixL K) (pv 3) B1 (fun _ _=>rfl))) (fun _ _ _ _=>by exact⟨(pgT K (n:=3) (C2 (pgC 0) (C2 (pgC 1) (C2 (pgC 2) J9)))),D8,(Q7 (A7 (pv 0) (A7 (pv 1) (A7 (R7 (I9 K) T.af G0 (A7 (pv 2) A9)) A9))))⟩))
   (B2 (C7 (i:=6) sc.nd rfl (.inl rfl) (D6 (A7 (R7 (I9 K) T.af G0 (A7 (C3 (ixL K) (pv 3) B1 (fun _ _=>rfl)) A9)) (A7 (pv 5) (A7 (R7 (I9 K) T.af G0 (A7 (C3 (ixL K) (pv 3) B1 (fun _ _=>rfl)) A9)) (A7 (R7 (I9 K) T.af G0 (A7 (C3 (ixL K) (pv 3) B1 (fun _ _=>rfl)) A9)) A9))))))
   (B2 (C7 (i:=7) sc.nd rfl (.inl rfl) (Ds T.aU G_Weave___init__ (Rm hr) rfl T.aT T.aH .nil Ep (A7 (C3 (ixL K) (pv 6) B1 (fun _ _=>rfl)) (A7 (C3 (ixL K) (pv 6) B1 (fun _ _=>rfl)) (A7 (C3 (ixL K) (pv 6) B1 (fun _ _=>rfl)) (A7 (C3 (ixL K) (pv 6) B1 (fun _ _=>rfl)) A9))))))
   (B2 (O8 (PW.pt (Az (D9 Cq (C1 T.ap G_text_of (Rm hr) (A7 (pv 7) A9)) (pv 4) (F6 _)) (Az (R1 (Q9 (F9 (Y9 K) T.ag E1 (A7 (C1 T.ap G_text_of (Rm hr) (A7 (pv 7) A9)) (A7 (w5 T.aS Cc) A9))))) (j7 (D9 Cq (C1 T.ap G_text_of (Rm hr) (A7 (C3 (ixT K) (pv 1) B1 (fun _ _=>rfl)) A9)) (C3 (ixT K) (pv 1) B1 (fun _ _=>rfl)) (F6 _)))))) (B7 (C4 x4)) E5)
   (B2 (U7 PassesOwn.never rfl (piL K (C3 (ixL K) (pv 6) B1 (fun _ _=>rfl))) (J5 (i:=8) sc.nd rfl (.inl rfl))
   (B7 (F8 (j0 K PySem.F.plainAttrs_list PySem.F.slot_list_append PySem.F.type_list_append K8 (C3 (ixT K) (pv 8) B1 (fun _ _=>rfl)) (A7 C5 A9)))))
   (B2 (U7 PassesOwn.never rfl (piL K (pv 6)) (J5 (i:=9) sc.nd rfl (.inl rfl))
   (B7 (F8 (Io K PySem.F.plainAttrs_list PySem.F.slot_list_clear PySem.F.type_list_clear Ej (pv 9)))))
   (B2 (O8 (D9 Cq (C1 T.ap G_text_of (Rm hr) (A7 (pv 7) A9)) (pv 4) (F6 _)) (B7 (C4 x4)) E5)
   (B7 (C7 (i:=1) sc.nd rfl (.inl rfl) (Q7 (A7 (pv 7) (A7 (pv 4) A9)))))))))))))))
   (B7 (C4 x4)))),?_⟩
  refine B6 fun N0 hN0=>?_;refine⟨BI _,fun a ha=>⟨BI _,fun b hb=>⟨BI _,fun c hc=>⟨BI _,fun d hd=>?_⟩⟩⟩⟩;have ua:=Same.new (o:=.lst []) ha;have ub:=Same.new (o:=.lst []) hb;have uc:=Same.new (o:=.lst []) hc;have ud:=Same.new (o:=.lst []) hd;have fa:(upd (upd (upd (upd H a (.lst [])) b (.lst [])) c (.lst [])) d (.lst [])) a=some (.lst []):=ud _ _ (uc _ _ (ub _ _ A8));have fb:(upd (upd (upd (upd H a (.lst [])) b (.lst [])) c (.lst [])) d (.lst [])) b=some (.lst []):=ud _ _ (uc _ _ A8);have fc:(upd (upd (upd (upd H a (.lst [])) b (.lst [])) c (.lst [])) d (.lst [])) c=some (.lst []):=ud _ _ A8;have fd':(upd (upd (upd (upd H a (.lst [])) b (.lst [])) c (.lst [])) d (.lst [])) d=some (.lst []):=A8;have u4:=((ua.trans ub).trans uc).trans ud;generalize upd (upd (upd (upd H a (.lst [])) b (.lst [])) c (.lst [])) d (.lst [])=H1 at u4 fa fb fc fd'⊢;clear ua ub uc ud ha hb hc hd;intro x dx nx ndx nex;have s0:Same H1 (upd (upd H1 dx (.own x)) x (.ins T.aa dx [])):=fun b o e=>by
   rw[B3 (B0 e nx),B3 (B0 e ndx)];exact e
  have W0:WRows H1 a b c d [] [] [] []:=⟨⟨fa,fun q h=>absurd h AD⟩,⟨fb,fun q h=>absurd h AD⟩,fun q h=>absurd h AD,⟨fc,fun q h=>absurd h AD⟩,fd',fun q h=>absurd h AD⟩;have O0:WOk [] [] [] []:=⟨⟨BI _,BI _,BI _,BI _⟩,CL,fun q h=>absurd h AD,CL,fun q h=>absurd h AD,fun q h=>absurd h AD,fun q h=>absurd h AD,fun q h=>absurd h AD,CL,fun q h=>absurd h AD⟩;refine⟨x,dx,a,b,c,d,[],[],[],[],rfl,A8,W0.same s0,O0,E7 hT (u4.trans s0),fun sa' H2 k2 T2 d2 W2=>⟨rfl,?_⟩⟩;have k2:Sm [T.ac] H H2:=fun z o e n=>k2 z o (s0 _ _ (u4 _ _ e)) fun y=>by
   rcases AY.mp y with y | y
   .rw[y]at e;rw[u4 _ _ e]at nx;cases nx
   .exact n y
  refine⟨by show 2<=sizeLine;decide,fun t ht=>?_⟩;have ut:=Same.new (o:=.tup [.ref x,.str (Str.ofString "")]) ht;have A0:AheadAt T.aa (upd H2 t (.tup [.ref x,.str (Str.ofString "")])) t:=by
   refine⟨x,[],sa',[],[],?_,(W2.at_).same ut,(O0.of_dS d2).tx⟩;rw[A8,d2];rfl
  have k3:Sm [T.ac] H (upd H2 t (.tup [.ref x,.str (Str.ofString "")])):=k2.trans ut.sm;have T3:=E7 T2 ut;generalize upd H2 t (.tup [.ref x,.str (Str.ofString "")])=H3 at A0 k3 T3⊢;clear ut ht W2 d2 k2 T2 s0 W0 u4 nx ndx nex fa fb fc fd';refine hN0 _ _ (B6 fun N1 hN1=>?_);refine⟨_,rfl,u,_,rfl,.inl (Dy hS hT k3),_,_,rfl,_,_,rfl,?_⟩;have hz:∀l:Int,0<=l->∃z:Nat,(if(if(8:Int)<l then 8 else l) >(2:Int)then(if(8:Int)<l then 8 else l)else 2) =(z:Int)/\z<=8:=fun l h0=>by
   by_cases h1:(8:Int)<l
   .rw[BJ h1];exact⟨8,rfl,by decide⟩
   .rw[BH h1];by_cases h2:l>2
    .rw[BJ h2];exact⟨l.toNat,by omega,by omega⟩
    .rw[BH h2];exact⟨2,rfl,by decide⟩
  obtain⟨z,ez,hz⟩:=hz ((xs.map V.int).length:Int) (by omega);refine ex1 (a:=(z:Int)) (congrArg (fun t=>[V.int t]) ez) ⟨by omega,by omega,?_⟩;rw[BV];refine O6 (fun i σ G=>(∃t v2 v3 v4 v5 v6 v7 v8 v9,σ = [some (.ref u),some (.ref t),v2,v3,v4,v5,v6,v7,v8,v9]/\AheadAt T.aa G t)/\Sm [T.ac] H G/\O7 G T.ac P5) ?_ ?_ ?_
  .exact⟨⟨_,_,_,_,_,_,_,_,_,rfl,A0⟩,k3,T3⟩
  .rintro i σ F0 hi ⟨⟨t,v2,v3,v4,v5,v6,v7,v8,v9,rfl,AF⟩,kF,TF⟩ D1 hD1 _;rw[Int.zero_add];refine Hh fun M1 hM1=>?_;refine ex1 rfl (ex1 rfl ⟨u,xs,i,rfl,Dy hS hT kF,by omega,fun p H1 hp s1 L1=>?_⟩);refine⟨p,0,rfl,L1,by omega,fun r a b g d pe sa st ba c' H2 k2 er W2 ok2 L2 hc2=>?_⟩;have s2:Same F0 H2:=fun b o e=>k2 b o (s1 b o e) (by simpa using B0 e hp);clear L1 L2 hc2 k2 s1 hp;have tx:=ok2.tx;refine hM1 _ _ (B6 fun M2 hM2=>?_);refine⟨rfl,ex1 rfl ⟨r,a,b,g,d,pe,sa,st,ba,rfl,er,W2,tx,fun l H3 s3 el=>⟨"\n",l,_,rfl,rfl,SqL.of el,tx.sum,?_⟩⟩⟩;have W3:=W2.same s3;have er:=s3 _ _ er;have s3:=s2.trans s3;clear W2 el s2;refine hM2 _ _ (B6 fun M3 hM3=>?_);generalize hdue:Txt.join "\n" (txt pe (sa.map dS) st ba)=due;refine ex1 rfl ⟨r,_,B8 rfl rfl ⟨SqL.of er,B5 (j:=1) rfl,b,rfl,⟨_,SqL.of W3.hs.at_⟩,fun D hD=>?_⟩⟩;refine Y4 (asL (K:=K) (SqL.of W3.hs.at_)) (fun i σ G=>(∃v0 v1 v2,σ = [v0,v1,v2])/\Same H3 G/\∃sa':List SAr,RowsAt G D (sa'.map rS)/\(∀q∈sa',q.2.2.2.1≠D/\G q.2.2.2.1=some (.lst (q.2.2.2.2.map V.str))/\H3 q.2.2.2.1=none)/\sa'.map dS =(sa.take i).map dS)
    ⟨⟨_,_,_,rfl⟩,Same.new hD,[],⟨A8,fun q h=>absurd h AD⟩,fun q h=>absurd h AD,rfl⟩ (fun i σ G _ ⟨_,s1,_⟩=>s1.at b) ?_ ?_
   .rintro i σ G v N hv ⟨⟨v0,v1,v2,rfl⟩,sG,sa',RG,spG,dG⟩ hN;rw[AX,AG]at hv;obtain⟨p,hp,rfl⟩:=BC.mp hv;have mp:=AM hp;have li:=(AR.mp hp).1;have lsa':=congrArg List.length dG;rw[AA,AA,AW]at lsa';have lsa:=ok2.len.2.1;have ep:=sG _ _ (W3.hs.row (rS p) (A_.mpr ⟨p,mp,rfl⟩));have es:=sG _ _ (W3.sp p mp);refine⟨p.1,ex1 rfl ⟨SqT.of ep,rfl,_,ex1 rfl ⟨_,ex1 rfl (B8 rfl rfl ?_)⟩⟩⟩;dsimp only[Q3];refine U0 ?_;refine ex1 rfl (ex1 rfl (ex1 rfl ⟨p.2.2.2.1,_,rfl,.inl (SqL.of es),fun l hl=>⟨by show 3<=sizeLine;decide,fun t ht=>?_⟩⟩));have ul:=Same.new (o:=.lst (p.2.2.2.2.map V.str)) hl;have nlD:l≠D:=(B0 RG.at_ hl).symm;have ntD:t≠D:=(B0 (ul _ _ RG.at_) ht).symm;have ntl:l≠t:=B0 A8 ht;have el:(upd (upd G l (.lst (p.2.2.2.2.map V.str))) t (.tup [.str (rS p).2.1,.str p.2.2.1,.ref l])) l=some (.lst (p.2.2.2.2.map V.str)):=by rw[B3 ntl,A8]
    have et:(upd (upd G l (.lst (p.2.2.2.2.map V.str))) t (.tup [.str (rS p).2.1,.str p.2.2.1,.ref l])) t=some (.tup [.str (rS p).2.1,.str p.2.2.1,.ref l]):=A8;have ut:=ul.trans (Same.new (o:=.tup [.str (rS p).2.1,.str p.2.2.1,.ref l]) ht);generalize upd (upd G l (.lst (p.2.2.2.2.map V.str))) t (.tup [.str (rS p).2.1,.str p.2.2.1,.ref l])=G2 at el et ut⊢;have RG2:=RG.same ut;refine⟨_,RG2.at_,by rw[AA,AA,sizeLine_eq];omega,hN _ _ ⟨⟨_,_,_,rfl⟩,(sG.trans ut).upd hD,sa' ++ [(t,p.2.1,p.2.2.1,l,p.2.2.2.2)],⟨by rw[A8,AK,AK];rfl,fun z hz=>?_⟩,fun z hz=>?_,by rw[AK,dG,I0 hp,AK];rfl⟩⟩
    .rw[AK]at hz;rcases BA.mp hz with y | y
     .exact(B3 (U9 (RG2.row z y) RG2.at_ (by intro z;cases z))).trans (RG2.row z y)
     .rw[AB.mp y];exact(B3 ntD).trans et
    .rcases BA.mp hz with y | y
     .exact⟨(spG z y).1,(B3 (spG z y).1).trans (ut _ _ (spG z y).2.1),(spG z y).2.2⟩
     .rw[AB.mp y];exact⟨nlD,(B3 nlD).trans el,none_of sG.sm AD hl⟩
   .rintro σ G ⟨_,sG,sa',RG,spG,dG⟩;rw[AA,AA,BT]at dG;have hDF:F0 D=none:=none_of s3.sm AD hD;have hsF:∀q∈sa',F0 q.2.2.2.1=none:=fun q hq=>none_of s3.sm AD (spG q hq).2.2;have W4:=W3.same sG;have er:=sG _ _ er;have s4:=s3.trans sG;clear s3 sG W3 hD;refine hM3 _ _ (B6 fun M4 hM4=>?_);refine ex1 rfl ⟨r,_,B8 rfl rfl ⟨SqL.of er,B5 (j:=0) rfl,a,_,rfl,.inl (SqL.of W4.hp.at_),fun l1 hl1=>?_⟩⟩;have v1:=Same.new (o:=.lst ((pe.map rP).map fun q=>V.ref q.1)) hl1;have f1:(upd G l1 (.lst ((pe.map rP).map fun q=>V.ref q.1))) l1=some (.lst ((pe.map rP).map fun q=>V.ref q.1)):=A8;generalize upd G l1 (.lst ((pe.map rP).map fun q=>V.ref q.1))=G1 at v1 f1⊢;refine ex1 rfl (ex1 rfl ⟨r,_,B8 rfl rfl ⟨SqL.of (v1 _ _ er),B5 (j:=2) rfl,g,_,rfl,.inl (SqL.of (v1 _ _ W4.ht.at_)),fun l2 hl2=>?_⟩⟩);have v2:=Same.new (o:=.lst ((st.map rT).map fun q=>V.ref q.1)) hl2;have f2:(upd G1 l2 (.lst ((st.map rT).map fun q=>V.ref q.1))) l2=some (.lst ((st.map rT).map fun q=>V.ref q.1)):=A8;generalize upd G1 l2 (.lst ((st.map rT).map fun q=>V.ref q.1))=G2 at v2 f2⊢;have v12:=v1.trans v2;refine ex1 rfl ⟨r,_,B8 rfl rfl ⟨SqL.of (v12 _ _ er),B5 (j:=3) rfl,d,_,rfl,.inl (SqL.of (v12 _ _ W4.hb)),fun l3 hl3=>?_⟩⟩;have v3:=Same.new (o:=.lst (V4 ba)) hl3;have f3:(upd G2 l3 (.lst (V4 ba))) l3=some (.lst (V4 ba)):=A8;generalize upd G2 l3 (.lst (V4 ba))=G3 at v3 f3⊢;refine⟨by show 4<=sizeLine;decide,fun hd hhd=>?_⟩;have n1:F0 l1=none:=none_of s4.sm AD hl1;have n2:F0 l2=none:=none_of (s4.trans v1).sm AD hl2;have n3:F0 l3=none:=none_of (s4.trans v12).sm AD hl3;have v4:=Same.new (o:=.lst [.ref l1,.ref D,.ref l2,.ref l3]) hhd;have f4:(upd G3 hd (.lst [.ref l1,.ref D,.ref l2,.ref l3])) hd=some (.lst [.ref l1,.ref D,.ref l2,.ref l3]):=A8;have nh1:l1≠hd:=B0 (v3 _ _ (v2 _ _ f1)) hhd;have nhD:D≠hd:=B0 (v3 _ _ (v12 _ _ RG.at_)) hhd;have nh2:l2≠hd:=B0 (v3 _ _ f2) hhd;have nh3:l3≠hd:=B0 f3 hhd;have nhs:∀q∈sa',q.2.2.2.1≠hd:=fun q hq=>B0 (v3 _ _ (v12 _ _ (spG q hq).2.1)) hhd;generalize upd G3 hd (.lst [.ref l1,.ref D,.ref l2,.ref l3])=G4 at v4 f4⊢;have v34:=v3.trans v4;have v14:=v12.trans v34;have W5:WRows G4 l1 D l2 l3 pe sa' st ba:=⟨⟨v34 _ _ (v2 _ _ f1),fun q hq=>v14 _ _ (W4.hp.row q hq)⟩,RG.same v14,fun q hq=>v14 _ _ (spG q hq).2.1,⟨v34 _ _ f2,fun q hq=>v14 _ _ (W4.ht.row q hq)⟩,v4 _ _ f3,fun q hq=>v14 _ _ (W4.pb q hq)⟩;have nsD:∀q∈sa',q.2.2.2.1≠D:=fun q hq=>(spG q hq).1;have s5:=s4.trans v14;clear v1 v2 v3 v4 v12 v34 v14 f1 f2 f3 W4 RG spG hl1 hl2 hl3 hhd s4 er;have ok5:=ok2.of_dS dG;refine hM4 _ _ (B6 fun M5 hM5=>?_);refine ex1 rfl ⟨hd,_,B8 rfl rfl ⟨SqL.of f4,B5 (j:=0) rfl,ex1 rfl ⟨hd,_,B8 rfl rfl ⟨SqL.of f4,B5 (j:=1) rfl,ex1 rfl ⟨hd,_,B8 rfl rfl ⟨SqL.of f4,B5 (j:=2) rfl,ex1 rfl ⟨hd,_,B8 rfl rfl ⟨SqL.of f4,B5 (j:=3) rfl,?_⟩⟩⟩⟩⟩⟩⟩⟩;intro x dx nx ndx nex;have s0:Same G4 (upd (upd G4 dx (.own x)) x (.ins T.aa dx [])):=fun b o e=>by
     rw[B3 (B0 e nx),B3 (B0 e ndx)];exact e
    have TG:=E7 TF s5;refine⟨x,dx,l1,D,l2,l3,pe,sa',st,ba,rfl,A8,W5.same s0,ok5,E7 TG s0,fun sa2 H6 k6 T6 d6 W6=>⟨rfl,?_⟩⟩;have npt:∀{z:Addr} {o:HO},G4 z=some o->(∀ps,o≠ .tbl ps)->z≠T.ac:=fun e n y=>by
     obtain⟨ps,e',_⟩:=TG;rw[y,e']at e;cases e;exact n _ rfl
    have k46:∀z o,G4 z=some o->z≠T.ac->H6 z=some o:=fun z o e n=>k6 z o (s0 _ _ e) fun y=>by
     rcases AY.mp y with y | y
     .rw[y,nx]at e;cases e
     .exact n (AB.mp y)
    have S6:Sm [T.ac] F0 H6:=fun z o e n=>k46 z o (s5 _ _ e) fun y=>n (AB.mpr y);have A6:=AF.keep TF S6;have V6:=W5.keep TG k46;have f6:=k46 _ _ f4 (npt f4 fun ps y=>by cases y);have VB:=W5.same s0;generalize upd (upd G4 dx (.own x)) x (.ins T.aa dx [])=B at W6 VB;clear k46 k6 s0 npt TG W5 f4 s5 TF AF nx ndx nex;have ok6:=(ok5.of_dS d6).tx;have d62:=d6.trans dG;rw[<-d62]at hdue;refine hM5 _ _ (B6 fun M6 hM6=>?_);refine ex1 rfl ⟨x,pe,sa2,st,ba,rfl,W6.at_,ok6,fun H7 s7=>ex1 rfl ⟨rfl,?_⟩⟩;rw[hdue,Dp];refine⟨_,rfl,Ad ?_⟩;have W7:=W6.same s7;refine ex1 rfl ⟨x,pe,sa2,st,ba,rfl,W7.at_,ok6,fun H8 s8=>⟨_, "str",_,true,rfl,.str _,rfl,_,rfl,Ad ?_⟩⟩;have s68:=s7.trans s8;obtain⟨x0,pe0,sa0,st0,ba0,et0,w0,o0⟩:=A6;refine ex1 rfl ⟨t,_,B8 rfl rfl ⟨SqT.of (s68 _ _ et0),B5 (j:=0) rfl,x0,pe0,sa0,st0,ba0,rfl,w0.same s68,o0,fun H9 s9=>ex1 rfl ⟨t,_,B8 rfl rfl ⟨SqT.of (s9 _ _ (s68 _ _ et0)),B5 (j:=1) rfl,rfl,?_⟩⟩⟩⟩;rw[Dp];refine⟨_,rfl,Ad ?_⟩;have s69:=s68.trans s9;have W9:=W6.same s69;have V9:=V6.same s69;have T9:=E7 T6 s69;have S9:Sm [T.ac] F0 H9:=S6.trans s69.sm;have f9:=s69 _ _ f6;clear s7 s8 s9 s68 s69 W6 W7 V6 T6 S6 f6 et0 w0 o0;have hLF:∀z∈[l1,D,l2,l3],F0 z=none:=fun z hz=>by
     simp only[AY,AD,or_false]at hz;rcases hz with rfl | rfl | rfl | rfl
     .exact n1
     .exact hDF
     .exact n2
     .exact n3
    have hLh:∀z∈[l1,D,l2,l3],z≠hd:=fun z hz=>by
     simp only[AY,AD,or_false]at hz;rcases hz with rfl | rfl | rfl | rfl
     .exact nh1
     .exact nhD
     .exact nh2
     .exact nh3
    have hLL:∀{G:Hp},WRows G l1 D l2 l3 pe sa' st ba->∀z∈[l1,D,l2,l3],∃ys,G z=some (.lst ys):=fun V z hz=>by
     simp only[AY,AD,or_false]at hz;rcases hz with rfl | rfl | rfl | rfl
     .exact⟨_,V.hp.at_⟩
     .exact⟨_,V.hs.at_⟩
     .exact⟨_,V.ht.at_⟩
     .exact⟨_,V.hb⟩
    have hL9:=hLL V9;have hLB:=hLL VB;have lup:∀{G:Hp} {z y:Addr} {zs:List V},(∃ys,G z=some (.lst ys))->∃ys,(upd G y (.lst zs)) z=some (.lst ys):=fun{G z y zs} ⟨ys,e⟩=>by
     by_cases n:z=y
     .subst n;exact⟨_,A8⟩
     .exact⟨ys,(B3 n).trans e⟩
    have l30:=ok5.len.2.1;refine hM6 _ _ (B6 fun M7 hM7=>?_);refine ex1 rfl ⟨hd,_,B8 rfl rfl ⟨SqL.of f9,B5 (j:=1) rfl,D,rfl,⟨_,SqL.of V9.hs.at_⟩,?_⟩⟩;have as:=asL (K:=K) (SqL.of V9.hs.at_);rw[AX]at as;refine y0 as (fun i' σ G=>(∃v8 v9,σ = [some (.ref u),some (.ref t),some (.int (i:Int)),some (.ref r),some (.str due),some (.ref D),some (.ref hd),some (.ref x),v8,v9])/\Kl B H9 G/\Sm [T.ac] F0 G/\G hd=some (.lst [.ref l1,.ref D,.ref l2,.ref l3])/\(∀o,H9 D=some o->G D=some o)/\(∀z∈[l1,D,l2,l3],∃ys,G z=some (.lst ys))/\∀q∈sa',∃ys:List V,G q.2.2.2.1=some (.lst ys)/\ys.length<=100+i') ?_ ?_ ?_ ?_
    .exact⟨⟨_,_,rfl⟩,fun z o e _=>e,S9,f9,fun o e=>e,hL9,fun q hq=>⟨_,V9.sp q hq,by rw[AA];exact(ok5.sk q hq).2.2⟩⟩
    .rintro i' σ G _ ⟨_,_,_,_,eD,_⟩;exact eD
    .rintro i' σ G v hv ⟨⟨v8,v9,rfl⟩,kl,SG,fG,eD,LG,spG⟩ D2 hD2 _;rw[AG]at hv;obtain⟨q,hq,rfl⟩:=BC.mp hv;have mq:=AM hq;have li:=(AR.mp hq).1;have et:=kl _ _ (V9.hs.row (rS q) (A_.mpr ⟨q,mq,rfl⟩)) (fun _ y=>by cases y);obtain⟨ys,ey,ly⟩:=spG q mq;refine ex1 rfl ⟨q.1,_,B8 rfl rfl ⟨SqT.of et,B5 (j:=2) rfl,.inl ⟨rfl,_,SqL.of ey⟩,q.2.2.2.1,ys,_,rfl,rfl,ey,by rw[sizeLine_eq];omega,?_⟩⟩;refine hD2 _ _ ⟨⟨_,_,rfl⟩,kl.upd (V9.sp q mq) (VB.sp q mq),SG.updN (hsF q mq),(B3 (nhs q mq).symm).trans fG,fun o e=>(B3 (nsD q mq).symm).trans (eD o e),fun z hz=>lup (LG z hz),fun q' hq'=>?_⟩;by_cases n:q'.2.2.2.1=q.2.2.2.1
     .refine⟨_,by rw[n];exact A8,?_⟩;rw[AO];show _+1<=_;omega
     .obtain⟨ys',e',l'⟩:=spG q' hq';exact⟨ys',(B3 n).trans e',by omega⟩
    .rintro σ G ⟨⟨v8,v9,rfl⟩,kl,SG,fG,_,LG,_⟩;refine hM7 _ _ (B6 fun M8 hM8=>?_);refine ex1 rfl ⟨hd,rfl,⟨_,SqL.of fG⟩,y0 (asL (SqL.of fG)) (fun i' σ G'=>(∃v8 v9,σ = [some (.ref u),some (.ref t),some (.int (i:Int)),some (.ref r),some (.str due),some (.ref D),some (.ref hd),some (.ref x),v8,v9])/\Kl B H9 G'/\Sm [T.ac] F0 G'/\G' hd=some (.lst [.ref l1,.ref D,.ref l2,.ref l3])/\∀z∈[l1,D,l2,l3],∃ys,G' z=some (.lst ys)) ?_ ?_ ?_ ?_⟩
     .exact⟨⟨_,_,rfl⟩,kl,SG,fG,LG⟩
     .rintro i' σ G' _ ⟨_,_,_,fG',_⟩ o e;rw[fG]at e;cases e;exact fG'
     .rintro i' σ G' v hv ⟨⟨v8,v9,rfl⟩,kl,SG,fG,LG⟩ D2 hD2 _;have m:=AM hv;rw[show [V.ref l1,.ref D,.ref l2,.ref l3] = [l1,D,l2,l3].map V.ref from rfl]at m;obtain⟨z,hz,rfl⟩:=A_.mp m;obtain⟨ys,ez⟩:=LG z hz;obtain⟨y9,e9⟩:=hL9 z hz;obtain⟨yB,eB⟩:=hLB z hz;exact ex1 rfl ⟨.inl ⟨rfl,_,SqL.of ez⟩,z,ys,rfl,rfl,ez,hD2 _ _ ⟨⟨_,_,rfl⟩,kl.upd e9 eB,SG.updN (hLF z hz),(B3 (hLh z hz).symm).trans fG,fun z' hz'=>lup (LG z' hz')⟩⟩
     .rintro σ G' ⟨⟨v8,v9,rfl⟩,kl,SG,fG,LG⟩;have WG:=W9.keep kl;refine hM8 _ _ (B6 fun M9 hM9=>?_);refine ex1 rfl ⟨x,pe,sa2,st,ba,rfl,WG.at_,ok6,fun HA sA=>ex1 rfl ⟨rfl,?_⟩⟩;rw[hdue,Dp];refine⟨_,rfl,Ad (hM9 _ _ ?_)⟩;refine ex1 rfl (ex1 rfl ⟨by show 2<=sizeLine;decide,fun t' ht'=>?_⟩);have uA:=sA.trans (Same.new (o:=.tup [.ref x,.str due]) ht');exact hD1 _ _ ⟨⟨t',_,_,_,_,_,_,_,_,rfl,x,pe,sa2,st,ba,by rw[A8,hdue],WG.at_.same uA,ok6⟩,kF.trans (SG.trans uA.sm),E7 (Ec T9 fun z o e n=>kl z o e fun xs y=>absurd y (n xs)) uA⟩
  .rintro σ G _;exact hN1 _ _ (q G)
end
section
variable{K:PySem.W.Frag}{h:Heap}{mg:Str->Option Value}
def fn_mk{x:Str}{st:Stmt}{ps:List Str}{f:Addr}{oc:Value}{od an:Option Addr}{osl:Array (Option Value)}{kV doc pm cdv ct:Value}(X:K.In h)(G:h.Ns mainGlobals mg)(a:PySem.W.nsIn K mainGlobals x=some (some (.ref f)))
  (l:K.lookup f=some ⟨oc,od,.func (PySem.W.fnOf x x (K6 st) (J4 st) (B4 st) .none kV doc pm an cdv ct),osl⟩) (c:PySem.W.codeIn K cdv x=true) (k:PySem.W.keepIn K (.ref f)=true)
  (hb:∀(kV doc pm:Value) (an:Option Addr) (cdv ct:Value) (us:List Value),us.length=ps.length->bindArgs (PySem.W.fnOf x x (K6 st) (J4 st) (B4 st) .none kV doc pm an cdv ct) ⟨us,[]⟩=pure (ps.zip us)):Fn K mg x st ps :=
 ⟨f,_,fun_mk l c k,(fun_mk l c k).binds hb,PySem.W.mg_of X G a⟩
theorem str_mk{x z:Str}{v:Value}(X:K.In h)(G:h.Ns mainGlobals mg)(a:PySem.W.nsIn K mainGlobals x=some (some v))(e:∃t,v = .str z t):∃t,mg x=some (.str z t):=by
 obtain⟨t,rfl⟩:=e;exact⟨t,PySem.W.mg_of X G a⟩
theorem int_mk{x:Str}{z:Int}{v:Value}(X:K.In h)(G:h.Ns mainGlobals mg)(a:PySem.W.nsIn K mainGlobals x=some (some v))(e:∃t,v = .int z t):∃t,mg x=some (.int z t):=by
 obtain⟨t,rfl⟩:=e;exact⟨t,PySem.W.mg_of X G a⟩
theorem len1{us:List Value}(h:us.length=1):∃a,us = [a]:=List.length_eq_one_iff.mp h
theorem len2{us:List Value}(h:us.length=2):∃a b,us = [a,b]:=by
 cases us with
 | nil=>cases h
 | cons a r=>obtain⟨b,rfl⟩:=len1 (Nat.succ.inj h);exact⟨a,b,rfl⟩
theorem len3{us:List Value}(h:us.length=3):∃a b c,us = [a,b,c]:=by
 cases us with
 | nil=>cases h
 | cons a r=>obtain⟨b,c,rfl⟩:=len2 (Nat.succ.inj h);exact⟨a,b,c,rfl⟩
theorem len4{us:List Value}(h:us.length=4):∃a b c d,us = [a,b,c,d]:=by
 cases us with
 | nil=>cases h
 | cons a r=>obtain⟨b,c,d,rfl⟩:=len3 (Nat.succ.inj h);exact⟨a,b,c,d,rfl⟩
theorem len5{us:List Value}(h:us.length=5):∃a b c d e,us = [a,b,c,d,e]:=by
 cases us with
 | nil=>cases h
 | cons a r=>obtain⟨b,c,d,e,rfl⟩:=len4 (Nat.succ.inj h);exact⟨a,b,c,d,e,rfl⟩
def Jb(vs:Array Value)(c p:Addr):Bool:=decide (vs[11]?=some (.ref p)) &&(match vs.getD 18 .none with | .str _ _=>true | _=>false) &&(match vs.getD 7 .none with | .int _ _=>true | _=>false) &&(match vs.getD 9 .none with | .bool _=>true | _=>false) &&(match vs.getD 10 .none with | .int _ _=>true | _=>false)&&decide (c≠p)&&decide (mainGlobals≠p)
theorem tab_mk{c p:Addr}{od:Option Addr}{vs:Array Value}{sl:Array (Option Value)}(l:K.lookup c=some ⟨.type "code",od,.fields vs,sl⟩)(e1:vs.getD 11 .none = .ref p)(e:Jb vs c p=true):TabAt K mg c p:=by
 unfold Jb at e;simp only[BO,decide_eq_true_eq]at e;obtain⟨⟨⟨⟨⟨⟨e11,e18⟩,e7⟩,e9⟩,e10⟩,ne1⟩,ne2⟩:=e;have h18:∃a t,vs.getD 18 .none = .str a t:=by cases q:vs.getD 18 .none<;>rw[q]at e18<;>first | exact⟨_,_,rfl⟩ | cases e18
 have h7:∃a t,vs.getD 7 .none = .int a t:=by cases q:vs.getD 7 .none<;>rw[q]at e7<;>first | exact⟨_,_,rfl⟩ | cases e7
 have h9:∃a,vs.getD 9 .none = .bool a:=by cases q:vs.getD 9 .none<;>rw[q]at e9<;>first | exact⟨_,rfl⟩ | cases e9
 have h10:∃a t,vs.getD 10 .none = .int a t:=by cases q:vs.getD 10 .none<;>rw[q]at e10<;>first | exact⟨_,_,rfl⟩ | cases e10
 obtain⟨f18,t18,h18⟩:=h18;obtain⟨f7,t7,h7⟩:=h7;obtain⟨f9,h9⟩:=h9;obtain⟨f10,t10,h10⟩:=h10;exact⟨fun g k=>⟨_,vs,f18,t18,f7,t7,f9,f10,t10,k _ _ l,rfl,rfl,e11,e1,h18,h7,h9,h10,ne1⟩,ne2⟩
theorem noattr_mk{C:Addr}{f:Str}(h:PySem.W.findIn K (.ref C) f=some none):NoAttr K C f:=h
end
theorem all_mk{l:PySem.W.OpenLaw}{w:World}{K:PySem.W.Frag}{h:Heap}{mg:Str->Option Value}{fa f pt:Addr}{oc:Value}{od an:Option Addr}{osl:Array (Option Value)}{kV doc pm cdv ct:Value}(X:K.In h)(G:h.Ns mainGlobals mg)(hfa:mg "law" = some (.ref fa))
  (T:Tx K mg) (a:PySem.W.nsIn K mainGlobals "law" = some (some (.ref f))) (lk:K.lookup f=some ⟨oc,od,.func (PySem.W.fnOf "law" "law" (K6 s_law) (J4 s_law) (B4 s_law) .none kV doc pm an cdv ct),osl⟩) (c:PySem.W.codeIn K cdv "law" = true) (k:PySem.W.keepIn K (.ref f)=true) (ep:T.ac=pt) (np:K.lookup pt=none) :
  (∀p∈[pt],isCodeTable h p)/\(∀p∈[pt],K.lookup p=none)/\∃fd:FuncData,(∀(s:Shared) (v:Value),BindsTo s fd ⟨[v],[]⟩ [("_law_script",v)])/\∀base:Heap,K.In base->base.Ns mainGlobals mg->(∀p∈[pt],base.BuiltinsAt mg p)->FnOk l.prog w K mg base CX0 9 fa fd ["_law_script"] (Ah K pt):=by
 subst ep;have e:=hfa.symm.trans (PySem.W.mg_of X G a);cases e;refine⟨fun p hp=>?_,fun p hp=>by rw[AB.mp hp];exact np,PySem.W.fnOf "law" "law" (K6 s_law) (J4 s_law) (B4 s_law) .none kV doc pm an cdv ct,fun s v=>.of_eq rfl,fun base _ _ hB=>Jg T (hB _ (AB.mpr rfl)) (fun_mk lk c k)⟩;obtain⟨o,vs,_,_,_,_,_,_,_,e1,e2,e3,e4,_⟩:=T.aG.hd h X;rw[AB.mp hp];exact⟨_,o,vs,e1,e2,e3,e4⟩
theorem walk{l:PySem.W.OpenLaw}{q:Program}{loose:List Str}{XP:(Str->Option Value)->Heap->Prop}{YP:World->Heap->Prop}{d:DefRec}{K:Params->PySem.W.Frag}{pt:Addr}(hn:l.most=some 63)(hdf:d.params.defaults = [])
  (hY:∀(w:World) (h:Heap),YP w h->(K w.params).In h) (hYt:∀(w:World) (h:Heap),YP w h->∀p∈[pt],h.get? p=some (PySem.W.tabObj #[]))
  (F:∀(w:World) (mg:Str->Option Value) (fa:Addr) (h:Heap),(K w.params).In h->h.Ns mainGlobals mg->mg d.name=some (.ref fa) ->
   (∀p∈[pt],isCodeTable h p)/\(∀p∈[pt],(K w.params).lookup p=none)/\∃fd:FuncData,(∀(s:Shared) (u:Value),BindsTo s fd ⟨[u],[]⟩ [("_law_script",u)])/\∀base:Heap,(K w.params).In base->base.Ns mainGlobals mg->(∀p∈[pt],base.BuiltinsAt mg p)->FnOk l.prog w (K w.params) mg base CX0 9 fa fd ["_law_script"] (Ah (K w.params) pt)) :
  PySem.W.WalkO q loose XP YP l.row.toRowW d [] (fun f vs=>PySem.call f vs) :=
 L2.walk_ofT (n:=63) (k:=9) (x := "_law_script") (ts:=[pt]) (sp:=fun w=>Ah (K w.params) pt) hn (by decide) hdf ⟨rfl,by decide,by decide⟩ hY hYt F (fun _ _ a ns hl hT hS=>⟨a,ns,rfl,hS,hl,⟨#[],hT pt (AB.mpr rfl),trivial,fun _ _=>.inl rfl⟩,fun _=>rfl⟩)
end Sw
open PySem PySem.W PyProof.Rows
set_option maxRecDepth 100000 in
set_option maxHeartbeats 0 in
theorem PySem.Challenge.cw_strikeweave_k72_weaves_written_holds : PySem.Challenge.rw_strikeweave_k72_weaves_written.Holds := by
 w_on;o_law;k_head;(case hw=>w_witness2)
 k_fill
 refine Sw.walk (l:=PySem.Challenge.rw_strikeweave_k72_weaves_written) rfl rfl (fun w h Y=>PySem.W.km_in_of Y) (fun w h Y=>PySem.W.km_tabs_of Y) ?F
 case F =>
  intro w mg fa h KX G hmg;refine' Sw.all_mk KX G hmg (Sw.Tx.mk (Sw.fn_mk KX G ?a1 ?l2 ?c3 ?k4 (fun _ _ _ _ _ _ us hl=>by obtain⟨a,rfl⟩:=Sw.len1 hl;rfl))
   (Sw.fn_mk KX G ?a5 ?l6 ?c7 ?k8 (fun _ _ _ _ _ _ us hl=>by obtain⟨a,rfl⟩:=Sw.len1 hl;rfl))
   (Sw.fn_mk KX G ?a9 ?l10 ?c11 ?k12 (fun _ _ _ _ _ _ us hl=>by obtain⟨a,b,rfl⟩:=Sw.len2 hl;rfl))
   (Sw.fn_mk KX G ?a13 ?l14 ?c15 ?k16 (fun _ _ _ _ _ _ us hl=>by obtain⟨a,rfl⟩:=Sw.len1 hl;rfl))
   (Sw.fn_mk KX G ?a17 ?l18 ?c19 ?k20 (fun _ _ _ _ _ _ us hl=>by obtain⟨a,b,c,rfl⟩:=Sw.len3 hl;rfl))
   (Sw.fn_mk KX G ?a21 ?l22 ?c23 ?k24 (fun _ _ _ _ _ _ us hl=>by obtain⟨a,rfl⟩:=Sw.len1 hl;rfl))
   (Sw.fn_mk KX G ?a25 ?l26 ?c27 ?k28 (fun _ _ _ _ _ _ us hl=>by obtain⟨a,rfl⟩:=Sw.len1 hl;rfl))
   (Sw.fn_mk KX G ?a29 ?l30 ?c31 ?k32 (fun _ _ _ _ _ _ us hl=>by obtain⟨a,b,rfl⟩:=Sw.len2 hl;rfl))
   (Sw.fn_mk KX G ?a33 ?l34 ?c35 ?k36 (fun _ _ _ _ _ _ us hl=>by obtain⟨a,b,c,rfl⟩:=Sw.len3 hl;rfl))
   (Sw.fn_mk KX G ?a37 ?l38 ?c39 ?k40 (fun _ _ _ _ _ _ us hl=>by obtain⟨a,b,c,d,rfl⟩:=Sw.len4 hl;rfl))
   (Sw.fn_mk KX G ?a41 ?l42 ?c43 ?k44 (fun _ _ _ _ _ _ us hl=>by obtain⟨a,b,c,rfl⟩:=Sw.len3 hl;rfl))
   (Sw.fn_mk KX G ?a45 ?l46 ?c47 ?k48 (fun _ _ _ _ _ _ us hl=>by obtain⟨a,b,rfl⟩:=Sw.len2 hl;rfl))
   (Sw.fn_mk KX G ?a49 ?l50 ?c51 ?k52 (fun _ _ _ _ _ _ us hl=>by obtain⟨a,rfl⟩:=Sw.len1 hl;rfl))
   (Sw.fn_mk KX G ?a53 ?l54 ?c55 ?k56 (fun _ _ _ _ _ _ us hl=>by obtain⟨a,b,rfl⟩:=Sw.len2 hl;rfl))
   (Sw.fn_mk KX G ?a57 ?l58 ?c59 ?k60 (fun _ _ _ _ _ _ us hl=>by obtain⟨a,rfl⟩:=Sw.len1 hl;rfl))
   (Sw.fn_mk KX G ?a61 ?l62 ?c63 ?k64 (fun _ _ _ _ _ _ us hl=>by obtain⟨a,b,rfl⟩:=Sw.len2 hl;rfl))
   (Sw.fn_mk KX G ?a65 ?l66 ?c67 ?k68 (fun _ _ _ _ _ _ us hl=>by obtain⟨a,b,rfl⟩:=Sw.len2 hl;rfl))
   (Sw.fn_mk KX G ?a69 ?l70 ?c71 ?k72 (fun _ _ _ _ _ _ us hl=>by obtain⟨a,b,rfl⟩:=Sw.len2 hl;rfl))
   (Sw.fn_mk KX G ?a73 ?l74 ?c75 ?k76 (fun _ _ _ _ _ _ us hl=>by obtain⟨a,rfl⟩:=Sw.len1 hl;rfl))
   (Sw.fn_mk KX G ?a77 ?l78 ?c79 ?k80 (fun _ _ _ _ _ _ us hl=>by obtain⟨a,b,rfl⟩:=Sw.len2 hl;rfl))
   (Sw.fn_mk KX G ?a81 ?l82 ?c83 ?k84 (fun _ _ _ _ _ _ us hl=>by obtain⟨a,b,rfl⟩:=Sw.len2 hl;rfl))
   (Sw.fn_mk KX G ?a85 ?l86 ?c87 ?k88 (fun _ _ _ _ _ _ us hl=>by obtain⟨a,b,rfl⟩:=Sw.len2 hl;rfl))
   (Sw.fn_mk KX G ?a89 ?l90 ?c91 ?k92 (fun _ _ _ _ _ _ us hl=>by obtain⟨a,b,rfl⟩:=Sw.len2 hl;rfl))
   (Sw.fn_mk KX G ?a93 ?l94 ?c95 ?k96 (fun _ _ _ _ _ _ us hl=>by obtain⟨a,b,rfl⟩:=Sw.len2 hl;rfl))
   (Sw.fn_mk KX G ?a97 ?l98 ?c99 ?k100 (fun _ _ _ _ _ _ us hl=>by obtain⟨a,b,rfl⟩:=Sw.len2 hl;rfl))
   (Sw.fn_mk KX G ?a101 ?l102 ?c103 ?k104 (fun _ _ _ _ _ _ us hl=>by obtain⟨a,rfl⟩:=Sw.len1 hl;rfl))
   _
   ⟨?g106,?g107,?g108,?g109⟩
   (PySem.W.mg_of KX G ?q105)
   (Sw.noattr_mk ?n110)
   (Sw.noattr_mk ?n111)
   (Sw.noattr_mk ?n112)
   (Sw.noattr_mk ?n113)
   _
   _
   (L2.fun_mk ?l116 ?c117 ?k118)
   (L2.Fun.binds (L2.fun_mk ?l116 ?c117 ?k118) (fun _ _ _ _ _ _ us hl=>by obtain⟨a,b,c,d,e,rfl⟩:=Sw.len5 hl;rfl))
   ⟨?g119,?a114,?i115,?k120⟩
   _
   _
   (Sw.tab_mk ?l122 ?r123 ?r124)
   ?r121
   (Sw.str_mk KX G ?v125 ?e126)
   (Sw.int_mk KX G ?v127 ?e128)
   _
   (PySem.W.mg_of KX G ?v129)
   (L2.gtup_mk ?l130 ?y131)
   (Sw.int_mk KX G ?v132 ?e133)
   (PySem.W.mg_none_of KX G ?z134)
   (PySem.W.mg_none_of KX G ?z135)
   (PySem.W.mg_none_of KX G ?z136)
   (PySem.W.mg_none_of KX G ?z137)
   (PySem.W.mg_none_of KX G ?z138)
   (PySem.W.mg_none_of KX G ?z139)
   (PySem.W.mg_none_of KX G ?z140)
   (PySem.W.mg_none_of KX G ?z141)
   (PySem.W.mg_none_of KX G ?z142)
   (PySem.W.mg_none_of KX G ?z143)
   (PySem.W.mg_none_of KX G ?z144)
   (PySem.W.mg_none_of KX G ?z145)
   (PySem.W.mg_none_of KX G ?z146)
   (PySem.W.mg_none_of KX G ?z147)
   (PySem.W.mg_none_of KX G ?z148)) ?aL ?lL ?cL ?kL ?rP ?tP
  case a1|l2|c3|k4|a5|l6|c7|k8|a9|l10|c11|k12|a13|l14|c15|k16|a17|l18|c19|k20|a21|l22|c23|k24|a25|l26|c27|k28|a29|l30|c31|k32|a33|l34|c35|k36|a37|l38|c39|k40|a41|l42|c43|k44|a45|l46|c47|k48|a49|l50|c51|k52|a53|l54|c55|k56|a57|l58|c59|k60|a61|l62|c63|k64|a65|l66|c67|k68|a69|l70|c71|k72|a73|l74|c75|k76|a77|l78|c79|k80|a81|l82|c83|k84|a85|l86|c87|k88|a89|l90|c91|k92|a93|l94|c95|k96|a97|l98|c99|k100|a101|l102|c103|k104|q105|g106|g107|g108|g109|n110|n111|n112|n113|a114|i115|l116|c117|k118|g119|k120=>k_is
  case r121=>rfl
  case l122=>k_is
  case r123=>rfl
  case r124=>rfl
  case v125=>k_is
  case e126=>exact⟨_,rfl⟩
  case v127=>k_is
  case e128=>exact⟨_,rfl⟩
  case v129|l130=>k_is
  case y131=>exact⟨_,_,_,_,rfl,rfl⟩
  case v132=>k_is
  case e133=>exact⟨_,rfl⟩
  case z134|z135|z136|z137|z138|z139|z140|z141|z142|z143|z144|z145|z146|z147|z148|aL|lL|cL|kL=>k_is
  case rP=>rfl
  case tP=>kernel_rfl
