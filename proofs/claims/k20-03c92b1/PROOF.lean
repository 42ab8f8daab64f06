import PyProof.Rows.All
import Wide.All
import OpenK.AllK
import Wide.FinOn
import PyProof.Rows.SortShellK
import KE.KSortTup
import Lean
import PyProof.EqAt
import PyProof.EqKinds
import PyProof.TupleCall
import PyProof.SetRoads
import PyProof.DictRoadsH
import PyProof.IsRules
import PyProof.CollectWalk
import PyProof.FactsAll.set
import PyProof.NeData
import PyProof.P3In
import PyProof.TupleOfSeq
import PyProof.ZipIter
import PyProof.Rows.ZipGen
import KE.KDictOf
import PyProof.AttrMissHeap
import PyProof.Rows.SumAny
import PyProof.DictIter
import PyProof.DictWalks
import PySem.Challenge.RW_strikeweave_k20_rows_that_show_nothing
namespace PySem.W.Fast
def tw4238169926543238130:=0
def tw6886528619914686389:=0
def tw8813969522586701778:=0
def tw592592072338371415:=0
def tw4429912359415154170:=0
def tw2134069355139611013:=0
def tw17711595743303855019:=0
def tw12139603177347989255:=0
def tw2700450690313494040:=0
def tw9886047269262161971:=0
def tw17381931434348729775:=0
def tw5834662939601345944:=0
def tw5889656086264801569:=0
def tw16174894053833147859:=0
def tw5588425798767503032:=0
def tw4025496113276712717:=0
def tw5695160158303352133:=0
def tw13060206746299492221:=0
def tw11005333253631425932:=0
def tw5753554076476391116:=0
def tw14904919140978231093:=0
def tw18398819536467527505:=0
def tw14778853179727053860:=0
def tw9316628771373443137:=0
def tw16832126202298008426:=0
def tw8428832403043055662:=0
def tw2950074436244640562:=0
def tw17426110294767603102:=0
def tw974943139628229652:=0
def tw7495449992791955482:=0
def tw7263933202700864919:=0
def tw8817070946460140288:=0
def tw4820862558052578203:=0
def tw8813882664186763417:=0
def tw158917369212276607:=0
def tw7390148379106073813:=0
def tw889903953496245508:=0
def tw10015508923056028781:=0
def tw18022817059926026673:=0
def tw13036216710107494233:=0
def tw1537156856402561074:=0
def tw1260915233782521357:=0
def tw1117271049466325533:=0
def tw17108306443158209684:=0
def tw6411343348252978184:=0
def tw17381950089381168709:=0
def tw8072084251251137632:=0
def tw878382229823548783:=0
def tw1972632803848063629:=0
def tw14931152365222732332:=0
def tw129815176710179442:=0
def tw5200791182737206650:=0
def tw3578988505590161901:=0
def tw16093915425880400849:=0
def tw3428494158175895212:=0
def tw2650941265570702261:=0
def tw15658731901880756658:=0
def tw18338004942735490072:=0
def tw4686584116690650700:=0
def tw14123620448705676215:=0
def tw1336079549243661067:=0
def tw8762531364095334605:=0
def tw4005798262662176549:=0
def tw6689573657002391800:=0
def tw2035497649679919874:=0
def tw1025029606331500075:=0
def tw15553337831523153086:=0
def tw3480278798787277097:=0
def tw11453525469877875292:=0
def tw4020147017974230593:=0
def tw2084030079888459539:=0
def tw17600460449531326255:=0
def tw8397159308850328032:=0
def tw11195124247302833458:=0
def tw12949718676973828635:=0
def tw1736260927993853373:=0
def tw6640196277678626440:=0
def tw5606225722507127006:=0
def tw2339206884991922515:=0
def tw1218089302720708128:=0
def tw3100879774340595667:=0
def tw15086948919930324977:=0
def tw7769785156910566504:=0
def tw5324362021660947869:=0
def tw14410476117760604389:=0
def tw13762202222579043481:=0
def tw14700334901536256956:=0
def tw8846281080877159161:=0
def tw18430946262979412322:=0
def tw15012625232610241115:=0
def tw15075419207239488550:=0
def tw3240477153343723705:=0
def tw7145802475195360475:=0
def tw5495238829492166697:=0
def tw16604661870506725642:=0
def tw9486833936563296198:=0
def tw18283831592024361664:=0
def tw8268171892055155271:=0
def tw10713768871621495030:=0
def tw15179938172226911373:=0
def tw4595970533604425140:=0
def tw5177519994154758828:=0
def tw14199969495241300267:=0
def tw13263864336910612070:=0
def tw8986735726474173086:=0
def tw4226868669834260811:=0
def tw551450887295735560:=0
def tw1118152957177799490:=0
def tw5574057832675816697:=0
def tw14228189037592053101:=0
def tw8042492037005410765:=0
def tw17131462710722176733:=0
def tw15758950847630493708:=0
def tw6671083064596890994:=0
def tw13863732966190428919:=0
def tw4278947530377267275:=0
def tw2628407738357369177:=0
def tw2561970727920084420:=0
def tw12188114298553376382:=0
def tw4494513712910909324:=0
def tw10934584428030775692:=0
def tw1635005919072086242:=0
def tw5254663946506058815:=0
def tw92191532032517479:=0
def tw13834354927370947617:=0
def tw8757988180312926487:=0
def tw13716777385883113752:=0
def tw17840488458462494179:=0
def tw13861020175973646780:=0
def tw17458349237208085697:=0
def tw15786481901294831236:=0
def tw5336842701546450348:=0
def tw8578523261807713507:=0
def tw15665861584462434430:=0
def tw5170478179715547643:=0
def tw7318525002791015673:=0
def tw3711021622645015288:=0
def tw14873039560797971162:=0
def tw56195843653987506:=0
def tw12748552415320539105:=0
def tw7415812306582533366:=0
def tw3421635854138445706:=0
def tw1907476969796865120:=0
def tw10859744686952188433:=0
def tw4046976451475438286:=0
def tw8248812604246359305:=0
def tw16356689219259616928:=0
def tw12124238026982437966:=0
def tw1704979908489167229:=0
def tw15893662544609736536:=0
def tw7704846473213452170:=0
def tw2852596333081069509:=0
def tw12788320664594090090:=0
def tw7983854113692759683:=0
def tw158204801338989855:=0
def tw2945726985983602940:=0
def tw1216062706336091137:=0
def tw11374940460906921842:=0
def tw695493865274203863:=0
def tw10946435731942618447:=0
def tw16963612791010907123:=0
def tw15257061613790558111:=0
def tw2310895969044713866:=0
def tw9712717724105121740:=0
def tw11216198928665250933:=0
def tw3840748607046653829:=0
def tw11011196529934844179:=0
def tw17716667309322539054:=0
def tw10001989844915594103:=0
def tw17828327557287866300:=0
def tw17543819533347980797:=0
def tw5336215860872740696:=0
def tw17931101462138021583:=0
def tw14796810526780205872:=0
def tw8023715742908686151:=0
def tw17788494317462658580:=0
def tw6245117285057329342:=0
def tw5305063928288608933:=0
def tw8563392001956851585:=0
def tw2274637099901896802:=0
def tw1392666243522473017:=0
def tw11974191487076943445:=0
def tw15481551493251104932:=0
def tw4391439446904998566:=0
def tw12946686522804583015:=0
def tw6898275655158605140:=0
def tw8607910974234838715:=0
def tw14804085104448070833:=0
def tw11616669068251719146:=0
def tw81186267704788558:=0
def tw1031258647470609907:=0
def tw10238067946202601007:=0
def tw13766285642848793943:=0
def tw12984861691886578607:=0
def tw9328665868843268749:=0
def tw10557102525614220564:=0
def tw5242915229112821490:=0
def tw9095018233607410872:=0
def tw1346283375590270086:=0
def tw14165696314762211570:=0
def tw16051284849913014719:=0
def tw11285046774463005459:=0
def tw9973982062473999803:=0
def tw11887523479869938672:=0
def tw15453870099159756626:=0
def tw3289597001600461681:=0
def tw11230110667689477803:=0
def tw1217001025086838994:=0
def tw4328184997002171303:=0
def tw9907735346639366879:=0
def tw568330879725601166:=0
def tw7892126346597481068:=0
def tw9023323161139462479:=0
def tw4597458743461214191:=0
def tw16530581239344238124:=0
def tw2285669345471053473:=0
def tw2927807883508910104:=0
def tw8468699695842173651:=0
def tw5567934856435695483:=0
def tw11298374042835437423:=0
def tw3286970244861751853:=0
def tw15457900302826718093:=0
def tw9233123457075916258:=0
def tw750603684176141267:=0
def tw14948079089211457489:=0
def tw9143767276860875890:=0
def tw6761845422208344287:=0
def tw5693065962282297356:=0
def tw3594858312503350905:=0
def tw4345133011010091366:=0
def tw5935935202823104961:=0
def tw9108703352898095454:=0
def tw17087831849772047052:=0
def tw2719400433261405524:=0
def tw7116411886157317714:=0
def tw5980389951024871494:=0
def tw17799614929962083547:=0
def tw8650852151326281352:=0
def tw9063794545082954200:=0
def tw10378451765398515037:=0
def tw17307240272729700350:=0
def tw9957324867138054086:=0
def tw5337888523948150721:=0
def tw14992292482177791732:=0
def tw10878002788081095948:=0
def tw15754607839291369514:=0
def tw9273934699966964122:=0
def tw1545949563652359884:=0
def tw12753659978782123844:=0
def tw13597682029866104718:=0
def tw9834074658238415780:=0
def tw9599025713807422894:=0
def tw17362272361558972405:=0
def tw13197013865103216120:=0
def tw16845675345399953463:=0
def tw10993864049805380055:=0
def tw13984881074650623664:=0
def tw13914469900317185309:=0
def tw16945864303440060870:=0
def tw8527213346537271177:=0
def tw614808717773796398:=0
def tw1455958955508929117:=0
def tw15721941232287852952:=0
def tw11050207137076600350:=0
def tw16103388613557523412:=0
def tw16128530002613575070:=0
def tw13140515284303601395:=0
def tw367564069439447907:=0
def tw4037087679827250082:=0
def tw14366079412360695241:=0
def tw17127477889010386348:=0
def tw12486172364129877152:=0
def tw5670570023489520333:=0
def tw1968679263305041286:=0
def tw12350788562527493036:=0
def tw12061806513697155639:=0
def tw9180547350436840494:=0
def tw10433372357176879542:=0
def tw605701686500972757:=0
def tw3707989376851872258:=0
def tw3448226887897029623:=0
def tw2601585805301830919:=0
def tw924817855504863714:=0
def tw5751283363723953617:=0
def tw16327621757279638196:=0
def tw2525632242103348714:=0
def tw8021483971438097028:=0
def tw1457591603851181785:=0
def tw4087107918391861490:=0
def tw16108812497653448292:=0
def tw7994661271080046346:=0
def tw90383959943980838:=0
def tw789620627338282775:=0
def tw11056843344918209696:=0
end PySem.W.Fast
set_option autoImplicit false
set_option genSizeOf false
set_option genSizeOfSpec false
set_option bootstrap.genMatcherCode false
set_option compiler.extract_closed false
set_option linter.all false
set_option maxRecDepth 100000
namespace TS
open PySem PyProof.Rows
noncomputable def kk (κ:KeyKind) (p:Keyed):κ.α:=(κ.keyOf p.1).getD κ.dflt
noncomputable def Has (κ:KeyKind) (p:Keyed):Prop:=∃ a,κ.keyOf p.1 = some a
noncomputable def le (κ:KeyKind) (p q:Keyed):Prop:=κ.kle (kk κ p) (kk κ q)
noncomputable def Sor (κ:KeyKind) (l:List Keyed):Prop:=l.Pairwise (le κ)
structure Cmp (prog:Program) (w:World) (A:Around) (s:Shared) (κ:KeyKind) (kd:SortKind):Prop where
 lt:∀ (x y:Value) (a b:κ.α) (Q:Bool->Shared->Prop) (E:Value->Shared->Prop),κ.keyOf x = some a->κ.keyOf y = some b->Q (κ.blt a b) s->wpAny (model prog w) A (keyLt' kd x y) Q E s
section
variable {prog:Program} {w:World} {A:Around} {E:Value->Shared->Prop} {s:Shared} {κ:KeyKind} {kd:SortKind}
theorem wpS_lt (C:Cmp prog w A s κ kd) {st:SortSt} {x y:Keyed} {Q:Option Bool->SortSt->Prop} (hk:kindOf st = kd) (hx:Has κ x) (hy:Has κ y)
  (h:Q (some (κ.blt (kk κ x) (kk κ y))) st):wpS (model prog w) A E s (lt' x y) Q st:=by
 obtain ⟨a,ha⟩:=hx
 obtain ⟨b,hb⟩:=hy
 have e1:kk κ x = a:=by unfold kk; rw [ha]; rfl
 have e2:kk κ y = b:=by unfold kk; rw [hb]; rfl
 rw [e1,e2] at h
 rw [lt'_eq]
 refine wpS_bind (wpS_get ?_)
 rw [hk]
 refine wpS_bind (wpS_lift (wpAny_attempt (C.lt x.1 y.1 a b _ _ ha hb ⟨rfl,?_⟩)))
 exact wpS_pure h
theorem wpS_elem {st:SortSt} {arr:Array Keyed} {i:Nat} {p:Keyed} {Q:Keyed->SortSt->Prop} (hi:arr[i]? = some p) (h:Q p st):wpS (model prog w) A E s (elem' arr i) Q st:=by
 rw [elem'_eq,hi]; exact wpS_pure h
noncomputable def gallop':Bool->Keyed->Array Keyed->Nat->Nat->Nat->StateT SortSt Sem (Option Nat):=sortPriv% PySem.Builtin.gallop
noncomputable def bey (left:Bool) (ky:Keyed) (ar:Array Keyed) (bs:Nat) (i:Nat):StateT SortSt Sem (Option Bool):=do
 let x <-elem' ar (bs + i)
 if left then lt' x ky else return (<-lt' ky x).map (!·)
theorem gallop'_eq (left:Bool) (ky:Keyed) (ar:Array Keyed) (bs n ht:Nat):gallop' left ky ar bs n ht = (do
  let mut la:=0
  let mut of:=1
  let mut lo:=0
  let mut hi:=0
  let some ri <-bey left ky ar bs ht | return none
  if ri then
   let mx:=n - ht
   for _ in [0:n] do
    if of ≥ mx then break
    let some mo <-bey left ky ar bs (ht + of) | return none
    if !mo then break
    la:=of
    of:=2 * of + 1
   lo:=ht + la + 1
   hi:=ht + min of mx
  else
   let mx:=ht + 1
   for _ in [0:n] do
    if of ≥ mx then break
    let some fo <-bey left ky ar bs (ht - of) | return none
    if fo then break
    la:=of
    of:=2 * of + 1
   lo:=ht + 1 - min of mx
   hi:=ht - la
  for _ in [0:n] do
   if lo ≥ hi then break
   let m:=lo + (hi - lo) / 2
   let some mo <-bey left ky ar bs m | return none
   if mo then lo:=m + 1 else hi:=m
  return some hi):=rfl
noncomputable def PB (κ:KeyKind) (left:Bool) (ky:Keyed) (p:Keyed):Bool:=if left then κ.blt (kk κ p) (kk κ ky) else !κ.blt (kk κ ky) (kk κ p)
theorem wpS_bey (C:Cmp prog w A s κ kd) {st:SortSt} {left:Bool} {ky p:Keyed} {ar:Array Keyed} {bs i:Nat} {Q:Option Bool->SortSt->Prop} (hk:kindOf st = kd) (hky:Has κ ky) (hp:Has κ p) (hi:ar[bs + i]? = some p)
  (h:Q (some (PB κ left ky p)) st):wpS (model prog w) A E s (bey left ky ar bs i) Q st:=by
 unfold bey
 refine wpS_bind (wpS_elem hi ?_)
 cases left with
 | true=>exact wpS_lt C hk hp hky h
 | false =>
  simp only [Bool.false_eq_true,if_false]
  refine wpS_bind (wpS_lt C hk hky hp ?_)
  exact wpS_pure h
theorem wpS_gallop (C:Cmp prog w A s κ kd) {st:SortSt} {left:Bool} {ky:Keyed} {ar:Array Keyed} {bs n ht:Nat} {Q:Option Nat->SortSt->Prop} (hk:kindOf st = kd) (hky:Has κ ky)
  (P:Nat->Bool) (hP:∀ i,i < n->∃ p,ar[bs + i]? = some p/\Has κ p/\PB κ left ky p = P i) (mono:∀ i j,i<=j->j < n->P j = true->P i = true) (hht:ht < n)
  (h:∀ k,k<=n->(∀ i,i < k->P i = true)->(∀ i,k<=i->i < n->P i = false)->Q (some k) st):wpS (model prog w) A E s (gallop' left ky ar bs n ht) Q st:=by
 have B:∀ {st':SortSt} {i:Nat} {Q:Option Bool->SortSt->Prop},st' = st->i < n->Q (some (P i)) st'->wpS (model prog w) A E s (bey left ky ar bs i) Q st':=by
  intro st' i Q e hi q
  subst e
  obtain ⟨p,h1,h2,h3⟩:=hP i hi
  exact wpS_bey C hk hky h2 h1 (by rw [h3]; exact q)
 have nmono:∀ i j,i<=j->j < n->P i = false->P j = false:=by
  intro i j hij hj hi
  cases e:P j with
  | false=>rfl
  | true=>rw [mono i j hij hj e] at hi; cases hi
 rw [gallop'_eq]
 dsimp only
 refine wpS_bind (B rfl hht ?_)
 dsimp only
 have S:∀ {lo hi:Nat} {f:Nat->(Option (Option Nat) × Nat × Nat)->StateT SortSt Sem (ForInStep (Option (Option Nat) × Nat × Nat))},
   (∀ x l h,wpS (model prog w) A E s (f x (none,l,h)) (fun r st'=>st' = st/\(if h<=l then r = .done (none,l,h) else if P (l + (h - l) / 2) = true then r = .yield (none,l + (h - l) / 2 + 1,h) else r = .yield (none,l,l + (h - l) / 2))) st\/¬ (h<=l\/l + (h - l) / 2 < n)) ->
   lo<=hi->hi<=n->(∀ i,i < lo->P i = true)->(∀ i,hi<=i->i < n->P i = false) ->
   wpS (model prog w) A E s (forIn [0:n] (none,lo,hi) f) (fun c st'=>st' = st/\∃ k,c = (none,k,k)/\k<=n/\(∀ i,i < k->P i = true)/\(∀ i,k<=i->i < n->P i = false)) st:=by
  intro lo hi f hf h1 h2 h3 h4
  refine wpS_forRange (I:=fun x c st'=>st' = st/\∃ l r,c = (none,l,r)/\l<=r/\r<=n/\r - l<=n - x/\(∀ i,i < l->P i = true)/\(∀ i,r<=i->i < n->P i = false)) ?_ ?_ ⟨rfl,lo,hi,rfl,h1,h2,by omega,h3,h4⟩
  ·rintro x c st' _ hx ⟨rfl,l,r,rfl,hl,hr,hm,ha,hb⟩
   have hin:r<=l\/l + (r - l) / 2 < n:=by omega
   rcases hf x l r with q | q
   ·refine wpS_mono q fun z st2 ⟨e,q2⟩=>?_
    subst e
    by_cases hge:r<=l
    ·rw [if_pos hge] at q2
     subst q2
     have:l = r:=by omega
     subst this
     exact ⟨rfl,l,rfl,hr,ha,hb⟩
    ·rw [if_neg hge] at q2
     cases hp:P (l + (r - l) / 2) with
     | true =>
      rw [if_pos hp] at q2
      subst q2
      exact ⟨rfl,_,_,rfl,by omega,by omega,by omega,fun i hi=>mono i (l + (r - l) / 2) (by omega) (by omega) hp,hb⟩
     | false =>
      rw [if_neg (by rw [hp]; exact Bool.false_ne_true)] at q2
      subst q2
      exact ⟨rfl,_,_,rfl,by omega,by omega,by omega,ha,fun i hi1 hi2=>nmono (l + (r - l) / 2) i hi1 hi2 hp⟩
   ·exact absurd hin q
  ·rintro c st' ⟨rfl,l,r,rfl,hl,hr,hm,ha,hb⟩
   have:l = r:=by omega
   subst this
   exact ⟨rfl,l,rfl,hr,ha,hb⟩
 cases hr:P ht with
 | true =>
  rw [if_pos rfl]
  refine wpS_bind (wpS_mono (wpS_forRange (I:=fun x c st'=>st' = st/\∃ la of,c = (none,la,of)/\la < of/\x + 1<=of/\ht + la < n/\P (ht + la) = true)
   (Q:=fun c st'=>st' = st/\∃ la of,c = (none,la,of)/\la < of/\ht + la < n/\P (ht + la) = true/\(n - ht<=of\/(ht + of < n/\P (ht + of) = false))) ?st ?en ⟨rfl,0,1,rfl,by omega,by omega,by omega,hr⟩) ?po)
  case en =>
   rintro c st' ⟨rfl,la,of,rfl,a1,a2,a3,a4⟩
   exact ⟨rfl,la,of,rfl,a1,a3,a4,.inl (by omega)⟩
  case st =>
   rintro x c st' _ hx ⟨rfl,la,of,rfl,a1,a2,a3,a4⟩
   dsimp only
   by_cases hge:of ≥ n - ht
   ·rw [if_pos hge]
    exact wpS_pure ⟨rfl,la,of,rfl,a1,a3,a4,.inl hge⟩
   ·rw [if_neg hge]
    refine wpS_bind (B rfl (show ht + of < n by omega) ?_)
    cases hp:P (ht + of) with
    | true=>exact wpS_pure ⟨rfl,of,2 * of + 1,rfl,by omega,by omega,by omega,hp⟩
    | false=>exact wpS_pure ⟨rfl,la,of,rfl,a1,a3,a4,.inr ⟨by omega,hp⟩⟩
  case po =>
   rintro c st' ⟨rfl,la,of,rfl,a1,a3,a4,a5⟩
   dsimp only
   refine wpS_bind (wpS_mono (S (lo:=ht + la + 1) (hi:=ht + min of (n - ht)) (fun x l h'=>by
    dsimp only
    by_cases hge:h'<=l
    ·refine .inl ?_
     rw [if_pos hge]
     exact wpS_pure ⟨rfl,by rw [if_pos hge]⟩
    ·by_cases hn:l + (h' - l) / 2 < n
     ·refine .inl ?_
      rw [if_neg hge]
      refine wpS_bind (B rfl hn ?_)
      dsimp only
      cases hp:P (l + (h' - l) / 2) with
      | true =>
       simp only [if_true]
       exact wpS_pure ⟨rfl,by rw [if_neg hge]⟩
      | false =>
       simp only [Bool.false_eq_true,if_false]
       exact wpS_pure ⟨rfl,by rw [if_neg hge]⟩
     ·exact .inr (by omega)) (by omega) (by omega) (fun i hi=>mono i (ht + la) (by omega) a3 a4) fun i hi1 hi2=>?_) fun c st' ⟨e,k,e2,b1,b2,b3⟩=>?_)
   ·rcases a5 with a5 | ⟨a5,a6⟩
    ·omega
    ·exact nmono (ht + of) i (by omega) hi2 a6
   ·subst e e2
    exact wpS_pure (h k b1 b2 b3)
 | false =>
  rw [if_neg Bool.false_ne_true]
  refine wpS_bind (wpS_mono (wpS_forRange (I:=fun x c st'=>st' = st/\∃ la of,c = (none,la,of)/\la < of/\x + 1<=of/\la<=ht/\P (ht - la) = false)
   (Q:=fun c st'=>st' = st/\∃ la of,c = (none,la,of)/\la < of/\la<=ht/\P (ht - la) = false/\(ht + 1<=of\/(of<=ht/\P (ht - of) = true))) ?st ?en ⟨rfl,0,1,rfl,by omega,by omega,by omega,hr⟩) ?po)
  case en =>
   rintro c st' ⟨rfl,la,of,rfl,a1,a2,a3,a4⟩
   exact ⟨rfl,la,of,rfl,a1,a3,a4,.inl (by omega)⟩
  case st =>
   rintro x c st' _ hx ⟨rfl,la,of,rfl,a1,a2,a3,a4⟩
   dsimp only
   by_cases hge:of ≥ ht + 1
   ·rw [if_pos hge]
    exact wpS_pure ⟨rfl,la,of,rfl,a1,a3,a4,.inl hge⟩
   ·rw [if_neg hge]
    refine wpS_bind (B rfl (show ht - of < n by omega) ?_)
    cases hp:P (ht - of) with
    | false=>exact wpS_pure ⟨rfl,of,2 * of + 1,rfl,by omega,by omega,by omega,hp⟩
    | true=>exact wpS_pure ⟨rfl,la,of,rfl,a1,a3,a4,.inr ⟨by omega,hp⟩⟩
  case po =>
   rintro c st' ⟨rfl,la,of,rfl,a1,a3,a4,a5⟩
   dsimp only
   refine wpS_bind (wpS_mono (S (lo:=ht + 1 - min of (ht + 1)) (hi:=ht - la) (fun x l h'=>by
    dsimp only
    by_cases hge:h'<=l
    ·refine .inl ?_
     rw [if_pos hge]
     exact wpS_pure ⟨rfl,by rw [if_pos hge]⟩
    ·by_cases hn:l + (h' - l) / 2 < n
     ·refine .inl ?_
      rw [if_neg hge]
      refine wpS_bind (B rfl hn ?_)
      dsimp only
      cases hp:P (l + (h' - l) / 2) with
      | true =>
       simp only [if_true]
       exact wpS_pure ⟨rfl,by rw [if_neg hge]⟩
      | false =>
       simp only [Bool.false_eq_true,if_false]
       exact wpS_pure ⟨rfl,by rw [if_neg hge]⟩
     ·exact .inr (by omega)) (by omega) (by omega) (fun i hi=>?_) fun i hi1 hi2=>nmono (ht - la) i (by omega) hi2 a4) fun c st' ⟨e,k,e2,b1,b2,b3⟩=>?_)
   ·rcases a5 with a5 | ⟨a5,a6⟩
    ·omega
    ·exact mono i (ht - of) (by omega) (by omega) a6
   ·subst e e2
    exact wpS_pure (h k b1 b2 b3)
end
end TS
namespace TS
open PySem PyProof.Rows
section
variable {κ:KeyKind}
theorem le_refl (p:Keyed):le κ p p:=KeyOrd.kle_refl _
theorem le_trans {p q r:Keyed} (h1:le κ p q) (h2:le κ q r):le κ p r:=KeyOrd.kle_trans h1 h2
structure ML (κ:KeyKind) (a b:List Keyed) (o:List Keyed) (i j:Nat):Prop where
 perm:o.Perm (a.take i ++ b.take j)
 sor:Sor κ o
 la:∀ x ∈ o,∀ y ∈ a.drop i,le κ x y
 lb:∀ x ∈ o,∀ y ∈ b.drop j,le κ x y
theorem ML.sym {a b o:List Keyed} {i j:Nat} (m:ML κ a b o i j):ML κ b a o j i:=⟨m.perm.trans List.perm_append_comm,m.sor,m.lb,m.la⟩
theorem sor_split {l:List Keyed} (k:Nat) (h:Sor κ l):∀ x ∈ l.take k,∀ y ∈ l.drop k,le κ x y:=by
 have h':Sor κ (l.take k ++ l.drop k):=by rw [List.take_append_drop]; exact h
 exact (List.pairwise_append.mp h').2.2
theorem ML.addA {a b o:List Keyed} {i j:Nat} (m:ML κ a b o i j) (sa:Sor κ a) (k:Nat) (hk:∀ y ∈ (a.drop i).take k,∀ z ∈ b.drop j,le κ y z):ML κ a b (o ++ (a.drop i).take k) (i + k) j:=by
 have hs:Sor κ (a.drop i):=sa.sublist (List.drop_sublist _ _)
 refine ⟨?_,?_,fun x hx y hy=>?_,fun x hx y hy=>?_⟩
 ·rw [List.take_add]
  refine (List.Perm.append_right _ m.perm).trans ?_
  rw [List.append_assoc,List.append_assoc]
  exact List.Perm.append_left _ List.perm_append_comm
 ·refine List.pairwise_append.mpr ⟨m.sor,hs.sublist (List.take_sublist _ _),fun x hx y hy=>m.la x hx y (List.mem_of_mem_take hy)⟩
 ·rw [<-List.drop_drop] at hy
  rcases List.mem_append.mp hx with hx | hx
  ·exact m.la x hx y (List.mem_of_mem_drop hy)
  ·exact sor_split k hs x hx y hy
 ·rcases List.mem_append.mp hx with hx | hx
  ·exact m.lb x hx y hy
  ·exact hk x hx y hy
theorem ML.addB {a b o:List Keyed} {i j:Nat} (m:ML κ a b o i j) (sb:Sor κ b) (k:Nat) (hk:∀ y ∈ (b.drop j).take k,∀ z ∈ a.drop i,le κ y z):ML κ a b (o ++ (b.drop j).take k) i (j + k) :=
 (m.sym.addA sb k hk).sym
theorem ML.endA {a b o:List Keyed} {i j:Nat} (m:ML κ a b o i j) (sa:Sor κ a) (sb:Sor κ b) (h:∀ y ∈ a.drop i,∀ z ∈ b.drop j,le κ y z):Sor κ (o ++ a.drop i ++ b.drop j)/\(o ++ a.drop i ++ b.drop j).Perm (a ++ b):=by
 refine ⟨?_,?_⟩
 ·refine List.pairwise_append.mpr ⟨List.pairwise_append.mpr ⟨m.sor,sa.sublist (List.drop_sublist _ _),m.la⟩,sb.sublist (List.drop_sublist _ _),fun x hx y hy=>?_⟩
  rcases List.mem_append.mp hx with hx | hx
  ·exact m.lb x hx y hy
  ·exact h x hx y hy
 ·have h1:(o ++ a.drop i ++ b.drop j).Perm ((a.take i ++ b.take j) ++ a.drop i ++ b.drop j):=List.Perm.append_right _ (List.Perm.append_right _ m.perm)
  refine h1.trans ?_
  have h2:((a.take i ++ b.take j) ++ a.drop i ++ b.drop j).Perm ((a.take i ++ a.drop i) ++ (b.take j ++ b.drop j)):=by
   rw [List.append_assoc,List.append_assoc,List.append_assoc]
   refine List.Perm.append_left _ ?_
   rw [<-List.append_assoc,<-List.append_assoc]
   exact List.Perm.append_right _ List.perm_append_comm
  rw [List.take_append_drop,List.take_append_drop] at h2
  exact h2
theorem ML.endB {a b o:List Keyed} {i j:Nat} (m:ML κ a b o i j) (sa:Sor κ a) (sb:Sor κ b) (h:∀ y ∈ b.drop j,∀ z ∈ a.drop i,le κ y z):Sor κ (o ++ b.drop j ++ a.drop i)/\(o ++ b.drop j ++ a.drop i).Perm (a ++ b) :=
 ⟨(m.sym.endA sb sa h).1,(m.sym.endA sb sa h).2.trans List.perm_append_comm⟩
structure MH (κ:KeyKind) (a b:List Keyed) (o:List Keyed) (i j:Nat):Prop where
 perm:o.Perm (a.drop i ++ b.drop j)
 sor:Sor κ o
 la:∀ x ∈ o,∀ y ∈ a.take i,le κ y x
 lb:∀ x ∈ o,∀ y ∈ b.take j,le κ y x
theorem MH.sym {a b o:List Keyed} {i j:Nat} (m:MH κ a b o i j):MH κ b a o j i:=⟨m.perm.trans List.perm_append_comm,m.sor,m.lb,m.la⟩
theorem MH.addA {a b o:List Keyed} {i j:Nat} (m:MH κ a b o i j) (sa:Sor κ a) (k:Nat) (hki:k<=i) (hk:∀ y ∈ (a.take i).drop k,∀ z ∈ b.take j,le κ z y):MH κ a b ((a.take i).drop k ++ o) k j:=by
 have hs:Sor κ (a.take i):=sa.sublist (List.take_sublist _ _)
 have e:a.drop k = (a.take i).drop k ++ a.drop i:=by
  conv=>lhs; rw [<-List.take_append_drop i a]
  rw [List.drop_append]
  by_cases hl:i<=a.length
  ·rw [List.length_take,Nat.min_eq_left hl,Nat.sub_eq_zero_of_le hki,List.drop_zero]
  ·have:a.drop i = []:=List.drop_eq_nil_of_le (by lia)
   rw [this,List.drop_nil]
 have e2:(a.take i).take k = a.take k:=by rw [List.take_take,Nat.min_eq_left hki]
 refine ⟨?_,?_,fun x hx y hy=>?_,fun x hx y hy=>?_⟩
 ·rw [e,List.append_assoc]
  exact List.Perm.append_left _ m.perm
 ·exact List.pairwise_append.mpr ⟨hs.sublist (List.drop_sublist _ _),m.sor,fun x hx y hy=>m.la y hy x (List.mem_of_mem_drop hx)⟩
 ·rw [<-e2] at hy
  rcases List.mem_append.mp hx with hx | hx
  ·exact sor_split k hs y hy x hx
  ·exact m.la x hx y (List.mem_of_mem_take hy)
 ·rcases List.mem_append.mp hx with hx | hx
  ·exact hk x hx y hy
  ·exact m.lb x hx y hy
theorem MH.addB {a b o:List Keyed} {i j:Nat} (m:MH κ a b o i j) (sb:Sor κ b) (k:Nat) (hkj:k<=j) (hk:∀ y ∈ (b.take j).drop k,∀ z ∈ a.take i,le κ z y):MH κ a b ((b.take j).drop k ++ o) i k :=
 (m.sym.addA sb k hkj hk).sym
theorem MH.endA {a b o:List Keyed} {i j:Nat} (m:MH κ a b o i j) (sa:Sor κ a) (sb:Sor κ b) (h:∀ y ∈ a.take i,∀ z ∈ b.take j,le κ y z):Sor κ (a.take i ++ b.take j ++ o)/\(a.take i ++ b.take j ++ o).Perm (a ++ b):=by
 refine ⟨?_,?_⟩
 ·refine List.pairwise_append.mpr ⟨List.pairwise_append.mpr ⟨sa.sublist (List.take_sublist _ _),sb.sublist (List.take_sublist _ _),h⟩,m.sor,fun x hx y hy=>?_⟩
  rcases List.mem_append.mp hx with hx | hx
  ·exact m.la y hy x hx
  ·exact m.lb y hy x hx
 ·have h1:(a.take i ++ b.take j ++ o).Perm (a.take i ++ b.take j ++ (a.drop i ++ b.drop j)):=List.Perm.append_left _ m.perm
  refine h1.trans ?_
  have h2:(a.take i ++ b.take j ++ (a.drop i ++ b.drop j)).Perm ((a.take i ++ a.drop i) ++ (b.take j ++ b.drop j)):=by
   rw [List.append_assoc,List.append_assoc]
   refine List.Perm.append_left _ ?_
   rw [<-List.append_assoc,<-List.append_assoc]
   exact List.Perm.append_right _ List.perm_append_comm
  rw [List.take_append_drop,List.take_append_drop] at h2
  exact h2
theorem MH.endB {a b o:List Keyed} {i j:Nat} (m:MH κ a b o i j) (sa:Sor κ a) (sb:Sor κ b) (h:∀ y ∈ b.take j,∀ z ∈ a.take i,le κ y z):Sor κ (b.take j ++ a.take i ++ o)/\(b.take j ++ a.take i ++ o).Perm (a ++ b) :=
 ⟨(m.sym.endA sb sa h).1,(m.sym.endA sb sa h).2.trans List.perm_append_comm⟩
end
section
variable {prog:Program} {w:World} {A:Around} {E:Value->Shared->Prop} {s:Shared} {κ:KeyKind} {kd:SortKind}
noncomputable def setMin' (g:Nat):StateT SortSt Sem Unit:=modify fun s=>SortSt.mk' (kindOf s) (arrOf s) (pendingOf s) g (failedOf s)
noncomputable def mergeLo':Array Keyed->Array Keyed->StateT SortSt Sem (Array Keyed):=sortPriv% PySem.Builtin.mergeLo
theorem mergeLo'_eq (a b:Array Keyed):mergeLo' a b = (do
  rule "list.sort.merge-lo"
  let tot:=a.size + b.size
  let dn (o:Array Keyed) (i j:Nat):=o ++ a.extract i a.size ++ b.extract j b.size
  let lA (o:Array Keyed) (i j:Nat):=o ++ b.extract j b.size ++ a.extract i a.size
  let mut o:Array Keyed:=#[<-elem' b 0]
  let mut i:=0
  let mut j:=1
  if j == b.size then return dn o i j
  if i + 1 == a.size then return lA o i j
  let mut mg:=gallopOf (<-get)
  for _ in [0:tot] do
   let mut ac:=0
   let mut bc:=0
   for _ in [0:tot] do
    let some bw <-lt' (<-elem' b j) (<-elem' a i) | return dn o i j
    if bw then
     o:=o.push (<-elem' b j); j:=j + 1; bc:=bc + 1; ac:=0
     if j == b.size then return dn o i j
     if bc ≥ mg then break
    else
     o:=o.push (<-elem' a i); i:=i + 1; ac:=ac + 1; bc:=0
     if i + 1 == a.size then return lA o i j
     if ac ≥ mg then break
   rule "list.sort.gallop"
   mg:=mg + 1
   for _ in [0:tot] do
    if mg > 1 then mg:=mg - 1
    setMin' mg
    let some k <-gallop' false (<-elem' b j) a i (a.size - i) 0 | return dn o i j
    ac:=k
    if k > 0 then
     o:=o ++ a.extract i (i + k); i:=i + k
     if i + 1 == a.size then return lA o i j
     if i == a.size then return dn o i j
    o:=o.push (<-elem' b j); j:=j + 1
    if j == b.size then return dn o i j
    let some k <-gallop' true (<-elem' a i) b j (b.size - j) 0 | return dn o i j
    bc:=k
    if k > 0 then
     o:=o ++ b.extract j (j + k); j:=j + k
     if j == b.size then return dn o i j
    o:=o.push (<-elem' a i); i:=i + 1
    if i + 1 == a.size then return lA o i j
    if ac < 7 && bc < 7 then break
   mg:=mg + 1
   setMin' mg
  unsupported "internal:list.sort.merge-bound"):=rfl
noncomputable def Sm (st st':SortSt):Prop:=kindOf st' = kindOf st/\arrOf st' = arrOf st/\pendingOf st' = pendingOf st/\failedOf st' = failedOf st
theorem Sm.refl (st:SortSt):Sm st st:=⟨rfl,rfl,rfl,rfl⟩
theorem wpS_setMin {st st0:SortSt} {g:Nat} {Q:Unit->SortSt->Prop} (hs:Sm st0 st) (h:∀ st',Sm st0 st'->Q () st'):wpS (model prog w) A E s (setMin' g) Q st :=
 wpS_modify (h _ ⟨hs.1,hs.2.1,hs.2.2.1,hs.2.2.2⟩)
theorem mem_dt {l:List Keyed} {i k:Nat} {y:Keyed} (h:y ∈ (l.drop i).take k):∃ t,t < k/\l[i + t]? = some y:=by
 obtain ⟨t,ht,e⟩:=List.mem_iff_getElem.mp h
 rw [List.length_take,List.length_drop] at ht
 refine ⟨t,by lia,?_⟩
 rw [List.getElem_take,List.getElem_drop] at e
 rw [<-e]
 exact List.getElem?_eq_getElem (by lia)
theorem mem_d {l:List Keyed} {i:Nat} {y:Keyed} (h:y ∈ l.drop i):∃ t,i + t < l.length/\l[i + t]? = some y:=by
 obtain ⟨t,ht,e⟩:=List.mem_iff_getElem.mp h
 rw [List.length_drop] at ht
 refine ⟨t,by lia,?_⟩
 rw [List.getElem_drop] at e
 rw [<-e]
 exact List.getElem?_eq_getElem (by lia)
theorem mem_t {l:List Keyed} {i:Nat} {y:Keyed} (h:y ∈ l.take i):∃ t,t < i/\t < l.length/\l[t]? = some y:=by
 obtain ⟨t,ht,e⟩:=List.mem_iff_getElem.mp h
 rw [List.length_take] at ht
 refine ⟨t,by lia,by lia,?_⟩
 rw [List.getElem_take] at e
 rw [<-e]
 exact List.getElem?_eq_getElem (by lia)
theorem mem_td {l:List Keyed} {i k:Nat} {y:Keyed} (h:y ∈ (l.take i).drop k):∃ t,k<=t/\t < i/\l[t]? = some y:=by
 obtain ⟨t,h1,h2⟩:=mem_d h
 rw [List.length_take] at h1
 rw [List.getElem?_take_of_lt (by lia)] at h2
 exact ⟨k + t,by lia,by lia,h2⟩
theorem sor_le {l:List Keyed} (h:Sor κ l) {i j:Nat} {p q:Keyed} (hij:i<=j) (hp:l[i]? = some p) (hq:l[j]? = some q):le κ p q:=by
 obtain ⟨h1,rfl⟩:=List.getElem?_eq_some_iff.mp hp
 obtain ⟨h2,rfl⟩:=List.getElem?_eq_some_iff.mp hq
 rcases Nat.lt_or_eq_of_le hij with z | z
 ·exact List.pairwise_iff_getElem.mp h i j h1 h2 z
 ·subst z; exact le_refl _
theorem head_le {l:List Keyed} (h:Sor κ l) {i:Nat} {p:Keyed} (hp:l[i]? = some p):∀ z ∈ l.drop i,le κ p z:=fun z hz=>by
 obtain ⟨t,_,e⟩:=mem_d hz
 exact sor_le h (Nat.le_add_right _ _) hp e
theorem ar_get {a:Array Keyed} {i:Nat} {p:Keyed}:a[i]? = some p ↔ a.toList[i]? = some p:=by rw [Array.getElem?_toList]
theorem ar_at {a:Array Keyed} {i:Nat} (h:i < a.size):∃ p,a[i]? = some p:=⟨a[i],getElem?_pos a i h⟩
theorem take1 {l:List Keyed} {i:Nat} {p:Keyed} (h:l[i]? = some p):(l.drop i).take 1 = [p]:=by
 obtain ⟨h1,rfl⟩:=List.getElem?_eq_some_iff.mp h
 rw [List.drop_eq_getElem_cons h1]
 rfl
theorem ext_list (a:Array Keyed) (i k:Nat):(a.extract i (i + k)).toList = (a.toList.drop i).take k:=by
 rw [Array.toList_extract,List.extract_eq_take_drop,Nat.add_sub_cancel_left]
theorem ext_end (a:Array Keyed) (i:Nat):(a.extract i a.size).toList = a.toList.drop i:=by
 rw [Array.toList_extract,List.extract_eq_take_drop,List.take_of_length_le]
 rw [List.length_drop,Array.length_toList]
 exact Nat.le_refl _
theorem ext_beg (a:Array Keyed) (i:Nat):(a.extract 0 i).toList = a.toList.take i:=by
 rw [Array.toList_extract,List.extract_eq_take_drop,List.drop_zero,Nat.sub_zero]
noncomputable def Rm (κ:KeyKind) (a b r:Array Keyed):Prop:=Sor κ r.toList/\r.toList.Perm (a.toList ++ b.toList)
structure Pre (κ:KeyKind) (a b:Array Keyed):Prop where
 sa:Sor κ a.toList
 sb:Sor κ b.toList
 ka:∀ (i:Nat) p,a[i]? = some p->Has κ p
 kb:∀ (i:Nat) p,b[i]? = some p->Has κ p
 na:1<=a.size
 nb:1<=b.size
 first:∀ q,b[0]? = some q->∀ z ∈ a.toList,le κ q z
 last:∀ p,a[a.size - 1]? = some p->∀ z ∈ b.toList,le κ z p
section
variable {a b o:Array Keyed} {i j k:Nat} {p q:Keyed}
theorem Pre.pushB (P:Pre κ a b) (m:ML κ a.toList b.toList o.toList i j) (hq:b[j]? = some q) (h:∀ z ∈ a.toList.drop i,le κ q z):ML κ a.toList b.toList (o.push q).toList i (j + 1):=by
 have h1:=m.addB P.sb 1 (by rw [take1 (ar_get.mp hq)]; intro y hy; rw [List.mem_singleton.mp hy]; exact h)
 rw [take1 (ar_get.mp hq)] at h1
 rw [Array.toList_push]
 exact h1
theorem Pre.pushA (P:Pre κ a b) (m:ML κ a.toList b.toList o.toList i j) (hp:a[i]? = some p) (h:∀ z ∈ b.toList.drop j,le κ p z):ML κ a.toList b.toList (o.push p).toList (i + 1) j:=by
 have h1:=m.addA P.sa 1 (by rw [take1 (ar_get.mp hp)]; intro y hy; rw [List.mem_singleton.mp hy]; exact h)
 rw [take1 (ar_get.mp hp)] at h1
 rw [Array.toList_push]
 exact h1
theorem Pre.extA (P:Pre κ a b) (m:ML κ a.toList b.toList o.toList i j) (h:∀ y ∈ (a.toList.drop i).take k,∀ z ∈ b.toList.drop j,le κ y z):ML κ a.toList b.toList (o ++ a.extract i (i + k)).toList (i + k) j:=by
 rw [Array.toList_append,ext_list]
 exact m.addA P.sa k h
theorem Pre.extB (P:Pre κ a b) (m:ML κ a.toList b.toList o.toList i j) (h:∀ y ∈ (b.toList.drop j).take k,∀ z ∈ a.toList.drop i,le κ y z):ML κ a.toList b.toList (o ++ b.extract j (j + k)).toList i (j + k):=by
 rw [Array.toList_append,ext_list]
 exact m.addB P.sb k h
theorem Pre.doneB (P:Pre κ a b) (m:ML κ a.toList b.toList o.toList i j) (hj:j = b.size):Rm κ a b (o ++ a.extract i a.size ++ b.extract j b.size):=by
 unfold Rm
 rw [Array.toList_append,Array.toList_append,ext_end,ext_end]
 refine m.endA P.sa P.sb fun y _ z hz=>?_
 rw [List.drop_eq_nil_of_le (by rw [Array.length_toList]; lia)] at hz
 exact absurd hz (by simp)
theorem Pre.doneA (P:Pre κ a b) (m:ML κ a.toList b.toList o.toList i j) (hi:i = a.size):Rm κ a b (o ++ a.extract i a.size ++ b.extract j b.size):=by
 unfold Rm
 rw [Array.toList_append,Array.toList_append,ext_end,ext_end]
 refine m.endA P.sa P.sb fun y hy z _=>?_
 rw [List.drop_eq_nil_of_le (by rw [Array.length_toList]; lia)] at hy
 exact absurd hy (by simp)
theorem Pre.lastA (P:Pre κ a b) (m:ML κ a.toList b.toList o.toList i j) (hi:i + 1 = a.size):Rm κ a b (o ++ b.extract j b.size ++ a.extract i a.size):=by
 unfold Rm
 rw [Array.toList_append,Array.toList_append,ext_end,ext_end]
 refine m.endB P.sa P.sb fun y hy z hz=>?_
 obtain ⟨t,h1,h2⟩:=mem_d hz
 rw [Array.length_toList] at h1
 have e:i + t = a.size - 1:=by lia
 rw [e] at h2
 exact P.last z (ar_get.mpr h2) y (List.mem_of_mem_drop hy)
end
theorem Sm.knd {st st':SortSt} (h:Sm st st') {k:SortKind} (hk:kindOf st = k):kindOf st' = k:=h.1.trans hk
theorem wpS_gal (C:Cmp prog w A s κ kd) {st:SortSt} {left:Bool} {ky:Keyed} {ar:Array Keyed} {bs n ht:Nat} {Q:Option Nat->SortSt->Prop} (hk:kindOf st = kd) (hky:Has κ ky)
  (hsz:bs + n<=ar.size) (hh:∀ (i:Nat) p,ar[i]? = some p->Has κ p) (hs:∀ (u v:Nat) p q,u<=v->v < n->ar[bs + u]? = some p->ar[bs + v]? = some q->le κ p q) (hht:ht < n)
  (h:∀ k,k<=n->(∀ (t:Nat) p,t < k->ar[bs + t]? = some p->PB κ left ky p = true)->(∀ (t:Nat) p,k<=t->t < n->ar[bs + t]? = some p->PB κ left ky p = false)->Q (some k) st) :
  wpS (model prog w) A E s (gallop' left ky ar bs n ht) Q st:=by
 have key:∀ t,t < n->∃ p,ar[bs + t]? = some p:=fun t ht=>ar_at (by lia)
 refine wpS_gallop C hk hky (fun t=>match ar[bs + t]? with | some p=>PB κ left ky p | none=>false) (fun i hi=>?_) (fun i j hij hj hp=>?_) hht fun k hk1 h1 h2=>?_
 ·obtain ⟨p,hp⟩:=key i hi
  exact ⟨p,hp,hh _ p hp,by rw [hp]⟩
 ·obtain ⟨p,e1⟩:=key i (by lia)
  obtain ⟨q,e2⟩:=key j hj
  rw [e2] at hp
  rw [e1]
  have l:=hs i j p q hij hj e1 e2
  dsimp only at hp ⊢
  unfold PB at hp ⊢
  cases left with
  | true =>
   simp only [if_true] at hp ⊢
   exact KeyOrd.klt_of_kle_of_klt l hp
  | false =>
   simp only [Bool.false_eq_true,if_false,Bool.not_eq_true'] at hp ⊢
   exact KeyOrd.kle_trans l hp
 ·refine h k hk1 (fun t p ht hp=>?_) fun t p ht1 ht2 hp=>?_
  ·have:=h1 t ht
   rw [hp] at this
   exact this
  ·have:=h2 t ht1 ht2
   rw [hp] at this
   exact this
theorem PB_right {ky p:Keyed} (h:PB κ false ky p = true):le κ p ky:=by
 unfold PB at h
 show κ.blt (kk κ ky) (kk κ p) = false
 simpa using h
theorem PB_right' {ky p:Keyed} (h:PB κ false ky p = false):κ.klt (kk κ ky) (kk κ p):=by
 unfold PB at h
 show κ.blt (kk κ ky) (kk κ p) = true
 simpa using h
theorem PB_left {ky p:Keyed} (h:PB κ true ky p = true):κ.klt (kk κ p) (kk κ ky):=by
 unfold PB at h
 show κ.blt (kk κ p) (kk κ ky) = true
 simpa using h
theorem PB_left' {ky p:Keyed} (h:PB κ true ky p = false):le κ ky p:=by
 unfold PB at h
 show κ.blt (kk κ p) (kk κ ky) = false
 simpa using h
section
variable {α:Type} {Q:α->SortSt->Prop} {st:SortSt}
theorem wpS_if {c:Prop} {_:Decidable c} {t e:StateT SortSt Sem α} (h1:c->wpS (model prog w) A E s t Q st) (h2:¬ c->wpS (model prog w) A E s e Q st):wpS (model prog w) A E s (if c then t else e) Q st:=by
 split
 ·rename_i h; exact h1 h
 ·rename_i h; exact h2 h
theorem wpS_ifN {x y:Nat} {t e:StateT SortSt Sem α} (h1:x = y->wpS (model prog w) A E s t Q st) (h2:x ≠ y->wpS (model prog w) A E s e Q st):wpS (model prog w) A E s (if (x == y) = true then t else e) Q st :=
 wpS_if (fun h=>h1 (eq_of_beq h)) fun h=>h2 fun z=>h (beq_iff_eq.mpr z)
theorem wpS_jp1 {c:Prop} {_:Decidable c} {t:StateT SortSt Sem α} {F:Nat->StateT SortSt Sem α} (x:Nat) {y:Nat} (h:∀ g,wpS (model prog w) A E s (F g) Q st) (e:t = F x):wpS (model prog w) A E s (if c then t else F y) Q st:=by
 subst e
 exact wpS_if (fun _=>h _) fun _=>h _
theorem wpS_jp2 {c:Prop} {_:Decidable c} {t:StateT SortSt Sem α} {F:Array Keyed->Nat->StateT SortSt Sem α} {o:Array Keyed} {i:Nat} (R:Array Keyed->Nat->Prop) (h:∀ o i,R o i->wpS (model prog w) A E s (F o i) Q st)
  (hT:(∀ o i,R o i->wpS (model prog w) A E s (F o i) Q st)->c->wpS (model prog w) A E s t Q st) (hE:¬ c->R o i):wpS (model prog w) A E s (if c then t else F o i) Q st:=wpS_if (hT h) fun z=>h _ _ (hE z)
end
theorem wpS_out {α β:Type} {r0:Sem Unit} {el:StateT SortSt Sem Keyed} {x0:Keyed} {c1 c2:Prop} {_:Decidable c1} {_:Decidable c2} {t1 t2:Keyed->StateT SortSt Sem α} {ini:Keyed->SortSt->β} {n:Nat} {f:Nat->β->StateT SortSt Sem (ForInStep β)} {g:β->StateT SortSt Sem α} {Q:α->SortSt->Prop} {st:SortSt}
  (hr:∀ R:Unit->SortSt->Prop,R () st->wpS (model prog w) A E s (liftM r0:StateT SortSt Sem Unit) R st) (he:∀ R:Keyed->SortSt->Prop,R x0 st->wpS (model prog w) A E s el R st) (h1:c1->wpS (model prog w) A E s (t1 x0) Q st) (h2:¬ c1->c2->wpS (model prog w) A E s (t2 x0) Q st)
  (h3:¬ c1->¬ c2->wpS (model prog w) A E s (forIn [0:n] (ini x0 st) f) (fun c st'=>wpS (model prog w) A E s (g c) Q st') st) :
  wpS (model prog w) A E s ((liftM r0:StateT SortSt Sem Unit) >>= fun _=>el >>= fun x=>if c1 then t1 x else if c2 then t2 x else get >>= fun st'=>forIn [0:n] (ini x st') f >>= g) Q st :=
 wpS_bind (hr _ (wpS_bind (he _ (wpS_if h1 fun z1=>wpS_if (h2 z1) fun z2=>wpS_bind (wpS_get (wpS_bind (h3 z1 z2)))))))
noncomputable def MR (κ:KeyKind) (a b:Array Keyed) (st:SortSt) {β:Type} (c:Option (Array Keyed) × β) (st':SortSt):Prop:=Sm st st'/\∃ r,c.1 = some r/\Rm κ a b r
theorem MR.mk {a b r:Array Keyed} {st st':SortSt} {β:Type} {c:β} (sm:Sm st st') (h:Rm κ a b r):MR κ a b st (some r,c) st':=⟨sm,r,rfl,h⟩
structure LoP (κ:KeyKind) (a b:Array Keyed) (n:Nat) (o:Array Keyed) (i j:Nat):Prop where
 m:ML κ a.toList b.toList o.toList i j
 hi:i + 1 < a.size
 hj:j < b.size
 hn:n<=i + j
theorem LoP.putB {a b o o':Array Keyed} {n i j:Nat} (h:LoP κ a b n o i j) (m:ML κ a.toList b.toList o'.toList i (j + 1)) (e:j + 1 ≠ b.size):LoP κ a b (n + 1) o' i (j + 1):=⟨m,h.hi,Nat.lt_of_le_of_ne h.hj e,Nat.succ_le_succ h.hn⟩
theorem LoP.putA {a b o o':Array Keyed} {n i j:Nat} (h:LoP κ a b n o i j) (m:ML κ a.toList b.toList o'.toList (i + 1) j) (e:i + 1 + 1 ≠ a.size):LoP κ a b (n + 1) o' (i + 1) j:=⟨m,Nat.lt_of_le_of_ne h.hi e,h.hj,by rw [Nat.add_right_comm]; exact Nat.succ_le_succ h.hn⟩
theorem LoP.mono {a b o:Array Keyed} {n n' i j:Nat} (h:LoP κ a b n o i j) (l:n'<=n):LoP κ a b n' o i j:=⟨h.m,h.hi,h.hj,Nat.le_trans l h.hn⟩
noncomputable def LoI1 (κ:KeyKind) (a b:Array Keyed) (st:SortSt) (n:Nat) (c:Option (Array Keyed) × Array Keyed × Nat × Nat × Nat) (st':SortSt):Prop:=Sm st st'/\∃ o i j mg,c = (none,o,i,j,mg)/\LoP κ a b n o i j
noncomputable def LoI2 (κ:KeyKind) (a b:Array Keyed) (st:SortSt) (n:Nat) (c:Option (Array Keyed) × Array Keyed × Nat × Nat × Nat × Nat) (st':SortSt):Prop:=Sm st st'/\∃ o i j ac bc,c = (none,o,i,j,ac,bc)/\LoP κ a b n o i j
noncomputable def LoI3 (κ:KeyKind) (a b:Array Keyed) (st:SortSt) (n:Nat) (c:Option (Array Keyed) × Array Keyed × Nat × Nat × Nat × Nat × Nat) (st':SortSt):Prop:=Sm st st'/\∃ o i j mg ac bc,c = (none,o,i,j,mg,ac,bc)/\LoP κ a b n o i j
theorem LoI2.mk {a b o:Array Keyed} {st st':SortSt} {n i j ac bc:Nat} (sm:Sm st st') (h:LoP κ a b n o i j):LoI2 κ a b st n (none,o,i,j,ac,bc) st':=⟨sm,_,_,_,_,_,rfl,h⟩
theorem LoI3.mk {a b o:Array Keyed} {st st':SortSt} {n i j mg ac bc:Nat} (sm:Sm st st') (h:LoP κ a b n o i j):LoI3 κ a b st n (none,o,i,j,mg,ac,bc) st':=⟨sm,_,_,_,_,_,_,rfl,h⟩
theorem wpS_mergeLo (C:Cmp prog w A s κ kd) {st:SortSt} {a b:Array Keyed} {Q:Array Keyed->SortSt->Prop} (hk:kindOf st = kd) (P:Pre κ a b)
  (h:∀ r st',Sm st st'->Rm κ a b r->Q r st'):wpS (model prog w) A E s (mergeLo' a b) Q st:=by
 rw [mergeLo'_eq]
 obtain ⟨b0,hb0⟩:=ar_at (a:=b) (i:=0) P.nb
 have m0:ML κ a.toList b.toList (#[]:Array Keyed).toList 0 0:=⟨by simp,List.Pairwise.nil,fun x hx=>absurd hx (by simp),fun x hx=>absurd hx (by simp)⟩
 have m1:ML κ a.toList b.toList (#[b0]:Array Keyed).toList 0 1:=by
  have:=P.pushB m0 hb0 (by rw [List.drop_zero]; exact P.first b0 hb0)
  simpa using this
 apply wpS_out (x0:=b0) (fun R z=>wpS_lift (wpAny_rule ⟨rfl,z⟩)) (fun R z=>wpS_elem hb0 z)
 case h1=>exact fun hb1=>wpS_pure (h _ _ (Sm.refl _) (P.doneB m1 (eq_of_beq hb1)))
 case h2=>exact fun _ ha1=>wpS_pure (h _ _ (Sm.refl _) (P.lastA m1 (eq_of_beq ha1)))
 intro hb1 ha1
 have p1:LoP κ a b 1 #[b0] 0 1:=⟨m1,Nat.lt_of_le_of_ne P.na fun z=>ha1 (beq_iff_eq.mpr z),Nat.lt_of_le_of_ne P.nb fun z=>hb1 (beq_iff_eq.mpr z),Nat.le_refl _⟩
 refine wpS_mono (wpS_forRange (I:=fun x=>LoI1 κ a b st (x + 1)) (Q:=MR κ a b st) ?st ?en ⟨Sm.refl _,_,_,_,_,rfl,p1⟩) ?po
 case po =>
  rintro ⟨c1,c2⟩ st' ⟨sm,r,e,hr⟩
  cases e
  exact wpS_pure (h r st' sm hr)
 case en =>
  rintro c st' ⟨sm,o,i,j,mg,rfl,p⟩
  obtain ⟨_,h1,h2,h3⟩:=p
  exfalso
  lia
 case st =>
  rintro x c st' _ hx ⟨sm,o,i,j,mg,rfl,p⟩
  refine wpS_bind (wpS_mono (wpS_forRange (I:=fun _=>LoI2 κ a b st (x + 1)) (Q:=fun c st'=>MR κ a b st c st'\/LoI2 κ a b st (x + 1) c st') ?st1 ?en1 (LoI2.mk sm p)) ?po1)
  case en1=>exact fun c st2 z=>.inr z
  case st1 =>
   rintro x2 c st2 _ _ ⟨sm2,o,i',j',ac,bc,rfl,p2⟩
   obtain ⟨bj,hbj⟩:=ar_at (a:=b) (i:=j') p2.hj
   obtain ⟨ai,hai⟩:=ar_at (a:=a) (i:=i') (Nat.lt_of_succ_lt p2.hi)
   refine wpS_bind (wpS_elem hbj (wpS_bind (wpS_elem hai (wpS_bind (wpS_lt C (sm2.knd hk) (P.kb _ _ hbj) (P.ka _ _ hai) ?_)))))
   refine wpS_if (fun hlt=>wpS_bind (wpS_elem hbj ?_)) fun hlt=>wpS_bind (wpS_elem hai ?_)
   ·have m3:=P.pushB p2.m hbj fun z hz=>le_trans (KeyOrd.kle_of_klt hlt) (head_le P.sa (ar_get.mp hai) z hz)
    refine wpS_ifN (fun e1=>wpS_pure (.inl (MR.mk sm2 (P.doneB m3 e1)))) fun e1=>?_
    have p3:=(p2.putB m3 e1).mono (Nat.le_succ _)
    exact wpS_if (fun _=>wpS_pure (.inr (LoI2.mk sm2 p3))) fun _=>wpS_pure (LoI2.mk sm2 p3)
   ·have m3:=P.pushA p2.m hai fun z hz=>le_trans (show le κ ai bj from Bool.eq_false_iff.mpr hlt) (head_le P.sb (ar_get.mp hbj) z hz)
    refine wpS_ifN (fun e1=>wpS_pure (.inl (MR.mk sm2 (P.lastA m3 e1)))) fun e1=>?_
    have p3:=(p2.putA m3 e1).mono (Nat.le_succ _)
    exact wpS_if (fun _=>wpS_pure (.inr (LoI2.mk sm2 p3))) fun _=>wpS_pure (LoI2.mk sm2 p3)
  case po1 =>
   rintro ⟨c1,c2⟩ st2 (⟨sm2,r,e,hr⟩ | ⟨sm2,o2,i2,j2,ac,bc,e,p2⟩)
   ·cases e
    exact wpS_pure (MR.mk sm2 hr)
   ·cases e
    refine wpS_bind (wpS_lift (wpAny_rule ⟨rfl,?_⟩))
    refine wpS_bind (wpS_mono (wpS_forRange (I:=fun x3=>LoI3 κ a b st (x + 1 + x3)) (Q:=fun c st'=>MR κ a b st c st'\/LoI3 κ a b st (x + 1 + 1) c st') ?st2 ?en2 (LoI3.mk sm2 p2)) ?po2)
    case en2 =>
     rintro c st3 ⟨sm3,o',i',j',mg',ac,bc,rfl,p3⟩
     refine .inr (LoI3.mk sm3 (p3.mono ?_))
     have:=P.na
     lia
    case po2 =>
     rintro ⟨c1,c2⟩ st3 (⟨sm3,r,e,hr⟩ | ⟨sm3,o',i',j',mg',ac,bc,e,p3⟩)
     ·cases e
      exact wpS_pure (MR.mk sm3 hr)
     ·cases e
      refine wpS_bind (wpS_setMin sm3 fun st4 sm4=>?_)
      exact wpS_pure ⟨sm4,_,_,_,_,rfl,p3⟩
    case st2 =>
     rintro x3 c st3 _ _ ⟨sm3,o3,i3,j3,mg3,ac3,bc3,rfl,p3⟩
     obtain ⟨bj,hbj⟩:=ar_at (a:=b) (i:=j3) p3.hj
     have hi3:i3 + (a.size - i3)<=a.size:=by rw [Nat.add_sub_cancel' (Nat.le_of_lt (Nat.lt_of_succ_lt p3.hi))]; exact Nat.le_refl _
     have hj3:=p3.hj
     apply wpS_jp1 (mg3 - 1) (y:=mg3)
     case e=>exact rfl
     intro g
     refine wpS_bind (wpS_setMin sm3 fun st4 sm4=>?_)
     refine wpS_bind (wpS_elem hbj (wpS_bind (wpS_gal C (sm4.knd hk) (P.kb _ _ hbj) hi3 P.ka (fun u v p q huv _ e1 e2=>sor_le P.sa (Nat.add_le_add_left huv _) (ar_get.mp e1) (ar_get.mp e2)) (Nat.sub_pos_of_lt (Nat.lt_of_succ_lt p3.hi)) fun k hk1 k1 k2=>?_)))
     have m4:ML κ a.toList b.toList (o3 ++ a.extract i3 (i3 + k)).toList (i3 + k) j3:=P.extA p3.m fun y hy z hz=>by
      obtain ⟨t,ht,e⟩:=mem_dt hy
      exact le_trans (PB_right (k1 t y ht (ar_get.mpr e))) (head_le P.sb (ar_get.mp hbj) z hz)
     have hbz:∀ z ∈ a.toList.drop (i3 + k),le κ bj z:=fun z hz=>by
      obtain ⟨t,ht,e⟩:=mem_d hz
      rw [Array.length_toList] at ht
      exact KeyOrd.kle_of_klt (PB_right' (k2 (k + t) z (Nat.le_add_right _ _) (by lia) (by rw [<-Nat.add_assoc]; exact ar_get.mpr e)))
     apply wpS_jp2 (o:=o3) (i:=i3) (fun o i=>LoP κ a b (x + 1 + x3) o i j3/\∀ z ∈ a.toList.drop i,le κ bj z)
     ·rintro o4 i4 ⟨p4,hbz⟩
      refine wpS_bind (wpS_elem hbj ?_)
      have m5:=P.pushB p4.m hbj hbz
      refine wpS_ifN (fun e3=>wpS_pure (.inl (MR.mk sm4 (P.doneB m5 e3)))) fun e3=>?_
      have p5:=p4.putB m5 e3
      generalize o4.push bj = o5 at m5 p5 ⊢
      generalize j3 + 1 = j5 at m5 p5 ⊢
      obtain ⟨ai,hai⟩:=ar_at (a:=a) (i:=i4) (Nat.lt_of_succ_lt p5.hi)
      refine wpS_bind (wpS_elem hai (wpS_bind (wpS_gal C (sm4.knd hk) (P.ka _ _ hai) (by rw [Nat.add_sub_cancel' (Nat.le_of_lt p5.hj)]; exact Nat.le_refl _) P.kb (fun u v p q huv _ e1 e2=>sor_le P.sb (Nat.add_le_add_left huv _) (ar_get.mp e1) (ar_get.mp e2)) (Nat.sub_pos_of_lt p5.hj) fun k' hk1' k1' k2'=>?_)))
      have haz:∀ z ∈ b.toList.drop (j5 + k'),le κ ai z:=fun z hz=>by
       obtain ⟨t,ht,e⟩:=mem_d hz
       rw [Array.length_toList] at ht
       exact PB_left' (k2' (k' + t) z (Nat.le_add_right _ _) (by lia) (by rw [<-Nat.add_assoc]; exact ar_get.mpr e))
      apply wpS_jp2 (o:=o5) (i:=j5) (fun o j=>LoP κ a b (x + 1 + x3 + 1) o i4 j/\∀ z ∈ b.toList.drop j,le κ ai z)
      ·rintro o6 j6 ⟨p6,haz⟩
       refine wpS_bind (wpS_elem hai ?_)
       have m7:=P.pushA p6.m hai haz
       refine wpS_ifN (fun e5=>wpS_pure (.inl (MR.mk sm4 (P.lastA m7 e5)))) fun e5=>?_
       have p7:=p6.putA m7 e5
       exact wpS_if (fun _=>wpS_pure (.inr (LoI3.mk sm4 (p7.mono (by lia))))) fun _=>wpS_pure (LoI3.mk sm4 (p7.mono (by lia)))
      ·intro hF hk0
       have m6:ML κ a.toList b.toList (o5 ++ b.extract j5 (j5 + k')).toList i4 (j5 + k'):=P.extB m5 fun y hy z hz=>by
        obtain ⟨t,ht,e⟩:=mem_dt hy
        exact le_trans (KeyOrd.kle_of_klt (PB_left (k1' t y ht (ar_get.mpr e)))) (head_le P.sa (ar_get.mp hai) z hz)
       have hj5:=p5.hj
       exact wpS_ifN (fun e4=>wpS_pure (.inl (MR.mk sm4 (P.doneB m6 e4)))) fun e4=>hF _ _ ⟨⟨m6,p5.hi,by lia,Nat.le_trans p5.hn (by lia)⟩,haz⟩
      ·intro hk0
       have z0:k' = 0:=Nat.eq_zero_of_not_pos hk0
       subst z0
       exact ⟨p5,haz⟩
     ·intro hF hk0
      have hi:=p3.hi
      exact wpS_ifN (fun e1=>wpS_pure (.inl (MR.mk sm4 (P.lastA m4 e1)))) fun e1=>wpS_ifN (fun e2=>wpS_pure (.inl (MR.mk sm4 (P.doneA m4 e2)))) fun e2=>hF _ _ ⟨⟨m4,by lia,p3.hj,Nat.le_trans p3.hn (by lia)⟩,hbz⟩
     ·intro hk0
      have z0:k = 0:=Nat.eq_zero_of_not_pos hk0
      subst z0
      exact ⟨p3,hbz⟩
end
end TS
namespace TS
open PySem PyProof.Rows
section
variable {prog:Program} {w:World} {A:Around} {E:Value->Shared->Prop} {s:Shared} {κ:KeyKind} {kd:SortKind}
noncomputable def mergeHi':Array Keyed->Array Keyed->StateT SortSt Sem (Array Keyed):=sortPriv% PySem.Builtin.mergeHi
theorem mergeHi'_eq (a b:Array Keyed):mergeHi' a b = (do
  rule "list.sort.merge-hi"
  let tot:=a.size + b.size
  let dn (o:Array Keyed) (i j:Nat):=a.extract 0 i ++ b.extract 0 j ++ o.reverse
  let fB (o:Array Keyed) (i j:Nat):=b.extract 0 j ++ a.extract 0 i ++ o.reverse
  let mut i:=a.size - 1
  let mut j:=b.size
  let mut o:Array Keyed:=#[<-elem' a i]
  if i == 0 then return dn o i j
  if j == 1 then return fB o i j
  let mut mg:=gallopOf (<-get)
  for _ in [0:tot] do
   let mut ac:=0
   let mut bc:=0
   for _ in [0:tot] do
    let some aw <-lt' (<-elem' b (j - 1)) (<-elem' a (i - 1)) | return dn o i j
    if aw then
     i:=i - 1; o:=o.push (<-elem' a i); ac:=ac + 1; bc:=0
     if i == 0 then return dn o i j
     if ac ≥ mg then break
    else
     j:=j - 1; o:=o.push (<-elem' b j); bc:=bc + 1; ac:=0
     if j == 1 then return fB o i j
     if bc ≥ mg then break
   rule "list.sort.gallop"
   mg:=mg + 1
   for _ in [0:tot] do
    if mg > 1 then mg:=mg - 1
    setMin' mg
    let some at_ <-gallop' false (<-elem' b (j - 1)) a 0 i (i - 1) | return dn o i j
    let k:=i - at_
    ac:=k
    if k > 0 then
     o:=o ++ (a.extract at_ i).reverse; i:=at_
     if i == 0 then return dn o i j
    j:=j - 1; o:=o.push (<-elem' b j)
    if j == 1 then return fB o i j
    let some at_ <-gallop' true (<-elem' a (i - 1)) b 0 j (j - 1) | return dn o i j
    let k:=j - at_
    bc:=k
    if k > 0 then
     o:=o ++ (b.extract at_ j).reverse; j:=at_
     if j == 1 then return fB o i j
     if j == 0 then return dn o i j
    i:=i - 1; o:=o.push (<-elem' a i)
    if i == 0 then return dn o i j
    if ac < 7 && bc < 7 then break
   mg:=mg + 1
   setMin' mg
  unsupported "internal:list.sort.merge-bound"):=rfl
noncomputable abbrev MHa (κ:KeyKind) (a b o:Array Keyed) (i j:Nat):Prop:=MH κ a.toList b.toList o.toList.reverse i j
section
variable {a b o:Array Keyed} {i j k:Nat} {p q:Keyed}
theorem td1 {l:List Keyed} {i:Nat} {p:Keyed} (hi:1<=i) (h:l[i - 1]? = some p):(l.take i).drop (i - 1) = [p]:=by
 rw [List.drop_take,show i - (i - 1) = 1 by lia]
 exact take1 h
theorem ext_mid (a:Array Keyed) (k i:Nat):(a.extract k i).toList = (a.toList.take i).drop k:=by
 rw [Array.toList_extract,List.extract_eq_take_drop,List.drop_take]
theorem last_le {l:List Keyed} (h:Sor κ l) {i:Nat} {p:Keyed} (hp:l[i - 1]? = some p):∀ z ∈ l.take i,le κ z p:=fun z hz=>by
 obtain ⟨t,h1,_,e⟩:=mem_t hz
 exact sor_le h (by lia) e hp
theorem Pre.hpA (P:Pre κ a b) (m:MHa κ a b o i j) (hi:1<=i) (hp:a[i - 1]? = some p) (h:∀ z ∈ b.toList.take j,le κ z p):MHa κ a b (o.push p) (i - 1) j:=by
 have h1:=m.addA P.sa (i - 1) (by lia) (by rw [td1 hi (ar_get.mp hp)]; intro y hy; rw [List.mem_singleton.mp hy]; exact h)
 rw [td1 hi (ar_get.mp hp)] at h1
 unfold MHa
 rw [Array.toList_push,List.reverse_append]
 exact h1
theorem Pre.hpB (P:Pre κ a b) (m:MHa κ a b o i j) (hj:1<=j) (hq:b[j - 1]? = some q) (h:∀ z ∈ a.toList.take i,le κ z q):MHa κ a b (o.push q) i (j - 1):=by
 have h1:=m.addB P.sb (j - 1) (by lia) (by rw [td1 hj (ar_get.mp hq)]; intro y hy; rw [List.mem_singleton.mp hy]; exact h)
 rw [td1 hj (ar_get.mp hq)] at h1
 unfold MHa
 rw [Array.toList_push,List.reverse_append]
 exact h1
theorem Pre.heA (P:Pre κ a b) (m:MHa κ a b o i j) (hk:k<=i) (h:∀ y ∈ (a.toList.take i).drop k,∀ z ∈ b.toList.take j,le κ z y):MHa κ a b (o ++ (a.extract k i).reverse) k j:=by
 unfold MHa
 rw [Array.toList_append,Array.toList_reverse,List.reverse_append,List.reverse_reverse,ext_mid]
 exact m.addA P.sa k hk h
theorem Pre.heB (P:Pre κ a b) (m:MHa κ a b o i j) (hk:k<=j) (h:∀ y ∈ (b.toList.take j).drop k,∀ z ∈ a.toList.take i,le κ z y):MHa κ a b (o ++ (b.extract k j).reverse) i k:=by
 unfold MHa
 rw [Array.toList_append,Array.toList_reverse,List.reverse_append,List.reverse_reverse,ext_mid]
 exact m.addB P.sb k hk h
theorem Pre.hdA (P:Pre κ a b) (m:MHa κ a b o i j) (hi:i = 0):Rm κ a b (a.extract 0 i ++ b.extract 0 j ++ o.reverse):=by
 unfold Rm
 rw [Array.toList_append,Array.toList_append,Array.toList_reverse,ext_beg,ext_beg]
 refine m.endA P.sa P.sb fun y hy z _=>?_
 rw [hi,List.take_zero] at hy
 exact absurd hy (by simp)
theorem Pre.hdB (P:Pre κ a b) (m:MHa κ a b o i j) (hj:j = 0):Rm κ a b (a.extract 0 i ++ b.extract 0 j ++ o.reverse):=by
 unfold Rm
 rw [Array.toList_append,Array.toList_append,Array.toList_reverse,ext_beg,ext_beg]
 refine m.endA P.sa P.sb fun y _ z hz=>?_
 rw [hj,List.take_zero] at hz
 exact absurd hz (by simp)
theorem Pre.hfB (P:Pre κ a b) (m:MHa κ a b o i j) (hj:j = 1):Rm κ a b (b.extract 0 j ++ a.extract 0 i ++ o.reverse):=by
 unfold Rm
 rw [Array.toList_append,Array.toList_append,Array.toList_reverse,ext_beg,ext_beg]
 refine m.endB P.sa P.sb fun y hy z hz=>?_
 obtain ⟨t,h1,_,e⟩:=mem_t hy
 have e0:t = 0:=by lia
 rw [e0] at e
 exact P.first y (ar_get.mpr e) z (List.mem_of_mem_take hz)
end
structure HiP (κ:KeyKind) (a b:Array Keyed) (n:Nat) (o:Array Keyed) (i j:Nat):Prop where
 m:MHa κ a b o i j
 hi:1<=i
 hj:2<=j
 ia:i<=a.size
 jb:j<=b.size
 hn:n + i + j<=a.size + b.size
theorem HiP.putA {a b o o':Array Keyed} {n i j:Nat} (h:HiP κ a b n o i j) (m:MHa κ a b o' (i - 1) j) (e:i - 1 ≠ 0):HiP κ a b (n + 1) o' (i - 1) j:=by
 obtain ⟨_,h1,h2,h3,h4,h5⟩:=h
 exact ⟨m,by lia,h2,by lia,h4,by lia⟩
theorem HiP.putB {a b o o':Array Keyed} {n i j:Nat} (h:HiP κ a b n o i j) (m:MHa κ a b o' i (j - 1)) (e:j - 1 ≠ 1):HiP κ a b (n + 1) o' i (j - 1):=by
 obtain ⟨_,h1,h2,h3,h4,h5⟩:=h
 exact ⟨m,h1,by lia,h3,by lia,by lia⟩
theorem HiP.mono {a b o:Array Keyed} {n n' i j:Nat} (h:HiP κ a b n o i j) (l:n'<=n):HiP κ a b n' o i j:=⟨h.m,h.hi,h.hj,h.ia,h.jb,Nat.le_trans (Nat.add_le_add_right (Nat.add_le_add_right l _) _) h.hn⟩
theorem HiP.la {a b o:Array Keyed} {n i j:Nat} (h:HiP κ a b n o i j):i - 1 < a.size:=Nat.lt_of_lt_of_le (Nat.sub_lt h.hi (Nat.zero_lt_one)) h.ia
theorem HiP.lb {a b o:Array Keyed} {n i j:Nat} (h:HiP κ a b n o i j):j - 1 < b.size:=Nat.lt_of_lt_of_le (Nat.sub_lt (Nat.lt_of_succ_lt h.hj) (Nat.zero_lt_one)) h.jb
theorem HiP.hj1 {a b o:Array Keyed} {n i j:Nat} (h:HiP κ a b n o i j):1<=j:=Nat.le_of_succ_le h.hj
noncomputable def HiI1 (κ:KeyKind) (a b:Array Keyed) (st:SortSt) (n:Nat) (c:Option (Array Keyed) × Nat × Nat × Array Keyed × Nat) (st':SortSt):Prop:=Sm st st'/\∃ i j o mg,c = (none,i,j,o,mg)/\HiP κ a b n o i j
noncomputable def HiI2 (κ:KeyKind) (a b:Array Keyed) (st:SortSt) (n:Nat) (c:Option (Array Keyed) × Nat × Nat × Array Keyed × Nat × Nat) (st':SortSt):Prop:=Sm st st'/\∃ i j o ac bc,c = (none,i,j,o,ac,bc)/\HiP κ a b n o i j
noncomputable def HiI3 (κ:KeyKind) (a b:Array Keyed) (st:SortSt) (n:Nat) (c:Option (Array Keyed) × Nat × Nat × Array Keyed × Nat × Nat × Nat) (st':SortSt):Prop:=Sm st st'/\∃ i j o mg ac bc,c = (none,i,j,o,mg,ac,bc)/\HiP κ a b n o i j
theorem HiI2.mk {a b o:Array Keyed} {st st':SortSt} {n i j ac bc:Nat} (sm:Sm st st') (h:HiP κ a b n o i j):HiI2 κ a b st n (none,i,j,o,ac,bc) st':=⟨sm,_,_,_,_,_,rfl,h⟩
theorem HiI3.mk {a b o:Array Keyed} {st st':SortSt} {n i j mg ac bc:Nat} (sm:Sm st st') (h:HiP κ a b n o i j):HiI3 κ a b st n (none,i,j,o,mg,ac,bc) st':=⟨sm,_,_,_,_,_,_,rfl,h⟩
theorem wpS_mergeHi (C:Cmp prog w A s κ kd) {st:SortSt} {a b:Array Keyed} {Q:Array Keyed->SortSt->Prop} (hk:kindOf st = kd) (P:Pre κ a b)
  (h:∀ r st',Sm st st'->Rm κ a b r->Q r st'):wpS (model prog w) A E s (mergeHi' a b) Q st:=by
 rw [mergeHi'_eq]
 have hna:=P.na
 have hnb:=P.nb
 obtain ⟨b0,hb0⟩:=ar_at (a:=a) (i:=a.size - 1) (Nat.sub_lt hna Nat.zero_lt_one)
 have m0:MHa κ a b (#[]:Array Keyed) a.size b.size:=⟨by simp,List.Pairwise.nil,fun x hx=>absurd hx (by simp),fun x hx=>absurd hx (by simp)⟩
 have m1:MHa κ a b (#[b0]:Array Keyed) (a.size - 1) b.size:=by
  have:=P.hpA m0 hna hb0 (fun z hz=>P.last b0 hb0 z (List.mem_of_mem_take hz))
  simpa using this
 apply wpS_out (x0:=b0) (fun R z=>wpS_lift (wpAny_rule ⟨rfl,z⟩)) (fun R z=>wpS_elem hb0 z)
 case h1=>exact fun ha1=>wpS_pure (h _ _ (Sm.refl _) (P.hdA m1 (eq_of_beq ha1)))
 case h2=>exact fun _ hb1=>wpS_pure (h _ _ (Sm.refl _) (P.hfB m1 (eq_of_beq hb1)))
 intro ha1 hb1
 have ha1:¬ a.size - 1 = 0:=fun z=>ha1 (beq_iff_eq.mpr z)
 have hb1:¬ b.size = 1:=fun z=>hb1 (beq_iff_eq.mpr z)
 have p1:HiP κ a b 1 #[b0] (a.size - 1) b.size:=⟨m1,by lia,by lia,by lia,by lia,by lia⟩
 refine wpS_mono (wpS_forRange (I:=fun x=>HiI1 κ a b st (x + 1)) (Q:=MR κ a b st) ?st ?en ⟨Sm.refl _,_,_,_,_,rfl,p1⟩) ?po
 case po =>
  rintro ⟨c1,c2⟩ st' ⟨sm,r,e,hr⟩
  cases e
  exact wpS_pure (h r st' sm hr)
 case en =>
  rintro c st' ⟨sm,i,j,o,mg,rfl,p⟩
  obtain ⟨_,h1,h2,_,_,h3⟩:=p
  exfalso
  lia
 case st =>
  rintro x c st' _ hx ⟨sm,i,j,o,mg,rfl,p⟩
  refine wpS_bind (wpS_mono (wpS_forRange (I:=fun _=>HiI2 κ a b st (x + 1)) (Q:=fun c st'=>MR κ a b st c st'\/HiI2 κ a b st (x + 1) c st') ?st1 ?en1 (HiI2.mk sm p)) ?po1)
  case en1=>exact fun c st2 z=>.inr z
  case st1 =>
   rintro x2 c st2 _ _ ⟨sm2,i',j',o,ac,bc,rfl,p2⟩
   obtain ⟨bj,hbj⟩:=ar_at (a:=b) (i:=j' - 1) p2.lb
   obtain ⟨ai,hai⟩:=ar_at (a:=a) (i:=i' - 1) p2.la
   refine wpS_bind (wpS_elem hbj (wpS_bind (wpS_elem hai (wpS_bind (wpS_lt C (sm2.knd hk) (P.kb _ _ hbj) (P.ka _ _ hai) ?_)))))
   refine wpS_if (fun hlt=>wpS_bind (wpS_elem hai ?_)) fun hlt=>wpS_bind (wpS_elem hbj ?_)
   ·have m3:=P.hpA p2.m p2.hi hai fun z hz=>le_trans (last_le P.sb (ar_get.mp hbj) z hz) (KeyOrd.kle_of_klt hlt)
    refine wpS_ifN (fun e1=>wpS_pure (.inl (MR.mk sm2 (P.hdA m3 e1)))) fun e1=>?_
    have p3:=(p2.putA m3 e1).mono (Nat.le_succ _)
    exact wpS_if (fun _=>wpS_pure (.inr (HiI2.mk sm2 p3))) fun _=>wpS_pure (HiI2.mk sm2 p3)
   ·have m3:=P.hpB p2.m p2.hj1 hbj fun z hz=>le_trans (last_le P.sa (ar_get.mp hai) z hz) (show le κ ai bj from Bool.eq_false_iff.mpr hlt)
    refine wpS_ifN (fun e1=>wpS_pure (.inl (MR.mk sm2 (P.hfB m3 e1)))) fun e1=>?_
    have p3:=(p2.putB m3 e1).mono (Nat.le_succ _)
    exact wpS_if (fun _=>wpS_pure (.inr (HiI2.mk sm2 p3))) fun _=>wpS_pure (HiI2.mk sm2 p3)
  case po1 =>
   rintro ⟨c1,c2⟩ st2 (⟨sm2,r,e,hr⟩ | ⟨sm2,i2,j2,o2,ac,bc,e,p2⟩)
   ·cases e
    exact wpS_pure (MR.mk sm2 hr)
   ·cases e
    refine wpS_bind (wpS_lift (wpAny_rule ⟨rfl,?_⟩))
    refine wpS_bind (wpS_mono (wpS_forRange (I:=fun x3=>HiI3 κ a b st (x + 1 + x3)) (Q:=fun c st'=>MR κ a b st c st'\/HiI3 κ a b st (x + 1 + 1) c st') ?st2 ?en2 (HiI3.mk sm2 p2)) ?po2)
    case en2 =>
     rintro c st3 ⟨sm3,i',j',o',mg',ac,bc,rfl,p3⟩
     exact .inr (HiI3.mk sm3 (p3.mono (by lia)))
    case po2 =>
     rintro ⟨c1,c2⟩ st3 (⟨sm3,r,e,hr⟩ | ⟨sm3,i',j',o',mg',ac,bc,e,p3⟩)
     ·cases e
      exact wpS_pure (MR.mk sm3 hr)
     ·cases e
      refine wpS_bind (wpS_setMin sm3 fun st4 sm4=>?_)
      exact wpS_pure ⟨sm4,_,_,_,_,rfl,p3⟩
    case st2 =>
     rintro x3 c st3 _ _ ⟨sm3,i3,j3,o3,mg3,ac3,bc3,rfl,p3⟩
     obtain ⟨bj,hbj⟩:=ar_at (a:=b) (i:=j3 - 1) p3.lb
     apply wpS_jp1 (mg3 - 1) (y:=mg3)
     case e=>exact rfl
     intro g
     refine wpS_bind (wpS_setMin sm3 fun st4 sm4=>?_)
     refine wpS_bind (wpS_elem hbj (wpS_bind (wpS_gal C (sm4.knd hk) (P.kb _ _ hbj) (by rw [Nat.zero_add]; exact p3.ia) P.ka (fun u v p q huv _ e1 e2=>sor_le P.sa (Nat.add_le_add_left huv _) (ar_get.mp e1) (ar_get.mp e2)) (Nat.sub_lt p3.hi Nat.zero_lt_one) fun k hk1 k1 k2=>?_)))
     dsimp only
     have m4:MHa κ a b (o3 ++ (a.extract k i3).reverse) k j3:=P.heA p3.m hk1 fun y hy z hz=>by
      obtain ⟨t,ht1,ht2,e⟩:=mem_td hy
      exact le_trans (last_le P.sb (ar_get.mp hbj) z hz) (KeyOrd.kle_of_klt (PB_right' (k2 t y ht1 ht2 (by rw [Nat.zero_add]; exact ar_get.mpr e))))
     have hbz:∀ z ∈ a.toList.take k,le κ z bj:=fun z hz=>by
      obtain ⟨t,ht,_,e⟩:=mem_t hz
      exact PB_right (k1 t z ht (by rw [Nat.zero_add]; exact ar_get.mpr e))
     generalize hd:i3 - k = d
     apply wpS_jp2 (o:=o3) (i:=i3) (fun o i=>HiP κ a b (x + 1 + x3) o i j3/\∀ z ∈ a.toList.take i,le κ z bj)
     ·rintro o4 i4 ⟨p4,hbz⟩
      refine wpS_bind (wpS_elem hbj ?_)
      have m5:=P.hpB p4.m p4.hj1 hbj hbz
      refine wpS_ifN (fun e3=>wpS_pure (.inl (MR.mk sm4 (P.hfB m5 e3)))) fun e3=>?_
      have p5:=p4.putB m5 e3
      generalize o4.push bj = o5 at m5 p5 ⊢
      generalize j3 - 1 = j5 at m5 p5 ⊢
      obtain ⟨ai,hai⟩:=ar_at (a:=a) (i:=i4 - 1) p5.la
      refine wpS_bind (wpS_elem hai (wpS_bind (wpS_gal C (sm4.knd hk) (P.ka _ _ hai) (by rw [Nat.zero_add]; exact p5.jb) P.kb (fun u v p q huv _ e1 e2=>sor_le P.sb (Nat.add_le_add_left huv _) (ar_get.mp e1) (ar_get.mp e2)) (Nat.sub_lt p5.hj1 Nat.zero_lt_one) fun k' hk1' k1' k2'=>?_)))
      dsimp only
      have haz:∀ z ∈ b.toList.take k',le κ z ai:=fun z hz=>by
       obtain ⟨t,ht,_,e⟩:=mem_t hz
       exact KeyOrd.kle_of_klt (PB_left (k1' t z ht (by rw [Nat.zero_add]; exact ar_get.mpr e)))
      generalize hd':j5 - k' = d'
      apply wpS_jp2 (o:=o5) (i:=j5) (fun o j=>HiP κ a b (x + 1 + x3 + 1) o i4 j/\∀ z ∈ b.toList.take j,le κ z ai)
      ·rintro o6 j6 ⟨p6,haz⟩
       refine wpS_bind (wpS_elem hai ?_)
       have m7:=P.hpA p6.m p6.hi hai haz
       refine wpS_ifN (fun e5=>wpS_pure (.inl (MR.mk sm4 (P.hdA m7 e5)))) fun e5=>?_
       have p7:=p6.putA m7 e5
       exact wpS_if (fun _=>wpS_pure (.inr (HiI3.mk sm4 (p7.mono (by lia))))) fun _=>wpS_pure (HiI3.mk sm4 (p7.mono (by lia)))
      ·intro hF hk0
       have m6:MHa κ a b (o5 ++ (b.extract k' j5).reverse) i4 k':=P.heB m5 hk1' fun y hy z hz=>by
        obtain ⟨t,ht1,ht2,e⟩:=mem_td hy
        exact le_trans (last_le P.sa (ar_get.mp hai) z hz) (PB_left' (k2' t y ht1 ht2 (by rw [Nat.zero_add]; exact ar_get.mpr e)))
       obtain ⟨_,h1,h2,h3,h4,h5⟩:=p5
       exact wpS_ifN (fun e4=>wpS_pure (.inl (MR.mk sm4 (P.hfB m6 e4)))) fun e4=>wpS_ifN (fun e5=>wpS_pure (.inl (MR.mk sm4 (P.hdB m6 e5)))) fun e5=>hF _ _ ⟨⟨m6,h1,by lia,h3,Nat.le_trans hk1' h4,by lia⟩,haz⟩
      ·intro hk0
       have z0:k' = j5:=Nat.le_antisymm hk1' (Nat.le_of_sub_eq_zero (hd'.trans (Nat.eq_zero_of_not_pos hk0)))
       subst z0
       exact ⟨p5,haz⟩
     ·intro hF hk0
      obtain ⟨_,h1,h2,h3,h4,h5⟩:=p3
      exact wpS_ifN (fun e1=>wpS_pure (.inl (MR.mk sm4 (P.hdA m4 e1)))) fun e1=>hF _ _ ⟨⟨m4,by lia,h2,Nat.le_trans hk1 h3,h4,by lia⟩,hbz⟩
     ·intro hk0
      have z0:k = i3:=Nat.le_antisymm hk1 (Nat.le_of_sub_eq_zero (hd.trans (Nat.eq_zero_of_not_pos hk0)))
      subst z0
      exact ⟨p3,hbz⟩
end
end TS
namespace TS
open PySem PyProof.Rows
section
variable {prog:Program} {w:World} {A:Around} {E:Value->Shared->Prop} {s:Shared} {κ:KeyKind} {kd:SortKind}
noncomputable def seg (l:List Keyed) (lo n:Nat):List Keyed:=(l.drop lo).take n
theorem foldl_set (m:List Keyed) (lo:Nat):∀ (n:Nat) (a:Array Keyed),lo + n + m.length<=a.size ->
  ((m.zipIdx n).foldl (fun a (x:Keyed × Nat)=>a.setIfInBounds (lo + x.2) x.1) a).size = a.size /\
  ∀ t:Nat,((m.zipIdx n).foldl (fun a (x:Keyed × Nat)=>a.setIfInBounds (lo + x.2) x.1) a)[t]? = if lo + n<=t/\t < lo + n + m.length then m[t - (lo + n)]? else a[t]?:=by
 induction m with
 | nil =>
  intro n a h
  refine ⟨rfl,fun t=>?_⟩
  rw [if_neg (by simp only [List.length_nil]; omega)]
  rfl
 | cons p m ih =>
  intro n a h
  rw [List.length_cons] at h
  rw [List.zipIdx_cons,List.foldl_cons]
  obtain ⟨i1,i2⟩:=ih (n + 1) (a.setIfInBounds (lo + n) p) (by rw [Array.size_setIfInBounds]; omega)
  refine ⟨i1.trans Array.size_setIfInBounds,fun t=>?_⟩
  rw [i2 t,List.length_cons]
  by_cases h1:lo + n = t
  ·subst h1
   rw [if_neg (by omega),if_pos (by omega),Array.getElem?_setIfInBounds_self_of_lt (by omega),Nat.sub_self]
   rfl
  ·by_cases h2:lo + (n + 1)<=t/\t < lo + (n + 1) + m.length
   ·rw [if_pos h2,if_pos (by omega),show t - (lo + n) = (t - (lo + (n + 1))) + 1 by omega,List.getElem?_cons_succ]
   ·rw [if_neg h2,if_neg (by omega),Array.getElem?_setIfInBounds_ne h1]
theorem foldl_set_list (m:List Keyed) (lo:Nat) (a:Array Keyed) (h:lo + m.length<=a.size) :
  (m.zipIdx.foldl (fun a (x:Keyed × Nat)=>a.setIfInBounds (lo + x.2) x.1) a).toList = a.toList.take lo ++ m ++ a.toList.drop (lo + m.length):=by
 obtain ⟨h1,h2⟩:=foldl_set m lo 0 a (by omega)
 refine List.ext_getElem? fun t=>?_
 rw [Array.getElem?_toList,h2 t]
 have hl:(a.toList.take lo).length = lo:=by rw [List.length_take,Array.length_toList]; omega
 by_cases c1:t < lo
 ·rw [if_neg (by omega),List.append_assoc,List.getElem?_append_left (by omega),List.getElem?_take_of_lt c1,Array.getElem?_toList]
 ·by_cases c2:t < lo + m.length
  ·rw [if_pos (by omega),List.getElem?_append_left (by rw [List.length_append]; omega),List.getElem?_append_right (by omega),hl]
   rfl
  ·rw [if_neg (by omega),List.getElem?_append_right (by rw [List.length_append]; omega),List.length_append,hl,List.getElem?_drop,Array.getElem?_toList]
   congr 1
   omega
theorem seg_split (l:List Keyed) (lo n:Nat):l = l.take lo ++ seg l lo n ++ l.drop (lo + n):=by
 unfold seg
 rw [List.append_assoc,<-List.drop_drop,List.take_append_drop,List.take_append_drop]
theorem seg_add (l:List Keyed) (lo n m:Nat):seg l lo (n + m) = seg l lo n ++ seg l (lo + n) m:=by
 unfold seg
 rw [List.take_add,List.drop_drop]
structure Part (κ:KeyKind) (l l':List Keyed) (lo n:Nat):Prop where
 perm:l'.Perm l
 front:l'.take lo = l.take lo
 back:l'.drop (lo + n) = l.drop (lo + n)
theorem Part.refl (l:List Keyed) (lo n:Nat):Part κ l l lo n:=⟨List.Perm.refl _,rfl,rfl⟩
theorem Part.seg_front {l l':List Keyed} {lo n:Nat} (h:Part κ l l' lo n) {u m:Nat} (hu:u + m<=lo):seg l' u m = seg l u m:=by
 have:∀ x:List Keyed,seg x u m = ((x.take lo).drop u).take m:=fun x=>by
  unfold seg
  rw [List.drop_take,List.take_take,Nat.min_eq_left (by omega)]
 rw [this,this,h.front]
theorem Part.seg_back {l l':List Keyed} {lo n:Nat} (h:Part κ l l' lo n) {u m:Nat} (hu:lo + n<=u):seg l' u m = seg l u m:=by
 have:∀ x:List Keyed,seg x u m = ((x.drop (lo + n)).drop (u - (lo + n))).take m:=fun x=>by
  unfold seg
  rw [List.drop_drop,show lo + n + (u - (lo + n)) = u by omega]
 rw [this,this,h.back]
theorem Part.of {l z:List Keyed} {lo n:Nat} (hz:z.Perm (seg l lo n)) (hl:lo + n<=l.length):Part κ l (l.take lo ++ z ++ l.drop (lo + n)) lo n/\seg (l.take lo ++ z ++ l.drop (lo + n)) lo n = z:=by
 have h1:(l.take lo).length = lo:=by rw [List.length_take]; omega
 have h2:z.length = n:=by
  rw [hz.length_eq]
  unfold seg
  rw [List.length_take,List.length_drop]
  omega
 refine ⟨⟨?_,?_,?_⟩,?_⟩
 ·conv=>rhs; rw [seg_split l lo n]
  exact List.Perm.append_right _ (List.Perm.append_left _ hz)
 ·rw [List.append_assoc,List.take_append_of_le_length (by omega),List.take_of_length_le (by omega)]
 ·rw [List.drop_append,List.drop_eq_nil_of_le (by rw [List.length_append]; omega),List.nil_append,List.length_append,h1,h2,Nat.sub_self,List.drop_zero]
 ·unfold seg
  rw [List.append_assoc,List.drop_append,List.drop_eq_nil_of_le (by omega),List.nil_append,h1,Nat.sub_self,List.drop_zero,List.take_append_of_le_length (by omega),List.take_of_length_le (by omega)]
structure St (κ:KeyKind) (kd:SortKind) (a₀:Array Keyed) (st:SortSt):Prop where
 perm:(arrOf st).toList.Perm a₀.toList
 kind:kindOf st = kd
 failed:failedOf st = none
theorem St.size {a₀:Array Keyed} {st:SortSt} (h:St κ kd a₀ st):(arrOf st).size = a₀.size:=by
 have:=h.perm.length_eq
 simpa using this
theorem St.has {a₀:Array Keyed} {st:SortSt} (h:St κ kd a₀ st) (h0:KeysOf κ a₀) (i:Nat) (p:Keyed) (e:(arrOf st)[i]? = some p):Has κ p :=
 h0 p (h.perm.mem_iff.mp (List.mem_of_getElem? (ar_get.mp e)))
theorem seg_get {l:List Keyed} {lo n t:Nat} (ht:t < n):(seg l lo n)[t]? = l[lo + t]?:=by
 unfold seg
 rw [List.getElem?_take_of_lt ht,List.getElem?_drop]
theorem mergeAt'_eq (i:Nat):mergeAt' i = (do
  let u <-get
  let (some (sa,na,pw),some (sb,nb,_)):=((pendingOf u)[i]?,(pendingOf u)[i + 1]?) | unsupported "internal:list.sort.pending"
  set (setPending u (((pendingOf u).setIfInBounds i (sa,na + nb,pw)).eraseIdxIfInBounds (i + 1)))
  let some k <-gallop' false (<-elem' (arrOf u) sb) (arrOf u) sa na 0 | return false
  let (sa,na):=(sa + k,na - k)
  if na == 0 then return true
  let some nb <-gallop' true (<-elem' (arrOf u) (sa + na - 1)) (arrOf u) sb nb (nb - 1) | return false
  if nb == 0 then return true
  let x:=(arrOf u).extract sa sb
  let y:=(arrOf u).extract sb (sb + nb)
  let mm <-if na<=nb then mergeLo' x y else mergeHi' x y
  modify fun v=>setArr v (mm.toList.zipIdx.foldl (fun a (z:Keyed × Nat)=>a.setIfInBounds (sa + z.2) z.1) (arrOf v))
  return (failedOf (<-get)).isNone):=rfl
theorem wpS_set {st st2:SortSt} {Q:PUnit->SortSt->Prop} (h:Q ⟨⟩ st2):wpS (model prog w) A E s (set st2:StateT SortSt Sem PUnit) Q st:=by
 unfold wpS; rw [StateT.run_set]; exact wpAny_pure ⟨rfl,h⟩
theorem wpS_mergeAt (C:Cmp prog w A s κ kd) {a₀:Array Keyed} (h0:KeysOf κ a₀) {st:SortSt} {i sa na pw sb nb pw2:Nat} {Q:Bool->SortSt->Prop} (hS:St κ kd a₀ st)
  (hi:(pendingOf st)[i]? = some (sa,na,pw)) (hj:(pendingOf st)[i + 1]? = some (sb,nb,pw2)) (hsb:sb = sa + na) (hsz:sb + nb<=a₀.size) (hna:1<=na) (hnb:1<=nb)
  (sx:Sor κ (seg (arrOf st).toList sa na)) (sy:Sor κ (seg (arrOf st).toList sb nb))
  (h:∀ st',St κ kd a₀ st'->Part κ (arrOf st).toList (arrOf st').toList sa (na + nb)->Sor κ (seg (arrOf st').toList sa (na + nb)) ->
   pendingOf st' = ((pendingOf st).setIfInBounds i (sa,na + nb,pw)).eraseIdxIfInBounds (i + 1)->Q true st'):wpS (model prog w) A E s (mergeAt' i) Q st:=by
 subst hsb
 have hL:(arrOf st).toList.length = a₀.size:=by rw [Array.length_toList]; exact hS.size
 have hsz':=hS.size
 rw [mergeAt'_eq]
 refine wpS_bind (wpS_get ?_)
 rw [hi,hj]
 dsimp only
 refine wpS_bind (wpS_set ?_)
 obtain ⟨b0,hb0⟩:=ar_at (a:=arrOf st) (i:=sa + na) (by omega)
 have sxl:∀ u v p q,u<=v->v < na->(arrOf st)[sa + u]? = some p->(arrOf st)[sa + v]? = some q->le κ p q:=fun u v p q huv hv e1 e2 =>
  sor_le sx huv (by rw [seg_get (by omega)]; exact ar_get.mp e1) (by rw [seg_get hv]; exact ar_get.mp e2)
 have syl:∀ u v p q,u<=v->v < nb->(arrOf st)[sa + na + u]? = some p->(arrOf st)[sa + na + v]? = some q->le κ p q:=fun u v p q huv hv e1 e2 =>
  sor_le sy huv (by rw [seg_get (by omega)]; exact ar_get.mp e1) (by rw [seg_get hv]; exact ar_get.mp e2)
 refine wpS_bind (wpS_elem hb0 (wpS_bind (wpS_gal C hS.kind (hS.has h0 _ _ hb0) (by omega) (hS.has h0) sxl (by omega) fun k hk1 k1 k2=>?_)))
 dsimp only
 have b0y:∀ z ∈ seg (arrOf st).toList (sa + na) nb,le κ b0 z:=fun z hz=>by
  obtain ⟨t,ht,e⟩:=mem_dt hz
  exact syl 0 t b0 z (by omega) ht hb0 (ar_get.mpr e)
 have xk:∀ x ∈ (seg (arrOf st).toList sa na).take k,le κ x b0:=fun x hx=>by
  obtain ⟨t,ht,ht2,e⟩:=mem_t hx
  unfold seg at ht2
  rw [List.length_take] at ht2
  rw [seg_get (by omega)] at e
  exact PB_right (k1 t x ht (ar_get.mpr e))
 have kx:∀ x ∈ (seg (arrOf st).toList sa na).drop k,le κ b0 x:=fun x hx=>by
  obtain ⟨t,ht,e⟩:=mem_d hx
  unfold seg at ht
  rw [List.length_take] at ht
  rw [seg_get (by omega)] at e
  exact KeyOrd.kle_of_klt (PB_right' (k2 (k + t) x (by omega) (by omega) (ar_get.mpr e)))
 have S1:St κ kd a₀ (setPending st (((pendingOf st).setIfInBounds i (sa,na + nb,pw)).eraseIdxIfInBounds (i + 1))):=⟨hS.perm,hS.kind,hS.failed⟩
 by_cases hk0:na - k = 0
 ·rw [if_pos (by simpa using hk0)]
  have hkk:k = na:=by omega
  refine wpS_pure (h _ S1 (Part.refl _ _ _) ?_ rfl)
  show Sor κ (seg (arrOf st).toList sa (na + nb))
  rw [seg_add]
  refine List.pairwise_append.mpr ⟨sx,sy,fun x hx y hy=>le_trans (xk x ?_) (b0y y hy)⟩
  rw [List.take_of_length_le (by unfold seg; rw [List.length_take]; omega)]
  exact hx
 rw [if_neg (by simpa using hk0)]
 obtain ⟨al,hal⟩:=ar_at (a:=arrOf st) (i:=sa + k + (na - k) - 1) (by omega)
 refine wpS_bind (wpS_elem hal (wpS_bind (wpS_gal C S1.kind (hS.has h0 _ _ hal) (by omega) (hS.has h0) syl (by omega) fun k' hk1' k1' k2'=>?_)))
 dsimp only
 have hal':(arrOf st)[sa + (na - 1)]? = some al:=by rw [show sa + (na - 1) = sa + k + (na - k) - 1 by omega]; exact hal
 have xal:∀ x ∈ seg (arrOf st).toList sa na,le κ x al:=fun x hx=>by
  obtain ⟨t,ht,e⟩:=mem_dt hx
  exact sxl t (na - 1) x al (by omega) (by omega) (ar_get.mpr e) hal'
 have yk:∀ y ∈ (seg (arrOf st).toList (sa + na) nb).take k',le κ y al:=fun y hy=>by
  obtain ⟨t,ht,ht2,e⟩:=mem_t hy
  unfold seg at ht2
  rw [List.length_take] at ht2
  rw [seg_get (by omega)] at e
  exact KeyOrd.kle_of_klt (PB_left (k1' t y ht (ar_get.mpr e)))
 have ky:∀ y ∈ (seg (arrOf st).toList (sa + na) nb).drop k',le κ al y:=fun y hy=>by
  obtain ⟨t,ht,e⟩:=mem_d hy
  unfold seg at ht
  rw [List.length_take] at ht
  rw [seg_get (by omega)] at e
  exact PB_left' (k2' (k' + t) y (by omega) (by omega) (ar_get.mpr e))
 by_cases hk0':k' = 0
 ·rw [if_pos (by simpa using hk0')]
  refine wpS_pure (h _ S1 (Part.refl _ _ _) ?_ rfl)
  show Sor κ (seg (arrOf st).toList sa (na + nb))
  rw [seg_add]
  refine List.pairwise_append.mpr ⟨sx,sy,fun x hx y hy=>le_trans (xal x hx) (ky y ?_)⟩
  rw [hk0',List.drop_zero]
  exact hy
 rw [if_neg (by simpa using hk0')]
 have ex:((arrOf st).extract (sa + k) (sa + na)).toList = (seg (arrOf st).toList sa na).drop k:=by
  rw [ext_mid]
  unfold seg
  rw [List.drop_take,List.drop_take,List.drop_drop]
  congr 1
  omega
 have ey:((arrOf st).extract (sa + na) (sa + na + k')).toList = (seg (arrOf st).toList (sa + na) nb).take k':=by
  rw [ext_list]
  unfold seg
  rw [List.take_take,Nat.min_eq_left hk1']
 have P:Pre κ ((arrOf st).extract (sa + k) (sa + na)) ((arrOf st).extract (sa + na) (sa + na + k')):=by
  refine ⟨by rw [ex]; exact sx.sublist (List.drop_sublist _ _),by rw [ey]; exact sy.sublist (List.take_sublist _ _),fun t p e=>?_,fun t p e=>?_,?_,?_,fun q e z hz=>?_,fun p e z hz=>?_⟩
  ·have m:=List.mem_of_getElem? (ar_get.mp e)
   rw [ex] at m
   obtain ⟨u,_,e2⟩:=mem_dt (List.mem_of_mem_drop m)
   exact hS.has h0 _ p (ar_get.mpr e2)
  ·have m:=List.mem_of_getElem? (ar_get.mp e)
   rw [ey] at m
   obtain ⟨u,_,e2⟩:=mem_dt (List.mem_of_mem_take m)
   exact hS.has h0 _ p (ar_get.mpr e2)
  ·rw [Array.size_extract]; omega
  ·rw [Array.size_extract]; omega
  ·have m:=ar_get.mp e
   rw [ey,List.getElem?_take_of_lt (by omega),seg_get (by omega)] at m
   have:q = b0:=by
    have:=ar_get.mp hb0
    rw [Nat.add_zero,this] at m
    exact (Option.some.inj m).symm
   subst this
   rw [ex] at hz
   exact kx z hz
  ·have m:=ar_get.mp e
   rw [ex,Array.size_extract,List.getElem?_drop,seg_get (by omega)] at m
   have:p = al:=by
    have q:=ar_get.mp hal'
    rw [show k + (min (sa + na) (arrOf st).size - (sa + k) - 1) = na - 1 by omega,q] at m
    exact (Option.some.inj m).symm
   subst this
   rw [ey] at hz
   exact yk z hz
 have fin:∀ (r:Array Keyed) (st2:SortSt),Sm (setPending st (((pendingOf st).setIfInBounds i (sa,na + nb,pw)).eraseIdxIfInBounds (i + 1))) st2->Rm κ ((arrOf st).extract (sa + k) (sa + na)) ((arrOf st).extract (sa + na) (sa + na + k')) r ->
   Q (failedOf (setArr st2 (r.toList.zipIdx.foldl (fun a (z:Keyed × Nat)=>a.setIfInBounds (sa + k + z.2) z.1) (arrOf st2)))).isNone (setArr st2 (r.toList.zipIdx.foldl (fun a (z:Keyed × Nat)=>a.setIfInBounds (sa + k + z.2) z.1) (arrOf st2))):=by
  rintro r st2 ⟨q1,q2,q3,q4⟩ ⟨r1,r2⟩
  rw [ex,ey] at r2
  have hrl:r.toList.length = (na - k) + k':=by
   rw [r2.length_eq,List.length_append]
   unfold seg
   rw [List.length_drop,List.length_take,List.length_take,List.length_drop,List.length_take,List.length_drop]
   omega
  have q2':arrOf st2 = arrOf st:=q2
  have ef:failedOf (setArr st2 (r.toList.zipIdx.foldl (fun a (z:Keyed × Nat)=>a.setIfInBounds (sa + k + z.2) z.1) (arrOf st2))) = none:=q4.trans hS.failed
  rw [ef]
  have el:=foldl_set_list r.toList (sa + k) (arrOf st2) (by rw [q2']; omega)
  have eq:(r.toList.zipIdx.foldl (fun a (z:Keyed × Nat)=>a.setIfInBounds (sa + k + z.2) z.1) (arrOf st2)).toList = (arrOf st).toList.take sa ++ ((seg (arrOf st).toList sa na).take k ++ r.toList ++ (seg (arrOf st).toList (sa + na) nb).drop k') ++ (arrOf st).toList.drop (sa + (na + nb)):=by
   rw [el,q2',hrl]
   have e1:(arrOf st).toList.take (sa + k) = (arrOf st).toList.take sa ++ (seg (arrOf st).toList sa na).take k:=by
    unfold seg
    rw [List.take_add,List.take_take,Nat.min_eq_left hk1]
   have e2:(arrOf st).toList.drop (sa + k + (na - k + k')) = (seg (arrOf st).toList (sa + na) nb).drop k' ++ (arrOf st).toList.drop (sa + (na + nb)):=by
    unfold seg
    rw [List.drop_take,List.drop_drop,show sa + k + (na - k + k') = sa + na + k' by omega]
    conv=>lhs; rw [<-List.take_append_drop (nb - k') ((arrOf st).toList.drop (sa + na + k'))]
    rw [List.drop_drop,show sa + na + k' + (nb - k') = sa + (na + nb) by omega]
   rw [e1,e2]
   simp only [List.append_assoc]
  have hp:((seg (arrOf st).toList sa na).take k ++ r.toList ++ (seg (arrOf st).toList (sa + na) nb).drop k').Perm (seg (arrOf st).toList sa (na + nb)):=by
   rw [seg_add]
   have a1:((seg (arrOf st).toList sa na).take k ++ r.toList ++ (seg (arrOf st).toList (sa + na) nb).drop k').Perm ((seg (arrOf st).toList sa na).take k ++ ((seg (arrOf st).toList sa na).drop k ++ (seg (arrOf st).toList (sa + na) nb).take k') ++ (seg (arrOf st).toList (sa + na) nb).drop k') :=
    List.Perm.append_right _ (List.Perm.append_left _ r2)
   refine a1.trans (List.Perm.of_eq ?_)
   rw [<-List.append_assoc,List.take_append_drop,List.append_assoc,List.take_append_drop]
  obtain ⟨pa,ps⟩:=Part.of (κ:=κ) hp (by rw [hL]; omega)
  have hs:Sor κ ((seg (arrOf st).toList sa na).take k ++ r.toList ++ (seg (arrOf st).toList (sa + na) nb).drop k'):=by
   refine List.pairwise_append.mpr ⟨List.pairwise_append.mpr ⟨sx.sublist (List.take_sublist _ _),r1,fun x hx y hy=>?_⟩,sy.sublist (List.drop_sublist _ _),fun x hx y hy=>?_⟩
   ·rcases List.mem_append.mp (r2.mem_iff.mp hy) with hy | hy
    ·exact le_trans (xk x hx) (kx y hy)
    ·exact le_trans (xk x hx) (b0y y (List.mem_of_mem_take hy))
   ·rcases List.mem_append.mp hx with hx | hx
    ·exact le_trans (xal x (List.mem_of_mem_take hx)) (ky y hy)
    ·rcases List.mem_append.mp (r2.mem_iff.mp hx) with hx | hx
     ·exact le_trans (xal x (List.mem_of_mem_drop hx)) (ky y hy)
     ·exact le_trans (yk x hx) (ky y hy)
  refine h _ ⟨?_,q1.trans hS.kind,q4.trans hS.failed⟩ ?_ ?_ q3
  ·show (r.toList.zipIdx.foldl (fun a (z:Keyed × Nat)=>a.setIfInBounds (sa + k + z.2) z.1) (arrOf st2)).toList.Perm a₀.toList
   rw [eq]
   exact pa.perm.trans hS.perm
  ·show Part κ (arrOf st).toList (r.toList.zipIdx.foldl (fun a (z:Keyed × Nat)=>a.setIfInBounds (sa + k + z.2) z.1) (arrOf st2)).toList sa (na + nb)
   rw [eq]
   exact pa
  ·show Sor κ (seg (r.toList.zipIdx.foldl (fun a (z:Keyed × Nat)=>a.setIfInBounds (sa + k + z.2) z.1) (arrOf st2)).toList sa (na + nb))
   rw [eq,ps]
   exact hs
 by_cases hab:na - k<=k'
 ·rw [if_pos hab]
  refine wpS_bind (wpS_mergeLo C S1.kind P fun r st2 q r1=>?_)
  exact wpS_bind (wpS_modify (wpS_bind (wpS_get (wpS_pure (fin r st2 q r1)))))
 ·rw [if_neg hab]
  refine wpS_bind (wpS_mergeHi C S1.kind P fun r st2 q r1=>?_)
  exact wpS_bind (wpS_modify (wpS_bind (wpS_get (wpS_pure (fin r st2 q r1)))))
end
end TS
namespace TS
open PySem PyProof.Rows
section
variable {prog:Program} {w:World} {A:Around} {E:Value->Shared->Prop} {s:Shared} {κ:KeyKind} {kd:SortKind} {a₀:Array Keyed}
theorem KK_kk {xs:Array Keyed} {i:Nat} {p:Keyed} (h:xs[i]? = some p):KK κ xs i = kk κ p:=by unfold KK kk; rw [h]
noncomputable def SI (κ:KeyKind) (xs:Array Keyed) (lo m:Nat):Prop:=∀ i j,i<=j->j < m->κ.kle (KK κ xs (lo + i)) (KK κ xs (lo + j))
noncomputable def NI (κ:KeyKind) (xs:Array Keyed) (lo m:Nat):Prop:=∀ i j,i<=j->j < m->κ.kle (KK κ xs (lo + j)) (KK κ xs (lo + i))
theorem SI.sor {xs:Array Keyed} {lo m:Nat} (h:SI κ xs lo m):Sor κ (seg xs.toList lo m):=by
 refine List.pairwise_iff_getElem.mpr fun i j hi hj hij=>?_
 unfold seg at hi hj
 rw [List.length_take] at hi hj
 have e1:xs[lo + i]? = some (seg xs.toList lo m)[i]:=by
  rw [ar_get,<-seg_get (n:=m) (by omega)]
  exact List.getElem?_eq_getElem _
 have e2:xs[lo + j]? = some (seg xs.toList lo m)[j]:=by
  rw [ar_get,<-seg_get (n:=m) (by omega)]
  exact List.getElem?_eq_getElem _
 have:=h i j (by omega) (by omega)
 rw [KK_kk e1,KK_kk e2] at this
 exact this
structure Lo (κ:KeyKind) (kd:SortKind) (a₀:Array Keyed) (st0:SortSt) (lo n:Nat) (st:SortSt):Prop where
 S:St κ kd a₀ st
 pend:pendingOf st = pendingOf st0
 out:∀ t,t < lo\/lo + n<=t->(arrOf st)[t]? = (arrOf st0)[t]?
theorem Lo.part {st0 st:SortSt} {lo n:Nat} (h:Lo κ kd a₀ st0 lo n st) (h0:St κ kd a₀ st0):Part κ (arrOf st0).toList (arrOf st).toList lo n:=by
 refine ⟨h.S.perm.trans h0.perm.symm,List.ext_getElem? fun t=>?_,List.ext_getElem? fun t=>?_⟩
 ·by_cases ht:t < lo
  ·rw [List.getElem?_take_of_lt ht,List.getElem?_take_of_lt ht,Array.getElem?_toList,Array.getElem?_toList]
   exact h.out t (.inl ht)
  ·rw [List.getElem?_eq_none (by rw [List.length_take]; omega),List.getElem?_eq_none (by rw [List.length_take]; omega)]
 ·rw [List.getElem?_drop,List.getElem?_drop,Array.getElem?_toList,Array.getElem?_toList]
  exact h.out _ (.inr (by omega))
theorem Lo.mirror {st0 st:SortSt} {lo n i j:Nat} (h:Lo κ kd a₀ st0 lo n st) (hi:lo<=i) (hj:j<=lo + n) (hn:lo + n<=a₀.size):Lo κ kd a₀ st0 lo n (setArr st (mirror (arrOf st) i j ((j - i) / 2))):=by
 refine ⟨⟨(Array.perm_iff_toList_perm.mp (mirror_perm _ _ _ _)).trans h.S.perm,h.S.kind,h.S.failed⟩,h.pend,fun t ht=>?_⟩
 show (PyProof.Rows.mirror (arrOf st) i j ((j - i) / 2))[t]? = _
 have:=h.S.size
 rw [getElem?_mirror_all (by omega),if_neg (by omega)]
 exact h.out t ht
theorem wpS_ltI (C:Cmp prog w A s κ kd) (h0:KeysOf κ a₀) {st:SortSt} (hS:St κ kd a₀ st) {i j:Nat} {Q:Option Bool->SortSt->Prop} (hi:i < a₀.size) (hj:j < a₀.size)
  (h:Q (some (κ.blt (KK κ (arrOf st) i) (KK κ (arrOf st) j))) st):wpS (model prog w) A E s (ltAt' i j) Q st:=by
 have:=hS.size
 obtain ⟨p,hp⟩:=ar_at (a:=arrOf st) (i:=i) (by omega)
 obtain ⟨q,hq⟩:=ar_at (a:=arrOf st) (i:=j) (by omega)
 rw [ltAt'_eq]
 refine wpS_bind (wpS_get ?_)
 refine wpS_bind (wpS_elem hp (wpS_bind (wpS_elem hq (wpS_lt C hS.kind (hS.has h0 _ _ hp) (hS.has h0 _ _ hq) ?_))))
 rw [KK_kk hp,KK_kk hq] at h
 exact h
theorem ascL {st:SortSt} {lo a nrem:Nat} {f:Nat->(Option (Option Nat) × Nat)->StateT SortSt Sem (ForInStep (Option (Option Nat) × Nat))} {Q:(Option (Option Nat) × Nat)->SortSt->Prop}
  (hf:∀ x n,1<=n->n < nrem->wpS (model prog w) A E s (f x (none,n)) (fun r st'=>st' = st/\r = if κ.blt (KK κ (arrOf st) (lo + n)) (KK κ (arrOf st) (lo + n - 1)) = true then .done (none,n) else .yield (none,n + 1)) st)
  (ha:1<=a) (han:a<=nrem) (hs:SI κ (arrOf st) lo a)
  (h:∀ n,a<=n->n<=nrem->SI κ (arrOf st) lo n->(n = nrem\/κ.klt (KK κ (arrOf st) (lo + n)) (KK κ (arrOf st) (lo + n - 1)))->Q (none,n) st):wpS (model prog w) A E s (forIn [a:nrem] (none,a) f) Q st:=by
 refine wpS_forRange (I:=fun x c st'=>st' = st/\c = (none,x)/\SI κ (arrOf st) lo x) ?_ ?_ ⟨rfl,rfl,hs⟩
 ·rintro x c st' hax hxn ⟨rfl,rfl,hs'⟩
  refine wpS_mono (hf x x (by omega) hxn) fun r st2 ⟨e,er⟩=>?_
  subst e
  cases hless:κ.blt (KK κ (arrOf st2) (lo + x)) (KK κ (arrOf st2) (lo + x - 1))
  ·rw [hless,if_neg Bool.false_ne_true] at er
   subst er
   refine ⟨rfl,rfl,fun i j hij hj=>?_⟩
   by_cases hjx:j < x
   ·exact hs' i j hij hjx
   ·have hj':j = x:=by omega
    subst hj'
    by_cases hi':i = j
    ·subst hi'; exact KeyOrd.kle_refl _
    ·have:=hs' i (j - 1) (by omega) (by omega)
     rw [show lo + (j - 1) = lo + j - 1 by omega] at this
     exact KeyOrd.kle_trans this hless
  ·rw [hless,if_pos rfl] at er
   subst er
   exact h x hax (by omega) hs' (.inr hless)
 ·rintro c st' ⟨rfl,rfl,hs'⟩
  rw [show max a nrem = nrem by omega] at hs' ⊢
  exact h nrem han (Nat.le_refl _) hs' (.inl rfl)
theorem NI.step {xs ys:Array Keyed} {lo x:Nat} (hx:1<=x) (hk:∀ k,KK κ ys k = KK κ xs k) (hs:NI κ xs lo x) (hl:κ.kle (KK κ xs (lo + x)) (KK κ xs (lo + x - 1))):NI κ ys lo (x + 1):=by
 intro i j hij hj
 rw [hk,hk]
 by_cases hjx:j < x
 ·exact hs i j hij hjx
 ·have hj':j = x:=by omega
  subst hj'
  by_cases hi':i = j
  ·subst hi'; exact KeyOrd.kle_refl _
  ·have:=hs i (j - 1) (by omega) (by omega)
   rw [show lo + (j - 1) = lo + j - 1 by omega] at this
   exact KeyOrd.kle_trans hl this
noncomputable abbrev DS:=Option (Option Nat) × Nat × Nat
theorem descL {st0 st:SortSt} {lo n nrem:Nat} (hsz:lo + nrem<=a₀.size) {f:Nat->DS->StateT SortSt Sem (ForInStep DS)} {Q:DS->SortSt->Prop}
  (hf:∀ x n q st',1<=n->n < nrem->Lo κ kd a₀ st0 lo nrem st'->wpS (model prog w) A E s (f x (none,n,q)) (fun r st2 =>
   if κ.blt (KK κ (arrOf st') (lo + n)) (KK κ (arrOf st') (lo + n - 1)) = true then (st2 = if q > 0 then setArr st' (mirror (arrOf st') (lo + n - (q + 1)) (lo + n) ((lo + n - (lo + n - (q + 1))) / 2)) else st')/\r = .yield (none,n + 1,0)
   else st2 = st'/\r = if κ.blt (KK κ (arrOf st') (lo + n - 1)) (KK κ (arrOf st') (lo + n)) = true then .done (none,n,q) else .yield (none,n + 1,q + 1)) st')
  (h1:1<=n) (hnn:n<=nrem) (hB:Lo κ kd a₀ st0 lo nrem st) (hs:NI κ (arrOf st) lo n)
  (h:∀ m q st',Lo κ kd a₀ st0 lo nrem st'->n<=m->m<=nrem->NI κ (arrOf st') lo m->q + 1<=m->(∀ i,m - (q + 1)<=i->i < m->KK κ (arrOf st') (lo + i) = KK κ (arrOf st') (lo + m - 1))->Q (none,m,q) st') :
  wpS (model prog w) A E s (forIn [n:nrem] (none,n,0) f) Q st:=by
 refine wpS_forRange (I:=fun x c st'=>∃ q,c = (none,x,q)/\Lo κ kd a₀ st0 lo nrem st'/\NI κ (arrOf st') lo x/\q + 1<=x /\
   (∀ i,x - (q + 1)<=i->i < x->KK κ (arrOf st') (lo + i) = KK κ (arrOf st') (lo + x - 1))) ?_ ?_ ⟨0,rfl,hB,hs,by omega,fun i h1 h2=>by congr 1; omega⟩
 ·rintro x c st' hax hxn ⟨q,rfl,hB',hs',hq,he⟩
  have hs0:=hB'.S.size
  refine wpS_mono (hf x x q st' (by omega) hxn hB') fun r st2 hr=>?_
  cases hless:κ.blt (KK κ (arrOf st') (lo + x)) (KK κ (arrOf st') (lo + x - 1))
  ·rw [hless,if_neg Bool.false_ne_true] at hr
   obtain ⟨e,er⟩:=hr
   subst e
   cases hl:κ.blt (KK κ (arrOf st2) (lo + x - 1)) (KK κ (arrOf st2) (lo + x))
   ·rw [hl,if_neg Bool.false_ne_true] at er
    subst er
    have heqx:KK κ (arrOf st2) (lo + x) = KK κ (arrOf st2) (lo + x - 1):=KeyOrd.kle_antisymm hl hless
    refine ⟨q + 1,rfl,hB',NI.step (by omega) (fun _=>rfl) hs' hl,by omega,fun i g1 g2=>?_⟩
    rw [show lo + (x + 1) - 1 = lo + x by omega]
    by_cases hix:i = x
    ·subst hix; rfl
    ·rw [heqx]; exact he i (by omega) (by omega)
   ·rw [hl,if_pos rfl] at er
    subst er
    exact h x q st2 hB' hax (by omega) hs' hq he
  ·rw [hless,if_pos rfl] at hr
   obtain ⟨e,er⟩:=hr
   subst er
   have hl:κ.kle (KK κ (arrOf st') (lo + x)) (KK κ (arrOf st') (lo + x - 1)):=KeyOrd.kle_of_klt hless
   by_cases hq0:q > 0
   ·rw [if_pos hq0] at e
    subst e
    refine ⟨0,rfl,hB'.mirror (by omega) (by omega) hsz,NI.step (by omega) (KK_mirror_equal (by omega) fun k g1 g2=>?_) hs' hl,by omega,fun i g1 g2=>by congr 1; omega⟩
    have:=he (k - lo) (by omega) (by omega)
    rw [show lo + (k - lo) = k by omega] at this
    exact this
   ·rw [if_neg hq0] at e
    subst e
    exact ⟨0,rfl,hB',NI.step (by omega) (fun _=>rfl) hs' hl,by omega,fun i g1 g2=>by congr 1; omega⟩
 ·rintro c st' ⟨q,rfl,hB',hs',hq,he⟩
  rw [show max n nrem = nrem by omega] at hs' hq he ⊢
  exact h nrem q st' hB' hnn (Nat.le_refl _) hs' hq he
theorem NI.turn {xs:Array Keyed} {lo n:Nat} (hn:lo + n<=xs.size) (h:NI κ xs lo n):SI κ (mirror xs lo (lo + n) ((lo + n - lo) / 2)) lo n:=by
 intro i j hij hj
 rw [KK_mirror hn,KK_mirror hn,if_pos (by omega),if_pos (by omega)]
 have:=h (n - 1 - j) (n - 1 - i) (by omega) (by omega)
 rw [show lo + (n - 1 - i) = lo + (lo + n) - 1 - (lo + i) by omega,show lo + (n - 1 - j) = lo + (lo + n) - 1 - (lo + j) by omega] at this
 exact this
theorem wpS_countRun (C:Cmp prog w A s κ kd) (h0:KeysOf κ a₀) {st:SortSt} {lo nrem:Nat} {Q:Option Nat->SortSt->Prop} (hS:St κ kd a₀ st) (hsz:lo + nrem<=a₀.size) (h1:1<=nrem)
  (h:∀ m st',Lo κ kd a₀ st lo nrem st'->1<=m->m<=nrem->SI κ (arrOf st') lo m->Q (some m) st'):wpS (model prog w) A E s (countRun' lo nrem) Q st:=by
 have L0:Lo κ kd a₀ st lo nrem st:=⟨hS,rfl,fun _ _=>rfl⟩
 rw [countRun'_eq]
 dsimp only
 refine wpS_bind (ascL (κ:=κ) (lo:=lo) (fun x n g1 g2=>?_) (Nat.le_refl 1) h1 (fun i j hij hj=>by have:i = j:=(by omega); subst this; exact KeyOrd.kle_refl _) fun n hn1 hn2 hsn hor=>?_)
 ·dsimp only
  refine wpS_bind (wpS_ltI C h0 hS (by omega) (by omega) ?_)
  dsimp only
  cases κ.blt (KK κ (arrOf st) (lo + n)) (KK κ (arrOf st) (lo + n - 1))
  ·exact wpS_pure ⟨rfl,rfl⟩
  ·exact wpS_pure ⟨rfl,rfl⟩
 dsimp only
 by_cases hnn:n = nrem
 ·rw [if_pos (by simpa using hnn)]
  exact wpS_pure (h n st L0 hn1 hn2 hsn)
 rw [if_neg (by simpa using hnn)]
 have hlt:κ.klt (KK κ (arrOf st) (lo + n)) (KK κ (arrOf st) (lo + n - 1)):=hor.resolve_left hnn
 have hz:=hS.size
 by_cases hgt:n > 1
 ·rw [if_pos hgt]
  refine wpS_bind (wpS_ltI C h0 hS (by omega) (by omega) ?_)
  dsimp only
  cases hrose:κ.blt (KK κ (arrOf st) lo) (KK κ (arrOf st) (lo + n - 1)) with
  | true =>
   simp only [if_true]
   exact wpS_pure (h n st L0 hn1 hn2 hsn)
  | false =>
   simp only [Bool.false_eq_true,if_false]
   have hall:∀ k,lo<=k->k < lo + n->KK κ (arrOf st) k = KK κ (arrOf st) (lo + n - 1):=by
    intro k hk1 hk2
    have a1:=hsn 0 (k - lo) (by omega) (by omega)
    have a2:=hsn (k - lo) (n - 1) (by omega) (by omega)
    rw [Nat.add_zero,show lo + (k - lo) = k by omega] at a1
    rw [show lo + (k - lo) = k by omega,show lo + (n - 1) = lo + n - 1 by omega] at a2
    exact KeyOrd.kle_antisymm a2 (KeyOrd.kle_trans hrose a1)
   have hk:=KK_mirror_equal (κ:=κ) (xs:=arrOf st) (i:=lo) (j:=lo + n) (by omega) hall
   refine wpS_bind (wpS_reverse ?_)
   have hB2:=L0.mirror (i:=lo) (j:=lo + n) (by omega) (by omega) hsz
   have hN:NI κ (mirror (arrOf st) lo (lo + n) ((lo + n - lo) / 2)) lo (n + 1):=by
    refine NI.step (by omega) hk (fun i j hij hj=>?_) (KeyOrd.kle_of_klt hlt)
    rw [hall (lo + i) (by omega) (by omega),hall (lo + j) (by omega) (by omega)]
    exact KeyOrd.kle_refl _
   refine wpS_bind (wpS_lift (wpAny_rule ⟨rfl,?_⟩))
   refine wpS_bind (descL (κ:=κ) (kd:=kd) (a₀:=a₀) (st0:=st) (lo:=lo) hsz (fun x n' q st' g1 g2 hB'=>?_) (by omega) (by omega) hB2 hN fun m q st' hB3 hm1 hm2 hs3 hq he=>?_)
   ·dsimp only
    refine wpS_bind (wpS_ltI C h0 hB'.S (by omega) (by omega) ?_)
    dsimp only
    cases κ.blt (KK κ (arrOf st') (lo + n')) (KK κ (arrOf st') (lo + n' - 1))
    ·simp only [Bool.false_eq_true,if_false]
     refine wpS_bind (wpS_ltI C h0 hB'.S (by omega) (by omega) ?_)
     dsimp only
     cases κ.blt (KK κ (arrOf st') (lo + n' - 1)) (KK κ (arrOf st') (lo + n'))
     ·exact wpS_pure ⟨rfl,rfl⟩
     ·exact wpS_pure ⟨rfl,rfl⟩
    ·simp only [if_true]
     by_cases hq:q > 0
     ·rw [if_pos hq,if_pos hq]
      exact wpS_bind (wpS_reverse (wpS_pure ⟨rfl,rfl⟩))
     ·rw [if_neg hq,if_neg hq]
      exact wpS_pure ⟨rfl,rfl⟩
   ·dsimp only
    have hz3:=hB3.S.size
    by_cases hq0:q > 0
    ·rw [if_pos hq0]
     refine wpS_bind (wpS_reverse (wpS_bind (wpS_reverse ?_)))
     have hB4':=hB3.mirror (i:=lo + m - (q + 1)) (j:=lo + m) (by omega) (by omega) hsz
     have hB4:=hB4'.mirror (i:=lo) (j:=lo + m) (by omega) (by omega) hsz
     have hz4:=hB4'.S.size
     have hN4:NI κ (mirror (arrOf st') (lo + m - (q + 1)) (lo + m) ((lo + m - (lo + m - (q + 1))) / 2)) lo m:=by
      have hk:=KK_mirror_equal (κ:=κ) (xs:=arrOf st') (i:=lo + m - (q + 1)) (j:=lo + m) (by omega) (fun k g1 g2=>by
       have:=he (k - lo) (by omega) (by omega)
       rw [show lo + (k - lo) = k by omega] at this
       exact this)
      intro i j hij hj
      rw [hk,hk]
      exact hs3 i j hij hj
     have hT:=hN4.turn (κ:=κ) (lo:=lo) (n:=m) (by rw [mirror_size]; omega)
     refine wpS_bind (ascL (κ:=κ) (lo:=lo) (fun x n' g1 g2=>?_) (by omega) hm2 hT fun m' hm1' hm2' hsm _=>wpS_pure (h m' _ hB4 (by omega) hm2' hsm))
     dsimp only
     refine wpS_bind (wpS_ltI C h0 hB4.S (by omega) (by omega) ?_)
     dsimp only
     cases κ.blt (KK κ _ (lo + n')) (KK κ _ (lo + n' - 1))
     ·exact wpS_pure ⟨rfl,rfl⟩
     ·exact wpS_pure ⟨rfl,rfl⟩
    ·rw [if_neg hq0]
     refine wpS_bind (wpS_reverse ?_)
     have hB4:=hB3.mirror (i:=lo) (j:=lo + m) (by omega) (by omega) hsz
     have hT:=hs3.turn (κ:=κ) (lo:=lo) (n:=m) (by omega)
     refine wpS_bind (ascL (κ:=κ) (lo:=lo) (fun x n' g1 g2=>?_) (by omega) hm2 hT fun m' hm1' hm2' hsm _=>wpS_pure (h m' _ hB4 (by omega) hm2' hsm))
     dsimp only
     refine wpS_bind (wpS_ltI C h0 hB4.S (by omega) (by omega) ?_)
     dsimp only
     cases κ.blt (KK κ _ (lo + n')) (KK κ _ (lo + n' - 1))
     ·exact wpS_pure ⟨rfl,rfl⟩
     ·exact wpS_pure ⟨rfl,rfl⟩
 ·rw [if_neg hgt]
  have hn1':n = 1:=by omega
  have hB2:=L0
  have hN:NI κ (arrOf st) lo (n + 1):=by
   refine NI.step (by omega) (fun _=>rfl) (fun i j hij hj=>?_) (KeyOrd.kle_of_klt hlt)
   have:i = j:=by omega
   subst this; exact KeyOrd.kle_refl _
  refine wpS_bind (wpS_lift (wpAny_rule ⟨rfl,?_⟩))
  refine wpS_bind (descL (κ:=κ) (kd:=kd) (a₀:=a₀) (st0:=st) (lo:=lo) hsz (fun x n' q st' g1 g2 hB'=>?_) (by omega) (by omega) hB2 hN fun m q st' hB3 hm1 hm2 hs3 hq he=>?_)
  ·dsimp only
   refine wpS_bind (wpS_ltI C h0 hB'.S (by omega) (by omega) ?_)
   dsimp only
   cases κ.blt (KK κ (arrOf st') (lo + n')) (KK κ (arrOf st') (lo + n' - 1))
   ·simp only [Bool.false_eq_true,if_false]
    refine wpS_bind (wpS_ltI C h0 hB'.S (by omega) (by omega) ?_)
    dsimp only
    cases κ.blt (KK κ (arrOf st') (lo + n' - 1)) (KK κ (arrOf st') (lo + n'))
    ·exact wpS_pure ⟨rfl,rfl⟩
    ·exact wpS_pure ⟨rfl,rfl⟩
   ·simp only [if_true]
    by_cases hq:q > 0
    ·rw [if_pos hq,if_pos hq]
     exact wpS_bind (wpS_reverse (wpS_pure ⟨rfl,rfl⟩))
    ·rw [if_neg hq,if_neg hq]
     exact wpS_pure ⟨rfl,rfl⟩
  ·dsimp only
   have hz3:=hB3.S.size
   by_cases hq0:q > 0
   ·rw [if_pos hq0]
    refine wpS_bind (wpS_reverse (wpS_bind (wpS_reverse ?_)))
    have hB4':=hB3.mirror (i:=lo + m - (q + 1)) (j:=lo + m) (by omega) (by omega) hsz
    have hB4:=hB4'.mirror (i:=lo) (j:=lo + m) (by omega) (by omega) hsz
    have hz4:=hB4'.S.size
    have hN4:NI κ (mirror (arrOf st') (lo + m - (q + 1)) (lo + m) ((lo + m - (lo + m - (q + 1))) / 2)) lo m:=by
     have hk:=KK_mirror_equal (κ:=κ) (xs:=arrOf st') (i:=lo + m - (q + 1)) (j:=lo + m) (by omega) (fun k g1 g2=>by
      have:=he (k - lo) (by omega) (by omega)
      rw [show lo + (k - lo) = k by omega] at this
      exact this)
     intro i j hij hj
     rw [hk,hk]
     exact hs3 i j hij hj
    have hT:=hN4.turn (κ:=κ) (lo:=lo) (n:=m) (by rw [mirror_size]; omega)
    refine wpS_bind (ascL (κ:=κ) (lo:=lo) (fun x n' g1 g2=>?_) (by omega) hm2 hT fun m' hm1' hm2' hsm _=>wpS_pure (h m' _ hB4 (by omega) hm2' hsm))
    dsimp only
    refine wpS_bind (wpS_ltI C h0 hB4.S (by omega) (by omega) ?_)
    dsimp only
    cases κ.blt (KK κ _ (lo + n')) (KK κ _ (lo + n' - 1))
    ·exact wpS_pure ⟨rfl,rfl⟩
    ·exact wpS_pure ⟨rfl,rfl⟩
   ·rw [if_neg hq0]
    refine wpS_bind (wpS_reverse ?_)
    have hB4:=hB3.mirror (i:=lo) (j:=lo + m) (by omega) (by omega) hsz
    have hT:=hs3.turn (κ:=κ) (lo:=lo) (n:=m) (by omega)
    refine wpS_bind (ascL (κ:=κ) (lo:=lo) (fun x n' g1 g2=>?_) (by omega) hm2 hT fun m' hm1' hm2' hsm _=>wpS_pure (h m' _ hB4 (by omega) hm2' hsm))
    dsimp only
    refine wpS_bind (wpS_ltI C h0 hB4.S (by omega) (by omega) ?_)
    dsimp only
    cases κ.blt (KK κ _ (lo + n')) (KK κ _ (lo + n' - 1))
    ·exact wpS_pure ⟨rfl,rfl⟩
    ·exact wpS_pure ⟨rfl,rfl⟩
theorem Lo.bubble {st0 st:SortSt} {lo n src d:Nat} (h:Lo κ kd a₀ st0 lo n st) (h1:lo + d<=src) (h2:src < lo + n) (hn:lo + n<=a₀.size):Lo κ kd a₀ st0 lo n (setArr st (bubble (arrOf st) src d)):=by
 refine ⟨⟨(Array.perm_iff_toList_perm.mp (bubble_perm _ _ _)).trans h.S.perm,h.S.kind,h.S.failed⟩,h.pend,fun t ht=>?_⟩
 show (PyProof.Rows.bubble (arrOf st) src d)[t]? = _
 have:=h.S.size
 rw [getElem?_bubble (by omega) d (by omega),if_neg (by omega),if_neg (by omega)]
 exact h.out t ht
theorem wpS_binarySort (C:Cmp prog w A s κ kd) (h0:KeysOf κ a₀) {st0 st:SortSt} {lo nrem n ok:Nat} {Q:Bool->SortSt->Prop} (hB:Lo κ kd a₀ st0 lo nrem st) (hsz:lo + nrem<=a₀.size) (hn:n<=nrem) (hok:ok<=n) (hs:SI κ (arrOf st) lo ok)
  (h:∀ st',Lo κ kd a₀ st0 lo nrem st'->SI κ (arrOf st') lo n->Q true st'):wpS (model prog w) A E s (binarySort' lo n ok) Q st:=by
 rw [binarySort'_eq]
 refine wpS_bind (wpS_mono (wpS_forRange (I:=fun k c st'=>c = (none,())/\Lo κ kd a₀ st0 lo nrem st'/\SI κ (arrOf st') lo (min k n))
  (Q:=fun c st'=>c = (none,())/\Lo κ kd a₀ st0 lo nrem st'/\SI κ (arrOf st') lo n) ?step ?fin ?init) ?post)
 case post =>
  rintro c st' ⟨rfl,hB',hs'⟩
  exact wpS_pure (h st' hB' hs')
 case init =>
  refine ⟨rfl,hB,fun i j hij hj=>?_⟩
  by_cases h1:ok = 0
  ·have:i = j:=by omega
   subst this; exact KeyOrd.kle_refl _
  ·exact hs i j hij (by omega)
 case fin =>
  rintro c st' ⟨hc,hB',hs'⟩
  refine ⟨hc,hB',?_⟩
  rwa [show min (max (max ok 1) n) n = n by omega] at hs'
 case step =>
  rintro k c st' hak hkn ⟨rfl,hB',hs'⟩
  rw [show min k n = k by omega] at hs'
  dsimp only
  refine wpS_bind (wpS_mono (wpS_forRange (I:=fun x c st''=>st'' = st'/\∃ l r,c = (none,l,r)/\l<=r/\r<=k/\r - l<=k - x /\
    (∀ i,i < l->κ.kle (KK κ (arrOf st') (lo + i)) (KK κ (arrOf st') (lo + k)))/\(∀ i,r<=i->i < k->κ.klt (KK κ (arrOf st') (lo + k)) (KK κ (arrOf st') (lo + i))))
   (Q:=fun c st''=>st'' = st'/\∃ l r,c = (none,l,r)/\l<=k /\
    (∀ i,i < l->κ.kle (KK κ (arrOf st') (lo + i)) (KK κ (arrOf st') (lo + k)))/\(∀ i,l<=i->i < k->κ.klt (KK κ (arrOf st') (lo + k)) (KK κ (arrOf st') (lo + i)))) ?istep ?ifin ?iinit) ?ipost)
  case iinit=>exact ⟨rfl,0,k,rfl,by omega,by omega,by omega,fun i hi=>by omega,fun i h1 h2=>by omega⟩
  case ifin =>
   rintro c st'' ⟨rfl,l,r,rfl,hlr,hrk,hm,hlo,hhi⟩
   have:l = r:=by omega
   subst this
   exact ⟨rfl,l,l,rfl,hrk,hlo,hhi⟩
  case istep =>
   rintro x c st'' _ hxk ⟨rfl,l,r,rfl,hlr,hrk,hm,hlo,hhi⟩
   dsimp only
   by_cases hge:l ≥ r
   ·rw [if_pos hge]
    have:l = r:=by omega
    subst this
    exact wpS_pure ⟨rfl,l,l,rfl,hrk,hlo,hhi⟩
   ·rw [if_neg hge]
    refine wpS_bind (wpS_ltI C h0 hB'.S (by omega) (by omega) ?_)
    dsimp only
    cases hless:κ.blt (KK κ (arrOf st'') (lo + k)) (KK κ (arrOf st'') (lo + (l + r) / 2))
    case true =>
     simp only [if_true]
     refine wpS_pure ⟨rfl,l,(l + r) / 2,rfl,by omega,by omega,by omega,hlo,fun i h1 h2=>?_⟩
     exact KeyOrd.klt_of_klt_of_kle hless (hs' _ _ h1 h2)
    case false =>
     simp only [Bool.false_eq_true,if_false]
     refine wpS_pure ⟨rfl,(l + r) / 2 + 1,r,rfl,by omega,by omega,by omega,fun i h1=>?_,hhi⟩
     exact KeyOrd.kle_trans (hs' i ((l + r) / 2) (by omega) (by omega)) (show κ.kle _ _ from hless)
  case ipost =>
   rintro c st'' ⟨rfl,l,r,rfl,hlk,hlo,hhi⟩
   have hz:=hB'.S.size
   show wpS _ _ _ _ (do moveDown' (lo + k) (lo + l); pure (ForInStep.yield (none,()))) _ _
   rw [moveDown'_eq]
   refine wpS_bind (wpS_modify (wpS_pure ⟨rfl,hB'.bubble (by omega) (by omega) hsz,?_⟩))
   rw [show min (k + 1) n = k + 1 by omega]
   intro i j hij hj
   show κ.kle (KK κ (bubble (arrOf st'') (lo + k) (lo + k - (lo + l))) (lo + i)) (KK κ (bubble (arrOf st'') (lo + k) (lo + k - (lo + l))) (lo + j))
   rw [KK_bubble (by omega) (by omega),KK_bubble (by omega) (by omega),show lo + k - (lo + k - (lo + l)) = lo + l by omega]
   have shift:∀ z,1<=z->lo + z - 1 = lo + (z - 1):=fun z _=>by omega
   repeat' split
   all_goals first
    | (exfalso; omega)
    | exact KeyOrd.kle_refl _
    | exact hlo _ (by omega)
    | exact KeyOrd.kle_of_klt (hhi _ (by omega) (by omega))
    | exact hs' _ _ (by omega) (by omega)
    | (rw [shift j (by omega)]; exact KeyOrd.kle_of_klt (hhi _ (by omega) (by omega)))
    | (rw [shift i (by omega)]; exact hlo _ (by omega))
    | (rw [shift j (by omega)]; exact hs' _ _ (by omega) (by omega))
    | (rw [shift i (by omega),shift j (by omega)]; exact hs' _ _ (by omega) (by omega))
    | (rw [shift i (by omega)]; exact hs' _ _ (by omega) (by omega))
end
end TS
namespace TS
open PySem PyProof.Rows
noncomputable abbrev Run:=Nat × Nat × Nat
noncomputable def Cov:List Run->Nat->Nat->Prop
 | [],a,b=>a = b
 | x :: r,a,b=>x.1 = a/\1<=x.2.1/\Cov r (a + x.2.1) b
theorem Cov.app:∀ {l1 l2:List Run} {a b:Nat},Cov (l1 ++ l2) a b ↔ ∃ c,Cov l1 a c/\Cov l2 c b
 | [],l2,a,b=>⟨fun h=>⟨a,rfl,h⟩,fun ⟨c,h1,h2⟩=>by have:a = c:=h1; subst this; exact h2⟩
 | x :: r,l2,a,b=>by
  constructor
  ·rintro ⟨h1,h2,h3⟩
   obtain ⟨c,h4,h5⟩:=Cov.app.mp h3
   exact ⟨c,⟨h1,h2,h4⟩,h5⟩
  ·rintro ⟨c,⟨h1,h2,h4⟩,h5⟩
   exact ⟨h1,h2,Cov.app.mpr ⟨c,h4,h5⟩⟩
theorem Cov.le:∀ {l:List Run} {a b:Nat},Cov l a b->a + l.length<=b
 | [],a,b,h=>by have:a = b:=h; subst this; simp
 | x :: r,a,b,⟨h1,h2,h3⟩=>by have:=Cov.le h3; rw [List.length_cons]; omega
theorem Cov.mem:∀ {l:List Run} {a b:Nat} {x:Run},Cov l a b->x ∈ l->a<=x.1/\x.1 + x.2.1<=b
 | [],_,_,_,_,hx=>absurd hx (by simp)
 | y :: r,a,b,x,⟨h1,h2,h3⟩,hx=>by
  have hl:=Cov.le h3
  rcases List.mem_cons.mp hx with e | hx
  ·subst e; omega
  ·have:=Cov.mem h3 hx; omega
theorem cut2 {l:List Run} {i:Nat} {x y:Run} (hx:l[i]? = some x) (hy:l[i + 1]? = some y):l = l.take i ++ x :: y :: l.drop (i + 2):=by
 obtain ⟨h1,rfl⟩:=List.getElem?_eq_some_iff.mp hx
 obtain ⟨h2,rfl⟩:=List.getElem?_eq_some_iff.mp hy
 conv=>lhs; rw [<-List.take_append_drop i l]
 rw [List.drop_eq_getElem_cons h1,List.drop_eq_getElem_cons h2]
theorem join2 {l:List Run} {i:Nat} {x y:Run} (z:Run) (hx:l[i]? = some x) (hy:l[i + 1]? = some y):(l.set i z).eraseIdx (i + 1) = l.take i ++ z :: l.drop (i + 2):=by
 obtain ⟨h1,_⟩:=List.getElem?_eq_some_iff.mp hx
 obtain ⟨h2,_⟩:=List.getElem?_eq_some_iff.mp hy
 have e:=cut2 hx hy
 have hl:(l.take i).length = i:=by rw [List.length_take]; omega
 generalize l.take i = p at *
 generalize l.drop (i + 2) = q at *
 subst e
 rw [List.set_append_right _ _ (by omega),hl,Nat.sub_self,List.eraseIdx_append_of_length_le (by omega),hl,show i + 1 - i = 1 by omega]
 rfl
section
variable {prog:Program} {w:World} {A:Around} {E:Value->Shared->Prop} {s:Shared} {κ:KeyKind} {kd:SortKind} {a₀:Array Keyed}
structure RI (κ:KeyKind) (kd:SortKind) (a₀:Array Keyed) (lo:Nat) (st:SortSt):Prop where
 S:St κ kd a₀ st
 cov:Cov (pendingOf st).toList 0 lo
 sor:∀ x ∈ (pendingOf st).toList,Sor κ (seg (arrOf st).toList x.1 x.2.1)
theorem wpS_mrg (C:Cmp prog w A s κ kd) (h0:KeysOf κ a₀) {st:SortSt} {lo i:Nat} {Q:Bool->SortSt->Prop} (R:RI κ kd a₀ lo st) (hlo:lo<=a₀.size) (hi:i + 1 < (pendingOf st).size)
  (h:∀ st',RI κ kd a₀ lo st'->(pendingOf st').size + 1 = (pendingOf st).size->Part κ (arrOf st).toList (arrOf st').toList 0 lo->Q true st'):wpS (model prog w) A E s (mergeAt' i) Q st:=by
 obtain ⟨⟨sa,na,pw⟩,hx⟩:∃ x,(pendingOf st)[i]? = some x:=⟨_,getElem?_pos _ i (by omega)⟩
 obtain ⟨⟨sb,nb,pw2⟩,hy⟩:∃ x,(pendingOf st)[i + 1]? = some x:=⟨_,getElem?_pos _ (i + 1) hi⟩
 have hx':(pendingOf st).toList[i]? = some (sa,na,pw):=by rw [Array.getElem?_toList]; exact hx
 have hy':(pendingOf st).toList[i + 1]? = some (sb,nb,pw2):=by rw [Array.getElem?_toList]; exact hy
 have e:=cut2 hx' hy'
 have c:=R.cov
 rw [e] at c
 obtain ⟨c0,c1,c2⟩:=Cov.app.mp c
 obtain ⟨d1,d2,d3,d4,d5⟩:=c2
 dsimp only at d1 d2 d3 d4 d5
 have hl5:=Cov.le d5
 refine wpS_mergeAt C h0 R.S hx hy (by omega) (by omega) d2 d4 (R.sor _ (List.mem_of_getElem? hx')) (R.sor _ (List.mem_of_getElem? hy')) fun st' S' P' s' p'=>?_
 have ep:(pendingOf st').toList = (pendingOf st).toList.take i ++ (sa,na + nb,pw) :: (pendingOf st).toList.drop (i + 2):=by
  rw [p',<-join2 (sa,na + nb,pw) hx' hy']
  simp
 refine h st' ⟨S',?_,fun x hxm=>?_⟩ ?_ ?_
 ·rw [ep]
  exact Cov.app.mpr ⟨c0,c1,d1,(by show 1<=na + nb; omega),(by show Cov _ (c0 + (na + nb)) lo; rw [<-Nat.add_assoc]; exact d5)⟩
 ·rw [ep] at hxm
  have old:∀ y ∈ (pendingOf st).toList,(y.1 + y.2.1<=sa\/sa + (na + nb)<=y.1)->Sor κ (seg (arrOf st').toList y.1 y.2.1):=fun y hy ho=>by
   have:=R.sor y hy
   rcases ho with ho | ho
   ·rw [P'.seg_front ho]; exact this
   ·rw [P'.seg_back ho]; exact this
  rcases List.mem_append.mp hxm with hm | hm
  ·have:=Cov.mem c1 hm
   exact old x (List.mem_of_mem_take hm) (.inl (by omega))
  ·rcases List.mem_cons.mp hm with hm | hm
   ·subst hm
    exact s'
   ·have:=Cov.mem d5 hm
    exact old x (List.mem_of_mem_drop hm) (.inr (by omega))
 ·have:=congrArg List.length ep
  rw [Array.length_toList,List.length_append,List.length_cons,List.length_take,List.length_drop,Array.length_toList] at this
  omega
 ·have hb:∀ z:List Keyed,z.drop (0 + lo) = (z.drop (sa + (na + nb))).drop (lo - (sa + (na + nb))):=fun z=>by
   rw [List.drop_drop]; congr 1; omega
  exact ⟨P'.perm,rfl,by rw [hb,hb,P'.back]⟩
theorem modify_last {l:Array Run} {pw:Nat}:(l.modify (l.size - 1) fun x=>(x.1,x.2.1,pw)).toList.map (fun x:Run=>(x.1,x.2.1)) = l.toList.map fun x:Run=>(x.1,x.2.1):=by
 refine List.ext_getElem? fun t=>?_
 rw [List.getElem?_map,List.getElem?_map,Array.getElem?_toList,Array.getElem?_toList,Array.getElem?_modify]
 split
 ·cases l[t]? <;> rfl
 ·rfl
theorem Cov.congr:∀ {l l':List Run} {a b:Nat},l'.map (fun x:Run=>(x.1,x.2.1)) = l.map (fun x:Run=>(x.1,x.2.1))->Cov l a b->Cov l' a b
 | [],[],_,_,_,h=>h
 | [],_ :: _,_,_,e,_=>by simp at e
 | _ :: _,[],_,_,e,_=>by simp at e
 | x :: r,y :: r',a,b,e,⟨h1,h2,h3⟩=>by
  rw [List.map_cons,List.map_cons] at e
  obtain ⟨e1,e2⟩:=List.cons.inj e
  obtain ⟨e3,e4⟩:=Prod.mk.inj e1
  exact ⟨e3.trans h1,by rw [e4]; exact h2,by rw [e4]; exact Cov.congr e2 h3⟩
theorem RI.congr {lo:Nat} {st:SortSt} (R:RI κ kd a₀ lo st) {p:Array Run} (e:p.toList.map (fun x:Run=>(x.1,x.2.1)) = (pendingOf st).toList.map fun x:Run=>(x.1,x.2.1)):RI κ kd a₀ lo (setPending st p):=by
 refine ⟨⟨R.S.perm,R.S.kind,R.S.failed⟩,Cov.congr e R.cov,fun x hx=>?_⟩
 have:(x.1,x.2.1) ∈ (pendingOf st).toList.map fun x:Run=>(x.1,x.2.1):=by
  rw [<-e]
  exact List.mem_map.mpr ⟨x,hx,rfl⟩
 obtain ⟨y,hy,ey⟩:=List.mem_map.mp this
 obtain ⟨e1,e2⟩:=Prod.mk.inj ey
 have:=R.sor y hy
 rw [e1,e2] at this
 exact this
theorem wpS_sortRunsA (C:Cmp prog w A s κ kd) (h0:KeysOf κ a₀) {st:SortSt} {Q:Unit->SortSt->Prop} (hS:St κ kd a₀ st) (hp:pendingOf st = #[])
  (h:∀ st',St κ kd a₀ st'->Sor κ (arrOf st').toList->Q () st'):wpS (model prog w) A E s sortRuns' Q st:=by
 rw [sortRuns'_eq]
 refine wpS_bind (wpS_get ?_)
 dsimp only
 have hz:=hS.size
 rw [hz]
 generalize minRun' a₀.size a₀.size 0 = mr
 refine wpS_bind (wpS_mono (wpS_forRange (I:=fun x c st'=>∃ lo,c = (none,lo)/\RI κ kd a₀ lo st'/\lo<=a₀.size/\min x a₀.size<=lo)
  (Q:=fun c st'=>∃ lo,c = (none,lo)/\RI κ kd a₀ lo st'/\lo = a₀.size) ?st ?en ⟨0,rfl,⟨hS,by rw [hp]; rfl,fun x hx=>by rw [hp] at hx; exact absurd hx (by simp)⟩,Nat.zero_le _,by omega⟩) ?po)
 case en =>
  rintro c st' ⟨lo,rfl,R,h1,h2⟩
  exact ⟨lo,rfl,R,by omega⟩
 case po =>
  rintro c st' ⟨lo,rfl,R,rfl⟩
  dsimp only
  refine wpS_bind (wpS_mono (wpS_forRange (I:=fun x c st'=>c = (none,())/\RI κ kd a₀ a₀.size st'/\(pendingOf st').size + x<=a₀.size + 1)
   (Q:=fun c st'=>c = (none,())/\RI κ kd a₀ a₀.size st'/\(pendingOf st').size<=1) ?st3 ?en3 ⟨rfl,R,?in3⟩) ?po3)
  case in3 =>
   have:=Cov.le R.cov
   rw [Array.length_toList] at this
   omega
  case en3 =>
   rintro c st2 ⟨rfl,R2,g⟩
   exact ⟨rfl,R2,by omega⟩
  case po3 =>
   rintro c st2 ⟨rfl,R2,g⟩
   refine wpS_pure (h st2 R2.S ?_)
   have c:=R2.cov
   have so:=R2.sor
   have hz2:=R2.S.size
   have hl:(pendingOf st2).toList.length<=1:=by rw [Array.length_toList]; exact g
   generalize (pendingOf st2).toList = l at c so hl
   match l,c,so,hl with
   | [],c,_,_ =>
    have c':0 = a₀.size:=c
    have:(arrOf st2).toList = []:=List.eq_nil_of_length_eq_zero (by rw [Array.length_toList]; omega)
    rw [this]
    exact List.Pairwise.nil
   | [x],⟨c1,c2,c3⟩,so,_ =>
    have c3':0 + x.2.1 = a₀.size:=c3
    have:=so x (List.mem_singleton.mpr rfl)
    unfold seg at this
    rw [c1,List.drop_zero,List.take_of_length_le (by rw [Array.length_toList]; omega)] at this
    exact this
   | _ :: _ :: _,_,_,hl=>exact absurd hl (by simp)
  case st3 =>
   rintro x c st2 _ hx ⟨rfl,R2,g⟩
   try dsimp only
   refine wpS_bind (wpS_get ?_)
   by_cases hle:(pendingOf st2).size<=1
   ·rw [if_pos hle]
    exact wpS_pure ⟨rfl,R2,hle⟩
   rw [if_neg hle]
   refine wpS_bind (wpS_mrg C h0 R2 (Nat.le_refl _) ?_ fun st3 R3 e3 _=>?_)
   ·have hi2:∀ {c:Prop} [Decidable c] {n:Nat},(if c then n - 1 else n) + 1<=n + 1:=by intro c _ n; split <;> omega
    exact Nat.lt_of_le_of_lt hi2 (by omega)
   ·simp only [Bool.not_true,Bool.false_eq_true,if_false]
    exact wpS_pure ⟨rfl,R3,by omega⟩
 case st =>
  rintro x c st' _ hx ⟨lo,rfl,R,h1,h2⟩
  dsimp only
  by_cases hge:lo ≥ a₀.size
  ·rw [if_pos hge]
   exact wpS_pure ⟨lo,rfl,R,by omega⟩
  rw [if_neg hge]
  refine wpS_bind (wpS_countRun C h0 R.S (by omega) (by omega) fun m st2 L2 hm1 hm2 hs2=>?_)
  dsimp only
  by_cases hmr:m < mr
  ·rw [if_pos hmr]
   refine wpS_bind (wpS_lift (wpAny_rule ⟨rfl,?_⟩))
   refine wpS_bind (wpS_binarySort C h0 L2 (by omega) (show min (a₀.size - lo) mr<=a₀.size - lo by omega) (by omega) hs2 fun st5 L5 s5=>?_)
   simp only [Bool.not_true,Bool.false_eq_true,if_false]
   have hN:1<=min (a₀.size - lo) mr/\min (a₀.size - lo) mr<=a₀.size - lo:=by omega
   generalize min (a₀.size - lo) mr = N at hN s5 ⊢
   have R5:RI κ kd a₀ lo st5:=by
    refine ⟨L5.S,by rw [L5.pend]; exact R.cov,fun y hy=>?_⟩
    rw [L5.pend] at hy
    have hc:=Cov.mem R.cov hy
    rw [(L5.part R.S).seg_front (by omega)]
    exact R.sor y hy
   refine wpS_bind (wpS_get ?_)
   have push:∀ (st6:SortSt),RI κ kd a₀ lo st6->Sor κ (seg (arrOf st6).toList lo N)->RI κ kd a₀ (lo + N) (setPending st6 ((pendingOf st6).push (lo,N,0))):=fun st6 R6 s6=>by
    refine ⟨⟨R6.S.perm,R6.S.kind,R6.S.failed⟩,?_,fun y hy=>?_⟩
    ·show Cov ((pendingOf st6).push (lo,N,0)).toList 0 (lo + N)
     rw [Array.toList_push]
     exact Cov.app.mpr ⟨lo,R6.cov,rfl,(by show 1<=N; omega),rfl⟩
    ·have hy':y ∈ ((pendingOf st6).push (lo,N,0)).toList:=hy
     rw [Array.toList_push] at hy'
     rcases List.mem_append.mp hy' with hy' | hy'
     ·exact R6.sor y hy'
     ·rw [List.mem_singleton.mp hy']
      exact s6
   cases hbk:(pendingOf st5).back? with
   | none =>
    dsimp only
    refine wpS_bind (wpS_modify (wpS_pure ⟨_,rfl,push _ R5 s5.sor,by omega,by omega⟩))
   | some bk =>
    obtain ⟨s1,n1,pb⟩:=bk
    dsimp only
    generalize power' a₀.size (2 * s1 + n1) (2 * s1 + n1 + n1 + N) a₀.size = pw
    refine wpS_bind (wpS_mono (wpS_forRange (I:=fun x c st6=>c = (none,())/\RI κ kd a₀ lo st6/\Part κ (arrOf st5).toList (arrOf st6).toList 0 lo)
     (Q:=fun c st6=>c = (none,())/\RI κ kd a₀ lo st6/\Part κ (arrOf st5).toList (arrOf st6).toList 0 lo) ?stc1 (fun _ _ z=>z) ⟨rfl,R5,Part.refl _ _ _⟩) ?poc1)
    case stc1 =>
     rintro x' c st6 _ _ ⟨rfl,R6,P6⟩
     try dsimp only
     refine wpS_bind (wpS_get ?_)
     by_cases hp1:(pendingOf st6).size > 1
     ·rw [if_pos hp1]
      obtain ⟨⟨u1,u2,ol⟩,hu⟩:∃ y,(pendingOf st6)[(pendingOf st6).size - 2]? = some y:=⟨_,getElem?_pos _ _ (by omega)⟩
      rw [hu]
      dsimp only
      by_cases hol:ol<=pw
      ·rw [if_pos hol]
       exact wpS_pure ⟨rfl,R6,P6⟩
      rw [if_neg hol]
      refine wpS_bind (wpS_mrg C h0 R6 h1 (by omega) fun st7 R7 _ P7=>?_)
      simp only [Bool.not_true,Bool.false_eq_true,if_false]
      exact wpS_pure ⟨rfl,R7,⟨P7.perm.trans P6.perm,rfl,P7.back.trans P6.back⟩⟩
     ·rw [if_neg hp1]
      exact wpS_pure ⟨rfl,R6,P6⟩
    case poc1 =>
     rintro c st6 ⟨rfl,R6,P6⟩
     dsimp only
     refine wpS_bind (wpS_modify (wpS_bind (wpS_modify (wpS_pure ⟨_,rfl,push _ (R6.congr modify_last) ?_,by omega,by omega⟩))))
     show Sor κ (seg (arrOf st6).toList lo N)
     rw [P6.seg_back (by omega)]
     exact s5.sor
  ·rw [if_neg hmr]
   have R5:RI κ kd a₀ lo st2:=by
    refine ⟨L2.S,by rw [L2.pend]; exact R.cov,fun y hy=>?_⟩
    rw [L2.pend] at hy
    have hc:=Cov.mem R.cov hy
    rw [(L2.part R.S).seg_front (by omega)]
    exact R.sor y hy
   refine wpS_bind (wpS_get ?_)
   have push:∀ (st6:SortSt),RI κ kd a₀ lo st6->Sor κ (seg (arrOf st6).toList lo m)->RI κ kd a₀ (lo + m) (setPending st6 ((pendingOf st6).push (lo,m,0))):=fun st6 R6 s6=>by
    refine ⟨⟨R6.S.perm,R6.S.kind,R6.S.failed⟩,?_,fun y hy=>?_⟩
    ·show Cov ((pendingOf st6).push (lo,m,0)).toList 0 (lo + m)
     rw [Array.toList_push]
     exact Cov.app.mpr ⟨lo,R6.cov,rfl,(by show 1<=m; omega),rfl⟩
    ·have hy':y ∈ ((pendingOf st6).push (lo,m,0)).toList:=hy
     rw [Array.toList_push] at hy'
     rcases List.mem_append.mp hy' with hy' | hy'
     ·exact R6.sor y hy'
     ·rw [List.mem_singleton.mp hy']
      exact s6
   cases hbk:(pendingOf st2).back? with
   | none =>
    dsimp only
    refine wpS_bind (wpS_modify (wpS_pure ⟨_,rfl,push _ R5 hs2.sor,by omega,by omega⟩))
   | some bk =>
    obtain ⟨s1,n1,pb⟩:=bk
    dsimp only
    generalize power' a₀.size (2 * s1 + n1) (2 * s1 + n1 + n1 + m) a₀.size = pw
    refine wpS_bind (wpS_mono (wpS_forRange (I:=fun x c st6=>c = (none,())/\RI κ kd a₀ lo st6/\Part κ (arrOf st2).toList (arrOf st6).toList 0 lo)
     (Q:=fun c st6=>c = (none,())/\RI κ kd a₀ lo st6/\Part κ (arrOf st2).toList (arrOf st6).toList 0 lo) ?stc2 (fun _ _ z=>z) ⟨rfl,R5,Part.refl _ _ _⟩) ?poc2)
    case stc2 =>
     rintro x' c st6 _ _ ⟨rfl,R6,P6⟩
     try dsimp only
     refine wpS_bind (wpS_get ?_)
     by_cases hp1:(pendingOf st6).size > 1
     ·rw [if_pos hp1]
      obtain ⟨⟨u1,u2,ol⟩,hu⟩:∃ y,(pendingOf st6)[(pendingOf st6).size - 2]? = some y:=⟨_,getElem?_pos _ _ (by omega)⟩
      rw [hu]
      dsimp only
      by_cases hol:ol<=pw
      ·rw [if_pos hol]
       exact wpS_pure ⟨rfl,R6,P6⟩
      rw [if_neg hol]
      refine wpS_bind (wpS_mrg C h0 R6 h1 (by omega) fun st7 R7 _ P7=>?_)
      simp only [Bool.not_true,Bool.false_eq_true,if_false]
      exact wpS_pure ⟨rfl,R7,⟨P7.perm.trans P6.perm,rfl,P7.back.trans P6.back⟩⟩
     ·rw [if_neg hp1]
      exact wpS_pure ⟨rfl,R6,P6⟩
    case poc2 =>
     rintro c st6 ⟨rfl,R6,P6⟩
     dsimp only
     refine wpS_bind (wpS_modify (wpS_bind (wpS_modify (wpS_pure ⟨_,rfl,push _ (R6.congr modify_last) ?_,by omega,by omega⟩))))
     show Sor κ (seg (arrOf st6).toList lo m)
     rw [P6.seg_back (by omega)]
     exact hs2.sor
end
end TS
namespace TS
open PySem PyProof.Rows
noncomputable def kd1 (κ:KeyKind) (v:Value):κ.α:=(κ.keyOf v).getD κ.dflt
section
variable {prog:Program} {w:World} {A:Around} {E:Value->Shared->Prop} {s:Shared} {κ:KeyKind} {kd:SortKind}
noncomputable def Ext (a:Addr) (s s':Shared):Prop:=∀ b o,b ≠ a->s.heap.get? b = some o->s'.heap.get? b = some o
structure Keys (prog:Program) (w:World) (a:Addr) (s:Shared) (κ:KeyKind) (kd:SortKind) (vs:List Value):Prop where
 cmp:∀ (A:Around) (s':Shared),Ext a s s'->Cmp prog w A s' κ kd
 key:∀ v ∈ vs,∃ k,κ.keyOf v = some k
 kind:2<=vs.length->∀ (A:Around) (E:Value->Shared->Prop) (s':Shared) (Q:SortKind->Shared->Prop),Ext a s s'->Q kd s'->wpAny (model prog w) A (keyKind' vs.toArray) Q E s'
noncomputable def Out (κ:KeyKind) (vs:List Value) (out:Array Value):Prop:=out.toList.Perm vs/\out.toList.Pairwise fun u v=>κ.kle (kd1 κ u) (kd1 κ v)
theorem out_of {vs:List Value} {xs:Array Keyed} (hp:xs.toList.Perm (pairsOf vs).toList) (hs:Sor κ xs.toList):Out κ vs (xs.map (·.2)):=by
 rw [pairsOf_toList] at hp
 have hm:∀ p ∈ xs.toList,p.1 = p.2:=fun p h=>(mem_zip_self (hp.mem_iff.mp h)).1
 have e:(xs.map (·.2)).toList = xs.toList.map (·.1):=by
  rw [Array.toList_map]; exact List.map_congr_left fun p h=>(hm p h).symm
 refine ⟨?_,?_⟩
 ·rw [e]
  have:=hp.map Prod.fst
  rwa [List.map_fst_zip (Nat.le_refl _)] at this
 ·rw [e,List.pairwise_map]
  exact hs
theorem list_sort_gen {a:Addr} {vs:List Value} {n:Nat} {P:Fin->Shared->Prop} (ho:s.heap.get? a = some (seqObj "list" vs.toArray n)) (hz:vs.length<=sizeLine) (K:Keys prog w a s κ kd vs)
  (h:∀ out:Array Value,Out κ vs out->P (.done (.ret .none)) { s with heap:=sortedHeap s.heap a vs out }) :
  wpAny (model prog w) A (Builtin.«list.sort» ⟨[.ref a],[]⟩) P E s:=by
 rw [list_sort_plain]
 have ha:a < s.heap.objs.size:=Heap.lt_size ho
 have hsz:vs.toArray.size = vs.length:=by simp
 refine wpAny_bind (listItems_at ho rfl ?_)
 refine wpAny_bind (listUpdate_at ho rfl ?_ (by rw [hsz]; exact hz) (by simp))
 obtain ⟨e1,ho1⟩:∃ e1,(s.heap.update a (Obj.mapSeq fun _=>#[])).get? a = some (seqObj "list" #[] e1):=⟨_,get?_update_seq ho (fun _=>#[])⟩
 refine wpAny_bind (seqEpoch_at ho1 rfl ?_)
 refine wpAny_bind (wpAny_newTuple ?_ (by simpa using hz))
 refine wpAny_bind (wpAny_newList ?_)
 refine wpAny_holding ?_
 have ho6:(((s.heap.update a (Obj.mapSeq fun _=>#[])).push (seqObj "tuple" vs.toArray 0)).push (seqObj "list" #[] 0)).get? a = some (seqObj "list" #[] e1):=by
  rw [Heap.get?_push_ne _ _ _ (by rw [size_push',Heap.size_update]; exact Nat.ne_of_lt (Nat.lt_succ_of_lt ha)),Heap.get?_push_ne _ _ _ (by rw [Heap.size_update]; exact Nat.ne_of_lt ha)]
  exact ho1
 show wpAny (model prog w) A _ P E { s with heap:=((s.heap.update a (Obj.mapSeq fun _=>#[])).push (seqObj "tuple" vs.toArray 0)).push (seqObj "list" #[] 0) }
 dsimp only
 have hE:Ext a s { s with heap:=((s.heap.update a (Obj.mapSeq fun _=>#[])).push (seqObj "tuple" vs.toArray 0)).push (seqObj "list" #[] 0) }:=fun b o hb e =>
  Heap.get?_push_of_some _ (Heap.get?_push_of_some _ ((Heap.get?_update_other s.heap _ (Ne.symm hb)).trans e))
 by_cases h2:vs.toArray.size < 2
 ·rw [if_pos h2,if_pos h2]
  refine wpAny_bind (wpAny_pure ?_)
  rw [StateT.run_pure]
  refine wpAny_bind (wpAny_pure ?_)
  dsimp only
  refine wpAny_bind (seqEpoch_at ho6 rfl ?_)
  refine wpAny_bind (listUpdate_at ho6 rfl ?_ (by simp) (by rw [Array.size_map]; show (pairsOf vs).size<=_; rw [pairsOf_size]; omega))
  simp only [bne_self_eq_false,Bool.false_eq_true,if_false]
  refine wpAny_pure (h _ (out_of (κ:=κ) (xs:=pairsOf vs) (List.Perm.refl _) ?_))
  rw [pairsOf_toList]
  rw [hsz] at h2
  match vs,h2 with
  | [],_=>exact List.Pairwise.nil
  | [v],_=>exact List.pairwise_singleton _ _
  | _ :: _ :: _,h2=>simp at h2; omega
 ·rw [if_neg h2,if_neg h2]
  refine wpAny_bind (K.kind (by omega) A E _ _ hE ?_)
  refine wpAny_bind (wpAny_mono (wpS_sortRunsA (K.cmp A _ hE) (a₀:=pairsOf vs) (st:=SortSt.mk' kd (vs.toArray.zip vs.toArray) #[] 7 none)
   (Q:=fun _ st'=>St κ kd (pairsOf vs) st'/\Sor κ (arrOf st').toList)
   (fun p hp=>?_) ⟨List.Perm.refl _,rfl,rfl⟩ rfl fun st' a1 a2=>⟨a1,a2⟩) ?_ fun _ _ e=>e)
  ·rw [pairsOf_toList] at hp
   exact K.key _ (mem_zip_self hp).2
  rintro ⟨⟨⟩,st'⟩ s' ⟨rfl,hp,hs⟩
  dsimp only
  refine wpAny_bind (seqEpoch_at ho6 rfl ?_)
  refine wpAny_bind (listUpdate_at ho6 rfl ?_ (by simp) (by rw [Array.size_map]; show (arrOf st').size<=_; rw [hp.size,pairsOf_size]; omega))
  rw [show failedOf st' = none from hp.failed]
  simp only [bne_self_eq_false,Bool.false_eq_true,if_false]
  exact wpAny_pure (h _ (out_of hp.perm hs))
theorem sorted_gen {x:Value} {Q:Value->Shared->Prop}
  (hc:wpAny (model prog w) A.in1 (collect x) (fun vs s1=>s1.os = s.os/\vs.length<=sizeLine/\(∃ (κ:KeyKind) (kd:SortKind),(∀ s2:Shared,Ext s1.heap.objs.size s1 s2->Keys prog w s1.heap.objs.size s2 κ kd vs) /\
   ∀ (out:Array Value) (h':Heap) (e:Nat),Out κ vs out->(∀ b o,s1.heap.get? b = some o->h'.get? b = some o)->h'.get? s1.heap.objs.size = some (seqObj "list" out e)->Q (.ref s1.heap.objs.size) { s1 with heap:=h' })) E s) :
  wpAny (model prog w) A (call (.builtin "sorted") [x]) Q E s:=by
 refine Calls.call_function_entry kind_sorted plain_sorted entry_sorted (args_sorted1 _) ?_
 unfold Builtin.«sorted»
 refine wpAny_bind (m:=checkCount "sorted" 1 1 _) (wpAny_pure ?_)
 refine wpAny_bind (wpAny_mono hc (fun vs s1 ⟨eos,hz,κ,kd,K,q⟩=>?_) fun _ _ z=>z)
 refine wpAny_bind (wpAny_newList ?_)
 have hoL:(s1.heap.push (seqObj "list" vs.toArray 0)).get? s1.heap.objs.size = some (seqObj "list" vs.toArray 0):=Heap.get?_push_size _ rfl
 show wpAny _ _ _ _ _ { s1 with heap:=s1.heap.push (seqObj "list" vs.toArray 0) }
 have hE:Ext s1.heap.objs.size s1 { s1 with heap:=s1.heap.push (seqObj "list" vs.toArray 0) }:=fun b o _ e=>Heap.get?_push_of_some _ e
 refine wpAny_bind (wpAny_holding (wpAny_call_entry slot_list_sort ⟨_,hoL,rfl⟩ entry_list_sort (list_sort_gen (s:={ s1 with heap:=s1.heap.push (seqObj "list" vs.toArray 0) }) hoL hz (K _ hE) fun out ho=>⟨_,rfl,?_⟩) (args_list_sort _)))
 obtain ⟨e,he⟩:=sortedHeap_at (h:=s1.heap.push (seqObj "list" vs.toArray 0)) (out:=out) hoL
 refine wpAny_pure ⟨_,rfl,q out _ e ho (fun b o eb=>?_) he⟩
 have hlt:=Heap.lt_size eb
 rw [sortedHeap_old (Nat.ne_of_lt hlt) (by rw [size_push']; exact Nat.lt_succ_of_lt hlt)]
 exact Heap.get?_push_of_some _ eb
theorem keys_strs {a:Addr} {vs:List Value} {ss:List Str} (hS:StrsAre vs ss):Keys prog w a s strKind oneType' vs:=by
 refine ⟨fun A s' _=>⟨fun x y k l Q E hx hy q=>?_⟩,fun v hv=>?_,fun h2 A E s' Q _ q=>?_⟩
 ·rw [keyLt'_oneType]
  exact strKind_oneLt prog w A E s' x y k l hx hy q
 ·obtain ⟨x,t,rfl⟩:=hS.all v hv
  exact ⟨_,rfl⟩
 ·match vs,h2,hS with
  | v1 :: v2 :: r,_,hS =>
   rw [keyKind_strs hS]
   exact wpAny_pure q
noncomputable def pairLt (a b:List Nat × List Nat):Bool:=decide (a.1 < b.1) || (decide (a.1 = b.1) && decide (a.2 < b.2))
theorem pairLt_iff {a b:List Nat × List Nat}:pairLt a b = true ↔ a.1 < b.1\/(a.1 = b.1/\a.2 < b.2):=by
 unfold pairLt
 simp
theorem tri (a b:List Nat):a < b\/a = b\/b < a:=by
 by_cases h:a < b
 ·exact .inl h
 ·by_cases h':b < a
  ·exact .inr (.inr h')
  ·exact .inr (.inl (List.le_antisymm (List.not_lt.mp h') (List.not_lt.mp h)))
noncomputable def twoStr:List Value->Option (List Nat × List Nat)
 | [.str x _,.str y _]=>some (x.cps.toList,y.cps.toList)
 | _=>none
noncomputable def seqIf (c:Value):Data->Option (List Nat × List Nat)
 | .seq xs _=>if c = .type "tuple" then twoStr xs.toList else none
 | _=>none
noncomputable def pairOf (h:Heap):Value->Option (List Nat × List Nat)
 | .ref p=>(h.get? p).bind fun o=>seqIf o.cls o.data
 | _=>none
@[reducible] noncomputable def pairKind (h:Heap):KeyKind where
 α:=List Nat × List Nat
 blt:=pairLt
 irrefl a:=by
  rw [Bool.eq_false_iff]
  intro z
  rcases pairLt_iff.mp z with z | ⟨_,z⟩
  ·exact List.lt_irrefl _ z
  ·exact List.lt_irrefl _ z
 trans a b c h1 h2:=by
  rw [pairLt_iff] at *
  rcases h1 with h1 | ⟨h1,h1'⟩
  ·rcases h2 with h2 | ⟨h2,_⟩
   ·exact .inl (List.lt_trans h1 h2)
   ·exact .inl (h2 ▸ h1)
  ·rcases h2 with h2 | ⟨h2,h2'⟩
   ·exact .inl (h1 ▸ h2)
   ·exact .inr ⟨h1.trans h2,List.lt_trans h1' h2'⟩
 negTrans a b c h:=by
  rw [pairLt_iff] at h
  simp only [pairLt_iff]
  rcases h with h | ⟨h,h'⟩
  ·rcases tri a.1 b.1 with q | q | q
   ·exact .inl (.inl q)
   ·exact .inr (.inl (q ▸ h))
   ·exact .inr (.inl (List.lt_trans q h))
  ·rcases tri a.1 b.1 with q | q | q
   ·exact .inl (.inl q)
   ·rcases tri a.2 b.2 with r | r | r
    ·exact .inl (.inr ⟨q,r⟩)
    ·exact .inr (.inr ⟨q ▸ h,r ▸ h'⟩)
    ·exact .inr (.inr ⟨q ▸ h,List.lt_trans r h'⟩)
   ·exact .inr (.inl (h ▸ q))
 total a b h1 h2:=by
  rw [Bool.eq_false_iff] at h1 h2
  rcases tri a.1 b.1 with q | q | q
  ·exact absurd (pairLt_iff.mpr (.inl q)) h1
  ·rcases tri a.2 b.2 with r | r | r
   ·exact absurd (pairLt_iff.mpr (.inr ⟨q,r⟩)) h1
   ·exact Prod.ext q r
   ·exact absurd (pairLt_iff.mpr (.inr ⟨q.symm,r⟩)) h2
  ·exact absurd (pairLt_iff.mpr (.inl q)) h2
 keyOf:=pairOf h
 dflt:=([],[])
noncomputable def PairAt (h:Heap) (v:Value) (x y:Str):Prop:=∃ p o n t u,v = .ref p/\h.get? p = some o/\o.cls = .type "tuple"/\o.data = .seq #[.str x t,.str y u] n
theorem PairAt.key {h:Heap} {v:Value} {x y:Str} (z:PairAt h v x y):pairOf h v = some (x.cps.toList,y.cps.toList):=by
 obtain ⟨p,o,n,t,u,rfl,e,c,d⟩:=z
 show (h.get? p).bind (fun o=>seqIf o.cls o.data) = _
 rw [e]
 show seqIf o.cls o.data = _
 rw [d,c]
 unfold seqIf
 exact (if_pos rfl).trans rfl
theorem two_of {l:List Value} {k:List Nat × List Nat} (e:twoStr l = some k):∃ x t y u,l = [.str x t,.str y u]:=by
 match l,e with
 | [.str x t,.str y u],_=>exact ⟨x,t,y,u,rfl⟩
theorem pair_of {h:Heap} {v:Value} {k:List Nat × List Nat} (e:pairOf h v = some k):∃ x y,PairAt h v x y:=by
 match v,e with
 | .ref p,e =>
  have e':(h.get? p).bind (fun o=>seqIf o.cls o.data) = some k:=e
  obtain ⟨o,ho,es⟩:=Option.bind_eq_some_iff.mp e'
  cases d:o.data with
  | seq xs n =>
   rw [d] at es
   have es':(if o.cls = .type "tuple" then twoStr xs.toList else none) = some k:=es
   by_cases c:o.cls = .type "tuple"
   ·rw [if_pos c] at es'
    obtain ⟨x,t,y,u,el⟩:=two_of es'
    refine ⟨x,y,p,o,n,t,u,rfl,ho,c,?_⟩
    rw [d]
    have:xs = #[.str x t,.str y u]:=by rw [<-Array.toList_inj,el]
    rw [this]
   ·rw [if_neg c] at es'; cases es'
  | _=>rw [d] at es; cases es
theorem pair_inv {h:Heap} {v:Value} {k:List Nat × List Nat} {x y:Str} (z:PairAt h v x y) (e:pairOf h v = some k):k = (x.cps.toList,y.cps.toList):=by
 rw [z.key] at e
 exact (Option.some.inj e).symm
theorem keys_pairs {a:Addr} {vs:List Value} {h0:Heap} (hv:∀ v ∈ vs,∃ x y,PairAt h0 v x y) (hk:∀ b o,h0.get? b = some o->b ≠ a/\s.heap.get? b = some o) :
  Keys prog w a s (pairKind h0) (tuples' true) vs:=by
 refine ⟨fun A s' hE=>⟨fun x y k l Q E hx hy q=>?_⟩,fun v hvm=>?_,fun h2 A E s' Q hE q=>?_⟩
 ·obtain ⟨x1,x2,zx⟩:=pair_of hx
  obtain ⟨y1,y2,zy⟩:=pair_of hy
  have ek:=pair_inv zx hx
  have el:=pair_inv zy hy
  subst ek el
  obtain ⟨px,ox,nx,t1,u1,rfl,e1,_,d1⟩:=zx
  obtain ⟨py,oy,ny,t2,u2,rfl,e2,_,d2⟩:=zy
  have f1:=hE _ _ (hk _ _ e1).1 (hk _ _ e1).2
  have f2:=hE _ _ (hk _ _ e2).1 (hk _ _ e2).2
  refine PySem.W.kat_lt f1 d1 f2 d2 ?_
  show PySem.W.KatLex prog w A true _ Q [(.str x1 t1,.str y1 t2),(.str x2 u1,.str y2 u2)] 0 s'
  refine PySem.W.kat_cons (wpAny_eqBool_str (PySem.W.kat_go (fun he=>?_) fun he=>?_))
  ·have he:x1 = y1:=by simpa using he
   refine PySem.W.kat_yes (PySem.W.kat_cons (wpAny_eqBool_str (PySem.W.kat_go (fun he2=>?_) fun he2=>?_)))
   ·have he2:x2 = y2:=by simpa using he2
    refine PySem.W.kat_yes (PySem.W.kat_nil ?_)
    have:pairLt (x1.cps.toList,x2.cps.toList) (y1.cps.toList,y2.cps.toList) = decide (2 < 2):=by
     rw [he,he2]
     exact (pairKind h0).irrefl (y1.cps.toList,y2.cps.toList)
    show Q (decide (2 < 2)) s'
    rw [<-this]
    exact q
   ·refine PySem.W.kat_no (PySem.W.kat_one _ _ (lt_str ?_))
    have:pairLt (x1.cps.toList,x2.cps.toList) (y1.cps.toList,y2.cps.toList) = decide (x2.cps.toList < y2.cps.toList):=by
     rw [he]
     unfold pairLt
     simp [List.lt_irrefl]
    show Q (decide (x2.cps.toList < y2.cps.toList)) s'
    rw [<-this]
    exact q
  ·have he:¬ x1 = y1:=by simpa using he
   refine PySem.W.kat_no (oneLt_str ?_)
   have hne:¬ x1.cps.toList = y1.cps.toList:=fun z=>he (by cases x1; cases y1; simp at z; simp [z])
   have:pairLt (x1.cps.toList,x2.cps.toList) (y1.cps.toList,y2.cps.toList) = decide (x1.cps.toList < y1.cps.toList):=by
    unfold pairLt
    simp [hne]
   rw [<-this]
   exact q
 ·obtain ⟨x,y,z⟩:=hv v hvm
  exact ⟨_,z.key⟩
 ·have hT:∀ (us:List Value),(∀ v ∈ us,∃ x y,PairAt h0 v x y)->∃ fs,PySem.W.KatTups s'.heap us fs/\fs.length = us.length/\∀ v ∈ fs,∃ x t,v = .str x t:=by
   intro us
   induction us with
   | nil=>exact fun _=>⟨[],.nil,rfl,fun v hv=>by simp at hv⟩
   | cons v r ih =>
    intro hus
    obtain ⟨fs,g1,g2,g3⟩:=ih fun u hu=>hus u (List.mem_cons_of_mem _ hu)
    obtain ⟨x,y,p,o,n,t,u,rfl,e,c,d⟩:=hus v (List.mem_cons_self ..)
    refine ⟨.str x t :: fs,.cons (hE _ _ (hk _ _ e).1 (hk _ _ e).2) c d rfl g1,by simp [g2],fun z hz=>?_⟩
    rcases List.mem_cons.mp hz with rfl | hz
    ·exact ⟨x,t,rfl⟩
    ·exact g3 z hz
  obtain ⟨fs,g1,g2,g3⟩:=hT vs hv
  refine PySem.W.kat_kind (T:=.type "str") g1 (by omega) (fun v hv=>?_) (by rfl) q
  obtain ⟨x,t,rfl⟩:=g3 v hv
  exact .now
end
end TS
set_option Elab.async false
namespace L2
open PySem PySem.Spec PyProof.Rows
noncomputable abbrev Key:=Sum Int Str
noncomputable def keyIs:Key->Value->Bool
 | .inl k,v=>Value.isInt k v
 | .inr x,v=>Value.isStrOf x v
noncomputable def keyH (w:World):Key->Int
 | .inl k=>hashInt k
 | .inr x=>hashStr w x
theorem keyIs_shape:∀ {k:Key} {v:Value},keyIs k v = true->(∃ i t,k = Sum.inl i/\v = Value.int i t)\/(∃ x t,k = Sum.inr x/\v = Value.str x t)
 | .inl i,v,h=>by
  obtain ⟨t,e⟩:=Value.isInt_shape (k:=i) (v:=v) h
  exact .inl ⟨i,t,rfl,e⟩
 | .inr x,v,h=>by
  obtain ⟨t,e⟩:=Value.isStrOf_shape (x:=x) (v:=v) h
  exact .inr ⟨x,t,rfl,e⟩
theorem keyIs_int (i:Int) (t:Tok):keyIs (.inl i) (.int i t) = true:=by simp [keyIs,Value.isInt]
theorem keyIs_str (x:Str) (t:Tok):keyIs (.inr x) (.str x t) = true:=by simp [keyIs,Value.isStrOf]
theorem key_ll (a b:Int):decide ((Sum.inl a:Key) = Sum.inl b) = (a == b):=by
 by_cases e:a = b
 ·subst e; simp
 ·have h:¬ (Sum.inl a:Key) = Sum.inl b:=fun q=>e (Sum.inl.inj q)
  rw [decide_eq_false h]
  exact (beq_eq_false_iff_ne.mpr e).symm
theorem key_rr (a b:Str):decide ((Sum.inr a:Key) = Sum.inr b) = decide (a = b):=by
 by_cases e:a = b
 ·subst e; simp
 ·have h:¬ (Sum.inr a:Key) = Sum.inr b:=fun q=>e (Sum.inr.inj q)
  rw [decide_eq_false h,decide_eq_false e]
theorem key_lr (a:Int) (b:Str):decide ((Sum.inl a:Key) = Sum.inr b) = false:=decide_eq_false (fun q=>nomatch q)
theorem key_rl (a:Str) (b:Int):decide ((Sum.inr a:Key) = Sum.inl b) = false:=decide_eq_false (fun q=>nomatch q)
noncomputable def mixKind (prog:Program) (w:World):PySem.KeyKind prog w Key where
 is:=keyIs
 hash:=keyH w
 inj:=fun v a b ha hb=>by
  rcases keyIs_shape ha with ⟨i,t,rfl,rfl⟩ | ⟨x,t,rfl,rfl⟩
  ·rcases keyIs_shape hb with ⟨j,u,rfl,e⟩ | ⟨y,u,rfl,e⟩
   ·injection e with e1 _; rw [e1]
   ·exact nomatch e
  ·rcases keyIs_shape hb with ⟨j,u,rfl,e⟩ | ⟨y,u,rfl,e⟩
   ·exact nomatch e
   ·injection e with e1 _; rw [e1]
 byValue:=fun k v h=>by
  rcases keyIs_shape h with ⟨i,t,rfl,rfl⟩ | ⟨x,t,rfl,rfl⟩ <;> rfl
 pyHash:=fun hv h=>by
  rcases keyIs_shape hv with ⟨i,t,rfl,rfl⟩ | ⟨x,t,rfl,rfl⟩
  ·exact wpAny_pyHash_int h
  ·exact wpAny_pyHash_str h
 eqBool:=fun hu hv h=>by
  rcases keyIs_shape hu with ⟨i,t,rfl,rfl⟩ | ⟨x,t,rfl,rfl⟩
  ·rcases keyIs_shape hv with ⟨j,u,rfl,rfl⟩ | ⟨y,u,rfl,rfl⟩
   ·rw [key_ll] at h; exact wpAny_eqBool_int h
   ·rw [key_lr] at h; exact SeqAt.EqAt.int_str i t y u _ _ _ _ h
  ·rcases keyIs_shape hv with ⟨j,u,rfl,rfl⟩ | ⟨y,u,rfl,rfl⟩
   ·rw [key_rl] at h; exact SeqAt.EqAt.str_int x t j u _ _ _ _ h
   ·rw [key_rr] at h; exact wpAny_eqBool_str h
 «strs»:=fun k x t v h=>by
  rcases keyIs_shape h with ⟨i,u,rfl,e⟩ | ⟨y,u,rfl,e⟩
  ·exact nomatch e
  ·injection e with e1 _
   subst e1
   cases v <;> rfl
theorem mixKind_int (prog:Program) (w:World) (i:Int) (t:Tok):(mixKind prog w).is (.inl i) (.int i t) = true:=keyIs_int i t
theorem mixKind_str (prog:Program) (w:World) (x:Str) (t:Tok):(mixKind prog w).is (.inr x) (.str x t) = true:=keyIs_str x t
end L2
namespace L2
open PySem PySem.Spec PyProof.Rows
inductive V where
 | non | bl (b:Bool) | int (i:Int) | str (x:Str) | byt (b:Array UInt8) | flt (b:UInt64) | ref (a:Addr) | ty (n:String)
 deriving DecidableEq
noncomputable def RelV:V->Value->Prop
 | .non,u=>u = Value.none
 | .bl b,u=>u = Value.bool b
 | .int i,u=>∃ t,u = Value.int i t
 | .str x,u=>∃ t,u = Value.str x t
 | .byt b,u=>∃ t,u = Value.bytes b t
 | .flt b,u=>∃ t,u = Value.float b t
 | .ref a,u=>u = Value.ref a
 | .ty n,u=>u = Value.type n
noncomputable abbrev Vals:List V->List Value->Prop:=Paired RelV
theorem Vals.length {xs:List V} {us:List Value} (r:Vals xs us):xs.length = us.length:=Paired.length r
theorem Vals.get:∀ {xs:List V} {us:List Value} {i:Nat} {x:V},Vals xs us->xs[i]? = some x->∃ u,us[i]? = some u/\RelV x u
 | _,_,_,_,.nil,e=>by simp at e
 | _,_,0,_,.cons r _,e=>by simp at e; subst e; exact ⟨_,rfl,r⟩
 | _,_,i + 1,x,.cons _ t,e=>by
  obtain ⟨u,h1,h2⟩:=Vals.get (i:=i) (x:=x) t (by simpa using e)
  exact ⟨u,by simpa using h1,h2⟩
theorem Vals.set {x:V} {u:Value} (r:RelV x u):∀ {xs:List V} {us:List Value} (i:Nat),Vals xs us->Vals (xs.set i x) (us.set i u)
 | _,_,_,.nil=>.nil
 | _,_,0,.cons _ t=>.cons r t
 | _,_,i + 1,.cons q t=>.cons q (Vals.set r i t)
theorem Vals.append:∀ {xs ys:List V} {us ws:List Value},Vals xs us->Vals ys ws->Vals (xs ++ ys) (us ++ ws)
 | _,_,_,_,.nil,s=>s
 | _,_,_,_,.cons r t,s=>.cons r (Vals.append t s)
theorem Vals.take:∀ {xs:List V} {us:List Value} (n:Nat),Vals xs us->Vals (xs.take n) (us.take n)
 | _,_,0,_=>.nil
 | _,_,_ + 1,.nil=>.nil
 | _,_,n + 1,.cons r t=>.cons r (Vals.take n t)
theorem Vals.drop:∀ {xs:List V} {us:List Value} (n:Nat),Vals xs us->Vals (xs.drop n) (us.drop n)
 | _,_,0,r=>r
 | _,_,_ + 1,.nil=>.nil
 | _,_,n + 1,.cons _ t=>Vals.drop n t
noncomputable def RelO:Option V->Option Value->Prop
 | some v,some u=>RelV v u
 | none,none=>True
 | _,_=>False
noncomputable def KV {κ:Type}:List (κ × V)->List (κ × Value)->Prop:=Paired fun (p:κ × V) (q:κ × Value)=>p.1 = q.1/\RelV p.2 q.2
noncomputable def kV:Key->V
 | .inl i=>.int i
 | .inr x=>.str x
inductive HO where
 | lst (xs:List V)
 | tup (xs:List V)
 | dK (kvs:List (Key × V)) | dT (kvs:List (List Key × V))
 | set (S:Int->Bool) (n:Nat)
 | ins (C dx:Addr) (fs:List (Str × V))
 | own (x:Addr)
 | xd (fs:List (Str × V))
 | met (f x:Addr)
 | rng (lo hi:Int)
 | frz (o:Obj) (u:HO)
 | tbl (ps:Array Value)
 | ext (φ:Heap->Prop)
set_option genInjectivity false
noncomputable abbrev Hp:=Addr->Option HO
noncomputable def upd (H:Hp) (a:Addr) (o:HO):Hp:=fun b=>if b = a then some o else H b
theorem upd_same {H:Hp} {a:Addr} {o:HO}:upd H a o a = some o:=by unfold upd; rw [if_pos rfl]
theorem upd_ne {H:Hp} {a b:Addr} {o:HO} (h:b ≠ a):upd H a o b = H b:=by unfold upd; rw [if_neg h]
theorem ne_of {H:Hp} {a b:Addr} {o u:HO} (h:H a = some o) (h':H b = some u) (d:o ≠ u):a ≠ b:=by
 intro e; subst e; rw [h] at h'; exact d (Option.some.inj h')
theorem ne_of_none {H:Hp} {a b:Addr} {o:HO} (h:H a = some o) (h':H b = none):a ≠ b:=by
 intro e; subst e; rw [h] at h'; cases h'
section
variable (P:Program) (w:World)
noncomputable def ObjOk (H:Hp) (h:Heap) (a:Addr):HO->Prop
 | .lst xs=>xs.length<=sizeLine/\∃ (its:List Value) (n:Nat),Vals xs its/\h.get? a = some { cls:=.type "list",data:=.seq its.toArray n }
 | .tup xs=>xs.length<=sizeLine/\∃ its:List Value,Vals xs its/\IsTup h a its.toArray
 | .dK kvs=>kvs.length<=sizeLine/\(a == sysModules) = false/\∃ vs,KV kvs vs/\h.DictOf (mixKind P w) a vs
 | .dT kvs=>kvs.length<=sizeLine/\(a == sysModules) = false/\∃ xs:List (List Key × Addr × Value),
   Paired (fun (p:List Key × V) (q:List Key × Addr × Value)=>p.1 = q.1/\H q.2.1 = some (.tup (p.1.map kV))/\RelV p.2 q.2.2) kvs xs /\
   ∃ o es ep,h.get? a = some o/\o.ExactDict/\o.data = .dict es ep/\es.toList = xs.map (entryOfKey (tupleKind (mixKind P w)))/\(xs.map (·.1)).Nodup
 | .set S n=>h.SetOf (intKind P w) a S n
 | .ins C dx fs=>H dx = some (.own a)/\fs.length<=1000/\dx ≠ a/\h.get? a = some (PySem.W.instObj C dx) /\
   ∃ mA,h.Ns1 dx mA/\(∀ f,RelO (fs.lookup f) (mA f))/\PySem.Within mA (fs.map (·.1))
 | .own _=>∃ o,h.get? a = some o
 | .xd fs=>∃ mA,h.Ns1 a mA/\∀ f,RelO (fs.lookup f) (mA f)
 | .rng lo hi=>∃ t u v,h.get? a = some { cls:=.type "range",data:=.fields #[.int lo t,.int hi u,.int 1 v] }
 | .frz o u=>h.get? a = some o/\ObjOk H h a u
 | .tbl ps=>h.get? a = some { cls:=.none,data:=.fields ps }
 | .met f x=>h.get? a = some (PySem.W.methodObj (.ref f) (.ref x))
 | .ext φ=>φ h/\(∃ o,h.get? a = some o)/\∀ h1 h2:Heap,φ h1->(∀ o,h1.get? a = some o->h2.get? a = some o)->φ h2
noncomputable def HOk (H:Hp) (h:Heap):Prop:=∀ a o,H a = some o->ObjOk P w H h a o
end
section
variable {P:Program} {w:World} {H H':Hp} {h h':Heap} {a:Addr} {o:HO}
theorem ObjOk.lt (x:ObjOk P w H h a o):a < h.objs.size:=by
 cases o with
 | lst xs=>obtain ⟨_,_,_,_,e⟩:=x; exact Heap.lt_size e
 | tup xs=>obtain ⟨_,_,_,p⟩:=x; exact p.lt
 | dK kvs=>obtain ⟨_,_,_,_,o,_,_,e,_⟩:=x; exact Heap.lt_size e
 | dT kvs=>obtain ⟨_,_,_,_,o,_,_,e,_⟩:=x; exact Heap.lt_size e
 | set S n=>obtain ⟨o,_,_,_,e,_⟩:=x; exact Heap.lt_size e
 | ins C dx fs=>obtain ⟨_,_,_,e,_⟩:=x; exact Heap.lt_size e
 | own y=>obtain ⟨_,e⟩:=x; exact Heap.lt_size e
 | xd fs=>obtain ⟨_,⟨_,_,_,e,_⟩,_⟩:=x; exact Heap.lt_size e
 | rng lo hi=>obtain ⟨_,_,_,e⟩:=x; exact Heap.lt_size e
 | frz ob u=>obtain ⟨e,_⟩:=x; exact Heap.lt_size e
 | tbl ps=>exact Heap.lt_size (show h.get? a = some _ from x)
 | met f y=>exact Heap.lt_size (show h.get? a = some _ from x)
 | ext φ=>obtain ⟨_,⟨_,e⟩,_⟩:=x; exact Heap.lt_size e
theorem Paired.mapP {α β:Type} {F G:α->β->Prop}:∀ {l₁:List α} {l₂:List β},Paired F l₁ l₂->(∀ a b,F a b->G a b)->Paired G l₁ l₂
 | _,_,.nil,_=>.nil
 | _,_,.cons r t,f=>.cons (f _ _ r) (Paired.mapP t f)
theorem ObjOk.stay (x:ObjOk P w H h a o) (k:∀ b u,(b = a\/H b = some (.own a))->h.get? b = some u->h'.get? b = some u)
  (ho:∀ b,H b = some (.own a)->H' b = some (.own a)) (ht:∀ b xs,H b = some (.tup xs)->H' b = some (.tup xs)):ObjOk P w H' h' a o:=by
 induction o with
 | lst xs=>obtain ⟨z,its,n,r,e⟩:=x; exact ⟨z,its,n,r,k _ _ (.inl rfl) e⟩
 | tup xs=>obtain ⟨z,its,r,ob,e,c⟩:=x; exact ⟨z,its,r,ob,k _ _ (.inl rfl) e,c⟩
 | dK kvs=>obtain ⟨z,y,vs,r,ob,es,ep,e,c⟩:=x; exact ⟨z,y,vs,r,ob,es,ep,k _ _ (.inl rfl) e,c⟩
 | dT kvs =>
  obtain ⟨z,y,xs,r,ob,es,ep,e,c⟩:=x
  exact ⟨z,y,xs,Paired.mapP r fun p q z=>⟨z.1,ht _ _ z.2.1,z.2.2⟩,ob,es,ep,k _ _ (.inl rfl) e,c⟩
 | set S n=>obtain ⟨ob,es,ep,t,e,c⟩:=x; exact ⟨ob,es,ep,t,k _ _ (.inl rfl) e,c⟩
 | ins C dx fs =>
  obtain ⟨d,z,ne,e,mA,⟨od,es,ep,e2,c⟩,r⟩:=x
  exact ⟨ho _ d,z,ne,k _ _ (.inl rfl) e,mA,⟨od,es,ep,k _ _ (.inr d) e2,c⟩,r⟩
 | own y=>obtain ⟨ob,e⟩:=x; exact ⟨ob,k _ _ (.inl rfl) e⟩
 | xd fs=>obtain ⟨mA,⟨od,es,ep,e,c⟩,r⟩:=x; exact ⟨mA,⟨od,es,ep,k _ _ (.inl rfl) e,c⟩,r⟩
 | rng lo hi=>obtain ⟨t,u,v,e⟩:=x; exact ⟨t,u,v,k _ _ (.inl rfl) e⟩
 | frz ob u ih=>obtain ⟨e,q⟩:=x; exact ⟨k _ _ (.inl rfl) e,ih q⟩
 | tbl ps =>
  have e:h.get? a = some { cls:=.none,data:=.fields ps }:=x
  show h'.get? a = some { cls:=.none,data:=.fields ps }
  exact k a _ (.inl rfl) e
 | met f y =>
  have e:h.get? a = some (PySem.W.methodObj (.ref f) (.ref y)):=x
  show h'.get? a = some (PySem.W.methodObj (.ref f) (.ref y))
  exact k a _ (.inl rfl) e
 | ext φ=>obtain ⟨p,⟨o,e⟩,st⟩:=x; exact ⟨st _ _ p fun o q=>k _ _ (.inl rfl) q,⟨o,k _ _ (.inl rfl) e⟩,st⟩
theorem HOk.lt (x:HOk P w H h) (e:H a = some o):a < h.objs.size:=(x a o e).lt
theorem HOk.fresh (x:HOk P w H h) (e:h.objs.size<=a):H a = none:=by
 cases q:H a with
 | none=>rfl
 | some u=>exact absurd (Nat.lt_of_lt_of_le (x.lt q) e) (Nat.lt_irrefl _)
theorem HOk.kept (x:HOk P w H h) (k:∀ b u,h.get? b = some u->h'.get? b = some u):HOk P w H h':=fun a o e =>
 (x a o e).stay (fun b u _ q=>k b u q) (fun _ q=>q) fun _ _ q=>q
theorem HOk.laid (x:HOk P w H h) (k:∀ b u,h.get? b = some u->h'.get? b = some u) (hp:h.objs.size<=a) (new:ObjOk P w (upd H a o) h' a o):HOk P w (upd H a o) h':=fun b u e=>by
 have hn:=x.fresh hp
 by_cases hb:b = a
 ·subst hb; rw [upd_same] at e; cases e; exact new
 ·rw [upd_ne hb] at e
  exact (x b u e).stay (fun c v _ q=>k c v q) (fun c q=>by rw [upd_ne (ne_of_none q hn)]; exact q) fun c xs q=>by rw [upd_ne (ne_of_none q hn)]; exact q
end
noncomputable def Rd (H:Hp) (a:Addr) (u:HO):Prop:=H a = some u\/∃ o,H a = some (.frz o u)
theorem Rd.ok {P:Program} {w:World} {H:Hp} {h:Heap} {a:Addr} {u:HO} (r:Rd H a u) (x:HOk P w H h):ObjOk P w H h a u:=by
 rcases r with r | ⟨o,r⟩
 ·exact x a u r
 ·obtain ⟨_,q⟩:=x a _ r
  exact q
noncomputable def Mut:Option HO->Prop
 | some (.lst _)=>True
 | some (.dK _)=>True
 | some (.dT _)=>True
 | some (.set _ _)=>True
 | some (.ins _ _ _)=>True
 | some (.ext _)=>True
 | _=>False
section
variable {P:Program} {w:World} {H:Hp} {h h':Heap} {x e:Addr} {o':HO}
theorem HOk.write (ok:HOk P w H h) (mu:Mut (H x)) (he:e = x\/H e = some (.own x)) (k:∀ b u,b ≠ e->h.get? b = some u->h'.get? b = some u) (heo:∃ u,h'.get? e = some u)
  (new:ObjOk P w (upd H x o') h' x o'):HOk P w (upd H x o') h':=fun b u q=>by
 have nown:∀ c y,H c = some (.own y)->c ≠ x:=fun c y r z=>by subst z; rw [r] at mu; exact mu
 have ntup:∀ c xs,H c = some (.tup xs)->c ≠ x:=fun c xs r z=>by subst z; rw [r] at mu; exact mu
 by_cases hb:b = x
 ·subst hb; rw [upd_same] at q; cases q; exact new
 ·rw [upd_ne hb] at q
  by_cases hbe:b = e
  ·have q':H b = some (.own x):=by
    rcases he with z | z
    ·exact absurd (hbe.trans z) hb
    ·rw [hbe]; exact z
   rw [q] at q'; cases q'
   obtain ⟨v,hv⟩:=heo
   exact ⟨v,by rw [hbe]; exact hv⟩
  ·refine (ok b u q).stay (fun c v hc r=>k c v ?_ r) (fun c r=>by rw [upd_ne (nown c b r)]; exact r) fun c xs r=>by rw [upd_ne (ntup c xs r)]; exact r
   rcases hc with rfl | hc
   ·exact hbe
   ·rintro rfl
    rcases he with z | z
    ·exact nown c b hc z
    ·rw [hc] at z; cases z; exact hb rfl
end
structure Un (fs ex:List Addr) (H H':Hp) (h h':Heap):Prop where
 keep:∀ b o,h.get? b = some o->H b = none->b ∉ fs->b ∉ ex->h'.get? b = some o
 slot:∀ b o,h.get? b = some o->H b = none->b ∈ fs->b ∉ ex->∃ sl,h'.get? b = some { o with slots:=sl }
 free:∀ b o,h.get? b = some o->H b = none->b ∉ ex->H' b = none
 there:∀ b o,h.get? b = some o->b ∉ ex->∃ o',h'.get? b = some o'
 tups:∀ b xs,H b = some (.tup xs)->H' b = some (.tup xs)
 frzs:∀ b o u,H b = some (.frz o u)->H' b = some (.frz o u)
 tbls:∀ b ps,H b = some (.tbl ps)->∃ more,H' b = some (.tbl (ps ++ more))
section
variable {fs fs' ex ex':List Addr} {H H1 H2:Hp} {h h1 h2 h':Heap} {a x e:Addr} {o:HO}
theorem Un.any (u:Un fs ex H H1 h h1) {b:Addr} {ob:Obj} (q:h.get? b = some ob) (n:H b = none) (hx:b ∉ ex):∃ sl,h1.get? b = some { ob with slots:=sl }:=by
 by_cases hb:b ∈ fs
 ·exact u.slot b ob q n hb hx
 ·exact ⟨ob.slots,u.keep b ob q n hb hx⟩
theorem Un.kept (k:∀ b u,h.get? b = some u->h'.get? b = some u):Un fs ex H H h h' :=
 ⟨fun b ob q _ _ _=>k b ob q,fun b ob q _ _ _=>⟨ob.slots,k b ob q⟩,fun _ _ _ n _=>n,fun b ob q _=>⟨ob,k b ob q⟩,fun _ _ q=>q,fun _ _ _ q=>q,fun _ ps q=>⟨#[],by rw [q]; simp⟩⟩
theorem Un.refl:Un fs ex H H h h:=Un.kept fun _ _ q=>q
theorem Un.laid (k:∀ b u,h.get? b = some u->h'.get? b = some u) (hp:h.objs.size<=a) (hn:H a = none):Un fs ex H (upd H a o) h h' where
 keep:=fun b u q _ _ _=>k b u q
 slot:=fun b u q _ _ _=>⟨u.slots,k b u q⟩
 free:=fun b u q n _=>by rw [upd_ne (Nat.ne_of_lt (Nat.lt_of_lt_of_le (Heap.lt_size q) hp))]; exact n
 there:=fun b u q _=>⟨u,k b u q⟩
 tups:=fun b xs q=>by rw [upd_ne (ne_of_none q hn)]; exact q
 frzs:=fun b u xs q=>by rw [upd_ne (ne_of_none q hn)]; exact q
 tbls:=fun b ps q=>⟨#[],by rw [upd_ne (ne_of_none q hn),q]; simp⟩
theorem Un.write (mu:Mut (H x)) (he:e = x\/H e = some (.own x)) (k:∀ b u,b ≠ e->h.get? b = some u->h'.get? b = some u) (heo:∃ u,h'.get? e = some u):Un fs ex H (upd H x o) h h':=by
 have hx:∀ b,H b = none->b ≠ x:=fun b n z=>by subst z; rw [n] at mu; exact mu
 have hb:∀ b,H b = none->b ≠ e:=fun b n z=>by
  subst z
  rcases he with r | r
  ·exact hx b n r
  ·rw [n] at r; cases r
 have hm:∀ b u,H b = some u->¬ Mut (some u)->b ≠ x:=fun b u q nm z=>by subst z; rw [q] at mu; exact nm mu
 refine ⟨fun b u q n _ _=>k b u (hb b n) q,fun b u q n _ _=>⟨u.slots,k b u (hb b n) q⟩,fun b u q n _=>by rw [upd_ne (hx b n)]; exact n,fun b u q _=>?_,
  fun b xs q=>by rw [upd_ne (hm b _ q fun z=>z)]; exact q,fun b u xs q=>by rw [upd_ne (hm b _ q fun z=>z)]; exact q,fun b ps q=>⟨#[],by rw [upd_ne (hm b _ q fun z=>z),q]; simp⟩⟩
 by_cases hbe:b = e
 ·subst hbe; exact heo
 ·exact ⟨u,k b u hbe q⟩
end
noncomputable def trk (h:Heap) (H:Hp):List Addr:=(List.range h.objs.size).filter fun a=>(H a).isSome
noncomputable def hidT (h:Heap) (H:Hp):Heap:=PySem.W.hideAll h (trk h H)
theorem hidT_size (h:Heap) (H:Hp):(hidT h H).objs.size = h.objs.size:=PySem.W.hideAll_size _ _
theorem hidT_get {h:Heap} {H:Hp} {b:Addr} {o:Obj} (e:h.get? b = some o) (n:H b = none):(hidT h H).get? b = some o :=
 PySem.W.hideAll_get _ e fun hm=>by
  have q:(H b).isSome = true:=(List.mem_filter.mp hm).2
  rw [n] at q; simp at q
theorem of_hidT {h:Heap} {H:Hp} {b:Addr} {o:Obj} (e:(hidT h H).get? b = some o):h.get? b = some o/\H b = none:=by
 have e':h.get? b = some o:=PySem.W.of_hideAll (trk h H) e
 refine ⟨e',?_⟩
 cases q:H b with
 | none=>rfl
 | some x =>
  have hm:b ∈ trk h H:=List.mem_filter.mpr ⟨List.mem_range.mpr (Heap.lt_size e'),by simp [q]⟩
  have z:(hidT h H).get? b = none:=PySem.W.hideAll_none (trk h H) hm
  rw [z] at e; cases e
end L2
namespace L2
open PySem PySem.Spec PyProof.Rows
structure Mod (K:PySem.W.Frag) (mg:Str->Option Value) (base:Heap):Prop where
 kin:K.In base
 glob:base.Ns mainGlobals mg
 blt:∃ mb,base.Ns builtinsNs mb/\∀ x:Str,x ≠ "__name__"->mb x = bootBuiltins x
 nolimit:base.NoLimit
structure Cx where
 prog:Program
 w:World
 K:PySem.W.Frag
 mg:Str->Option Value
 base:Heap
 A:Around
 N:List Str
 s₀:Shared
 H₀:Hp
 env:Env
 outer:List Env
 stack:List Env
 ex:List Addr
 fn:Str->Bool
 calm:Bool
 pn:List (Addr × Obj)
 xe:Value->Shared->Prop
noncomputable def frs (l:List Env):List Addr:=l.filterMap (·.frame)
noncomputable abbrev Cx.fs (X:Cx):List Addr:=frs X.outer
noncomputable def Vis (sc:Scope) (x:Str):Prop:=sc.names.lookup x = some .local\/sc.names.lookup x = some .cell\/sc.names.lookup x = some .free
noncomputable def Loc (sc:Scope) (x:Str):Prop:=sc.names.lookup x = some .local\/sc.names.lookup x = some .cell
noncomputable def Look (env:Env) (h:Heap) (m:Str->Option Value) (x:Str) (u:Value):Prop :=
 (env.kindOf x = some .local/\m x = some u)\/((env.kindOf x = some .cell\/env.kindOf x = some .free)/\∃ c,env.cells.lookup x = some c/\h.IsCell c (some u))
structure Cx.Ok (X:Cx):Prop where
 mod:Mod X.K X.mg X.base
 kind:X.env.scope.kind = .function
 glob:X.env.globals = mainGlobals
 blt:X.env.builtins = builtinsNs
 above:X.s₀.heap.objs.size<=X.env.locals
 inj:∀ x y c,X.env.cells.lookup x = some c->X.env.cells.lookup y = some c->x = y
 has:∀ x,(X.env.kindOf x = some .cell\/X.env.kindOf x = some .free)->∃ c,X.env.cells.lookup x = some c
 cab:∀ x c,X.fn x = true->X.env.cells.lookup x = some c->X.s₀.heap.objs.size<=c
 hd:X.calm = true->X.A.handled = none
 frames:X.A.frames = some X.stack
 stk:X.stack = X.outer\/(X.stack = X.env :: X.outer/\X.env.frame = some X.env.locals)
 exf:∀ b ∈ X.ex,b ≠ X.env.locals/\∀ x c,X.env.cells.lookup x = some c->c ≠ b
 bs:∀ b o,X.base.get? b = some o->X.s₀.heap.get? b = some o/\X.H₀ b = none
 bsz:X.base.objs.size<=X.s₀.heap.objs.size
 noex:∀ b o,X.base.get? b = some o->b ∉ X.ex
 exfs:∀ b ∈ X.ex,b ∉ X.fs
 funs:X.s₀.heap.FunFrames X.base X.outer
 frf:∀ b ∈ X.fs,X.H₀ b = none
structure Inv (X:Cx) (pins:List (Addr × Obj)) (σ:List (Option V)) (H:Hp) (s:Shared):Prop where
 ok:X.Ok
 os:s.os = X.s₀.os
 bare:AllBare s.gens
 base:Un X.fs X.ex X.H₀ H X.s₀.heap s.heap
 loc:∃ m,s.heap.Ns X.env.locals m/\∀ (i:Nat) (x:Str) (v:V),X.N[i]? = some x->σ[i]? = some (some v)->Vis X.env.scope x->∃ u,RelV v u/\Look X.env s.heap m x u
 cell:∀ x c,X.env.cells.lookup x = some c->∃ v,s.heap.IsCell c v
 free:H X.env.locals = none
 freeC:∀ x c,X.env.cells.lookup x = some c->H c = none
 pin:∀ p ∈ X.pn ++ pins,s.heap.get? p.1 = some p.2/\H p.1 = none/\p.1 ≠ X.env.locals/\p.1 ∉ X.fs/\∀ v,p.2.data ≠ .cell v
 hok:HOk X.prog X.w H s.heap
 len:σ.length = X.N.length
section
variable {X:Cx} {pins:List (Addr × Obj)} {σ:List (Option V)} {H H':Hp} {s:Shared} {h':Heap}
theorem Cx.Ok.nofr (ok:X.Ok) {b:Addr} {o:Obj} (e:X.base.get? b = some o):b ∉ X.fs:=fun hb=>by
 have:=(ok.funs.mem hb).1
 rw [e] at this; cases this
theorem Inv.bs (I:Inv X pins σ H s):∀ b o,X.base.get? b = some o->s.heap.get? b = some o/\H b = none:=fun b o e =>
 ⟨I.base.keep b o (I.ok.bs b o e).1 (I.ok.bs b o e).2 (I.ok.nofr e) (I.ok.noex b o e),I.base.free b o (I.ok.bs b o e).1 (I.ok.bs b o e).2 (I.ok.noex b o e)⟩
theorem Inv.bk (I:Inv X pins σ H s):∀ b o,X.base.get? b = some o->s.heap.get? b = some o:=fun b o e=>(I.bs b o e).1
theorem Inv.mod (I:Inv X pins σ H s):Mod X.K X.mg X.base:=I.ok.mod
theorem Inv.kIn (I:Inv X pins σ H s):X.K.In s.heap:=I.ok.mod.kin.keeps I.bk
theorem Inv.lt (I:Inv X pins σ H s):X.env.locals < s.heap.objs.size:=let ⟨_,hn,_⟩:=I.loc; hn.lt
theorem Inv.sz (I:Inv X pins σ H s):X.s₀.heap.objs.size<=s.heap.objs.size:=Nat.le_trans I.ok.above (Nat.le_of_lt I.lt)
theorem Inv.nofs (I:Inv X pins σ H s) {a:Addr} (h:s.heap.objs.size<=a):a ∉ X.fs:=fun hb=>by
 obtain ⟨_,o,ho,_⟩:=I.ok.funs.mem hb
 exact absurd (Nat.lt_of_lt_of_le (Heap.lt_size ho) (Nat.le_trans I.sz h)) (Nat.lt_irrefl _)
theorem Inv.cne (I:Inv X pins σ H s):∀ x c,X.env.cells.lookup x = some c->c ≠ X.env.locals:=fun x c e z=>by
 obtain ⟨v,o,ho,hd⟩:=I.cell x c e
 obtain ⟨m,⟨o',es,ep,ho',hd',_⟩,_⟩:=I.loc
 rw [z,ho'] at ho; cases ho; rw [hd'] at hd; cases hd
theorem Inv.funs (I:Inv X pins σ H s):s.heap.FunFrames X.base X.outer:=by
 have all:∀ (l:List Env),(∀ b ∈ frs l,b ∈ X.fs)->X.s₀.heap.FunFrames X.base l->s.heap.FunFrames X.base l:=by
  intro l
  induction l with
  | nil=>intro _ _; trivial
  | cons env r ih =>
   intro hs hl
   obtain ⟨hk,⟨L,o,hf,hn,ho,hd⟩,hr⟩:=hl
   have hL:L ∈ X.fs:=hs L (by unfold frs; rw [List.filterMap_cons,hf]; exact List.mem_cons_self)
   obtain ⟨sl,e⟩:=I.base.slot L o ho (I.ok.frf L hL) hL fun z=>I.ok.exfs L z hL
   exact ⟨hk,⟨L,_,hf,hn,e,hd⟩,ih (fun b hb=>hs b (by unfold frs; rw [List.filterMap_cons,hf]; exact List.mem_cons_of_mem _ hb)) hr⟩
 exact all X.outer (fun _ hb=>hb) I.ok.funs
theorem Inv.stack (I:Inv X pins σ H s):s.heap.FunFrames X.base X.stack:=by
 rcases I.ok.stk with e | ⟨e,hf⟩
 ·rw [e]; exact I.funs
 ·rw [e]
  obtain ⟨m,hn,_⟩:=I.loc
  refine .cons (by rw [I.ok.kind]; decide) hf hn ?_ I.funs
  exact Heap.get?_none_of_le (Nat.le_trans I.ok.bsz I.ok.above)
theorem Inv.stkSub (I:Inv X pins σ H s):∀ b ∈ frs X.stack,b ∈ X.env.locals :: X.fs:=fun b hb=>by
 rcases I.ok.stk with e | ⟨e,hf⟩
 ·rw [e] at hb; exact List.mem_cons_of_mem _ hb
 ·rw [e] at hb
  unfold frs at hb
  rw [List.filterMap_cons,hf] at hb
  exact hb
theorem Inv.stkFree (I:Inv X pins σ H s):∀ b ∈ frs X.stack,H b = none:=fun b hb=>by
 rcases List.mem_cons.mp (I.stkSub b hb) with e | hb
 ·rw [e]; exact I.free
 ·obtain ⟨_,o,ho,_⟩:=I.ok.funs.mem hb
  exact I.base.free b o ho (I.ok.frf b hb) fun z=>I.ok.exfs b z hb
theorem Inv.step {g':Array GenState} {t':Nat} {d':Drawn} {ch:List Addr} (I:Inv X pins σ H s)
  (hch:∀ b ∈ ch,(b ∈ X.ex\/X.s₀.heap.objs.size<=b)/\b ≠ X.env.locals/\(∀ x c,X.env.cells.lookup x = some c->c ≠ b)/\∀ p ∈ X.pn ++ pins,p.1 ≠ b)
  (keep:∀ b o,b ≠ X.env.locals->b ∉ X.fs->b ∉ ch->s.heap.get? b = some o->H b = none->h'.get? b = some o)
  (slot:∀ b o,b ≠ X.env.locals->b ∈ X.fs->b ∉ ch->s.heap.get? b = some o->H b = none->∃ sl,h'.get? b = some { o with slots:=sl }) (free:∀ b o,b ∉ ch->s.heap.get? b = some o->H b = none->H' b = none)
  (there:∀ b o,b ∉ ch->s.heap.get? b = some o->∃ o',h'.get? b = some o')
  (tups:∀ b xs,H b = some (.tup xs)->H' b = some (.tup xs)) (frzs:∀ b o u,H b = some (.frz o u)->H' b = some (.frz o u)) (tbls:∀ b ps,H b = some (.tbl ps)->∃ more,H' b = some (.tbl (ps ++ more)))
  (ns:∀ m,s.heap.Ns X.env.locals m->h'.Ns X.env.locals m) (hok:HOk X.prog X.w H' h') (hg:AllBare g') :
  Inv X pins σ H' { s with heap:=h',gens:=g',drawn:=d',toks:=t' }:=by
 have neL:∀ b o,X.s₀.heap.get? b = some o->b ≠ X.env.locals:=fun b o e=>Nat.ne_of_lt (Nat.lt_of_lt_of_le (Heap.lt_size e) I.ok.above)
 have neC:∀ b o,X.s₀.heap.get? b = some o->b ∉ X.ex->b ∉ ch:=fun b o e hx hb=>by
  rcases (hch b hb).1 with z | z
  ·exact hx z
  ·exact absurd (Nat.lt_of_lt_of_le (Heap.lt_size e) z) (Nat.lt_irrefl _)
 have cellK:∀ x c,X.env.cells.lookup x = some c->∀ v,s.heap.IsCell c v->h'.IsCell c v:=fun x c e v ⟨o,ho,hd⟩=>by
  have nch:c ∉ ch:=fun z=>(hch c z).2.2.1 x c e rfl
  by_cases hc:c ∈ X.fs
  ·obtain ⟨sl,q⟩:=slot c o (I.cne x c e) hc nch ho (I.freeC x c e)
   exact ⟨_,q,hd⟩
  ·exact ⟨o,keep c o (I.cne x c e) hc nch ho (I.freeC x c e),hd⟩
 refine ⟨I.ok,I.os,hg,⟨fun b o e n hb hx=>?_,fun b o e n hb hx=>?_,fun b o e n hx=>?_,fun b o e hx=>?_,fun b xs e=>tups b xs (I.base.tups b xs e),fun b o xs e=>frzs b o xs (I.base.frzs b o xs e),fun b ps e=>?_⟩,?_,fun x c e=>?_,?_,fun x c e=>?_,fun p hp=>?_,hok,I.len⟩
 ·exact keep b o (neL b o e) hb (neC b o e hx) (I.base.keep b o e n hb hx) (I.base.free b o e n hx)
 ·obtain ⟨sl,e1⟩:=I.base.slot b o e n hb hx
  obtain ⟨sl',e2⟩:=slot b _ (neL b o e) hb (neC b o e hx) e1 (I.base.free b o e n hx)
  exact ⟨sl',e2⟩
 ·obtain ⟨o',e1⟩:=I.base.there b o e hx
  exact free b o' (neC b o e hx) e1 (I.base.free b o e n hx)
 ·obtain ⟨o',e1⟩:=I.base.there b o e hx
  exact there b o' (neC b o e hx) e1
 ·obtain ⟨m1,e1⟩:=I.base.tbls b ps e
  obtain ⟨m2,e2⟩:=tbls b _ e1
  exact ⟨m1 ++ m2,by rw [e2,Array.append_assoc]⟩
 ·obtain ⟨m,hn,hl⟩:=I.loc
  refine ⟨m,ns m hn,fun i x v e1 e2 e3=>?_⟩
  obtain ⟨u,r,l⟩:=hl i x v e1 e2 e3
  refine ⟨u,r,?_⟩
  rcases l with l | ⟨k,c,e,z⟩
  ·exact .inl l
  ·exact .inr ⟨k,c,e,cellK x c e _ z⟩
 ·obtain ⟨v,z⟩:=I.cell x c e
  exact ⟨v,cellK x c e v z⟩
 ·obtain ⟨m,⟨o,_,_,ho,_⟩,_⟩:=I.loc
  exact free _ o (fun z=>(hch _ z).2.1 rfl) ho I.free
 ·obtain ⟨v,o,ho,hd⟩:=I.cell x c e
  exact free c o (fun z=>(hch c z).2.2.1 x c e rfl) ho (I.freeC x c e)
 ·obtain ⟨e,n,ne,nf,d⟩:=I.pin p hp
  have nch:p.1 ∉ ch:=fun z=>(hch p.1 z).2.2.2 p hp rfl
  exact ⟨keep p.1 p.2 ne nf nch e n,free p.1 p.2 nch e n,ne,nf,d⟩
theorem Inv.un {t':Nat} (I:Inv X pins σ H s) (u:Un X.fs [] H H' s.heap h') (hok:HOk X.prog X.w H' h'):Inv X pins σ H' { s with heap:=h',toks:=t' }:=by
 obtain ⟨m,⟨o,es,ep,ho,r⟩,_⟩:=id I.loc
 obtain ⟨sl,hL⟩:=u.any ho I.free (by simp)
 exact I.step (g':=s.gens) (d':=s.drawn) (ch:=[]) (fun _ z=>nomatch z) (fun b o _ hb _ e n=>u.keep b o e n hb (by simp)) (fun b o _ hb _ e n=>u.slot b o e n hb (by simp)) (fun b o _ e n=>u.free b o e n (by simp)) (fun b o _ e=>u.there b o e (by simp)) u.tups u.frzs u.tbls (fun m' hm=>by
  obtain ⟨o',es',ep',ho',r'⟩:=hm
  rw [ho] at ho'; cases ho'
  exact ⟨_,es',ep',hL,r'⟩) hok I.bare
theorem Inv.call {g':Array GenState} {t':Nat} {d':Drawn} {ch:List Addr} (I:Inv X pins σ H s) (u:Un (frs X.stack) ch H H' s.heap h') (hok:HOk X.prog X.w H' h') (hg:AllBare g')
  (hch:∀ b ∈ ch,(b ∈ X.ex\/X.s₀.heap.objs.size<=b)/\b ≠ X.env.locals/\(∀ x c,X.env.cells.lookup x = some c->c ≠ b)/\∀ p ∈ X.pn ++ pins,p.1 ≠ b) :
  Inv X pins σ H' { s with heap:=h',gens:=g',drawn:=d',toks:=t' }:=by
 obtain ⟨m,⟨o,es,ep,ho,r⟩,_⟩:=id I.loc
 obtain ⟨sl,hL⟩:=u.any ho I.free fun z=>(hch _ z).2.1 rfl
 exact I.step (ch:=ch) hch (fun b o hL hb hc e n=>u.keep b o e n (fun z=>(List.mem_cons.mp (I.stkSub b z)).elim hL hb) hc) (fun b o _ _ hc e n=>u.any e n hc) (fun b o hc e n=>u.free b o e n hc) (fun b o hc e=>u.there b o e hc) u.tups u.frzs u.tbls (fun m' hm=>by
  obtain ⟨o',es',ep',ho',r'⟩:=hm
  rw [ho] at ho'; cases ho'
  exact ⟨_,es',ep',hL,r'⟩) hok hg
theorem Inv.turned {t':Nat} {it:Addr} (I:Inv X pins σ H s) (k:∀ b o,b ≠ it->s.heap.get? b = some o->h'.get? b = some o) (hn:H it = none) (hL:it ≠ X.env.locals)
  (h1:it ∈ X.ex\/X.s₀.heap.objs.size<=it) (h2:∀ x c,X.env.cells.lookup x = some c->c ≠ it) (h3:∀ p ∈ X.pn ++ pins,p.1 ≠ it):Inv X pins σ H { s with heap:=h',toks:=t' }:=by
 have nit:∀ b u,H b = some u->b ≠ it:=fun b u e z=>by rw [z,hn] at e; cases e
 refine I.step (g':=s.gens) (d':=s.drawn) (ch:=[it]) (fun b hb=>?_) (fun b o _ _ hc e _=>k b o (fun z=>hc (by simp [z])) e) (fun b o _ _ hc e _=>⟨o.slots,k b o (fun z=>hc (by simp [z])) e⟩) (fun _ _ _ _ n=>n)
  (fun b o hc e=>⟨o,k b o (fun z=>hc (by simp [z])) e⟩) (fun _ _ e=>e) (fun _ _ _ e=>e) (fun b ps e=>⟨#[],by rw [e]; simp⟩) (fun m hm=>?_) (fun b u e=>?_) I.bare
 ·have e:b = it:=by simpa using hb
  subst e
  exact ⟨h1,hL,h2,h3⟩
 ·obtain ⟨o,es,ep,ho,r⟩:=hm
  exact ⟨o,es,ep,k _ o (Ne.symm hL) ho,r⟩
 ·refine (I.hok b u e).stay (fun c v hc q=>k c v ?_ q) (fun _ q=>q) fun _ _ q=>q
  rcases hc with z | z
  ·rw [z]; exact nit b u e
  ·exact nit c _ z
theorem Inv.tok (I:Inv X pins σ H s) (t:Nat):Inv X pins σ H { s with toks:=t }:=I.un (h':=s.heap) (t':=t) Un.refl I.hok
theorem Inv.kept {t':Nat} (I:Inv X pins σ H s) (k:∀ b u,s.heap.get? b = some u->h'.get? b = some u):Inv X pins σ H { s with heap:=h',toks:=t' }:=I.un (Un.kept k) (I.hok.kept k)
theorem Inv.laid {a:Addr} {o:HO} {t':Nat} (I:Inv X pins σ H s) (k:∀ b u,s.heap.get? b = some u->h'.get? b = some u) (hp:s.heap.objs.size<=a) (new:ObjOk X.prog X.w (upd H a o) h' a o) :
  Inv X pins σ (upd H a o) { s with heap:=h',toks:=t' }:=I.un (Un.laid k hp (I.hok.fresh hp)) (I.hok.laid k hp new)
theorem Inv.write {x e:Addr} {o:HO} {t':Nat} (I:Inv X pins σ H s) (mu:Mut (H x)) (he:e = x\/H e = some (.own x)) (k:∀ b u,b ≠ e->s.heap.get? b = some u->h'.get? b = some u) (heo:∃ u,h'.get? e = some u)
  (new:ObjOk X.prog X.w (upd H x o) h' x o):Inv X pins σ (upd H x o) { s with heap:=h',toks:=t' }:=I.un (Un.write mu he k heo) (I.hok.write mu he k heo new)
theorem Inv.pins_of {pins':List (Addr × Obj)} (I:Inv X pins σ H s) (h:∀ p ∈ pins',s.heap.get? p.1 = some p.2/\H p.1 = none/\p.1 ≠ X.env.locals/\p.1 ∉ X.fs/\∀ v,p.2.data ≠ .cell v):Inv X pins' σ H s :=
 ⟨I.ok,I.os,I.bare,I.base,I.loc,I.cell,I.free,I.freeC,fun p hp=>(List.mem_append.mp hp).elim (fun z=>I.pin p (List.mem_append_left _ z)) (h p),I.hok,I.len⟩
theorem nodup_ix {N:List Str} (hN:N.Nodup) {i j:Nat} {x:Str} (a:N[i]? = some x) (b:N[j]? = some x):i = j:=by
 obtain ⟨h1,e1⟩:=List.getElem?_eq_some_iff.mp a
 obtain ⟨h2,e2⟩:=List.getElem?_eq_some_iff.mp b
 exact (List.getElem_inj hN).mp (e1.trans e2.symm)
theorem store_ok2 {M:Model} {A:Around} {E:Value->Shared->Prop} {i:Nat} {x:Str} {v:V} {u:Value} {Q:Unit->Shared->Prop} (I:Inv X pins σ H s) (hN:X.N.Nodup) (hi:X.N[i]? = some x) (hx:Loc X.env.scope x) (r:RelV v u)
  (h:∀ s',Inv X pins (σ.set i (some v)) H s'->(∃ a,Heap.SameBut a s.heap s'.heap/\(a = X.env.locals\/X.env.cells.lookup x = some a))->Q () s') (hf:X.fn x = true\/X.env.scope.names.lookup x = some .local:=by first | exact .inl rfl | exact .inr rfl | assumption):wpAny M A (storeName X.env x u) Q E s:=by
 obtain ⟨m,hn,hl⟩:=id I.loc
 have hcls:(X.env.scope.kind == .class || (X.env.scope.kind == .module && X.env.locals != X.env.globals)) = false:=by rw [I.ok.kind]; rfl
 have hiσ:i < σ.length:=by rw [I.len]; exact (List.getElem?_eq_some_iff.mp hi).1
 have cne:=I.cne
 have tracked:∀ {a:Addr} {h':Heap},(∃ o,s.heap.get? a = some o/\H a = none)->Heap.SameBut a s.heap h'->HOk X.prog X.w H h':=fun {a h'} ha hs b ob e=>by
  obtain ⟨_,_,hfree⟩:=ha
  refine (I.hok b ob e).stay (fun c w' hc q=>(hs.2 c ?_).trans q) (fun _ q=>q) fun _ _ q=>q
  rintro rfl
  rcases hc with rfl | hc
  ·rw [hfree] at e; cases e
  ·rw [hfree] at hc; cases hc
 rcases hx with hk | hk
 ·refine wpAny_storeName_local hk hn (fun h' hn' hs=>?_) hcls
  obtain ⟨oL,_,_,hoL,_⟩:=id hn
  refine h _ ⟨I.ok,I.os,I.bare,⟨fun b o e n hb hx=>?_,fun b o e n hb hx=>?_,I.base.free,fun b o e hx=>?_,I.base.tups,I.base.frzs,I.base.tbls⟩,⟨_,hn',fun j y v' e1 e2 e3=>?_⟩,fun y c e=>?_,I.free,I.freeC,fun p hp=>?_,tracked ⟨oL,hoL,I.free⟩ hs,by simpa using I.len⟩ ⟨_,hs,.inl rfl⟩
  ·exact (hs.2 b (Nat.ne_of_lt (Nat.lt_of_lt_of_le (Heap.lt_size e) I.ok.above))).trans (I.base.keep b o e n hb hx)
  ·obtain ⟨sl,e1⟩:=I.base.slot b o e n hb hx
   exact ⟨sl,(hs.2 b (Nat.ne_of_lt (Nat.lt_of_lt_of_le (Heap.lt_size e) I.ok.above))).trans e1⟩
  ·obtain ⟨o',e1⟩:=I.base.there b o e hx
   exact ⟨o',(hs.2 b (Nat.ne_of_lt (Nat.lt_of_lt_of_le (Heap.lt_size e) I.ok.above))).trans e1⟩
  ·by_cases hj:j = i
   ·subst hj
    rw [hi] at e1; cases e1
    rw [List.getElem?_set_self hiσ] at e2
    cases e2
    exact ⟨u,r,.inl ⟨hk,by simp⟩⟩
   ·rw [List.getElem?_set_ne (Ne.symm hj)] at e2
    obtain ⟨u',r',q⟩:=hl j y v' e1 e2 e3
    refine ⟨u',r',?_⟩
    rcases q with ⟨k,e⟩ | ⟨k,c,e,z⟩
    ·refine .inl ⟨k,?_⟩
     have:y ≠ x:=fun e=>hj (nodup_ix hN e1 (e ▸ hi))
     simp [this,e]
    ·exact .inr ⟨k,c,e,z.sameBut hs (cne y c e)⟩
  ·obtain ⟨w',z⟩:=I.cell y c e
   exact ⟨w',z.sameBut hs (cne y c e)⟩
  ·obtain ⟨e,n,ne,nf,d⟩:=I.pin p hp
   exact ⟨(hs.2 p.1 ne).trans e,n,ne,nf,d⟩
 ·have hfn:X.fn x = true:=by
   rcases hf with z | z
   ·exact z
   ·rw [z] at hk; cases hk
  obtain ⟨c,hc⟩:=I.ok.has x (.inl hk)
  obtain ⟨w',z⟩:=I.cell x c hc
  refine wpAny_storeName_cell I.ok.kind hk hc z (fun h' hc' hs=>?_)
  obtain ⟨oc,hoc,hocd⟩:=id z
  refine h { s with heap:=h' } ⟨I.ok,I.os,I.bare,⟨fun b o e n hb hx=>?_,fun b o e n hb hx=>?_,I.base.free,fun b o e hx=>?_,I.base.tups,I.base.frzs,I.base.tbls⟩,⟨m,hn.sameBut hs (Ne.symm (cne x c hc)),fun j y v' e1 e2 e3=>?_⟩,fun y c' e=>?_,I.free,I.freeC,fun p hp=>?_,tracked ⟨oc,hoc,I.freeC x c hc⟩ hs,by simpa using I.len⟩ ⟨c,hs,.inr hc⟩
  ·exact (hs.2 b (Nat.ne_of_lt (Nat.lt_of_lt_of_le (Heap.lt_size e) (I.ok.cab x c hfn hc)))).trans (I.base.keep b o e n hb hx)
  ·obtain ⟨sl,e1⟩:=I.base.slot b o e n hb hx
   exact ⟨sl,(hs.2 b (Nat.ne_of_lt (Nat.lt_of_lt_of_le (Heap.lt_size e) (I.ok.cab x c hfn hc)))).trans e1⟩
  ·obtain ⟨o',e1⟩:=I.base.there b o e hx
   exact ⟨o',(hs.2 b (Nat.ne_of_lt (Nat.lt_of_lt_of_le (Heap.lt_size e) (I.ok.cab x c hfn hc)))).trans e1⟩
  ·by_cases hj:j = i
   ·subst hj
    rw [hi] at e1; cases e1
    rw [List.getElem?_set_self hiσ] at e2
    cases e2
    exact ⟨u,r,.inr ⟨.inl hk,c,hc,hc'⟩⟩
   ·rw [List.getElem?_set_ne (Ne.symm hj)] at e2
    obtain ⟨u',r',q⟩:=hl j y v' e1 e2 e3
    refine ⟨u',r',?_⟩
    rcases q with q | ⟨k,c',e,z'⟩
    ·exact .inl q
    ·refine .inr ⟨k,c',e,z'.sameBut hs ?_⟩
     rintro rfl
     exact hj (nodup_ix hN e1 (I.ok.inj _ _ _ e hc ▸ hi))
  ·by_cases hcc:c' = c
   ·subst hcc; exact ⟨_,hc'⟩
   ·obtain ⟨w2,z2⟩:=I.cell y c' e
    exact ⟨w2,z2.sameBut hs hcc⟩
  ·obtain ⟨e,n,ne,nf,d⟩:=I.pin p hp
   refine ⟨(hs.2 p.1 ?_).trans e,n,ne,nf,d⟩
   intro q
   rw [q,hoc] at e
   have q':oc = p.2:=Option.some.inj e
   exact d w' (by rw [<-q']; exact hocd)
theorem store_ok {M:Model} {A:Around} {E:Value->Shared->Prop} {i:Nat} {x:Str} {v:V} {u:Value} {Q:Unit->Shared->Prop} (I:Inv X pins σ H s) (hN:X.N.Nodup) (hi:X.N[i]? = some x) (hx:Loc X.env.scope x) (r:RelV v u)
  (h:∀ s',Inv X pins (σ.set i (some v)) H s'->Q () s') (hf:X.fn x = true\/X.env.scope.names.lookup x = some .local:=by first | exact .inl rfl | exact .inr rfl | assumption):wpAny M A (storeName X.env x u) Q E s :=
 store_ok2 I hN hi hx r (fun s' I' _=>h s' I') hf
theorem Inv.call' {s':Shared} {ch:List Addr} (I:Inv X pins σ H s) (ho:s'.os = s.os) (u:Un (frs X.stack) ch H H' s.heap s'.heap) (hok:HOk X.prog X.w H' s'.heap) (hg:AllBare s'.gens)
  (hch:∀ b ∈ ch,(b ∈ X.ex\/X.s₀.heap.objs.size<=b)/\b ≠ X.env.locals/\(∀ x c,X.env.cells.lookup x = some c->c ≠ b)/\∀ p ∈ X.pn ++ pins,p.1 ≠ b):Inv X pins σ H' s':=by
 obtain ⟨h',g',d',t',o'⟩:=s'
 have e:o' = s.os:=ho
 subst e
 exact I.call (g':=g') (t':=t') (d':=d') u hok hg hch
end
noncomputable abbrev XK:=Value->Option Addr->Hp->Prop
noncomputable abbrev St:=List (Option V)
noncomputable abbrev VK:=V->Hp->Prop
noncomputable abbrev TE:=St->Hp->VK->Prop
noncomputable abbrev TT:=St->Hp->(Bool->Hp->Prop)->Prop
noncomputable abbrev TA:=St->Hp->(List V->Hp->Prop)->Prop
structure Ends where
 nx:St->Hp->Prop
 rt:VK
 bk:St->Hp->Prop:=fun _ _=>False
 ct:St->Hp->Prop:=fun _ _=>False
noncomputable abbrev TS:=Ends->St->Hp->Prop
noncomputable def EP (X:Cx) (pins:List (Addr × Obj)) (σ:St) (Q:VK) (u:Value) (s':Shared):Prop:=∃ v H',Inv X pins σ H' s'/\RelV v u/\Q v H'
noncomputable def TP (X:Cx) (pins:List (Addr × Obj)) (σ:St) (Q:Bool->Hp->Prop) (b:Bool) (s':Shared):Prop:=∃ H',Inv X pins σ H' s'/\Q b H'
noncomputable def AP (X:Cx) (pins:List (Addr × Obj)) (σ:St) (Q:List V->Hp->Prop) (us:List Value) (s':Shared):Prop:=∃ vs H',Inv X pins σ H' s'/\Vals vs us/\Q vs H'
noncomputable def SP (X:Cx) (pins:List (Addr × Obj)) (D:Ends) (f:Flow) (s':Shared):Prop :=
 match f with
 | .next=>∃ σ' H',Inv X pins σ' H' s'/\D.nx σ' H'
 | .brk=>∃ σ' H',Inv X pins σ' H' s'/\D.bk σ' H'
 | .cont=>∃ σ' H',Inv X pins σ' H' s'/\D.ct σ' H'
 | .ret u=>∃ v σ' H',Inv X pins σ' H' s'/\RelV v u/\D.rt v H'
noncomputable def PE (X:Cx) (e:Expr) (t:TE):Prop :=
 ∀ (pins:List (Addr × Obj)) (s:Shared) (σ:St) (H:Hp) (Q:VK),Inv X pins σ H s->t σ H Q->wpAny (model X.prog X.w) X.A (eval e X.env) (EP X pins σ Q) X.xe s
noncomputable def PT (X:Cx) (e:Expr) (t:TT):Prop :=
 ∀ (pins:List (Addr × Obj)) (s:Shared) (σ:St) (H:Hp) (Q:Bool->Hp->Prop),Inv X pins σ H s->t σ H Q->wpAny (model X.prog X.w) X.A (isTrue e X.env (eval e X.env)) (TP X pins σ Q) X.xe s
noncomputable def PW (X:Cx) (e:Expr) (t:TT):Prop :=
 ∀ (whole:Sem Value) (pins:List (Addr × Obj)) (s:Shared) (σ:St) (H:Hp) (Q:Bool->Hp->Prop),Inv X pins σ H s->t σ H Q->wpAny (model X.prog X.w) X.A (isTrue e X.env whole) (TP X pins σ Q) X.xe s
theorem PW.pt {X:Cx} {e:Expr} {t:TT} (h:PW X e t):PT X e t:=h _
noncomputable def PA (X:Cx) (es:List Expr) (t:TA):Prop :=
 ∀ (pos:Pos) (pins:List (Addr × Obj)) (s:Shared) (σ:St) (H:Hp) (Q:List V->Hp->Prop),Inv X pins σ H s->t σ H Q->wpAny (model X.prog X.w) X.A (spliced (backTo pos (starEach es X.env))) (AP X pins σ Q) X.xe s
noncomputable def PS (X:Cx) (st:Stmt) (t:TS):Prop :=
 ∀ (pins:List (Addr × Obj)) (s:Shared) (σ:St) (H:Hp) (D:Ends),Inv X pins σ H s->t D σ H->wpAny (model X.prog X.w) X.A (exec st X.env) (SP X pins D) X.xe s
noncomputable def PSs (X:Cx) (st:List Stmt) (t:TS):Prop :=
 ∀ (pins:List (Addr × Obj)) (s:Shared) (σ:St) (H:Hp) (D:Ends),Inv X pins σ H s->t D σ H->wpAny (model X.prog X.w) X.A (execs st X.env) (SP X pins D) X.xe s
theorem thn {α:Type} {t:Sem α} {Q Q':α->Shared->Prop} {M:Model} {A:Around} {E:Value->Shared->Prop} {s:Shared} (h:wpAny M A t Q E s) (hQ:∀ a s,Q a s->Q' a s):wpAny M A t Q' E s:=wpAny_mono h hQ fun _ _ x=>x
end L2
namespace L2
open PySem PySem.Spec PyProof.Rows
section
variable {X:Cx}
noncomputable def tVar (i:Nat):TE:=fun σ H Q=>∃ v,σ[i]? = some (some v)/\Q v H
noncomputable def tC (v:V):TE:=fun _ H Q=>Q v H
theorem pe_var {i:Nat} {x:Str} {pos:Pos} (hN:X.N[i]? = some x) (hv:Vis X.env.scope x) (hd:(x == ("__debug__":Str)) = false:=by decide) (hcd:(x == ("__classdict__":Str)) = false:=by decide):PE X (.Name x pos) (tVar i):=by
 intro pins s σ H Q I h
 obtain ⟨v,e,h⟩:=h
 obtain ⟨m,hn,hl⟩:=I.loc
 obtain ⟨u,r,l⟩:=hl i x v hN e hv
 have fin:EP X pins σ Q u s:=⟨v,H,I,r,h⟩
 rcases l with ⟨hk,hm⟩ | ⟨hk,c,hc,hcell⟩
 ·exact wpAny_Name (wpAny_loadName_local I.ok.kind hk hn hm fin) hd
 ·rcases hk with hk | hk
  ·exact wpAny_Name (wpAny_loadName_cell I.ok.kind hk hc hcell fin) hd
  ·exact wpAny_Name (wpAny_loadName_free I.ok.kind hk hc hcell fin hcd) hd
theorem pe_int {i j pos}:PE X (.Constant (.int i) j pos) (tC (.int i)):=fun _ _ _ H _ I h=>wpAny_Constant_int ⟨.int i,H,I.tok _,⟨_,rfl⟩,h⟩
theorem pe_bl {b j pos}:PE X (.Constant (.bool b) j pos) (tC (.bl b)):=fun _ _ _ H _ I h=>Constant_bool ⟨.bl b,H,I,rfl,h⟩
theorem pe_non {j pos}:PE X (.Constant .none j pos) (tC .non):=fun _ _ _ H _ I h=>Constant_none ⟨.non,H,I,rfl,h⟩
theorem pe_str {x j pos}:PE X (.Constant (.str x) j pos) (tC (.str x)):=fun _ _ _ H _ I h=>Calls.Constant_str ⟨.str x,H,I.tok _,⟨_,rfl⟩,h⟩
noncomputable def Gl (X:Cx) (x:Str):Prop:=X.env.kindOf x = some .globalImplicit
theorem ld_glob {E:Value->Shared->Prop} {pins:List (Addr × Obj)} {s:Shared} {σ:St} {H:Hp} {x:Str} {u:Value} {pos:Pos} {Q:Value->Shared->Prop} (I:Inv X pins σ H s) (hg:Gl X x) (hm:X.mg x = some u) (h:Q u s)
  (hd:(x == ("__debug__":Str)) = false:=by decide):wpAny (model X.prog X.w) X.A (eval (.Name x pos) X.env) Q E s :=
 Calls.Name_function_global I.ok.kind hg (Calls.loadGlobal_global (by rw [I.ok.glob]; exact I.mod.glob.keeps I.bk) hm h) hd
theorem ld_blt {E:Value->Shared->Prop} {pins:List (Addr × Obj)} {s:Shared} {σ:St} {H:Hp} {x:Str} {u:Value} {pos:Pos} {Q:Value->Shared->Prop} (I:Inv X pins σ H s) (hg:Gl X x) (hm:X.mg x = none) (hv:bootBuiltins x = some u) (h:Q u s)
  (hn:x ≠ "__name__":=by decide) (hd:(x == ("__debug__":Str)) = false:=by decide):wpAny (model X.prog X.w) X.A (eval (.Name x pos) X.env) Q E s:=by
 obtain ⟨mb,h1,h2⟩:=I.mod.blt
 exact Calls.Name_function_global I.ok.kind hg (Calls.loadGlobal_builtin (by rw [I.ok.glob]; exact I.mod.glob.keeps I.bk) hm (by rw [I.ok.blt]; exact h1.keeps I.bk) ((h2 x hn).trans hv) h) hd
theorem pe_glob {x:Str} {v:V} {u:Value} {pos:Pos} (hg:Gl X x) (hm:X.mg x = some u) (r:RelV v u) (hd:(x == ("__debug__":Str)) = false:=by decide):PE X (.Name x pos) (tC v) :=
 fun _ _ _ H _ I h=>ld_glob I hg hm ⟨v,H,I,r,h⟩ hd
theorem pe_bltn {x:Str} {v:V} {u:Value} {pos:Pos} (hg:Gl X x) (hm:X.mg x = none) (hv:bootBuiltins x = some u) (r:RelV v u) (hn:x ≠ "__name__":=by decide) (hd:(x == ("__debug__":Str)) = false:=by decide):PE X (.Name x pos) (tC v) :=
 fun _ _ _ H _ I h=>ld_blt I hg hm hv ⟨v,H,I,r,h⟩ hn hd
variable {a b:Expr} {ta tb:TE} {pos:Pos}
noncomputable def PC (X:Cx) (op:CmpOp) (a b:Expr) (t:TE):Prop :=
 ∀ (pins:List (Addr × Obj)) (s:Shared) (σ:St) (H:Hp) (Q:VK),Inv X pins σ H s->t σ H Q ->
  wpAny (model X.prog X.w) X.A (eval a X.env) (fun v s₁=>wpAny (model X.prog X.w) X.A (eval b X.env) (fun u s₂=>wpAny (model X.prog X.w) X.A (compareOp op v u) (EP X pins σ Q) X.xe s₂) X.xe s₁) X.xe s
noncomputable def tB (t:TE):TT:=fun σ H Q=>t σ H fun x H1=>∃ c,x = .bl c/\Q c H1
theorem pt_cmp {op:CmpOp} {t:TE} (h:PC X op a b t) (h1:behindInMarks op b = false:=by first | exact nobehind _ (by decide) (by decide) | rfl):PT X (.Compare a [op] [b] pos) (tB t):=by
 intro pins s σ H Q I hw
 refine wpAny_isTrue_Compare1 (thn (h pins s σ H _ I hw) fun v s1 h1=>thn h1 fun u s2 h2=>thn h2 fun c s3 ⟨x,H1,I1,r1,q1⟩=>?_) h1
 obtain ⟨d,rfl,q⟩:=q1
 cases r1
 exact wpAny_truthy_bool ⟨H1,I1,q⟩
theorem pt_val {e:Expr} {t:TE} (h:PE X e t) (he:∀ whole,isTrue e X.env whole = (do let v <-whole; standAt e.pos; holding [v] (truthy v)):=by intro _; rfl):PT X e (tB t):=by
 intro pins s σ H Q I hw
 refine isTrue_plain (thn (h pins s σ H _ I hw) fun v s1 ⟨x,H1,I1,r1,q1⟩=>?_) (he _)
 obtain ⟨d,rfl,q⟩:=q1
 cases r1
 exact wpAny_truthy_bool ⟨H1,I1,q⟩
variable {tA tB':TT} {rest:List Expr}
noncomputable def tAnd (t u:TT):TT:=fun σ H Q=>t σ H fun c H1=>if c = true then u σ H1 Q else Q false H1
noncomputable def tOr (t u:TT):TT:=fun σ H Q=>t σ H fun c H1=>if c = true then Q true H1 else u σ H1 Q
noncomputable def tNot (t:TT):TT:=fun σ H Q=>t σ H fun c H1=>Q (!c) H1
theorem pw_and1 (ha:PT X a tA):PW X (.BoolOp .And [a] pos) tA:=by
 intro wh pins s σ H Q I h
 refine isTrue_and (thn (ha pins s σ H Q I h) fun c s1 e=>?_)
 cases c with
 | true=>exact isTrue_and_nil e
 | false=>exact e
theorem pw_or1 (ha:PT X a tA):PW X (.BoolOp .Or [a] pos) tA:=by
 intro wh pins s σ H Q I h
 refine isTrue_or (thn (ha pins s σ H Q I h) fun c s1 e=>?_)
 cases c with
 | false=>exact isTrue_or_nil e
 | true=>exact e
theorem pw_and (ha:PT X a tA) (hb:PW X (.BoolOp .And (b :: rest) pos) tB'):PW X (.BoolOp .And (a :: b :: rest) pos) (tAnd tA tB'):=by
 intro wh pins s σ H Q I h
 refine isTrue_and (thn (ha pins s σ H _ I h) fun c s1 ⟨H1,I1,q1⟩=>?_)
 cases c with
 | true=>exact hb wh pins s1 σ H1 Q I1 q1
 | false=>exact ⟨H1,I1,q1⟩
theorem pw_or (ha:PT X a tA) (hb:PW X (.BoolOp .Or (b :: rest) pos) tB'):PW X (.BoolOp .Or (a :: b :: rest) pos) (tOr tA tB'):=by
 intro wh pins s σ H Q I h
 refine isTrue_or (thn (ha pins s σ H _ I h) fun c s1 ⟨H1,I1,q1⟩=>?_)
 cases c with
 | true=>exact ⟨H1,I1,q1⟩
 | false=>exact hb wh pins s1 σ H1 Q I1 q1
theorem pt_not (ha:PT X a tA):PT X (.UnaryOp .Not a pos) (tNot tA):=by
 intro pins s σ H Q I h
 exact isTrue_not (ha pins s σ H (fun c H1=>Q (!c) H1) I h)
noncomputable def tAndV (ta tb:TE):TE:=fun σ H Q=>ta σ H fun x H1=>∃ c,x = .bl c/\if c = true then tb σ H1 Q else Q (.bl false) H1
noncomputable def tNotV (ta:TE):TE:=fun σ H Q=>ta σ H fun x H1=>∃ c,x = .bl c/\Q (.bl (!c)) H1
theorem pe_one {op} {t:TE} (h:PE X a t):PE X (.BoolOp op [a] pos) t:=fun pins s σ H Q I hw=>BoolOp_one (h pins s σ H Q I hw)
theorem pe_and (ha:PE X a ta) (hb:PE X (.BoolOp .And (b :: rest) pos) tb):PE X (.BoolOp .And (a :: b :: rest) pos) (tAndV ta tb):=by
 intro pins s σ H Q I h
 refine BoolOp_and (thn (ha pins s σ H _ I h) fun v s1 ⟨x,H1,I1,r1,q1⟩=>?_)
 obtain ⟨c,rfl,q1⟩:=q1
 cases r1
 refine wpAny_truthy_bool ?_
 cases c with
 | true=>exact hb pins s1 σ H1 Q I1 q1
 | false=>exact ⟨.bl false,H1,I1,rfl,q1⟩
theorem pe_not (ha:PE X a ta):PE X (.UnaryOp .Not a pos) (tNotV ta):=by
 intro pins s σ H Q I h
 refine UnaryOp_ (thn (ha pins s σ H _ I h) fun v s1 ⟨x,H1,I1,r1,q1⟩=>?_)
 obtain ⟨c,rfl,q1⟩:=q1
 cases r1
 exact not_of (wpAny_truthy_bool ⟨.bl (!c),H1,I1,rfl,q1⟩)
noncomputable def tIf (t:TT) (ta tb:TE):TE:=fun σ H Q=>t σ H fun c H1=>if c = true then ta σ H1 Q else tb σ H1 Q
theorem pe_ifExp {c:Expr} (hc:PT X c tA) (ha:PE X a ta) (hb:PE X b tb):PE X (.IfExp c a b pos) (tIf tA ta tb):=by
 intro pins s σ H Q I h
 refine wpAny_IfExp (thn (hc pins s σ H _ I h) fun d s1 ⟨H1,I1,q1⟩=>?_)
 cases d with
 | true=>exact ha pins s1 σ H1 Q I1 q1
 | false=>exact hb pins s1 σ H1 Q I1 q1
end
end L2
namespace L2
open PySem PySem.Spec PyProof.Rows
noncomputable def SqL (K:PySem.W.Frag) (H:Hp) (a:Addr) (xs:List V):Prop :=
 Rd H a (.lst xs) \/
  ∃ (o:Obj) (its:Array Value) (n:Nat),K.lookup a = some o/\o.cls = .type "list"/\o.dict = none/\o.data = .seq its n/\its.size<=sizeLine/\Vals xs its.toList
noncomputable def SqT (K:PySem.W.Frag) (H:Hp) (a:Addr) (xs:List V):Prop :=
 Rd H a (.tup xs) \/
  ∃ (o:Obj) (its:Array Value) (n:Nat),K.lookup a = some o/\o.cls = .type "tuple"/\o.data = .seq its n/\its.size<=sizeLine/\Vals xs its.toList
noncomputable def absV:Value->Option V
 | .none=>some .non
 | .bool b=>some (.bl b)
 | .int i _=>some (.int i)
 | .str x _=>some (.str x)
 | .bytes b _=>some (.byt b)
 | .float b _=>some (.flt b)
 | .ref a=>some (.ref a)
 | .type n=>some (.ty n)
 | _=>none
theorem RelV.abs {x:V} {u:Value} (r:RelV x u):absV u = some x:=by
 cases x with
 | non=>cases r; rfl
 | bl _=>cases r; rfl
 | int _=>obtain ⟨t,rfl⟩:=r; rfl
 | str _=>obtain ⟨t,rfl⟩:=r; rfl
 | byt _=>obtain ⟨t,rfl⟩:=r; rfl
 | flt _=>obtain ⟨t,rfl⟩:=r; rfl
 | ref _=>cases r; rfl
 | ty _=>cases r; rfl
theorem RelV.inj {x y:V} {u:Value} (r:RelV x u) (q:RelV y u):x = y:=Option.some.inj (r.abs.symm.trans q.abs)
theorem Vals.inj:∀ {xs ys:List V} {us:List Value},Vals xs us->Vals ys us->xs = ys
 | _,_,_,.nil,.nil=>rfl
 | _,_,_,.cons r t,.cons r' t'=>by rw [r.inj r',Vals.inj t t']
section
variable {X:Cx} {pins:List (Addr × Obj)} {σ:St} {H:Hp} {s:Shared} {a:Addr} {xs ys:List V}
theorem SqL.of {K:PySem.W.Frag} (h:H a = some (.lst xs)):SqL K H a xs:=.inl (.inl h)
theorem SqT.of {K:PySem.W.Frag} (h:H a = some (.tup xs)):SqT K H a xs:=.inl (.inl h)
theorem Inv.list (I:Inv X pins σ H s) (h:SqL X.K H a xs):∃ its:List Value,Vals xs its/\PlainL s.heap a its.toArray/\xs.length<=sizeLine:=by
 rcases h with h | ⟨o,its,n,hk,hc,hd,hs,hz,r⟩
 ·obtain ⟨z,its,n,r,e⟩:=h.ok I.hok
  exact ⟨its,r,⟨_,n,e,rfl,rfl,rfl⟩,z⟩
 ·refine ⟨its.toList,r,⟨o,n,I.kIn a o hk,hc,hd,by simpa using hs⟩,?_⟩
  have e:=r.length
  simp only [Array.length_toList] at e
  omega
theorem Inv.tuple (I:Inv X pins σ H s) (h:SqT X.K H a xs):∃ its:List Value,Vals xs its/\IsTup s.heap a its.toArray/\xs.length<=sizeLine:=by
 rcases h with h | ⟨o,its,n,hk,hc,hs,hz,r⟩
 ·obtain ⟨z,its,r,p⟩:=h.ok I.hok
  exact ⟨its,r,p,z⟩
 ·refine ⟨its.toList,r,⟨o,I.kIn a o hk,hc,n,by simpa using hs⟩,?_⟩
  have e:=r.length
  simp only [Array.length_toList] at e
  omega
theorem Inv.list_inj (I:Inv X pins σ H s) (h:SqL X.K H a xs) (h':SqL X.K H a ys):xs = ys:=by
 obtain ⟨its,r,⟨o,n,e,_,_,d⟩,_⟩:=I.list h
 obtain ⟨its',r',⟨o',n',e',_,_,d'⟩,_⟩:=I.list h'
 rw [e] at e'; cases e'
 rw [d] at d'
 injection d' with d1 _
 have:its = its':=by simpa using congrArg Array.toList d1
 subst this
 exact r.inj r'
theorem Inv.tuple_inj (I:Inv X pins σ H s) (h:SqT X.K H a xs) (h':SqT X.K H a ys):xs = ys:=by
 obtain ⟨its,r,⟨o,e,_,n,d⟩,_⟩:=I.tuple h
 obtain ⟨its',r',⟨o',e',_,n',d'⟩,_⟩:=I.tuple h'
 rw [e] at e'; cases e'
 rw [d] at d'
 injection d' with d1 _
 have:its = its':=by simpa using congrArg Array.toList d1
 subst this
 exact r.inj r'
end
noncomputable abbrev Cx.wish (X:Cx) (E:Value->Shared->Prop):Cx:={ X with xe:=E }
noncomputable abbrev Cx.nox (X:Cx):Cx:=X.wish fun _ _=>False
theorem Cx.Ok.wish {X:Cx} (ok:X.Ok) (E:Value->Shared->Prop):(X.wish E).Ok :=
 ⟨ok.mod,ok.kind,ok.glob,ok.blt,ok.above,ok.inj,ok.has,ok.cab,ok.hd,ok.frames,ok.stk,ok.exf,ok.bs,ok.bsz,ok.noex,ok.exfs,ok.funs,ok.frf⟩
theorem Cx.Ok.unwish {X:Cx} {E:Value->Shared->Prop} (ok:(X.wish E).Ok):X.Ok :=
 ⟨ok.mod,ok.kind,ok.glob,ok.blt,ok.above,ok.inj,ok.has,ok.cab,ok.hd,ok.frames,ok.stk,ok.exf,ok.bs,ok.bsz,ok.noex,ok.exfs,ok.funs,ok.frf⟩
section
variable {X:Cx} {pins:List (Addr × Obj)} {σ:St} {H:Hp} {s:Shared} {E:Value->Shared->Prop}
theorem Inv.wish (I:Inv X pins σ H s) (E:Value->Shared->Prop):Inv (X.wish E) pins σ H s:=⟨I.ok.wish E,I.os,I.bare,I.base,I.loc,I.cell,I.free,I.freeC,I.pin,I.hok,I.len⟩
theorem Inv.unwish (I:Inv (X.wish E) pins σ H s):Inv X pins σ H s:=⟨I.ok.unwish,I.os,I.bare,I.base,I.loc,I.cell,I.free,I.freeC,I.pin,I.hok,I.len⟩
theorem SP.unwish {D:Ends} {f:Flow} {s':Shared} (h:SP (X.wish E) pins D f s'):SP X pins D f s':=by
 cases f with
 | next=>obtain ⟨σ',H',I,q⟩:=h; exact ⟨σ',H',I.unwish,q⟩
 | brk=>obtain ⟨σ',H',I,q⟩:=h; exact ⟨σ',H',I.unwish,q⟩
 | cont=>obtain ⟨σ',H',I,q⟩:=h; exact ⟨σ',H',I.unwish,q⟩
 | ret u=>obtain ⟨v,σ',H',I,r,q⟩:=h; exact ⟨v,σ',H',I.unwish,r,q⟩
theorem PSs.nox {st:List Stmt} {t:TS} (h:PSs X.nox st t):PSs X st t:=fun pins s σ H D I hw =>
 wpAny_mono (h pins s σ H D (I.wish _) hw) (fun _ _ q=>q.unwish) fun _ _ z=>False.elim z
end
section
variable {X:Cx} {st:Stmt} {rest:List Stmt} {t u:TS} {e:Expr} {te:TE} {pos:Pos}
noncomputable def tNext:TS:=fun D σ H=>D.nx σ H
noncomputable def tSeq (t u:TS):TS:=fun D σ H=>t { D with nx:=u D } σ H
theorem pss_nil:PSs X [] tNext:=fun _ _ σ H _ I h=>wpAny_execs_nil ⟨σ,H,I,h⟩
theorem pss_cons (h1:PS X st t) (h2:PSs X rest u):PSs X (st :: rest) (tSeq t u):=by
 intro pins s σ H D I h
 refine wpAny_execs_cons (thn (h1 pins s σ H { D with nx:=u D } I h) fun f s1 q=>?_)
 cases f with
 | next =>
  obtain ⟨σ',H',I',q⟩:=q
  exact h2 pins s1 σ' H' D I' q
 | ret v=>exact q
 | brk=>exact q
 | cont=>exact q
theorem pss_one (h1:PS X st t):PSs X [st] t:=by
 intro pins s σ H D I h
 refine wpAny_execs_cons (thn (h1 pins s σ H D I h) fun f s1 q=>?_)
 cases f with
 | next=>exact wpAny_execs_nil q
 | ret v=>exact q
 | brk=>exact q
 | cont=>exact q
theorem Inv.quiet {pins:List (Addr × Obj)} {σ:St} {H:Hp} {s:Shared} (I:Inv X pins σ H s):interactive X.env = false:=by simp [interactive,I.ok.kind]
noncomputable def tDrop (te:TE):TS:=fun D σ H=>te σ H fun _ H1=>D.nx σ H1
theorem ps_expr (he:PE X e te) (hs:swapsWith e none pos.line X.env = pure false:=by rfl):PS X (.Expr e pos) (tDrop te):=by
 intro pins s σ H D I h
 exact wpAny_Expr_any (thn (he pins s σ H _ I h) fun v s1 ⟨x,H1,I1,r1,q1⟩=>⟨σ,H1,I1,q1⟩) I.quiet hs
noncomputable def tRet (te:TE):TS:=fun D σ H=>te σ H D.rt
theorem ps_ret (he:PE X e te):PS X (.Return (some e) pos) (tRet te):=by
 intro pins s σ H D I h
 exact wpAny_Return_some (thn (he pins s σ H _ I h) fun v s1 ⟨x,H1,I1,r1,q1⟩=>⟨x,σ,H1,I1,r1,q1⟩)
noncomputable def tIfS (c:TT) (t u:TS):TS:=fun D σ H=>c σ H fun b H1=>if b = true then t D σ H1 else u D σ H1
theorem ps_if {c:Expr} {a b:List Stmt} {tc:TT} (hc:PT X c tc) (ha:PSs X a t) (hb:PSs X b u):PS X (.If c a b pos) (tIfS tc t u):=by
 intro pins s σ H D I h
 refine wpAny_If (thn (hc pins s σ H _ I h) fun d s1 ⟨H1,I1,q1⟩=>?_)
 cases d with
 | true=>exact ha pins s1 σ H1 D I1 q1
 | false=>exact hb pins s1 σ H1 D I1 q1
noncomputable def tNever:TS:=fun _ _ _=>False
theorem ps_never:PS X st tNever:=fun _ _ _ _ _ _ h=>h.elim
end
noncomputable abbrev TG:=V->St->Hp->(St->Hp->Prop)->Prop
noncomputable abbrev TGs:=List V->St->Hp->(St->Hp->Prop)->Prop
noncomputable def PG (X:Cx) (target:Expr) (t:TG):Prop :=
 ∀ (pins:List (Addr × Obj)) (s:Shared) (σ:St) (H:Hp) (v:V) (u:Value) (Q:St->Hp->Prop),Inv X pins σ H s->RelV v u->t v σ H Q ->
  wpAny (model X.prog X.w) X.A (assign target X.env u) (fun _ s'=>∃ σ' H',Inv X pins σ' H' s'/\Q σ' H') X.xe s
noncomputable def PGs (X:Cx) (ts:List Expr) (t:TGs):Prop :=
 ∀ (pins:List (Addr × Obj)) (s:Shared) (σ:St) (H:Hp) (vs:List V) (us:List Value) (Q:St->Hp->Prop),Inv X pins σ H s->Vals vs us->t vs σ H Q ->
  wpAny (model X.prog X.w) X.A (assignInOrder ((assignEach ts X.env).map (·.2)) us) (fun _ s'=>∃ σ' H',Inv X pins σ' H' s'/\Q σ' H') X.xe s
noncomputable abbrev TSet:=V->V->V->Hp->(Hp->Prop)->Prop
noncomputable def PSet (X:Cx) (t:TSet):Prop :=
 ∀ (pins:List (Addr × Obj)) (s:Shared) (σ:St) (H:Hp) (o i v:V) (ov iv u:Value) (Q:Hp->Prop),Inv X pins σ H s->RelV o ov->RelV i iv->RelV v u->t o i v H Q ->
  wpAny (model X.prog X.w) X.A (setItem ov iv u) (fun _ s'=>∃ H',Inv X pins σ H' s'/\Q H') X.xe s
section
variable {X:Cx} {pos:Pos}
noncomputable def gName (i:Nat):TG:=fun v σ H Q=>Q (σ.set i (some v)) H
theorem pg_name {i:Nat} {x:Str} (hN:X.N.Nodup) (hi:X.N[i]? = some x) (hx:Loc X.env.scope x) (hf:X.fn x = true\/X.env.scope.names.lookup x = some .local:=by first | exact .inl rfl | exact .inr rfl | assumption):PG X (.Name x pos) (gName i):=by
 intro pins s σ H v u Q I r h
 exact wpAny_assign_Name (store_ok I hN hi hx r (fun s' I'=>⟨_,H,I',h⟩) hf)
noncomputable def gNil:TGs:=fun vs σ H Q=>vs = []/\Q σ H
noncomputable def gCons (t:TG) (u:TGs):TGs:=fun vs σ H Q=>∃ v r,vs = v :: r/\t v σ H fun σ' H'=>u r σ' H' Q
theorem pgs_nil:PGs X [] gNil:=by
 intro pins s σ H vs us Q I r h
 obtain ⟨e,h⟩:=h
 subst e
 cases r
 exact assignInOrder_nil ⟨σ,H,I,h⟩
theorem pgs_cons {e:Expr} {es:List Expr} {t:TG} {u:TGs} (h1:PG X e t) (h2:PGs X es u)
  (hs:(assignEach (e :: es) X.env).map (·.2) = assign e X.env :: (assignEach es X.env).map (·.2):=by rfl):PGs X (e :: es) (gCons t u):=by
 intro pins s σ H vs us Q I r h
 obtain ⟨v,vr,e1,h⟩:=h
 subst e1
 cases r with
 | cons r rr =>
  rw [hs]
  refine assignInOrder_cons (thn (h1 pins s σ H _ _ _ I r h) fun _ s1 ⟨σ1,H1,I1,q1⟩=>?_)
  exact h2 pins s1 σ1 H1 _ _ Q I1 rr q1
noncomputable def gTup (K:PySem.W.Frag) (n:Nat) (t:TGs):TG:=fun v σ H Q=>∃ a xs,v = .ref a/\SqT K H a xs/\xs.length = n/\t xs σ H Q
theorem pg_tup {es:List Expr} {k:Nat} {t:TGs} {n:Nat} (hc:X.calm = true) (h:PGs X es t)
  (hn:(assignEach es X.env).length = n:=by rfl) (hst:(assignEach es X.env).findIdx? (·.1) = none:=by rfl):PG X (.Tuple es k pos) (gTup X.K n t):=by
 intro pins s σ H v u Q I r hw
 obtain ⟨a,xs,e1,hq,hl,hw⟩:=hw
 subst e1
 cases r
 obtain ⟨its,rv,ht,hz⟩:=I.tuple hq
 refine assign_Tuple_tuple (I.ok.hd hc) ht (by simp [hn,<-hl,rv.length]) hst fun h' hx=>?_
 have I1:Inv X pins σ H { s with heap:=h' }:=I.kept (t':=s.toks) fun b o e=>hx b o (Nat.ne_of_lt (Heap.lt_size e)) e
 exact h pins _ σ H xs _ Q I1 (by simpa using rv) hw
noncomputable def gSub (to ti:TE) (t:TSet):TG:=fun v σ H Q=>to σ H fun o H1=>ti σ H1 fun i H2=>t o i v H2 fun H3=>Q σ H3
theorem pg_sub {o i:Expr} {to ti:TE} {t:TSet} (ho:PE X o to) (hi:PE X i ti) (hs:PSet X t)
  (ha:∀ v,assign (.Subscript o i pos) X.env v = (do
   let ov <-holding [v] (eval o X.env)
   let iv <-holding [v,ov] (eval i X.env)
   standAt pos
   holding [v,ov,iv] (setItem ov iv v)
   release [v,ov,iv] []):=by intro _; rfl):PG X (.Subscript o i pos) (gSub to ti t):=by
 intro pins s σ H v u Q I r h
 rw [ha]
 refine wpAny_bind (wpAny_holding (thn (ho pins s σ H _ I h) fun ov s1 ⟨x,H1,I1,r1,q1⟩=>?_))
 refine wpAny_bind (wpAny_holding (thn (hi pins s1 σ H1 _ I1 q1) fun iv s2 ⟨y,H2,I2,r2,q2⟩=>?_))
 refine wpAny_bind (wpAny_standAt (wpAny_bind (wpAny_holding (thn (hs pins s2 σ H2 x y v ov iv u _ I2 r1 r2 r q2) fun _ s3 ⟨H3,I3,q3⟩=>?_))))
 exact wpAny_release ⟨σ,H3,I3,q3⟩
noncomputable def tAsg (te:TE) (g:TG):TS:=fun D σ H=>te σ H fun x H1=>g x σ H1 D.nx
theorem ps_asg {tg e:Expr} {te:TE} {g:TG} (he:PE X e te) (hg:PG X tg g) (hs:swapsWithSole [tg] e pos.line X.env = pure false:=by rfl) (hw:swappedStores [tg] e X.env = pure none:=by rfl)
  (h1:(assignEach [tg] X.env).map (·.2) = [assign tg X.env]:=by rfl):PS X (.Assign [tg] e pos) (tAsg te g):=by
 intro pins s σ H D I h
 refine wpAny_Assign_stores (thn (he pins s σ H _ I h) fun v s1 ⟨x,H1,I1,r1,q1⟩=>?_) hs hw
 rw [h1]
 exact thn (hg pins s1 σ H1 x v _ I1 r1 q1) fun _ s2 q=>q
theorem ps_set {i:Nat} {x:Str} {e:Expr} {te:TE} {pos':Pos} (hN:X.N.Nodup) (hi:X.N[i]? = some x) (hx:Loc X.env.scope x) (he:PE X e te) (hs:swapsWith e (some (.Name x pos')) pos.line X.env = pure false:=by rfl) (hf:X.fn x = true\/X.env.scope.names.lookup x = some .local:=by first | exact .inl rfl | exact .inr rfl | assumption) :
  PS X (.Assign [.Name x pos'] e pos) (tAsg te (gName i)):=by
 intro pins s σ H D I h
 refine wpAny_Assign_Name (thn (he pins s σ H _ I h) fun v s1 ⟨y,H1,I1,r1,q1⟩=>?_) hs
 exact store_ok I1 hN hi hx r1 (fun s2 I2=>⟨_,H1,I2,q1⟩) hf
end
section
variable {X:Cx} {pos:Pos}
noncomputable def tWhile (c:TT) (tb:TS):TS:=fun D σ H=>∃ W:Nat->St->Hp->Prop,(∃ m,W m σ H)/\∀ m σ H,W m σ H ->
 c σ H fun b H1=>if b = true then ∃ N:St->Hp->Prop,(∀ σ' H',N σ' H'->∃ m',m' < m/\W m' σ' H')/\tb { D with nx:=N,ct:=N,bk:=D.nx } σ H1 else D.nx σ H1
theorem ps_while {c:Expr} {body:List Stmt} {tc:TT} {tb:TS} (hp:PassesOwn (model X.prog X.w) X.A X.env X.xe) (hc:PT X c tc) (hb:PSs X body tb):PS X (.While c body [] pos) (tWhile tc tb):=by
 intro pins s σ H D I h
 obtain ⟨W,⟨m0,w0⟩,turn⟩:=h
 refine wpAny_While (codeAny_whileLoop (fun n s'=>∃ σ' H',Inv X pins σ' H' s'/\W n σ' H') ?_ m0 ⟨σ,H,I,w0⟩)
 rintro n s1 ⟨σ1,H1,I1,w1⟩
 refine wpAny_passesOwn hp (thn (hc pins s1 σ1 H1 _ I1 (turn n σ1 H1 w1)) fun b s2 ⟨H2,I2,q2⟩=>?_)
 cases b with
 | true =>
  obtain ⟨N,hN,q2⟩:=q2
  rw [if_pos rfl]
  refine wpAny_passesOwn hp (thn (hb pins s2 σ1 H2 _ I2 q2) fun f s3 q3=>?_)
  cases f with
  | next =>
   obtain ⟨σ3,H3,I3,n3⟩:=q3
   obtain ⟨m',hm,w3⟩:=hN σ3 H3 n3
   exact ⟨m',hm,σ3,H3,I3,w3⟩
  | cont =>
   obtain ⟨σ3,H3,I3,n3⟩:=q3
   obtain ⟨m',hm,w3⟩:=hN σ3 H3 n3
   exact ⟨m',hm,σ3,H3,I3,w3⟩
  | brk=>exact q3
  | ret v=>exact q3
 | false =>
  rw [if_neg Bool.false_ne_true]
  exact wpAny_execs_nil ⟨σ1,H2,I2,q2⟩
end
structure It where
 go:Nat->Hp->Prop
 yld:Nat->Hp->V->Hp->Prop
 stop:Nat->Hp->Prop
noncomputable def FpOk (X:Cx) (pins:List (Addr × Obj)) (H:Hp) (b:Addr):Prop :=
 H b = none/\b ≠ X.env.locals/\b ∉ X.fs/\(b ∈ X.ex\/X.s₀.heap.objs.size<=b)/\(∀ x c,X.env.cells.lookup x = some c->c ≠ b)/\∀ p ∈ X.pn ++ pins,p.1 ≠ b
theorem Inv.fpOk {X:Cx} {pins:List (Addr × Obj)} {σ:St} {H H':Hp} {s:Shared} {b:Addr} (I:Inv X pins σ H s) (hb:s.heap.objs.size<=b) (hn:H' b = none):FpOk X pins H' b:=by
 refine ⟨hn,Nat.ne_of_gt (Nat.lt_of_lt_of_le I.lt hb),I.nofs hb,.inr (Nat.le_trans I.sz hb),fun x c e z=>?_,fun p hp z=>?_⟩
 ·obtain ⟨v,q⟩:=I.cell x c e
  exact absurd (Nat.lt_of_lt_of_le q.lt (by rw [z]; exact hb)) (Nat.lt_irrefl _)
 ·exact absurd (Nat.lt_of_lt_of_le (Heap.lt_size (I.pin p hp).1) (by rw [z]; exact hb)) (Nat.lt_irrefl _)
structure Turn (P:Program) (w:World) (K:PySem.W.Frag) (tg:Expr) (J:It) (fp:List Addr) (it:Addr) (tn:Nat->Heap->Prop):Prop where
 mem:it ∈ fp
 obj:∀ i h,tn i h->∀ b ∈ fp,∃ o,h.get? b = some o/\∀ v,o.data ≠ .cell v
 keep:∀ i h h',tn i h->(∀ b ∈ fp,∀ o,h.get? b = some o->h'.get? b = some o)->tn i h'
 item:∀ (X:Cx),X.prog = P->X.w = w->X.K = K->X.calm = true->∀ (i:Nat) (pins:List (Addr × Obj)) (s:Shared) (σ:St) (H:Hp) (E:Value->Shared->Prop),Inv X pins σ H s->(∀ b ∈ fp,FpOk X pins H b)->tn i s.heap->J.go i H ->
  wpAny (model P w) X.A (pyNext (.ref it)) (fun r s1=>∃ u,r = some u /\
   wpAny (model P w) X.A (letOwnedTupleGo tg (.ref it) u) (fun _ s2=>∃ x H',Inv X pins σ H' s2/\RelV x u/\J.yld i H x H'/\tn (i + 1) s2.heap/\∀ b ∈ fp,H' b = none) E s1) E s
 done:∀ (X:Cx),X.prog = P->X.w = w->X.K = K->X.calm = true->∀ (i:Nat) (pins:List (Addr × Obj)) (s:Shared) (σ:St) (H:Hp) (E:Value->Shared->Prop),Inv X pins σ H s->(∀ b ∈ fp,FpOk X pins H b)->tn i s.heap->J.stop i H ->
  wpAny (model P w) X.A (pyNext (.ref it)) (fun r s1=>r = none/\Inv X pins σ H s1) E s
 self:∀ (A:Around) (i:Nat) (s:Shared) (Q:Value->Shared->Prop) (E:Value->Shared->Prop),tn i s.heap->Q (.ref it) s->wpAny (model P w) A (pyIter (.ref it)) Q E s
noncomputable abbrev TI:=St->Hp->(It->Hp->Prop)->Prop
noncomputable def PIE (X:Cx) (pins:List (Addr × Obj)) (σ:St) (tg:Expr) (R:It->Hp->Prop) (itv:Value) (s2:Shared):Prop :=
 ∃ (it:Addr) (fp:List Addr) (tn:Nat->Heap->Prop) (J:It) (H':Hp),itv = .ref it/\Inv X pins σ H' s2/\Turn X.prog X.w X.K tg J fp it tn/\tn 0 s2.heap/\(∀ b ∈ fp,FpOk X pins H' b)/\R J H'
noncomputable def PI (X:Cx) (tg iter:Expr) (wi:TI):Prop :=
 ∀ (pins:List (Addr × Obj)) (s:Shared) (σ:St) (H:Hp) (R:It->Hp->Prop),Inv X pins σ H s->wi σ H R ->
  wpAny (model X.prog X.w) X.A (eval iter X.env) (fun v s1=>wpAny (model X.prog X.w) X.A (pyIter v) (PIE X pins σ tg R) X.xe s1) X.xe s
theorem go_of {M:Model} {A:Around} {E:Value->Shared->Prop} {s:Shared} {tg:Expr} {it:Addr} {u:Value} {o:Obj} {n:String} {vs:Array Value} {Q:Unit->Shared->Prop} (ho:s.heap.get? it = some o) (hc:o.cls = .type n) (hd:o.data = .fields vs)
    (hn:["enumerate", "zip", "dict_itemiterator", "dict_reverseitemiterator", "odict_iterator", "itertools.zip_longest", "itertools.pairwise"].contains n = false) (hQ:Q () s):wpAny M A (letOwnedTupleGo tg (.ref it) u) Q E s:=by
  unfold letOwnedTupleGo
  cases tg <;> first
    | exact wpAny_pure hQ
    | (cases u <;> first
        | exact wpAny_pure hQ
        | (refine wpAny_bind (wpAny_load ho ?_)
           rw [hc,hd]
           show wpAny M A (if (["enumerate", "zip", "dict_itemiterator", "dict_reverseitemiterator", "odict_iterator", "itertools.zip_longest", "itertools.pairwise"].contains n && vs[0]? == some (rawInt _)) = true then _ else _) Q E s
           rw [if_neg (by intro h; rw [hn,Bool.false_and] at h; cases h)]
           exact wpAny_pure hQ))
noncomputable def Itl (K:PySem.W.Frag) (a:Addr):It :=
 ⟨fun i H=>∃ xs x,SqL K H a xs/\xs[i]? = some x,fun i H x H'=>H' = H/\∀ xs,SqL K H a xs->xs[i]? = some x,fun i H=>∃ xs,SqL K H a xs/\xs.length<=i⟩
noncomputable def Itt (K:PySem.W.Frag) (a:Addr):It :=
 ⟨fun i H=>∃ xs x,SqT K H a xs/\xs[i]? = some x,fun i H x H'=>H' = H/\∀ xs,SqT K H a xs->xs[i]? = some x,fun i H=>∃ xs,SqT K H a xs/\xs.length<=i⟩
noncomputable def Itr (lo:Int) (n:Nat):It:=⟨fun i _=>i < n,fun i H x H'=>H' = H/\x = .int (lo + i),fun i _=>n<=i⟩
theorem turn_list {P:Program} {w:World} {K:PySem.W.Frag} {tg:Expr} (a it:Addr):Turn P w K tg (Itl K a) [it] it (fun i h=>h.IsListIter it a i) where
 mem:=by simp
 obj:=fun i h st b hb=>by
  have e:b = it:=by simpa using hb
  subst e
  obtain ⟨o,e,c,d⟩:=st
  exact ⟨o,e,fun v z=>by rw [d] at z; cases z⟩
 keep:=fun i h h' st k=>st.at fun o e=>k it (by simp) o e
 item:=by
  intro X hP hw hK hc i pins s σ H E I hf st hg
  subst hP hw hK
  obtain ⟨xs,x,hq,hx⟩:=hg
  obtain ⟨its,rv,p,hz⟩:=I.list hq
  obtain ⟨u,hu,ru⟩:=rv.get hx
  obtain ⟨f0,f1,f2,f3,f4,f5⟩:=hf it (by simp)
  refine wpAny_pyNext_list_item st p.isList (x:=u) (by simpa using hu) fun h' st' sb=>?_
  have I1:Inv X pins σ H { s with heap:=h' }:=I.turned (t':=s.toks) (fun b o hb e=>(sb.2 b hb).trans e) f0 f1 f3 f4 f5
  obtain ⟨o,e,c,d⟩:=id st'
  exact ⟨u,rfl,go_of (s:={ s with heap:=h' }) e c d (by decide) ⟨x,H,I1,ru,⟨rfl,fun ys hy=>by rw [I.list_inj hy hq]; exact hx⟩,st',fun b hb=>(hf b hb).1⟩⟩
 done:=by
  intro X hP hw hK hc i pins s σ H E I hf st hg
  subst hP hw hK
  obtain ⟨xs,hq,hx⟩:=hg
  obtain ⟨its,rv,p,hz⟩:=I.list hq
  obtain ⟨f0,f1,f2,f3,f4,f5⟩:=hf it (by simp)
  have hl:=rv.length
  exact wpAny_pyNext_list_end (I.ok.hd hc) st p.isList (by simp; omega) fun h' eb=>⟨rfl,I.turned (t':=s.toks) (fun b o hb e=>eb b o hb e) f0 f1 f3 f4 f5⟩
 self:=fun _ _ _ _ _ st h=>wpAny_pyIter_listiter st h
theorem turn_tuple {P:Program} {w:World} {K:PySem.W.Frag} {tg:Expr} (a it:Addr):Turn P w K tg (Itt K a) [it] it (fun i h=>h.IsTupleIter it a i) where
 mem:=by simp
 obj:=fun i h st b hb=>by
  have e:b = it:=by simpa using hb
  subst e
  obtain ⟨o,e,c,d⟩:=st
  exact ⟨o,e,fun v z=>by rw [d] at z; cases z⟩
 keep:=fun i h h' st k=>st.at fun o e=>k it (by simp) o e
 item:=by
  intro X hP hw hK hc i pins s σ H E I hf st hg
  subst hP hw hK
  obtain ⟨xs,x,hq,hx⟩:=hg
  obtain ⟨its,rv,p,hz⟩:=I.tuple hq
  obtain ⟨u,hu,ru⟩:=rv.get hx
  obtain ⟨f0,f1,f2,f3,f4,f5⟩:=hf it (by simp)
  refine wpAny_pyNext_tuple_item st (show s.heap.IsTuple a its.toArray from p) (x:=u) (by simpa using hu) fun h' st' sb=>?_
  have I1:Inv X pins σ H { s with heap:=h' }:=I.turned (t':=s.toks) (fun b o hb e=>(sb.2 b hb).trans e) f0 f1 f3 f4 f5
  obtain ⟨o,e,c,d⟩:=id st'
  exact ⟨u,rfl,go_of (s:={ s with heap:=h' }) e c d (by decide) ⟨x,H,I1,ru,⟨rfl,fun ys hy=>by rw [I.tuple_inj hy hq]; exact hx⟩,st',fun b hb=>(hf b hb).1⟩⟩
 done:=by
  intro X hP hw hK hc i pins s σ H E I hf st hg
  subst hP hw hK
  obtain ⟨xs,hq,hx⟩:=hg
  obtain ⟨its,rv,p,hz⟩:=I.tuple hq
  obtain ⟨f0,f1,f2,f3,f4,f5⟩:=hf it (by simp)
  have hl:=rv.length
  exact wpAny_pyNext_tuple_end (I.ok.hd hc) st (show s.heap.IsTuple a its.toArray from p) (by simp; omega) fun h' eb=>⟨rfl,I.turned (t':=s.toks) (fun b o hb e=>eb b o hb e) f0 f1 f3 f4 f5⟩
 self:=fun _ _ _ _ _ st h=>wpAny_pyIter_tupleiter st h
theorem turn_range {P:Program} {w:World} {K:PySem.W.Frag} {tg:Expr} (it:Addr) (lo:Int) (n:Nat):Turn P w K tg (Itr lo n) [it] it (fun i h=>IsRangeIter h it (lo + (i:Nat) * 1) ((n:Int) - (i:Nat)) 1) where
 mem:=by simp
 obj:=fun i h st b hb=>by
  have e:b = it:=by simpa using hb
  subst e
  exact ⟨_,st,fun v z=>by
   have z':Data.fields _ = Data.cell v:=z
   cases z'⟩
 keep:=fun i h h' st k=>k it (by simp) _ st
 item:=by
  intro X hP hw hK hc i pins s σ H E I hf st hg
  subst hP hw hK
  obtain ⟨f0,f1,f2,f3,f4,f5⟩:=hf it (by simp)
  have W:=Walks.range (prog:=X.prog) (w:=X.w) (I.ok.hd hc) it lo 1 n
  refine W.item i s _ _ hg st fun v h' tk hv st' kk=>?_
  obtain ⟨t,rfl⟩:=hv
  have I1:Inv X pins σ H { s with heap:=h',toks:=tk }:=I.turned (fun b o hb e=>kk b o (by simpa using hb) e) f0 f1 f3 f4 f5
  refine ⟨_,rfl,go_of (s:={ s with heap:=h',toks:=tk }) (n := "range_iterator") st' rfl rfl (by decide) ⟨.int (lo + i),H,I1,⟨t,?_⟩,⟨rfl,rfl⟩,st',fun b hb=>(hf b hb).1⟩⟩
  rw [Int.mul_one]
 done:=by
  intro X hP hw hK hc i pins s σ H E I hf st hg
  subst hP hw hK
  obtain ⟨f0,f1,f2,f3,f4,f5⟩:=hf it (by simp)
  exact wpAny_pyNext_range_end (I.ok.hd hc) st (by have:n<=i:=hg; omega) fun h' eb=>⟨rfl,I.turned (t':=s.toks) (fun b o hb e=>eb b o hb e) f0 f1 f3 f4 f5⟩
 self:=fun _ _ _ _ _ st h=>wpAny_pyIter_rangeiter st h
end L2
namespace L2
open PySem PySem.Spec PyProof.Rows
section
variable {X:Cx} {tg:Expr}
noncomputable def iList (K:PySem.W.Frag) (tl:TE):TI:=fun σ H R=>tl σ H fun x H1=>∃ a,x = .ref a/\(∃ xs,SqL K H1 a xs)/\R (Itl K a) H1
noncomputable def iTup (K:PySem.W.Frag) (tl:TE):TI:=fun σ H R=>tl σ H fun x H1=>∃ a,x = .ref a/\(∃ xs,SqT K H1 a xs)/\R (Itt K a) H1
theorem pi_list {l:Expr} {tl:TE} (hl:PE X l tl):PI X tg l (iList X.K tl):=by
 intro pins s σ H R I h
 refine thn (hl pins s σ H _ I h) fun v s1 ⟨x,H1,I1,r1,q1⟩=>?_
 obtain ⟨a,e,⟨xs,hq⟩,q⟩:=q1
 subst e
 cases r1
 obtain ⟨its,rv,p,hz⟩:=I1.list hq
 refine wpAny_pyIter_list p.isList ?_
 refine ⟨s1.heap.objs.size,[s1.heap.objs.size],_,_,H1,rfl,I1.kept (t':=s1.toks) fun b o e=>Heap.get?_push_of_some _ e,turn_list a _,⟨_,Heap.get?_push_size _ rfl,rfl,rfl⟩,fun b hb=>?_,q⟩
 have e:b = s1.heap.objs.size:=by simpa using hb
 subst e
 exact I1.fpOk (Nat.le_refl _) (I1.hok.fresh (Nat.le_refl _))
theorem pi_tup {l:Expr} {tl:TE} (hl:PE X l tl):PI X tg l (iTup X.K tl):=by
 intro pins s σ H R I h
 refine thn (hl pins s σ H _ I h) fun v s1 ⟨x,H1,I1,r1,q1⟩=>?_
 obtain ⟨a,e,⟨xs,hq⟩,q⟩:=q1
 subst e
 cases r1
 obtain ⟨its,rv,p,hz⟩:=I1.tuple hq
 refine wpAny_pyIter_tuple (show s1.heap.IsTuple a its.toArray from p) ?_
 refine ⟨s1.heap.objs.size,[s1.heap.objs.size],_,_,H1,rfl,I1.kept (t':=s1.toks) fun b o e=>Heap.get?_push_of_some _ e,turn_tuple a _,⟨_,Heap.get?_push_size _ rfl,rfl,rfl⟩,fun b hb=>?_,q⟩
 have e:b = s1.heap.objs.size:=by simpa using hb
 subst e
 exact I1.fpOk (Nat.le_refl _) (I1.hok.fresh (Nat.le_refl _))
theorem range_it {pins:List (Addr × Obj)} {σ:St} {H:Hp} {s:Shared} {R:It->Hp->Prop} {E:Value->Shared->Prop} {lo hi:Int} {t u v:Tok} {tk:Nat} (I:Inv X pins σ H s) (h1:-(2 ^ 62)<=lo) (h2:lo < 2 ^ 62) (h3:-(2 ^ 62)<=hi) (h4:hi < 2 ^ 62)
  (q:R (Itr lo (hi - lo).toNat) H):wpAny (model X.prog X.w) X.A (pyIter (.ref s.heap.objs.size)) (PIE X pins σ tg R) E { s with heap:=s.heap.push { cls:=.type "range",data:=.fields #[.int lo t,.int hi u,.int 1 v] },toks:=tk }:=by
 refine wpAny_pyIter_range (IsRange.new ..) (small_one h1 h2 h3 h4) ?_
 have I1:Inv X pins σ H { s with heap:=s.heap.push { cls:=.type "range",data:=.fields #[.int lo t,.int hi u,.int 1 v] },toks:=tk }:=I.kept fun b o e=>Heap.get?_push_of_some _ e
 refine ⟨(s.heap.push { cls:=.type "range",data:=.fields #[.int lo t,.int hi u,.int 1 v] }).objs.size,[(s.heap.push { cls:=.type "range",data:=.fields #[.int lo t,.int hi u,.int 1 v] }).objs.size],_,_,H,rfl,
  I1.kept (t':=tk) fun b o e=>Heap.get?_push_of_some _ e,turn_range _ lo (hi - lo).toNat,?_,fun b hb=>?_,q⟩
 ·have e1:lo + ((0:Nat):Int) * 1 = lo:=by simp
  have e2:(((hi - lo).toNat:Nat):Int) - ((0:Nat):Int) = Builtin.Range.rangeSize lo hi 1:=by rw [rangeSize_one]; split <;> omega
  show IsRangeIter _ _ (lo + ((0:Nat):Int) * 1) ((((hi - lo).toNat:Nat):Int) - ((0:Nat):Int)) 1
  rw [e1,e2]
  exact Heap.get?_push_size _ rfl
 ·have e:b = (s.heap.push { cls:=.type "range",data:=.fields #[.int lo t,.int hi u,.int 1 v] }).objs.size:=by simpa using hb
  subst e
  exact I1.fpOk (Nat.le_refl _) (I1.hok.fresh (Nat.le_refl _))
noncomputable def iRng1 (ta:TA):TI:=fun σ H R=>ta σ H fun vs H1=>∃ j:Int,vs = [.int j]/\-(2 ^ 62)<=j/\j < 2 ^ 62/\R (Itr 0 j.toNat) H1
theorem pi_range1 {a:Expr} {ta:TA} {p pos:Pos} (hg:Gl X "range") (hm:X.mg "range" = none) (ha:PA X [a] ta) (hs:starEach [a] X.env = [(false,eval a X.env)]:=by rfl):PI X tg (.Call (.Name "range" p) [a] [] pos) (iRng1 ta):=by
 intro pins s σ H R I h
 refine Call_ (ld_blt I hg hm boot_range (PyProof.Rows.callWith_type1 (thn (ha pos pins s σ H _ I h) fun us s1 ⟨vs,H1,I1,r1,q1⟩=>?_) hs rfl))
 obtain ⟨j,e,q1,q2,q⟩:=q1
 subst e
 cases r1 with
 | cons r rr =>
  cases rr
  obtain ⟨t,rfl⟩:=r
  exact call_range_1 (range_it I1 (by omega) (by omega) q1 q2 (by simpa using q))
noncomputable def tFor (wi:TI) (g:TG) (tb:TS):TS:=fun D σ H=>wi σ H fun J H1=>∃ W:Nat->Nat->St->Hp->Prop,(∃ m,W 0 m σ H1)/\∀ i m σ H,W i m σ H ->
 (J.stop i H/\D.nx σ H)\/(J.go i H/\∃ N:St->Hp->Prop,(∀ σ' H',N σ' H'->∃ m',m' < m/\W (i + 1) m' σ' H')/\∀ x H',J.yld i H x H'->g x σ H' fun σ2 H2=>tb { D with nx:=N,ct:=N,bk:=D.nx } σ2 H2)
noncomputable def pinsAt (fp:List Addr) (h:Heap):List (Addr × Obj):=fp.filterMap fun b=>(h.get? b).map fun o=>(b,o)
theorem mem_pinsAt {fp:List Addr} {h:Heap} {b:Addr} {o:Obj} (hb:b ∈ fp) (e:h.get? b = some o):(b,o) ∈ pinsAt fp h:=List.mem_filterMap.mpr ⟨b,hb,by rw [e]; rfl⟩
theorem of_pinsAt {fp:List Addr} {h:Heap} {p:Addr × Obj} (hp:p ∈ pinsAt fp h):p.1 ∈ fp/\h.get? p.1 = some p.2:=by
 obtain ⟨b,hb,e⟩:=List.mem_filterMap.mp hp
 cases q:h.get? b with
 | none=>rw [q] at e; cases e
 | some o =>
  rw [q] at e
  have e':(b,o) = p:=Option.some.inj e
  subst e'
  exact ⟨hb,q⟩
theorem Inv.pinned {pins:List (Addr × Obj)} {σ:St} {H:Hp} {s:Shared} {fp:List Addr} (I:Inv X pins σ H s) (hf:∀ b ∈ fp,FpOk X pins H b) (ho:∀ b ∈ fp,∃ o,s.heap.get? b = some o/\∀ v,o.data ≠ .cell v):Inv X (pins ++ pinsAt fp s.heap) σ H s :=
 I.pins_of fun p hp=>(List.mem_append.mp hp).elim (fun z=>I.pin p (List.mem_append_right _ z)) fun z=>by
  obtain ⟨hb,e⟩:=of_pinsAt z
  obtain ⟨f0,f1,f2,_⟩:=hf p.1 hb
  obtain ⟨o,e',d⟩:=ho p.1 hb
  rw [e] at e'; cases e'
  exact ⟨e,f0,f1,f2,d⟩
theorem Inv.unpinned {pins pl:List (Addr × Obj)} {σ:St} {H:Hp} {s:Shared} (I:Inv X (pins ++ pl) σ H s):Inv X pins σ H s:=I.pins_of fun p hp=>I.pin p (List.mem_append_right _ (List.mem_append_left _ hp))
theorem ps_for {iter:Expr} {body:List Stmt} {wi:TI} {g:TG} {tb:TS} {pos:Pos} (hp:PassesOwn (model X.prog X.w) X.A X.env X.xe) (hc:X.calm = true) (hi:PI X tg iter wi) (hg:PG X tg g) (hb:PSs X body tb)
  (hs:∀ x,foldedSetIterable iter X.env x = pure x:=by intro _; rfl):PS X (.For tg iter body [] pos) (tFor wi g tb):=by
 intro pins s σ H D I h
 refine wpAny_For (thn (hi pins s σ H _ I h) fun v s1 h1=>thn h1 fun itv s2 h2=>?_) hs
 obtain ⟨it,fp,tn,J,H2,e,I2,T,st2,f2,W,⟨m0,w0⟩,turn⟩:=h2
 subst e
 have stat:∀ {H':Hp},(∀ b ∈ fp,H' b = none)->∀ b ∈ fp,FpOk X pins H' b:=fun hn b hb=>⟨hn b hb,(f2 b hb).2⟩
 refine codeAny_forLoop_any (fun n s'=>∃ i σ' H',Inv X pins σ' H' s'/\tn i s'.heap/\(∀ b ∈ fp,H' b = none)/\W i n σ' H') ?_ m0 ⟨0,σ,H2,I2,st2,fun b hb=>(f2 b hb).1,w0⟩
 rintro n s3 ⟨i,σ3,H3,I3,st3,fr3,w3⟩
 rcases turn i n σ3 H3 w3 with ⟨stop,qn⟩ | ⟨go,N,hN,step⟩
 ·refine wpAny_passesOwn hp (thn (T.done X rfl rfl rfl hc i pins s3 σ3 H3 X.xe I3 (stat fr3) st3 stop) fun r s4 ⟨hr,I4⟩=>?_)
  subst hr
  exact wpAny_execs_nil ⟨σ3,H3,I4,qn⟩
 ·refine wpAny_passesOwn hp (thn (T.item X rfl rfl rfl hc i pins s3 σ3 H3 X.xe I3 (stat fr3) st3 go) fun r s4 ⟨u,hr,h4⟩=>?_)
  subst hr
  refine wpAny_passesOwn hp (thn h4 fun _ s5 ⟨x,H5,I5,r5,y5,st5,fr5⟩=>?_)
  have I5':=I5.pinned (stat fr5) (T.obj _ _ st5)
  refine wpAny_passesOwn hp (thn (hg _ s5 σ3 H5 x u _ I5' r5 (step x H5 y5)) fun _ s6 ⟨σ6,H6,I6,q6⟩=>?_)
  refine wpAny_passesOwn hp (thn (hb _ s6 σ6 H6 _ I6 q6) fun f s7 q7=>?_)
  have again:∀ {σ7:St} {H7:Hp},Inv X (pins ++ pinsAt fp s5.heap) σ7 H7 s7->N σ7 H7->∃ m,m < n/\∃ i σ' H',Inv X pins σ' H' s7/\tn i s7.heap/\(∀ b ∈ fp,H' b = none)/\W i m σ' H':=fun {σ7 H7} I7 n7=>by
   obtain ⟨m',hm,w7⟩:=hN σ7 H7 n7
   refine ⟨m',hm,i + 1,σ7,H7,I7.unpinned,T.keep _ _ _ st5 fun b hb o e=>(I7.pin (b,o) (List.mem_append_right _ (List.mem_append_right _ (mem_pinsAt hb e)))).1,fun b hb=>?_,w7⟩
   obtain ⟨o,e,d⟩:=T.obj _ _ st5 b hb
   exact (I7.pin (b,o) (List.mem_append_right _ (List.mem_append_right _ (mem_pinsAt hb e)))).2.1
  cases f with
  | next=>obtain ⟨σ7,H7,I7,n7⟩:=q7; exact again I7 n7
  | cont=>obtain ⟨σ7,H7,I7,n7⟩:=q7; exact again I7 n7
  | brk=>obtain ⟨σ7,H7,I7,q7⟩:=q7; exact ⟨σ7,H7,I7.unpinned,q7⟩
  | ret v=>obtain ⟨x7,σ7,H7,I7,r7,q7⟩:=q7; exact ⟨x7,σ7,H7,I7.unpinned,r7,q7⟩
end
theorem for_range {lo:Int} {n:Nat} {g:TG} {tb:TS} {D:Ends} {σ:St} {H:Hp} (Pv:Nat->St->Hp->Prop) (h0:Pv 0 σ H)
  (hs:∀ i σ H,i < n->Pv i σ H->g (.int (lo + i)) σ H fun σ2 H2=>tb { D with nx:=Pv (i + 1),ct:=Pv (i + 1),bk:=D.nx } σ2 H2) (hd:∀ σ H,Pv n σ H->D.nx σ H) :
  ∃ W:Nat->Nat->St->Hp->Prop,(∃ m,W 0 m σ H)/\∀ i m σ H,W i m σ H ->
   ((Itr lo n).stop i H/\D.nx σ H)\/((Itr lo n).go i H/\∃ N:St->Hp->Prop,(∀ σ' H',N σ' H'->∃ m',m' < m/\W (i + 1) m' σ' H')/\∀ x H',(Itr lo n).yld i H x H'->g x σ H' fun σ2 H2=>tb { D with nx:=N,ct:=N,bk:=D.nx } σ2 H2):=by
 refine ⟨fun i m σ H=>m = n - i/\i<=n/\Pv i σ H,⟨n,by simp,Nat.zero_le _,h0⟩,?_⟩
 rintro i m σ H ⟨rfl,hi,p⟩
 by_cases hlt:i < n
 ·refine .inr ⟨hlt,Pv (i + 1),fun σ' H' p'=>⟨n - (i + 1),by omega,rfl,hlt,p'⟩,fun x H' y=>?_⟩
  obtain ⟨e,y⟩:=y
  subst e y
  exact hs i σ _ hlt p
 ·have e:i = n:=by omega
  subst e
  exact .inl ⟨Nat.le_refl _,hd σ H p⟩
end L2
namespace L2
open PySem PySem.Spec PyProof.Rows
noncomputable abbrev R2:=V->V->Hp->VK->Prop
noncomputable def OpR (X:Cx) (f:Value->Value->Sem Value) (r:R2):Prop :=
 ∀ (pins:List (Addr × Obj)) (s:Shared) (σ:St) (H:Hp) (x y:V) (v u:Value) (Q:VK),Inv X pins σ H s->RelV x v->RelV y u->r x y H Q ->
  wpAny (model X.prog X.w) X.A (f v u) (EP X pins σ Q) X.xe s
noncomputable def CallR (X:Cx) (f:Value) (r:List V->Hp->VK->Prop):Prop :=
 ∀ (pins:List (Addr × Obj)) (s:Shared) (σ:St) (H:Hp) (xs:List V) (us:List Value) (Q:VK),Inv X pins σ H s->Vals xs us->r xs H Q ->
  wpAny (model X.prog X.w) X.A (call f us) (EP X pins σ Q) X.xe s
noncomputable def tOp (r:R2) (ta tb:TE):TE:=fun σ H Q=>ta σ H fun x H1=>tb σ H1 fun y H2=>r x y H2 Q
noncomputable def rI (C:Int->Int->Prop) (g:Int->Int->V):R2:=fun x y H Q=>∃ i j,x = .int i/\y = .int j/\C i j/\Q (g i j) H
noncomputable def rI0 (g:Int->Int->V):R2:=fun x y H Q=>∃ i j,x = .int i/\y = .int j/\Q (g i j) H
section
variable {X:Cx} {a b c:Expr} {ta tb tc:TE} {pos:Pos}
theorem binT (ha:PE X a ta) (hb:PE X b tb) {pins:List (Addr × Obj)} {s:Shared} {σ:St} {H:Hp} {R:V->V->Hp->Prop} (I:Inv X pins σ H s)
  (h:ta σ H fun x H1=>tb σ H1 fun y H2=>R x y H2) {Q:Value->Shared->Prop} {f:Value->Value->Sem Value}
  (hf:∀ v u s2 x y H2,Inv X pins σ H2 s2->RelV x v->RelV y u->R x y H2->wpAny (model X.prog X.w) X.A (f v u) Q X.xe s2) :
  wpAny (model X.prog X.w) X.A (eval a X.env) (fun v s₁=>wpAny (model X.prog X.w) X.A (eval b X.env) (fun u s₂=>wpAny (model X.prog X.w) X.A (f v u) Q X.xe s₂) X.xe s₁) X.xe s:=by
 refine thn (ha pins s σ H _ I h) fun v s1 ⟨x,H1,I1,r1,q1⟩=>?_
 refine thn (hb pins s1 σ H1 _ I1 q1) fun u s2 ⟨y,H2,I2,r2,q2⟩=>?_
 exact hf v u s2 x y H2 I2 r1 r2 q2
theorem pe_op {op:Operator} {r:R2} (ho:OpR X (binaryOp op) r) (ha:PE X a ta) (hb:PE X b tb):PE X (.BinOp a op b pos) (tOp r ta tb):=by
 intro pins s σ H Q I h
 exact wpAny_BinOp (binT ha hb I h fun v u s2 x y H2 I2 rx ry q=>ho pins s2 σ H2 x y v u Q I2 rx ry q)
theorem opI {f:Value->Value->Sem Value} {C:Int->Int->Prop} {g:Int->Int->Int}
  (rule:∀ (i j:Int) (t u:Tok) (s:Shared) (Q:Value->Shared->Prop) (E:Value->Shared->Prop),C i j->Q (.int (g i j) s.toks) { s with toks:=s.toks + 1 }->wpAny (model X.prog X.w) X.A (f (.int i t) (.int j u)) Q E s) :
  OpR X f (rI C fun i j=>.int (g i j)):=by
 intro pins s σ H x y v u Q I rx ry h
 obtain ⟨i,j,rfl,rfl,hc,q⟩:=h
 obtain ⟨t,rfl⟩:=rx
 obtain ⟨t',rfl⟩:=ry
 exact rule i j t t' s _ _ hc ⟨.int (g i j),H,I.tok _,⟨_,rfl⟩,q⟩
theorem opI0 {f:Value->Value->Sem Value} {g:Int->Int->Int}
  (rule:∀ (i j:Int) (t u:Tok) (s:Shared) (Q:Value->Shared->Prop) (E:Value->Shared->Prop),Q (.int (g i j) s.toks) { s with toks:=s.toks + 1 }->wpAny (model X.prog X.w) X.A (f (.int i t) (.int j u)) Q E s) :
  OpR X f (rI0 fun i j=>.int (g i j)):=by
 intro pins s σ H x y v u Q I rx ry h
 obtain ⟨i,j,rfl,rfl,q⟩:=h
 obtain ⟨t,rfl⟩:=rx
 obtain ⟨t',rfl⟩:=ry
 exact rule i j t t' s _ _ ⟨.int (g i j),H,I.tok _,⟨_,rfl⟩,q⟩
theorem opB0 {f:Value->Value->Sem Value} {g:Int->Int->Bool}
  (rule:∀ (i j:Int) (t u:Tok) (s:Shared) (Q:Value->Shared->Prop) (E:Value->Shared->Prop),Q (.bool (g i j)) s->wpAny (model X.prog X.w) X.A (f (.int i t) (.int j u)) Q E s) :
  OpR X f (rI0 fun i j=>.bl (g i j)):=by
 intro pins s σ H x y v u Q I rx ry h
 obtain ⟨i,j,rfl,rfl,q⟩:=h
 obtain ⟨t,rfl⟩:=rx
 obtain ⟨t',rfl⟩:=ry
 exact rule i j t t' s _ _ ⟨.bl (g i j),H,I,rfl,q⟩
noncomputable def CDiv (i j:Int):Prop:=0 < j/\j < 1073741824
noncomputable def CPow (i j:Int):Prop:=0<=j/\j<=1000000/\i.natAbs < 2 ^ 64
noncomputable def CMul (i j:Int):Prop:=(-(2 ^ 64) < i/\i < 2 ^ 64)\/(-(2 ^ 64) < j/\j < 2 ^ 64)
theorem CMul.ok {i j:Int} (h:CMul i j):IntMulOk i j:=by
 rcases h with ⟨h1,h2⟩ | ⟨h1,h2⟩
 ·exact .of_left (intBits_le_64 h1 h2)
 ·exact .of_right (intBits_le_64 h1 h2)
theorem op_add:OpR X (binaryOp .Add) (rI0 fun i j=>.int (i + j)):=opI0 fun _ _ _ _ _ _ _ q=>add_int q
theorem op_sub:OpR X (binaryOp .Sub) (rI0 fun i j=>.int (i - j)):=opI0 fun _ _ _ _ _ _ _ q=>sub_int q
theorem op_mul:OpR X (binaryOp .Mult) (rI CMul fun i j=>.int (i * j)):=opI fun _ _ _ _ _ _ _ hc q=>mul_int q hc.ok
theorem op_fdiv:OpR X (binaryOp .FloorDiv) (rI CDiv fun i j=>.int (i / j)):=opI fun i j _ _ _ _ _ hc q=>by
 have h1:(0:Int) < j:=hc.1
 have h2:j < 1073741824:=hc.2
 exact floordiv_int (by omega) (by rw [Int.fdiv_eq_ediv_of_nonneg i (by omega)]; exact q) (.inl (PyProof.noPylong_small (by omega)))
theorem op_mod:OpR X (binaryOp .Mod) (rI (fun _ j=>0 < j) fun i j=>.int (i % j)):=opI fun i j _ _ _ _ _ hc q=>by
 have h1:(0:Int) < j:=hc
 exact mod_int' (by omega) (by rw [Int.fmod_eq_emod_of_nonneg i (by omega)]; exact q)
theorem op_pow:OpR X (binaryOp .Pow) (rI CPow fun i j=>.int (i ^ j.toNat)):=opI fun _ _ _ _ _ _ _ hc q=>pow_int_small hc.1 hc.2.1 hc.2.2 q
end
noncomputable def scal:V->V->Bool
 | .non,.non=>true | .non,.int _=>true | .int _,.non=>true | .non,.bl _=>true | .bl _,.non=>true | .non,.str _=>true | .str _,.non=>true
 | .int _,.int _=>true | .bl _,.bl _=>true | .str _,.str _=>true | .byt _,.byt _=>true
 | .int _,.str _=>true | .str _,.int _=>true | .bl _,.str _=>true | .str _,.bl _=>true
 | _,_=>false
noncomputable def rEq:R2:=fun x y H Q=>scal x y = true/\Q (.bl (decide (x = y))) H
noncomputable def rNe:R2:=fun x y H Q=>scal x y = true/\Q (.bl (!decide (x = y))) H
theorem dec_int {i j:Int}:decide (V.int i = V.int j) = (i == j):=by
 rw [Bool.eq_iff_iff]
 simp
theorem dec_bl {i j:Bool}:decide (V.bl i = V.bl j) = (i == j):=by
 rw [Bool.eq_iff_iff]
 simp
theorem dec_str {i j:Str}:decide (V.str i = V.str j) = (i == j):=by
 rw [Bool.eq_iff_iff]
 simp
theorem dec_byt {i j:Array UInt8}:decide (V.byt i = V.byt j) = (i.toList == j.toList):=by
 rw [Bool.eq_iff_iff]
 cases i
 cases j
 simp
section
variable {X:Cx} {a b c:Expr} {ta tb tc:TE} {pos:Pos}
theorem fin_bl {pins:List (Addr × Obj)} {σ:St} {H:Hp} {s:Shared} {Q:VK} {k k':Bool} (I:Inv X pins σ H s) (q:Q (.bl k) H) (e:k = k'):EP X pins σ Q (.bool k') s:=by
 subst e
 exact ⟨.bl k,H,I,rfl,q⟩
theorem op_eq:OpR X (compareOp .Eq) rEq:=by
 intro pins s σ H x y v u Q I rx ry h
 obtain ⟨hs,q⟩:=h
 cases x with
 | non =>
  cases rx
  cases y with
  | non=>cases ry; exact PySem.EqNone.eq_none_none (fin_bl I q (by simp))
  | bl j=>cases ry; exact PySem.EqNone.eq_none_bool (fin_bl I q (by simp))
  | int j=>obtain ⟨t',rfl⟩:=ry; exact PySem.EqNone.eq_none_int (fin_bl I q (by simp))
  | str j=>obtain ⟨t',rfl⟩:=ry; exact PySem.EqNone.eq_none_str (fin_bl I q (by simp))
  | _=>exact absurd (show false = true from hs) Bool.false_ne_true
 | bl i =>
  cases rx
  cases y with
  | non=>cases ry; exact PySem.EqNone.eq_bool_none (fin_bl I q (by simp))
  | bl j=>cases ry; exact eq_bool (fin_bl I q dec_bl)
  | str j=>obtain ⟨t',rfl⟩:=ry; exact PySem.EqMixed.eq_bool_str (fin_bl I q (by simp))
  | _=>exact absurd (show false = true from hs) Bool.false_ne_true
 | int i =>
  obtain ⟨t,rfl⟩:=rx
  cases y with
  | non=>cases ry; exact PySem.EqNone.eq_int_none (fin_bl I q (by simp))
  | int j=>obtain ⟨t',rfl⟩:=ry; exact eq_int (fin_bl I q dec_int)
  | str j=>obtain ⟨t',rfl⟩:=ry; exact PySem.EqMixed.eq_int_str (fin_bl I q (by simp))
  | _=>exact absurd (show false = true from hs) Bool.false_ne_true
 | str i =>
  obtain ⟨t,rfl⟩:=rx
  cases y with
  | non=>cases ry; exact PySem.EqNone.eq_str_none (fin_bl I q (by simp))
  | bl j=>cases ry; exact PySem.EqMixed.eq_str_bool (fin_bl I q (by simp))
  | int j=>obtain ⟨t',rfl⟩:=ry; exact PySem.EqMixed.eq_str_int (fin_bl I q (by simp))
  | str j=>obtain ⟨t',rfl⟩:=ry; exact eq_str (fin_bl I q dec_str)
  | _=>exact absurd (show false = true from hs) Bool.false_ne_true
 | byt i =>
  obtain ⟨t,rfl⟩:=rx
  cases y with
  | byt j=>obtain ⟨t',rfl⟩:=ry; exact PySem.W.eq_bytes (fin_bl I q dec_byt)
  | _=>exact absurd (show false = true from hs) Bool.false_ne_true
 | _=>cases y <;> exact absurd (show false = true from hs) Bool.false_ne_true
theorem op_ne:OpR X (compareOp .NotEq) rNe:=by
 intro pins s σ H x y v u Q I rx ry h
 obtain ⟨hs,q⟩:=h
 cases x with
 | non =>
  cases rx
  cases y with
  | non=>cases ry; exact PySem.EqNone.ne_none_none (fin_bl I q (by simp))
  | bl j=>cases ry; exact PySem.EqNone.ne_none_bool (fin_bl I q (by simp))
  | int j=>obtain ⟨t',rfl⟩:=ry; exact PySem.EqNone.ne_none_int (fin_bl I q (by simp))
  | str j=>obtain ⟨t',rfl⟩:=ry; exact PySem.EqNone.ne_none_str (fin_bl I q (by simp))
  | _=>exact absurd (show false = true from hs) Bool.false_ne_true
 | bl i =>
  cases rx
  cases y with
  | non=>cases ry; exact PySem.EqNone.ne_bool_none (fin_bl I q (by simp))
  | bl j=>cases ry; exact ne_bool (fin_bl I q (congrArg not dec_bl))
  | str j=>obtain ⟨t',rfl⟩:=ry; exact PySem.EqMixed.ne_bool_str (fin_bl I q (by simp))
  | _=>exact absurd (show false = true from hs) Bool.false_ne_true
 | int i =>
  obtain ⟨t,rfl⟩:=rx
  cases y with
  | non=>cases ry; exact PySem.EqNone.ne_int_none (fin_bl I q (by simp))
  | int j=>obtain ⟨t',rfl⟩:=ry; exact ne_int (fin_bl I q (congrArg not dec_int))
  | str j=>obtain ⟨t',rfl⟩:=ry; exact PySem.EqMixed.ne_int_str (fin_bl I q (by simp))
  | _=>exact absurd (show false = true from hs) Bool.false_ne_true
 | str i =>
  obtain ⟨t,rfl⟩:=rx
  cases y with
  | non=>cases ry; exact PySem.EqNone.ne_str_none (fin_bl I q (by simp))
  | bl j=>cases ry; exact PySem.EqMixed.ne_str_bool (fin_bl I q (by simp))
  | int j=>obtain ⟨t',rfl⟩:=ry; exact PySem.EqMixed.ne_str_int (fin_bl I q (by simp))
  | str j=>obtain ⟨t',rfl⟩:=ry; exact ne_str (fin_bl I q (congrArg not dec_str))
  | _=>exact absurd (show false = true from hs) Bool.false_ne_true
 | byt i =>
  obtain ⟨t,rfl⟩:=rx
  cases y with
  | byt j=>obtain ⟨t',rfl⟩:=ry; exact PySem.W.ne_bytes (fin_bl I q (congrArg not dec_byt))
  | _=>exact absurd (show false = true from hs) Bool.false_ne_true
 | _=>cases y <;> exact absurd (show false = true from hs) Bool.false_ne_true
theorem op_lt:OpR X (compareOp .Lt) (rI0 fun i j=>.bl (decide (i < j))):=opB0 fun _ _ _ _ _ _ _ q=>lt_int q
theorem op_le:OpR X (compareOp .LtE) (rI0 fun i j=>.bl (decide (i<=j))):=opB0 fun _ _ _ _ _ _ _ q=>le_int q
theorem op_gt:OpR X (compareOp .Gt) (rI0 fun i j=>.bl (decide (j < i))):=opB0 fun _ _ _ _ _ _ _ q=>gt_int q
theorem op_ge:OpR X (compareOp .GtE) (rI0 fun i j=>.bl (decide (j<=i))):=opB0 fun _ _ _ _ _ _ _ q=>ge_int q
theorem op_in_str:OpR X (compareOp .In) (fun x y H Q=>∃ i j,x = .str i/\y = .str j/\Q (.bl (!(Builtin.Str.occurrences j i 0 j.length 1).isEmpty)) H):=by
 intro pins s σ H x y v u Q I rx ry h
 obtain ⟨i,j,rfl,rfl,q⟩:=h
 obtain ⟨t,rfl⟩:=rx
 obtain ⟨t',rfl⟩:=ry
 exact in_str (fin_bl I q rfl)
theorem op_isN:OpR X (compareOp .Is) (fun x y H Q=>y = .non/\Q (.bl (decide (x = .non))) H):=by
 intro pins s σ H x y v u Q I rx ry h
 obtain ⟨rfl,q⟩:=h
 cases ry
 refine is_none_gen (fin_bl I q ?_)
 cases x <;> first
  | (cases rx; rfl)
  | (obtain ⟨t,rfl⟩:=rx; rfl)
theorem nomark (b:Expr) {op:CmpOp} (h:op ≠ .In:=by decide) (h2:op ≠ .NotIn:=by decide):behindInMarks op b = false:=by
 have e1:(op == CmpOp.In) = false:=by cases op <;> first | rfl | exact absurd rfl h
 have e2:(op == CmpOp.NotIn) = false:=by cases op <;> first | rfl | exact absurd rfl h2
 cases b <;> simp [behindInMarks,e1,e2]
theorem pe_cmpR {op:CmpOp} {r:R2} (ho:OpR X (compareOp op) r) (ha:PE X a ta) (hb:PE X b tb) (hm:behindInMarks op b = false):PE X (.Compare a [op] [b] pos) (tOp r ta tb):=by
 intro pins s σ H Q I h
 exact wpAny_Compare1 (binT ha hb I h fun v u s2 x y H2 I2 rx ry q=>ho pins s2 σ H2 x y v u Q I2 rx ry q) hm
noncomputable def tTest (t:TE):TT:=fun σ H Q=>t σ H fun x H'=>∃ k,x = .bl k/\Q k H'
theorem pt_cmpR {op:CmpOp} {r:R2} (ho:OpR X (compareOp op) r) (ha:PE X a ta) (hb:PE X b tb) (hm:behindInMarks op b = false):PT X (.Compare a [op] [b] pos) (tTest (tOp r ta tb)):=by
 intro pins s σ H Q I h
 refine wpAny_isTrue_Compare1 (thn (ha pins s σ H _ I h) fun v s1 ⟨x,H1,I1,r1,q1⟩=>thn (hb pins s1 σ H1 _ I1 q1) fun u s2 ⟨y,H2,I2,r2,q2⟩ =>
  thn (ho pins s2 σ H2 x y v u _ I2 r1 r2 q2) fun c s3 ⟨z,H3,I3,r3,k,e,q3⟩=>?_) hm
 subst e
 cases r3
 exact wpAny_truthy_bool ⟨H3,I3,q3⟩
noncomputable def tChain (r r':R2) (ta tb tc:TE):TE:=fun σ H Q=>ta σ H fun x H1=>tb σ H1 fun y H2=>r x y H2 fun z H3=>∃ k,z = .bl k /\
 (if k = true then tc σ H3 fun w' H4=>r' y w' H4 Q else Q (.bl false) H3)
theorem pt_chain {op op':CmpOp} {r r':R2} (ho:OpR X (compareOp op) r) (ho':OpR X (compareOp op') r') (ha:PE X a ta) (hb:PE X b tb) (hc:PE X c tc)
  (hm:lastMarks [op,op'] [b,c] = false:=by with_unfolding_all rfl):PT X (.Compare a [op,op'] [b,c] pos) (tTest (tChain r r' ta tb tc)):=by
 intro pins s σ H Q I h
 refine isTrue_chain (thn (ha pins s σ H _ I h) fun v s1 ⟨x,H1,I1,r1,q1⟩=>test_link (thn (hb pins s1 σ H1 _ I1 q1) fun u s2 ⟨y,H2,I2,r2,q2⟩ =>
  thn (ho pins s2 σ H2 x y v u _ I2 r1 r2 q2) fun d s3 ⟨z,H3,I3,r3,k,e,q3⟩=>?_)) hm
 subst e
 cases r3
 refine wpAny_truthy_bool ?_
 cases k with
 | false =>
  obtain ⟨k',e',q'⟩:=q3
  cases e'
  exact ite_ff ⟨H3,I3,q'⟩
 | true =>
  refine ite_tt (test_last (thn (hc pins s3 σ H3 _ I3 q3) fun w' s4 ⟨z',H4,I4,r4,q4⟩=>thn (ho' pins s4 σ H4 y z' u w' _ I4 r2 r4 q4) fun d' s5 ⟨z2,H5,I5,r5,k2,e2,q5⟩=>?_))
  subst e2
  cases r5
  exact wpAny_truthy_bool ⟨H5,I5,q5⟩
theorem line63:(sizeLine:Nat) < 2 ^ 63:=by rw [sizeLine_eq]; decide
theorem vals1 {x:V} {us:List Value} (r:Vals [x] us):∃ u,us = [u]/\RelV x u:=by
 cases r with
 | cons r1 r2=>cases r2; exact ⟨_,rfl,r1⟩
theorem vals2 {x y:V} {us:List Value} (r:Vals [x,y] us):∃ u w',us = [u,w']/\RelV x u/\RelV y w':=by
 cases r with
 | cons r1 r2 =>
  cases r2 with
  | cons r3 r4=>cases r4; exact ⟨_,_,rfl,r1,r3⟩
theorem call_abs:CallR X (.builtin "abs") (fun xs H Q=>∃ i,xs = [.int i]/\Q (.int (if i < 0 then -i else i)) H):=by
 intro pins s σ H xs us Q I r h
 obtain ⟨i,rfl,q⟩:=h
 obtain ⟨u,rfl,t,rfl⟩:=vals1 r
 exact call_abs_int fun u tk=>⟨.int (if i < 0 then -i else i),H,I.tok _,⟨_,rfl⟩,q⟩
theorem call_min2 (hc:X.calm = true):CallR X (.builtin "min") (fun xs H Q=>∃ i j,xs = [.int i,.int j]/\Q (.int (if j < i then j else i)) H):=by
 intro pins s σ H xs us Q I r h
 obtain ⟨i,j,rfl,q⟩:=h
 obtain ⟨u,w',rfl,⟨t,rfl⟩,⟨t',rfl⟩⟩:=vals2 r
 refine min_two_ints (I.ok.hd hc) fun h' tk k=>⟨_,H,I.kept k,?_,q⟩
 by_cases hj:j < i
 ·rw [if_pos hj,if_pos hj]; exact ⟨_,rfl⟩
 ·rw [if_neg hj,if_neg hj]; exact ⟨_,rfl⟩
theorem call_int1:CallR X (.type "int") (fun xs H Q=>(∃ i,xs = [.int i]/\Q (.int i) H)\/∃ k,xs = [.bl k]/\Q (.int (if k then 1 else 0)) H):=by
 intro pins s σ H xs us Q I r h
 rcases h with ⟨i,rfl,q⟩ | ⟨k,rfl,q⟩
 ·obtain ⟨u,rfl,t,rfl⟩:=vals1 r
  exact call_int_int ⟨.int i,H,I,⟨_,rfl⟩,q⟩
 ·obtain ⟨u,rfl,r1⟩:=vals1 r
  cases r1
  exact call_int_bool ⟨.int (if k then 1 else 0),H,I.tok _,⟨_,rfl⟩,q⟩
end
end L2
namespace L2
open PySem PySem.Spec PyProof.Rows
structure ObjM (h:Heap) (x dx C:Addr) (mA:Str->Option Value):Prop where
 obj:h.get? x = some (PySem.W.instObj C dx)
 ns:h.Ns1 dx mA
 ne:dx ≠ x
theorem lookIn_ns {h:Heap} {dx:Addr} {mA:Str->Option Value} (n:h.Ns1 dx mA):∃ od,h.get? dx = some od/\∀ name,PySem.W.lookIn name od = some (mA name):=by
 obtain ⟨o,es,ep,ho,hd,hk,_,hm⟩:=n
 refine ⟨o,ho,fun name=>?_⟩
 have e:=hm name
 unfold nsFind findBy at e
 rw [<-Array.find?_toList] at e
 unfold PySem.W.lookIn
 rw [hd]
 dsimp only
 split
 ·rename_i y q
  rw [q] at e
  exact congrArg some e
 ·rename_i q
  rw [q] at e
  have a:es.toList.any (·.refKey) = false:=by
   rw [List.any_eq_false]
   intro y hy
   obtain ⟨z,t,hkey⟩:=hk y (Array.mem_toList_iff.mp hy)
   simp [DictEntry.refKey,hkey]
  have a':¬ es.toList.any (·.refKey) = true:=by rw [a]; exact Bool.false_ne_true
  rw [if_neg a']
  exact congrArg some e
theorem ObjM.look {h:Heap} {x dx C:Addr} {mA:Str->Option Value} (I:ObjM h x dx C mA):∃ od,PySem.W.InstAt h x (PySem.W.instObj C dx) C (some od)/\∀ name,PySem.W.lookIn name od = some (mA name) :=
 let ⟨od,ho,hl⟩:=lookIn_ns I.ns
 ⟨od,⟨I.obj,rfl,rfl,ho⟩,hl⟩
section
variable {prog:Program} {w:World} {A:Around} {E:Value->Shared->Prop} {s:Shared} {K:PySem.W.Frag} {x dx C f:Addr} {mA:Str->Option Value} {name:Str} {v:Value}
theorem get_map {expr:Bool} {Q:Value->Shared->Prop} (X:K.In s.heap) (I:ObjM s.heap x dx C mA) (hg:PySem.W.plainGet K C name = true) (hh:PySem.W.hasDictIn K C = true)
  (ha:PySem.W.findIn K (.ref C) name = some none) (hv:mA name = some v) (hv':PySem.W.handedIn v = true) (h:Q v { s with toks:=s.toks + 1 }) :
  wpAny (model prog w) A (getAttr (.ref x) name expr) Q E s:=by
 obtain ⟨od,J,hl⟩:=I.look
 exact PySem.W.get_value X J (PySem.W.plainGet_of hg).1 (PySem.W.findObj_own hh ha rfl (by rw [hl,hv])) hv' h
theorem get_meth {pl:Sem Bool} {Q:Value × List Value->Shared->Prop} (X:K.In s.heap) (I:ObjM s.heap x dx C mA) (hg:PySem.W.plainGet K C name = true)
  (hf:PySem.W.findIn K (.ref C) name = some (some (.ref f))) (ht:PySem.W.isFn K (.ref f) = true) (hv:mA name = none) (h:Q (.ref f,[.ref x]) s) :
  wpAny (model prog w) A (getMethod (.ref x) name pl) Q E s:=by
 obtain ⟨od,J,hl⟩:=I.look
 exact PySem.W.method_fn X J (PySem.W.plainGet_of hg).1 (PySem.W.plainGet_of hg).2 hf (beq_iff_eq.mp ht) (by show (PySem.W.lookIn name od).map (·.isSome) = some false; rw [hl,hv]; rfl) h
theorem set_map {ns:List Str} {Q:Unit->Shared->Prop} (X:K.In s.heap) (I:ObjM s.heap x dx C mA)
  (hs:PySem.W.findIn K (.ref C) "__setattr__" = some (some (.builtin "object.__setattr__"))) (hp:PySem.W.plainOver K C = true) (ht:PySem.W.takerIn K C name = some none) (hh:PySem.W.hasDictIn K C = true)
  (hw:PySem.Within mA ns) (hsz:ns.length<=sizeLine)
  (h:∀ h',ObjM h' x dx C (fun y=>if y = name then some v else mA y)->Heap.SameBut dx s.heap h'->Q () { s with heap:=h',toks:=s.toks + 2 }) :
  wpAny (model prog w) A (setAttr (.ref x) name v) Q E s:=by
 obtain ⟨od,J,hl⟩:=I.look
 refine PySem.W.set_plain X J hs (PySem.W.osa_open (s:={ s with toks:=s.toks + 1 }) (r:=none) X J hp ht fun b=>?_)
 obtain ⟨cd,hc,hd'⟩:=PySem.W.any_some hh
 have hx:s.heap.get? x = some ⟨.ref C,some dx,.plain,#[]⟩:=I.obj
 refine wpAny_bind (wpAny_pure (wpAny_bind (wpAny_bind (wpAny_loadPart hx (wpAny_bind (PySem.W.Looks.here (s:={ s with toks:=s.toks + 1 }) (PySem.W.looks_clsIn X hc) ?_))))))
 rw [hd']
 refine wpAny_pure (a:=some dx) (wpAny_bind (wpAny_pure (wpAny_bind ?_)))
 refine wpAny_nsSet1 (s:={ s with toks:=s.toks + 1 }) I.ns fun h' hn2 hs2=>?_
 obtain ⟨oD,esD,epD,hoD,hdD,hcD⟩:=hn2.count (PySem.Within.cons name v hw)
 refine wpAny_bind (wpAny_lookBehind hoD (by rw [hdD]; exact pastItsLine_dict (Nat.le_trans hcD (by rw [List.length_cons]; omega))) ?_)
 exact wpAny_pure (h _ ⟨(hs2.2 _ (Ne.symm I.ne)).trans I.obj,hn2,I.ne⟩ hs2)
theorem make_map {R:Result->Shared->Prop} {vs:List Value} {kw:List (Str × Value)} (X:K.In s.heap) (hm:PySem.W.makesIn K C = true)
  (hi:PySem.W.findIn K (.ref C) "__init__" = some (some (.ref f))) (hf:PySem.W.typeIn K (.ref f) = some (.type "function"))
  (h:codeAny (model prog w) (A.under (.builtin "type.__call__" ⟨.ref C :: vs,kw⟩)) (.call (.ref f) ⟨.ref (s.heap.objs.size + 1) :: vs,kw⟩) (PySem.W.InitBack (s.heap.objs.size + 1) R)
   { s with heap:=(s.heap.push PySem.W.emptyDict).push (PySem.W.instObj C s.heap.objs.size) }) :
  codeAny (model prog w) A (.call (.ref C) ⟨vs,kw⟩) R s:=by
 obtain ⟨hh,g,d,t,os⟩:=s
 exact PySem.W.make_core (PySem.W.makes_of X hm) (PySem.W.looks_findIn X hi) (fun self=>PySem.W.bind_fn X self hf) (.inl rfl) h
end
noncomputable def putF (f:Str) (v:V):List (Str × V)->List (Str × V)
 | []=>[(f,v)]
 | (g,x) :: r=>if g = f then (g,v) :: r else (g,x) :: putF f v r
theorem lookup_putF (f g:Str) (v:V):∀ fs:List (Str × V),(putF f v fs).lookup g = if g = f then some v else fs.lookup g
 | []=>by
  show List.lookup g [(f,v)] = _
  by_cases h:g = f
  ·have hb:(g == f) = true:=beq_iff_eq.mpr h
   simp only [List.lookup,hb,if_pos h]
  ·have hb:(g == f) = false:=beq_eq_false_iff_ne.mpr h
   simp only [List.lookup,hb,if_neg h]
 | (k,x) :: r=>by
  have ih:=lookup_putF f g v r
  rw [show putF f v ((k,x) :: r) = (if k = f then (k,v) :: r else (k,x) :: putF f v r) from rfl]
  by_cases hk:k = f
  ·rw [if_pos hk]
   by_cases h:g = k
   ·have hb:(g == k) = true:=beq_iff_eq.mpr h
    simp only [List.lookup,hb,if_pos (h.trans hk)]
   ·have hb:(g == k) = false:=beq_eq_false_iff_ne.mpr h
    simp only [List.lookup,hb,if_neg (fun e:g = f=>h (e.trans hk.symm))]
  ·rw [if_neg hk]
   by_cases h:g = k
   ·have hb:(g == k) = true:=beq_iff_eq.mpr h
    simp only [List.lookup,hb,if_neg (fun e:g = f=>hk (h.symm.trans e))]
   ·have hb:(g == k) = false:=beq_eq_false_iff_ne.mpr h
    simp only [List.lookup,hb]
    exact ih
theorem keys_putF (f:Str) (v:V):∀ fs:List (Str × V),f ∈ (putF f v fs).map (·.1)/\∀ g,g ∈ fs.map (·.1)->g ∈ (putF f v fs).map (·.1)
 | []=>⟨by simp [putF],fun g h=>by simp at h⟩
 | (k,x) :: r=>by
  obtain ⟨i1,i2⟩:=keys_putF f v r
  rw [show putF f v ((k,x) :: r) = (if k = f then (k,v) :: r else (k,x) :: putF f v r) from rfl]
  by_cases hk:k = f
  ·rw [if_pos hk]
   subst hk
   exact ⟨by simp,fun g h=>by simpa using h⟩
  ·rw [if_neg hk]
   refine ⟨?_,fun g h=>?_⟩
   ·rw [List.map_cons]
    exact List.mem_cons_of_mem _ i1
   ·rw [List.map_cons] at h ⊢
    rcases List.mem_cons.mp h with e | e
    ·exact List.mem_cons.mpr (.inl e)
    ·exact List.mem_cons_of_mem _ (i2 g e)
theorem length_putF (f:Str) (v:V):∀ fs:List (Str × V),(putF f v fs).length<=fs.length + 1
 | []=>by simp [putF]
 | (k,x) :: r=>by
  have ih:=length_putF f v r
  rw [show putF f v ((k,x) :: r) = (if k = f then (k,v) :: r else (k,x) :: putF f v r) from rfl]
  by_cases hk:k = f
  ·rw [if_pos hk,List.length_cons,List.length_cons]; omega
  ·rw [if_neg hk,List.length_cons,List.length_cons]; omega
theorem RelO.some_of {v:V} {o:Option Value} (r:RelO (some v) o):∃ u,o = some u/\RelV v u:=by
 cases o with
 | none=>exact (show False from r).elim
 | some u=>exact ⟨u,rfl,r⟩
theorem RelO.none_of {o:Option Value} (r:RelO none o):o = none:=by
 cases o with
 | none=>rfl
 | some u=>exact (show False from r).elim
theorem handed_of {v:V} {u:Value} (r:RelV v u):PySem.W.handedIn u = true:=by
 cases v with
 | non=>cases (show u = Value.none from r); rfl
 | bl b=>cases (show u = Value.bool b from r); rfl
 | int i=>obtain ⟨t,e⟩:=(show ∃ t,u = Value.int i t from r); cases e; rfl
 | str x=>obtain ⟨t,e⟩:=(show ∃ t,u = Value.str x t from r); cases e; rfl
 | byt b=>obtain ⟨t,e⟩:=(show ∃ t,u = Value.bytes b t from r); cases e; rfl
 | flt b=>obtain ⟨t,e⟩:=(show ∃ t,u = Value.float b t from r); cases e; rfl
 | ref a=>cases (show u = Value.ref a from r); rfl
 | ty n=>cases (show u = Value.type n from r); rfl
section
variable {P:Program} {w:World} {H H':Hp} {h h':Heap} {a C dx:Addr} {fs fs':List (Str × V)}
theorem ins_get (hok:HOk P w H h) (e:H a = some (.ins C dx fs)):∃ mA,ObjM h a dx C mA/\(∀ f,RelO (fs.lookup f) (mA f))/\PySem.Within mA (fs.map (·.1))/\fs.length<=1000/\H dx = some (.own a):=by
 obtain ⟨d,z,ne,ob,mA,n,r,q⟩:=(show ObjOk P w H h a (.ins C dx fs) from hok a _ e)
 exact ⟨mA,⟨ob,n,ne⟩,r,q,z,d⟩
end
structure Cls (K:PySem.W.Frag) (C:Addr):Prop where
 pg:PySem.W.plainGet K C Str.empty = true
 hd:PySem.W.hasDictIn K C = true
 po:PySem.W.plainOver K C = true
 sa:PySem.W.findIn K (.ref C) "__setattr__" = some (some (.builtin "object.__setattr__"))
theorem Cls.get {K:PySem.W.Frag} {C:Addr} (c:Cls K C) (f:Str):PySem.W.plainGet K C f = true:=c.pg
noncomputable def NoAttr (K:PySem.W.Frag) (C:Addr) (f:Str):Prop:=PySem.W.findIn K (.ref C) f = some none
theorem NoAttr.taker {K:PySem.W.Frag} {C:Addr} {f:Str} (n:NoAttr K C f):PySem.W.takerIn K C f = some none:=by
 unfold PySem.W.takerIn
 rw [show PySem.W.findIn K (.ref C) f = some none from n]
 rfl
structure Meth (K:PySem.W.Frag) (C:Addr) (m:Str) (f:Addr):Prop where
 at_:PySem.W.findIn K (.ref C) m = some (some (.ref f))
 fn:PySem.W.isFn K (.ref f) = true
 kp:PySem.W.keepIn K (.ref f) = true
section
variable {X:Cx} {pins:List (Addr × Obj)} {σ:St} {H:Hp} {s:Shared} {a C dx:Addr} {fs:List (Str × V)} {f:Str} {v:V} {A:Around} {E:Value->Shared->Prop}
theorem getattr_ok {b:Bool} {Q:Value->Shared->Prop} (I:Inv X pins σ H s) (e:H a = some (.ins C dx fs)) (c:Cls X.K C) (n:NoAttr X.K C f) (l:fs.lookup f = some v)
  (h:∀ u s',Inv X pins σ H s'->RelV v u->Q u s'):wpAny (model X.prog X.w) A (getAttr (.ref a) f b) Q E s:=by
 obtain ⟨mA,O,r,_,_,_⟩:=ins_get I.hok e
 obtain ⟨u,hu,ru⟩:=RelO.some_of (v:=v) (o:=mA f) (by rw [<-l]; exact r f)
 exact get_map I.kIn O (c.get f) c.hd n hu (handed_of ru) (h u _ (I.tok _) ru)
theorem getmeth_ok {m:Str} {g:Addr} {pl:Sem Bool} {Q:Value × List Value->Shared->Prop} (I:Inv X pins σ H s) (e:H a = some (.ins C dx fs)) (c:Cls X.K C) (k:Meth X.K C m g) (l:fs.lookup m = none)
  (h:Q (.ref g,[.ref a]) s):wpAny (model X.prog X.w) A (getMethod (.ref a) m pl) Q E s:=by
 obtain ⟨mA,O,r,_,_,_⟩:=ins_get I.hok e
 have hn:mA m = none:=RelO.none_of (by rw [<-l]; exact r m)
 exact get_meth I.kIn O (c.get m) k.at_ k.fn hn h
theorem setattr_ok {y:V} {u:Value} {Q:Unit->Shared->Prop} (I:Inv X pins σ H s) (e:H a = some (.ins C dx fs)) (c:Cls X.K C) (n:NoAttr X.K C f) (hl:fs.length < 1000) (ry:RelV y u)
  (h:∀ s',Inv X pins σ (upd H a (.ins C dx (putF f y fs))) s'->Q () s'):wpAny (model X.prog X.w) A (setAttr (.ref a) f u) Q E s:=by
 obtain ⟨mA,O,r,wi,_,ho⟩:=ins_get I.hok e
 have hz:(fs.map (·.1)).length<=sizeLine:=by rw [List.length_map,sizeLine_eq]; omega
 refine set_map I.kIn O c.sa c.po n.taker c.hd wi hz fun h' O' sb=>h _ ?_
 have hd:∃ o,h'.get? dx = some o:=let ⟨o,_,_,e',_⟩:=O'.ns; ⟨o,e'⟩
 refine I.write (x:=a) (e:=dx) (by rw [e]; exact True.intro) (.inr ho) (fun b q hb z=>(sb.2 b hb).trans z) hd ?_
 refine ⟨by rw [upd_ne O.ne]; exact ho,?_,O.ne,O'.obj,_,O'.ns,fun g=>?_,fun g hg=>?_⟩
 ·have:=length_putF f y fs; omega
 ·show RelO ((putF f y fs).lookup g) (if g = f then some u else mA g)
  rw [lookup_putF]
  by_cases q:g = f
  ·rw [if_pos q,if_pos q]; exact ry
  ·rw [if_neg q,if_neg q]; exact r g
 ·by_cases q:g = f
  ·rw [q]; exact (keys_putF f y fs).1
  ·refine (keys_putF f y fs).2 g (wi g fun z=>hg ?_)
   show (if g = f then some u else mA g) = none
   rw [if_neg q]; exact z
theorem Inv.made (I:Inv X pins σ H s):Inv X pins σ (upd (upd H s.heap.objs.size (.own (s.heap.objs.size + 1))) (s.heap.objs.size + 1) (.ins C s.heap.objs.size []))
  { s with heap:=(s.heap.push PySem.W.emptyDict).push (PySem.W.instObj C s.heap.objs.size) }:=by
 have e1:(s.heap.push PySem.W.emptyDict).get? s.heap.objs.size = some PySem.W.emptyDict:=Heap.get?_push_size s.heap rfl
 have e2:((s.heap.push PySem.W.emptyDict).push (PySem.W.instObj C s.heap.objs.size)).get? (s.heap.objs.size + 1) = some (PySem.W.instObj C s.heap.objs.size):=by
  have:=Heap.get?_push_size (s.heap.push PySem.W.emptyDict) (o:=PySem.W.instObj C s.heap.objs.size) rfl
  rwa [Heap.size_push] at this
 have e3:(s.heap.push PySem.W.emptyDict).Ns s.heap.objs.size (fun _=>none):=⟨PySem.W.emptyDict,#[],_,e1,rfl,(fun e he=>absurd he (by simp)),fun _=>rfl⟩
 have I1:=I.laid (a:=s.heap.objs.size) (o:=.own (s.heap.objs.size + 1)) (h':=s.heap.push PySem.W.emptyDict) (t':=s.toks) (fun b u q=>Heap.get?_push_of_some _ q) (Nat.le_refl _) ⟨_,e1⟩
 refine I1.laid (a:=s.heap.objs.size + 1) (o:=.ins C s.heap.objs.size []) (t':=s.toks) (fun b u q=>Heap.get?_push_of_some _ q) (Nat.le_of_eq (Heap.size_push _ _)) ?_
 have ne:s.heap.objs.size ≠ s.heap.objs.size + 1:=Nat.ne_of_lt (Nat.lt_succ_self _)
 refine ⟨by rw [upd_ne ne,upd_same],Nat.zero_le _,ne,e2,fun _=>none,(Heap.Ns1.of_empty e3).at fun o q=>Heap.get?_push_of_some _ q,fun _=>True.intro,fun y hy=>absurd rfl hy⟩
theorem attr_of {prog:Program} {w:World} {env:Env} {e:Expr} {f:Str} {pos:Pos} {s:Shared} {Q:Value->Shared->Prop} (hb:attributeBase e f env (eval e env) = eval e env)
  (h:wpAny (model prog w) A (eval e env) (fun o s₁=>wpAny (model prog w) A (getAttr o f true) Q E s₁) E s):wpAny (model prog w) A (eval (.Attribute e f pos) env) Q E s :=
 Attribute_any_ h (by rw [arm_eval_Attribute,hb])
end
noncomputable def tFld (K:PySem.W.Frag) (ta:TE) (f:Str):TE:=fun σ H Q=>ta σ H fun x H1=>∃ a C dx fs v,x = .ref a/\H1 a = some (.ins C dx fs)/\Cls K C/\NoAttr K C f/\fs.lookup f = some v/\Q v H1
noncomputable def sFld (K:PySem.W.Frag) (ta tv:TE) (f:Str):TS:=fun D σ H=>tv σ H fun y H1=>ta σ H1 fun x H2=>∃ a C dx fs,x = .ref a/\H2 a = some (.ins C dx fs)/\Cls K C/\NoAttr K C f/\fs.length < 1000 /\
 D.nx σ (upd H2 a (.ins C dx (putF f y fs)))
section
variable {X:Cx} {o e value:Expr} {f:Str} {pos pos' tpos:Pos} {ta tv:TE}
theorem pe_fld (he:PE X e ta) (hb:attributeBase e f X.env (eval e X.env) = eval e X.env):PE X (.Attribute e f pos) (tFld X.K ta f):=by
 intro pins s σ H Q I h
 refine attr_of hb (thn (he pins s σ H _ I h) fun u s1 ⟨x,H1,I1,rx,a,C,dx,fs,v,ex,ea,c,n,l,q⟩=>?_)
 subst ex
 obtain rfl:u = Value.ref a:=rx
 exact getattr_ok I1 ea c n l fun u' s2 I2 ru=>⟨v,H1,I2,ru,q⟩
theorem ps_fld (ha:PE X o ta) (hv:PE X value tv) (hs:swapsWith value (some (.Attribute o f pos')) pos.line X.env = pure false):PS X (.Assign [.Attribute o f pos'] value pos) (sFld X.K ta tv f):=by
 intro pins s σ H D I h
 refine plainObj_wpAny_Assign_Attribute (thn (hv pins s σ H _ I h) fun u s1 ⟨y,H1,I1,ry,q⟩=>thn (ha pins s1 σ H1 _ I1 q) fun ov s2 ⟨x,H2,I2,rx,a,C,dx,fs,ex,ea,c,n,l,q2⟩=>?_) hs
 subst ex
 obtain rfl:ov = Value.ref a:=rx
 exact setattr_ok I2 ea c n l ry fun s3 I3=>⟨σ,_,I3,q2⟩
end
section
variable {X:Cx} {pins:List (Addr × Obj)} {σ:St} {H:Hp} {s:Shared} {A:Around} {E:Value->Shared->Prop} {Q:Value->Shared->Prop} {c:Value} {b:Bool}
inductive TyOf (K:PySem.W.Frag) (H:Hp):V->Value->Prop where
 | non:TyOf K H .non (.type "NoneType")
 | bl (x:Bool):TyOf K H (.bl x) (.type "bool")
 | int (i:Int):TyOf K H (.int i) (.type "int")
 | str (x:Str):TyOf K H (.str x) (.type "str")
 | flt (x:UInt64):TyOf K H (.flt x) (.type "float")
 | lst {a:Addr} {xs:List V} (e:H a = some (.lst xs)):TyOf K H (.ref a) (.type "list")
 | frz {a:Addr} {o:Obj} {xs:List V} (e:H a = some (.frz o (.lst xs))):TyOf K H (.ref a) (.type "list")
 | tup {a:Addr} {xs:List V} (e:H a = some (.tup xs)):TyOf K H (.ref a) (.type "tuple")
 | dK {a:Addr} {kvs:List (Key × V)} (e:H a = some (.dK kvs)):TyOf K H (.ref a) (.type "dict")
 | dT {a:Addr} {kvs:List (List Key × V)} (e:H a = some (.dT kvs)):TyOf K H (.ref a) (.type "dict")
 | ins {a C dx:Addr} {fs:List (Str × V)} (e:H a = some (.ins C dx fs)) (cl:Cls K C) (ha:PySem.W.findIn K (.ref C) "__class__" = some (some (.builtin "object.__class__")))
   (hn:PySem.W.specialIn K (.builtin "object.__class__") "__get__" = some (some (.builtin "getset_descriptor.__get__"))) (htk:PySem.W.takesIn K (.builtin "object.__class__") = some true)
   (hm:PySem.W.mroIn K C (.type "object") = some true):TyOf K H (.ref a) (.ref C)
theorem isinst_ok {x:V} {u t:Value} (I:Inv X pins σ H s) (rx:RelV x u) (ty:TyOf X.K H x t) (e:PySem.W.kitOne X.K t c = some b) (h:∀ tk,Q (.bool b) { s with toks:=tk }) :
  wpAny (model X.prog X.w) A (call (.builtin "isinstance") [u,c]) Q E s:=by
 cases ty with
 | non=>cases (show u = Value.none from rx); exact PySem.W.kia_one PySem.W.kitx_none I.kIn True.intro e (fun z=>nomatch z) h
 | bl y=>cases (show u = Value.bool y from rx); exact PySem.W.kia_one PySem.W.kitx_bool I.kIn True.intro e (fun z=>nomatch z) h
 | int i=>obtain ⟨t,q⟩:=(show ∃ t,u = Value.int i t from rx); cases q; exact PySem.W.kia_one PySem.W.kitx_int I.kIn True.intro e (fun z=>nomatch z) h
 | str y=>obtain ⟨t,q⟩:=(show ∃ t,u = Value.str y t from rx); cases q; exact PySem.W.kia_one PySem.W.kitx_str I.kIn True.intro e (fun z=>nomatch z) h
 | flt y=>obtain ⟨t,q⟩:=(show ∃ t,u = Value.float y t from rx); cases q; exact PySem.W.kia_one PySem.W.kitx_float I.kIn True.intro e (fun z=>nomatch z) h
 | @lst a xs ea =>
  cases (show u = Value.ref a from rx)
  obtain ⟨_,_,n,_,h1⟩:=(show ObjOk X.prog X.w H s.heap a (.lst xs) from I.hok a _ ea)
  exact PySem.W.kia_one PySem.W.kitx_list I.kIn ⟨_,h1,rfl⟩ e (fun z=>nomatch z) h
 | @frz a ob xs ea =>
  cases (show u = Value.ref a from rx)
  obtain ⟨_,_,_,n,_,h1⟩:=(show ObjOk X.prog X.w H s.heap a (.frz ob (.lst xs)) from I.hok a _ ea)
  exact PySem.W.kia_one PySem.W.kitx_list I.kIn ⟨_,h1,rfl⟩ e (fun z=>nomatch z) h
 | @tup a xs ea =>
  cases (show u = Value.ref a from rx)
  obtain ⟨_,_,_,p⟩:=(show ObjOk X.prog X.w H s.heap a (.tup xs) from I.hok a _ ea)
  obtain ⟨o,h1,h2,_⟩:=p
  exact PySem.W.kia_one PySem.W.kitx_tuple I.kIn ⟨o,h1,h2⟩ e (fun z=>nomatch z) h
 | @dK a kvs ea =>
  cases (show u = Value.ref a from rx)
  obtain ⟨_,_,vs,_,p⟩:=(show ObjOk X.prog X.w H s.heap a (.dK kvs) from I.hok a _ ea)
  obtain ⟨o,es,ep,h1,h2,_⟩:=p
  exact PySem.W.kia_one PySem.W.kitx_dict I.kIn ⟨o,h1,h2.1⟩ e (fun z=>nomatch z) h
 | @dT a kvs ea =>
  cases (show u = Value.ref a from rx)
  obtain ⟨_,_,xs,_,o,es,ep,h1,h2,_⟩:=(show ObjOk X.prog X.w H s.heap a (.dT kvs) from I.hok a _ ea)
  exact PySem.W.kia_one PySem.W.kitx_dict I.kIn ⟨o,h1,h2.1⟩ e (fun z=>nomatch z) h
 | @ins a C dx fs ea cl ha hn htk hm =>
  cases (show u = Value.ref a from rx)
  obtain ⟨mA,O,_⟩:=ins_get I.hok ea
  obtain ⟨od,J,_⟩:=O.look
  exact PySem.W.kia_one (PySem.W.kitx_own (cl.get _) cl.hd ha hn htk hm) I.kIn J e (fun z=>nomatch z) h
end
end L2
namespace L2
open PySem PySem.Spec PyProof.Rows
structure Room (k:Nat) (A:Around):Prop where
 hd:A.handled = none
 dp:A.depth + 3 * k + 5 < recursionLimit
 un:A.units + 16 * k + 200 < cLine
theorem Room.mono {j k:Nat} {A:Around} (r:Room k A) (h:j<=k):Room j A:=⟨r.hd,by have:=r.dp; omega,by have:=r.un; omega⟩
theorem Room.deeper {k:Nat} {A:Around} (r:Room (k + 1) A) (env:Env):Room k (A.deeper env) :=
 ⟨r.hd,by have:=r.dp; show A.depth + 1 + 3 * k + 5 < _; omega,by have:=r.un; show A.units + 3 + 16 * k + 200 < _; omega⟩
theorem make_depth {A:Around} {C:Addr} {us:List Value} {kw:List (Str × Value)}:(A.under (.builtin "type.__call__" ⟨.ref C :: us,kw⟩)).depth = A.depth + 1:=by
 first | rfl | simp [Around.under,Code.weight,Code.isCreation,Code.isGuard,Code.isCaller,Code.frames,Code.isFrame,guardIds]
theorem make_units {A:Around} {C:Addr} {us:List Value} {kw:List (Str × Value)}:(A.under (.builtin "type.__call__" ⟨.ref C :: us,kw⟩)).units = A.units + 1:=by
 first | rfl | simp [Around.under,Code.cUnits,Code.frames,Code.isFrame]
theorem Room.make {k:Nat} {A:Around} (r:Room (k + 1) A) (C:Addr) (us:List Value) (kw:List (Str × Value)):Room k (A.under (.builtin "type.__call__" ⟨.ref C :: us,kw⟩)) :=
 ⟨r.hd,by have:=r.dp; rw [make_depth]; omega,by have:=r.un; rw [make_units]; omega⟩
theorem Room.depth {k:Nat} {A:Around} (r:Room k A):A.depth < recursionLimit:=by have:=r.dp; omega
theorem Room.units {k:Nat} {A:Around} (r:Room k A):A.units + 64 < cLine:=by have:=r.un; omega
noncomputable def tNil:TA:=fun _ H Q=>Q [] H
noncomputable def tCons (ta:TE) (tr:TA):TA:=fun σ H Q=>ta σ H fun x H1=>tr σ H1 fun xs H2=>Q (x :: xs) H2
section
variable {X:Cx} {e:Expr} {es:List Expr} {te:TE} {t:TA} {pos:Pos}
theorem pa_nil:PA X [] tNil:=fun _ _ _ _ H Q I h=>Calls.spliced_nil ⟨[],H,I,.nil,h⟩
theorem pa_cons (ha:PE X e te) (hr:PA X es t) (hs:starEach (e :: es) X.env = (false,eval e X.env) :: starEach es X.env:=by rfl):PA X (e :: es) (tCons te t):=by
 intro pos pins s σ H Q I h
 rw [hs]
 show wpAny _ _ (spliced ((false,eval e X.env) :: backTo pos (starEach es X.env))) _ _ s
 refine Calls.spliced_cons (thn (ha pins s σ H _ I h) fun u s1 ⟨x,H1,I1,r1,q1⟩=>?_)
 exact thn (hr pos pins s1 σ H1 _ I1 q1) fun us s2 ⟨xs,H2,I2,r2,q2⟩=>⟨x :: xs,H2,I2,.cons r1 r2,q2⟩
noncomputable def tTup (t:TA):TE:=fun σ H Q=>t σ H fun xs H1=>xs.length<=sizeLine/\∀ p,H1 p = none->Q (.ref p) (upd H1 p (.tup xs))
noncomputable def tLst (t:TA):TE:=fun σ H Q=>t σ H fun xs H1=>xs.length<=sizeLine/\∀ p,H1 p = none->Q (.ref p) (upd H1 p (.lst xs))
theorem pe_tup {x1} (h:PA X es t):PE X (.Tuple es x1 pos) (tTup t):=by
 intro pins s σ H Q I hq
 refine wpAny_Tuple_spliced (thn (h pos pins s σ H _ I hq) fun us s1 ⟨xs,H1,I1,r,z,q⟩=>⟨by rw [<-r.length]; exact z,?_⟩)
 have hf:H1 s1.heap.objs.size = none:=I1.hok.fresh (Nat.le_refl _)
 refine ⟨.ref s1.heap.objs.size,upd H1 s1.heap.objs.size (.tup xs),I1.laid (t':=s1.toks) (fun b u e=>Heap.get?_push_of_some _ e) (Nat.le_refl _) ?_,rfl,q _ hf⟩
 exact ⟨z,us,r,⟨_,Heap.get?_push_size _ rfl,rfl,_,rfl⟩⟩
theorem pe_lst (h:PA X es t):PE X (.List es pos) (tLst t):=by
 intro pins s σ H Q I hq
 refine wpAny_List_spliced (thn (h pos pins s σ H _ I hq) fun us s1 ⟨xs,H1,I1,r,z,q⟩=>⟨by rw [<-r.length]; exact z,?_⟩)
 have hf:H1 s1.heap.objs.size = none:=I1.hok.fresh (Nat.le_refl _)
 refine ⟨.ref s1.heap.objs.size,upd H1 s1.heap.objs.size (.lst xs),I1.laid (t':=s1.toks) (fun b u e=>Heap.get?_push_of_some _ e) (Nat.le_refl _) ?_,rfl,q _ hf⟩
 exact ⟨z,us,0,r,Heap.get?_push_size _ rfl⟩
end
noncomputable abbrev Sp:=List V->Hp->VK->XK->Prop
noncomputable abbrev CXT:=List Env->Hp->Shared->XK->Value->Shared->Prop
structure Env0 (P:Program) (w:World) (K:PySem.W.Frag) (mg:Str->Option Value) (base:Heap) (A:Around) (outer:List Env) (s:Shared) (H:Hp):Prop where
 frames:A.frames = some outer
 mod:Mod K mg base
 bs:∀ b o,base.get? b = some o->s.heap.get? b = some o/\H b = none
 bsz:base.objs.size<=s.heap.objs.size
 funs:s.heap.FunFrames base outer
 frf:∀ b ∈ frs outer,H b = none
 hok:HOk P w H s.heap
 bare:AllBare s.gens
noncomputable def CE (outer:List Env) (P:Program) (w:World) (H:Hp) (s:Shared) (Q:VK) (u:Value) (s':Shared):Prop :=
 ∃ v H',s'.os = s.os/\AllBare s'.gens/\Un (frs outer) [] H H' s.heap s'.heap/\HOk P w H' s'.heap/\RelV v u/\Q v H'
noncomputable def CR (CX:CXT) (outer:List Env) (P:Program) (w:World) (H:Hp) (s:Shared) (Q:VK) (E:XK) (r:Result) (s':Shared):Prop :=
 match r with
 | .ok (.ret u)=>CE outer P w H s Q u s'
 | .ok _=>False
 | .error e=>CX outer H s E e s'
structure FnOk (P:Program) (w:World) (K:PySem.W.Frag) (mg:Str->Option Value) (base:Heap) (CX:CXT) (k:Nat) (f:Addr) (fd:FuncData) (ps:List Str) (sp:Sp):Prop where
 len:∀ vs H Q E,sp vs H Q E->vs.length = ps.length
 run:∀ (A:Around) (outer:List Env) (s:Shared) (H:Hp) (args:Args) (us:List Value) (vs:List V) (Q:VK) (E:XK),Room k A->Env0 P w K mg base A outer s H->BindsTo s fd args (ps.zip us)->Vals vs us->sp vs H Q E ->
  codeAny (model P w) A (.call (.ref f) args) (CR CX outer P w H s Q E) s
theorem Env0.make {P:Program} {w:World} {K:PySem.W.Frag} {mg:Str->Option Value} {base:Heap} {A:Around} {outer:List Env} {s:Shared} {H:Hp} (e:Env0 P w K mg base A outer s H) (C:Addr) (us:List Value) (kw:List (Str × Value)) :
  Env0 P w K mg base (A.under (.builtin "type.__call__" ⟨.ref C :: us,kw⟩)) outer s H:=⟨by first | exact e.frames | (simpa [Around.under,Code.envs,Code.isFrame,pushEnvs] using e.frames),e.mod,e.bs,e.bsz,e.funs,e.frf,e.hok,e.bare⟩
section
variable {X:Cx} {pins:List (Addr × Obj)} {σ:St} {H:Hp} {s s':Shared}
theorem Inv.env0 (I:Inv X pins σ H s):Env0 X.prog X.w X.K X.mg X.base X.A X.stack s H :=
 ⟨I.ok.frames,I.ok.mod,I.bs,Nat.le_trans I.ok.bsz I.sz,I.stack,I.stkFree,I.hok,I.bare⟩
theorem Inv.after {Q:VK} {u:Value} (I:Inv X pins σ H s) (h:CE X.stack X.prog X.w H s Q u s'):EP X pins σ Q u s':=by
 obtain ⟨v,H',os,bare,un,hok,r,q⟩:=h
 obtain ⟨hh,g,d,t,os'⟩:=s'
 obtain rfl:os' = s.os:=os
 exact ⟨v,H',I.call (h':=hh) (g':=g) (d':=d) (t':=t) (ch:=[]) un hok bare (fun b z=>absurd z (by simp)),r,q⟩
end
noncomputable def tCall (sp:Sp) (dvs:List V) (E:XK) (t:TA):TE:=fun σ H Q=>t σ H fun vs H1=>sp (vs ++ dvs) H1 Q E
noncomputable def tMeth (C:Addr) (m:Str) (sp:Sp) (dvs:List V) (E:XK) (ta:TE) (t:TA):TE:=fun σ H Q=>ta σ H fun x H1=>∃ a dx fs,x = .ref a/\H1 a = some (.ins C dx fs)/\fs.lookup m = none /\
 t σ H1 fun vs H2=>sp (x :: (vs ++ dvs)) H2 Q E
noncomputable def tMake (C:Addr) (sp:Sp) (dvs:List V) (E:XK) (t:TA):TE:=fun σ H Q=>t σ H fun vs H1=>∀ x dx,H1 x = none->H1 dx = none->dx ≠ x ->
 sp (.ref x :: (vs ++ dvs)) (upd (upd H1 dx (.own x)) x (.ins C dx [])) (fun v H2=>v = .non/\Q (.ref x) H2) E
noncomputable def Binds (K:PySem.W.Frag) (fd:FuncData) (ps:List Str) (ds:List Value):Prop :=
 ∀ (s:Shared) (us:List Value),K.In s.heap->(us ++ ds).length = ps.length->BindsTo s fd ⟨us,[]⟩ (ps.zip (us ++ ds))
theorem Binds.all {K:PySem.W.Frag} {fd:FuncData} {ps:List Str} (h:∀ us:List Value,us.length = ps.length->bindArgs fd ⟨us,[]⟩ = pure (ps.zip us)):Binds K fd ps []:=fun s us _ hl=>by
 rw [List.append_nil] at hl ⊢
 exact .of_eq (h us hl)
noncomputable def Passes (CX:CXT) (X:Cx) (E:XK):Prop:=∀ (pins:List (Addr × Obj)) (σ:St) (H:Hp) (s:Shared) (e:Value) (s':Shared),Inv X pins σ H s->CX X.stack H s E e s'->X.xe e s'
section
variable {X:Cx} {CX:CXT} {k:Nat} {f C:Addr} {fd:FuncData} {ps:List Str} {sp:Sp} {dvs:List V} {ds:List Value} {E:XK} {x m:Str} {p pos apos:Pos} {e o:Expr} {es:List Expr} {ta:TE} {t:TA}
theorem run_fn {pins:List (Addr × Obj)} {σ:St} {H:Hp} {s:Shared} {Q:VK} {us:List Value} {vs:List V} (F:FnOk X.prog X.w X.K X.mg X.base CX k f fd ps sp) (hr:Room k X.A) (hb:Binds X.K fd ps ds) (hd:Vals dvs ds) (hx:Passes CX X E)
  (I:Inv X pins σ H s) (r:Vals vs us) (h:sp (vs ++ dvs) H Q E):wpAny (model X.prog X.w) X.A (call (.ref f) us) (EP X pins σ Q) X.xe s:=by
 have r2:Vals (vs ++ dvs) (us ++ ds):=r.append hd
 have hl:(us ++ ds).length = ps.length:=by rw [<-r2.length]; exact F.len _ _ _ _ h
 refine wpAny_call (codeAny_mono (F.run X.A X.stack s H ⟨us,[]⟩ (us ++ ds) (vs ++ dvs) Q E hr I.env0 (hb s us I.kIn hl) r2 h) fun r s' hq=>?_)
 cases r with
 | error e=>exact hx pins σ H s e s' I hq
 | ok fl =>
  cases fl with
  | ret u=>exact I.after hq
  | next=>exact False.elim hq
  | brk=>exact False.elim hq
  | cont=>exact False.elim hq
theorem pe_call (F:FnOk X.prog X.w X.K X.mg X.base CX k f fd ps sp) (hr:Room k X.A) (hg:Gl X x) (hm:X.mg x = some (.ref f)) (hk:PySem.W.keepIn X.K (.ref f) = true) (hb:Binds X.K fd ps ds) (hd:Vals dvs ds) (hx:Passes CX X E)
  (ha:PA X (e :: es) t) (hdb:(x == ("__debug__":Str)) = false:=by decide) (he:starEach (e :: es) X.env = (false,eval e X.env) :: starEach es X.env:=by rfl) (hpl:(backTo pos (starEach es X.env)).any (·.1) = false:=by rfl) :
  PE X (.Call (.Name x p) (e :: es) [] pos) (tCall sp dvs E t):=by
 intro pins s σ H Q I h
 refine wpAny_Call_Name_kw (ld_glob I hg hm ?_ hdb)
 refine PySem.W.callWith_K (h₀:=X.base) I.ok.mod.kin hk (thn (ha pos pins s σ H _ I h) fun us s1 ⟨vs,H1,I1,r,q⟩=>⟨I1.kIn,?_⟩) he hpl
 exact run_fn F hr hb hd hx I1 r q
theorem pe_meth {pl:Sem Bool} (he:PE X o ta) (c:Cls X.K C) (hm:Meth X.K C m f) (F:FnOk X.prog X.w X.K X.mg X.base CX k f fd ps sp) (hr:Room k X.A) (hb:Binds X.K fd ps ds) (hd:Vals dvs ds) (hx:Passes CX X E) (ha:PA X (e :: es) t)
  (hst:starEach (e :: es) X.env = (false,eval e X.env) :: starEach es X.env:=by rfl) (hpl:(backTo pos (starEach es X.env)).any (·.1) = false:=by rfl)
  (ht:eval (.Call (.Attribute o m apos) (e :: es) [] pos) X.env = (do
   let ov <-eval o X.env
   standAt apos.atName
   let (f,first) <-holding [ov] (getMethod ov m pl)
   callWith pos f first (backTo pos (starEach (e :: es) X.env)) (backToKw pos (keywordEach [] X.env))):=by rfl) :
  PE X (.Call (.Attribute o m apos) (e :: es) [] pos) (tMeth C m sp dvs E ta t):=by
 intro pins s σ H Q I h
 refine PySem.W.methodCall_KW (pl:=pl) (thn (he pins s σ H _ I h) fun u s1 ⟨x,H1,I1,rx,a,dx,fs,ex,ea,l,q⟩=>?_) ht
 subst ex
 obtain rfl:u = Value.ref a:=rx
 refine getmeth_ok I1 ea c hm l ?_
 refine PySem.W.callWith_K (first:=[.ref a]) (h₀:=X.base) I.ok.mod.kin hm.kp (thn (ha pos pins s1 σ H1 _ I1 q) fun us s2 ⟨vs,H2,I2,r,q2⟩=>⟨I2.kIn,?_⟩) hst hpl
 exact run_fn (us:=.ref a :: us) (vs:=.ref a :: vs) F hr hb hd hx I2 (.cons rfl r) q2
theorem pe_meth0 {pl:Sem Bool} (he:PE X o ta) (c:Cls X.K C) (hm:Meth X.K C m f) (F:FnOk X.prog X.w X.K X.mg X.base CX k f fd ps sp) (hr:Room k X.A) (hb:Binds X.K fd ps ds) (hd:Vals dvs ds) (hx:Passes CX X E)
  (ht:eval (.Call (.Attribute o m apos) [] [] pos) X.env = (do
   let ov <-eval o X.env
   standAt apos.atName
   let (f,first) <-holding [ov] (getMethod ov m pl)
   callWith pos f first (backTo pos (starEach [] X.env)) (backToKw pos (keywordEach [] X.env))):=by rfl) :
  PE X (.Call (.Attribute o m apos) [] [] pos) (tMeth C m sp dvs E ta tNil):=by
 intro pins s σ H Q I h
 refine PySem.W.methodCall_KW (pl:=pl) (thn (he pins s σ H _ I h) fun u s1 ⟨x,H1,I1,rx,a,dx,fs,ex,ea,l,q⟩=>?_) ht
 subst ex
 obtain rfl:u = Value.ref a:=rx
 refine getmeth_ok I1 ea c hm l ?_
 exact PySem.W.callWith_K0 (first:=[.ref a]) I1.kIn hm.kp (run_fn (us:=[.ref a]) (vs:=[.ref a]) F hr hb hd hx I1 (.cons rfl .nil) q)
structure Mk (K:PySem.W.Frag) (C f:Addr):Prop where
 makes:PySem.W.makesIn K C = true
 init:PySem.W.findIn K (.ref C) "__init__" = some (some (.ref f))
 fn:PySem.W.isFn K (.ref f) = true
 kp:PySem.W.keepIn K (.ref C) = true
theorem run_make {pins:List (Addr × Obj)} {σ:St} {H:Hp} {s:Shared} {Q:VK} {us:List Value} {vs:List V} (M:Mk X.K C f) (F:FnOk X.prog X.w X.K X.mg X.base CX k f fd ps sp) (hr:Room (k + 1) X.A) (hb:Binds X.K fd ps ds) (hd:Vals dvs ds)
  (hx:Passes CX X E) (I:Inv X pins σ H s) (r:Vals vs us)
  (h:∀ x dx,H x = none->H dx = none->dx ≠ x->sp (.ref x :: (vs ++ dvs)) (upd (upd H dx (.own x)) x (.ins C dx [])) (fun v H2=>v = .non/\Q (.ref x) H2) E) :
  wpAny (model X.prog X.w) X.A (call (.ref C) us) (EP X pins σ Q) X.xe s:=by
 have hq:=h (s.heap.objs.size + 1) s.heap.objs.size (I.hok.fresh (Nat.le_succ _)) (I.hok.fresh (Nat.le_refl _)) (Nat.ne_of_lt (Nat.lt_succ_self _))
 have I2:=Inv.made (C:=C) I
 have r2:Vals (V.ref (s.heap.objs.size + 1) :: (vs ++ dvs)) (Value.ref (s.heap.objs.size + 1) :: (us ++ ds)):=.cons rfl (r.append hd)
 have hl:(Value.ref (s.heap.objs.size + 1) :: us ++ ds).length = ps.length:=by
  have e:=r2.length
  rw [F.len _ _ _ _ hq] at e
  exact e.symm
 refine wpAny_call (make_map (f:=f) I.kIn M.makes M.init (beq_iff_eq.mp M.fn) (codeAny_mono (F.run _ X.stack _ _ ⟨Value.ref (s.heap.objs.size + 1) :: us,[]⟩ (Value.ref (s.heap.objs.size + 1) :: (us ++ ds)) _ _ E (hr.make C us [])
  (I2.env0.make C us []) (hb _ (Value.ref (s.heap.objs.size + 1) :: us) I2.kIn hl) r2 hq) fun r s' hq'=>?_))
 cases r with
 | error e=>exact hx pins σ _ _ e s' I2 hq'
 | ok fl =>
  cases fl with
  | ret u =>
   obtain ⟨v,H',I3,rv,ev,q3⟩:=I2.after hq'
   subst ev
   exact ⟨rv,⟨V.ref (s.heap.objs.size + 1),H',I3,rfl,q3⟩⟩
  | next=>exact False.elim hq'
  | brk=>exact False.elim hq'
  | cont=>exact False.elim hq'
theorem pe_make (M:Mk X.K C f) (F:FnOk X.prog X.w X.K X.mg X.base CX k f fd ps sp) (hr:Room (k + 1) X.A) (hg:Gl X x) (hm:X.mg x = some (.ref C)) (hb:Binds X.K fd ps ds) (hd:Vals dvs ds) (hx:Passes CX X E)
  (ha:PA X (e :: es) t) (hdb:(x == ("__debug__":Str)) = false:=by decide) (he:starEach (e :: es) X.env = (false,eval e X.env) :: starEach es X.env:=by rfl) (hpl:(backTo pos (starEach es X.env)).any (·.1) = false:=by rfl) :
  PE X (.Call (.Name x p) (e :: es) [] pos) (tMake C sp dvs E t):=by
 intro pins s σ H Q I h
 refine wpAny_Call_Name_kw (ld_glob I hg hm ?_ hdb)
 refine PySem.W.callWith_K (h₀:=X.base) I.ok.mod.kin M.kp (thn (ha pos pins s σ H _ I h) fun us s1 ⟨vs,H1,I1,r,q⟩=>⟨I1.kIn,?_⟩) he hpl
 exact run_make M F hr hb hd hx I1 r q
end
structure FnScope (N P:List Str) (sc:Scope):Prop where
 kind:sc.kind = .function
 co:sc.isCoroutine = false
 gen:sc.isGenerator = false
 nd:N.Nodup
 pre:N.take P.length = P
 par:∀ x ∈ P,sc.names.lookup x = some .local\/sc.names.lookup x = some .cell
 nofree:∀ y ∈ sc.names,y.2 ≠ .free
theorem bindL_out {kindOf:Str->Option NameKind} {x:Str}:∀ {binds:List (Str × Value)} {m:Str->Option Value},(∀ v,(x,v) ∉ binds)->bindL kindOf binds m x = m x
 | [],_,_=>rfl
 | (n,v) :: r,m,h=>by
  unfold bindL
  rw [bindL_out fun w hw=>h w (List.mem_cons_of_mem _ hw)]
  split
  ·have:x ≠ n:=by rintro rfl; exact h v List.mem_cons_self
   simp [this]
  ·rfl
theorem bindC_out {kindOf:Str->Option NameKind} {x:Str}:∀ {binds:List (Str × Value)} {m:Str->Option Value},(∀ v,(x,v) ∉ binds)->bindC kindOf binds m x = m x
 | [],_,_=>rfl
 | (n,v) :: r,m,h=>by
  unfold bindC
  rw [bindC_out fun w hw=>h w (List.mem_cons_of_mem _ hw)]
  split
  ·rfl
  ·have:x ≠ n:=by rintro rfl; exact h v List.mem_cons_self
   simp [this]
theorem bindL_get {kindOf:Str->Option NameKind} {x:Str} {v:Value}:∀ {P:List Str} {vs:List Value} {i:Nat} {m:Str->Option Value},P.Nodup->P[i]? = some x->vs[i]? = some v->kindOf x = some .local ->
  bindL kindOf (P.zip vs) m x = some v
 | [],_,_,_,_,h,_,_=>by simp at h
 | _ :: _,[],_,_,_,_,h,_=>by simp at h
 | p :: P,w :: vs,0,m,nd,h1,h2,hk=>by
  simp at h1 h2; subst h1; subst h2
  show bindL kindOf ((p,w) :: P.zip vs) m p = _
  unfold bindL
  rw [bindL_out fun v hv=>(List.nodup_cons.mp nd).1 (List.of_mem_zip hv).1,if_pos hk]
  simp
 | p :: P,w :: vs,i + 1,m,nd,h1,h2,hk=>by
  show bindL kindOf ((p,w) :: P.zip vs) m x = _
  unfold bindL
  exact bindL_get (i:=i) (List.nodup_cons.mp nd).2 (by simpa using h1) (by simpa using h2) hk
theorem bindC_get {kindOf:Str->Option NameKind} {x:Str} {v:Value}:∀ {P:List Str} {vs:List Value} {i:Nat} {m:Str->Option Value},P.Nodup->P[i]? = some x->vs[i]? = some v->kindOf x ≠ some .local ->
  bindC kindOf (P.zip vs) m x = some v
 | [],_,_,_,_,h,_,_=>by simp at h
 | _ :: _,[],_,_,_,_,h,_=>by simp at h
 | p :: P,w :: vs,0,m,nd,h1,h2,hk=>by
  simp at h1 h2; subst h1; subst h2
  show bindC kindOf ((p,w) :: P.zip vs) m p = _
  unfold bindC
  rw [bindC_out fun v hv=>(List.nodup_cons.mp nd).1 (List.of_mem_zip hv).1,if_neg hk]
  simp
 | p :: P,w :: vs,i + 1,m,nd,h1,h2,hk=>by
  show bindC kindOf ((p,w) :: P.zip vs) m x = _
  unfold bindC
  exact bindC_get (i:=i) (List.nodup_cons.mp nd).2 (by simpa using h1) (by simpa using h2) hk
noncomputable def start (N:List Str) (vs:List V):St:=vs.map some ++ List.replicate (N.length - vs.length) none
noncomputable def cxOf (CX:CXT) (P:Program) (w:World) (K:PySem.W.Frag) (mg:Str->Option Value) (base:Heap) (N:List Str) (qual:Str) (scope:Scope) (f:Addr) (cd:Value) (A:Around) (outer:List Env) (s:Shared) (H:Hp) (E:XK):Cx where
 prog:=P
 w:=w
 K:=K
 mg:=mg
 base:=base
 A:=A.deeper (envOfC qual scope s.heap.objs.size f cd)
 N:=N
 s₀:=s
 H₀:=H
 env:=envOfC qual scope s.heap.objs.size f cd
 outer:=outer
 stack:=envOfC qual scope s.heap.objs.size f cd :: outer
 ex:=[]
 calm:=true
 fn:=fun _=>true
 pn:=[]
 xe:=fun e s'=>wpAny (model P w) (A.deeper (envOfC qual scope s.heap.objs.size f cd)) (leaving (envOfC qual scope s.heap.objs.size f cd) e) (fun _ s''=>CX outer H s E e s'') (fun e' s''=>CX outer H s E e' s'') s'
theorem cell_has {sc:Scope} {n:Nat} {x:Str} (h:sc.names.lookup x = some .cell):∃ c,(cellsFrom n sc.names []).lookup x = some c:=by
 have q:=PySem.W.cellsFrom_some sc.names n [] (.inl h)
 exact Option.isSome_iff_exists.mp q
theorem inv_start {CX:CXT} {P:Program} {w:World} {K:PySem.W.Frag} {mg:Str->Option Value} {base:Heap} {N ps:List Str} {qual:Str} {scope:Scope} {f:Addr} {cd:Value} {A:Around} {outer:List Env} {s s1:Shared} {H:Hp} {E:XK} {us:List Value} {vs:List V}
  (S:FnScope N ps scope) (hd:A.handled = none) (e0:Env0 P w K mg base A outer s H) (hl:vs.length = ps.length) (r:Vals vs us)
  (x:InCallC s s.heap.objs.size (bindL (envOfC qual scope s.heap.objs.size f cd).kindOf (ps.zip us) fun _=>none) (cellsFrom (s.heap.objs.size + 1) scope.names []) (bindC (envOfC qual scope s.heap.objs.size f cd).kindOf (ps.zip us) fun _=>none) s1) :
  Inv (cxOf CX P w K mg base N qual scope f cd A outer s H E) [] (start N vs) H s1:=by
 have hpl:ps.length<=N.length:=by have:=congrArg List.length S.pre; rw [List.length_take] at this; omega
 obtain ⟨h1,tk,rfl,hk⟩:=x.done
 have noA:∀ b:Addr,b ∉ (cxOf CX P w K mg base N qual scope f cd A outer s H E).ex:=fun b z=>absurd (show b ∈ ([]:List Addr) from z) (by simp)
 refine ⟨⟨e0.mod,S.kind,rfl,rfl,Nat.le_refl _,fun y z c h1 h2=>?_,fun y hy=>?_,fun y c _ h=>?_,fun _=>hd,Around.frames_deeper e0.frames,.inr ⟨rfl,rfl⟩,fun b z=>absurd z (noA b),e0.bs,e0.bsz,fun b _ _=>noA b,fun b z=>absurd z (noA b),e0.funs,e0.frf⟩,
  rfl,e0.bare,Un.kept hk,⟨_,x.toInCall.ns,fun i y v h1 h2 h3=>?_⟩,fun y c h=>⟨_,x.cell y c h⟩,e0.hok.fresh (Nat.le_refl _),fun y c h=>?_,fun p hp=>absurd (show p ∈ ([]:List (Addr × Obj)) from hp) (by simp),e0.hok.kept hk,?_⟩
 ·exact name_of_addr x.apart (PySem.mem_of_lookup h1) (PySem.mem_of_lookup h2)
 ·have hy:scope.names.lookup y = some .cell\/scope.names.lookup y = some .free:=hy
  rcases hy with hy | hy
  ·exact cell_has hy
  ·exact absurd rfl (S.nofree _ (PySem.mem_of_lookup hy))
 ·exact Nat.le_of_lt (x.above y c (PySem.mem_of_lookup h))
 ·have hi:i < vs.length:=by
   unfold start at h2
   by_cases hi:i < vs.length
   ·exact hi
   ·rw [List.getElem?_append_right (by simpa using hi)] at h2
    rw [List.getElem?_replicate] at h2
    split at h2 <;> cases h2
  have ha:vs[i]? = some v:=by
   unfold start at h2
   rw [List.getElem?_append_left (by simpa using hi),List.getElem?_map] at h2
   cases e:vs[i]? with
   | none=>rw [e] at h2; cases h2
   | some a=>rw [e] at h2; cases h2; rfl
  obtain ⟨u,hu,rv⟩:=r.get ha
  have hp:ps[i]? = some y:=by
   rw [<-S.pre,List.getElem?_take_of_lt (by omega)]; exact h1
  have ndP:ps.Nodup:=by rw [<-S.pre]; exact S.nd.sublist (List.take_sublist _ _)
  refine ⟨u,rv,?_⟩
  rcases S.par y (List.mem_of_getElem? hp) with k | k
  ·exact .inl ⟨k,bindL_get ndP hp hu k⟩
  ·obtain ⟨c,e⟩:=cell_has (n:=s.heap.objs.size + 1) k
   refine .inr ⟨.inl k,c,e,?_⟩
   have q:=x.cell y c e
   rw [bindC_get ndP hp hu (by show scope.names.lookup y ≠ _; rw [k]; decide)] at q
   exact q
 ·exact e0.hok.fresh (Nat.le_of_lt (x.above y c (PySem.mem_of_lookup h)))
 ·unfold start
  show _ = N.length
  rw [List.length_append,List.length_map,List.length_replicate]
  omega
theorem fn_of {CX:CXT} {P:Program} {w:World} {K:PySem.W.Frag} {mg:Str->Option Value} {base:Heap} {k:Nat} {f:Addr} {name qual:Str} {params:Arguments} {body:List Stmt} {scope:Scope} {dV kV doc pm cdv ct oc:Value} {an od:Option Addr}
  {osl:Array (Option Value)} {N ps:List Str} {sp:Sp} (lk:K.lookup f = some ⟨oc,od,.func (PySem.W.fnOf name qual params body scope dV kV doc pm an cdv ct),osl⟩) (hcd:PySem.W.codeIn K cdv qual = true) (S:FnScope N ps scope)
  (len:∀ vs H Q E,sp vs H Q E->vs.length = ps.length)
  (hbody:∀ (A:Around) (outer:List Env) (s:Shared) (H:Hp) (vs:List V) (Q:VK) (E:XK),Room k (A.deeper (envOfC qual scope s.heap.objs.size f cdv))->sp vs H Q E ->
   ∃ t,PSs (cxOf CX P w K mg base N qual scope f cdv A outer s H E) body t/\t { nx:=fun _ H'=>Q .non H',rt:=Q } (start N vs) H) :
  FnOk P w K mg base CX (k + 1) f (PySem.W.fnOf name qual params body scope dV kV doc pm an cdv ct) ps sp:=by
 refine ⟨len,fun A outer s H args us vs Q E hr e0 hb r hsp=>?_⟩
 have hl:=len _ _ _ _ hsp
 have KX:K.In s.heap:=e0.mod.kin.keeps fun b o e=>(e0.bs b o e).1
 have lim:s.heap.NoLimit:=e0.mod.nolimit.keeps fun b o e=>(e0.bs b o e).1
 have hkind:∀ y ∈ ps.zip us,scope.names.lookup y.1 = some .local\/(scope.names.lookup y.1 = some .cell/\((cellsFrom (s.heap.objs.size + 1) scope.names []).lookup y.1).isSome = true):=fun ⟨n,v⟩ hy=>by
  rcases S.par n (List.of_mem_zip hy).1 with q | q
  ·exact .inl q
  ·exact .inr ⟨q,PySem.W.cellsFrom_some _ _ _ (.inl q)⟩
 refine codeAny_call_function hr.depth (KX _ _ lk) rfl S.co S.gen rfl (PySem.W.codeRec_of KX hcd) (hb _ _ _ _ ?_)
 refine wpAny_newFunctionEnv_cells S.kind hkind fun env he s1 x=>?_
 subst he
 refine ⟨lim.keeps x.toInCall.keep,codeAny_func ?_⟩
 obtain ⟨t,ht,hq⟩:=hbody A outer s H vs Q E (hr.deeper _) hsp
 have I:Inv (cxOf CX P w K mg base N qual scope f cdv A outer s H E) [] (start N vs) H s1:=inv_start S hr.hd e0 hl r x
 refine wpAny_mono (ht [] s1 (start N vs) H _ I hq) (fun fl s' hs=>?_) fun e s' hs=>hs
 have fin:∀ {σ':St} {H':Hp} {v:V} {u:Value},Inv (cxOf CX P w K mg base N qual scope f cdv A outer s H E) [] σ' H' s'->RelV v u->Q v H'->CE outer P w H s Q u s' :=
  fun {σ' H' v u} J rv q=>⟨v,H',J.os,J.bare,J.base,J.hok,rv,q⟩
 cases fl with
 | ret u =>
  obtain ⟨v,σ',H',J,rv,q⟩:=hs
  exact fin J rv q
 | next =>
  obtain ⟨σ',H',J,q⟩:=hs
  exact fin (v:=V.non) (u:=Value.none) J rfl q
 | brk =>
  obtain ⟨_,_,_,q⟩:=hs
  exact False.elim q
 | cont =>
  obtain ⟨_,_,_,q⟩:=hs
  exact False.elim q
end L2
namespace L2
open PySem PySem.Spec PyProof.Rows
section
variable {X:Cx} {x:Str} {p pos:Pos} {e:Expr} {es:List Expr} {t:TA} {id T:String} {r:List V->Hp->VK->Prop}
noncomputable def tCB (r:List V->Hp->VK->Prop) (t:TA):TE:=fun σ H Q=>t σ H fun vs H1=>r vs H1 Q
theorem pe_callB (hc:CallR X (.builtin id) r) (hg:Gl X x) (hm:X.mg x = none) (hv:bootBuiltins x = some (.builtin id)) (ha:PA X (e :: es) t) (hn:x ≠ "__name__":=by decide) (hdb:(x == ("__debug__":Str)) = false:=by decide)
  (he:starEach (e :: es) X.env = (false,eval e X.env) :: starEach es X.env:=by rfl) (hpl:(backTo pos (starEach es X.env)).any (·.1) = false:=by rfl):PE X (.Call (.Name x p) (e :: es) [] pos) (tCB r t):=by
 intro pins s σ H Q I h
 refine wpAny_Call_Name_kw (ld_blt I hg hm hv ?_ hn hdb)
 exact PyProof.Rows.callWith_builtin1 (thn (ha pos pins s σ H _ I h) fun us s1 ⟨vs,H1,I1,r1,q1⟩=>hc pins s1 σ H1 vs us Q I1 r1 q1) he hpl
theorem pe_callTy (hc:CallR X (.type T) r) (hg:Gl X x) (hm:X.mg x = none) (hv:bootBuiltins x = some (.type T)) (ha:PA X (e :: es) t) (hn:x ≠ "__name__":=by decide) (hdb:(x == ("__debug__":Str)) = false:=by decide)
  (he:starEach (e :: es) X.env = (false,eval e X.env) :: starEach es X.env:=by rfl) (hpl:(backTo pos (starEach es X.env)).any (·.1) = false:=by rfl):PE X (.Call (.Name x p) (e :: es) [] pos) (tCB r t):=by
 intro pins s σ H Q I h
 refine wpAny_Call_Name_kw (ld_blt I hg hm hv ?_ hn hdb)
 exact PyProof.Rows.callWith_type1 (thn (ha pos pins s σ H _ I h) fun us s1 ⟨vs,H1,I1,r1,q1⟩=>hc pins s1 σ H1 vs us Q I1 r1 q1) he hpl
theorem pe_callTy0 (hc:CallR X (.type T) r) (hg:Gl X x) (hm:X.mg x = none) (hv:bootBuiltins x = some (.type T)) (hn:x ≠ "__name__":=by decide) (hdb:(x == ("__debug__":Str)) = false:=by decide) :
  PE X (.Call (.Name x p) [] [] pos) (tCB r tNil):=by
 intro pins s σ H Q I h
 refine wpAny_Call_Name_kw (ld_blt I hg hm hv ?_ hn hdb)
 exact PyProof.Rows.callWith_type0 (hc pins s σ H [] [] Q I .nil h)
end
end L2
namespace HT
open PySem PyProof.Rows
section
variable {prog:Program} {w:World} {A:Around} {E:Value->Shared->Prop} {s:Shared}
theorem cat_tup {t b:Addr} {vs ws:List Value} {Q:Value->Shared->Prop} (ht:IsTup s.heap t vs.toArray) (hb:IsTup s.heap b ws.toArray) (hv:vs ≠ [])
  (h1:ws = []->Q (.ref t) s) (h2:ws ≠ []->Q (.ref s.heap.objs.size) { s with heap:=s.heap.push { cls:=.type "tuple",data:=.seq (vs ++ ws).toArray } })
  (hsz:vs.length + ws.length<=sizeLine):wpAny (model prog w) A (binaryOp .Add (.ref t) (.ref b)) Q E s:=by
 obtain ⟨⟨cls,dd,data,sl⟩,ho,hc,n,hd⟩:=id ht
 obtain ⟨⟨cls2,dd2,data2,sl2⟩,ho2,hc2,n2,hd2⟩:=id hb
 simp only at hc hd hc2 hd2
 subst hc hd hc2 hd2
 have e:vs.toArray ++ ws.toArray = (vs ++ ws).toArray:=by simp
 by_cases hw:ws = []
 ·exact concat_meets ⟨_,ho,rfl⟩ ⟨_,ho2,rfl⟩ noFill_tuple_add seq_tuple_add PySem.F.slot_tuple_add PySem.F.entry_tuple_add (PySem.F.args_tuple_add_2 _ _)
   (tuple_addW1 t b vs.toArray ws.toArray n n2 dd dd2 sl sl2 (by simpa using hv) (by simp [hw])) ⟨ho,ho2,h1 hw⟩
 ·refine concat_meets ⟨_,ho,rfl⟩ ⟨_,ho2,rfl⟩ noFill_tuple_add seq_tuple_add PySem.F.slot_tuple_add PySem.F.entry_tuple_add (PySem.F.args_tuple_add_2 _ _)
   (tuple_addW2 t b vs.toArray ws.toArray n n2 dd dd2 sl sl2 (by simpa using hv) (by simpa using hw) (by rw [List.size_toArray,List.size_toArray]; exact hsz)) ⟨ho,ho2,?_⟩
  rw [e]
  exact h2 hw
noncomputable def sIx (n d:Nat):Option Int->Nat
 | none=>d
 | some v=>if v < 0 then (v + (n:Int)).toNat else min v.toNat n
theorem sIx_none (n d:Nat):sIx n d none = d:=rfl
theorem sIx_nat (n d k:Nat):sIx n d (some (k:Int)) = min k n:=by
 show (if (k:Int) < 0 then ((k:Int) + (n:Int)).toNat else min (k:Int).toNat n) = min k n
 rw [if_neg (by omega),Int.toNat_natCast]
theorem sIx_le (n d:Nat) (hd:d<=n) (o:Option Int):sIx n d o<=n:=by
 cases o with
 | none=>exact hd
 | some v =>
  show (if v < 0 then (v + (n:Int)).toNat else min v.toNat n)<=n
  by_cases hv:v < 0
  ·rw [if_pos hv]; omega
  ·rw [if_neg hv]; exact Nat.min_le_right _ _
theorem clip_eq (v:Int) (n d:Nat):(if v < 0 then max (v + (n:Int)) 0 else min v (n:Int)) = ((sIx n d (some v):Nat):Int):=by
 show (if v < 0 then max (v + (n:Int)) 0 else min v (n:Int)) = (((if v < 0 then (v + (n:Int)).toNat else min v.toNat n):Nat):Int)
 by_cases hv:v < 0
 ·simp only [if_pos hv]; omega
 ·simp only [if_neg hv]; omega
theorem adjust_gen (lo hi:Option Int) (n:Nat):Builtin.Slice.sliceAdjust lo hi 1 (n:Int) = (((sIx n 0 lo:Nat):Int),((sIx n n hi:Nat):Int)):=by
 have h1:¬ ((1:Int) < 0):=by omega
 unfold Builtin.Slice.sliceAdjust
 simp only [h1,if_false]
 refine Prod.ext ?_ ?_
 ·cases lo with
  | none=>rfl
  | some v=>exact clip_eq v n 0
 ·cases hi with
  | none=>rfl
  | some v=>exact clip_eq v n n
theorem places_gen (i j:Nat):Builtin.Slice.slicePlaces (i:Int) (j:Int) 1 = j - i:=by
 unfold Builtin.Slice.slicePlaces
 have h1:(1:Int) > 0:=by omega
 simp only [h1,if_true,Int.ediv_one]
 split <;> omega
theorem slicePart_ {v:Value} {o:Option Int} {Q:Option Int->Shared->Prop} (p:IsPart v o) (h:Q o s):wpAny (model prog w) A (Builtin.Slice.slicePartIndex v) Q E s:=by
 cases p with
 | none=>exact slicePart_none h
 | int i t=>exact slicePart_int h
theorem sliceApplied_gen {sl:Addr} {vl vu:Value} {lo hi:Option Int} {n:Nat} {Q:Int × Int × Nat->Shared->Prop} (hs:s.heap.IsSliceOf sl vl vu .none) (pl:IsPart vl lo) (pu:IsPart vu hi)
  (h:Q (((sIx n 0 lo:Nat):Int),1,sIx n n hi - sIx n 0 lo) s):wpAny (model prog w) A (Builtin.Slice.sliceApplied (.ref sl) (pure (n:Int))) Q E s:=by
 obtain ⟨os,hos,hcs,hds⟩:=id hs
 unfold Builtin.Slice.sliceApplied Builtin.Slice.sliceFields
 refine wpAny_bind (wpAny_bind (wpAny_field hos hds (x:=vl) rfl (wpAny_bind (wpAny_field hos hds (x:=vu) rfl (wpAny_bind (wpAny_field hos hds (x:=.none) rfl (wpAny_pure ?_)))))))
 refine wpAny_bind (slicePart_none ?_)
 show wpAny _ _ (if ((1:Int) == 0) = true then _ else _) _ _ s
 rw [if_neg (by decide)]
 refine wpAny_bind (slicePart_ pl (wpAny_bind (slicePart_ pu (wpAny_bind (wpAny_pure ?_)))))
 show wpAny _ _ (match Builtin.Slice.sliceAdjust lo hi 1 (n:Int) with | (lo,hi)=>pure (lo,(1:Int),Builtin.Slice.slicePlaces lo hi 1)) _ _ s
 rw [adjust_gen lo hi n]
 show wpAny _ _ (pure (((sIx n 0 lo:Nat):Int),(1:Int),Builtin.Slice.slicePlaces ((sIx n 0 lo:Nat):Int) ((sIx n n hi:Nat):Int) 1)) _ _ s
 rw [places_gen]
 exact wpAny_pure h
theorem pick_gen (xs:Array Value) (i k:Nat):((List.range k).filterMap fun (m:Nat)=>xs[((i:Int) + (m:Int) * 1).toNat]?).toArray = ((xs.toList.drop i).take k).toArray:=by
 have e:(fun (m:Nat)=>xs[((i:Int) + (m:Int) * 1).toNat]?) = fun m=>xs[i + m]?:=by
  funext m
  have:((i:Int) + (m:Int) * 1).toNat = i + m:=by omega
  rw [this]
 rw [e]
 have:=pick_run xs i k
 rw [List.filterMap_map] at this
 have e2:((fun x=>xs[x]?) ∘ fun x=>i + x) = fun m=>xs[i + m]?:=rfl
 rw [e2] at this
 rw [this]
theorem getItem_tuple_cut {t sl:Addr} {items:Array Value} {vl vu:Value} {lo hi:Option Int} {Q:Value->Shared->Prop} (ht:IsTup s.heap t items) (hs:s.heap.IsSliceOf sl vl vu .none) (pl:IsPart vl lo) (pu:IsPart vu hi)
  (hw:¬ (sIx items.size 0 lo = 0/\sIx items.size items.size hi = items.size))
  (h:Q (.ref s.heap.objs.size) { s with heap:=s.heap.push { cls:=.type "tuple",data:=.seq ((items.toList.drop (sIx items.size 0 lo)).take (sIx items.size items.size hi - sIx items.size 0 lo)).toArray } })
  (hsz:items.size<=sizeLine):wpAny (model prog w) A (getItem (.ref t) (.ref sl)) Q E s:=by
 have htake:sizeOk (.seq ((items.toList.drop (sIx items.size 0 lo)).take (sIx items.size items.size hi - sIx items.size 0 lo)).toArray):=by
  show ((items.toList.drop (sIx items.size 0 lo)).take (sIx items.size items.size hi - sIx items.size 0 lo)).toArray.size<=sizeLine
  rw [List.size_toArray,List.length_take,List.length_drop,Array.length_toList]
  omega
 have hj:sIx items.size items.size hi<=items.size:=sIx_le _ _ (Nat.le_refl _) hi
 obtain ⟨os,hos,hcs,hds⟩:=id hs
 have hTs:s.TypeIs (.ref sl) "slice":=⟨os,hos,hcs⟩
 unfold getItem
 try with_reducible refine wpAny_holding ?_
 first | refine wpAny_bind (wpAny_pure ?_) | skip
 refine wpAny_bind (wpAny_sequenceKey ht.typeIs (by decide) ?_)
 refine wpAny_bind (wpAny_callSpecial?_slot (name:=Str.ofString "__getitem__") ht.typeIs PyProof.Rows.slot_tuple_getitem
  (wpAny_call_entry PyProof.Rows.slot_tuple_getitem ht.typeIs entry_tuple_getitem ?_ (args_tuple_getitem _ _)))
 show wpAny _ _ (Builtin.Tuple.tupleItemsOf (.ref t) >>= _) _ _ s
 refine wpAny_bind (tupleItemsOf_ ht ?_)
 refine wpAny_bind (wpAny_typeOf hTs ?_)
 rw [if_pos (by decide)]
 refine wpAny_bind (sliceApplied_gen hs pl pu ?_)
 have hno:¬ ((((sIx items.size 0 lo:Nat):Int) == 0 && (1:Int) == 1 && (sIx items.size items.size hi - sIx items.size 0 lo) == items.size) = true):=by
  intro q
  rw [Bool.and_eq_true,Bool.and_eq_true] at q
  have q1:((sIx items.size 0 lo:Nat):Int) = 0:=eq_of_beq q.1.1
  have q2:sIx items.size items.size hi - sIx items.size 0 lo = items.size:=eq_of_beq q.2
  exact hw ⟨by omega,by omega⟩
 show wpAny _ _ (if (((sIx items.size 0 lo:Nat):Int) == 0 && (1:Int) == 1 && (sIx items.size items.size hi - sIx items.size 0 lo) == items.size) = true then _ else _) _ _ s
 rw [if_neg hno,pick_gen]
 first
  | exact wpAny_bind (m:=Builtin.Tuple.tupleExact _) (wpAny_newObj_type (wpAny_pure ⟨_,rfl,wpAny_pure h⟩) htake)
  | exact wpAny_bind (m:=Builtin.Tuple.tupleExact _) (wpAny_newObj_type (wpAny_bind (wpAny_pure (wpAny_pure ⟨_,rfl,wpAny_pure h⟩))) htake)
  | exact wpAny_bind (wpAny_bind (m:=Builtin.Tuple.tupleExact _) (wpAny_newObj_type (wpAny_pure (wpAny_pure ⟨_,rfl,wpAny_pure h⟩)) htake))
  | exact wpAny_bind (wpAny_bind (m:=Builtin.Tuple.tupleExact _) (wpAny_newObj_type (wpAny_pure ⟨_,rfl,wpAny_pure h⟩) htake))
end
end HT
namespace L2
open PySem PySem.Spec PyProof.Rows
noncomputable abbrev TO:=St->Hp->(Option Int->Hp->Prop)->Prop
noncomputable def PO (X:Cx) (e:Option Expr) (t:TO):Prop :=
 ∀ (pins:List (Addr × Obj)) (s:Shared) (σ:St) (H:Hp) (Q:Option Int->Hp->Prop),Inv X pins σ H s->t σ H Q ->
  wpAny (model X.prog X.w) X.A (evalPart e X.env) (fun u s'=>∃ o H',Inv X pins σ H' s'/\IsPart u o/\Q o H') X.xe s
noncomputable def tNoPart:TO:=fun _ H Q=>Q none H
noncomputable def tPart (t:TE):TO:=fun σ H Q=>t σ H fun x H1=>∃ i,x = .int i/\Q (some i) H1
section
variable {X:Cx} {e:Expr} {te:TE} {lo hi:Option Expr} {tl th:TO} {pos p2:Pos}
theorem po_none:PO X none tNoPart:=by
 intro pins s σ H Q I h
 rw [evalPart_none]
 exact wpAny_pure ⟨none,H,I,.none,h⟩
theorem po_some (h:PE X e te):PO X (some e) (tPart te):=by
 intro pins s σ H Q I hw
 rw [evalPart_some]
 refine thn (h pins s σ H _ I hw) fun u s1 ⟨x,H1,I1,r1,q1⟩=>?_
 obtain ⟨i,rfl,q⟩:=q1
 obtain ⟨t,rfl⟩:=r1
 exact ⟨some i,H1,I1,.int i t,q⟩
noncomputable def SlR (X:Cx) (r:V->Option Int->Option Int->Hp->VK->Prop):Prop :=
 ∀ (pins:List (Addr × Obj)) (s:Shared) (σ:St) (H:Hp) (x:V) (v vl vu:Value) (lo hi:Option Int) (sl:Addr) (Q:VK),Inv X pins σ H s->RelV x v->s.heap.IsSliceOf sl vl vu .none->IsPart vl lo->IsPart vu hi->r x lo hi H Q ->
  ∃ T id,typeLookup (.type T) "__getitem__" = pure (some (.builtin id))/\s.TypeIs v T/\wpAny (model X.prog X.w) X.A (getItem v (.ref sl)) (EP X pins σ Q) X.xe s
noncomputable def tSl (r:V->Option Int->Option Int->Hp->VK->Prop) (te:TE) (tl th:TO):TE:=fun σ H Q=>te σ H fun x H1=>tl σ H1 fun l H2=>th σ H2 fun u H3=>r x l u H3 Q
theorem pe_slice {r:V->Option Int->Option Int->Hp->VK->Prop} (hr:SlR X r) (he:PE X e te) (hl:PO X lo tl) (hu:PO X hi th):PE X (.Subscript e (.Slice lo hi none p2) pos) (tSl r te tl th):=by
 intro pins s σ H Q I h
 refine Subscript_ (thn (he pins s σ H _ I h) fun v s1 ⟨x,H1,I1,r1,q1⟩=>?_)
 refine wpAny_Slice (thn (hl pins s1 σ H1 _ I1 q1) fun vl s2 ⟨l,H2,I2,pl,q2⟩=>thn (hu pins s2 σ H2 _ I2 q2) fun vu s3 ⟨u,H3,I3,pu,q3⟩=>?_)
 rw [evalPart_none]
 refine wpAny_pure ?_
 have I4:Inv X pins σ H3 { s3 with heap:=s3.heap.push { cls:=.type "slice",data:=.fields #[vl,vu,.none] } }:=I3.kept (t':=s3.toks) fun b ob q=>Heap.get?_push_of_some _ q
 obtain ⟨T,id,hT,ht,hg⟩:=hr pins { s3 with heap:=s3.heap.push { cls:=.type "slice",data:=.fields #[vl,vu,.none] } } σ H3 x v vl vu l u s3.heap.objs.size Q I4 r1 (Heap.IsSliceOf.new ..) pl pu q3
 show wpAny (model X.prog X.w) X.A (subscriptTail e (.Slice lo hi none p2) v (.ref s3.heap.objs.size)) (EP X pins σ Q) X.xe { s3 with heap:=s3.heap.push { cls:=.type "slice",data:=.fields #[vl,vu,.none] } }
 exact tail_any (ops:=[.ref s3.heap.objs.size,v]) ht hT hg (by with_unfolding_all rfl)
noncomputable def cutV (xs:List V) (lo hi:Option Int):List V:=(xs.drop (HT.sIx xs.length 0 lo)).take (HT.sIx xs.length xs.length hi - HT.sIx xs.length 0 lo)
theorem cutV_length (xs:List V) (lo hi:Option Int):(cutV xs lo hi).length<=xs.length:=by
 unfold cutV
 rw [List.length_take,List.length_drop]
 omega
noncomputable def rSlT (K:PySem.W.Frag):V->Option Int->Option Int->Hp->VK->Prop:=fun x lo hi H Q=>∃ a xs,x = .ref a/\SqT K H a xs /\
 ¬ (HT.sIx xs.length 0 lo = 0/\HT.sIx xs.length xs.length hi = xs.length)/\∀ p,H p = none->Q (.ref p) (upd H p (.tup (cutV xs lo hi)))
theorem sl_tup:SlR X (rSlT X.K):=by
 intro pins s σ H x v vl vu lo hi sl Q I rx hs pl pu h
 obtain ⟨a,xs,rfl,hx,hw,q⟩:=h
 cases rx
 obtain ⟨its,r,ht,hz⟩:=I.tuple hx
 have hlen:its.toArray.size = xs.length:=by rw [List.size_toArray]; exact r.length.symm
 refine ⟨"tuple",_,PyProof.Rows.slot_tuple_getitem.lookup,ht.typeIs,?_⟩
 refine HT.getItem_tuple_cut ht hs pl pu (by rw [hlen]; exact hw) ?_ (by rw [hlen]; exact hz)
 rw [hlen]
 refine ⟨.ref s.heap.objs.size,_,I.laid (t':=s.toks) (o:=.tup (cutV xs lo hi)) (fun b ob q=>Heap.get?_push_of_some _ q) (Nat.le_refl _) ?_,rfl,q _ (I.hok.fresh (Nat.le_refl _))⟩
 exact ⟨Nat.le_trans (cutV_length xs lo hi) hz,_,(r.drop (HT.sIx xs.length 0 lo)).take (HT.sIx xs.length xs.length hi - HT.sIx xs.length 0 lo),IsTup.new _ _⟩
noncomputable def rCatT (K:PySem.W.Frag):R2:=fun x y H Q=>∃ a b xs ys,x = .ref a/\y = .ref b/\SqT K H a xs/\SqT K H b ys/\xs ≠ []/\xs.length + ys.length<=sizeLine /\
 (ys = []->Q (.ref a) H)/\(ys ≠ []->∀ p,H p = none->Q (.ref p) (upd H p (.tup (xs ++ ys))))
theorem Vals.nil_iff {xs:List V} {us:List Value} (r:Vals xs us):us = [] ↔ xs = []:=by
 cases r with
 | nil=>simp
 | cons _ _=>simp
theorem op_catT:OpR X (binaryOp .Add) (rCatT X.K):=by
 intro pins s σ H x y v u Q I rx ry h
 obtain ⟨a,b,xs,ys,rfl,rfl,ha,hb,hx,hz,q1,q2⟩:=h
 cases rx
 cases ry
 obtain ⟨its,r1,p1,_⟩:=I.tuple ha
 obtain ⟨its2,r2,p2,_⟩:=I.tuple hb
 refine HT.cat_tup p1 p2 (fun z=>hx (r1.nil_iff.mp z)) (fun z=>⟨.ref a,H,I,rfl,q1 (r2.nil_iff.mp z)⟩) (fun z=>?_) (by rw [<-r1.length,<-r2.length]; exact hz)
 refine ⟨.ref s.heap.objs.size,_,I.laid (t':=s.toks) (o:=.tup (xs ++ ys)) (fun b ob q=>Heap.get?_push_of_some _ q) (Nat.le_refl _) ?_,rfl,q2 (fun w=>z (r2.nil_iff.mpr w)) _ (I.hok.fresh (Nat.le_refl _))⟩
 exact ⟨by rw [List.length_append]; exact hz,_,r1.append r2,IsTup.new _ _⟩
end
end L2
namespace L2
open PySem PySem.Spec PyProof.Rows
noncomputable def ixN (n:Nat) (i:Int):Option Nat:=if 0<=i then (if i < n then some i.toNat else none) else if -(n:Int)<=i then some (i + n).toNat else none
noncomputable def atI {α:Type} (xs:List α) (i:Int):Option α:=(ixN xs.length i).bind fun j=>xs[j]?
theorem ixN_seq {n:Nat} {i:Int} {j:Nat} (h:ixN n i = some j):seqIndex? i n = some j/\j < n/\-(n:Int)<=i/\i < n:=by
 unfold ixN at h
 by_cases h0:0<=i
 ·rw [if_pos h0] at h
  by_cases h1:i < n
  ·rw [if_pos h1] at h
   have e:i.toNat = j:=Option.some.inj h
   exact ⟨by rw [seqIndex_of h0 h1,e],by omega,by omega,h1⟩
  ·rw [if_neg h1] at h; cases h
 ·rw [if_neg h0] at h
  by_cases h1:-(n:Int)<=i
  ·rw [if_pos h1] at h
   have e:(i + n).toNat = j:=Option.some.inj h
   exact ⟨by rw [seqIndex_neg (by omega) h1,e],by omega,h1,by omega⟩
  ·rw [if_neg h1] at h; cases h
theorem atI_get {α:Type} {xs:List α} {i:Int} {v:α} (h:atI xs i = some v):∃ j,seqIndex? i xs.length = some j/\xs[j]? = some v/\j < xs.length/\-(xs.length:Int)<=i/\i < xs.length:=by
 unfold atI at h
 cases e:ixN xs.length i with
 | none=>rw [e] at h; cases h
 | some j =>
  rw [e] at h
  obtain ⟨h1,h2,h3,h4⟩:=ixN_seq e
  exact ⟨j,h1,h,h2,h3,h4⟩
theorem atI_nat {α:Type} {xs:List α} {j:Nat} {v:α} (h:xs[j]? = some v):atI xs (j:Int) = some v:=by
 have hj:j < xs.length:=(List.getElem?_eq_some_iff.mp h).1
 have e:ixN xs.length (j:Int) = some j:=by
  unfold ixN
  rw [if_pos (by omega),if_pos (by omega)]; simp
 unfold atI; rw [e]; exact h
noncomputable def PlainIx (b:Expr):Prop:=∀ o i,subscripted b false o i = operate [o,i] (getItem o i)
noncomputable def IxR (X:Cx) (r:R2):Prop :=
 ∀ (value slice:Expr) (pins:List (Addr × Obj)) (s:Shared) (σ:St) (H:Hp) (x y:V) (v u:Value) (Q:VK),Inv X pins σ H s->RelV x v->RelV y u->r x y H Q ->
  subscripted slice false v u = operate [v,u] (getItem v u)->wpAny (model X.prog X.w) X.A (subscriptTail value slice v u) (EP X pins σ Q) X.xe s
noncomputable def MtR (X:Cx) (id:String) (r:V->List V->Hp->VK->Prop):Prop :=
 ∀ (pins:List (Addr × Obj)) (s:Shared) (σ:St) (H:Hp) (x:V) (xs:List V) (v:Value) (us:List Value) (Q:VK),Inv X pins σ H s->RelV x v->Vals xs us->r x xs H Q ->
  wpAny (model X.prog X.w) X.A (call (.builtin id) (v :: us)) (EP X pins σ Q) X.xe s
section
variable {X:Cx} {a b:Expr} {ta tb:TE} {pos:Pos}
theorem pe_ix {r:R2} (hr:IxR X r) (ha:PE X a ta) (hb:PE X b tb) (hs:PlainIx b):PE X (.Subscript a b pos) (tOp r ta tb):=by
 intro pins s σ H Q I h
 exact Subscript_ (binT ha hb I h fun v u s2 x y H2 I2 rx ry q=>hr a b pins s2 σ H2 x y v u Q I2 rx ry q (hs _ _))
noncomputable def rIxL (K:PySem.W.Frag):R2:=fun x y H Q=>∃ p xs i v,x = .ref p/\y = .int i/\SqL K H p xs/\atI xs i = some v/\Q v H
noncomputable def rIxT (K:PySem.W.Frag):R2:=fun x y H Q=>∃ p xs i v,x = .ref p/\y = .int i/\SqT K H p xs/\atI xs i = some v/\Q v H
theorem ix_list:IxR X (rIxL X.K):=by
 intro value slice pins s σ H x y v u Q I rx ry h hs
 obtain ⟨p,xs,i,z,rfl,rfl,hq,he,q⟩:=h
 cases rx
 obtain ⟨t,rfl⟩:=ry
 obtain ⟨its,r,pl,hz⟩:=I.list hq
 obtain ⟨j,h1,h2,h3,h4,h5⟩:=atI_get he
 obtain ⟨w,ew,rw'⟩:=r.get h2
 have hl:=r.length
 have hn:=line63
 have fin:EP X pins σ Q w s:=⟨z,H,I,rw',q⟩
 by_cases h0:0<=i
 ·have hj:i.toNat = j:=by
   rw [seqIndex_of h0 h5] at h1
   exact Option.some.inj h1
  exact item_listR pl.isList h0 (by omega) (by rw [hj]; simpa using ew) fin hs
 ·have hj:(i + (its.toArray.size:Int)).toNat = j:=by
   rw [seqIndex_neg (by omega) h4] at h1
   rw [List.size_toArray,<-hl]
   exact Option.some.inj h1
  exact subscriptTail_builtinR (x:=w) pl.isList.typeIs slot_list_getitem.lookup
   (wpAny_getItem_list_neg (Q:=fun r s'=>r = w/\EP X pins σ Q r s') pl.isList (by omega) (by rw [List.size_toArray] <;> omega) (by omega) (by rw [hj]; simpa using ew) ⟨rfl,fin⟩) hs
theorem ix_tup:IxR X (rIxT X.K):=by
 intro value slice pins s σ H x y v u Q I rx ry h hs
 obtain ⟨p,xs,i,z,rfl,rfl,hq,he,q⟩:=h
 cases rx
 obtain ⟨t,rfl⟩:=ry
 obtain ⟨its,r,pl,hz⟩:=I.tuple hq
 obtain ⟨j,h1,h2,h3,h4,h5⟩:=atI_get he
 obtain ⟨w,ew,rw'⟩:=r.get h2
 have hl:=r.length
 have hn:=line63
 have fin:EP X pins σ Q w s:=⟨z,H,I,rw',q⟩
 exact subscriptTail_builtinR (x:=w) pl.typeIs slot_tuple_getitem.lookup
  (getItem_tuple (j:=j) (Q:=fun r s'=>r = w/\EP X pins σ Q r s') pl (by omega) (by omega) (by rw [List.size_toArray,<-hl]; exact h1) (by simpa using ew) ⟨rfl,fin⟩) hs
theorem mapSeq_set (its:List Value) (n j:Nat) (u:Value):Obj.mapSeq (·.setIfInBounds j u) { cls:=.type "list",data:=.seq its.toArray n } = { cls:=.type "list",data:=.seq (its.set j u).toArray n }:=by
 simp [Obj.mapSeq]
theorem Inv.lst {pins:List (Addr × Obj)} {σ:St} {H:Hp} {s:Shared} {p:Addr} {xs:List V} (I:Inv X pins σ H s) (h:H p = some (.lst xs)) :
  ∃ (its:List Value) (n:Nat),Vals xs its/\s.heap.get? p = some { cls:=.type "list",data:=.seq its.toArray n }/\xs.length<=sizeLine:=by
 obtain ⟨z,its,n,r,e⟩:=I.hok p _ h
 exact ⟨its,n,r,e,z⟩
theorem Inv.lstUpd {pins:List (Addr × Obj)} {σ:St} {H:Hp} {s:Shared} {p:Addr} {xs ys:List V} {its its':List Value} {n n':Nat} {f:Obj->Obj} (I:Inv X pins σ H s) (h:H p = some (.lst xs))
  (ho:s.heap.get? p = some { cls:=.type "list",data:=.seq its.toArray n }) (hf:f { cls:=.type "list",data:=.seq its.toArray n } = { cls:=.type "list",data:=.seq its'.toArray n' }) (r:Vals ys its') (hz:ys.length<=sizeLine) (t:Nat) :
  Inv X pins σ (upd H p (.lst ys)) { s with heap:=s.heap.update p f,toks:=t }:=by
 have e:(s.heap.update p f).get? p = some { cls:=.type "list",data:=.seq its'.toArray n' }:=by
  rw [Heap.get?_update_self f ho (by rw [hf] <;> rfl),hf]
 refine I.write (x:=p) (e:=p) (by rw [h]; trivial) (.inl rfl) (fun b u hb q=>(Heap.get?_update_other _ _ (Ne.symm hb)).trans q) ⟨_,e⟩ ?_
 exact ⟨hz,its',n',r,e⟩
noncomputable def rSetL:V->V->V->Hp->(Hp->Prop)->Prop:=fun o i v H Q=>∃ p xs k j,o = .ref p/\i = .int k/\H p = some (.lst xs)/\ixN xs.length k = some j/\Q (upd H p (.lst (xs.set j v)))
theorem set_list:PSet X rSetL:=by
 intro pins s σ H o i v ov iv u Q I ro ri rv h
 obtain ⟨p,xs,k,j,rfl,rfl,hp,hj,q⟩:=h
 cases ro
 obtain ⟨t,rfl⟩:=ri
 obtain ⟨its,n,r,ho,hz⟩:=I.lst hp
 obtain ⟨h1,h2,h3,h4⟩:=ixN_seq hj
 have hl:=r.length
 have hn:=line63
 have I':Inv X pins σ (upd H p (.lst (xs.set j v))) { s with heap:=s.heap.update p (Obj.mapSeq (·.setIfInBounds j u)) } :=
  I.lstUpd hp ho (mapSeq_set its n j u) (r.set rv j) (by rw [List.length_set]; exact hz) s.toks
 by_cases h0:0<=k
 ·have hk:k.toNat = j:=by
   rw [seqIndex_of h0 h4] at h1
   exact Option.some.inj h1
  exact PySem.W.ki_setAt ho h0 (by omega) (by rw [List.size_toArray,<-hl]; exact h4) (by rw [hk]; exact ⟨_,I',q⟩)
 ·have hk:(k + (its.toArray.size:Int)).toNat = j:=by
   rw [seqIndex_neg (by omega) h3] at h1
   rw [List.size_toArray,<-hl]
   exact Option.some.inj h1
  exact PySem.W.ki_setBack ho (by omega) (by rw [List.size_toArray,<-hl]; exact h3) (by omega) (by rw [hk]; exact ⟨_,I',q⟩)
theorem slice_bounds (lo hi:Option Int) (n:Nat):(sliceBounds lo hi none n).1 = ((HT.sIx n 0 lo:Nat):Int)/\(sliceBounds lo hi none n).2.1 = ((HT.sIx n n hi:Nat):Int)/\(sliceBounds lo hi none n).2.2 = 1:=by
 refine ⟨?_,?_,rfl⟩
 ·cases lo with
  | none=>simp [sliceBounds,HT.sIx]
  | some i =>
   simp only [sliceBounds,HT.sIx,Option.getD_none,show (1:Int) > 0 by decide,if_true]
   by_cases h:i < 0
   ·simp only [h,if_true] <;> omega
   ·simp only [h,if_false] <;> omega
 ·cases hi with
  | none=>simp [sliceBounds,HT.sIx]
  | some i =>
   simp only [sliceBounds,HT.sIx,Option.getD_none,show (1:Int) > 0 by decide,if_true]
   by_cases h:i < 0
   ·simp only [h,if_true] <;> omega
   ·simp only [h,if_false] <;> omega
theorem slicePick_cut (its:List Value) (lo hi:Option Int):slicePick its.toArray lo hi none = ((its.drop (HT.sIx its.length 0 lo)).take (HT.sIx its.length its.length hi - HT.sIx its.length 0 lo)).toArray:=by
 obtain ⟨h1,h2,h3⟩:=slice_bounds lo hi its.toArray.size
 unfold slicePick
 rw [h1,h2,h3]
 simp only [sliceRange_one,pick_run,List.size_toArray] <;> rfl
noncomputable def rSlL (K:PySem.W.Frag):V->Option Int->Option Int->Hp->VK->Prop:=fun x lo hi H Q=>∃ a xs,x = .ref a/\SqL K H a xs/\∀ p,H p = none->Q (.ref p) (upd H p (.lst (cutV xs lo hi)))
theorem sl_list:SlR X (rSlL X.K):=by
 intro pins s σ H x v vl vu lo hi sl Q I rx hs pl pu h
 obtain ⟨a,xs,rfl,hx,q⟩:=h
 cases rx
 obtain ⟨its,r,ht,hz⟩:=I.list hx
 have hlen:=r.length
 refine ⟨"list",_,slot_list_getitem.lookup,ht.isList.typeIs,?_⟩
 refine wpAny_getItem_list_slice ht.isList hs pl pu .none (by simp) ?_ (by rw [List.size_toArray] <;> omega)
 rw [slicePick_cut,<-hlen]
 refine ⟨.ref s.heap.objs.size,_,I.laid (t':=s.toks) (o:=.lst (cutV xs lo hi)) (fun b ob q=>Heap.get?_push_of_some _ q) (Nat.le_refl _) ?_,rfl,q _ (I.hok.fresh (Nat.le_refl _))⟩
 exact ⟨Nat.le_trans (cutV_length xs lo hi) hz,_,0,(r.drop (HT.sIx xs.length 0 lo)).take (HT.sIx xs.length xs.length hi - HT.sIx xs.length 0 lo),Heap.get?_push_size _ rfl⟩
noncomputable def flatV:V->Bool
 | .non=>true
 | .bl _=>true
 | .int _=>true
 | .str _=>true
 | _=>false
noncomputable def eqV:V->V->Bool
 | .non,.non=>true
 | .bl a,.bl b=>a == b
 | .bl a,.int b=>(if a then 1 else 0) == b
 | .int a,.bl b=>a == (if b then 1 else 0)
 | .int a,.int b=>a == b
 | .str a,.str b=>a == b
 | _,_=>false
theorem eqAt_V {A:Around} {s:Shared} {y x:V} {u v:Value} (ry:RelV y u) (rx:RelV x v) (fy:flatV y = true) (fx:flatV x = true):SeqAt.EqAt A s u v (eqV y x):=by
 cases y with
 | non =>
  cases ry
  cases x with
  | non=>cases rx; exact SeqAt.EqAt.same _
  | bl b=>cases rx; exact SeqAt.EqAt.none_bool b
  | int b=>obtain ⟨t,rfl⟩:=rx; exact SeqAt.EqAt.none_int b t
  | str b=>obtain ⟨t,rfl⟩:=rx; exact SeqAt.EqAt.none_str b t
  | _=>exact absurd (show false = true from fx) Bool.false_ne_true
 | bl a =>
  cases ry
  cases x with
  | non=>cases rx; exact SeqAt.EqAt.bool_none a
  | bl b=>cases rx; exact SeqAt.EqAt.bool_bool a b
  | int b=>obtain ⟨t,rfl⟩:=rx; exact SeqAt.EqAt.bool_int a b t
  | str b=>obtain ⟨t,rfl⟩:=rx; exact SeqAt.EqAt.bool_str a b t
  | _=>exact absurd (show false = true from fx) Bool.false_ne_true
 | int a =>
  obtain ⟨t',rfl⟩:=ry
  cases x with
  | non=>cases rx; exact SeqAt.EqAt.int_none a t'
  | bl b=>cases rx; exact SeqAt.EqAt.int_bool a t' b
  | int b=>obtain ⟨t,rfl⟩:=rx; exact SeqAt.EqAt.int_int a t' b t
  | str b=>obtain ⟨t,rfl⟩:=rx; exact SeqAt.EqAt.int_str a t' b t
  | _=>exact absurd (show false = true from fx) Bool.false_ne_true
 | str a =>
  obtain ⟨t',rfl⟩:=ry
  cases x with
  | non=>cases rx; exact SeqAt.EqAt.str_none a t'
  | bl b=>cases rx; exact SeqAt.EqAt.str_bool a t' b
  | int b=>obtain ⟨t,rfl⟩:=rx; exact SeqAt.EqAt.str_int a t' b t
  | str b=>obtain ⟨t,rfl⟩:=rx; exact SeqAt.EqAt.str_str a t' b t
  | _=>exact absurd (show false = true from fx) Bool.false_ne_true
 | _=>exact absurd (show false = true from fy) Bool.false_ne_true
noncomputable def eqU (x:V) (u:Value):Bool:=match u with
 | .none=>eqV .non x
 | .bool b=>eqV (.bl b) x
 | .int i _=>eqV (.int i) x
 | .str z _=>eqV (.str z) x
 | _=>false
theorem eqU_of {x y:V} {u:Value} (r:RelV y u) (f:flatV y = true):eqU x u = eqV y x:=by
 cases y with
 | non=>cases r; rfl
 | bl b=>cases r; rfl
 | int i=>obtain ⟨t,rfl⟩:=r; rfl
 | str z=>obtain ⟨t,rfl⟩:=r; rfl
 | _=>exact absurd (show false = true from f) Bool.false_ne_true
theorem any_eqU {x:V}:∀ {xs:List V} {us:List Value},Vals xs us->xs.all flatV = true->us.any (eqU x) = xs.any fun y=>eqV y x
 | _,_,.nil,_=>rfl
 | y :: xs,u :: us,.cons r t,f=>by
  rw [List.all_cons,Bool.and_eq_true] at f
  rw [List.any_cons,List.any_cons,eqU_of r f.1,any_eqU t f.2]
theorem mem_eqAt {A:Around} {s:Shared} {x:V} {v:Value} (rx:RelV x v) (fx:flatV x = true):∀ {xs:List V} {us:List Value},Vals xs us->xs.all flatV = true->∀ u ∈ us,SeqAt.EqAt A s u v (eqU x u)
 | _,_,.nil,_=>fun u hu=>by cases hu
 | y :: xs,u :: us,.cons r t,f=>fun u' hu=>by
  rw [List.all_cons,Bool.and_eq_true] at f
  rcases List.mem_cons.mp hu with rfl | hu
  ·rw [eqU_of r f.1]; exact eqAt_V r rx f.1 fx
  ·exact mem_eqAt rx fx t f.2 u' hu
noncomputable def inV (x:V) (xs:List V):Bool:=xs.any fun y=>eqV y x
noncomputable def rIn (K:PySem.W.Frag) (neg:Bool):R2:=fun x y H Q=>∃ p xs,y = .ref p/\(SqL K H p xs\/SqT K H p xs)/\flatV x = true/\xs.all flatV = true/\Q (.bl (if neg then !inV x xs else inV x xs)) H
theorem op_in_seq:OpR X (compareOp .In) (rIn X.K false):=by
 intro pins s σ H x y v u Q I rx ry h
 obtain ⟨p,xs,rfl,hq,fx,fs,q⟩:=h
 cases ry
 rcases hq with hq | hq
 ·obtain ⟨its,r,pl,hz⟩:=I.list hq
  refine SeqAt.in_listAt (eqU x) pl.isList (fun w hw=>mem_eqAt rx fx r fs w (by simpa using hw)) ⟨.bl _,H,I,rfl,?_⟩
  rw [show its.toArray.any (eqU x) = its.any (eqU x) by simp,any_eqU r fs]
  exact q
 ·obtain ⟨its,r,pl,hz⟩:=I.tuple hq
  refine SeqAt.in_tupleAt (eqU x) pl (fun w hw=>mem_eqAt rx fx r fs w (by simpa using hw)) ⟨.bl _,H,I,rfl,?_⟩
  rw [show its.toArray.any (eqU x) = its.any (eqU x) by simp,any_eqU r fs]
  exact q
theorem op_notIn_seq:OpR X (compareOp .NotIn) (rIn X.K true):=by
 intro pins s σ H x y v u Q I rx ry h
 obtain ⟨p,xs,rfl,hq,fx,fs,q⟩:=h
 cases ry
 rcases hq with hq | hq
 ·obtain ⟨its,r,pl,hz⟩:=I.list hq
  refine SeqAt.notIn_listAt (eqU x) pl.isList (fun w hw=>mem_eqAt rx fx r fs w (by simpa using hw)) ⟨.bl _,H,I,rfl,?_⟩
  rw [show its.toArray.any (eqU x) = its.any (eqU x) by simp,any_eqU r fs]
  exact q
 ·obtain ⟨its,r,pl,hz⟩:=I.tuple hq
  refine SeqAt.notIn_tupleAt (eqU x) pl (fun w hw=>mem_eqAt rx fx r fs w (by simpa using hw)) ⟨.bl _,H,I,rfl,?_⟩
  rw [show its.toArray.any (eqU x) = its.any (eqU x) by simp,any_eqU r fs]
  exact q
theorem call_len_seq:CallR X (.builtin "len") (fun xs H Q=>∃ p ys,xs = [.ref p]/\(SqL X.K H p ys\/SqT X.K H p ys)/\Q (.int ys.length) H):=by
 intro pins s σ H xs us Q I r h
 obtain ⟨p,ys,rfl,hq,q⟩:=h
 obtain ⟨u,rfl,rx⟩:=vals1 r
 cases rx
 have hn:=line63
 rcases hq with hq | hq
 ·obtain ⟨its,r',pl,hz⟩:=I.list hq
  have hlen:=r'.length
  exact Calls.call_len_list pl.isList (by simp only [List.size_toArray] <;> omega) ⟨.int ys.length,H,I.tok _,⟨s.toks + 1,by rw [List.size_toArray,hlen]⟩,q⟩
 ·obtain ⟨its,r',pl,hz⟩:=I.tuple hq
  have hlen:=r'.length
  exact len_tuple pl (by simp only [List.size_toArray] <;> omega) ⟨.int ys.length,H,I.tok _,⟨s.toks + 1,by rw [List.size_toArray,hlen]⟩,q⟩
theorem call_len_str:CallR X (.builtin "len") (fun xs H Q=>∃ z,xs = [.str z]/\z.length<=sizeLine/\Q (.int z.length) H):=by
 intro pins s σ H xs us Q I r h
 obtain ⟨z,rfl,hz,q⟩:=h
 obtain ⟨u,rfl,t,rfl⟩:=vals1 r
 have hn:=line63
 exact len_str (by omega) ⟨.int z.length,H,I.tok _,⟨_,rfl⟩,q⟩
theorem call_list_of:CallR X (.type "list") (fun xs H Q=>∃ p ys,xs = [.ref p]/\(SqL X.K H p ys\/SqT X.K H p ys)/\∀ l,H l = none->Q (.ref l) (upd H l (.lst ys))):=by
 intro pins s σ H xs us Q I r h
 obtain ⟨p,ys,rfl,hq,q⟩:=h
 obtain ⟨u,rfl,rx⟩:=vals1 r
 cases rx
 have fin:∀ (its:List Value),Vals ys its->ys.length<=sizeLine->∀ (h':Heap) (c':Nat),(∀ b o',s.heap.get? b = some o'->h'.get? b = some o') ->
   h'.get? s.heap.objs.size = some { cls:=.type "list",dict:=none,data:=.seq its.toArray c',slots:=#[] }->EP X pins σ Q (.ref s.heap.objs.size) { s with heap:=h' }:=fun its r' hz h' c' kp e =>
  ⟨.ref s.heap.objs.size,_,I.laid (t':=s.toks) kp (Nat.le_refl _) (show ObjOk X.prog X.w _ h' _ (.lst ys) from ⟨hz,its,c',r',e⟩),rfl,q _ (I.hok.fresh (Nat.le_refl _))⟩
 rcases hq with hq | hq
 ·obtain ⟨its,r',pl,hz⟩:=I.list hq
  have hlen:=r'.length
  obtain ⟨o,ho,hc,n,hd⟩:=pl.isList
  exact call_list_seq p (.inl rfl) ho hc hd (fun h' c' kp e=>fin its r' hz h' c' kp e) (by simp only [List.size_toArray] <;> omega)
 ·obtain ⟨its,r',pl,hz⟩:=I.tuple hq
  have hlen:=r'.length
  obtain ⟨o,ho,hc,n,hd⟩:=pl
  exact call_list_seq p (.inr rfl) ho hc hd (fun h' c' kp e=>fin its r' hz h' c' kp e) (by simp only [List.size_toArray] <;> omega)
noncomputable def tyV (K:PySem.W.Frag) (T:String) (x:V) (H:Hp):Prop:=match x with
 | .str _=>T = "str"
 | .int _=>T = "int"
 | .ref p=>(T = "list"/\∃ xs,SqL K H p xs)\/(T = "tuple"/\∃ o,K.lookup p = some o/\o.cls = .type "tuple"/\o.dict = none) \/
   (T = "dict"/\((∃ kvs,H p = some (.dK kvs))\/∃ kvs,H p = some (.dT kvs)))\/(T = "set"/\∃ S n,H p = some (.set S n))
 | _=>False
theorem tyV_is {pins:List (Addr × Obj)} {σ:St} {H:Hp} {s:Shared} {T:String} {x:V} {v:Value} (I:Inv X pins σ H s) (r:RelV x v) (ty:tyV X.K T x H) :
  s.TypeIs v T/\∀ a,v = .ref a->∃ ob,s.heap.get? a = some ob/\ob.dict = none:=by
 cases x with
 | str z =>
  obtain ⟨t,rfl⟩:=r
  cases (show T = "str" from ty)
  exact ⟨typeIs_str s z t,fun _ e=>nomatch e⟩
 | int i =>
  obtain ⟨t,rfl⟩:=r
  cases (show T = "int" from ty)
  exact ⟨typeIs_int s i t,fun _ e=>nomatch e⟩
 | ref p =>
  cases r
  rcases ty with ⟨rfl,xs,hq⟩ | ⟨rfl,o,hk,hc,hd⟩ | ⟨rfl,hk⟩ | ⟨rfl,S,n,hk⟩
  ·obtain ⟨its,_,pl,_⟩:=I.list hq
   refine ⟨pl.isList.typeIs,fun a e=>?_⟩
   cases e
   obtain ⟨o,n,e,c,hd,_⟩:=pl
   exact ⟨o,e,hd⟩
  ·refine ⟨⟨o,I.kIn p o hk,hc⟩,fun a e=>?_⟩
   cases e
   exact ⟨o,I.kIn _ o hk,hd⟩
  ·have z:∃ o,s.heap.get? p = some o/\o.ExactDict:=by
    rcases hk with ⟨kvs,hk⟩ | ⟨kvs,hk⟩
    ·obtain ⟨_,_,_,_,o,_,_,e,ex,_⟩:=I.hok p _ hk
     exact ⟨o,e,ex⟩
    ·obtain ⟨_,_,_,_,o,_,_,e,ex,_⟩:=I.hok p _ hk
     exact ⟨o,e,ex⟩
   obtain ⟨o,e,ex⟩:=z
   refine ⟨⟨o,e,ex.1⟩,fun a e2=>?_⟩
   cases e2
   exact ⟨o,e,ex.2.1⟩
  ·obtain ⟨o,_,_,_,e,ex,_⟩:=I.hok p _ hk
   refine ⟨⟨o,e,ex.1⟩,fun a e2=>?_⟩
   cases e2
   exact ⟨o,e,ex.2.1⟩
 | _=>exact False.elim ty
noncomputable def tBM (K:PySem.W.Frag) (T:String) (r:V->List V->Hp->VK->Prop) (to:TE) (t:TA):TE:=fun σ H Q=>to σ H fun x H1=>tyV K T x H1/\t σ H1 fun xs H2=>r x xs H2 Q
variable {o e:Expr} {es:List Expr} {to:TE} {t:TA} {name:Str} {apos cpos:Pos} {T id:String} {r:V->List V->Hp->VK->Prop}
theorem pe_bm (pa:PlainAttrs T) (slot:Slot T name id) (hty:typeOf (.builtin id) = pure (.type "method_descriptor")) (hm:MtR X id r) (ho:PE X o to) (ha:PA X (e :: es) t)
  (hbase:attributeBase o name X.env (eval o X.env) = eval o X.env:=by rfl)
  (hfew:((backTo cpos (starEach (e :: es) X.env)).all (fun x=>!x.1) && (backToKw cpos (keywordEach [] X.env)).all (fun x=>x.1.isSome)
   && decide ((e :: es).length + ([]:List Keyword).length + (if ([]:List Keyword).isEmpty then 0 else 1) < 30)) = true:=by rfl)
  (hline:(apos.endLine == cpos.line) = true:=by rfl) (hs:starEach (e :: es) X.env = (false,eval e X.env) :: starEach es X.env:=by rfl) (hplain:(backTo cpos (starEach es X.env)).any (·.1) = false:=by rfl) :
  PE X (.Call (.Attribute o name apos) (e :: es) [] cpos) (tBM X.K T r to t):=by
 intro pins s σ H Q I h
 refine wpAny_Call_method_late hbase hfew hline rfl (thn (ho pins s σ H _ I h) fun v s1 ⟨x,H1,I1,r1,ty,q1⟩=>?_)
 obtain ⟨h1,h2⟩:=tyV_is I1 r1 ty
 refine ⟨T,id,pa,slot,hty,h1,h2,?_⟩
 have hA:=ha cpos pins s1 σ H1 _ I1 q1
 rw [hs] at hA ⊢
 refine Calls.callWith_builtin (by show (false || (backTo cpos (starEach es X.env)).any (·.1)) = false; rw [hplain] <;> rfl) (Calls.evalArgs_plain ?_)
 exact thn hA fun us s2 ⟨vs,H2,I2,r2,q2⟩=>hm pins s2 σ H2 x vs v us Q I2 r1 r2 q2
end
end L2
namespace L2
open PySem PySem.Spec PyProof.Rows
noncomputable def MtM (X:Cx) (id:String) (r:V->List V->Hp->VK->Prop):Prop :=
 ∀ (pins:List (Addr × Obj)) (s:Shared) (σ:St) (H:Hp) (x:V) (xs:List V) (v:Value) (us:List Value) (Q:VK),Inv X pins σ H s->RelV x v->Vals xs us->r x xs H Q ->
  wpAny (model X.prog X.w) X.A (call (.builtin id) (v :: us)) (EP X pins σ Q) X.xe s
theorem Vals.one:∀ {x:V} {us:List Value},Vals [x] us->∃ u,us = [u]/\RelV x u
 | _,_,.cons r .nil=>⟨_,rfl,r⟩
theorem Vals.two:∀ {x y:V} {us:List Value},Vals [x,y] us->∃ u v,us = [u,v]/\RelV x u/\RelV y v
 | _,_,_,.cons r (.cons q .nil)=>⟨_,_,rfl,r,q⟩
theorem Vals.eraseIdx:∀ {xs:List V} {us:List Value} (i:Nat),Vals xs us->Vals (xs.eraseIdx i) (us.eraseIdx i)
 | _,_,_,.nil=>.nil
 | _,_,0,.cons _ t=>t
 | _,_,i + 1,.cons r t=>.cons r (Vals.eraseIdx i t)
theorem len_erase {α:Type}:∀ (l:List α) (i:Nat),(l.eraseIdx i).length<=l.length
 | [],_=>Nat.le_refl _
 | _ :: _,0=>Nat.le_succ _
 | _ :: r,i + 1=>Nat.succ_le_succ (len_erase r i)
section
variable {X:Cx} {pins:List (Addr × Obj)} {σ:St} {H:Hp} {s:Shared} {l b:Addr} {xs ys zs:List V}
theorem Inv.lset {its its':List Value} {n:Nat} {f:Array Value->Array Value} {t':Nat} (I:Inv X pins σ H s) (hH:H l = some (.lst xs))
  (e:s.heap.get? l = some { cls:=.type "list",data:=.seq its.toArray n }) (hf:f its.toArray = its'.toArray) (hv:Vals ys its') (hz:ys.length<=sizeLine) :
  Inv X pins σ (upd H l (.lst ys)) { s with heap:=s.heap.update l (Obj.mapSeq f),toks:=t' }:=by
 have q:=PySem.IsL.update e f
 rw [hf] at q
 refine I.write (x:=l) (e:=l) (by rw [hH]; exact trivial) (.inl rfl) (fun b' u hb hu=>(Heap.get?_update_other s.heap (Obj.mapSeq f) (Ne.symm hb)).trans hu) ⟨_,q⟩ ?_
 exact ⟨hz,its',_,hv,q⟩
theorem Inv.lnew {its:List Value} {t':Nat} (I:Inv X pins σ H s) (hv:Vals ys its) (hz:ys.length<=sizeLine) :
  Inv X pins σ (upd H s.heap.objs.size (.lst ys)) { s with heap:=s.heap.push { cls:=.type "list",data:=.seq its.toArray },toks:=t' } :=
 I.laid (fun _ _ q=>Heap.get?_push_of_some _ q) (Nat.le_refl _) ⟨hz,its,0,hv,Heap.get?_push_size _ rfl⟩
theorem Inv.fresh (I:Inv X pins σ H s):H s.heap.objs.size = none:=I.hok.fresh (Nat.le_refl _)
theorem Inv.lstM (I:Inv X pins σ H s) (hH:H l = some (.lst xs)):xs.length<=sizeLine/\∃ (its:List Value) (n:Nat),Vals xs its/\xs.length = its.length/\s.heap.get? l = some { cls:=.type "list",data:=.seq its.toArray n }:=by
 obtain ⟨z,its,n,r,e⟩:=I.hok l _ hH
 exact ⟨z,its,n,r,r.length,e⟩
end
section
variable {X:Cx}
noncomputable def rAppend:V->List V->Hp->VK->Prop:=fun x vs H Q=>∃ l xs y,x = .ref l/\vs = [y]/\H l = some (.lst xs)/\xs.length < sizeLine/\Q .non (upd H l (.lst (xs ++ [y])))
theorem mt_append:MtM X "list.append" rAppend:=by
 intro pins s σ H x vs v us Q I rx rv h
 obtain ⟨l,xs,y,rfl,rfl,hH,hz,q⟩:=h
 cases rx
 obtain ⟨u,rfl,ru⟩:=rv.one
 obtain ⟨z,its,n,r,hl,e⟩:=I.lstM hH
 refine call_meets F.slot_list_append ⟨_,e,rfl⟩ F.entry_list_append (F.args_list_append_2 _ _) (PySem.list_append l its.toArray n u (by rw [List.size_toArray]; omega)) ⟨e,?_⟩
 refine ⟨.non,_,I.lset (its':=its ++ [u]) hH e (by simp) (r.append (.cons ru .nil)) ?_,rfl,q⟩
 rw [List.length_append,List.length_singleton]
 omega
noncomputable def rPopAt:V->List V->Hp->VK->Prop:=fun x vs H Q=>∃ l xs i k y,x = .ref l/\vs = [.int i]/\H l = some (.lst xs)/\-(2 ^ 63)<=i/\i < 2 ^ 63/\seqIndex? i xs.length = some k/\xs[k]? = some y/\Q y (upd H l (.lst (xs.eraseIdx k)))
theorem mt_popAt:MtM X "list.pop" rPopAt:=by
 intro pins s σ H x vs v us Q I rx rv h
 obtain ⟨l,xs,i,k,y,rfl,rfl,hH,h1,h2,hk,hy,q⟩:=h
 cases rx
 obtain ⟨u,rfl,ru⟩:=rv.one
 obtain ⟨t,rfl⟩:=ru
 obtain ⟨z,its,n,r,hl,e⟩:=I.lstM hH
 obtain ⟨w,hw,rw'⟩:=r.get hy
 refine call_meets F.slot_list_pop ⟨_,e,rfl⟩ F.entry_list_pop (F.args_list_pop_2 _ _)
  (MeetsSeq.list_pop_at l its.toArray n i t k w (fitsIndex_both h1 h2) (by rw [List.size_toArray,<-hl]; exact hk) (by rw [<-Array.getElem?_toList]; exact hw) (by rw [List.size_toArray]; omega)) ⟨e,?_⟩
 refine ⟨y,_,I.lset (its':=its.eraseIdx k) hH e ?_ (r.eraseIdx k) ?_,rw',q⟩
 ·show its.toArray.eraseIdxIfInBounds k = (its.eraseIdx k).toArray
  rw [List.eraseIdxIfInBounds_toArray]
 ·have:=len_erase xs k
  omega
noncomputable def rCat:R2:=fun x y H Q=>∃ l b xs zs,x = .ref l/\y = .ref b/\H l = some (.lst xs)/\H b = some (.lst zs)/\xs.length + zs.length<=sizeLine/\∀ p,H p = none->Q (.ref p) (upd H p (.lst (xs ++ zs)))
theorem op_cat:OpR X (binaryOp .Add) rCat:=by
 intro pins s σ H x y v u Q I rx ry h
 obtain ⟨l,b,xs,zs,rfl,rfl,hH,hB,hz,q⟩:=h
 cases rx
 cases ry
 obtain ⟨z,its,n,r,hl,e⟩:=I.lstM hH
 obtain ⟨z2,its2,n2,r2,hl2,e2⟩:=I.lstM hB
 refine PySem.P.add_list e e2 ?_ (by rw [List.size_toArray,List.size_toArray]; omega)
 have ea:its.toArray ++ its2.toArray = (its ++ its2).toArray:=by simp
 rw [ea]
 exact ⟨.ref _,_,I.lnew (t':=s.toks) (r.append r2) (by rw [List.length_append]; omega),rfl,q _ I.fresh⟩
end
end L2
namespace L2
open PySem PySem.Spec PyProof.Rows
section
variable {κ:Type} [DecidableEq κ]
noncomputable def valV (kvs:List (κ × V)) (k:κ):Option V:=(kvs.find? fun kv=>decide (kv.1 = k)).map (·.2)
noncomputable def putK (kvs:List (κ × V)) (k:κ) (v:V):List (κ × V) :=
 if (kvs.any fun kv=>decide (kv.1 = k)) = true then kvs.map (fun kv=>if kv.1 = k then (kv.1,v) else kv) else kvs ++ [(k,v)]
theorem valV_pos {p:κ × V} {r:List (κ × V)} {k:κ} (e:p.1 = k):valV (p :: r) k = some p.2:=by simp [valV,List.find?_cons,e]
theorem valV_neg {p:κ × V} {r:List (κ × V)} {k:κ} (e:¬ p.1 = k):valV (p :: r) k = valV r k:=by simp [valV,List.find?_cons,e]
theorem valV_any (k:κ):∀ kvs:List (κ × V),(kvs.any fun kv=>decide (kv.1 = k)) = (valV kvs k).isSome
 | []=>rfl
 | p :: r=>by
  rw [List.any_cons]
  by_cases e:p.1 = k
  ·simp only [valV_pos e,decide_eq_true e,Bool.true_or,Option.isSome_some]
  ·rw [valV_neg e,decide_eq_false e,Bool.false_or]; exact valV_any k r
theorem valV_map (k j:κ) (y:V):∀ kvs:List (κ × V),valV (kvs.map fun kv=>if kv.1 = k then (kv.1,y) else kv) j = (valV kvs j).map fun x=>if j = k then y else x
 | []=>rfl
 | p :: r=>by
  have ih:=valV_map k j y r
  rw [List.map_cons]
  by_cases h:p.1 = k
  ·rw [if_pos h]
   by_cases e:p.1 = j
   ·rw [valV_pos (p:=(p.1,y)) e,valV_pos e,Option.map_some,if_pos (e.symm.trans h)]
   ·rw [valV_neg (p:=(p.1,y)) e,valV_neg e,ih]
  ·rw [if_neg h]
   by_cases e:p.1 = j
   ·rw [valV_pos (p:=p) e,valV_pos e,Option.map_some,if_neg (fun z=>h (e.trans z))]
   ·rw [valV_neg (p:=p) e,valV_neg e,ih]
theorem valV_snoc (k j:κ) (y:V):∀ kvs:List (κ × V),valV kvs k = none->valV (kvs ++ [(k,y)]) j = if j = k then some y else valV kvs j
 | [],_=>by
  by_cases e:k = j
  ·rw [if_pos e.symm]; exact valV_pos (p:=(k,y)) e
  ·rw [if_neg (fun z=>e z.symm)]; exact valV_neg (p:=(k,y)) e
 | p :: r,hn=>by
  rw [List.cons_append]
  have hk:¬ p.1 = k:=fun z=>by rw [valV_pos z] at hn; cases hn
  rw [valV_neg hk] at hn
  have ih:=valV_snoc k j y r hn
  by_cases e:p.1 = j
  ·rw [valV_pos e,valV_pos e,if_neg (fun z=>hk (e.trans z))]
  ·rw [valV_neg e,valV_neg e,ih]
theorem valV_put (kvs:List (κ × V)) (k j:κ) (y:V):valV (putK kvs k y) j = if j = k then some y else valV kvs j:=by
 unfold putK
 by_cases a:(kvs.any fun kv=>decide (kv.1 = k)) = true
 ·rw [if_pos a,valV_map]
  rw [valV_any] at a
  by_cases e:j = k
  ·obtain ⟨x,hx⟩:=Option.isSome_iff_exists.mp a
   rw [if_pos e,e,hx,Option.map_some,if_pos rfl]
  ·rw [if_neg e]
   cases valV kvs j with
   | none=>rfl
   | some x=>rw [Option.map_some,if_neg e]
 ·rw [if_neg a]
  refine valV_snoc k j y kvs ?_
  rw [valV_any] at a
  cases q:valV kvs k with
  | none=>rfl
  | some x=>rw [q] at a; exact (a rfl).elim
theorem length_putK (kvs:List (κ × V)) (k:κ) (v:V):(putK kvs k v).length<=kvs.length + 1:=by
 unfold putK
 split
 ·rw [List.length_map]; omega
 ·rw [List.length_append,List.length_cons,List.length_nil]; omega
theorem putK_new {kvs:List (κ × V)} {k:κ} (v:V) (h:valV kvs k = none):putK kvs k v = kvs ++ [(k,v)]:=by
 unfold putK
 rw [valV_any,h]
 exact if_neg (by decide)
theorem RelO.isSome_eq {o:Option V} {u:Option Value} (r:RelO o u):o.isSome = u.isSome:=by
 cases o with
 | none=>cases u with
  | none=>rfl
  | some _=>exact (show False from r).elim
 | some _=>cases u with
  | none=>exact (show False from r).elim
  | some _=>rfl
theorem RelO.getD {o:Option V} {u:Option Value} {d:V} {d':Value} (r:RelO o u) (rd:RelV d d'):RelV (o.getD d) (u.getD d'):=by
 cases o with
 | none=>cases u with
  | none=>exact rd
  | some _=>exact (show False from r).elim
 | some _=>cases u with
  | none=>exact (show False from r).elim
  | some _=>exact r
theorem KV.val {kvs:List (κ × V)} {vs:List (κ × Value)} (r:KV kvs vs) (k:κ):RelO (valV kvs k) (valueAt vs k):=by
 unfold KV at r
 induction r with
 | nil=>exact True.intro
 | @cons p q ps qs h t ih =>
  obtain ⟨h1,h2⟩:=h
  by_cases e:p.1 = k
  ·have e':q.1 = k:=h1.symm.trans e
   have b:valueAt (q :: qs) k = some q.2:=by simp [valueAt,List.find?_cons,e']
   rw [valV_pos e,b]; exact h2
  ·have e':¬ q.1 = k:=fun z=>e (h1.trans z)
   have b:valueAt (q :: qs) k = valueAt qs k:=by simp [valueAt,List.find?_cons,e']
   rw [valV_neg e,b]; exact ih
theorem KV.any {kvs:List (κ × V)} {vs:List (κ × Value)} (r:KV kvs vs) (k:κ):(kvs.any fun kv=>decide (kv.1 = k)) = vs.any fun kv=>decide (kv.1 = k):=by
 unfold KV at r
 induction r with
 | nil=>rfl
 | cons h t ih=>rw [List.any_cons,List.any_cons,ih,h.1]
theorem KV.repl {kvs:List (κ × V)} {vs:List (κ × Value)} (r:KV kvs vs) (k:κ) {y:V} {u:Value} (ry:RelV y u) :
  KV (kvs.map fun kv=>if kv.1 = k then (kv.1,y) else kv) (vs.map fun kv=>if kv.1 = k then (kv.1,u) else kv):=by
 unfold KV at r ⊢
 induction r with
 | nil=>exact .nil
 | @cons p q ps qs h t ih =>
  rw [List.map_cons,List.map_cons]
  refine .cons ?_ ih
  obtain ⟨h1,h2⟩:=h
  by_cases e:p.1 = k
  ·rw [if_pos e,if_pos (h1.symm.trans e)]; exact ⟨h1,ry⟩
  ·rw [if_neg e,if_neg (fun z=>e (h1.trans z))]; exact ⟨h1,h2⟩
theorem KV.put {kvs:List (κ × V)} {vs:List (κ × Value)} (r:KV kvs vs) (k:κ) {y:V} {u:Value} (ry:RelV y u):KV (putK kvs k y) (stored vs k u):=by
 unfold putK stored
 rw [r.any k]
 by_cases e:(vs.any fun kv=>decide (kv.1 = k)) = true
 ·rw [if_pos e,if_pos e]; exact r.repl k ry
 ·rw [if_neg e,if_neg e]; exact Paired.snoc r ⟨rfl,ry⟩
theorem KV.length {kvs:List (κ × V)} {vs:List (κ × Value)} (r:KV kvs vs):kvs.length = vs.length:=Paired.length r
end
theorem kV_is {P:Program} {w:World} {k:Key} {u:Value} (r:RelV (kV k) u):(mixKind P w).is k u = true:=by
 cases k with
 | inl i=>obtain ⟨t,e⟩:=(show ∃ t,u = Value.int i t from r); subst e; exact mixKind_int P w i t
 | inr x=>obtain ⟨t,e⟩:=(show ∃ t,u = Value.str x t from r); subst e; exact mixKind_str P w x t
theorem items_are {P:Program} {w:World}:∀ {ks:List Key} {us:List Value},Vals (ks.map kV) us->ItemsAre (mixKind P w) ks us
 | [],_,r=>by rw [List.map_nil] at r; cases r; exact .nil
 | k :: ks,_,r=>by
  rw [List.map_cons] at r
  cases r with
  | cons h t=>exact .cons (kV_is h) (items_are t)
noncomputable abbrev KT (H:Hp):List (List Key × V)->List (List Key × Addr × Value)->Prop:=Paired fun p q=>p.1 = q.1/\H q.2.1 = some (.tup (p.1.map kV))/\RelV p.2 q.2.2
theorem KT.val {H:Hp} {kvs:List (List Key × V)} {xs:List (List Key × Addr × Value)} (r:KT H kvs xs) (k:List Key):RelO (valV kvs k) ((atKey xs k).map (·.2)):=by
 induction r with
 | nil=>exact True.intro
 | @cons p q ps qs h t ih =>
  obtain ⟨h1,_,h2⟩:=h
  by_cases e:p.1 = k
  ·have e':q.1 = k:=h1.symm.trans e
   have b:atKey (q :: qs) k = some q.2:=by simp [atKey,List.find?_cons,e']
   rw [valV_pos e,b]; exact h2
  ·have e':¬ q.1 = k:=fun z=>e (h1.trans z)
   have b:atKey (q :: qs) k = atKey qs k:=by simp [atKey,List.find?_cons,e']
   rw [valV_neg e,b]; exact ih
section
variable {P:Program} {w:World} {H:Hp} {h:Heap} {a:Addr}
theorem rd_of {u:HO} (ok:HOk P w H h) (e:Rd H a u):ObjOk P w H h a u:=e.ok ok
theorem dk_rd {kvs:List (Key × V)} (ok:HOk P w H h) (e:Rd H a (.dK kvs)):kvs.length<=sizeLine/\(a == sysModules) = false/\∃ vs,KV kvs vs/\h.DictOf (mixKind P w) a vs :=
 show ObjOk P w H h a (.dK kvs) from rd_of ok e
theorem dk_of {kvs:List (Key × V)} (ok:HOk P w H h) (e:H a = some (.dK kvs)):kvs.length<=sizeLine/\(a == sysModules) = false/\∃ vs,KV kvs vs/\h.DictOf (mixKind P w) a vs:=dk_rd ok (.inl e)
theorem key_of {ks:List Key} (ok:HOk P w H h) (e:H a = some (.tup (ks.map kV))):(tupleKind (mixKind P w)).is h ks a:=by
 obtain ⟨_,its,r,o,h1,h2,n,h3⟩:=(show ObjOk P w H h a (.tup (ks.map kV)) from ok a _ e)
 exact ⟨o,its.toArray,n,h1,h2,h3,by simpa using items_are r⟩
theorem dt_rd {kvs:List (List Key × V)} (ok:HOk P w H h) (e:Rd H a (.dT kvs)):kvs.length<=sizeLine/\(a == sysModules) = false /\
  ∃ xs,KT H kvs xs/\h.DictOfH (tupleKind (mixKind P w)) a xs:=by
 obtain ⟨z,y,xs,r,o,es,ep,h1,h2,h3,h4,h5⟩:=(show ObjOk P w H h a (.dT kvs) from rd_of ok e)
 refine ⟨z,y,xs,r,o,es,ep,h1,h2,h3,h4,fun x hx=>?_,h5⟩
 have all:∀ {l:List (List Key × V)} {m:List (List Key × Addr × Value)},KT H l m->∀ x ∈ m,(tupleKind (mixKind P w)).is h x.1 x.2.1:=by
  intro l m q
  induction q with
  | nil=>intro x hx; exact nomatch hx
  | @cons p q ps qs hq t ih =>
   intro x hx
   rcases List.mem_cons.mp hx with e | hx
   ·subst e
    exact key_of ok (by rw [<-hq.1]; exact hq.2.1)
   ·exact ih x hx
 exact all r x hx
end
noncomputable def DGet (H:Hp) (a:Addr) (y:V) (r:Option V):Prop :=
 (∃ kvs k,Rd H a (.dK kvs)/\y = kV k/\r = valV kvs k)\/∃ kvs k b,Rd H a (.dT kvs)/\y = .ref b/\H b = some (.tup (k.map kV))/\r = valV kvs k
theorem DGet.k {H:Hp} {a:Addr} {kvs:List (Key × V)} {k:Key} (e:H a = some (.dK kvs)):DGet H a (kV k) (valV kvs k):=.inl ⟨kvs,k,.inl e,rfl,rfl⟩
section
variable {X:Cx} {pins:List (Addr × Obj)} {σ:St} {H:Hp} {s:Shared} {a:Addr} {y v:V} {u r:Value} {o:Option V} {A:Around} {E:Value->Shared->Prop}
theorem Inv.big (I:Inv X pins σ H s):sysModules < s.heap.objs.size:=by
 have h:mainGlobals < s.heap.objs.size:=(I.mod.glob.keeps I.bk).lt
 exact Nat.lt_trans (by decide) h
theorem d_getItem {Q:Value->Shared->Prop} (hu:A.units + 1 < cLine) (I:Inv X pins σ H s) (g:DGet H a y (some v)) (ry:RelV y u) (h:∀ w' s',Inv X pins σ H s'->RelV v w'->Q w' s') :
  wpAny (model X.prog X.w) A (getItem (.ref a) u) Q E s:=by
 rcases g with ⟨kvs,k,e,ey,l⟩ | ⟨kvs,k,b,e,ey,eb,l⟩
 ·subst ey
  obtain ⟨z,hd,vs,rel,dd⟩:=dk_rd I.hok e
  obtain ⟨w',hw,rw'⟩:=RelO.some_of (v:=v) (o:=valueAt vs k) (by rw [l]; exact rel.val k)
  exact wpAny_getItem_of (kV_is ry) dd.mapOf hw (h w' _ (I.tok _) rw')
 ·subst ey
  cases (show u = Value.ref b from ry)
  obtain ⟨z,hd,xs,rel,dd⟩:=dt_rd I.hok e
  obtain ⟨w',hw,rw'⟩:=RelO.some_of (v:=v) (o:=(atKey xs k).map (·.2)) (by rw [l]; exact rel.val k)
  obtain ⟨p,hp,hp2⟩:=Option.map_eq_some_iff.mp hw
  refine wpAny_getItem_heap (tupleKind_room_in1 hu) (key_of I.hok eb) dd hp ?_
  rw [hp2]
  exact h w' _ (I.tok _) rw'
theorem d_notIn {Q:Value->Shared->Prop} (hu:A.units + 1 < cLine) (I:Inv X pins σ H s) (g:DGet H a y o) (ry:RelV y u) (h:∀ s',Inv X pins σ H s'->Q (.bool (!o.isSome)) s') :
  wpAny (model X.prog X.w) A (compareOp .NotIn u (.ref a)) Q E s:=by
 rcases g with ⟨kvs,k,e,ey,l⟩ | ⟨kvs,k,b,e,ey,eb,l⟩
 ·subst ey
  obtain ⟨z,hd,vs,rel,dd⟩:=dk_rd I.hok e
  refine wpAny_notIn_of (kV_is ry) hd dd.mapOf ?_
  rw [<-(rel.val k).isSome_eq,<-l]
  exact h _ (I.tok _)
 ·subst ey
  cases (show u = Value.ref b from ry)
  obtain ⟨z,hd,xs,rel,dd⟩:=dt_rd I.hok e
  refine wpAny_notIn_heap (tupleKind_room_in1 hu) (key_of I.hok eb) hd dd ?_
  have q:=(rel.val k).isSome_eq
  rw [Option.isSome_map] at q
  rw [<-q,<-l]
  exact h _ (I.tok _)
theorem d_write {h':Heap} {t':Nat} {ob:HO} (I:Inv X pins σ H s) (mu:Mut (H a)) (hs:Heap.SameBut a s.heap h') (he:∃ q,h'.get? a = some q) (new:ObjOk X.prog X.w (upd H a ob) h' a ob) :
  Inv X pins σ (upd H a ob) { s with heap:=h',toks:=t' } :=
 I.write (x:=a) (e:=a) mu (.inl rfl) (fun b q hb z=>(hs.2 b hb).trans z) he new
theorem dk_new {P:Program} {w:World} {H':Hp} {h':Heap} {kvs:List (Key × V)} {vs:List (Key × Value)} (z:kvs.length<=sizeLine) (hd:(a == sysModules) = false) (rel:KV kvs vs) (dd:h'.DictOf (mixKind P w) a vs) :
  ObjOk P w H' h' a (.dK kvs):=⟨z,hd,vs,rel,dd⟩
end
noncomputable def NoSl (i:Expr):Prop:=∀ ov iv,subscripted i false ov iv = operate [ov,iv] (getItem ov iv)
theorem subD_of {prog:Program} {w:World} {A:Around} {E:Value->Shared->Prop} {s:Shared} {env:Env} {value slice:Expr} {pos:Pos} {T id:String} {Q:Value->Shared->Prop}
  (hl:typeLookup (.type T) "__getitem__" = pure (some (.builtin id))) (hs:NoSl slice)
  (h:wpAny (model prog w) A (eval value env) (fun o s₁=>wpAny (model prog w) A (eval slice env) (fun i s₂=>s₂.TypeIs o T/\wpAny (model prog w) A (getItem o i) Q E s₂) E s₁) E s) :
  wpAny (model prog w) A (eval (.Subscript value slice pos) env) Q E s:=by
 refine Subscript_ (wpAny_mono h (fun o s₁ h₁=>wpAny_mono h₁ (fun i s₂ h₂=>?_) fun _ _ x=>x) fun _ _ x=>x)
 obtain ⟨hT,h₂⟩:=h₂
 unfold subscriptTail
 refine wpAny_bind ?_
 rw [getitemInPython_of_ne hT.not_modules]
 refine wpAny_bind (wpAny_specialOf hT hl ?_)
 have fin:wpAny (model prog w) A (subscripted slice false o i) (fun r s₃=>wpAny (model prog w) A (letTemporaryGo value o r >>= fun _=>pure r) Q E s₃) E s₂:=by
  rw [hs o i]
  exact wpAny_operating (wpAny_mono h₂ (fun r s₃ h₃=>wpAny_bind (wpAny_letTemporaryGo (wpAny_pure h₃))) fun _ _ x=>x)
 first
  | exact wpAny_pure (wpAny_bind fin)
  | exact wpAny_bind (wpAny_pure (wpAny_bind fin))
  | exact wpAny_bind fin
theorem dict_typeIs {X:Cx} {pins:List (Addr × Obj)} {σ:St} {H:Hp} {s:Shared} {a:Addr} {y:V} {o:Option V} (I:Inv X pins σ H s) (g:DGet H a y o):s.TypeIs (.ref a) "dict":=by
 rcases g with ⟨kvs,k,e,_,_⟩ | ⟨kvs,k,b,e,_,_,_⟩
 ·obtain ⟨_,_,vs,_,dd⟩:=dk_rd I.hok e
  exact dd.typeIs
 ·obtain ⟨_,_,xs,_,dd⟩:=dt_rd I.hok e
  exact dd.typeIs
noncomputable def tDGet (td ty:TE):TE:=fun σ H Q=>td σ H fun x H1=>ty σ H1 fun y H2=>∃ a v,x = .ref a/\DGet H2 a y (some v)/\Q v H2
noncomputable def tDNotIn (ty td:TE):TE:=fun σ H Q=>ty σ H fun y H1=>td σ H1 fun x H2=>∃ a o,x = .ref a/\DGet H2 a y o/\Q (.bl (!o.isSome)) H2
section
variable {X:Cx} {o i e value:Expr} {pos pos' tpos:Pos} {td ty tv:TE}
theorem pe_dget (hu:X.A.units + 1 < cLine) (ho:PE X o td) (hi:PE X i ty) (hs:NoSl i):PE X (.Subscript o i pos) (tDGet td ty):=by
 intro pins s σ H Q I h
 refine subD_of PySem.F.slot_dict_getitem.lookup hs (thn (ho pins s σ H _ I h) fun u s1 ⟨x,H1,I1,rx,q1⟩=>thn (hi pins s1 σ H1 _ I1 q1) fun iv s2 ⟨y,H2,I2,ry,a,v,ex,g,q2⟩=>?_)
 subst ex
 obtain rfl:u = Value.ref a:=rx
 exact ⟨dict_typeIs I2 g,d_getItem hu I2 g ry fun w' s3 I3 rw'=>⟨v,H2,I3,rw',q2⟩⟩
theorem pc_dnotin (hu:X.A.units + 1 < cLine) (hi:PE X i ty) (ho:PE X o td):PC X .NotIn i o (tDNotIn ty td):=by
 intro pins s σ H Q I h
 refine thn (hi pins s σ H _ I h) fun iv s1 ⟨y,H1,I1,ry,q1⟩=>thn (ho pins s1 σ H1 _ I1 q1) fun u s2 ⟨x,H2,I2,rx,a,ov,ex,g,q2⟩=>?_
 subst ex
 obtain rfl:u = Value.ref a:=rx
 exact d_notIn hu I2 g ry fun s3 I3=>⟨.bl (!ov.isSome),H2,I3,rfl,q2⟩
end
theorem dk_empty {P:Program} {w:World} {H:Hp} (h:Heap) (hb:sysModules < h.objs.size):ObjOk P w H (h.push { cls:=.type "dict",data:=.dict #[] }) h.objs.size (.dK []) :=
 ⟨Nat.zero_le _,beq_eq_false_iff_ne.mpr (Ne.symm (Nat.ne_of_lt hb)),[],.nil,Heap.DictOf.new h⟩
noncomputable def tDNewK:TE:=fun _ H Q=>∀ p,H p = none->Q (.ref p) (upd H p (.dK []))
section
variable {X:Cx} {pos:Pos}
theorem pe_dnewK:PE X (.Dict [] [] pos) tDNewK:=fun pins s σ H Q I h =>
 wpAny_Dict_empty ⟨.ref s.heap.objs.size,_,I.laid (a:=s.heap.objs.size) (o:=.dK []) (t':=s.toks) (fun _ _ q=>Heap.get?_push_of_some _ q) (Nat.le_refl _) (dk_empty s.heap I.big),rfl,h _ (I.hok.fresh (Nat.le_refl _))⟩
end
structure M1 (X:Cx) (o:Expr) (m:Str) (apos:Pos) (e:Expr) (cpos:Pos):Prop where
 base:attributeBase o m X.env (eval o X.env) = eval o X.env
 few:((backTo cpos (starEach [e] X.env)).all (fun x=>!x.1) && (backToKw cpos (keywordEach [] X.env)).all (fun x=>x.1.isSome)
  && decide (([e]:List Expr).length + ([]:List Keyword).length + (if ([]:List Keyword).isEmpty then 0 else 1) < 30)) = true
 line:(apos.endLine == cpos.line) = true
 trees:backTo cpos (starEach [e] X.env) = [(false,eval e X.env)]
structure M2 (X:Cx) (o:Expr) (m:Str) (apos:Pos) (e f:Expr) (cpos:Pos):Prop where
 base:attributeBase o m X.env (eval o X.env) = eval o X.env
 few:((backTo cpos (starEach [e,f] X.env)).all (fun x=>!x.1) && (backToKw cpos (keywordEach [] X.env)).all (fun x=>x.1.isSome)
  && decide (([e,f]:List Expr).length + ([]:List Keyword).length + (if ([]:List Keyword).isEmpty then 0 else 1) < 30)) = true
 line:(apos.endLine == cpos.line) = true
 trees:backTo cpos (starEach [e,f] X.env) = [(false,eval e X.env),(false,eval f X.env)]
noncomputable def IsD (H:Hp) (a:Addr):Prop:=(∃ kvs,Rd H a (.dK kvs))\/∃ kvs,Rd H a (.dT kvs)
theorem isD_at {X:Cx} {pins:List (Addr × Obj)} {σ:St} {H:Hp} {s:Shared} {a:Addr} (I:Inv X pins σ H s) (d:IsD H a) :
  s.TypeIs (.ref a) "dict"/\(∀ b,Value.ref a = .ref b->∃ ob,s.heap.get? b = some ob/\ob.dict = none)/\(a == sysModules) = false:=by
 rcases d with ⟨kvs,e⟩ | ⟨kvs,e⟩
 ·obtain ⟨_,hd,vs,_,dd⟩:=dk_rd I.hok e
  refine ⟨dd.typeIs,fun b q=>?_,hd⟩
  cases q
  obtain ⟨ob,_,_,h1,h2,_⟩:=dd
  exact ⟨ob,h1,h2.2.1⟩
 ·obtain ⟨_,hd,xs,_,dd⟩:=dt_rd I.hok e
  refine ⟨dd.typeIs,fun b q=>?_,hd⟩
  cases q
  obtain ⟨ob,_,_,h1,h2,_⟩:=dd
  exact ⟨ob,h1,h2.2.1⟩
section
variable {X:Cx} {pins:List (Addr × Obj)} {σ:St} {H:Hp} {s:Shared} {a:Addr} {y d:V} {u r:Value} {o:Option V} {A:Around} {E:Value->Shared->Prop}
theorem d_get2 {Q:Value->Shared->Prop} (hu:A.units + 1 < cLine) (I:Inv X pins σ H s) (g:DGet H a y o) (ry:RelV y u) (rd:RelV d r) (h:∀ w' s',Inv X pins σ H s'->RelV (o.getD d) w'->Q w' s') :
  wpAny (model X.prog X.w) A (call (.builtin "dict.get") [.ref a,u,r]) Q E s:=by
 rcases g with ⟨kvs,k,e,ey,l⟩ | ⟨kvs,k,b,e,ey,eb,l⟩
 ·subst ey
  obtain ⟨z,hd,vs,rel,dd⟩:=dk_rd I.hok e
  refine call_meetsIn PySem.F.slot_dict_get dd.typeIs PySem.F.entry_dict_get (PySem.F.args_dict_get_3 _ _ _) (meets_dict_get_default (mixKind X.prog X.w) a (kV_is ry) hd r) ⟨_,dd.mapOf,h _ _ (I.tok _) ?_⟩
  rw [l]
  exact (rel.val k).getD rd
 ·subst ey
  cases (show u = Value.ref b from ry)
  obtain ⟨z,hd,xs,rel,dd⟩:=dt_rd I.hok e
  refine call_meetsIn PySem.F.slot_dict_get dd.typeIs PySem.F.entry_dict_get (PySem.F.args_dict_get_3 _ _ _) (meetsH_dict_get_default (tupleKind (mixKind X.prog X.w)) a b hd r) ⟨tupleKind_room_in1 hu,k,xs,key_of I.hok eb,dd,h _ _ (I.tok _) ?_⟩
  rw [l]
  exact (rel.val k).getD rd
end
noncomputable def tDGet2 (td ty tx:TE):TE:=fun σ H Q=>td σ H fun x H1=>∃ a,x = .ref a/\IsD H1 a/\ty σ H1 fun y H2=>tx σ H2 fun z H3=>∃ o,DGet H3 a y o/\Q (o.getD z) H3
section
variable {X:Cx} {o e f:Expr} {apos cpos:Pos} {td ty tx:TE}
theorem pe_dget2 (hu:X.A.units + 1 < cLine) (ho:PE X o td) (he:PE X e ty) (hf:PE X f tx) (m:M2 X o "get" apos e f cpos):PE X (.Call (.Attribute o "get" apos) [e,f] [] cpos) (tDGet2 td ty tx):=by
 intro pins s σ H Q I h
 refine wpAny_Call_method m.base m.few m.line PySem.F.plainAttrs_dict PySem.F.slot_dict_get PySem.F.type_dict_get (thn (ho pins s σ H _ I h) fun u s1 ⟨x,H1,I1,rx,a,ex,d,q1⟩=>?_)
 subst ex
 obtain rfl:u = Value.ref a:=rx
 obtain ⟨t1,t2,_⟩:=isD_at I1 d
 refine ⟨t1,t2,?_⟩
 rw [m.trees]
 refine Calls.callWith_builtin rfl (Calls.evalArgs_plain (Calls.spliced_cons (thn (he pins s1 σ H1 _ I1 q1) fun iv s2 ⟨y,H2,I2,ry,q2⟩ =>
  Calls.spliced_cons (thn (hf pins s2 σ H2 _ I2 q2) fun fv s3 ⟨z,H3,I3,rz,ov,g,q3⟩=>Calls.spliced_nil ?_))))
 exact d_get2 hu I3 g ry rz fun w' s4 I4 rw'=>⟨_,H3,I4,rw',q3⟩
end
end L2
namespace Att
open PySem PySem.W PySem.Calls PyProof.Rows
theorem ints_of_wellAll {P:Params} {h:Heap}:∀ (ns:List Int) (vs:List Value),WellAll P h vs (ns.map WData.int)->IntsAre vs ns:=by
 intro ns
 induction ns with
 | nil =>
  intro vs w
  rw [List.map_nil] at w
  cases w
  exact .nil
 | cons n ns ih =>
  intro vs w
  rw [List.map_cons] at w
  cases w with
  | cons a b =>
   cases a
   exact .cons _ _ (ih _ b)
theorem script_of {l:OpenLaw} {n:Nat} (hn:l.most = some n) {P:Params} {h:Heap} {args:List WData} {vals:List Value}
  (hpre:l.row.toRowW.claim.pre args = true) (hwl:WellAll P h vals args) :
  ∃ a vs ns,vals = [Value.ref a]/\args = [WData.list (ns.map WData.int)]/\h.get? a = some { cls:=.type "list",data:=.seq vs.toArray }/\IntsAre vs ns/\ns.length<=n:=by
 have hsh:WShape.hasAll [] args [.list .int] = true:=(pre_splitW hpre).1
 have hc:l.pre.holds [] { args:=args } = true:=(pre_splitW hpre).2
 obtain ⟨d,r,rfl,h1,h2⟩:=hasAllW_cons hsh
 obtain rfl:=hasAllW_nil h2
 obtain ⟨xs,rfl,h3⟩:=hasW_list h1
 obtain ⟨ns,rfl⟩:=items_int h3
 have hlen:ns.length<=n:=by
  unfold OpenLaw.pre at hc
  have h4:(WTm.not (.lt (.lit (.int (n:Int))) (.len (.arg 0)))).holds [] { args:=[.list (ns.map .int)] } = true:=by
   have h4:=(holds_andW hc).1
   rw [hn] at h4
   exact h4
  have h5:=condW_of h4 (w_not (w_lt w_lit (w_len_list (w_arg rfl))))
  rw [List.length_map] at h5
  refine Nat.le_of_not_lt fun q=>?_
  have q':(n:Int) < ((ns.length:Nat):Int):=by omega
  first
   | (rw [decide_eq_true q'] at h5; exact absurd h5 (by decide))
   | (simp at h5; omega)
 cases hwl with
 | cons w1 w2 =>
  cases w2
  cases w1 with
  | list ho hall=>exact ⟨_,_,ns,rfl,rfl,ho,ints_of_wellAll ns _ hall,hlen⟩
theorem post_true (l:OpenLaw) (args:List WData):l.row.toRowW.claim.post args (.bool true) args = true :=
 postW_of (r:=l.row.toRowW) (X:=(true == true))
  (show WShape.has [] (.bool true) .bool = true by first | rfl | decide | simp [WShape.has,WShape.arms,WShape.armsAll])
  (show (WTm.eq .res (.lit (.bool true))).value [] { args:=args,res:=some (.bool true),after:=args } = some (.bool (true == true)) from w_eq_bool (w_res rfl) w_lit) rfl
theorem attach_call {l:OpenLaw} {n:Nat} {q:Program} {loose:List Str} {XP:(Str->Option Value)->Heap->Prop} {YP:World->Heap->Prop} {d:DefRec}
  (hn:l.most = some n) (hdf:d.params.defaults = [])
  (call:∀ (w:World) (s₀ s₁:Shared) (mg mb:Str->Option Value) (fa:Addr) (o:Obj) (pm cd doc:Value) (a:Addr) (vs:List Value) (ns:List Int),
   Ground q loose [] XP w s₀ mg mb s₁.heap->YP w s₁.heap ->
   s₁.heap.get? fa = some o->o.data = .func (docDef d.name d.params d.body d.scope pm cd doc)->s₁.heap.CodeRec cd d.name->mg d.name = some (.ref fa) ->
   s₁.heap.get? a = some { cls:=.type "list",data:=.seq vs.toArray }->IntsAre vs ns->ns.length<=n->s₁.gens = #[] ->
   codeAny (model l.prog w) callerA (.call (.ref fa) ⟨[.ref a],[]⟩) (fun r s'=>r = .ok (.ret (.bool true))/\OldK s₁.heap s'.heap/\s'.os = s₁.os/\AllBare s'.gens) s₁) :
  WalkO q loose XP YP l.row.toRowW d [] (fun f vs=>PySem.call f vs):=by
 intro w s₀ s₁ mg mb G Y fa o pm cd doc dV kV ho hd hcd hD hmg hg args vals as hpre hlay hrd hwl hlo
 obtain rfl:dV = .none:=Dflts.none hD hdf
 obtain rfl:kV = .none:=Dflts.noKw hD
 obtain ⟨a,vs,ns,rfl,rfl,hobj,hints,hlen⟩:=script_of hn hpre hwl
 refine enter_call (codeAny_mono (call w s₀ s₁ mg mb fa o pm cd doc a vs ns G Y ho (fd_plain hd) hcd hmg hobj hints hlen hg) fun r s' hq=>?_)
 obtain ⟨rfl,h2,h3,h4⟩:=hq
 exact ⟨.inl ⟨.bool true,.bool true,[],rfl,fun _=>rfl,.bool true,post_true l _,fun _=>⟨List.Pairwise.nil,fun _ hm=>(nomatch hm)⟩⟩,h2,h3,h4⟩
end Att
namespace L2
open PySem PySem.Spec PyProof.Rows
theorem vals_ints:∀ {vs:List Value} {ns:List Int},IntsAre vs ns->Vals (ns.map V.int) vs
 | _,_,.nil=>.nil
 | _,_,.cons n t h=>.cons ⟨t,rfl⟩ (vals_ints h)
noncomputable def Only (H:Hp):Prop:=∀ b,H b = none\/∃ o xs,H b = some (.frz o (.lst xs))
theorem law_call {P:Program} {w:World} {K:PySem.W.Frag} {mg mb:Str->Option Value} {CX:CXT} {k:Nat} {fa a:Addr} {fd:FuncData} {x:Str} {sp:Sp} {s₁:Shared} {vs:List Value} {ns:List Int}
  (KX:K.In s₁.heap) (hns:s₁.heap.Ns mainGlobals mg) (hb:s₁.heap.Ns builtinsNs mb) (hbb:∀ x:Str,x ≠ "__name__"->mb x = bootBuiltins x) (hlim:s₁.heap.NoLimit) (hg:s₁.gens = #[])
  (ha:s₁.heap.get? a = some { cls:=.type "list",data:=.seq vs.toArray }) (hi:IntsAre vs ns) (hl:ns.length<=sizeLine) (hr:Room k callerA)
  (F:∀ base:Heap,K.In base->base.Ns mainGlobals mg->FnOk P w K mg base CX k fa fd [x] sp) (hbind:∀ (s:Shared) (u:Value),BindsTo s fd ⟨[u],[]⟩ [(x,u)])
  (hsp:∀ H:Hp,Only H->SqL K H a (ns.map V.int)->sp [.ref a] H (fun v _=>v = .bl true) fun _ _ _=>False)
  (hCX:∀ H e s',CX [] H s₁ (fun _ _ _=>False) e s'->False) :
  codeAny (model P w) callerA (.call (.ref fa) ⟨[.ref a],[]⟩) (fun r s'=>r = .ok (.ret (.bool true))/\OldK s₁.heap s'.heap/\s'.os = s₁.os/\AllBare s'.gens) s₁:=by
 have rv:=vals_ints hi
 have lenV:=hi.length
 have core:∀ H:Hp,Only H->SqL K H a (ns.map V.int)->HOk P w H s₁.heap->(∀ b,H b ≠ none->b = a)->(H a ≠ none->K.lookup a = none) ->
   codeAny (model P w) callerA (.call (.ref fa) ⟨[.ref a],[]⟩) (fun r s'=>r = .ok (.ret (.bool true))/\OldK s₁.heap s'.heap/\s'.os = s₁.os/\AllBare s'.gens) s₁:=by
  intro H hO hS hok hA hK
  have base_of:∀ {b:Addr} {o:Obj},s₁.heap.get? b = some o->H b = none->(hidT s₁.heap H).get? b = some o:=fun e n=>hidT_get e n
  have noA:∀ {b:Addr} {o:Obj} {es:Array DictEntry} {ep:Nat},s₁.heap.get? b = some o->o.data = .dict es ep->H b = none:=fun {b o es ep} e d=>by
   cases q:H b with
   | none=>rfl
   | some u =>
    have e':b = a:=hA b (by rw [q]; simp)
    subst e'
    rw [ha] at e; cases e
    have d':Data.seq vs.toArray _ = Data.dict es ep:=d
    cases d'
  have nsK:∀ {b:Addr} {m:Str->Option Value},s₁.heap.Ns b m->(hidT s₁.heap H).Ns b m:=fun {b m} ⟨o,es,ep,e,d,r⟩=>⟨o,es,ep,base_of e (noA e d),d,r⟩
  have hKb:K.In (hidT s₁.heap H):=fun b o e=>base_of (KX b o e) (by
   cases q:H b with
   | none=>rfl
   | some u =>
    have e':b = a:=hA b (by rw [q]; simp)
    subst e'
    rw [hK (by rw [q]; simp)] at e; cases e)
  have hM:Mod K mg (hidT s₁.heap H):=⟨hKb,nsK hns,⟨mb,nsK hb,hbb⟩,let ⟨mc,h1,h2⟩:=hlim; ⟨mc,nsK h1,h2⟩⟩
  have e0:Env0 P w K mg (hidT s₁.heap H) callerA [] s₁ H:=⟨rfl,hM,fun b o e=>of_hidT e,Nat.le_of_eq (hidT_size _ _),trivial,fun b hb=>absurd (show b ∈ ([]:List Addr) from hb) (by simp),hok,.of_eq hg⟩
  refine codeAny_mono ((F _ hKb (nsK hns)).run callerA [] s₁ H ⟨[.ref a],[]⟩ [.ref a] [.ref a] _ _ hr e0 (hbind s₁ (.ref a)) (.cons rfl .nil) (hsp H hO hS)) fun r s' h=>?_
  cases r with
  | error e=>exact (hCX H e s' h).elim
  | ok fl =>
   cases fl with
   | next=>exact False.elim h
   | brk=>exact False.elim h
   | cont=>exact False.elim h
   | ret u =>
    obtain ⟨v,H',os,bare,un,hok',r',q⟩:=h
    have q':v = .bl true:=q
    subst q'
    obtain rfl:u = Value.bool true:=r'
    refine ⟨rfl,OldK.of_keep fun b o e=>?_,os,bare⟩
    cases q:H b with
    | none=>exact un.keep b o e q (by intro z; exact absurd (show b ∈ ([]:List Addr) from z) (by simp)) (by simp)
    | some u =>
     rcases hO b with z | ⟨ob,xs,z⟩
     ·rw [q] at z; cases z
     ·have z2:=un.frzs b ob _ z
      obtain ⟨e1,_⟩:=hok b _ z
      obtain ⟨e2,_⟩:=hok' b _ z2
      rw [e] at e1; cases e1
      exact e2
 cases hk:K.lookup a with
 | some o =>
  have e:=KX a o hk
  rw [ha] at e
  cases e
  refine core (fun _=>none) (fun _=>.inl rfl) (.inr ⟨_,vs.toArray,_,hk,rfl,rfl,rfl,by rw [List.size_toArray,lenV]; exact hl,by simpa using rv⟩) (fun b u z=>by have z':(none:Option HO) = some u:=z; cases z') (fun b z=>absurd rfl z) fun z=>absurd rfl z
 | none =>
  refine core (fun b=>if b = a then some (.frz { cls:=.type "list",data:=.seq vs.toArray } (.lst (ns.map V.int))) else none) (fun b=>?_) (.inl (.inr ⟨{ cls:=.type "list",data:=.seq vs.toArray },if_pos rfl⟩)) (fun b u z=>?_) (fun b z=>?_) fun _=>hk
  ·by_cases hb:b = a
   ·exact .inr ⟨_,_,if_pos hb⟩
   ·exact .inl (if_neg hb)
  ·by_cases hb:b = a
   ·have z':=(if_pos hb).symm.trans z
    cases z'
    subst hb
    exact ⟨ha,by rw [List.length_map]; exact hl,vs,_,rv,ha⟩
   ·have z':=(if_neg hb).symm.trans z
    cases z'
  ·by_cases hb:b = a
   ·exact hb
   ·exact absurd (if_neg hb) z
end L2
namespace L2
open PySem PySem.Spec PyProof.Rows
theorem walk_of {l:PySem.W.OpenLaw} {n k:Nat} {q:Program} {loose:List Str} {XP:(Str->Option Value)->Heap->Prop} {YP:World->Heap->Prop} {d:DefRec} {K:Params->PySem.W.Frag} {CX:World->CXT} {sp:World->Sp} {x:Str}
  (hn:l.most = some n) (hn2:n<=sizeLine) (hdf:d.params.defaults = []) (hr:Room k callerA)
  (hY:∀ (w:World) (h:Heap),YP w h->(K w.params).In h)
  (F:∀ (w:World) (mg:Str->Option Value) (fa:Addr) (h:Heap),(K w.params).In h->h.Ns mainGlobals mg->mg d.name = some (.ref fa) ->
   ∃ fd:FuncData,(∀ (s:Shared) (u:Value),BindsTo s fd ⟨[u],[]⟩ [(x,u)]) /\
    ∀ base:Heap,(K w.params).In base->base.Ns mainGlobals mg->FnOk l.prog w (K w.params) mg base (CX w) k fa fd [x] (sp w))
  (hsp:∀ (w:World) (H:Hp) (a:Addr) (ns:List Int),ns.length<=n->Only H->SqL (K w.params) H a (ns.map V.int)->sp w [.ref a] H (fun v _=>v = .bl true) fun _ _ _=>False)
  (hCX:∀ (w:World) (H:Hp) (s:Shared) (e:Value) (s':Shared),CX w [] H s (fun _ _ _=>False) e s'->False) :
  PySem.W.WalkO q loose XP YP l.row.toRowW d [] (fun f vs=>PySem.call f vs):=by
 refine Att.attach_call hn hdf fun w s₀ s₁ mg mb fa o pm cd doc a vs ns G Y ho hd hcd hmg hobj hints hlen hg=>?_
 have KX:=hY w _ Y
 obtain ⟨fd,hb,hF⟩:=F w mg fa _ KX G.T.g hmg
 exact law_call KX G.T.g G.T.b G.T.builtins G.T.nolimit hg hobj hints (Nat.le_trans hlen hn2) hr hF hb (fun H hO hS=>hsp w H a ns hlen hO hS) fun H e s'=>hCX w H s₁ e s'
end L2
namespace L2
open PySem PySem.Spec PyProof.Rows
noncomputable def inClass (s:Stmt) (j:Nat):Stmt:=match s with
 | .ClassDef _ _ _ body _ _ _ _ _ _ _=>body.getD j (.Pass ⟨0,0,0,0⟩)
 | _=>.Pass ⟨0,0,0,0⟩
noncomputable def defArgs (s:Stmt):Arguments:=match s with
 | .FunctionDef _ a _ _ _ _ _ _ _ _=>a
 | _=>{ posonlyargs:=[],args:=[],vararg:=none,kwonlyargs:=[],kw_defaults:=[],kwarg:=none,defaults:=[] }
noncomputable def defBody (s:Stmt):List Stmt:=match s with
 | .FunctionDef _ _ b _ _ _ _ _ _ _=>b
 | _=>[]
noncomputable def defScope (s:Stmt):Scope:=match s with
 | .FunctionDef _ _ _ _ _ _ sc _ _ _=>sc
 | _=>{ kind:=.function,names:=[],isGenerator:=false,isCoroutine:=false }
noncomputable abbrev CX0:CXT:=fun _ _ _ _ _ _=>False
noncomputable abbrev E0:XK:=fun _ _ _=>False
theorem pass0 {X:Cx}:Passes CX0 X E0:=fun _ _ _ _ _ _ _ h=>h.elim
structure Fun (K:PySem.W.Frag) (x qual:Str) (st:Stmt) (f:Addr) (fd:FuncData):Prop where
 ex:∃ (oc:Value) (od:Option Addr) (kV doc pm:Value) (an:Option Addr) (cdv ct:Value) (osl:Array (Option Value)),
  fd = PySem.W.fnOf x qual (defArgs st) (defBody st) (defScope st) .none kV doc pm an cdv ct/\K.lookup f = some ⟨oc,od,.func fd,osl⟩/\PySem.W.codeIn K cdv qual = true
 kp:PySem.W.keepIn K (.ref f) = true
section
variable {P:Program} {w:World} {K:PySem.W.Frag} {mg:Str->Option Value} {base:Heap}
theorem Fun.ok {x qual:Str} {st:Stmt} {f:Addr} {fd:FuncData} {N ps:List Str} {k:Nat} {sp:Sp} (F:Fun K x qual st f fd) (S:FnScope N ps (defScope st)) (len:∀ vs H Q E,sp vs H Q E->vs.length = ps.length)
  (hbody:∀ (cdv:Value) (A:Around) (outer:List Env) (s:Shared) (H:Hp) (vs:List V) (Q:VK) (E:XK),Room k (A.deeper (envOfC qual (defScope st) s.heap.objs.size f cdv))->sp vs H Q E ->
   ∃ t,PSs (cxOf CX0 P w K mg base N qual (defScope st) f cdv A outer s H E).nox (defBody st) t/\t { nx:=fun _ H'=>Q .non H',rt:=Q } (start N vs) H):FnOk P w K mg base CX0 (k + 1) f fd ps sp:=by
 obtain ⟨oc,od,kV,doc,pm,an,cdv,ct,osl,rfl,lk,hcd⟩:=F.ex
 refine fn_of lk hcd S len fun A outer s H vs Q E hr hsp=>?_
 obtain ⟨t,h,q⟩:=hbody cdv A outer s H vs Q E hr hsp
 exact ⟨t,h.nox,q⟩
theorem Fun.binds {x qual:Str} {st:Stmt} {f:Addr} {fd:FuncData} {ps:List Str} (F:Fun K x qual st f fd)
  (h:∀ (kV doc pm:Value) (an:Option Addr) (cdv ct:Value) (us:List Value),us.length = ps.length->bindArgs (PySem.W.fnOf x qual (defArgs st) (defBody st) (defScope st) .none kV doc pm an cdv ct) ⟨us,[]⟩ = pure (ps.zip us)):Binds K fd ps []:=by
 obtain ⟨oc,od,kV,doc,pm,an,cdv,ct,osl,rfl,lk,hcd⟩:=F.ex
 exact .all (h kV doc pm an cdv ct)
theorem fun_mk {x qual:Str} {st:Stmt} {f:Addr} {oc:Value} {od an:Option Addr} {osl:Array (Option Value)} {kV doc pm cdv ct:Value} (l:K.lookup f = some ⟨oc,od,.func (PySem.W.fnOf x qual (defArgs st) (defBody st) (defScope st) .none kV doc pm an cdv ct),osl⟩)
  (c:PySem.W.codeIn K cdv qual = true) (k:PySem.W.keepIn K (.ref f) = true):Fun K x qual st f (PySem.W.fnOf x qual (defArgs st) (defBody st) (defScope st) .none kV doc pm an cdv ct):=⟨⟨oc,od,kV,doc,pm,an,cdv,ct,osl,rfl,l,c⟩,k⟩
end
theorem hu_of {A:Around} {k:Nat} (hr:Room k A):A.units + 1 < cLine:=Nat.lt_of_le_of_lt (Nat.add_le_add_left (by decide:1<=64) _) hr.units
section
variable {X:Cx}
theorem pv (i:Nat) {x:Str} {pos:Pos} (hN:X.N[i]? = some x:=by rfl) (hv:Vis X.env.scope x:=by first | exact Or.inl rfl | exact Or.inr (Or.inl rfl) | exact Or.inr (Or.inr rfl)) (hd:(x == ("__debug__":Str)) = false:=by decide)
  (hcd:(x == ("__classdict__":Str)) = false:=by decide):PE X (.Name x pos) (tVar i):=pe_var hN hv hd hcd
end
theorem iteF {A B:Prop} (h:B):if false = true then A else B:=by
 rw [if_neg Bool.false_ne_true]
 exact h
theorem iteT {A B:Prop} (h:A):if true = true then A else B:=by
 rw [if_pos rfl]
 exact h
theorem ite2 {c A B:Prop} [Decidable c] (h1:c->A) (h2:¬ c->B):if c then A else B:=by
 by_cases h:c
 ·rw [if_pos h]
  exact h1 h
 ·rw [if_neg h]
  exact h2 h
noncomputable def Same (H H':Hp):Prop:=∀ b o,H b = some o->H' b = some o
theorem Same.refl (H:Hp):Same H H:=fun _ _ h=>h
theorem Same.trans {H H1 H2:Hp} (a:Same H H1) (b:Same H1 H2):Same H H2:=fun c o h=>b c o (a c o h)
theorem Same.free {H H':Hp} (e:Same H H') {l:Addr} (h:H' l = Option.none):H l = Option.none:=by
 cases q:H l with
 | none=>rfl
 | some o =>
  rw [e l o q] at h
  cases h
end L2
namespace L2
open PySem PySem.Spec PyProof.Rows
section
variable {κ:Type} [DecidableEq κ]
theorem valV_in {kvs:List (κ × V)} {k:κ} {v:V} (h:valV kvs k = some v):k ∈ kvs.map (·.1):=by
 have q:(kvs.any fun kv=>decide (kv.1 = k)) = true:=by
  rw [valV_any,h]
  all_goals rfl
 obtain ⟨p,hp,e⟩:=List.any_eq_true.mp q
 exact List.mem_map.mpr ⟨p,hp,of_decide_eq_true e⟩
end
end L2
namespace L2
open PySem PySem.Spec PyProof.Rows
noncomputable def cxC (X:Cx) (scope:Scope) (cl:List (Str × Addr)) (N':List Str) (pins:List (Addr × Obj)) (ex:List Addr) (s3:Shared) (H3:Hp):Cx where
 prog:=X.prog
 w:=X.w
 K:=X.K
 mg:=X.mg
 base:=X.base
 A:=X.A
 N:=N'
 s₀:=s3
 H₀:=H3
 env:=compEnvC scope cl s3.heap.objs.size X.env
 outer:=X.stack
 stack:=X.stack
 ex:=ex
 fn:=fun _=>false
 calm:=X.calm
 pn:=X.pn ++ pins
 xe:=fun _ _=>False
noncomputable def Caps (X:Cx) (scope:Scope) (cl:List (Str × Addr)):List Str->List (Option Nat)->Prop
 | [],[]=>True
 | _ :: N,none :: c=>Caps X scope cl N c
 | x :: N,some j :: c=>(X.N[j]? = some x/\X.env.scope.names.lookup x = some .cell/\(relabel scope X.env).names.lookup x = some .cell/\cl.lookup x = X.env.cells.lookup x)/\Caps X scope cl N c
 | _,_=>False
noncomputable def ClIn (X:Cx):List (Str × Addr)->Prop
 | []=>True
 | p :: r=>X.env.cells.lookup p.1 = some p.2/\ClIn X r
structure CScope (X:Cx) (scope:Scope) (cl:List (Str × Addr)) (N':List Str) (cap:List (Option Nat)):Prop where
 kind:scope.kind = .function
 nocell:∀ y ∈ scope.names,y.2 ≠ .cell
 loc:∀ y ∈ scope.names,y.2 = .local->scope.names.lookup y.1 = some .local
 clos:closureFor scope X.env = pure cl
 cin:ClIn X cl
 has:((relabel scope X.env).names.all fun y=>!(y.2 == .cell || y.2 == .free) || (cl.lookup y.1).isSome) = true
 caps:Caps X scope cl N' cap
noncomputable def capS (cap:List (Option Nat)) (σ:St):St:=cap.map fun o=>o.bind fun j=>(σ[j]?).join
theorem ClIn.get {X:Cx}:∀ {cl:List (Str × Addr)} {x:Str} {c:Addr},ClIn X cl->cl.lookup x = some c->X.env.cells.lookup x = some c
 | [],_,_,_,h=>by simp at h
 | (y,d) :: r,x,c,⟨h1,h2⟩,h=>by
  rw [List.lookup_cons] at h
  cases e:x == y with
  | true =>
   rw [e] at h
   cases h
   rw [beq_iff_eq.mp e]
   exact h1
  | false =>
   rw [e] at h
   exact ClIn.get h2 h
theorem Caps.len {X:Cx} {scope:Scope} {cl:List (Str × Addr)}:∀ {N:List Str} {cap:List (Option Nat)},Caps X scope cl N cap->cap.length = N.length
 | [],[],_=>rfl
 | _ :: N,none :: c,h=>by rw [List.length_cons,List.length_cons,Caps.len (N:=N) (cap:=c) h]
 | _ :: N,some j :: c,h=>by rw [List.length_cons,List.length_cons,Caps.len h.2]
 | [],_ :: _,h=>h.elim
 | _ :: _,[],h=>h.elim
theorem Caps.get {X:Cx} {scope:Scope} {cl:List (Str × Addr)} {j:Nat} {x:Str}:∀ {N:List Str} {cap:List (Option Nat)} {i:Nat},Caps X scope cl N cap->N[i]? = some x->cap[i]? = some (some j) ->
  X.N[j]? = some x/\X.env.scope.names.lookup x = some .cell/\(relabel scope X.env).names.lookup x = some .cell/\cl.lookup x = X.env.cells.lookup x
 | [],_,_,_,h,_=>by simp at h
 | _ :: _,[],_,_,_,h=>by simp at h
 | y :: N,none :: c,0,_,_,h=>by simp at h
 | y :: N,none :: c,i + 1,h,h1,h2=>Caps.get (N:=N) (cap:=c) (i:=i) h (by simpa using h1) (by simpa using h2)
 | y :: N,some k :: c,0,h,h1,h2=>by
  simp at h1 h2
  subst h1; subst h2
  exact h.1
 | y :: N,some k :: c,i + 1,h,h1,h2=>Caps.get (N:=N) (cap:=c) (i:=i) h.2 (by simpa using h1) (by simpa using h2)
section
variable {X:Cx} {scope:Scope} {cl:List (Str × Addr)} {N':List Str} {cap:List (Option Nat)} {pins:List (Addr × Obj)} {σ:St} {H3:Hp} {s3:Shared} {ex:List Addr}
theorem lookup_all {p:NameKind->Bool}:∀ {names:List (Str × NameKind)} {q:Str->NameKind->Bool} {x:Str} {k:NameKind},(names.all fun y=>q y.1 y.2) = true->names.lookup x = some k->q x k = true
 | [],_,_,_,_,h=>by simp at h
 | (y,d) :: r,q,x,k,ha,h=>by
  rw [List.all_cons,Bool.and_eq_true] at ha
  rw [List.lookup_cons] at h
  cases e:x == y with
  | true =>
   rw [e] at h
   cases h
   rw [beq_iff_eq.mp e]
   exact ha.1
  | false =>
   rw [e] at h
   exact lookup_all (p:=p) (names:=r) (q:=q) ha.2 h
theorem Inv.block (I:Inv X pins σ H3 s3) (S:CScope X scope cl N' cap) (hc:X.calm = true) (hex:∀ b ∈ ex,FpOk X pins H3 b/\∃ o,s3.heap.get? b = some o) {h1:Heap} {tk:Nat}
  (hns:h1.Ns s3.heap.objs.size (fun _=>none)) (hk:∀ b o,s3.heap.get? b = some o->h1.get? b = some o) :
  Inv (cxC X scope cl N' pins ex s3 H3) [] (capS cap σ) H3 { s3 with heap:=h1,toks:=tk }:=by
 have lt3:∀ b o,s3.heap.get? b = some o->b ≠ s3.heap.objs.size:=fun b o e=>Nat.ne_of_lt (Heap.lt_size e)
 have hcell:∀ x c,cl.lookup x = some c->∃ v,s3.heap.IsCell c v:=fun x c e=>I.cell x c (S.cin.get e)
 have hfree:H3 s3.heap.objs.size = none:=I.hok.fresh (Nat.le_refl _)
 refine ⟨⟨I.ok.mod,?_,I.ok.glob,I.ok.blt,Nat.le_refl _,fun x y c e1 e2=>I.ok.inj x y c (S.cin.get e1) (S.cin.get e2),fun x hx=>?_,fun x c h _=>absurd h Bool.false_ne_true,I.ok.hd,I.ok.frames,.inl rfl,fun b hb=>?_,I.bs,Nat.le_trans I.ok.bsz I.sz,fun b o e hb=>?_,fun b hb=>?_,I.stack,I.stkFree⟩,
  rfl,I.bare,Un.kept hk,⟨_,hns,fun i x v e1 e2 e3=>?_⟩,fun x c e=>?_,hfree,fun x c e=>I.freeC x c (S.cin.get e),fun p hp=>?_,I.hok.kept hk,?_⟩
 ·exact S.kind
 ·have q:∀ k,(relabel scope X.env).names.lookup x = some k->(!(k == .cell || k == .free) || (cl.lookup x).isSome) = true:=fun k e=>lookup_all (p:=fun _=>true) (q:=fun a k=>!(k == .cell || k == .free) || (cl.lookup a).isSome) S.has e
  have hx':(relabel scope X.env).names.lookup x = some .cell\/(relabel scope X.env).names.lookup x = some .free:=hx
  have:(cl.lookup x).isSome = true:=by
   rcases hx' with e | e
   ·exact q _ e
   ·exact q _ e
  exact Option.isSome_iff_exists.mp this
 ·obtain ⟨⟨_,_,_,_,f4,_⟩,o,e⟩:=hex b hb
  exact ⟨lt3 b o e,fun x c ec=>f4 x c (S.cin.get ec)⟩
 ·obtain ⟨⟨f0,f1,f2,f3,_⟩,_⟩:=hex b hb
  rcases f3 with f3 | f3
  ·exact I.ok.noex b o e f3
  ·have:=(I.ok.bs b o e).1
   exact absurd (Nat.lt_of_lt_of_le (Heap.lt_size this) f3) (Nat.lt_irrefl _)
 ·intro hf
  obtain ⟨⟨_,f1,f2,_⟩,_⟩:=hex b hb
  rcases List.mem_cons.mp (I.stkSub b hf) with z | z
  ·exact f1 z
  ·exact f2 z
 ·unfold capS at e2
  rw [List.getElem?_map] at e2
  cases ec:cap[i]? with
  | none=>rw [ec] at e2; cases e2
  | some o =>
   rw [ec] at e2
   cases o with
   | none=>cases e2
   | some j =>
    have e2':(σ[j]?).join = some v:=Option.some.inj e2
    obtain ⟨c1,c2,c3,c4⟩:=S.caps.get e1 ec
    have ej:σ[j]? = some (some v):=by
     cases ej:σ[j]? with
     | none=>rw [ej] at e2'; cases e2'
     | some z=>rw [ej] at e2'; cases z with
      | none=>cases e2'
      | some z=>cases e2'; rfl
    obtain ⟨m,hn,hl⟩:=I.loc
    obtain ⟨u,r,l⟩:=hl j x v c1 ej (.inr (.inl c2))
    refine ⟨u,r,?_⟩
    rcases l with ⟨k,_⟩ | ⟨_,c,hc',hcell'⟩
    ·have:X.env.scope.names.lookup x = some .local:=k
     rw [c2] at this; cases this
    ·exact .inr ⟨.inl c3,c,c4.trans hc',let ⟨o,ho,hd⟩:=hcell'; ⟨o,hk _ _ ho,hd⟩⟩
 ·obtain ⟨v,o,ho,hd⟩:=hcell x c e
  exact ⟨v,o,hk _ _ ho,hd⟩
 ·have hp':p ∈ X.pn ++ pins:=by simpa [cxC] using hp
  obtain ⟨e,n,ne,nf,d⟩:=I.pin p hp'
  refine ⟨hk _ _ e,n,lt3 _ _ e,fun hf=>?_,d⟩
  rcases List.mem_cons.mp (I.stkSub p.1 hf) with z | z
  ·exact ne z
  ·exact nf z
 ·unfold capS
  rw [List.length_map]
  exact S.caps.len
theorem Inv.unblock {σ':St} {H':Hp} {s':Shared} {h':Heap} (I:Inv X pins σ H3 s3) (hex:∀ b ∈ ex,FpOk X pins H3 b) (J:Inv (cxC X scope cl N' pins ex s3 H3) [] σ' H' s') (hb:Heap.SameBut s3.heap.objs.size s'.heap h') :
  Inv X pins σ H' { s' with heap:=h' }:=by
 have hfr:H' s3.heap.objs.size = none:=J.free
 refine I.call' (ch:=ex) J.os ⟨fun b o e n h1 h2=>?_,fun b o e n h1 h2=>?_,fun b o e n h2=>?_,fun b o e h2=>?_,J.base.tups,J.base.frzs,J.base.tbls⟩ (fun b ob e=>?_) J.bare fun b hbx=>?_
 ·exact (hb.2 b (Nat.ne_of_lt (Heap.lt_size e))).trans (J.base.keep b o e n h1 h2)
 ·obtain ⟨sl,q⟩:=J.base.slot b o e n h1 h2
  exact ⟨sl,(hb.2 b (Nat.ne_of_lt (Heap.lt_size e))).trans q⟩
 ·exact J.base.free b o e n h2
 ·obtain ⟨o',q⟩:=J.base.there b o e h2
  exact ⟨o',(hb.2 b (Nat.ne_of_lt (Heap.lt_size e))).trans q⟩
 ·refine (J.hok b ob e).stay (fun c w' hc q=>(hb.2 c ?_).trans q) (fun _ q=>q) fun _ _ q=>q
  rintro rfl
  rcases hc with z | z
  ·rw [<-z,hfr] at e; cases e
  ·rw [hfr] at z; cases z
 ·obtain ⟨_,f1,_,f3,f4,f5⟩:=hex b hbx
  exact ⟨f3,f1,f4,f5⟩
end
end L2
namespace L2
open PySem PySem.Spec PyProof.Rows
noncomputable def turnOf (e:Expr) (d:Nat) (iter tg:Expr) (ifs:List Expr) (emit:Sem Fin->Sem Fin) (it acc:Value) (env:Env):Sem Fin:=do
 standAt iter.pos
 match <-pyNext it with
 | none=>pure (.done .next)
 | some v =>
  letOwnedTupleGo tg it v
  assign tg env v
  let mut ok:=true
  for c in ifs do
   if ok then ok <-isTrue c env (eval c env)
  if ok then emit (again (.compLoop e d it acc env)) else again (.compLoop e d it acc env)
noncomputable def emL (elt:Expr) (acc:Value) (env:Env) (k:Sem Fin):Sem Fin:=(do let _ <-call (.builtin "list.append") [acc,<-eval elt env]:Sem Unit) >>= fun _=>k
noncomputable def emD (a b:Expr) (D:Addr) (env:Env) (k:Sem Fin):Sem Fin:=(do
   let kv <-eval a env
   let vv <-holding [kv] (eval b env)
   standAt { a.pos with endLine:=b.pos.endLine,endCol:=b.pos.endCol }
   holding [kv,vv] (dictSet D kv vv):Sem Unit) >>= fun _=>k
theorem turnE_list (elt tg iter:Expr) (ifs:List Expr) (scope:Scope) (pos:Pos) (it acc:Value) (env:Env) :
  compTurn (.ListComp elt [⟨tg,iter,ifs,0⟩] scope pos) 0 it acc env = turnOf (.ListComp elt [⟨tg,iter,ifs,0⟩] scope pos) 0 iter tg ifs (emL elt acc env) it acc env:=rfl
theorem turnE_dict (k v tg iter:Expr) (ifs:List Expr) (scope:Scope) (pos:Pos) (it:Value) (D:Addr) (env:Env) :
  compTurn (.DictComp k v [⟨tg,iter,ifs,0⟩] scope pos) 0 it (.ref D) env = turnOf (.DictComp k v [⟨tg,iter,ifs,0⟩] scope pos) 0 iter tg ifs (emD k v D env) it (.ref D) env:=rfl
noncomputable abbrev TEm:=St->Hp->(St->Hp->Prop)->Prop
noncomputable def PEm (X:Cx) (emit:Sem Fin->Sem Fin) (t:TEm):Prop :=
 ∀ (pins:List (Addr × Obj)) (s:Shared) (σ:St) (H:Hp) (Q:St->Hp->Prop) (k:Sem Fin) (F:Fin->Shared->Prop) (E:Value->Shared->Prop),Inv X pins σ H s->t σ H Q ->
  (∀ s' σ' H',Inv X pins σ' H' s'->Q σ' H'->wpAny (model X.prog X.w) X.A k F E s')->wpAny (model X.prog X.w) X.A (emit k) F E s
noncomputable def PTs (X:Cx) (ifs:List Expr) (t:TT):Prop :=
 ∀ (pins:List (Addr × Obj)) (s:Shared) (σ:St) (H:Hp) (Q:Bool->Hp->Prop),Inv X pins σ H s->t σ H Q ->
  wpAny (model X.prog X.w) X.A (forIn ifs true fun c r=>if r = true then do let ok <-isTrue c X.env (eval c X.env); pure (ForInStep.yield ok) else pure (ForInStep.yield r)) (TP X pins σ Q) X.xe s
noncomputable def tTrue:TT:=fun _ H Q=>Q true H
theorem pts_nil {X:Cx}:PTs X [] tTrue:=fun _ _ _ H _ I h=>wpAny_tests_nil ⟨H,I,h⟩
theorem pts_one {X:Cx} {c:Expr} {t:TT} (h:PT X c t):PTs X [c] t:=fun pins s σ H Q I q=>wpAny_tests_one (h pins s σ H Q I q)
noncomputable def Loop (g:TG) (tc:TT) (em:TEm) (J:It) (σ:St) (H:Hp) (Q:St->Hp->Prop):Prop :=
 ∃ W:Nat->Nat->St->Hp->Prop,(∃ m,W 0 m σ H)/\∀ i m σ H,W i m σ H->(J.stop i H/\Q σ H)\/(J.go i H/\∀ x H',J.yld i H x H'->g x σ H' fun σ2 H2=>tc σ2 H2 fun b H3 =>
  if b = true then em σ2 H3 fun σ3 H4=>∃ m',m' < m/\W (i + 1) m' σ3 H4 else ∃ m',m' < m/\W (i + 1) m' σ2 H3)
section
variable {X:Cx} {e tg iter:Expr} {d:Nat} {ifs:List Expr} {emit:Sem Fin->Sem Fin} {it:Addr} {acc:Value} {g:TG} {tc:TT} {em:TEm} {J:It} {fp:List Addr} {tn:Nat->Heap->Prop} {R:Result->Shared->Prop}
theorem comp_loop (hun:X.A.under (.compLoop e d (.ref it) acc X.env) = X.A) (hden:(model X.prog X.w).den (.compLoop e d (.ref it) acc X.env) = (compTurn e d (.ref it) acc X.env).onRaise (fun x=>do noteFrame x X.env; theTreesLotGoes x)) (hc:X.calm = true) (hxe:X.xe = fun _ _=>False) (hct:compTurn e d (.ref it) acc X.env = turnOf e d iter tg ifs emit (.ref it) acc X.env) (hg:PG X tg g) (ht:PTs X ifs tc) (hem:PEm X emit em)
  (T:Turn X.prog X.w X.K tg J fp it tn) {pins:List (Addr × Obj)} {s:Shared} {σ:St} {H:Hp} {Q:St->Hp->Prop} (I:Inv X pins σ H s) (st:tn 0 s.heap) (hf:∀ b ∈ fp,FpOk X pins H b) (h:Loop g tc em J σ H Q)
  (hR:∀ s' σ' H',Inv X pins σ' H' s'->Q σ' H'->R (.ok .next) s'):codeAny (model X.prog X.w) X.A (.compLoop e d (.ref it) acc X.env) R s:=by
 obtain ⟨W,⟨m0,w0⟩,turn⟩:=h
 have stat:∀ {H':Hp},(∀ b ∈ fp,H' b = none)->∀ b ∈ fp,FpOk X pins H' b:=fun hn b hb=>⟨hn b hb,(hf b hb).2⟩
 have no:∀ {α:Type} {m:Sem α} {P:α->Shared->Prop} {E:Value->Shared->Prop} {s:Shared},wpAny (model X.prog X.w) X.A m P X.xe s->wpAny (model X.prog X.w) X.A m P E s:=fun q=>by
  rw [hxe] at q
  exact wpAny_mono q (fun _ _ z=>z) fun _ _ z=>z.elim
 refine codeAny_loop rfl (fun n s'=>∃ i σ' H',Inv X pins σ' H' s'/\tn i s'.heap/\(∀ b ∈ fp,H' b = none)/\W i n σ' H') (fun n s3 hI=>?_) m0 ⟨0,σ,H,I,st,fun b hb=>(hf b hb).1,w0⟩
 obtain ⟨i,σ3,H3,I3,st3,fr3,w3⟩:=hI
 rw [hun,hden]
 refine wpAny_noted ?_
 rw [hct]
 unfold turnOf
 refine wpAny_bind (wpAny_standAt (wpAny_bind ?_))
 rcases turn i n σ3 H3 w3 with ⟨stop,qn⟩ | ⟨go,step⟩
 ·refine wpAny_mono (T.done X rfl rfl rfl hc i pins s3 σ3 H3 _ I3 (stat fr3) st3 stop) (fun r s4 ⟨hr,I4⟩=>?_) fun _ _ z=>z
  subst hr
  exact wpAny_pure (hR s4 σ3 H3 I4 qn)
 ·refine wpAny_mono (T.item X rfl rfl rfl hc i pins s3 σ3 H3 _ I3 (stat fr3) st3 go) (fun r s4 ⟨u,hr,h4⟩=>?_) fun _ _ z=>z
  subst hr
  refine wpAny_bind (wpAny_mono h4 (fun _ s5 ⟨x,H5,I5,r5,y5,st5,fr5⟩=>?_) fun _ _ z=>z)
  have I5':=I5.pinned (stat fr5) (T.obj _ _ st5)
  have again:∀ {σ7:St} {H7:Hp} {s7:Shared},Inv X (pins ++ pinsAt fp s5.heap) σ7 H7 s7->(∃ m',m' < n/\W (i + 1) m' σ7 H7)->∃ m,m < n/\∃ i σ' H',Inv X pins σ' H' s7/\tn i s7.heap/\(∀ b ∈ fp,H' b = none)/\W i m σ' H':=fun {σ7 H7 s7} I7 n7=>by
   obtain ⟨m',hm,w7⟩:=n7
   refine ⟨m',hm,i + 1,σ7,H7,I7.unpinned,T.keep _ _ _ st5 fun b hb o e=>(I7.pin (b,o) (List.mem_append_right _ (List.mem_append_right _ (mem_pinsAt hb e)))).1,fun b hb=>?_,w7⟩
   obtain ⟨o,e,d⟩:=T.obj _ _ st5 b hb
   exact (I7.pin (b,o) (List.mem_append_right _ (List.mem_append_right _ (mem_pinsAt hb e)))).2.1
  refine wpAny_bind (wpAny_mono (no (hg _ s5 σ3 H5 x u _ I5' r5 (step x H5 y5))) (fun _ s6 ⟨σ6,H6,I6,q6⟩=>?_) fun _ _ z=>z)
  refine wpAny_bind (wpAny_mono (no (ht _ s6 σ6 H6 _ I6 q6)) (fun ok s7 ⟨H7,I7,q7⟩=>?_) fun _ _ z=>z)
  cases ok with
  | false=>exact wpAny_pure ⟨rfl,again I7 q7⟩
  | true =>
   exact hem _ s7 σ6 H7 _ _ _ _ I7 q7 fun s8 σ8 H8 I8 q8=>wpAny_pure ⟨rfl,again I8 q8⟩
theorem comp_start (hun:X.A.under (.compStart e d (.ref it) acc X.env) = X.A) (hden:(model X.prog X.w).den (.compStart e d (.ref it) acc X.env) = (compStart e d (.ref it) acc X.env).onRaise (fun x=>do noteFrame x X.env; standAt theWindowsPlace)) {gs:List Comprehension} (hgs:clausesOf e = gs) (hd:gs[d]? = some ⟨tg,iter,ifs,0⟩) {s:Shared} (T:Turn X.prog X.w X.K tg J fp it tn) (st:tn 0 s.heap)
  (h:codeAny (model X.prog X.w) X.A (.compLoop e d (.ref it) acc X.env) R s):codeAny (model X.prog X.w) X.A (.compStart e d (.ref it) acc X.env) R s:=by
 refine codeAny_of_tree ?_
 rw [hun,hden]
 refine wpAny_notedAt ?_
 unfold compStart
 rw [hgs,hd]
 show wpAny _ X.A (ask >>= _) _ _ s
 refine wpAny_bind (wpAny_askSetting (wpAny_ite ?_))
 have h1:=T.self X.A 0 s (fun it' s'=>codeAny (model X.prog X.w) X.A (.compLoop e d it' acc X.env) R s') (notedBy (model X.prog X.w) X.A X.env fun x s'=>R (.error x) s') st h
 split
 ·first
   | exact wpAny_bind (wpAny_pure (wpAny_pure (And.intro rfl h)))
   | exact wpAny_pure (And.intro rfl h)
 ·first
   | exact wpAny_bind (wpAny_rule (wpAny_bind (wpAny_standAt (wpAny_bind (wpAny_mono h1 (fun it' s' h'=>wpAny_pure (And.intro rfl h')) fun _ _ x=>x)))))
   | (refine wpAny_bind (wpAny_rule ?_); show wpAny _ _ (standAt iter.pos >>= _) _ _ s; exact wpAny_bind (wpAny_standAt (wpAny_bind (wpAny_mono h1 (fun it' s' h'=>wpAny_pure (And.intro rfl h')) fun _ _ x=>x))))
end
section
variable {X:Cx} {tg iter:Expr} {ifs:List Expr} {g:TG} {tc:TT} {em:TEm} {scope:Scope} {cl:List (Str × Addr)} {N':List Str} {cap:List (Option Nat)} {pos:Pos} {wi:TI}
noncomputable def tComp (wi:TI) (o:Addr->HO) (cap:List (Option Nat)) (lp:Addr->It->St->Hp->(St->Hp->Prop)->Prop):TE:=fun σ H Q=>wi σ H fun J H1=>∀ D,H1 D = none->lp D J (capS cap σ) (upd H1 D (o D)) fun _ H2=>Q (.ref D) H2
theorem comp_all {e:Expr} {gs:List Comprehension} {newAcc:Sem Value} {p2:Pos} (hcl:clausesOf e = ⟨tg,iter,ifs,0⟩ :: gs) (o:Addr->HO) (hs:∀ x,foldedSetIterable iter X.env x = pure x) (S:CScope X scope cl N' cap) (hc:X.calm = true) (hi:PI X tg iter wi)
  {lp:Addr->It->St->Hp->(St->Hp->Prop)->Prop}
  (hnew:∀ (pins:List (Addr × Obj)) (s:Shared) (σ:St) (H:Hp) (Q:Value->Shared->Prop) (E:Value->Shared->Prop),Inv X pins σ H s->(∀ s',Inv X pins σ (upd H s.heap.objs.size (o s.heap.objs.size)) s'->(∀ b ob,s.heap.get? b = some ob->s'.heap.get? b = some ob)->Q (.ref s.heap.objs.size) s')->wpAny (model X.prog X.w) X.A newAcc Q E s)
  (hlp:∀ (pins:List (Addr × Obj)) (ex:List Addr) (s3:Shared) (H3:Hp) (D it:Addr) (fp:List Addr) (tn:Nat->Heap->Prop) (J:It) (σ:St) (s:Shared) (H:Hp) (Q:St->Hp->Prop) (R:Result->Shared->Prop),
   Turn X.prog X.w X.K tg J fp it tn->Inv (cxC X scope cl N' pins ex s3 H3) [] σ H s->tn 0 s.heap->(∀ b ∈ fp,FpOk (cxC X scope cl N' pins ex s3 H3) [] H b)->lp D J σ H Q ->
   (∀ s' σ' H',Inv (cxC X scope cl N' pins ex s3 H3) [] σ' H' s'->Q σ' H'->R (.ok .next) s') ->
   codeAny (model X.prog X.w) X.A (.compLoop e 0 (.ref it) (.ref D) (compEnvC scope cl s3.heap.objs.size X.env)) R s)
  (hun:∀ it D env,X.A.under (.compStart e 0 (.ref it) (.ref D) env) = X.A) (hden:∀ it D env,(model X.prog X.w).den (.compStart e 0 (.ref it) (.ref D) env) = (compStart e 0 (.ref it) (.ref D) env).onRaise (fun x=>do noteFrame x env; standAt theWindowsPlace))
  (hev:∀ E Q s,wpAny (model X.prog X.w) X.A (comprehension e scope X.env p2 newAcc false (eval iter X.env)) Q E s->wpAny (model X.prog X.w) X.A (eval e X.env) Q E s) :
  PE X e (tComp wi o cap lp):=by
 intro pins s σ H Q I h
 refine hev _ _ _ (wpAny_comprehension_free (use:=none) hcl hs S.clos S.kind S.loc (thn (hi pins s σ H _ I h) fun v s1 h1=>thn h1 fun itv s2 h2=>?_))
 obtain ⟨it,fp,tn,J,H2,eit,I2,T,st2,f2,R2⟩:=h2
 subst eit
 refine hnew pins s2 σ H2 _ _ I2 fun s3 I3 k3=>?_
 have hD:H2 s2.heap.objs.size = none:=I2.hok.fresh (Nat.le_refl _)
 have fok:∀ b ∈ fp,FpOk X pins (upd H2 s2.heap.objs.size (o s2.heap.objs.size)) b/\∃ ob,s3.heap.get? b = some ob:=fun b hb=>by
  obtain ⟨ob,e,_⟩:=T.obj _ _ st2 b hb
  obtain ⟨f0,fr⟩:=f2 b hb
  exact ⟨⟨by rw [upd_ne (Nat.ne_of_lt (Heap.lt_size e))]; exact f0,fr⟩,ob,k3 b ob e⟩
 refine wpAny_newFunctionEnv S.nocell (by intro y hy; simp at hy) (fun h1 hns hsb=>?_) S.kind
 have hk:∀ b ob,s3.heap.get? b = some ob->h1.get? b = some ob:=fun b ob e=>(hsb.2 b (Nat.ne_of_lt (Heap.lt_size e))).trans (Heap.get?_push_of_some _ e)
 have I4:Inv (cxC X scope cl N' pins fp s3 (upd H2 s2.heap.objs.size (o s2.heap.objs.size))) [] (capS cap σ) (upd H2 s2.heap.objs.size (o s2.heap.objs.size)) { s3 with heap:=h1,toks:=s3.toks + ([]:List (Str × Value)).length } :=
  I3.block S hc fok hns hk
 have st4:tn 0 h1:=T.keep 0 _ _ st2 fun b hb ob e=>hk b ob (k3 b ob e)
 refine comp_start (X:=cxC X scope cl N' pins fp s3 (upd H2 s2.heap.objs.size (o s2.heap.objs.size))) (gs:=⟨tg,iter,ifs,0⟩ :: gs) (e:=e) (d:=0) (tg:=tg) (iter:=iter) (ifs:=ifs) (hun _ _ _) (hden _ _ _) hcl rfl T st4 ?_
 refine hlp pins fp s3 _ s2.heap.objs.size it fp tn J (capS cap σ) _ _ _ _ T I4 st4 (fun b hb=>?_) (R2 _ hD) fun s' σ' H' I' q'=>?_
 ·obtain ⟨⟨f0,f1,f2',f3,f4,f5⟩,ob,eo⟩:=fok b hb
  refine ⟨f0,Nat.ne_of_lt (Heap.lt_size eo),fun hf=>?_,.inl hb,fun x c e=>f4 x c (S.cin.get e),fun p hp=>f5 p (by simpa [cxC] using hp)⟩
  rcases List.mem_cons.mp (I3.stkSub b hf) with z | z
  ·exact f1 z
  ·exact f2' z
 ·obtain ⟨m,hn,_⟩:=I'.loc
  exact ⟨m,hn,fun h' hb=>⟨.ref _,H',I3.unblock (fun b hb=>(fok b hb).1) I' hb,rfl,q'⟩⟩
end
end L2
namespace L2
open PySem PySem.Spec PyProof.Rows
section
variable {X:Cx} {tg iter elt:Expr} {ifs:List Expr} {g:TG} {tc:TT} {te:TE} {scope:Scope} {cl:List (Str × Addr)} {N':List Str} {cap:List (Option Nat)} {pos:Pos} {wi:TI}
noncomputable def emLst (D:Addr) (te:TE):TEm:=fun σ H Q=>te σ H fun y H1=>∃ ys,H1 D = some (.lst ys)/\ys.length < sizeLine/\Q σ (upd H1 D (.lst (ys ++ [y])))
theorem no_exc {α:Type} {X:Cx} (hxe:X.xe = fun _ _=>False) {m:Sem α} {P:α->Shared->Prop} {E:Value->Shared->Prop} {s:Shared} (q:wpAny (model X.prog X.w) X.A m P X.xe s):wpAny (model X.prog X.w) X.A m P E s:=by
 rw [hxe] at q
 exact wpAny_mono q (fun _ _ z=>z) fun _ _ z=>z.elim
theorem pem_list {D:Addr} (hxe:X.xe = fun _ _=>False) (he:PE X elt te):PEm X (emL elt (.ref D) X.env) (emLst D te):=by
 intro pins s σ H Q k F E I h hk
 unfold emL
 refine wpAny_bind (wpAny_bind (wpAny_mono (no_exc hxe (he pins s σ H _ I h)) (fun u s1 ⟨y,H1,I1,r1,ys,e1,z1,q1⟩=>?_) fun _ _ z=>z))
 refine wpAny_bind (wpAny_mono (no_exc hxe (mt_append pins s1 σ H1 (.ref D) [y] (.ref D) [u] (fun v H2=>v = .non/\Q σ H2) I1 rfl (.cons r1 .nil) ⟨D,ys,y,rfl,rfl,e1,z1,rfl,q1⟩)) (fun v s2 ⟨y2,H2,I2,r2,_,q2⟩=>?_) fun _ _ z=>z)
 exact wpAny_pure (hk s2 σ H2 I2 q2)
theorem pe_lc (S:CScope X scope cl N' cap) (hc:X.calm = true) (hi:PI X tg iter wi)
  (hb:∀ (pins:List (Addr × Obj)) (ex:List Addr) (s3:Shared) (H3:Hp),PG (cxC X scope cl N' pins ex s3 H3) tg g/\PTs (cxC X scope cl N' pins ex s3 H3) ifs tc/\PE (cxC X scope cl N' pins ex s3 H3) elt te)
  (hs:∀ x,foldedSetIterable iter X.env x = pure x:=by intro _; rfl) :
  PE X (.ListComp elt [⟨tg,iter,ifs,0⟩] scope pos) (tComp wi (fun _=>.lst []) cap fun D J σ H Q=>Loop g tc (emLst D te) J σ H Q):=by
 refine comp_all (newAcc:=newList []) (p2:=firstIterPos [⟨tg,iter,ifs,0⟩] pos) rfl (fun _=>.lst []) hs S hc hi (fun pins s σ H Q E I h=>?_) (fun pins ex s3 H3 D it fp tn J σ s H Q R T I st hf h hR=>?_) (fun _ _ _=>rfl) (fun _ _ _=>rfl) (fun E Q s h=>h)
 ·refine wpAny_newList ?_
  exact h _ (I.lnew (t':=s.toks) (its:=[]) .nil (Nat.zero_le _)) fun b ob e=>Heap.get?_push_of_some _ e
 ·obtain ⟨b1,b2,b3⟩:=hb pins ex s3 H3
  exact comp_loop (X:=cxC X scope cl N' pins ex s3 H3) rfl rfl hc rfl (turnE_list elt tg iter ifs scope pos _ _ _) b1 b2 (pem_list rfl b3) T I st hf h hR
noncomputable def emDct (D:Addr) (tk tv:TE):TEm:=fun σ H Q=>tk σ H fun y H1=>tv σ H1 fun v H2=>∃ kvs k,H2 D = some (.dK kvs)/\y = kV k/\kvs.length < sizeLine/\Q σ (upd H2 D (.dK (putK kvs k v)))
theorem pem_dict {D:Addr} {a b:Expr} {ta tb:TE} (hxe:X.xe = fun _ _=>False) (ha:PE X a ta) (hb:PE X b tb):PEm X (emD a b D X.env) (emDct D ta tb):=by
 intro pins s σ H Q k F E I h hk
 unfold emD
 refine wpAny_bind (wpAny_bind (wpAny_mono (no_exc hxe (ha pins s σ H _ I h)) (fun u s1 ⟨y,H1,I1,r1,q1⟩=>?_) fun _ _ z=>z))
 refine wpAny_bind (wpAny_holding (wpAny_mono (no_exc hxe (hb pins s1 σ H1 _ I1 q1)) (fun r s2 ⟨v,H2,I2,rv,kvs,kk,e,ey,l,q2⟩=>?_) fun _ _ z=>z))
 refine wpAny_bind (wpAny_standAt (wpAny_holding ?_))
 subst ey
 obtain ⟨z,hd,vs,rel,dd⟩:=dk_of I2.hok e
 have hz:vs.length<=sizeLine:=by rw [<-rel.length]; exact z
 have hl:(putK kvs kk v).length<=sizeLine:=by have:=length_putK kvs kk v; omega
 refine wpAny_dictSet_pairs (hsz:=hz) (kV_is r1) dd fun h' dd' hs=>?_
 have he:∃ q,h'.get? D = some q:=let ⟨q,_,_,hq,_⟩:=dd'; ⟨q,hq⟩
 exact hk _ σ _ (d_write (t':=s2.toks + 1) I2 (by rw [e]; exact True.intro) hs he (dk_new hl hd (rel.put kk rv) dd')) q2
theorem pe_dc {a b:Expr} {ta tb:TE} (S:CScope X scope cl N' cap) (hc:X.calm = true) (hi:PI X tg iter wi)
  (hb:∀ (pins:List (Addr × Obj)) (ex:List Addr) (s3:Shared) (H3:Hp),PG (cxC X scope cl N' pins ex s3 H3) tg g/\PTs (cxC X scope cl N' pins ex s3 H3) ifs tc/\PE (cxC X scope cl N' pins ex s3 H3) a ta/\PE (cxC X scope cl N' pins ex s3 H3) b tb)
  (hs:∀ x,foldedSetIterable iter X.env x = pure x:=by intro _; rfl) :
  PE X (.DictComp a b [⟨tg,iter,ifs,0⟩] scope pos) (tComp wi (fun _=>.dK []) cap fun D J σ H Q=>Loop g tc (emDct D ta tb) J σ H Q):=by
 refine comp_all (newAcc:=newDict) (p2:=firstIterPos [⟨tg,iter,ifs,0⟩] pos) rfl (fun _=>.dK []) hs S hc hi (fun pins s σ H Q E I h=>?_) (fun pins ex s3 H3 D it fp tn J σ s H Q R T I st hf h hR=>?_) (fun _ _ _=>rfl) (fun _ _ _=>rfl) (fun E Q s h=>h)
 ·refine wpAny_newObj_type ?_
  exact h _ (I.laid (a:=s.heap.objs.size) (o:=.dK []) (t':=s.toks) (fun _ _ q=>Heap.get?_push_of_some _ q) (Nat.le_refl _) (dk_empty s.heap I.big)) fun b ob e=>Heap.get?_push_of_some _ e
 ·obtain ⟨b1,b2,b3,b4⟩:=hb pins ex s3 H3
  exact comp_loop (X:=cxC X scope cl N' pins ex s3 H3) rfl rfl hc rfl (turnE_dict a b tg iter ifs scope pos _ _ _) b1 b2 (pem_dict rfl b3 b4) T I st hf h hR
end
instance:LawfulBEq Key where
 rfl {a}:=by cases a with
  | inl i=>show (i == i) = true; simp
  | inr x=>show (x == x) = true; simp
 eq_of_beq {a b} h:=by
  cases a with
  | inl i=>cases b with
   | inl j=>exact congrArg Sum.inl (eq_of_beq (show (i == j) = true from h))
   | inr j=>exact absurd h (by intro z; cases z)
  | inr i=>cases b with
   | inl j=>exact absurd h (by intro z; cases z)
   | inr j=>exact congrArg Sum.inr (eq_of_beq (show (i == j) = true from h))
noncomputable def SetS (P:Program) (w:World) (a:Addr) (l:List Key):HO:=.ext fun h=>h.SetOf (mixKind P w) a (fun k=>decide (k ∈ l)) l.length
section
variable {X:Cx} {pins:List (Addr × Obj)} {σ:St} {H:Hp} {s:Shared} {a:Addr} {l:List Key}
theorem setOk {P:Program} {w:World} {H:Hp} {h:Heap} (z:h.SetOf (mixKind P w) a (fun k=>decide (k ∈ l)) l.length):ObjOk P w H h a (SetS P w a l) :=
 ⟨z,let ⟨o,_,_,_,e,_⟩:=z; ⟨o,e⟩,fun h1 h2 ⟨o,es,ep,t,e,r⟩ k=>⟨o,es,ep,t,k o e,r⟩⟩
theorem Inv.set (I:Inv X pins σ H s) (e:H a = some (SetS X.prog X.w a l)):s.heap.SetOf (mixKind X.prog X.w) a (fun k=>decide (k ∈ l)) l.length:=by
 obtain ⟨z,_⟩:=(show ObjOk X.prog X.w H s.heap a (SetS X.prog X.w a l) from I.hok a _ e)
 exact z
theorem key_scan {k:Key} {u:Value} (r:RelV (kV k) u):u.scannable = true:=by
 cases k with
 | inl i=>obtain ⟨t,rfl⟩:=r; rfl
 | inr x=>obtain ⟨t,rfl⟩:=r; rfl
noncomputable def addK (l:List Key) (k:Key):List Key:=if k ∈ l then l else l ++ [k]
theorem setOf_congr {P:Program} {w:World} {h:Heap} {S S':Key->Bool} {n n':Nat} (z:h.SetOf (mixKind P w) a S n) (e:∀ k,S' k = S k) (en:n' = n):h.SetOf (mixKind P w) a S' n':=by
 have:S' = S:=funext e
 subst this; subst en; exact z
theorem call_set0:CallR X (.type "set") (fun xs H Q=>xs = []/\∀ p,H p = none->Q (.ref p) (upd H p (SetS X.prog X.w p []))):=by
 intro pins s σ H xs us Q I r h
 obtain ⟨rfl,q⟩:=h
 cases r
 refine call_set_0 fun led=>⟨.ref s.heap.objs.size,_,I.laid (t':=s.toks) (fun b o e=>Heap.get?_push_of_some _ e) (Nat.le_refl _) (setOk ?_),rfl,q _ (I.hok.fresh (Nat.le_refl _))⟩
 exact (setObjOf_fresh led).setOf (Heap.get?_push_size _ rfl) (by decide)
noncomputable def rAddS (P:Program) (w:World):V->List V->Hp->VK->Prop:=fun x vs H Q=>∃ a l k,x = .ref a/\vs = [kV k]/\H a = some (SetS P w a l)/\l.length + 1 < 4096/\Q .non (upd H a (SetS P w a (addK l k)))
theorem mt_add:MtM X "set.add" (rAddS X.prog X.w):=by
 intro pins s σ H x vs v us Q I rx rv h
 obtain ⟨a,l,k,rfl,rfl,hH,hz,q⟩:=h
 cases rx
 obtain ⟨u,rfl,ru⟩:=rv.one
 refine call_set_add (kV_is ru) (key_scan ru) (I.set hH) hz fun h' hs z=>?_
 refine ⟨.non,_,I.write (x:=a) (e:=a) (t':=s.toks + 1) (by rw [hH]; exact True.intro) (.inl rfl) (fun b q hb e=>(hs.2 b hb).trans e) (let ⟨o,_,_,_,e,_⟩:=z; ⟨o,e⟩) (setOk (setOf_congr z (fun k'=>?_) ?_)),rfl,q⟩
 ·unfold addK
  by_cases e:k ∈ l
  ·rw [if_pos e]
   by_cases ek:k' = k
   ·subst ek; simp [e]
   ·simp [ek]
  ·rw [if_neg e]
   simp
 ·unfold addK
  by_cases e:k ∈ l
  ·rw [if_pos e]; simp [e]
  ·rw [if_neg e]; simp [e]
noncomputable def rInS (P:Program) (w:World) (neg:Bool):R2:=fun x y H Q=>∃ a l k,y = .ref a/\x = kV k/\H a = some (SetS P w a l)/\Q (.bl (if neg then !decide (k ∈ l) else decide (k ∈ l))) H
theorem op_in_set:OpR X (compareOp .In) (rInS X.prog X.w false):=by
 intro pins s σ H x y v u Q I rx ry h
 obtain ⟨a,l,k,rfl,rfl,hH,q⟩:=h
 cases ry
 exact wpAny_inSet_of (kV_is rx) (key_scan rx) (I.set hH) ⟨.bl (decide (k ∈ l)),H,I.tok _,rfl,q⟩
end
end L2
namespace L2
open PySem PySem.Spec PyProof.Rows
noncomputable def Its (x:Str):It:=⟨fun i _=>i < x.cps.size,fun i H v H'=>H' = H/\∃ c,x.cps[i]? = some c/\v = .str ⟨#[c]⟩,fun i _=>i = x.cps.size⟩
theorem turn_str {P:Program} {w:World} {K:PySem.W.Frag} {tg:Expr} (it:Addr) (x:Str) (t:Tok) (ty:String) (hty:["enumerate", "zip", "dict_itemiterator", "dict_reverseitemiterator", "odict_iterator", "itertools.zip_longest", "itertools.pairwise"].contains ty = false)
  (W:∀ A':Around,A'.handled = none->Walks P w A' it [it] [it] x.cps.size (SignAt x) (fun i h=>h.IsStrIter it ty x t i))
  (hself:∀ (A:Around) (i:Nat) (s:Shared) (Q:Value->Shared->Prop) (E:Value->Shared->Prop),s.heap.IsStrIter it ty x t i->Q (.ref it) s->wpAny (model P w) A (pyIter (.ref it)) Q E s):Turn P w K tg (Its x) [it] it (fun i h=>h.IsStrIter it ty x t i) where
 mem:=by simp
 obj:=fun i h st b hb=>by
  have e:b = it:=by simpa using hb
  subst e
  obtain ⟨o,e,c,d⟩:=st
  exact ⟨o,e,fun v z=>by rw [d] at z; cases z⟩
 keep:=fun i h h' st k=>let ⟨o,e,r⟩:=st; ⟨o,k it (by simp) o e,r⟩
 item:=by
  intro X hP hw hK hc i pins s σ H E I hf st hg
  subst hP hw hK
  obtain ⟨f0,f1,f2,f3,f4,f5⟩:=hf it (by simp)
  refine (W X.A (I.ok.hd hc)).item i s _ _ hg st fun v h' tk hv st' k=>?_
  obtain ⟨c,u,ec,ev⟩:=hv
  have I1:Inv X pins σ H { s with heap:=h',toks:=tk }:=I.turned (fun b o hb e=>k b o (by simpa using hb) e) f0 f1 f3 f4 f5
  obtain ⟨o,e,c',d⟩:=id st'
  exact ⟨v,rfl,go_of (s:={ s with heap:=h',toks:=tk }) e c' d hty ⟨.str ⟨#[c]⟩,H,I1,⟨u,ev⟩,⟨rfl,c,ec,rfl⟩,st',fun b hb=>(hf b hb).1⟩⟩
 done:=by
  intro X hP hw hK hc i pins s σ H E I hf st hg
  subst hP hw hK
  obtain ⟨f0,f1,f2,f3,f4,f5⟩:=hf it (by simp)
  have hg':i = x.cps.size:=hg
  subst hg'
  exact (W X.A (I.ok.hd hc)).done s _ _ st fun h' tk k=>⟨rfl,I.turned (fun b o hb e=>k b o (by simpa using hb) e) f0 f1 f3 f4 f5⟩
 self:=fun A i s Q E st h=>hself A i s Q E st h
section
variable {X:Cx} {tg:Expr}
noncomputable def iStr (te:TE):TI:=fun σ H R=>te σ H fun x H1=>∃ z,x = .str z/\R (Its z) H1
theorem pi_str {l:Expr} {tl:TE} (hl:PE X l tl):PI X tg l (iStr tl):=by
 intro pins s σ H R I h
 refine thn (hl pins s σ H _ I h) fun v s1 ⟨x,H1,I1,r1,q1⟩=>?_
 obtain ⟨z,e,q⟩:=q1
 subst e
 obtain ⟨t,rfl⟩:=r1
 have fin:∀ (o:Obj) (ty:String),o.cls = .type ty->o.data = .fields #[.str z t,.int (0:Nat) 0]->o.isFreed = false->Turn X.prog X.w X.K tg (Its z) [s1.heap.objs.size] s1.heap.objs.size (fun i h=>h.IsStrIter s1.heap.objs.size ty z t i) ->
   PIE X pins σ tg R (.ref s1.heap.objs.size) { s1 with heap:=s1.heap.push o }:=fun o ty c d hf T=>by
  refine ⟨s1.heap.objs.size,[s1.heap.objs.size],_,_,H1,rfl,I1.kept (t':=s1.toks) fun b o e=>Heap.get?_push_of_some _ e,T,⟨o,Heap.get?_push_size _ hf,c,d⟩,fun b hb=>?_,q⟩
  have e:b = s1.heap.objs.size:=by simpa using hb
  subst e
  exact I1.fpOk (Nat.le_refl _) (I1.hok.fresh (Nat.le_refl _))
 cases ha:z.cps.all (· < 128)
 ·exact wpAny_pyIter_wide ha (fin _ _ rfl rfl rfl (turn_str _ z t "str_iterator" (by decide) (fun A' hA=>Walks.strWide hA _ z t) fun A i s Q E st h=>wpAny_pyIter_striter_wide st h))
 ·exact wpAny_pyIter_ascii ha (fin _ _ rfl rfl rfl (turn_str _ z t "str_ascii_iterator" (by decide) (fun A' hA=>Walks.strAscii hA _ z t) fun A i s Q E st h=>wpAny_pyIter_striter_ascii st h))
end
section
variable {X:Cx}
theorem call_all (hc:X.calm = true):CallR X (.builtin "all") (fun xs H Q=>∃ (p:Addr) (bs:List Bool),xs = [.ref p]/\SqL X.K H p (bs.map V.bl)/\Q (.bl (bs.all id)) H):=by
 intro pins s σ H xs us Q I r h
 obtain ⟨p,bs,rfl,hq,q⟩:=h
 obtain ⟨u,rfl,ru⟩:=vals1 r
 cases ru
 obtain ⟨its,rv,pl,hz⟩:=I.list hq
 refine call_all_walk (wpAny_pyIter_list pl.isList ?_)
 have hne:p ≠ s.heap.objs.size:=by
  obtain ⟨o,n,e,_⟩:=pl
  exact Nat.ne_of_lt (Heap.lt_size e)
 refine ⟨s.heap.objs.size,_,_,_,_,_,fun i=>bs.getD i true,rfl,Walks.list (A:=X.A.in1) (show X.A.in1.handled = none from I.ok.hd hc) _ p hne its.toArray,⟨⟨_,Heap.get?_push_size _ rfl,rfl,rfl⟩,?_⟩,fun i v s' Q' E' hv q'=>?_,fun h' tk k=>?_⟩
 ·obtain ⟨o,n,e,c,d,e2⟩:=pl
  exact ⟨o,Heap.get?_push_of_some _ e,c,n,e2⟩
 ·have hb:(bs.map V.bl)[i]? = some (V.bl (bs.getD i true))/\RelV (V.bl (bs.getD i true)) v:=by
   have hv':its[i]? = some v:=by simpa using hv
   have hi:i < its.length:=(List.getElem?_eq_some_iff.mp hv').1
   have hl:=rv.length
   rw [List.length_map] at hl
   have e:(bs.map V.bl)[i]? = some (V.bl (bs.getD i true)):=by
    rw [List.getElem?_map,List.getElem?_eq_getElem (by omega)]
    simp [List.getD_eq_getElem?_getD,List.getElem?_eq_getElem (show i < bs.length by omega)]
   obtain ⟨u,hu,ru⟩:=rv.get e
   rw [hv'] at hu
   cases hu
   exact ⟨e,ru⟩
  cases hb.2
  exact wpAny_truthy_bool q'
 ·have hl:=rv.length
  rw [List.length_map] at hl
  have e:(List.range its.toArray.size).all (fun i=>bs.getD i true) = bs.all id:=by
   rw [List.size_toArray,<-hl]
   rw [Bool.eq_iff_iff,List.all_eq_true,List.all_eq_true]
   constructor
   ·intro z b hb
    obtain ⟨i,hi,rfl⟩:=List.mem_iff_getElem.mp hb
    have:=z i (List.mem_range.mpr hi)
    simpa [List.getD_eq_getElem?_getD,List.getElem?_eq_getElem hi] using this
   ·intro z i hi
    have hi':=List.mem_range.mp hi
    have:=z bs[i] (List.getElem_mem hi')
    simpa [List.getD_eq_getElem?_getD,List.getElem?_eq_getElem hi'] using this
  rw [e]
  exact ⟨.bl (bs.all id),H,I.kept fun b o eb=>k b o (by
   intro hb
   have:b = s.heap.objs.size:=by simpa using hb
   exact absurd (Heap.lt_size eb) (by rw [this]; exact Nat.lt_irrefl _)) (Heap.get?_push_of_some _ eb),rfl,q⟩
theorem strsAre_of:∀ {ss:List Str} {us:List Value},Vals (ss.map V.str) us->StrsAre us ss
 | [],_,.nil=>.nil
 | _ :: _,_,.cons ⟨t,e⟩ r=>by subst e; exact .cons _ _ (strsAre_of r)
noncomputable def leS (a b:Str):Prop:=¬ b.cps.toList < a.cps.toList
theorem call_sortedS:CallR X (.builtin "sorted") (fun xs H Q=>∃ (p:Addr) (ss:List Str),xs = [.ref p]/\SqL X.K H p (ss.map V.str)/\∀ (l:Addr) (ss':List Str),H l = none->ss'.Perm ss->ss'.Pairwise leS->Q (.ref l) (upd H l (.lst (ss'.map V.str)))):=by
 intro pins s σ H xs us Q I r h
 obtain ⟨p,ss,rfl,hq,q⟩:=h
 obtain ⟨u,rfl,ru⟩:=vals1 r
 cases ru
 obtain ⟨its,rv,pl,hz⟩:=I.list hq
 have hS:=strsAre_of rv
 have hl:=rv.length
 refine TS.sorted_gen (collect_list (vs:=its) pl.isList ?_ (by omega))
 refine ⟨rfl,by omega,strKind,oneType',fun s2 _=>TS.keys_strs hS,fun out h' e ho k hg=>?_⟩
 have hsz:((s.heap.push (seqObj "list" #[] 0)).update s.heap.objs.size (Obj.mapSeq (· ++ its.toArray))).objs.size = s.heap.objs.size + 1:=by rw [Heap.size_update,size_push']
 obtain ⟨hp,hs⟩:=ho
 have hm:∀ v ∈ out.toList,∃ x t,v = .str x t:=fun v hv=>hS.all v (hp.mem_iff.mp hv)
 have hv:Vals ((out.toList.map strOf).map V.str) out.toList:=by
  have:∀ us:List Value,(∀ v ∈ us,∃ x t,v = .str x t)->Vals ((us.map strOf).map V.str) us:=by
   intro us
   induction us with
   | nil=>exact fun _=>.nil
   | cons v r ih =>
    intro h
    obtain ⟨x,t,rfl⟩:=h v (List.mem_cons_self ..)
    exact .cons ⟨t,rfl⟩ (ih fun u hu=>h u (List.mem_cons_of_mem _ hu))
  exact this _ hm
 have hperm:(out.toList.map strOf).Perm ss:=by
  have:=hp.map strOf
  rwa [hS.strs] at this
 have hpw:(out.toList.map strOf).Pairwise leS:=by
  rw [List.pairwise_map]
  refine (List.Pairwise.and_mem.mp hs).imp fun {u v} ⟨hu,hv',q⟩=>?_
  obtain ⟨x,t,rfl⟩:=hm u hu
  obtain ⟨y,t',rfl⟩:=hm v hv'
  have q':decide (y.cps.toList < x.cps.toList) = false:=q
  exact of_decide_eq_false q'
 have hk0:∀ b o,s.heap.get? b = some o->h'.get? b = some o:=fun b o eb=>k b o (by
  rw [Heap.get?_update_ne _ _ _ _ (Nat.ne_of_lt (Heap.lt_size eb))]
  exact Heap.get?_push_of_some _ eb)
 have hn:H (s.heap.objs.size + 1) = none:=I.hok.fresh (Nat.le_succ _)
 have hg':h'.get? (s.heap.objs.size + 1) = some (seqObj "list" out e):=by rw [<-hsz]; exact hg
 refine ⟨.ref (s.heap.objs.size + 1),upd H (s.heap.objs.size + 1) (.lst ((out.toList.map strOf).map V.str)),?_,by show Value.ref _ = _; rw [<-hsz],q _ _ hn hperm hpw⟩
 refine I.laid (t':=s.toks) hk0 (Nat.le_succ _) ⟨?_,out.toList,e,hv,by simpa using hg'⟩
 rw [List.length_map,List.length_map,hp.length_eq]
 omega
end
end L2
namespace L2
open PySem PySem.Spec PyProof.Rows
theorem perm_map_inv {α β:Type} (f:α->β) {l m:List β} (h:l.Perm m):∀ ps:List α,m = ps.map f->∃ ps':List α,ps'.Perm ps/\l = ps'.map f:=by
 induction h with
 | nil=>intro ps e; exact ⟨ps,.refl _,e⟩
 | cons x _ ih =>
  intro ps e
  cases ps with
  | nil=>cases e
  | cons p ps =>
   rw [List.map_cons] at e
   obtain ⟨rfl,e2⟩:=List.cons.inj e
   obtain ⟨ps',h1,h2⟩:=ih ps e2
   exact ⟨p :: ps',.cons _ h1,by rw [List.map_cons,h2]⟩
 | swap x y l =>
  intro ps e
  match ps,e with
  | p :: q :: ps,e =>
   rw [List.map_cons,List.map_cons] at e
   obtain ⟨rfl,e2⟩:=List.cons.inj e
   obtain ⟨rfl,e3⟩:=List.cons.inj e2
   exact ⟨q :: p :: ps,.swap _ _ _,by rw [List.map_cons,List.map_cons,e3]⟩
 | trans _ _ ih1 ih2 =>
  intro ps e
  obtain ⟨ps1,h1,h2⟩:=ih2 ps e
  obtain ⟨ps2,h3,h4⟩:=ih1 ps1 h2
  exact ⟨ps2,h3.trans h1,h4⟩
noncomputable abbrev PA2:=Addr × Str × Str
noncomputable def pkey (q:PA2):List Nat × List Nat:=(q.2.1.cps.toList,q.2.2.cps.toList)
noncomputable def leP (q r:PA2):Prop:=TS.pairLt (pkey r) (pkey q) = false
noncomputable def PairIn (H:Hp) (q:PA2):Prop:=H q.1 = some (.tup [.str q.2.1,.str q.2.2])
theorem vals_refs:∀ {ps:List PA2} {us:List Value},Vals (ps.map fun q=>V.ref q.1) us->us = ps.map fun q=>Value.ref q.1
 | [],_,.nil=>rfl
 | _ :: _,_,.cons r t=>by rw [List.map_cons,vals_refs t]; cases r; rfl
theorem refs_vals:∀ (ps:List PA2),Vals (ps.map fun q=>V.ref q.1) (ps.map fun q=>Value.ref q.1)
 | []=>.nil
 | _ :: ps=>.cons rfl (refs_vals ps)
section
variable {X:Cx}
theorem Inv.pairAt {pins:List (Addr × Obj)} {σ:St} {H:Hp} {s:Shared} {q:PA2} (I:Inv X pins σ H s) (h:PairIn H q):TS.PairAt s.heap (.ref q.1) q.2.1 q.2.2:=by
 obtain ⟨its,rv,⟨o,e,c,n,d⟩,_⟩:=I.tuple (SqT.of h)
 obtain ⟨u1,u2,rfl,⟨t,rfl⟩,⟨t',rfl⟩⟩:=rv.two
 exact ⟨q.1,o,n,t,t',rfl,e,c,d⟩
theorem call_sortedP:CallR X (.builtin "sorted") (fun xs H Q=>∃ (p:Addr) (ps:List PA2),xs = [.ref p]/\SqL X.K H p (ps.map fun q=>V.ref q.1)/\(∀ q ∈ ps,PairIn H q) /\
  ∀ (l:Addr) (ps':List PA2),H l = none->ps'.Perm ps->ps'.Pairwise leP->Q (.ref l) (upd H l (.lst (ps'.map fun q=>V.ref q.1)))):=by
 intro pins s σ H xs us Q I r h
 obtain ⟨p,ps,rfl,hq,hpi,q⟩:=h
 obtain ⟨u,rfl,ru⟩:=vals1 r
 cases ru
 obtain ⟨its,rv,pl,hz⟩:=I.list hq
 have ei:=vals_refs rv
 have hl:=rv.length
 refine TS.sorted_gen (collect_list (vs:=its) pl.isList ?_ (by omega))
 have hsz:((s.heap.push (seqObj "list" #[] 0)).update s.heap.objs.size (Obj.mapSeq (· ++ its.toArray))).objs.size = s.heap.objs.size + 1:=by rw [Heap.size_update,size_push']
 have hk1:∀ b o,s.heap.get? b = some o->((s.heap.push (seqObj "list" #[] 0)).update s.heap.objs.size (Obj.mapSeq (· ++ its.toArray))).get? b = some o:=fun b o eb=>by
  rw [Heap.get?_update_ne _ _ _ _ (Nat.ne_of_lt (Heap.lt_size eb))]
  exact Heap.get?_push_of_some _ eb
 have hpa:∀ q ∈ ps,TS.PairAt s.heap (.ref q.1) q.2.1 q.2.2:=fun q hq=>I.pairAt (hpi q hq)
 refine ⟨rfl,by omega,TS.pairKind s.heap,tuples' true,fun s2 hE=>TS.keys_pairs (fun v hv=>?_) (fun b o eb=>?_),fun out h' e ho k hg=>?_⟩
 ·rw [ei] at hv
  obtain ⟨q,hq,rfl⟩:=List.mem_map.mp hv
  exact ⟨_,_,hpa q hq⟩
 ·have hne:b ≠ ((s.heap.push (seqObj "list" #[] 0)).update s.heap.objs.size (Obj.mapSeq (· ++ its.toArray))).objs.size:=by
   rw [hsz]
   exact Nat.ne_of_lt (Nat.lt_succ_of_lt (Heap.lt_size eb))
  exact ⟨hne,hE b o hne (hk1 b o eb)⟩
 ·obtain ⟨hp,hs⟩:=ho
  rw [ei] at hp
  obtain ⟨ps',h1,h2⟩:=perm_map_inv (fun q:PA2=>Value.ref q.1) hp ps rfl
  have hpw:ps'.Pairwise leP:=by
   rw [h2,List.pairwise_map] at hs
   refine (List.Pairwise.and_mem.mp hs).imp fun {a b} ⟨ha,hb,z⟩=>?_
   have ka:=(hpa a (h1.mem_iff.mp ha)).key
   have kb:=(hpa b (h1.mem_iff.mp hb)).key
   have z':TS.pairLt ((TS.pairOf s.heap (.ref b.1)).getD ([],[])) ((TS.pairOf s.heap (.ref a.1)).getD ([],[])) = false:=z
   rw [ka,kb] at z'
   exact z'
  have hn:H (s.heap.objs.size + 1) = none:=I.hok.fresh (Nat.le_succ _)
  have hg':h'.get? (s.heap.objs.size + 1) = some (seqObj "list" out e):=by rw [<-hsz]; exact hg
  refine ⟨.ref (s.heap.objs.size + 1),upd H (s.heap.objs.size + 1) (.lst (ps'.map fun q=>V.ref q.1)),?_,by show Value.ref _ = _; rw [<-hsz],q _ _ hn h1 hpw⟩
  refine I.laid (t':=s.toks) (fun b o eb=>k b o (hk1 b o eb)) (Nat.le_succ _) ⟨?_,out.toList,e,by rw [h2]; exact refs_vals ps',by simpa using hg'⟩
  rw [List.length_map,h1.length_eq]
  rw [List.length_map] at hz
  exact hz
end
theorem Inv.turnLaid {X:Cx} {pins:List (Addr × Obj)} {σ:St} {H:Hp} {s:Shared} {h':Heap} {t':Nat} {fp:List Addr} {T:Addr} {o:HO} (I:Inv X pins σ H s) (k:∀ b ob,b ∉ fp->s.heap.get? b = some ob->h'.get? b = some ob)
  (hf:∀ b ∈ fp,FpOk X pins H b) (hfo:∀ b ∈ fp,∃ ob,s.heap.get? b = some ob) (hT:s.heap.objs.size<=T) (new:ObjOk X.prog X.w (upd H T o) h' T o):Inv X pins σ (upd H T o) { s with heap:=h',toks:=t' }:=by
 have hn:=I.hok.fresh hT
 have nT:∀ b ob,s.heap.get? b = some ob->b ≠ T:=fun b ob e=>Nat.ne_of_lt (Nat.lt_of_lt_of_le (Heap.lt_size e) hT)
 have nf:∀ b u,H b = some u->b ∉ fp:=fun b u e hb=>by rw [(hf b hb).1] at e; cases e
 refine I.step (g':=s.gens) (d':=s.drawn) (ch:=fp) (fun b hb=>let ⟨_,f1,_,f3,f4,f5⟩:=hf b hb; ⟨f3,f1,f4,f5⟩) (fun b ob _ _ hc e _=>k b ob hc e) (fun b ob _ _ hc e _=>⟨ob.slots,k b ob hc e⟩) (fun b ob _ e n=>by rw [upd_ne (nT b ob e)]; exact n)
  (fun b ob hc e=>⟨ob,k b ob hc e⟩) (fun b xs e=>by rw [upd_ne (ne_of_none e hn)]; exact e) (fun b u xs e=>by rw [upd_ne (ne_of_none e hn)]; exact e) (fun b ps e=>⟨#[],by rw [upd_ne (ne_of_none e hn),e]; simp⟩) (fun m hm=>?_) (fun b u e=>?_) I.bare
 ·obtain ⟨ob,es,ep,ho,r⟩:=hm
  exact ⟨ob,es,ep,k _ ob (fun hb=>(hf _ hb).2.1 rfl) ho,r⟩
 ·by_cases hb:b = T
  ·subst hb; rw [upd_same] at e; cases e; exact new
  ·rw [upd_ne hb] at e
   refine (I.hok b u e).stay (fun c v hc q=>k c v ?_ q) (fun c q=>by rw [upd_ne (ne_of_none q hn)]; exact q) fun c xs q=>by rw [upd_ne (ne_of_none q hn)]; exact q
   rcases hc with z | z
   ·rw [z]; exact nf b u e
   ·exact nf c _ z
end L2
namespace ST
open PySem
noncomputable def stp (mask i:Nat):Nat:=(5 * i + 1) % (mask + 1)
noncomputable def itr (mask:Nat):Nat->Nat->Nat
 | 0,i=>i
 | t + 1,i=>itr mask t (stp mask i)
noncomputable def orb (mask:Nat):Nat->Nat->List Nat
 | 0,_=>[]
 | n + 1,i=>i :: orb mask n (stp mask i)
theorem itr_add (mask a b i:Nat):itr mask (a + b) i = itr mask b (itr mask a i):=by
 induction a generalizing i with
 | zero=>rw [Nat.zero_add]; rfl
 | succ a ih=>rw [Nat.succ_add]; exact ih (stp mask i)
theorem mem_orb {mask j:Nat}:∀ {n i:Nat},j ∈ orb mask n i->∃ t,t < n/\itr mask t i = j
 | 0,_,h=>by simp [orb] at h
 | n + 1,i,h=>by
  rcases List.mem_cons.mp h with rfl | h
  ·exact ⟨0,by omega,rfl⟩
  ·obtain ⟨t,h1,h2⟩:=mem_orb h
   exact ⟨t + 1,by omega,h2⟩
noncomputable def Msk (mask:Nat):Prop:=mask = 7\/mask = 31\/mask = 127\/mask = 511
noncomputable def full (mask:Nat):Bool:=(List.range (mask + 1)).all (fun j=>(orb mask (mask + 1) 0).contains j) && itr mask (mask + 1) 0 == 0
theorem full7:full 7 = true:=by decide +kernel
theorem full31:full 31 = true:=by decide +kernel
theorem full127:full 127 = true:=by decide +kernel
theorem full511:full 511 = true:=by decide +kernel
theorem Msk.full {mask:Nat} (h:Msk mask):full mask = true:=by
 rcases h with rfl | rfl | rfl | rfl
 ·exact full7
 ·exact full31
 ·exact full127
 ·exact full511
theorem cyc {mask:Nat} (h:Msk mask) {i j:Nat} (hi:i<=mask) (hj:j<=mask):∃ t,t<=mask/\itr mask t i = j:=by
 have f:=h.full
 unfold ST.full at f
 rw [Bool.and_eq_true,List.all_eq_true] at f
 obtain ⟨f1,f2⟩:=f
 have f2:itr mask (mask + 1) 0 = 0:=by simpa using f2
 have at_:∀ k,k<=mask->∃ t,t < mask + 1/\itr mask t 0 = k:=fun k hk=>mem_orb (by simpa using f1 k (List.mem_range.mpr (by omega)))
 obtain ⟨a,ha,ea⟩:=at_ i hi
 obtain ⟨b,hb,eb⟩:=at_ j hj
 by_cases hab:a<=b
 ·refine ⟨b - a,by omega,?_⟩
  rw [<-ea,<-itr_add,show a + (b - a) = b by omega,eb]
 ·refine ⟨mask + 1 - a + b,by omega,?_⟩
  rw [<-ea,<-itr_add,show a + (mask + 1 - a + b) = (mask + 1) + b by omega,itr_add,f2,eb]
noncomputable def lps (mask:Nat):Nat->Nat × Nat->Nat × Nat
 | 0,x=>x
 | t + 1,x=>lps mask t (SetTable.leap mask x.1 x.2)
theorem lps_add (mask a b:Nat) (x:Nat × Nat):lps mask (a + b) x = lps mask b (lps mask a x):=by
 induction a generalizing x with
 | zero=>rw [Nat.zero_add]; rfl
 | succ a ih=>rw [Nat.succ_add]; exact ih _
theorem lps_pert (mask:Nat):∀ (t:Nat) (x:Nat × Nat),(lps mask t x).2 = x.2 / 32 ^ t
 | 0,x=>by simp [lps]
 | t + 1,x=>by
  show (lps mask t (SetTable.leap mask x.1 x.2)).2 = _
  rw [lps_pert mask t]
  show x.2 / 32 / 32 ^ t = _
  rw [Nat.div_div_eq_div_mul,Nat.pow_succ,Nat.mul_comm]
theorem lps_le (mask:Nat):∀ (t:Nat) (x:Nat × Nat),x.1<=mask->(lps mask t x).1<=mask
 | 0,_,h=>h
 | t + 1,x,_=>lps_le mask t _ (Nat.lt_succ_iff.mp (Nat.mod_lt _ (Nat.succ_pos _)))
theorem lps_zero (mask:Nat):∀ (t i:Nat),lps mask t (i,0) = (itr mask t i,0)
 | 0,_=>rfl
 | t + 1,i=>by
  show lps mask t ((i * 5 + 1 + 0 / 32) % (mask + 1),0 / 32) = _
  rw [Nat.zero_div,Nat.add_zero,lps_zero mask t,Nat.mul_comm]
  rfl
theorem lps_all {mask:Nat} (h:Msk mask) {i j p:Nat} (hi:i<=mask) (hj:j<=mask) (hp:p < 2 ^ 64):∃ t,t<=mask + 13/\(lps mask t (i,p)).1 = j:=by
 have e2:(lps mask 13 (i,p)).2 = 0:=by
  rw [lps_pert]
  exact Nat.div_eq_of_lt (Nat.lt_of_lt_of_le hp (by decide))
 obtain ⟨t,ht,et⟩:=cyc h (lps_le mask 13 (i,p) hi) hj
 refine ⟨13 + t,by omega,?_⟩
 rw [lps_add]
 have:lps mask 13 (i,p) = ((lps mask 13 (i,p)).1,0):=Prod.ext rfl e2
 rw [this,lps_zero]
 exact et
noncomputable def adv (t:SetTable):Nat->SetTable.Probe->SetTable.Probe
 | 0,p=>p
 | n + 1,p=>adv t n (t.advance p)
theorem adv_add (t:SetTable) (a b:Nat) (p:SetTable.Probe):adv t (a + b) p = adv t b (adv t a p):=by
 induction a generalizing p with
 | zero=>rw [Nat.zero_add]; rfl
 | succ a ih=>rw [Nat.succ_add]; exact ih _
theorem adv_run (t:SetTable):∀ (m:Nat) (p:SetTable.Probe),p.more = m->∃ p',adv t (m + 1) p = p'/\p'.i = (SetTable.leap t.mask p.i p.perturb).1/\p'.perturb = (SetTable.leap t.mask p.i p.perturb).2/\p'.j = p'.i/\p'.more = SetTable.runEnd t.mask p'.i - p'.i/\p'.dummy = p.dummy
 | 0,p,h=>by
  have ea:t.advance p = { p with j:=(SetTable.leap t.mask p.i p.perturb).1,more:=SetTable.runEnd t.mask (SetTable.leap t.mask p.i p.perturb).1 - (SetTable.leap t.mask p.i p.perturb).1,i:=(SetTable.leap t.mask p.i p.perturb).1,perturb:=(SetTable.leap t.mask p.i p.perturb).2 }:=by
   unfold SetTable.advance
   rw [if_neg (by omega)]
  refine ⟨t.advance p,rfl,?_⟩
  rw [ea]
  exact ⟨rfl,rfl,rfl,rfl,rfl⟩
 | m + 1,p,h=>by
  have ea:t.advance p = { p with j:=p.j + 1,more:=p.more - 1 }:=by unfold SetTable.advance; rw [if_pos (by omega)]
  obtain ⟨p',h1,h2⟩:=adv_run t m (t.advance p) (by rw [ea]; show p.more - 1 = m; omega)
  rw [ea] at h2
  exact ⟨p',h1,h2⟩
theorem run_le (mask i:Nat):SetTable.runEnd mask i - i<=9:=by unfold SetTable.runEnd; split <;> omega
theorem adv_lps (t:SetTable):∀ (n:Nat) (p:SetTable.Probe),p.j = p.i->p.more = SetTable.runEnd t.mask p.i - p.i->∃ k,k<=10 * n/\(adv t k p).j = (lps t.mask n (p.i,p.perturb)).1
 | 0,p,h1,_=>⟨0,by omega,h1⟩
 | n + 1,p,h1,h2=>by
  obtain ⟨p',e,a1,a2,a3,a4,_⟩:=adv_run t p.more p rfl
  obtain ⟨k,hk,ek⟩:=adv_lps t n p' a3 a4
  have:=run_le t.mask p.i
  refine ⟨p.more + 1 + k,by omega,?_⟩
  rw [adv_add,e,ek,a1,a2]
  rfl
theorem adv_dummy (t:SetTable):∀ (n:Nat) (p:SetTable.Probe),(adv t n p).dummy = p.dummy
 | 0,_=>rfl
 | n + 1,p=>by
  show (adv t n (t.advance p)).dummy = _
  rw [adv_dummy t n]
  unfold SetTable.advance
  split <;> rfl
theorem probe_all {t:SetTable} (hm:Msk t.mask) (h:Int) {j:Nat} (hj:j<=t.mask):∃ n,n < 10 * SetTable.turns t.mask/\(adv t n (t.probeStart h)).j = j:=by
 have hb:SetTable.bits h < 2 ^ 64:=by
  unfold SetTable.bits
  have h1:0<=h % (2 ^ 64:Int):=Int.emod_nonneg _ (by decide)
  have h2:h % (2 ^ 64:Int) < 2 ^ 64:=Int.emod_lt_of_pos _ (by decide)
  omega
 have hi:SetTable.bits h % (t.mask + 1)<=t.mask:=Nat.lt_succ_iff.mp (Nat.mod_lt _ (Nat.succ_pos _))
 obtain ⟨n,hn,en⟩:=lps_all hm hi hj hb
 obtain ⟨k,hk,ek⟩:=adv_lps t n (t.probeStart h) rfl rfl
 refine ⟨k,by unfold SetTable.turns; omega,ek.trans en⟩
theorem slot_cases {t:SetTable} (hd:t.dummies = #[]) (j:Nat):t.slot j = .empty\/∃ i,t.slot j = .live i/\t.place[i]? = some j:=by
 unfold SetTable.slot
 dsimp only
 by_cases h:(t.place[SetTable.below t.place j]? == some j) = true
 ·rw [if_pos h]
  exact .inr ⟨_,rfl,by simpa using h⟩
 ·rw [if_neg h]
  have:SetTable.has t.dummies j = false:=by
   rw [hd]
   unfold SetTable.has
   simp
  rw [this]
  exact .inl rfl
theorem some_empty {t:SetTable} (hd:t.dummies = #[]) (hs:t.place.size<=t.mask):∃ j,j<=t.mask/\t.slot j = .empty:=by
 by_cases h:∃ j,j<=t.mask/\t.slot j = .empty
 ·exact h
 ·exfalso
  have all:∀ j ∈ List.range (t.mask + 1),j ∈ t.place.toList:=fun j hj=>by
   have hj':j<=t.mask:=by have:=List.mem_range.mp hj; omega
   rcases slot_cases hd j with e | ⟨i,_,e⟩
   ·exact absurd ⟨j,hj',e⟩ h
   ·exact List.mem_of_getElem? (by rw [Array.getElem?_toList]; exact e)
  have:=(List.nodup_range (n:=t.mask + 1)).length_le_of_subset all
  rw [List.length_range,Array.length_toList] at this
  omega
theorem go_met {t:SetTable} (hd:t.dummies = #[]) (hashAt:Nat->Int) (h:Int) (p:SetTable.Probe) (hpd:p.dummy = none):∀ (k m n fuel:Nat),m + k = n->t.slot (adv t n p).j = .empty->k < fuel ->
  (∃ j,SetTable.probe.go t hashAt h fuel (adv t m p) = some (.empty j none)/\t.slot j = .empty) \/
   ∃ l i,m<=l/\l < n/\t.slot (adv t l p).j = .live i/\hashAt i = h/\SetTable.probe.go t hashAt h fuel (adv t m p) = some (.candidate (adv t l p).j i (adv t (l + 1) p))
 | k,m,n,0,_,_,hf=>absurd hf (Nat.not_lt_zero _)
 | k,m,n,fuel + 1,e,he,hf=>by
  have hdm:(adv t m p).dummy = none:=(adv_dummy t m p).trans hpd
  have nx:adv t (m + 1) p = t.advance (adv t m p):=adv_add t m 1 p
  rcases slot_cases hd (adv t m p).j with es | ⟨i,es,ep⟩
  ·refine .inl ⟨(adv t m p).j,?_,es⟩
   unfold SetTable.probe.go
   rw [es,hdm]
  ·have hk:k ≠ 0:=by
    rintro rfl
    have:m = n:=by omega
    subst this
    rw [he] at es; cases es
   by_cases hh:hashAt i = h
   ·refine .inr ⟨m,i,Nat.le_refl _,by omega,es,hh,?_⟩
    unfold SetTable.probe.go
    rw [es]
    dsimp only
    rw [if_pos (by simpa using hh),nx]
   ·have eg:SetTable.probe.go t hashAt h (fuel + 1) (adv t m p) = SetTable.probe.go t hashAt h fuel (adv t (m + 1) p):=by
     conv=>lhs; unfold SetTable.probe.go
     rw [es]
     dsimp only
     rw [if_neg (by simpa using hh),nx]
    rcases go_met hd hashAt h p hpd (k - 1) (m + 1) n fuel (by omega) he (by omega) with ⟨j,h1,h2⟩ | ⟨l,i',h1,h2,h3,h4,h5⟩
    ·exact .inl ⟨j,eg.trans h1,h2⟩
    ·exact .inr ⟨l,i',by omega,h2,h3,h4,eg.trans h5⟩
end ST
namespace ST
open PySem
theorem fm_congr {α β:Type} {f g:α->Option β}:∀ {l:List α},(∀ x ∈ l,f x = g x)->l.filterMap f = l.filterMap g
 | [],_=>rfl
 | a :: r,h=>by
  have h1:=h a (List.mem_cons_self ..)
  have h2:=fm_congr (l:=r) fun x hx=>h x (List.mem_cons_of_mem _ hx)
  rw [List.filterMap_cons,List.filterMap_cons,h1,h2]
theorem fm_one {α:Type} {f g:Nat->Option α} {j:Nat} {k:α} (hg:g j = some k) (hf:f j = none):∀ {l:List Nat},l.Nodup->j ∈ l->(∀ i,i ≠ j->g i = f i)->(l.filterMap g).Perm (k :: l.filterMap f)
 | [],_,h,_=>by simp at h
 | i :: r,nd,h,he=>by
  obtain ⟨n1,n2⟩:=List.nodup_cons.mp nd
  by_cases e:i = j
  ·subst e
   have er:r.filterMap g = r.filterMap f:=fm_congr fun x hx=>he x fun z=>n1 (z ▸ hx)
   rw [List.filterMap_cons_some hg,List.filterMap_cons_none hf,er]
  ·have hr:=fm_one hg hf n2 ((List.mem_cons.mp h).resolve_left fun z=>e z.symm) he
   cases ef:f i with
   | none=>rw [List.filterMap_cons_none ((he i e).trans ef),List.filterMap_cons_none ef]; exact hr
   | some b =>
    rw [List.filterMap_cons_some ((he i e).trans ef),List.filterMap_cons_some ef]
    exact (List.Perm.cons b hr).trans (List.Perm.swap _ _ _)
noncomputable def ocs (mask:Nat) (ow:Array (Option Nat)):List Nat:=(List.range (mask + 1)).filterMap fun j=>ow.getD j none
structure LI (mask:Nat) (ow:Array (Option Nat)) (k:Nat):Prop where
 sz:ow.size = mask + 1
 pm:(ocs mask ow).Perm (List.range k)
theorem free_ok {mask:Nat} {ow:Array (Option Nat)} {j:Nat} (hj:ow[j]? = some none):∀ (t fuel i p:Nat),(lps mask t (i,p)).1 = j->t < fuel->∃ j',SetTable.layClean.free mask ow fuel i p = some j'/\ow[j']? = some none
 | t,0,_,_,_,h=>absurd h (Nat.not_lt_zero _)
 | t,fuel + 1,i,p,e,h=>by
  unfold SetTable.layClean.free
  cases q:(List.range (SetTable.runEnd mask i + 1 - i)).find? fun k=>(ow.getD (i + k) (some 0)).isNone with
  | some k =>
   refine ⟨i + k,rfl,?_⟩
   have:=List.find?_some q
   rw [Array.getD_eq_getD_getElem?] at this
   cases g:ow[i + k]? with
   | none=>rw [g] at this; simp at this
   | some z=>rw [g] at this; simp at this; rw [this]
  | none =>
   dsimp only
   cases t with
   | zero =>
    exfalso
    have e':i = j:=e
    subst e'
    have hr:0 ∈ List.range (SetTable.runEnd mask i + 1 - i):=List.mem_range.mpr (by unfold SetTable.runEnd; split <;> omega)
    have:=List.find?_eq_none.mp q 0 hr
    rw [Array.getD_eq_getD_getElem?,Nat.add_zero,hj] at this
    simp at this
   | succ t=>exact free_ok hj t fuel _ _ e (by omega)
theorem LI.room {mask:Nat} {ow:Array (Option Nat)} {k:Nat} (h:LI mask ow k) (hk:k<=mask):∃ j,j<=mask/\ow[j]? = some none:=by
 by_cases q:∃ j,j<=mask/\ow[j]? = some none
 ·exact q
 ·exfalso
  have all:∀ j ∈ List.range (mask + 1),∃ v,ow.getD j none = some v:=fun j hj=>by
   have hj':j < ow.size:=by rw [h.sz]; exact List.mem_range.mp hj
   cases e:ow[j]? with
   | none=>rw [Array.getElem?_eq_none_iff] at e; omega
   | some v =>
    cases v with
    | none=>exact absurd ⟨j,by have:=List.mem_range.mp hj; omega,e⟩ q
    | some v=>exact ⟨v,by rw [Array.getD_eq_getD_getElem?,e]; rfl⟩
  have hl:∀ l:List Nat,(∀ j ∈ l,∃ v,ow.getD j none = some v)->(l.filterMap fun j=>ow.getD j none).length = l.length:=by
   intro l
   induction l with
   | nil=>intro _; rfl
   | cons j r ih =>
    intro ha
    obtain ⟨v,hv⟩:=ha j (List.mem_cons_self ..)
    rw [List.filterMap_cons_some (f:=fun j=>ow.getD j none) hv,List.length_cons,List.length_cons,ih fun x hx=>ha x (List.mem_cons_of_mem _ hx)]
  have:=h.pm.length_eq
  unfold ocs at this
  rw [hl _ all,List.length_range,List.length_range] at this
  omega
theorem LI.put {mask:Nat} {ow:Array (Option Nat)} {k j:Nat} (h:LI mask ow k) (hj:ow[j]? = some none):LI mask (ow.setIfInBounds j (some k)) (k + 1):=by
 have hlt:j < ow.size:=by
  obtain ⟨h1,_⟩:=Array.getElem?_eq_some_iff.mp hj
  exact h1
 refine ⟨by rw [Array.size_setIfInBounds]; exact h.sz,?_⟩
 have p:=fm_one (f:=fun j=>ow.getD j none) (g:=fun i=>(ow.setIfInBounds j (some k)).getD i none) (j:=j) (k:=k) (by rw [Array.getD_eq_getD_getElem?,Array.getElem?_setIfInBounds_self_of_lt hlt]; rfl) (by rw [Array.getD_eq_getD_getElem?,hj]; rfl)
  (l:=List.range (mask + 1)) List.nodup_range (List.mem_range.mpr (by rw [<-h.sz]; exact hlt)) fun i hi=>by
   rw [Array.getD_eq_getD_getElem?,Array.getElem?_setIfInBounds_ne (Ne.symm hi),<-Array.getD_eq_getD_getElem?]
 have e:List.range (k + 1) = List.range k ++ [k]:=List.range_succ
 refine p.trans ?_
 rw [e]
 exact (List.Perm.cons k h.pm).trans (List.perm_append_comm (l₁:=[k]))
theorem bits_lt (h:Int):SetTable.bits h < 2 ^ 64:=by
 unfold SetTable.bits
 have h1:0<=h % (2 ^ 64:Int):=Int.emod_nonneg _ (by decide)
 have h2:h % (2 ^ 64:Int) < 2 ^ 64:=Int.emod_lt_of_pos _ (by decide)
 omega
theorem lay_ok {mask:Nat} (hm:Msk mask):∀ (hs:List Int) (ow:Array (Option Nat)) (k:Nat),LI mask ow k->k + hs.length<=mask->∃ ow',(hs.foldl (init:=some (ow,k)) fun acc h=>do
   let (owner,k) <-acc
   let j <-SetTable.layClean.free mask owner (SetTable.turns mask) (SetTable.bits h % (mask + 1)) (SetTable.bits h)
   pure (owner.setIfInBounds j (some k),k + 1)) = some (ow',k + hs.length)/\LI mask ow' (k + hs.length)
 | [],ow,k,h,_=>⟨ow,rfl,h⟩
 | x :: r,ow,k,h,hk=>by
  rw [List.length_cons] at hk
  obtain ⟨j,hj,ej⟩:=h.room (by omega)
  obtain ⟨t,ht,et⟩:=lps_all hm (i:=SetTable.bits x % (mask + 1)) (j:=j) (Nat.lt_succ_iff.mp (Nat.mod_lt _ (Nat.succ_pos _))) hj (bits_lt x)
  obtain ⟨j',h1,h2⟩:=free_ok ej t (SetTable.turns mask) _ _ et (by unfold SetTable.turns; omega)
  obtain ⟨ow',h3,h4⟩:=lay_ok hm r (ow.setIfInBounds j' (some k)) (k + 1) (h.put h2) (by omega)
  refine ⟨ow',?_,by rw [List.length_cons,show k + (r.length + 1) = k + 1 + r.length by omega]; exact h4⟩
  rw [List.foldl_cons]
  show List.foldl _ ((SetTable.layClean.free mask ow (SetTable.turns mask) (SetTable.bits x % (mask + 1)) (SetTable.bits x)).bind fun j=>some (ow.setIfInBounds j (some k),k + 1)) r = _
  rw [h1]
  show List.foldl _ (some (ow.setIfInBounds j' (some k),k + 1)) r = _
  rw [List.length_cons,show k + (r.length + 1) = k + 1 + r.length by omega]
  exact h3
theorem laid_ok {mask:Nat} (hm:Msk mask) (finger moves:Nat) (led plain:Bool) (hs:Array Int) (hn:hs.size<=mask) :
  ∃ place order,SetTable.laid mask finger moves led plain hs = some ({ mask,place,dummies:=#[],finger,led,moves,plain },order)/\place.size = hs.size/\order.toList.Perm (List.range hs.size):=by
 have h0:LI mask (Array.replicate (mask + 1) none) 0:=by
  refine ⟨Array.size_replicate,?_⟩
  have:ocs mask (Array.replicate (mask + 1) none) = []:=by
   unfold ocs
   rw [List.filterMap_eq_nil_iff]
   intro j hj
   rw [Array.getD_eq_getD_getElem?,Array.getElem?_replicate]
   split <;> rfl
  rw [this]
  exact List.Perm.refl _
 obtain ⟨ow,h1,h2⟩:=lay_ok hm hs.toList _ 0 h0 (by rw [Array.length_toList]; omega)
 rw [Nat.zero_add,Array.length_toList] at h1 h2
 have hc:SetTable.layClean mask hs = some ow:=by
  unfold SetTable.layClean
  rw [<-Array.foldl_toList,h1]
  rfl
 have e2:((List.range (mask + 1)).filterMap fun j=>(ow.getD j none).map (j,·)).map (·.2) = ocs mask ow:=by
  unfold ocs
  rw [List.map_filterMap]
  refine fm_congr fun j _=>?_
  cases ow.getD j none <;> rfl
 refine ⟨(((List.range (mask + 1)).filterMap fun j=>(ow.getD j none).map (j,·)).map (·.1)).toArray,(((List.range (mask + 1)).filterMap fun j=>(ow.getD j none).map (j,·)).map (·.2)).toArray,?_,?_,?_⟩
 ·unfold SetTable.laid
  rw [hc]
  rfl
 ·rw [List.size_toArray,List.length_map,<-List.length_map (f:=(·.2)),e2,h2.pm.length_eq,List.length_range]
 ·show (((List.range (mask + 1)).filterMap fun j=>(ow.getD j none).map (j,·)).map (·.2)).Perm _
  rw [e2]
  exact h2.pm
theorem order_es {es:Array (Int × Value)} {order:Array Nat} (h:order.toList.Perm (List.range es.size)):(order.filterMap (es[·]?)).toList.Perm es.toList:=by
 rw [Array.toList_filterMap]
 refine (h.filterMap _).trans (List.Perm.of_eq ?_)
 refine List.ext_getElem? fun t=>?_
 have:(List.range es.size).filterMap (fun x=>es[x]?) = es.toList:=by
  have:∀ (l:List (Int × Value)),(List.range l.length).filterMap (fun x=>l[x]?) = l:=by
   intro l
   induction l with
   | nil=>rfl
   | cons a r ih =>
    rw [List.length_cons,List.range_succ_eq_map,List.filterMap_cons_some (by rfl:(a :: r)[0]? = some a),List.filterMap_map]
    congr 1
  have q:=this es.toList
  rw [Array.length_toList] at q
  simpa using q
 rw [this]
end ST
namespace ST
open PySem
section
variable {prog:Program} {w:World} {K:Type} [DecidableEq K] {knd:KeyKind prog w K} {A:Around} {E:Value->Shared->Prop} {s:Shared}
structure Tab (t:SetTable) (n:Nat):Prop where
 dm:t.dummies = #[]
 pl:t.place.size = n
 mm:Msk t.mask
 rm:n * 5 < t.mask * 3
theorem Tab.fits {t:SetTable} {n:Nat} (h:Tab t n):t.fits n = true:=by
 have:=h.rm
 have:=h.pl
 unfold SetTable.fits SetTable.fill
 rw [h.dm]
 simp
 omega
theorem Tab.odd {t:SetTable} {n:Nat} (h:Tab t n):t.gaveWay = false:=by
 unfold SetTable.gaveWay
 rcases h.mm with e | e | e | e <;> rw [e] <;> rfl
noncomputable def Els (knd:KeyKind prog w K) (es:Array (Int × Value)) (ks:List (List K × Addr)):Prop:=es.toList.Perm (ks.map fun q=>((tupleKind knd).hash q.1,Value.ref q.2))
noncomputable def TSet (knd:KeyKind prog w K) (h:Heap) (a:Addr) (ks:List (List K × Addr)):Prop:=∃ o es ep t,h.get? a = some o/\o.ExactSet/\o.data = .set es ep t/\Els knd es ks/\Tab t es.size
theorem Els.get {es:Array (Int × Value)} {ks:List (List K × Addr)} (h:Els knd es ks) {i:Nat} {e:Int × Value} (he:es[i]? = some e):∃ k p,(k,p) ∈ ks/\e = ((tupleKind knd).hash k,.ref p):=by
 have:e ∈ es.toList:=List.mem_of_getElem? (by rw [Array.getElem?_toList]; exact he)
 obtain ⟨q,hq,rfl⟩:=List.mem_map.mp (h.mem_iff.mp this)
 exact ⟨q.1,q.2,hq,rfl⟩
theorem forIn_still {β:Type} {c:β} {f:Value->β->Sem (ForInStep β)}:∀ {l:List Value},(∀ y ∈ l,f y c = pure (.yield c))->forIn l c f = pure c
 | [],_=>List.forIn_nil
 | a :: r,h=>by
  rw [List.forIn_cons,h a (List.mem_cons_self ..),pure_bind]
  exact forIn_still fun y hy=>h y (List.mem_cons_of_mem _ hy)
theorem items_key {ks:List K} {vs:List Value} (h:ItemsAre knd ks vs):∀ v ∈ vs,∃ x,knd.is x v = true:=by
 induction h with
 | nil=>intro v hv; simp at hv
 | cons h1 _ ih =>
  intro v hv
  rcases List.mem_cons.mp hv with rfl | hv
  ·exact ⟨_,h1⟩
  ·exact ih v hv
noncomputable def Flat (knd:KeyKind prog w K):Prop:=∀ v,(∃ x,knd.is x v = true)->carriedByValue v = true
theorem Flat.no {v:Value} (hF:Flat knd) (h:∃ x,knd.is x v = true) (d:Nat):ofAClassStatement d v = pure false:=by
 have:=hF v h
 cases v <;> first
  | (cases d <;> rfl)
  | (exact absurd this (by intro z; cases z))
theorem own_no {k:List K} {p:Addr} {Q:Bool->Shared->Prop} (hF:Flat knd) (hk:(tupleKind knd).is s.heap k p) (h:Q false s):wpAny (model prog w) A (ofAClassStatement 8 (.ref p)) Q E s:=by
 obtain ⟨o,items,n,ho,hc,hd,hi⟩:=hk
 have hT:s.TypeIs (.ref p) "tuple":=⟨o,ho,hc⟩
 unfold ofAClassStatement
 refine wpAny_bind (wpAny_typeOf hT ?_)
 dsimp only
 rw [if_pos (by rfl)]
 refine wpAny_bind (wpAny_pure ?_)
 simp only [Bool.not_true,Bool.false_eq_true,if_false]
 refine wpAny_bind (wpAny_seqItems ho hd ?_)
 dsimp only
 rw [<-Array.forIn_toList,forIn_still fun y hy=>by rw [hF.no (items_key hi y hy)]; rfl]
 exact wpAny_bind (wpAny_pure (wpAny_pure h))
theorem unseen {kx:List K} {px:Addr} {Q:Bool->Shared->Prop} (hF:Flat knd) (hx:(tupleKind knd).is s.heap kx px) (h:Q false s) {l:List Value} (hl:∀ v ∈ l,∃ k p,v = .ref p/\(tupleKind knd).is s.heap k p) :
  wpAny (model prog w) A (searchCouldBeSeen (.ref px) l) Q E s:=by
 unfold searchCouldBeSeen
 refine wpAny_bind (wpAny_forIn_list _ (fun rest c s'=>s' = s/\c = (none,())/\∀ v ∈ rest,v ∈ l) _ ?_ ?_ l _ ⟨rfl,rfl,fun _ h=>h⟩)
 ·rintro v rest c s' ⟨rfl,rfl,hr⟩
  obtain ⟨k,p,rfl,hk⟩:=hl v (hr v (List.mem_cons_self ..))
  dsimp only
  have hc:carriedByValue (Value.ref px) = false:=rfl
  rw [hc,Bool.false_and,Bool.or_false]
  split
  ·exact wpAny_pure ⟨rfl,rfl,fun u hu=>hr u (List.mem_cons_of_mem _ hu)⟩
  ·refine wpAny_bind ((tupleKind knd).quiet hx ?_)
   simp only [Bool.not_true,Bool.false_eq_true,if_false]
   refine wpAny_bind ((tupleKind knd).quiet hk ?_)
   simp only [Bool.not_true,Bool.false_eq_true,if_false]
   refine wpAny_bind (own_no hF hx ?_)
   simp only [Bool.false_eq_true,if_false]
   refine wpAny_bind (own_no hF hk ?_)
   simp only [Bool.false_eq_true,if_false]
   exact wpAny_pure ⟨rfl,rfl,fun u hu=>hr u (List.mem_cons_of_mem _ hu)⟩
 ·rintro c s' ⟨rfl,rfl,_⟩
  exact wpAny_pure h
end
end ST
namespace ST
open PySem
section
variable {prog:Program} {w:World} {K:Type} [DecidableEq K] {knd:KeyKind prog w K} {A:Around} {E:Value->Shared->Prop} {s:Shared}
theorem same_mem (t:SetTable):t.sameMemory t.moves t.mask = some true:=by
 unfold SetTable.sameMemory
 simp
theorem search_from {a:Addr} {o:Obj} {es:Array (Int × Value)} {ep:Nat} {t:SetTable} {ks:List (List K × Addr)} {kx:List K} {px:Addr} {adding:Bool} {Q:SetFound->Shared->Prop} {n:Nat}
  (hr:(tupleKind knd).room A) (hF:Flat knd) (ho:s.heap.get? a = some o) (hd:o.data = .set es ep t) (hE:Els knd es ks) (hT:Tab t es.size)
  (hks:∀ q ∈ ks,(tupleKind knd).is s.heap q.1 q.2) (hx:(tupleKind knd).is s.heap kx px) (hne:∀ q ∈ ks,q.1 ≠ kx) (hn:n < 10 * SetTable.turns t.mask)
  (he:t.slot (adv t n (t.probeStart ((tupleKind knd).hash kx))).j = .empty) (h:∀ j,t.slot j = .empty->Q (.free j false) s) :
  ∀ (k m fuel:Nat) (stand:Option SetTable.Probe),stand.getD (t.probeStart ((tupleKind knd).hash kx)) = adv t m (t.probeStart ((tupleKind knd).hash kx))->m + k = n->k < fuel ->
   wpAny (model prog w) A (setSearchFrom a (.ref px) ((tupleKind knd).hash kx) adding fuel stand) Q E s:=by
 intro k
 induction k using Nat.strongRecOn with
 | _ k ih =>
  intro m fuel stand hst hmk hf
  cases fuel with
  | zero=>omega
  | succ fuel =>
   unfold setSearchFrom
   refine wpAny_bind (wpAny_setState_of ho hd hT.fits ?_)
   dsimp only
   rw [hT.odd]
   simp only [Bool.false_eq_true,if_false]
   rw [hst]
   unfold SetTable.probe
   rcases go_met hT.dm _ ((tupleKind knd).hash kx) (t.probeStart ((tupleKind knd).hash kx)) rfl k m n (10 * SetTable.turns t.mask) hmk he (by omega) with ⟨j,e1,e2⟩ | ⟨l,i,h1,h2,e1,e2,e3⟩
   ·rw [e1]
    dsimp only
    exact wpAny_pure (h j e2)
   ·rw [e3]
    dsimp only
    obtain ⟨i',hi',hpl⟩:∃ i',t.slot (adv t l (t.probeStart ((tupleKind knd).hash kx))).j = .live i'/\t.place[i']? = some (adv t l (t.probeStart ((tupleKind knd).hash kx))).j:=by
     rcases slot_cases hT.dm (adv t l (t.probeStart ((tupleKind knd).hash kx))).j with z | z
     ·rw [z] at e1; cases e1
     ·exact z
    rw [e1] at hi'; cases hi'
    have hlt:i < es.size:=by
     have:=(Array.getElem?_eq_some_iff.mp hpl).1
     rw [hT.pl] at this; exact this
    obtain ⟨ent,hent⟩:∃ ent,es[i]? = some ent:=⟨es[i],Array.getElem?_eq_some_iff.mpr ⟨hlt,rfl⟩⟩
    obtain ⟨k',p',hm',rfl⟩:=hE.get hent
    have hseen:∀ v ∈ (es.filter (·.1 == (tupleKind knd).hash kx)).toList.map (·.2),∃ k p,v = .ref p/\(tupleKind knd).is s.heap k p:=by
     intro v hv
     obtain ⟨z,hz,rfl⟩:=List.mem_map.mp hv
     have hz':z ∈ es.toList:=by
      rw [Array.toList_filter] at hz
      exact (List.mem_filter.mp hz).1
     obtain ⟨q,hq,rfl⟩:=List.mem_map.mp (hE.mem_iff.mp hz')
     exact ⟨q.1,q.2,rfl,hks q hq⟩
    have rest:wpAny (model prog w) A (do
      let some (_,y):=es[i]? | unsupported "internal:set-entry"
      let equal <-holding [y] (eqBool y (.ref px))
      let (es',_,t') <-setState a
      if adding && equal then return .there none
      let some same:=t'.sameMemory t.moves t.mask | unsupported "set.changed-during-lookup:is-the-new-block-at-the-old-address"
      let still <-match (if same then t'.slot (adv t l (t.probeStart ((tupleKind knd).hash kx))).j else .empty) with
       | .live i'=>match es'[i']? with
        | some (_,y')=>do pure (if <-isSame y' y then some i' else none)
        | none=>pure none
       | _=>pure none
      match still with
      | none=>rule "set.search.anew"; setSearchFrom a (.ref px) ((tupleKind knd).hash kx) adding fuel none
      | some i'=>if equal then return .there (some i') else setSearchFrom a (.ref px) ((tupleKind knd).hash kx) adding fuel (some (adv t (l + 1) (t.probeStart ((tupleKind knd).hash kx))))) Q E s:=by
     rw [hent]
     dsimp only
     refine wpAny_bind (wpAny_holding ((tupleKind knd).eqBool hr (hks _ hm') hx ?_))
     rw [decide_eq_false (hne _ hm')]
     refine wpAny_bind (wpAny_setState_of ho hd hT.fits ?_)
     dsimp only
     rw [same_mem,Bool.and_false]
     simp only [Bool.false_eq_true,if_false,if_true]
     rw [e1]
     dsimp only
     rw [hent]
     dsimp only
     refine wpAny_bind (wpAny_isSame_ref_self (wpAny_bind (wpAny_pure ?_)))
     simp only [if_true]
     exact ih (n - (l + 1)) (by omega) (l + 1) fuel _ rfl (by omega) (by omega)
    cases hled:t.led with
    | true =>
     simp only [Bool.not_true,Bool.false_eq_true,if_false]
     exact rest
    | false =>
     simp only [Bool.not_false,if_true]
     refine wpAny_bind (unseen hF hx ?_ hseen)
     simp only [Bool.false_eq_true,if_false]
     exact rest
theorem search_free {a:Addr} {o:Obj} {es:Array (Int × Value)} {ep:Nat} {t:SetTable} {ks:List (List K × Addr)} {kx:List K} {px:Addr} {adding:Bool} {Q:SetFound->Shared->Prop}
  (hr:(tupleKind knd).room A) (hF:Flat knd) (ho:s.heap.get? a = some o) (hd:o.data = .set es ep t) (hE:Els knd es ks) (hT:Tab t es.size)
  (hks:∀ q ∈ ks,(tupleKind knd).is s.heap q.1 q.2) (hx:(tupleKind knd).is s.heap kx px) (hne:∀ q ∈ ks,q.1 ≠ kx) (h:∀ j,t.slot j = .empty->Q (.free j false) s) :
  wpAny (model prog w) A (setSearch a (.ref px) ((tupleKind knd).hash kx) adding) Q E s:=by
 obtain ⟨j,hj,hs⟩:=some_empty hT.dm (by rw [hT.pl]; have:=hT.rm; omega)
 obtain ⟨n,hn,e⟩:=probe_all hT.mm ((tupleKind knd).hash kx) hj
 unfold setSearch
 refine search_from hr hF ho hd hE hT hks hx hne hn (by rw [e]; exact hs) h n 0 100000 none rfl (by omega) ?_
 have:SetTable.turns t.mask<=526:=by
  unfold SetTable.turns
  rcases hT.mm with e | e | e | e <;> omega
 omega
theorem TSet.typeIs {a:Addr} {ks:List (List K × Addr)} (h:TSet knd s.heap a ks):s.TypeIs (.ref a) "set":=let ⟨o,_,_,_,ho,hc,_⟩:=h; ⟨o,ho,hc.1⟩
theorem no_scan {px:Addr} {es:Array (Int × Value)}:byScan (.ref px) es = false:=rfl
theorem find_free {a:Addr} {ks:List (List K × Addr)} {kx:List K} {px:Addr} {Q:Option Nat->Shared->Prop} (hr:(tupleKind knd).room A) (hF:Flat knd) (hS:TSet knd s.heap a ks)
  (hks:∀ q ∈ ks,(tupleKind knd).is s.heap q.1 q.2) (hx:(tupleKind knd).is s.heap kx px) (hne:∀ q ∈ ks,q.1 ≠ kx) (h:Q none s):wpAny (model prog w) A (setFind a (.ref px) ((tupleKind knd).hash kx)) Q E s:=by
 obtain ⟨o,es,ep,t,ho,_,hd,hE,hT⟩:=hS
 unfold setFind setFindIn
 refine wpAny_bind (wpAny_setState_of ho hd hT.fits ?_)
 dsimp only
 rw [no_scan]
 simp only [Bool.false_eq_true,if_false]
 refine wpAny_bind (search_free hr hF ho hd hE hT hks hx hne fun j _=>?_)
 dsimp only
 exact wpAny_pure h
theorem in_free {neg:Bool} {a:Addr} {ks:List (List K × Addr)} {kx:List K} {px:Addr} {Q:Value->Shared->Prop} (hr:A.units + 1 < cLine) (hF:Flat knd) (hS:TSet knd s.heap a ks)
  (hks:∀ q ∈ ks,(tupleKind knd).is s.heap q.1 q.2) (hx:(tupleKind knd).is s.heap kx px) (hne:∀ q ∈ ks,q.1 ≠ kx) (h:Q (.bool false) { s with toks:=s.toks + (tupleKind knd).draws kx }) :
  wpAny (model prog w) A (compareOp .In (.ref px) (.ref a)) Q E s:=by
 show wpAny _ _ (do return .bool (<-contains (.ref a) (.ref px))) Q E s
 refine wpAny_bind ?_
 unfold contains
 try with_reducible refine wpAny_holding ?_
 refine wpAny_bind (wpAny_specialOf hS.typeIs F.slot_set_contains.lookup ?_)
 show wpAny _ _ (if (some (Value.builtin "set.__contains__") == some Value.none) = true then _ else _) _ E s
 rw [if_neg (by rw [beq_builtin_none]; exact Bool.false_ne_true)]
 refine wpAny_bind (wpAny_callSpecialUnlessNone?_slot (name:=Str.ofString "__contains__") hS.typeIs F.slot_set_contains
  (wpAny_call_entry F.slot_set_contains hS.typeIs entry_set_contains ?_ (F.args_set_contains_2 _ _)))
 unfold Builtin.«frozenset.__contains__» Builtin.Frozenset.oneOther
 simp only [List.isEmpty_nil,bind_assoc]
 unfold Builtin.Frozenset.addrOf Builtin.Frozenset.withSetAsKey setContains
 refine wpAny_bind (wpAny_pure ?_)
 try dsimp only
 refine wpAny_bind (wpAny_pure ?_)
 try dsimp only
 refine wpAny_bind (wpAny_tryCatch ?_)
 refine wpAny_holding ?_
 refine wpAny_bind ((tupleKind knd).pyHash ?hroom hx ?_)
 case hroom=>exact hr
 refine wpAny_bind (find_free (s:={ s with toks:=s.toks + (tupleKind knd).draws kx }) ?hroom hF hS hks hx hne ?_)
 case hroom=>exact hr
 refine wpAny_pure ?_
 show wpAny _ _ (ret (Value.bool false)) _ _ _
 exact wpAny_pure ⟨_,rfl,wpAny_truthy_bool (wpAny_pure h)⟩
end
end ST
namespace ST
open PySem
section
variable {prog:Program} {w:World} {K:Type} [DecidableEq K] {knd:KeyKind prog w K} {A:Around} {E:Value->Shared->Prop} {s:Shared}
noncomputable def Scan (knd:KeyKind prog w K):Prop:=∀ v,(∃ x,knd.is x v = true)->v.scannable = true
theorem hbv {kx:List K} {px:Addr} {Q:Bool->Shared->Prop} (hB:Scan knd) (hx:(tupleKind knd).is s.heap kx px) (h:∀ b,Q b s):wpAny (model prog w) A (hashByValue 8 (.ref px)) Q E s:=by
 obtain ⟨o,items,n,ho,hc,hd,hi⟩:=hx
 have hT:s.TypeIs (.ref px) "tuple":=⟨o,ho,hc⟩
 unfold hashByValue
 refine wpAny_bind (wpAny_specialOf hT F.slot_tuple_hash.lookup ?_)
 dsimp only
 refine wpAny_bind (wpAny_seqItems ho hd ?_)
 dsimp only [Option.getD_some]
 rw [<-Array.forIn_toList]
 refine wpAny_bind (wpAny_mono (wpAny_forIn_list _ (fun rest c s'=>s' = s/\c = (none,())/\∀ v ∈ rest,v ∈ items.toList) (fun c s'=>s' = s/\(c = (none,())\/c = (some false,()))) ?_ ?_ _ _ ⟨rfl,rfl,fun _ z=>z⟩) ?_ fun _ _ q=>q)
 ·rintro v rest c s' ⟨rfl,rfl,hr⟩
  rw [hashByValue_scannable _ (hB v (items_key hi v (hr v (List.mem_cons_self ..))))]
  refine wpAny_bind (wpAny_pure ?_)
  cases plainKind v with
  | true =>
   simp only [Bool.not_true,Bool.false_eq_true,if_false]
   exact wpAny_pure ⟨rfl,rfl,fun u hu=>hr u (List.mem_cons_of_mem _ hu)⟩
  | false =>
   simp only [Bool.not_false,if_true]
   exact wpAny_pure ⟨rfl,.inr rfl⟩
 ·rintro c s' ⟨rfl,rfl,_⟩
  exact ⟨rfl,.inl rfl⟩
 ·rintro c s' ⟨rfl,rfl | rfl⟩
  ·exact wpAny_pure (h _)
  ·exact wpAny_pure (h _)
theorem insertAt_size {α:Type} (xs:Array α) (p:Nat) (x:α) (hp:p<=xs.size):(SetTable.insertAt xs p x).size = xs.size + 1:=by
 unfold SetTable.insertAt
 rw [Array.size_append,Array.size_push,Array.size_extract,Array.size_extract]
 omega
theorem insertAt_perm {α:Type} (xs:Array α) (p:Nat) (x:α) (hp:p<=xs.size):(SetTable.insertAt xs p x).toList.Perm (xs.toList ++ [x]):=by
 unfold SetTable.insertAt
 rw [Array.toList_append,Array.toList_push,Array.toList_extract,Array.toList_extract]
 simp only [List.extract_eq_take_drop,List.drop_zero,Nat.sub_zero]
 have e:List.take (xs.size - p) (List.drop p xs.toList) = List.drop p xs.toList:=by
  rw [List.take_of_length_le]
  rw [List.length_drop,Array.length_toList]
  omega
 rw [e]
 have e2:xs.toList = xs.toList.take p ++ xs.toList.drop p:=(List.take_append_drop ..).symm
 conv=>rhs; rw [e2]
 rw [List.append_assoc,List.append_assoc]
 exact List.Perm.append_left _ List.perm_append_comm
theorem below_go_le (xs:Array Nat) (j:Nat):∀ (f lo hi:Nat),lo<=hi->SetTable.below.go xs j f lo hi<=hi
 | 0,lo,hi,h=>h
 | f + 1,lo,hi,h=>by
  unfold SetTable.below.go
  split
  ·rename_i h'
   dsimp only
   split
   ·exact below_go_le xs j f _ _ (by omega)
   ·exact Nat.le_trans (below_go_le xs j f _ _ (by omega)) (by omega)
  ·exact h
theorem below_le (xs:Array Nat) (j:Nat):SetTable.below xs j<=xs.size:=below_go_le xs j _ _ _ (Nat.zero_le _)
theorem put_eq {t:SetTable} (hd:t.dummies = #[]) (j:Nat):t.put j = ({ t with place:=SetTable.insertAt t.place (SetTable.below t.place j) j },SetTable.below t.place j):=by
 unfold SetTable.put
 have:SetTable.has t.dummies j = false:=by
  rw [hd]; unfold SetTable.has; simp
 rw [this]
 rfl
theorem sz20:SetTable.sizeAbove 20 = 32:=by decide
theorem sz76:SetTable.sizeAbove 76 = 128:=by decide
theorem sz308:SetTable.sizeAbove 308 = 512:=by decide
theorem relay_ok {f:Array (Int × Value)->Option (SetTable × Array Nat)->Sem (Array (Int × Value) × SetTable)} (hf:∀ es laid,f es laid = (do
  let some (t,order):=laid | unsupported "internal:set-table-without-room"
  let es':=order.filterMap (es[·]?)
  if es'.size != es.size then unsupported "internal:set-table-lost-an-element"
  pure (es',t)))
  {a:Addr} {o:Obj} {es:Array (Int × Value)} {ep:Nat} {t:SetTable} {n m:Nat} {Q:Unit->Shared->Prop} (ho:s.heap.get? a = some o) (hd:o.data = .set es ep t) (hdm:t.dummies = #[]) (hfit:t.fits es.size = true)
  (hm:SetTable.sizeAbove n = m + 1) (hmm:Msk m) (hsz:es.size * 5 < m * 3)
  (h:∀ (es':Array (Int × Value)) (t':SetTable),es'.toList.Perm es.toList->Tab t' es'.size->Q () { s with heap:=s.heap.update a (Obj.putSet es' t') }) :
  wpAny (model prog w) A (do
   let (es,_,t) <-setState a
   if SetTable.sizeAbove n > sizeLine then unsupported "set:memory"
   let (es,t) <-f es (t.relaid (es.map (·.1)) n)
   storeSet a es t) Q E s:=by
 refine wpAny_bind (wpAny_setState_of ho hd hfit ?_)
 dsimp only
 have hm512:m<=511:=by rcases hmm with e | e | e | e <;> omega
 rw [hm,if_neg (by rw [sizeLine_eq]; omega)]
 rw [hf]
 have hs:(es.map (·.1)).size<=m:=by rw [Array.size_map]; omega
 obtain ⟨place,order,e1,e2,e3⟩:=laid_ok hmm t.finger (t.movedTo (SetTable.sizeAbove n - 1)) t.led t.plain (es.map (·.1)) hs
 have e0:t.relaid (es.map (·.1)) n = some ({ mask:=m,place,dummies:=#[],finger:=t.finger,led:=t.led,moves:=t.movedTo (SetTable.sizeAbove n - 1),plain:=t.plain },order):=by
  unfold SetTable.relaid
  rw [hm]
  rw [hm] at e1
  exact e1
 rw [e0]
 dsimp only
 have hp:(order.filterMap (es[·]?)).toList.Perm es.toList:=order_es (by rw [Array.size_map] at e3; exact e3)
 have hz:(order.filterMap (es[·]?)).size = es.size:=by rw [<-Array.length_toList,hp.length_eq,Array.length_toList]
 rw [if_neg (by rw [hz]; simp)]
 refine wpAny_bind (wpAny_pure ?_)
 dsimp only
 refine wpAny_storeSet_of ho hd (h _ _ hp ⟨rfl,?_,hmm,?_⟩) (by rw [hz,sizeLine_eq]; omega)
 ·rw [hz,e2,Array.size_map]
 ·rw [hz]; exact hsz
theorem set_get {h:Heap} {a:Addr} {o:Obj} {es:Array (Int × Value)} {ep:Nat} {t:SetTable} (ho:h.get? a = some o) (hd:o.data = .set es ep t) (es':Array (Int × Value)) (t':SetTable) :
  (h.update a (Obj.putSet es' t')).get? a = some { o with data:=.set es' (ep + 1) t' }:=by
 have:=Heap.get?_update_self (Obj.putSet es' t') ho (by rw [putSet_of es' t' hd]; rfl)
 rw [putSet_of es' t' hd] at this; exact this
theorem add_hashed {a:Addr} {ks:List (List K × Addr)} {kx:List K} {px:Addr} {Q:Bool->Shared->Prop} (hr:(tupleKind knd).room A) (hF:Flat knd) (hB:Scan knd) (hS:TSet knd s.heap a ks)
  (hks:∀ q ∈ ks,(tupleKind knd).is s.heap q.1 q.2) (hx:(tupleKind knd).is s.heap kx px) (hne:∀ q ∈ ks,q.1 ≠ kx) (hl:ks.length + 1<=300)
  (h:∀ h',Heap.SameBut a s.heap h'->TSet knd h' a (ks ++ [(kx,px)])->Q true { s with heap:=h' }) :
  wpAny (model prog w) A (setAddHashed a (.ref px) ((tupleKind knd).hash kx)) Q E s:=by
 obtain ⟨o,es,ep,t,ho,hex,hd,hE,hT⟩:=hS
 have hsz:es.size = ks.length:=by
  have:=hE.length_eq
  rw [Array.length_toList,List.length_map] at this; exact this
 unfold setAddHashed setAddHashedIn
 refine wpAny_holding ?_
 refine wpAny_bind (wpAny_setState_of ho hd hT.fits ?_)
 dsimp only
 rw [no_scan]
 simp only [Bool.false_eq_true,if_false]
 refine wpAny_bind (search_free hr hF ho hd hE hT hks hx hne fun j hj=>?_)
 dsimp only
 refine wpAny_bind (wpAny_setState_of ho hd hT.fits ?_)
 dsimp only
 rw [put_eq hT.dm]
 dsimp only
 have hb:=below_le t.place j
 have hb':SetTable.below t.place j<=es.size:=by rw [hT.pl] at hb; exact hb
 have hrm:=hT.rm
 have hmm:=hT.mm
 have hsz1:=insertAt_size es (SetTable.below t.place j) ((tupleKind knd).hash kx,Value.ref px) hb'
 have hpm:=insertAt_perm es (SetTable.below t.place j) ((tupleKind knd).hash kx,Value.ref px) hb'
 have hE1:∀ es':Array (Int × Value),es'.toList.Perm (SetTable.insertAt es (SetTable.below t.place j) ((tupleKind knd).hash kx,Value.ref px)).toList->Els knd es' (ks ++ [(kx,px)]):=fun es' hp=>by
  unfold Els
  rw [List.map_append]
  exact hp.trans (hpm.trans (hE.append_right _))
 have key:∀ t1:SetTable,t1.dummies = #[]->t1.mask = t.mask->t1.place.size = es.size + 1->wpAny (model prog w) A (do
   storeSet a (SetTable.insertAt es (SetTable.below t.place j) ((tupleKind knd).hash kx,Value.ref px)) t1
   if (!false && t1.tooFull) = true then do
    setRelay a (SetTable.grown (es.size + 1))
    pure true
   else pure true) Q E s:=by
  intro t1 d1 m1 p1
  refine wpAny_bind (wpAny_storeSet_of ho hd ?_ (by rw [hsz1,sizeLine_eq]; omega))
  have ho1:=set_get ho hd (SetTable.insertAt es (SetTable.below t.place j) ((tupleKind knd).hash kx,Value.ref px)) t1
  have sb1:=Heap.SameBut.update s.heap a (Obj.putSet (SetTable.insertAt es (SetTable.below t.place j) ((tupleKind knd).hash kx,Value.ref px)) t1)
  have htf:t1.tooFull = decide ((es.size + 1) * 5 ≥ t.mask * 3):=by
   unfold SetTable.tooFull SetTable.fill
   rw [d1,m1,p1]
   rfl
  rw [htf,Bool.not_false,Bool.true_and]
  by_cases hfull:(es.size + 1) * 5 ≥ t.mask * 3
  ·rw [decide_eq_true hfull,if_pos rfl]
   have hcase:∃ m,SetTable.sizeAbove (SetTable.grown (es.size + 1)) = m + 1/\Msk m/\(es.size + 1) * 5 < m * 3:=by
    have hg:SetTable.grown (es.size + 1) = (es.size + 1) * 4:=by
     unfold SetTable.grown
     rw [if_neg (by omega)]
    rw [hg]
    rcases hmm with e | e | e | e
    ·have:es.size + 1 = 5:=by omega
     rw [this]
     exact ⟨31,sz20,.inr (.inl rfl),by decide⟩
    ·have:es.size + 1 = 19:=by omega
     rw [this]
     exact ⟨127,sz76,.inr (.inr (.inl rfl)),by decide⟩
    ·have:es.size + 1 = 77:=by omega
     rw [this]
     exact ⟨511,sz308,.inr (.inr (.inr rfl)),by decide⟩
    ·omega
   obtain ⟨m,c1,c2,c3⟩:=hcase
   refine wpAny_bind ?_
   unfold setRelay
   refine relay_ok (fun _ _=>rfl) (s:={ s with heap:=_ }) ho1 rfl d1 ?_ c1 c2 (by rw [hsz1]; exact c3) fun es' t' hp ht=>?_
   ·unfold SetTable.fits SetTable.fill
    rw [hsz1,p1,d1,m1]
    have h300:es.size + 1 + 0<=t.mask:=by rcases hmm with e | e | e | e <;> omega
    simp
    omega
   ·refine wpAny_pure (h _ (sb1.trans (Heap.SameBut.update _ a _)) ?_)
    exact ⟨_,es',_,t',set_get ho1 rfl es' t',hex,rfl,hE1 es' hp,ht⟩
  ·rw [decide_eq_false hfull,if_neg (by decide)]
   refine wpAny_pure (h _ sb1 ⟨_,_,_,t1,ho1,hex,rfl,hE1 _ (.refl _),⟨d1,?_,?_,?_⟩⟩)
   ·rw [p1,hsz1]
   ·rw [m1]; exact hmm
   ·rw [m1,hsz1]; omega
 have hps:(SetTable.insertAt t.place (SetTable.below t.place j) j).size = es.size + 1:=by rw [insertAt_size _ _ _ hb,hT.pl]
 cases hpl:t.plain with
 | true =>
  simp only [if_true]
  refine wpAny_bind (hbv hB hx fun b=>?_)
  cases b with
  | true =>
   simp only [if_true]
   exact key _ hT.dm rfl hps
  | false =>
   simp only [Bool.false_eq_true,if_false]
   exact key _ hT.dm rfl hps
 | false =>
  simp only [Bool.false_eq_true,if_false]
  refine wpAny_bind (wpAny_pure ?_)
  simp only [if_true]
  exact key _ hT.dm rfl hps
theorem call_add {a:Addr} {ks:List (List K × Addr)} {kx:List K} {px:Addr} {Q:Value->Shared->Prop} (hr:A.units + 1 < cLine) (hF:Flat knd) (hB:Scan knd) (hS:TSet knd s.heap a ks)
  (hks:∀ q ∈ ks,(tupleKind knd).is s.heap q.1 q.2) (hx:(tupleKind knd).is s.heap kx px) (hne:∀ q ∈ ks,q.1 ≠ kx) (hl:ks.length + 1<=300)
  (h:∀ h',Heap.SameBut a s.heap h'->TSet knd h' a (ks ++ [(kx,px)])->Q .none { s with heap:=h',toks:=s.toks + (tupleKind knd).draws kx }) :
  wpAny (model prog w) A (call (.builtin "set.add") [.ref a,.ref px]) Q E s:=by
 refine wpAny_call_entry F.slot_set_add hS.typeIs F.entry_set_add ?_ (F.args_set_add_2 _ _)
 unfold Builtin.«set.add» Builtin.Frozenset.oneOther
 simp only [List.isEmpty_nil,bind_assoc]
 unfold Builtin.Frozenset.addrOf setAdd
 refine wpAny_bind (wpAny_pure ?_)
 try dsimp only
 refine wpAny_bind (wpAny_pure ?_)
 try dsimp only
 refine wpAny_bind ?_
 refine wpAny_holding ?_
 refine wpAny_bind ((tupleKind knd).pyHash ?hroom hx ?_)
 case hroom=>exact hr
 refine add_hashed (s:={ s with toks:=s.toks + (tupleKind knd).draws kx }) ?hroom hF hB hS hks hx hne hl fun h' hsb hS'=>?_
 case hroom=>exact hr
 show wpAny _ _ (ret Value.none) _ _ _
 exact wpAny_pure ⟨_,rfl,h h' hsb hS'⟩
end
end ST
namespace ST
open PySem
section
variable {prog:Program} {w:World} {A:Around} {E:Value->Shared->Prop} {s:Shared}
theorem erase_perm {α:Type}:∀ {l:List α} {i:Nat} {x:α},l[i]? = some x->(x :: l.eraseIdx i).Perm l
 | [],i,x,h=>by simp at h
 | y :: l,0,x,h=>by
  have:y = x:=by simpa using h
  subst this
  exact .refl _
 | y :: l,i + 1,x,h=>by
  have h':l[i]? = some x:=by simpa using h
  exact (List.Perm.swap y x _).trans ((erase_perm h').cons y)
structure SAt (w:World) (h:Heap) (a:Addr) (o:Obj) (es:Array (Int × Value)) (ep:Nat) (t:SetTable):Prop where
 ho:h.get? a = some o
 ex:o.ExactSet
 hd:o.data = .set es ep t
 ft:t.fits es.size = true
 led:t.led = !(w.params.followText "set-order")
 pln:t.plain = true->es.size = 0
 few:es.size < 4096
variable {a it:Addr} {o:Obj} {es:Array (Int × Value)} {ep:Nat} {t:SetTable}
end
end ST
namespace ST
open PySem L2
noncomputable def keyS:Value->Str
 | .str x _=>x
 | _=>Str.empty
section
variable {prog:Program} {w:World} {A:Around} {E:Value->Shared->Prop} {s:Shared} {a:Addr}
structure TxtEs (w:World) (es:Array (Int × Value)) (ss:List Str):Prop where
 el:∀ e ∈ es.toList,∃ x tk,e = (hashStr w x,Value.str x tk)
 pm:(es.toList.map fun e=>keyS e.2).Perm ss
 nd:ss.Nodup
noncomputable def WS (w:World) (h:Heap) (a:Addr) (ss:List Str):Prop:=∃ o es ep t,SAt w h a o es ep t/\TxtEs w es ss
end
end ST
namespace L2
open PySem PySem.Spec PyProof.Rows
noncomputable def SetW (w:World) (a:Addr) (ss:List Str):HO:=.ext fun h=>ST.WS w h a ss
section
variable {X:Cx} {pins:List (Addr × Obj)} {σ:St} {H:Hp} {s:Shared} {a:Addr} {ss:List Str}
theorem Inv.setw (I:Inv X pins σ H s) (e:H a = some (SetW X.w a ss)):ST.WS X.w s.heap a ss:=by
 obtain ⟨z,_⟩:=(show ObjOk X.prog X.w H s.heap a (SetW X.w a ss) from I.hok a _ e)
 exact z
end
end L2
namespace L2
open PySem PySem.Spec PyProof.Rows
noncomputable def SetT (P:Program) (w:World) (a:Addr) (ks:List (List Key × Addr)):HO:=.ext fun h=>ST.TSet (mixKind P w) h a ks
noncomputable def TupsIn (H:Hp) (ks:List (List Key × Addr)):Prop:=∀ q ∈ ks,H q.2 = some (.tup (q.1.map kV))
section
variable {X:Cx} {pins:List (Addr × Obj)} {σ:St} {H:Hp} {s:Shared} {a:Addr} {ks:List (List Key × Addr)}
theorem mix_flat (P:Program) (w:World):ST.Flat (mixKind P w):=fun v ⟨x,h⟩=>(mixKind P w).byValue x v h
theorem mix_scan (P:Program) (w:World):ST.Scan (mixKind P w):=fun v ⟨x,h⟩=>by
 rcases keyIs_shape (show keyIs x v = true from h) with ⟨i,t,_,rfl⟩ | ⟨y,t,_,rfl⟩ <;> rfl
theorem settOk {P:Program} {w:World} {H:Hp} {h:Heap} (z:ST.TSet (mixKind P w) h a ks):ObjOk P w H h a (SetT P w a ks) :=
 ⟨z,let ⟨o,_,_,_,e,_⟩:=z; ⟨o,e⟩,fun h1 h2 ⟨o,es,ep,t,e,r⟩ k=>⟨o,es,ep,t,k o e,r⟩⟩
theorem Inv.sett (I:Inv X pins σ H s) (e:H a = some (SetT X.prog X.w a ks)):ST.TSet (mixKind X.prog X.w) s.heap a ks:=by
 obtain ⟨z,_⟩:=(show ObjOk X.prog X.w H s.heap a (SetT X.prog X.w a ks) from I.hok a _ e)
 exact z
theorem call_set0T:CallR X (.type "set") (fun xs H Q=>xs = []/\∀ p,H p = none->Q (.ref p) (upd H p (SetT X.prog X.w p []))):=by
 intro pins s σ H xs us Q I r h
 obtain ⟨rfl,q⟩:=h
 cases r
 refine call_set_0 fun led=>⟨.ref s.heap.objs.size,_,I.laid (t':=s.toks) (fun b o e=>Heap.get?_push_of_some _ e) (Nat.le_refl _) (settOk ?_),rfl,q _ (I.hok.fresh (Nat.le_refl _))⟩
 exact ⟨_,#[],0,_,Heap.get?_push_size _ rfl,⟨rfl,rfl,rfl⟩,rfl,.refl _,⟨rfl,rfl,.inl rfl,by show 0 * 5 < 7 * 3; decide⟩⟩
noncomputable def rInT (P:Program) (w:World):R2:=fun x y H Q=>∃ a p ks k,y = .ref a/\x = .ref p/\H a = some (SetT P w a ks)/\H p = some (.tup (k.map kV))/\TupsIn H ks/\(∀ q ∈ ks,q.1 ≠ k)/\Q (.bl false) H
theorem op_in_sett (hu:X.A.units + 1 < cLine):OpR X (compareOp .In) (rInT X.prog X.w):=by
 intro pins s σ H x y v u Q I rx ry h
 obtain ⟨a,p,ks,k,rfl,rfl,hH,hp,ht,hn,q⟩:=h
 cases ry
 cases rx
 exact ST.in_free (neg:=false) hu (mix_flat _ _) (I.sett hH) (fun z hz=>key_of I.hok (ht z hz)) (key_of I.hok hp) hn ⟨.bl false,H,I.tok _,rfl,q⟩
noncomputable def rAddT (P:Program) (w:World):V->List V->Hp->VK->Prop:=fun x vs H Q=>∃ a p ks k,x = .ref a/\vs = [.ref p]/\H a = some (SetT P w a ks)/\H p = some (.tup (k.map kV))/\TupsIn H ks/\(∀ q ∈ ks,q.1 ≠ k)/\ks.length + 1<=300/\Q .non (upd H a (SetT P w a (ks ++ [(k,p)])))
theorem mt_addT (hu:X.A.units + 1 < cLine):MtM X "set.add" (rAddT X.prog X.w):=by
 intro pins s σ H x vs v us Q I rx rv h
 obtain ⟨a,p,ks,k,rfl,rfl,hH,hp,ht,hn,hl,q⟩:=h
 cases rx
 obtain ⟨u,rfl,ru⟩:=rv.one
 cases ru
 refine ST.call_add hu (mix_flat _ _) (mix_scan _ _) (I.sett hH) (fun z hz=>key_of I.hok (ht z hz)) (key_of I.hok hp) hn hl fun h' hs z=>?_
 exact ⟨.non,_,I.write (x:=a) (e:=a) (by rw [hH]; exact True.intro) (.inl rfl) (fun b q hb e=>(hs.2 b hb).trans e) (let ⟨o,_,_,_,e,_⟩:=z; ⟨o,e⟩) (settOk z),rfl,q⟩
end
section
variable {X:Cx} {tg:Expr}
noncomputable def iSeq (K:PySem.W.Frag) (tl:TE):TI:=fun σ H R=>tl σ H fun x H1=>∃ a,x = .ref a/\(((∃ xs,SqL K H1 a xs)/\R (Itl K a) H1)\/((∃ xs,SqT K H1 a xs)/\R (Itt K a) H1))
theorem pi_seq {l:Expr} {tl:TE} (hl:PE X l tl):PI X tg l (iSeq X.K tl):=by
 intro pins s σ H R I h
 refine thn (hl pins s σ H _ I h) fun v s1 ⟨x,H1,I1,r1,q1⟩=>?_
 obtain ⟨a,e,q1⟩:=q1
 subst e
 cases r1
 have fin:∀ b,b ∈ [s1.heap.objs.size]->FpOk X pins H1 b:=fun b hb=>by
  have e:b = s1.heap.objs.size:=by simpa using hb
  subst e
  exact I1.fpOk (Nat.le_refl _) (I1.hok.fresh (Nat.le_refl _))
 rcases q1 with ⟨⟨xs,hq⟩,q⟩ | ⟨⟨xs,hq⟩,q⟩
 ·obtain ⟨its,rv,p,hz⟩:=I1.list hq
  refine wpAny_pyIter_list p.isList ?_
  exact ⟨s1.heap.objs.size,[s1.heap.objs.size],_,_,H1,rfl,I1.kept (t':=s1.toks) fun b o e=>Heap.get?_push_of_some _ e,turn_list a _,⟨_,Heap.get?_push_size _ rfl,rfl,rfl⟩,fin,q⟩
 ·obtain ⟨its,rv,p,hz⟩:=I1.tuple hq
  refine wpAny_pyIter_tuple (show s1.heap.IsTuple a its.toArray from p) ?_
  exact ⟨s1.heap.objs.size,[s1.heap.objs.size],_,_,H1,rfl,I1.kept (t':=s1.toks) fun b o e=>Heap.get?_push_of_some _ e,turn_tuple a _,⟨_,Heap.get?_push_size _ rfl,rfl,rfl⟩,fin,q⟩
end
section
variable {X:Cx}
theorem call_isin:CallR X (.builtin "isinstance") (fun xs H Q=>∃ x n t b,xs = [x,.ty n]/\TyOf X.K H x t/\PySem.W.kitOne X.K t (.type n) = some b/\Q (.bl b) H):=by
 intro pins s σ H xs us Q I r h
 obtain ⟨x,n,t,b,rfl,ht,he,q⟩:=h
 obtain ⟨u,v,rfl,ru,rv⟩:=r.two
 cases rv
 exact isinst_ok I ru ht he fun tk=>⟨.bl b,H,I.tok _,rfl,q⟩
end
end L2
namespace L2
open PySem PySem.Spec PyProof.Rows
mutual
noncomputable def Rp (K:PySem.W.Frag) (H:Hp):PyData->V->Prop
 | .none,v=>v = .non
 | .bool b,v=>v = .bl b
 | .int i,v=>v = .int i
 | .str x,v=>v = .str x
 | .list ds,v=>∃ a xs,v = .ref a/\SqL K H a xs/\Rps K H ds xs
 | .tuple ds,v=>∃ a xs,v = .ref a/\SqT K H a xs/\Rps K H ds xs
 | .dict _,_=>False
noncomputable def Rps (K:PySem.W.Frag) (H:Hp):List PyData->List V->Prop
 | [],vs=>vs = []
 | d :: ds,vs=>∃ v r,vs = v :: r/\Rp K H d v/\Rps K H ds r
end
section
variable {X:Cx} {pins:List (Addr × Obj)} {σ:St} {H:Hp} {s:Shared}
mutual
theorem Inv.reads (I:Inv X pins σ H s):∀ (d:PyData) (v:V) (u:Value),Rp X.K H d v->RelV v u->∃ as,Reads s.heap u d as
 | .none,v,u,h,r=>by
  cases (show v = .non by simpa [Rp] using h)
  cases r
  exact ⟨_,.none⟩
 | .bool b,v,u,h,r=>by
  cases (show v = .bl b by simpa [Rp] using h)
  cases r
  exact ⟨_,.bool b⟩
 | .int i,v,u,h,r=>by
  cases (show v = .int i by simpa [Rp] using h)
  obtain ⟨t,rfl⟩:=r
  exact ⟨_,.int i t⟩
 | .str x,v,u,h,r=>by
  cases (show v = .str x by simpa [Rp] using h)
  obtain ⟨t,rfl⟩:=r
  exact ⟨_,.str x t⟩
 | .list ds,v,u,h,r=>by
  obtain ⟨a,xs,e,hq,hs⟩:=(show ∃ a xs,v = V.ref a/\SqL X.K H a xs/\Rps X.K H ds xs by simpa [Rp] using h)
  subst e
  cases r
  obtain ⟨its,rv,⟨o,n,e,hc,hd,hda⟩,_⟩:=I.list hq
  obtain ⟨as,z⟩:=I.readsAll ds xs its hs rv
  exact ⟨_,.list e hc hda (by simpa using z)⟩
 | .tuple ds,v,u,h,r=>by
  obtain ⟨a,xs,e,hq,hs⟩:=(show ∃ a xs,v = V.ref a/\SqT X.K H a xs/\Rps X.K H ds xs by simpa [Rp] using h)
  subst e
  cases r
  obtain ⟨its,rv,⟨o,e,hc,n,hda⟩,_⟩:=I.tuple hq
  obtain ⟨as,z⟩:=I.readsAll ds xs its hs rv
  exact ⟨_,.tuple e hc hda (by simpa using z)⟩
 | .dict _,v,u,h,r=>by simp [Rp] at h
theorem Inv.readsAll (I:Inv X pins σ H s):∀ (ds:List PyData) (vs:List V) (us:List Value),Rps X.K H ds vs->Vals vs us->∃ as,ReadsAll s.heap us ds as
 | [],vs,us,h,r=>by
  cases (show vs = [] by simpa [Rps] using h)
  cases r
  exact ⟨_,.nil⟩
 | d :: ds,vs,us,h,r=>by
  obtain ⟨v,vr,e,h1,h2⟩:=(show ∃ v r,vs = v :: r/\Rp X.K H d v/\Rps X.K H ds r by simpa [Rps] using h)
  subst e
  cases r with
  | cons r1 r2 =>
   obtain ⟨as,z⟩:=I.reads d v _ h1 r1
   obtain ⟨bs,z'⟩:=I.readsAll ds vr _ h2 r2
   exact ⟨_,.cons z z'⟩
end
noncomputable def Pl (d:PyData):Prop:=d.canLay0 = true/\d.depth<=50
noncomputable def rEqD (K:PySem.W.Frag):R2:=fun x y H Q=>∃ d e,Rp K H d x/\Rp K H e y/\Pl d/\Pl e/\Q (.bl (PyData.eqv d e)) H
noncomputable def rNeD (K:PySem.W.Frag):R2:=fun x y H Q=>∃ d e,Rp K H d x/\Rp K H e y/\Pl d/\Pl e/\Q (.bl (!PyData.eqv d e)) H
theorem op_eqD (hu:X.A.units + 64 < cLine):OpR X (compareOp .Eq) (rEqD X.K):=by
 intro pins s σ H x y v u Q I rx ry h
 obtain ⟨d,e,h1,h2,p1,p2,q⟩:=h
 obtain ⟨as,z1⟩:=I.reads d x v h1 rx
 obtain ⟨bs,z2⟩:=I.reads e y u h2 ry
 exact PySem.SeqAt.compareEq_reads z1 z2 p1.1 p2.1 (by have:=p1.2; have:=p2.2; omega) ⟨.bl (PyData.eqv d e),H,I,rfl,q⟩
theorem op_neD (hu:X.A.units + 64 < cLine):OpR X (compareOp .NotEq) (rNeD X.K):=by
 intro pins s σ H x y v u Q I rx ry h
 obtain ⟨d,e,h1,h2,p1,p2,q⟩:=h
 obtain ⟨as,z1⟩:=I.reads d x v h1 rx
 obtain ⟨bs,z2⟩:=I.reads e y u h2 ry
 exact PySem.SeqAt.compareNe_reads z1 z2 p1.1 p2.1 (by have:=p1.2; have:=p2.2; omega) ⟨.bl (!PyData.eqv d e),H,I,rfl,q⟩
noncomputable def rInD (K:PySem.W.Frag) (neg:Bool):R2:=fun x y H Q=>∃ d ds,Rp K H d x/\(Rp K H (.list ds) y\/Rp K H (.tuple ds) y)/\Pl d/\PyData.canLayAll0 ds = true/\Q (.bl (if neg then !(ds.any fun z=>PyData.eqv z d) else ds.any fun z=>PyData.eqv z d)) H
theorem op_inD (hu:X.A.units + 64 < cLine):OpR X (compareOp .In) (rInD X.K false):=by
 intro pins s σ H x y v u Q I rx ry h
 obtain ⟨d,ds,h1,h2,p1,p2,q⟩:=h
 obtain ⟨as,z1⟩:=I.reads d x v h1 rx
 have hu':X.A.units + 1 + min (PyData.depthAll ds) d.depth < cLine:=by have:=p1.2; omega
 rcases h2 with h2 | h2
 ·obtain ⟨bs,z2⟩:=I.reads (.list ds) y u h2 ry
  exact PySem.SeqAt.in_list_reads z2 z1 p2 p1.1 hu' ⟨.bl _,H,I,rfl,q⟩
 ·obtain ⟨bs,z2⟩:=I.reads (.tuple ds) y u h2 ry
  exact PySem.SeqAt.in_tuple_reads z2 z1 p2 p1.1 hu' ⟨.bl _,H,I,rfl,q⟩
theorem op_notInD (hu:X.A.units + 64 < cLine):OpR X (compareOp .NotIn) (rInD X.K true):=by
 intro pins s σ H x y v u Q I rx ry h
 obtain ⟨d,ds,h1,h2,p1,p2,q⟩:=h
 obtain ⟨as,z1⟩:=I.reads d x v h1 rx
 have hu':X.A.units + 1 + min (PyData.depthAll ds) d.depth < cLine:=by have:=p1.2; omega
 rcases h2 with h2 | h2
 ·obtain ⟨bs,z2⟩:=I.reads (.list ds) y u h2 ry
  exact PySem.SeqAt.notIn_list_reads z2 z1 p2 p1.1 hu' ⟨.bl _,H,I,rfl,q⟩
 ·obtain ⟨bs,z2⟩:=I.reads (.tuple ds) y u h2 ry
  exact PySem.SeqAt.notIn_tuple_reads z2 z1 p2 p1.1 hu' ⟨.bl _,H,I,rfl,q⟩
end
section
variable {X:Cx}
theorem Vals.insert {xs:List V} {us:List Value} {x:V} {u:Value} (h:Vals xs us) (r:RelV x u) (k:Nat):Vals (xs.take k ++ x :: xs.drop k) (us.take k ++ u :: us.drop k):=(h.take k).append (.cons r (h.drop k))
noncomputable def rInsert:V->List V->Hp->VK->Prop:=fun x vs H Q=>∃ l xs i k y,x = .ref l/\vs = [.int i,y]/\i = ((k:Nat):Int)/\H l = some (.lst xs)/\k<=xs.length/\xs.length < sizeLine/\Q .non (upd H l (.lst (xs.take k ++ y :: xs.drop k)))
theorem fitsN {k:Nat} {i:Int} (e:i = (k:Int)) (h:k<=sizeLine):¬ (!Builtin.List.listFitsIndex i) = true:=by
 rw [sizeLine_eq] at h
 have h1:-(2 ^ 63:Int)<=i:=by omega
 have h2:i < 2 ^ 63:=by omega
 have:=fitsIndex_both h1 h2
 simpa using this
theorem mt_insert:MtM X "list.insert" rInsert:=by
 intro pins s σ H x vs v us Q I rx rv h
 obtain ⟨l,xs,i,k,y,rfl,rfl,hi,hH,hk,hz,q⟩:=h
 cases rx
 obtain ⟨u1,u2,rfl,⟨t,rfl⟩,ru⟩:=rv.two
 obtain ⟨z,its,n,r,hl,e⟩:=I.lstM hH
 have h0:k<=sizeLine:=by omega
 have h1:=fitsN hi h0
 have h2:its.toArray.size<=sizeLine:=by rw [List.size_toArray]; omega
 have hM:=@PySem.AutoListH.list_insert_list_int_val_1 l its.toArray n i t u2 h1 h2
 refine call_meets F.slot_list_insert ⟨_,e,rfl⟩ F.entry_list_insert (F.args_list_insert_3 _ _ _) hM ⟨e,?_⟩
 refine ⟨.non,_,I.lset (its':=its.take k ++ u2 :: its.drop k) hH e ?_ (r.insert ru k) ?_,rfl,q⟩
 ·have hmin:min k its.length = k:=by omega
  have hn:¬ ((k:Int) < 0):=by omega
  subst hi
  have hneg:¬ ((k:Int) + 0 < 0):=by omega
  have e3:List.take (its.length - k) (List.drop k its) = List.drop k its:=List.take_of_length_le (by simp)
  simp [hmin,hn,e3]
 ·rw [List.length_append,List.length_cons,List.length_take,List.length_drop]
  omega
noncomputable def rSplit:V->List V->Hp->VK->Prop:=fun x vs H Q=>∃ z y ps,x = .str z/\vs = [.str y]/\(decide (z.length < y.length) || decide (Builtin.Str.strKind z < Builtin.Str.strKind y)) = false/\(y.length == 0) = false /\
 (Builtin.Str.occurrences z y 0 z.length (z.length + 1)).isEmpty = false/\z.length<=4000/\Builtin.Str.partsBetween z (Builtin.Str.occurrences z y 0 z.length (z.length + 1)) y.length = ps/\ps.length<=4000/\∀ l,H l = none->Q (.ref l) (upd H l (.lst (ps.map V.str)))
theorem vals_from:∀ (ps:List Str) (tk:Nat),Vals (ps.map V.str) (strsFrom tk ps)
 | [],_=>.nil
 | _ :: r,tk=>.cons ⟨tk,rfl⟩ (vals_from r (tk + 1))
theorem mt_split:MtM X "str.split" rSplit:=by
 intro pins s σ H x vs v us Q I rx rv h
 obtain ⟨z,y,ps,rfl,rfl,h1,h2,h3,h4,rfl,h6,q⟩:=h
 obtain ⟨t,rfl⟩:=rx
 obtain ⟨u,rfl,⟨tk,rfl⟩⟩:=rv.one
 have hz:z.length<=sizeLine:=by rw [sizeLine_eq]; omega
 have hp:(Builtin.Str.partsBetween z (Builtin.Str.occurrences z y 0 z.length (z.length + 1)) y.length).length<=sizeLine:=by rw [sizeLine_eq]; omega
 refine call_meets F.slot_str_split (typeIs_str _ _ _) F.entry_str_split (F.args_str_split_2 _ _) (PySem.meets_str_split_sep z y t tk h1 h2 h3 hz hp) ?_
 exact ⟨.ref s.heap.objs.size,_,I.lnew (vals_from _ _) (by rw [List.length_map]; exact hp),rfl,q _ I.fresh⟩
end
end L2
namespace L2
open PySem PySem.Spec PyProof.Rows
structure Fn (K:PySem.W.Frag) (mg:Str->Option Value) (x:Str) (st:Stmt) (ps:List Str) where
 f:Addr
 fd:FuncData
 F:Fun K x x st f fd
 b:Binds K fd ps []
 m:mg x = some (.ref f)
structure Mt (K:PySem.W.Frag) (C:Addr) (m qual:Str) (st:Stmt) (ps:List Str) where
 f:Addr
 fd:FuncData
 F:Fun K m qual st f fd
 b:Binds K fd ps []
 m:Meth K C m f
section
variable {X:Cx}
theorem pe_fn {x:Str} {st:Stmt} {ps:List Str} {k:Nat} {sp:Sp} {e:Expr} {es:List Expr} {t:TA} {p pos:Pos} (D:Fn X.K X.mg x st ps) (G:FnOk X.prog X.w X.K X.mg X.base CX0 k D.f D.fd ps sp) (hr:Room k X.A) (ha:PA X (e :: es) t)
  (hg:Gl X x:=by rfl) (hdb:(x == ("__debug__":Str)) = false:=by decide) (hs:starEach (e :: es) X.env = (false,eval e X.env) :: starEach es X.env:=by rfl) (hpl:(backTo pos (starEach es X.env)).any (·.1) = false:=by rfl) :
  PE X (.Call (.Name x p) (e :: es) [] pos) (tCall sp [] E0 t):=pe_call G hr hg D.m D.F.kp D.b .nil pass0 ha hdb hs hpl
noncomputable def SetLike (P:Program) (w:World) (x:V) (H:Hp):Prop:=∃ p,x = .ref p/\((∃ l,H p = some (SetS P w p l))\/(∃ l,H p = some (SetW w p l))\/∃ ks,H p = some (SetT P w p ks))
theorem set_is {pins:List (Addr × Obj)} {σ:St} {H:Hp} {s:Shared} {x:V} {v:Value} (I:Inv X pins σ H s) (r:RelV x v) (ty:SetLike X.prog X.w x H):s.TypeIs v "set"/\∀ a,v = .ref a->∃ ob,s.heap.get? a = some ob/\ob.dict = none:=by
 obtain ⟨p,rfl,h⟩:=ty
 cases r
 have z:∃ o,s.heap.get? p = some o/\o.ExactSet:=by
  rcases h with ⟨l,h⟩ | ⟨l,h⟩ | ⟨l,h⟩
  ·obtain ⟨o,_,_,_,e,ex,_⟩:=I.set h
   exact ⟨o,e,ex⟩
  ·obtain ⟨o,_,_,_,S,_⟩:=I.setw h
   exact ⟨o,S.ho,S.ex⟩
  ·obtain ⟨o,_,_,_,e,ex,_⟩:=I.sett h
   exact ⟨o,e,ex⟩
 obtain ⟨o,e,ex⟩:=z
 refine ⟨⟨o,e,ex.1⟩,fun a e2=>?_⟩
 cases e2
 exact ⟨o,e,ex.2.1⟩
noncomputable def tBMS (P:Program) (w:World) (r:V->List V->Hp->VK->Prop) (to:TE) (t:TA):TE:=fun σ H Q=>to σ H fun x H1=>SetLike P w x H1/\t σ H1 fun xs H2=>r x xs H2 Q
theorem pe_sadd {o e:Expr} {to:TE} {t:TA} {apos cpos:Pos} {r:V->List V->Hp->VK->Prop} (hm:MtM X "set.add" r) (ho:PE X o to) (ha:PA X [e] t)
  (hbase:attributeBase o "add" X.env (eval o X.env) = eval o X.env:=by rfl)
  (hfew:((backTo cpos (starEach [e] X.env)).all (fun x=>!x.1) && (backToKw cpos (keywordEach [] X.env)).all (fun x=>x.1.isSome)
   && decide ([e].length + ([]:List Keyword).length + (if ([]:List Keyword).isEmpty then 0 else 1) < 30)) = true:=by rfl)
  (hline:(apos.endLine == cpos.line) = true:=by rfl) (hs:starEach [e] X.env = [(false,eval e X.env)]:=by rfl) :
  PE X (.Call (.Attribute o "add" apos) [e] [] cpos) (tBMS X.prog X.w r to t):=by
 intro pins s σ H Q I h
 refine wpAny_Call_method_late hbase hfew hline rfl (thn (ho pins s σ H _ I h) fun v s1 ⟨x,H1,I1,r1,ty,q1⟩=>?_)
 obtain ⟨h1,h2⟩:=set_is I1 r1 ty
 refine ⟨"set", "set.add",F.plainAttrs_set,F.slot_set_add,F.type_set_add,h1,h2,?_⟩
 have hA:=ha cpos pins s1 σ H1 _ I1 q1
 rw [hs] at hA ⊢
 refine Calls.callWith_builtin rfl (Calls.evalArgs_plain ?_)
 exact thn hA fun us s2 ⟨vs,H2,I2,r2,q2⟩=>hm pins s2 σ H2 x vs v us Q I2 r1 r2 q2
theorem pe_gi {x:Str} {i:Int} {pos:Pos} (h:∃ t,X.mg x = some (.int i t)) (hg:Gl X x:=by rfl) (hd:(x == ("__debug__":Str)) = false:=by decide):PE X (.Name x pos) (tC (.int i)):=by
 obtain ⟨t,e⟩:=h
 exact pe_glob hg e ⟨t,rfl⟩ hd
theorem pe_gs {x y:Str} {pos:Pos} (h:∃ t,X.mg x = some (.str y t)) (hg:Gl X x:=by rfl) (hd:(x == ("__debug__":Str)) = false:=by decide):PE X (.Name x pos) (tC (.str y)):=by
 obtain ⟨t,e⟩:=h
 exact pe_glob hg e ⟨t,rfl⟩ hd
theorem pe_ty {x:Str} {n:String} {pos:Pos} (hm:X.mg x = none) (hv:bootBuiltins x = some (.type n)) (hg:Gl X x:=by rfl) (hn:x ≠ "__name__":=by decide) (hd:(x == ("__debug__":Str)) = false:=by decide):PE X (.Name x pos) (tC (.ty n)) :=
 pe_bltn hg hm hv rfl hn hd
theorem pe_bf {x:Str} {id:String} {r:List V->Hp->VK->Prop} {e:Expr} {es:List Expr} {t:TA} {p pos:Pos} (hc:CallR X (.builtin id) r) (hm:X.mg x = none) (hv:bootBuiltins x = some (.builtin id)) (ha:PA X (e :: es) t) (hg:Gl X x:=by rfl) (hn:x ≠ "__name__":=by decide) (hdb:(x == ("__debug__":Str)) = false:=by decide)
  (hs:starEach (e :: es) X.env = (false,eval e X.env) :: starEach es X.env:=by rfl) (hpl:(backTo pos (starEach es X.env)).any (·.1) = false:=by rfl):PE X (.Call (.Name x p) (e :: es) [] pos) (tCB r t):=pe_callB hc hg hm hv ha hn hdb hs hpl
theorem pe_bt {x:Str} {T:String} {r:List V->Hp->VK->Prop} {e:Expr} {es:List Expr} {t:TA} {p pos:Pos} (hc:CallR X (.type T) r) (hm:X.mg x = none) (hv:bootBuiltins x = some (.type T)) (ha:PA X (e :: es) t) (hg:Gl X x:=by rfl) (hn:x ≠ "__name__":=by decide) (hdb:(x == ("__debug__":Str)) = false:=by decide)
  (hs:starEach (e :: es) X.env = (false,eval e X.env) :: starEach es X.env:=by rfl) (hpl:(backTo pos (starEach es X.env)).any (·.1) = false:=by rfl):PE X (.Call (.Name x p) (e :: es) [] pos) (tCB r t):=pe_callTy hc hg hm hv ha hn hdb hs hpl
theorem cs_mk {scope:Scope} {cl:List (Str × Addr)} {N':List Str} {cap:List (Option Nat)} (caps:Caps X scope cl N' cap) (cin:ClIn X cl) (clos:closureFor scope X.env = pure cl:=by rfl) (kind:scope.kind = .function:=by rfl) (nocell:∀ y ∈ scope.names,y.2 ≠ .cell:=by decide +kernel)
  (loc:∀ y ∈ scope.names,y.2 = .local->scope.names.lookup y.1 = some .local:=by decide +kernel) (has:((relabel scope X.env).names.all fun y=>!(y.2 == .cell || y.2 == .free) || (cl.lookup y.1).isSome) = true:=by rfl):CScope X scope cl N' cap:=⟨kind,nocell,loc,clos,cin,has,caps⟩
theorem pgC {scope:Scope} {cl:List (Str × Addr)} {N':List Str} {pins:List (Addr × Obj)} {ex:List Addr} {s3:Shared} {H3:Hp} {x:Str} {pos:Pos} (i:Nat) (hN:N'.Nodup:=by decide +kernel) (hi:N'[i]? = some x:=by rfl) (hx:Loc (cxC X scope cl N' pins ex s3 H3).env.scope x:=by exact Or.inl rfl)
  (hf:(cxC X scope cl N' pins ex s3 H3).env.scope.names.lookup x = some .local:=by rfl):PG (cxC X scope cl N' pins ex s3 H3) (.Name x pos) (gName i):=pg_name (X:=cxC X scope cl N' pins ex s3 H3) hN hi hx (.inr hf)
end
theorem bt_len:bootBuiltins "len" = some (.builtin "len"):=by decide +kernel
theorem bt_enumerate:bootBuiltins "enumerate" = some (.type "enumerate"):=by decide +kernel
theorem bt_min:bootBuiltins "min" = some (.builtin "min"):=by decide +kernel
theorem bt_abs:bootBuiltins "abs" = some (.builtin "abs"):=by decide +kernel
theorem bt_sorted:bootBuiltins "sorted" = some (.builtin "sorted"):=by decide +kernel
theorem bt_int:bootBuiltins "int" = some (.type "int"):=by decide +kernel
theorem bt_str:bootBuiltins "str" = some (.type "str"):=by decide +kernel
theorem bt_bool:bootBuiltins "bool" = some (.type "bool"):=by decide +kernel
theorem bt_list:bootBuiltins "list" = some (.type "list"):=by decide +kernel
theorem bt_tuple:bootBuiltins "tuple" = some (.type "tuple"):=by decide +kernel
theorem bt_set:bootBuiltins "set" = some (.type "set"):=by decide +kernel
theorem bt_isinstance:bootBuiltins "isinstance" = some (.builtin "isinstance"):=by decide +kernel
theorem bt_all:bootBuiltins "all" = some (.builtin "all"):=by decide +kernel
end L2
namespace L2
open PySem PySem.Spec PyProof.Rows
noncomputable def KeepAt (a:Addr) (H0 H:Hp):Prop:=∀ o,H0 a = some o->H a = some o
noncomputable def Sm (D:List Addr) (H H':Hp):Prop:=∀ b o,H b = some o->b ∉ D->H' b = some o
theorem Same.at {H0 H:Hp} (h:Same H0 H) (a:Addr):KeepAt a H0 H:=fun o e=>h a o e
theorem Same.new {H:Hp} {p:Addr} {o:HO} (h:H p = none):Same H (upd H p o):=fun b u e=>by rw [upd_ne (ne_of_none e h)]; exact e
theorem Same.upd {H0 H:Hp} {p:Addr} {o:HO} (s:Same H0 H) (h:H0 p = none):Same H0 (upd H p o):=fun b u e=>by rw [upd_ne (ne_of_none e h)]; exact s b u e
theorem Same.sm {D:List Addr} {H H':Hp} (h:Same H H'):Sm D H H':=fun b o e _=>h b o e
theorem Sm.refl (D:List Addr) (H:Hp):Sm D H H:=fun _ _ e _=>e
theorem Sm.trans {D:List Addr} {H H1 H2:Hp} (a:Sm D H H1) (b:Sm D H1 H2):Sm D H H2:=fun c o h n=>b c o (a c o h n) n
theorem Sm.new {D:List Addr} {H H1:Hp} {p:Addr} {o:HO} (a:Sm D H H1) (h:H1 p = none):Sm D H (L2.upd H1 p o):=fun b u e n=>by
 have:=a b u e n
 rw [upd_ne (ne_of_none this h)]; exact this
theorem Sm.upd {D:List Addr} {H H1:Hp} {p:Addr} {o:HO} (a:Sm D H H1) (h:p ∈ D):Sm D H (L2.upd H1 p o):=fun b u e n=>by
 rw [upd_ne (show b ≠ p from fun z=>n (by rw [z]; exact h))]; exact a b u e n
theorem Sm.updN {D:List Addr} {H H1:Hp} {p:Addr} {o:HO} (a:Sm D H H1) (h:H p = none):Sm D H (L2.upd H1 p o):=fun b u e n=>by rw [upd_ne (ne_of_none e h)]; exact a b u e n
theorem Sm.at {D:List Addr} {H H':Hp} (h:Sm D H H') {a:Addr} (n:a ∉ D):KeepAt a H H':=fun o e=>h a o e n
theorem KeepAt.seqL {K:PySem.W.Frag} {H H':Hp} {a:Addr} {xs:List V} (e:KeepAt a H H') (h:SqL K H a xs):SqL K H' a xs:=by
 rcases h with (h | ⟨o,h⟩) | h
 ·exact .inl (.inl (e _ h))
 ·exact .inl (.inr ⟨o,e _ h⟩)
 ·exact .inr h
theorem KeepAt.seqT {K:PySem.W.Frag} {H H':Hp} {a:Addr} {xs:List V} (e:KeepAt a H H') (h:SqT K H a xs):SqT K H' a xs:=by
 rcases h with (h | ⟨o,h⟩) | h
 ·exact .inl (.inl (e _ h))
 ·exact .inl (.inr ⟨o,e _ h⟩)
 ·exact .inr h
noncomputable def Sqs (K:PySem.W.Frag) (H:Hp) (a:Addr) (xs:List V):Prop:=SqL K H a xs\/SqT K H a xs
theorem KeepAt.seq {K:PySem.W.Frag} {H H':Hp} {a:Addr} {xs:List V} (e:KeepAt a H H') (h:Sqs K H a xs):Sqs K H' a xs:=h.imp e.seqL e.seqT
structure AsSeq (J:It) (xs:List V) (a:Addr) (H0:Hp):Prop where
 go:∀ H i,KeepAt a H0 H->i < xs.length->J.go i H
 stop:∀ H,KeepAt a H0 H->J.stop xs.length H
 yld:∀ H i x H',KeepAt a H0 H->i < xs.length->J.yld i H x H'->H' = H/\xs[i]? = some x
theorem asL {K:PySem.W.Frag} {H0:Hp} {a:Addr} {xs:List V} (h:SqL K H0 a xs):AsSeq (Itl K a) xs a H0 :=
 ⟨fun H i k hi=>⟨xs,xs[i],k.seqL h,List.getElem?_eq_getElem hi⟩,fun H k=>⟨xs,k.seqL h,Nat.le_refl _⟩,fun H i x H' k hi ⟨e,y⟩=>⟨e,y xs (k.seqL h)⟩⟩
theorem asT {K:PySem.W.Frag} {H0:Hp} {a:Addr} {xs:List V} (h:SqT K H0 a xs):AsSeq (Itt K a) xs a H0 :=
 ⟨fun H i k hi=>⟨xs,xs[i],k.seqT h,List.getElem?_eq_getElem hi⟩,fun H k=>⟨xs,k.seqT h,Nat.le_refl _⟩,fun H i x H' k hi ⟨e,y⟩=>⟨e,y xs (k.seqT h)⟩⟩
theorem iseq_v {K:PySem.W.Frag} {H:Hp} {σ:St} {a:Addr} {xs:List V} {R:It->Hp->Prop} {i:Nat} (hv:σ[i]? = some (some (.ref a))) (h:Sqs K H a xs) (r:∀ J,AsSeq J xs a H->R J H):iSeq K (tVar i) σ H R:=by
 refine ⟨_,hv,a,rfl,?_⟩
 rcases h with h | h
 ·exact .inl ⟨⟨xs,h⟩,r _ (asL h)⟩
 ·exact .inr ⟨⟨xs,h⟩,r _ (asT h)⟩
theorem comp_seq {K:PySem.W.Frag} {o:Addr->HO} {cap:List (Option Nat)} {lp:Addr->It->St->Hp->(St->Hp->Prop)->Prop} {σ:St} {H:Hp} {Q:VK} {a:Addr} {xs:List V} {i:Nat} (hv:σ[i]? = some (some (.ref a))) (h:Sqs K H a xs)
  (r:∀ J,AsSeq J xs a H->∀ D,H D = none->lp D J (capS cap σ) (upd H D (o D)) fun _ H2=>Q (.ref D) H2):tComp (iSeq K (tVar i)) o cap lp σ H Q:=iseq_v hv h r
theorem for_J {J:It} {n:Nat} {g:TG} {tb:TS} {D:Ends} {σ:St} {H:Hp} (Pv:Nat->St->Hp->Prop) (h0:Pv 0 σ H) (hgo:∀ i σ H,i < n->Pv i σ H->J.go i H) (hst:∀ σ H,Pv n σ H->J.stop n H)
  (hs:∀ i σ H x H',i < n->Pv i σ H->J.yld i H x H'->g x σ H' fun σ2 H2=>tb { D with nx:=Pv (i + 1),ct:=Pv (i + 1),bk:=D.nx } σ2 H2) (hd:∀ σ H,Pv n σ H->D.nx σ H) :
  ∃ W:Nat->Nat->St->Hp->Prop,(∃ m,W 0 m σ H)/\∀ i m σ H,W i m σ H ->
   (J.stop i H/\D.nx σ H)\/(J.go i H/\∃ N:St->Hp->Prop,(∀ σ' H',N σ' H'->∃ m',m' < m/\W (i + 1) m' σ' H')/\∀ x H',J.yld i H x H'->g x σ H' fun σ2 H2=>tb { D with nx:=N,ct:=N,bk:=D.nx } σ2 H2):=by
 refine ⟨fun i m σ H=>m = n - i/\i<=n/\Pv i σ H,⟨n,by simp,Nat.zero_le _,h0⟩,?_⟩
 rintro i m σ H ⟨rfl,hi,p⟩
 by_cases hlt:i < n
 ·exact .inr ⟨hgo i σ H hlt p,Pv (i + 1),fun σ' H' p'=>⟨n - (i + 1),by omega,rfl,hlt,p'⟩,fun x H' y=>hs i σ H x H' hlt p y⟩
 ·have e:i = n:=by omega
  subst e
  exact .inl ⟨hst σ H p,hd σ H p⟩
theorem for_as {J:It} {xs:List V} {a:Addr} {H0:Hp} (as:AsSeq J xs a H0) {g:TG} {tb:TS} {D:Ends} {σ:St} {H:Hp} (Pv:Nat->St->Hp->Prop) (h0:Pv 0 σ H) (hk:∀ i σ H,i<=xs.length->Pv i σ H->KeepAt a H0 H)
  (hs:∀ i σ H x,xs[i]? = some x->Pv i σ H->g x σ H fun σ2 H2=>tb { D with nx:=Pv (i + 1),ct:=Pv (i + 1),bk:=D.nx } σ2 H2) (hd:∀ σ H,Pv xs.length σ H->D.nx σ H) :
  ∃ W:Nat->Nat->St->Hp->Prop,(∃ m,W 0 m σ H)/\∀ i m σ H,W i m σ H ->
   (J.stop i H/\D.nx σ H)\/(J.go i H/\∃ N:St->Hp->Prop,(∀ σ' H',N σ' H'->∃ m',m' < m/\W (i + 1) m' σ' H')/\∀ x H',J.yld i H x H'->g x σ H' fun σ2 H2=>tb { D with nx:=N,ct:=N,bk:=D.nx } σ2 H2) :=
 for_J (n:=xs.length) Pv h0 (fun i σ H hi p=>as.go H i (hk i σ H (Nat.le_of_lt hi) p) hi) (fun σ H p=>as.stop H (hk _ σ H (Nat.le_refl _) p)) (fun i σ H x H' hi p y=>by
  obtain ⟨rfl,e⟩:=as.yld H i x H' (hk i σ H (Nat.le_of_lt hi) p) hi y
  exact hs i σ _ x e p) hd
theorem loop_J {J:It} {n:Nat} {g:TG} {tc:TT} {em:TEm} {σ:St} {H:Hp} {Q:St->Hp->Prop} (Pv:Nat->St->Hp->Prop) (h0:Pv 0 σ H) (hgo:∀ i σ H,i < n->Pv i σ H->J.go i H) (hst:∀ σ H,Pv n σ H->J.stop n H)
  (hs:∀ i σ H x H' (N:St->Hp->Prop),i < n->Pv i σ H->J.yld i H x H'->(∀ σ' H',Pv (i + 1) σ' H'->N σ' H')->g x σ H' fun σ2 H2=>tc σ2 H2 fun b H3=>if b = true then em σ2 H3 N else N σ2 H3)
  (hd:∀ σ H,Pv n σ H->Q σ H):Loop g tc em J σ H Q:=by
 refine ⟨fun i m σ H=>m = n - i/\i<=n/\Pv i σ H,⟨n,by simp,Nat.zero_le _,h0⟩,?_⟩
 rintro i m σ H ⟨rfl,hi,p⟩
 by_cases hlt:i < n
 ·exact .inr ⟨hgo i σ H hlt p,fun x H' y=>hs i σ H x H' _ hlt p y fun σ3 H4 p'=>⟨n - (i + 1),by omega,rfl,hlt,p'⟩⟩
 ·have e:i = n:=by omega
  subst e
  exact .inl ⟨hst σ H p,hd σ H p⟩
theorem loop_as {J:It} {xs:List V} {a:Addr} {H0:Hp} (as:AsSeq J xs a H0) {g:TG} {tc:TT} {em:TEm} {σ:St} {H:Hp} {Q:St->Hp->Prop} (Pv:Nat->St->Hp->Prop) (h0:Pv 0 σ H) (hk:∀ i σ H,i<=xs.length->Pv i σ H->KeepAt a H0 H)
  (hs:∀ i σ H x (N:St->Hp->Prop),xs[i]? = some x->Pv i σ H->(∀ σ' H',Pv (i + 1) σ' H'->N σ' H')->g x σ H fun σ2 H2=>tc σ2 H2 fun b H3=>if b = true then em σ2 H3 N else N σ2 H3)
  (hd:∀ σ H,Pv xs.length σ H->Q σ H):Loop g tc em J σ H Q :=
 loop_J (n:=xs.length) Pv h0 (fun i σ H hi p=>as.go H i (hk i σ H (Nat.le_of_lt hi) p) hi) (fun σ H p=>as.stop H (hk _ σ H (Nat.le_refl _) p)) (fun i σ H x H' N hi p y hN=>by
  obtain ⟨rfl,e⟩:=as.yld H i x H' (hk i σ H (Nat.le_of_lt hi) p) hi y
  exact hs i σ _ x N e p hN) hd
theorem g_true {em:TEm} {N:St->Hp->Prop} {σ:St} {H:Hp} {i:Nat} {x:V} (h:em (σ.set i (some x)) H N):gName i x σ H fun σ2 H2=>tTrue σ2 H2 fun b H3=>if b = true then em σ2 H3 N else N σ2 H3:=by
 show if true = true then em (σ.set i (some x)) H N else N (σ.set i (some x)) H
 rw [if_pos rfl]
 exact h
end L2
namespace L2
open PySem PySem.Spec PyProof.Rows
section
variable {X:Cx} (K:PySem.W.Frag) (P:Program) (w:World) {tg:Expr}
theorem piL {l:Expr} {tl:TE} (hl:PE X l tl) (hK:X.K = K:=by rfl):PI X tg l (iList K tl):=by subst hK; exact pi_list hl
theorem piT {l:Expr} {tl:TE} (hl:PE X l tl) (hK:X.K = K:=by rfl):PI X tg l (iTup K tl):=by subst hK; exact pi_tup hl
theorem piS {l:Expr} {tl:TE} (hl:PE X l tl) (hK:X.K = K:=by rfl):PI X tg l (iSeq K tl):=by subst hK; exact pi_seq hl
theorem piR1 {a:Expr} {ta:TA} {p pos:Pos} (hm:X.mg "range" = none) (ha:PA X [a] ta) (hg:Gl X "range":=by rfl) (hs:starEach [a] X.env = [(false,eval a X.env)]:=by rfl):PI X tg (.Call (.Name "range" p) [a] [] pos) (iRng1 ta):=pi_range1 hg hm ha hs
theorem pgT {es:List Expr} {k:Nat} {t:TGs} {n:Nat} {pos:Pos} (h:PGs X es t) (hc:X.calm = true:=by rfl) (hn:(assignEach es X.env).length = n:=by rfl) (hst:(assignEach es X.env).findIdx? (·.1) = none:=by rfl) (hK:X.K = K:=by rfl):PG X (.Tuple es k pos) (gTup K n t):=by subst hK; exact pg_tup hc h hn hst
theorem peF {e:Expr} {ta:TE} {f:Str} {pos:Pos} (he:PE X e ta) (hb:attributeBase e f X.env (eval e X.env) = eval e X.env:=by rfl) (hK:X.K = K:=by rfl):PE X (.Attribute e f pos) (tFld K ta f):=by subst hK; exact pe_fld he hb
theorem psF {o value:Expr} {ta tv:TE} {f:Str} {pos pos':Pos} (ha:PE X o ta) (hv:PE X value tv) (hs:swapsWith value (some (.Attribute o f pos')) pos.line X.env = pure false:=by rfl) (hK:X.K = K:=by rfl):PS X (.Assign [.Attribute o f pos'] value pos) (sFld K ta tv f):=by subst hK; exact ps_fld ha hv hs
theorem cl_len (hK:X.K = K:=by rfl):CallR X (.builtin "len") (fun xs H Q=>∃ p ys,xs = [.ref p]/\(SqL K H p ys\/SqT K H p ys)/\Q (.int ys.length) H):=by subst hK; exact call_len_seq
theorem cl_list (hK:X.K = K:=by rfl):CallR X (.type "list") (fun xs H Q=>∃ p ys,xs = [.ref p]/\(SqL K H p ys\/SqT K H p ys)/\∀ l,H l = none->Q (.ref l) (upd H l (.lst ys))):=by subst hK; exact call_list_of
theorem cl_all (hc:X.calm = true:=by rfl) (hK:X.K = K:=by rfl):CallR X (.builtin "all") (fun xs H Q=>∃ (p:Addr) (bs:List Bool),xs = [.ref p]/\SqL K H p (bs.map V.bl)/\Q (.bl (bs.all id)) H):=by subst hK; exact call_all hc
theorem cl_sortS (hK:X.K = K:=by rfl):CallR X (.builtin "sorted") (fun xs H Q=>∃ (p:Addr) (ss:List Str),xs = [.ref p]/\SqL K H p (ss.map V.str)/\∀ (l:Addr) (ss':List Str),H l = none->ss'.Perm ss->ss'.Pairwise leS->Q (.ref l) (upd H l (.lst (ss'.map V.str)))):=by subst hK; exact call_sortedS
theorem cl_sortP (hK:X.K = K:=by rfl):CallR X (.builtin "sorted") (fun xs H Q=>∃ (p:Addr) (ps:List PA2),xs = [.ref p]/\SqL K H p (ps.map fun q=>V.ref q.1)/\(∀ q ∈ ps,PairIn H q)/\∀ (l:Addr) (ps':List PA2),H l = none->ps'.Perm ps->ps'.Pairwise leP->Q (.ref l) (upd H l (.lst (ps'.map fun q=>V.ref q.1)))):=by subst hK; exact call_sortedP
theorem cl_isin (hK:X.K = K:=by rfl):CallR X (.builtin "isinstance") (fun xs H Q=>∃ x n t b,xs = [x,.ty n]/\TyOf K H x t/\PySem.W.kitOne K t (.type n) = some b/\Q (.bl b) H):=by subst hK; exact call_isin
theorem cl_set0 (hP:X.prog = P:=by rfl) (hw:X.w = w:=by rfl):CallR X (.type "set") (fun xs H Q=>xs = []/\∀ p,H p = none->Q (.ref p) (upd H p (SetS P w p []))):=by subst hP; subst hw; exact call_set0
theorem cl_set0T (hP:X.prog = P:=by rfl) (hw:X.w = w:=by rfl):CallR X (.type "set") (fun xs H Q=>xs = []/\∀ p,H p = none->Q (.ref p) (upd H p (SetT P w p []))):=by subst hP; subst hw; exact call_set0T
theorem o_inD (hu:X.A.units + 64 < cLine) (hK:X.K = K:=by rfl):OpR X (compareOp .In) (rInD K false):=by subst hK; exact op_inD hu
theorem o_notInD (hu:X.A.units + 64 < cLine) (hK:X.K = K:=by rfl):OpR X (compareOp .NotIn) (rInD K true):=by subst hK; exact op_notInD hu
theorem o_eqD (hu:X.A.units + 64 < cLine) (hK:X.K = K:=by rfl):OpR X (compareOp .Eq) (rEqD K):=by subst hK; exact op_eqD hu
theorem o_neD (hu:X.A.units + 64 < cLine) (hK:X.K = K:=by rfl):OpR X (compareOp .NotEq) (rNeD K):=by subst hK; exact op_neD hu
theorem o_inL (hK:X.K = K:=by rfl):OpR X (compareOp .In) (rIn K false):=by subst hK; exact op_in_seq
theorem o_notInL (hK:X.K = K:=by rfl):OpR X (compareOp .NotIn) (rIn K true):=by subst hK; exact op_notIn_seq
theorem o_inS (hP:X.prog = P:=by rfl) (hw:X.w = w:=by rfl):OpR X (compareOp .In) (rInS P w false):=by subst hP; subst hw; exact op_in_set
theorem o_inT (hu:X.A.units + 1 < cLine) (hP:X.prog = P:=by rfl) (hw:X.w = w:=by rfl):OpR X (compareOp .In) (rInT P w):=by subst hP; subst hw; exact op_in_sett hu
theorem m_addS (hP:X.prog = P:=by rfl) (hw:X.w = w:=by rfl):MtM X "set.add" (rAddS P w):=by subst hP; subst hw; exact mt_add
theorem m_addT (hu:X.A.units + 1 < cLine) (hP:X.prog = P:=by rfl) (hw:X.w = w:=by rfl):MtM X "set.add" (rAddT P w):=by subst hP; subst hw; exact mt_addT hu
theorem peSadd {o e:Expr} {to:TE} {t:TA} {apos cpos:Pos} {r:V->List V->Hp->VK->Prop} (hm:MtM X "set.add" r) (ho:PE X o to) (ha:PA X [e] t)
  (hbase:attributeBase o "add" X.env (eval o X.env) = eval o X.env:=by rfl)
  (hfew:((backTo cpos (starEach [e] X.env)).all (fun x=>!x.1) && (backToKw cpos (keywordEach [] X.env)).all (fun x=>x.1.isSome)
   && decide ([e].length + ([]:List Keyword).length + (if ([]:List Keyword).isEmpty then 0 else 1) < 30)) = true:=by rfl)
  (hline:(apos.endLine == cpos.line) = true:=by rfl) (hs:starEach [e] X.env = [(false,eval e X.env)]:=by rfl) (hP:X.prog = P:=by rfl) (hw:X.w = w:=by rfl) :
  PE X (.Call (.Attribute o "add" apos) [e] [] cpos) (tBMS P w r to t):=by subst hP; subst hw; exact pe_sadd hm ho ha hbase hfew hline hs
theorem ixL (hK:X.K = K:=by rfl):IxR X (rIxL K):=by subst hK; exact ix_list
theorem ixT (hK:X.K = K:=by rfl):IxR X (rIxT K):=by subst hK; exact ix_tup
theorem slL (hK:X.K = K:=by rfl):SlR X (rSlL K):=by subst hK; exact sl_list
theorem peBM {T id:String} {name:Str} {o e:Expr} {es:List Expr} {to:TE} {t:TA} {apos cpos:Pos} {r:V->List V->Hp->VK->Prop} (pa:PlainAttrs T) (slot:Slot T name id) (hty:typeOf (.builtin id) = pure (.type "method_descriptor")) (hm:MtM X id r) (ho:PE X o to) (ha:PA X (e :: es) t)
  (hbase:attributeBase o name X.env (eval o X.env) = eval o X.env:=by rfl)
  (hfew:((backTo cpos (starEach (e :: es) X.env)).all (fun x=>!x.1) && (backToKw cpos (keywordEach [] X.env)).all (fun x=>x.1.isSome)
   && decide ((e :: es).length + ([]:List Keyword).length + (if ([]:List Keyword).isEmpty then 0 else 1) < 30)) = true:=by rfl)
  (hline:(apos.endLine == cpos.line) = true:=by rfl) (hs:starEach (e :: es) X.env = (false,eval e X.env) :: starEach es X.env:=by rfl) (hplain:(backTo cpos (starEach es X.env)).any (·.1) = false:=by rfl) (hK:X.K = K:=by rfl) :
  PE X (.Call (.Attribute o name apos) (e :: es) [] cpos) (tBM K T r to t):=by subst hK; exact pe_bm pa slot hty hm ho ha hbase hfew hline hs hplain
end
end L2
namespace L2
open PySem PySem.Spec PyProof.Rows
section
variable {prog:Program} {w:World} {A:Around} {E:Value->Shared->Prop} {s:Shared}
theorem collect_tup {t:Addr} {vs:List Value} {Q:List Value->Shared->Prop} (ht:IsTup s.heap t vs.toArray) (hsz:vs.length<=sizeLine) (h:∀ h',(∀ b u,s.heap.get? b = some u->h'.get? b = some u)->s.heap.objs.size<=h'.objs.size->Q vs { s with heap:=h' }):wpAny (model prog w) A (collect (.ref t)) Q E s:=by
 obtain ⟨o,ho,hc,n,hd⟩:=ht
 unfold collect
 refine wpAny_bind (wpAny_runValue (codeAny_builtin F.entry_proto_collect ?_))
 rw [show A.under _ = A.in1 from Around.under_plainId F.plain_proto_collect _]
 show wpAny _ A.in1 (newList [] >>= fun l=>again (.builtin "list.__iadd__" ⟨[l,.ref t],[]⟩)) _ _ s
 refine wpAny_bind (wpAny_newObj_type (wpAny_pure ⟨plainId_quiet F.plain_list_iadd _,codeAny_builtin F.entry_list_iadd ?_⟩))
 rw [show A.under _ = A.in1 from Around.under_plainId F.plain_list_iadd _]
 show wpAny _ A.in1 (Builtin.List.listExtendWith (.ref s.heap.objs.size) (.ref t) (.ref s.heap.objs.size)) _ _ _
 have g1:(s.heap.push { cls:=.type "list",data:=.seq ([]:List Value).toArray }).get? s.heap.objs.size = some { cls:=.type "list",data:=.seq #[] 0 }:=Heap.get?_push_size _ rfl
 have g2:=Heap.get?_update_self (Obj.mapSeq (· ++ vs.toArray)) g1 rfl
 have fin:wpAny (model prog w) A (match Value.ref s.heap.objs.size with
   | Value.ref a=>do
    match (<-load a).data with
     | Data.seq xs _=>pure xs.toList
     | _=>unsupported "internal:collect"
   | _=>unsupported "internal:collect") Q E { s with heap:=(s.heap.push { cls:=.type "list",data:=.seq ([]:List Value).toArray }).update s.heap.objs.size (Obj.mapSeq (· ++ vs.toArray)) }:=by
  show wpAny _ A (load s.heap.objs.size >>= _) _ _ _
  refine wpAny_bind (wpAny_load g2 (wpAny_pure ?_))
  show Q ((#[]:Array Value) ++ vs.toArray).toList _
  rw [show ((#[]:Array Value) ++ vs.toArray).toList = vs from by simp]
  exact h _ (fun b u hb=>(Heap.get?_update_other _ _ (Nat.ne_of_gt (Heap.lt_size hb))).trans (Heap.get?_push_of_some _ hb)) (by rw [Heap.size_update,Heap.size_push]; omega)
 refine wpAny_mono (wpAny_extend_seq (A:=A) (hsz:=by rw [List.size_toArray]; exact hsz) (R:=fun r s'=>r = .ok (.ret (.ref s.heap.objs.size))/\s' = { s with heap:=(s.heap.push { cls:=.type "list",data:=.seq ([]:List Value).toArray }).update s.heap.objs.size (Obj.mapSeq (· ++ vs.toArray)) })
  (s:={ s with heap:=s.heap.push { cls:=.type "list",data:=.seq ([]:List Value).toArray } }) _ t _ 0 (.inr rfl) g1 (Heap.get?_push_of_some _ ho) hc hd ⟨rfl,rfl⟩) (fun f s' z=>?_) (fun e s' z=>absurd z.1 (by simp))
 match f,z with
 | .done f,⟨e1,e2⟩=>subst e2; cases e1; exact fin
 | .again c,z=>exact ⟨z.1,codeAny_mono z.2 fun r s2 hr=>by obtain ⟨rfl,rfl⟩:=hr; exact fin⟩
end
section
variable {X:Cx}
theorem call_sortedQ:CallR X (.builtin "sorted") (fun xs H Q=>∃ (p:Addr) (ss:List Str),xs = [.ref p]/\Sqs X.K H p (ss.map V.str)/\∀ (l:Addr) (ss':List Str),H l = none->ss'.Perm ss->ss'.Pairwise leS->Q (.ref l) (upd H l (.lst (ss'.map V.str)))):=by
 intro pins s σ H xs us Q I r h
 obtain ⟨p,ss,rfl,hq,q⟩:=h
 rcases hq with hq | hq
 ·exact call_sortedS pins s σ H _ us Q I r ⟨p,ss,rfl,hq,q⟩
 obtain ⟨u,rfl,ru⟩:=vals1 r
 cases ru
 obtain ⟨its,rv,⟨o,ho,hc,n,hd⟩,hz⟩:=I.tuple hq
 have hS:=strsAre_of rv
 have hl:=rv.length
 refine TS.sorted_gen (collect_tup ⟨o,ho,hc,n,hd⟩ (by omega) fun h0 k0 hsz=>?_)
 refine ⟨rfl,by omega,strKind,oneType',fun s2 _=>TS.keys_strs hS,fun out h' e ho k hg=>?_⟩
 obtain ⟨hp,hs⟩:=ho
 have hm:∀ v ∈ out.toList,∃ x t,v = .str x t:=fun v hv=>hS.all v (hp.mem_iff.mp hv)
 have hv:Vals ((out.toList.map strOf).map V.str) out.toList:=by
  have:∀ us:List Value,(∀ v ∈ us,∃ x t,v = .str x t)->Vals ((us.map strOf).map V.str) us:=by
   intro us
   induction us with
   | nil=>exact fun _=>.nil
   | cons v r ih =>
    intro h
    obtain ⟨x,t,rfl⟩:=h v (List.mem_cons_self ..)
    exact .cons ⟨t,rfl⟩ (ih fun u hu=>h u (List.mem_cons_of_mem _ hu))
  exact this _ hm
 have hperm:(out.toList.map strOf).Perm ss:=by
  have:=hp.map strOf
  rwa [hS.strs] at this
 have hpw:(out.toList.map strOf).Pairwise leS:=by
  rw [List.pairwise_map]
  refine (List.Pairwise.and_mem.mp hs).imp fun {u v} ⟨hu,hv',q⟩=>?_
  obtain ⟨x,t,rfl⟩:=hm u hu
  obtain ⟨y,t',rfl⟩:=hm v hv'
  have q':decide (y.cps.toList < x.cps.toList) = false:=q
  exact of_decide_eq_false q'
 have hk0:∀ b o,s.heap.get? b = some o->h'.get? b = some o:=fun b o eb=>k b o (k0 b o eb)
 refine ⟨.ref h0.objs.size,upd H h0.objs.size (.lst ((out.toList.map strOf).map V.str)),?_,rfl,q _ _ (I.hok.fresh hsz) hperm hpw⟩
 refine I.laid (t':=s.toks) hk0 hsz ⟨?_,out.toList,e,hv,by simpa using hg⟩
 rw [List.length_map,List.length_map,hp.length_eq]
 omega
theorem isinst_tup {pins:List (Addr × Obj)} {σ:St} {H:Hp} {s:Shared} {A:Around} {E:Value->Shared->Prop} {Q:Value->Shared->Prop} {b:Bool} {x:V} {u t:Value} {tp:Addr} {its:List Value} (I:Inv X pins σ H s) (rx:RelV x u) (ty:TyOf X.K H x t) (htp:IsTup s.heap tp its.toArray) (e:PySem.W.kitAny X.K t its = some b) (hv:(∃ y,x = .str y)\/(∃ a xs,x = .ref a/\(H a = some (.lst xs)\/H a = some (.tup xs)))) (h:∀ tk,Q (.bool b) { s with toks:=tk }) :
  wpAny (model X.prog X.w) A (call (.builtin "isinstance") [u,.ref tp]) Q E s:=by
 obtain ⟨⟨oc,od,odt,osl⟩,ho,hc,n,hd⟩:=htp
 cases hc
 cases hd
 rcases hv with ⟨y,rfl⟩ | ⟨a,xs,rfl,ea | ea⟩
 ·cases ty
  obtain ⟨t,q⟩:=(show ∃ t,u = Value.str y t from rx)
  cases q
  exact PySem.W.kia_tup PySem.W.kitx_str I.kIn True.intro ho e (fun z=>nomatch z) h
 ·cases (show u = Value.ref a from rx)
  have hty:t = .type "list":=by cases ty with
   | lst=>rfl
   | frz=>rfl
   | tup ea'=>rw [ea] at ea'; cases ea'
   | dK ea'=>rw [ea] at ea'; cases ea'
   | dT ea'=>rw [ea] at ea'; cases ea'
   | ins ea'=>rw [ea] at ea'; cases ea'
  subst hty
  obtain ⟨_,_,n,_,h1⟩:=(show ObjOk X.prog X.w H s.heap a (.lst xs) from I.hok a _ ea)
  exact PySem.W.kia_tup PySem.W.kitx_list I.kIn ⟨_,h1,rfl⟩ ho e (fun z=>nomatch z) h
 ·cases (show u = Value.ref a from rx)
  have hty:t = .type "tuple":=by cases ty with
   | tup=>rfl
   | frz ea'=>rw [ea] at ea'; cases ea'
   | lst ea'=>rw [ea] at ea'; cases ea'
   | dK ea'=>rw [ea] at ea'; cases ea'
   | dT ea'=>rw [ea] at ea'; cases ea'
   | ins ea'=>rw [ea] at ea'; cases ea'
  subst hty
  obtain ⟨_,_,_,p⟩:=(show ObjOk X.prog X.w H s.heap a (.tup xs) from I.hok a _ ea)
  obtain ⟨o,h1,h2,_⟩:=p
  exact PySem.W.kia_tup PySem.W.kitx_tuple I.kIn ⟨o,h1,h2⟩ ho e (fun z=>nomatch z) h
noncomputable def isinT (K:PySem.W.Frag):List V->Hp->VK->Prop:=fun xs H Q=>∃ (x:V) (p:Addr) (ns:List String) (t:Value) (b:Bool),xs = [x,.ref p]/\H p = some (.tup (ns.map V.ty))/\TyOf K H x t/\((∃ y,x = .str y)\/(∃ a xs,x = .ref a/\(H a = some (.lst xs)\/H a = some (.tup xs))))/\PySem.W.kitAny K t (ns.map Value.type) = some b/\Q (.bl b) H
theorem vals_ty:∀ {ns:List String} {us:List Value},Vals (ns.map V.ty) us->us = ns.map Value.type
 | [],_,.nil=>rfl
 | _ :: _,_,.cons r t=>by rw [List.map_cons,vals_ty t]; cases r; rfl
theorem call_isinT:CallR X (.builtin "isinstance") (isinT X.K):=by
 intro pins s σ H xs us Q I r h
 obtain ⟨x,p,ns,t,b,rfl,hp,ht,hv,he,q⟩:=h
 obtain ⟨u,v,rfl,ru,rv⟩:=r.two
 cases rv
 obtain ⟨its,rv,pl,hz⟩:=I.tuple (SqT.of hp)
 rw [vals_ty rv] at pl
 exact isinst_tup I ru ht pl he hv fun tk=>⟨.bl b,H,I.tok _,rfl,q⟩
variable (K:PySem.W.Frag)
theorem cl_sortQ (hK:X.K = K:=by rfl):CallR X (.builtin "sorted") (fun xs H Q=>∃ (p:Addr) (ss:List Str),xs = [.ref p]/\Sqs K H p (ss.map V.str)/\∀ (l:Addr) (ss':List Str),H l = none->ss'.Perm ss->ss'.Pairwise leS->Q (.ref l) (upd H l (.lst (ss'.map V.str)))):=by subst hK; exact call_sortedQ
theorem cl_isinT (hK:X.K = K:=by rfl):CallR X (.builtin "isinstance") (isinT K):=by subst hK; exact call_isinT
end
end L2
namespace L2
open PySem PySem.Spec PyProof.Rows
section
variable {prog:Program} {w:World} {A:Around} {E:Value->Shared->Prop} {s:Shared} {it l:Addr} {i:Nat} {items:Array Value} {x:Value} {Q:Value->Shared->Prop}
theorem wp_stop {α:Type} {Q:α->Shared->Prop} (hA:A.handled = none) (h:∀ h' e,(∀ b o,s.heap.get? b = some o->h'.get? b = some o)->(∃ o,h'.get? e = some o/\o.cls = .type "StopIteration")->E (.ref e) { s with heap:=h' }):wpAny (model prog w) A (Builtin.SmallTypes.stopIteration (α:=α)) Q E s:=by
 refine wpAny_bind (wpAny_bind (wpAny_newTuple (wpAny_bind (wpAny_pure (wpAny_newObj_type ?_ (sizeOk_excFields ..)))) (by show 0<=sizeLine; decide)))
 refine wpAny_bind (wpAny_handled ?_)
 rw [hA]
 exact wpAny_throw (h _ _ (fun b o e=>Heap.get?_push_of_some _ (Heap.get?_push_of_some _ e)) ⟨_,Heap.get?_push_size _ rfl,rfl⟩)
theorem nextOf_tup_item (hit:s.heap.IsTupleIter it l i) (hl:s.heap.IsTuple l items) (hx:items[i]? = some x)
  (hQ:∀ h',h'.IsTupleIter it l (i + 1)->Heap.SameBut it s.heap h'->Q x { s with heap:=h' }):wpAny (model prog w) A (Builtin.SmallTypes.nextOf (.ref it)) Q E s:=by
 obtain ⟨o,ho,hc,hd⟩:=id hit
 obtain ⟨ol,hol,_,nl,hdl⟩:=hl
 refine wpAny_bind (wpAny_callSpecial?_slot hit.typeIs F.slot_tuple_iterator_next (wpAny_call_entry F.slot_tuple_iterator_next hit.typeIs F.entry_tuple_iterator_next ?_ (F.args_tuple_iterator_next_1 _)))
 refine wpAny_bind (wpAny_pure (wpAny_bind (wpAny_field ho hd rfl ?_)))
 refine wpAny_ite_false (c:=(Value.ref l == Value.none) = true) rfl ?_
 refine wpAny_bind (wpAny_field ho hd rfl (wpAny_bind (wpAny_seqItems hol hdl ?_)))
 dsimp only
 rw [show items[(i:Int).toNat]? = some x from hx]
 refine wpAny_bind (wpAny_setField ho hd (Nat.lt_succ_self 1) (wpAny_pure ⟨x,rfl,wpAny_pure (hQ _ ⟨_,Heap.get?_update_self _ ho (Obj.isFreed_of_fields (Obj.data_mapFields hd _)),(Obj.cls_mapFields o _).trans hc,(Obj.data_mapFields hd _).trans ?_⟩ (Heap.SameBut.update _ _ _))⟩))
 rfl
theorem nextOf_tup_end (hA:A.handled = none) (hit:s.heap.IsTupleIter it l i) (hl:s.heap.IsTuple l items) (hx:items[i]? = none)
  (hE:∀ h' e,Heap.ExtBut it s.heap h'->(∃ o,h'.get? e = some o/\o.cls = .type "StopIteration")->E (.ref e) { s with heap:=h' }):wpAny (model prog w) A (Builtin.SmallTypes.nextOf (.ref it)) Q E s:=by
 obtain ⟨o,ho,hc,hd⟩:=id hit
 obtain ⟨ol,hol,_,nl,hdl⟩:=hl
 refine wpAny_bind (wpAny_callSpecial?_slot hit.typeIs F.slot_tuple_iterator_next (wpAny_call_entry F.slot_tuple_iterator_next hit.typeIs F.entry_tuple_iterator_next ?_ (F.args_tuple_iterator_next_1 _)))
 refine wpAny_bind (wpAny_pure (wpAny_bind (wpAny_field ho hd rfl ?_)))
 refine wpAny_ite_false (c:=(Value.ref l == Value.none) = true) rfl ?_
 refine wpAny_bind (wpAny_field ho hd rfl (wpAny_bind (wpAny_seqItems hol hdl ?_)))
 dsimp only
 rw [show items[(i:Int).toNat]? = none from hx]
 refine wpAny_bind (wpAny_rule (wpAny_bind (wpAny_setField ho hd (Nat.zero_lt_succ 1) ?_)))
 exact wp_stop hA fun h' e k ho=>hE h' e (fun b o hb e=>k b o (((Heap.SameBut.update _ _ _).2 b hb).trans e)) ho
end
end L2
namespace L2
open PySem PySem.Spec PyProof.Rows
section
variable {prog:Program} {w:World} {A:Around} {E:Value->Shared->Prop} {s:Shared}
theorem wp_newRecord {M:Model} {T:String} {vs:List Value} {Q:Value->Shared->Prop} (h:Q (.ref s.heap.objs.size) { s with heap:=s.heap.push { cls:=.type T,data:=.fields vs.toArray } }) (hs:sizeOk (.fields vs.toArray)):wpAny M A (Builtin.SmallTypes.newRecord (.type T) vs) Q E s:=wpAny_newObj_type h hs
end
end L2
namespace L2
open PySem PySem.Spec PyProof.Rows
section
variable {prog:Program} {w:World} {A:Around} {E:Value->Shared->Prop} {s:Shared} {e it l:Addr} {i:Nat} {items:Array Value} {x old:Value} {Q:Value->Shared->Prop}
theorem enumT_next_item (he:IsEnum s.heap e it (i:Int) old) (h1:s.heap.IsTupleIter it l i) (g1:s.heap.IsTuple l items) (hx:items[i]? = some x) (hei:e ≠ it)
  (hQ:∀ h',IsEnumOut h' e it ((i:Int) + 1) x s.heap.objs.size->h'.IsTupleIter it l (i + 1)->h'.get? s.heap.objs.size = some { cls:=.type "tuple",data:=.seq #[.int (i:Int) s.toks,x] }->(∀ b o,b ≠ e->b ≠ it->s.heap.get? b = some o->h'.get? b = some o)->Q (.ref s.heap.objs.size) { s with heap:=h',toks:=s.toks + 1 }) :
  wpAny (model prog w) A (Builtin.«enumerate.__next__» ⟨[.ref e],[]⟩) (fun fin s'=>∃ v,fin = .done (.ret v)/\Q v s') E s:=by
 obtain ⟨h0,gg,dd,tt,oo⟩:=s
 refine wpAny_bind (wpAny_pure (wpAny_bind (wpAny_field he rfl rfl (wpAny_bind (nextOf_tup_item h1 g1 hx fun h2 a2 s2=>?_)))))
 have e2:=(s2.2 e hei).trans he
 refine wpAny_bind (wpAny_field e2 rfl rfl (wpAny_bind (wpAny_field e2 rfl rfl (wpAny_ite_true rfl ?_))))
 refine wpAny_bind (wpAny_mkInt (wpAny_bind (wpAny_setField_rec e2 (Nat.le_of_ble_eq_true rfl) fun h3 e3 s3=>wpAny_bind (wpAny_setField_rec e3 (Nat.le_of_ble_eq_true rfl) fun h4 e4 s4=>?_))))
 have hs:h4.objs.size = h0.objs.size:=s4.1.trans (s3.1.trans s2.1)
 have n0:∀ {c:Addr} {o:Obj},h0.get? c = some o->c ≠ h4.objs.size:=fun e=>by rw [hs]; exact Nat.ne_of_lt (Heap.lt_size e)
 refine wpAny_bind (wpAny_newTuple ?_ (by show 2<=sizeLine; decide))
 have e5:=Heap.get?_push_of_some { cls:=.type "tuple",data:=.seq [.int (i:Int) tt,x].toArray } e4
 refine wpAny_bind (wpAny_bind (wpAny_field e5 rfl rfl (wpAny_pure (wpAny_ite_true rfl ?_))))
 refine wpAny_bind (wpAny_rule (wpAny_bind (wpAny_field e5 rfl rfl (wpAny_bind (wpAny_setField_rec e5 (Nat.le_of_ble_eq_true rfl) fun h6 e6 s6=>?_)))))
 refine wpAny_bind (wpAny_bind (wpAny_setField_rec e6 (Nat.le_of_ble_eq_true rfl) fun h7 e7 s7=>wpAny_setField_rec e7 (Nat.le_of_ble_eq_true rfl) fun h8 e8 s8=>wpAny_bind (wpAny_letGo (wpAny_pure ⟨_,rfl,?_⟩))))
 have k8:∀ {c:Addr} {o:Obj},c ≠ e->h4.get? c = some o->h8.get? c = some o:=fun nz z=>(s8.2 _ nz).trans ((s7.2 _ nz).trans ((s6.2 _ nz).trans (Heap.get?_push_of_some _ z)))
 have k4:∀ {c:Addr} {o:Obj},c ≠ e->h2.get? c = some o->h8.get? c = some o:=fun nz z=>k8 nz ((s4.2 _ nz).trans ((s3.2 _ nz).trans z))
 have tk:h8.get? h4.objs.size = some { cls:=.type "tuple",data:=.seq #[.int (i:Int) tt,x] }:=(s8.2 _ (n0 he).symm).trans ((s7.2 _ (n0 he).symm).trans ((s6.2 _ (n0 he).symm).trans (Heap.get?_push_size _ rfl)))
 rw [hs] at e8 tk ⊢
 exact hQ h8 e8 (a2.at fun o z=>k4 hei.symm z) tk fun b o nb ni z=>k4 nb ((s2.2 _ ni).trans z)
theorem enumT_next_end {Q:PySem.Fin->Shared->Prop} (hA:A.handled = none) (he:IsEnum s.heap e it (i:Int) old) (h1:s.heap.IsTupleIter it l i) (g1:s.heap.IsTuple l items) (hx:items[i]? = none)
  (hE:∀ h' z,Heap.ExtBut it s.heap h'->(∃ o,h'.get? z = some o/\o.cls = .type "StopIteration")->E (.ref z) { s with heap:=h' }) :
  wpAny (model prog w) A (Builtin.«enumerate.__next__» ⟨[.ref e],[]⟩) Q E s :=
 wpAny_bind (wpAny_pure (wpAny_bind (wpAny_field he rfl rfl (wpAny_bind (nextOf_tup_end hA h1 g1 hx hE)))))
theorem enum_ty (he:IsEnum s.heap e it (i:Int) old):s.TypeIs (.ref e) "enumerate":=⟨_,he,rfl⟩
theorem walksET (hA:A.handled = none) (e it l:Addr) (hei:e ≠ it) (hle:l ≠ e) (hli:l ≠ it) (items:Array Value) :
  WalksT prog w A e [e,it,l] [e,it] items.size (fun i vals=>∃ t x,items[i]? = some x/\vals = #[.int (i:Int) t,x])
   (fun i h=>(∃ old,IsEnum h e it (i:Int) old)/\h.IsTupleIter it l i/\h.IsTuple l items)
   (fun i T h=>(∃ x,IsEnumOut h e it ((i:Int) + 1) x T)/\h.IsTupleIter it l (i + 1)/\h.IsTuple l items/\T ≠ e/\T ≠ it) where
 sub:=by simp
 frame:=fun i h h' ⟨⟨old,h1⟩,h2,h3⟩ k=>⟨⟨old,k e (by simp) _ h1⟩,h2.at (k it (by simp)),h3.at (k l (by simp))⟩
 item:=fun i s Q E hi ⟨⟨old,h1⟩,h2,h3⟩ hQ=>by
  have hx:items[i]? = some items[i]:=Array.getElem?_eq_getElem hi
  refine wpAny_bind (wpAny_attempt (wpAny_callSpecial?_slot (enum_ty h1) F.slot_enumerate_next (wpAny_call_entry F.slot_enumerate_next (enum_ty h1) F.entry_enumerate_next (enumT_next_item h1 h2 h3 hx hei fun h' z' a' t' k=>wpAny_pure ?_) (F.args_enumerate_next_1 _))))
  refine hQ _ _ h' (s.toks + 1) ⟨_,_,hx,rfl⟩ (Nat.le_refl _) ⟨_,t',rfl,_,rfl⟩ ⟨⟨_,z'⟩,a',h3.at fun o z=>k l o hle hli z,?_,?_⟩ fun b o hb z=>?_
  ·exact (Nat.ne_of_lt (Heap.lt_size h1)).symm
  ·obtain ⟨o,z,_⟩:=h2
   exact (Nat.ne_of_lt (Heap.lt_size z)).symm
  ·simp only [List.mem_cons,List.not_mem_nil,or_false,not_or] at hb
   exact k b o hb.1 hb.2 z
 go:=fun elts k pos i T s Q E ⟨⟨x,h1⟩,h2,h3,_⟩ hQ=>wpAny_letOwnedTupleGo_enum h1 fun h' z' k'=>hQ h' ⟨⟨_,z'⟩,h2.extBut k'.extBut hei.symm,h3.extBut k'.extBut hle⟩ fun b o hb z=>(k'.2 b fun q=>hb (by rw [q]; exact List.mem_cons_self ..)).trans z
 apart:=fun i T h ⟨_,_,_,n1,n2⟩ hm=>by
  simp only [List.mem_cons,List.not_mem_nil,or_false] at hm
  rcases hm with z | z
  ·exact n1 z
  ·exact n2 z
 done:=fun s Q E ⟨⟨old,h1⟩,h2,h3⟩ hQ=>by
  have hx:items[items.size]? = none:=Array.getElem?_eq_none (Nat.le_refl _)
  refine wpAny_bind (wpAny_attempt (wpAny_callSpecial?_slot (enum_ty h1) F.slot_enumerate_next (wpAny_call_entry F.slot_enumerate_next (enum_ty h1) F.entry_enumerate_next (enumT_next_end hA h1 h2 h3 hx fun h' z k ho=>?_) (F.args_enumerate_next_1 _))))
  obtain ⟨o,ho,hc⟩:=ho
  refine wpAny_bind (wpAny_isInstance ⟨o,ho,hc⟩ isSubtype_stop (wpAny_pure (hQ h' s.toks fun b o hb z=>?_)))
  simp only [List.mem_cons,List.not_mem_nil,or_false,not_or] at hb
  exact k b o hb.2 z
 self:=fun i s Q E ⟨⟨_,h1⟩,_⟩ q=>wpAny_pyIter_enum h1 q
theorem wp_ite {M:Model} {α:Type} {c:Prop} [Decidable c] {a b:Sem α} {Q:α->Shared->Prop} (h1:wpAny M A a Q E s) (h2:wpAny M A b Q E s):wpAny M A (if c then a else b) Q E s:=by
 by_cases h:c
 ·rw [if_pos h]; exact h1
 ·rw [if_neg h]; exact h2
theorem call_enumT (g1:s.heap.IsTuple l items)
  (hQ:∀ h',IsEnum h' (s.heap.objs.size + 1) s.heap.objs.size 0 .none->h'.IsTupleIter s.heap.objs.size l 0->(∀ b o,s.heap.get? b = some o->h'.get? b = some o)->Q (.ref (s.heap.objs.size + 1)) { s with heap:=h' }) :
  wpAny (model prog w) A (call (.type "enumerate") [.ref l]) Q E s:=by
 refine callType_new (S:=fun A R s'=>s' = s/\∀ h',IsEnum h' (s.heap.objs.size + 1) s.heap.objs.size 0 .none->h'.IsTupleIter s.heap.objs.size l 0->(∀ b o,s.heap.get? b = some o->h'.get? b = some o)->R (.ok (.ret (.ref (s.heap.objs.size + 1)))) { s with heap:=h' })
  F.called_enumerate rfl (F.typeCall_enumerate_1 _) (F.newCall_enumerate_1 _) (fun _=>F.args_object_init_2 _ _) F.entry_enumerate_new (.of_wp fun prog w A R s' hR=>?_) ⟨rfl,fun h' z1 z2 k=>⟨⟨_,z1,rfl⟩,hQ h' z1 z2 k⟩⟩
 obtain ⟨rfl,hR⟩:=hR
 obtain ⟨h0,gg,dd,tt,oo⟩:=s'
 have e1:(h0.push { cls:=.type "tuple_iterator",data:=.fields #[.ref l,.int 0 0] }).objs.size = h0.objs.size + 1:=Heap.size_push ..
 refine wpAny_bind (wpAny_bind (wpAny_pure (wpAny_ite_false rfl (wpAny_bind (wpAny_of_eq sub_enumerate (wpAny_ite_false rfl (wpAny_pure ?_)))))))
 refine wpAny_ite_true rfl (wpAny_bind (wpAny_bind (wpAny_stack_any fun st=>wpAny_pure ?_)))
 have fin:wpAny (model prog w) A.in1 (pyIter (.ref l) >>= fun v=>Builtin.SmallTypes.newRecord (.type "enumerate") (Builtin.SmallTypes.ownedTupleFields ++ [v,rawInt 0,.none,.none]) >>= fun r=>ret r) (fun fin s'=>∃ v,fin = .done (.ret v)/\R (.ok (.ret v)) s') (fun e s'=>R (.error e) s') ⟨h0,gg,dd,tt,oo⟩:=by
  refine wpAny_bind (wpAny_pyIter_tuple g1 (wpAny_bind (wp_newRecord (wpAny_pure ⟨_,rfl,?_⟩) (by show 6<=sizeLine + 2; decide))))
  have he:=Heap.get?_push_size (h0.push { cls:=.type "tuple_iterator",data:=.fields #[.ref l,.int 0 0] }) (o:={ cls:=.type "enumerate",data:=.fields #[.none,.bool false,.ref h0.objs.size,rawInt 0,.none,.none] }) rfl
  have q:=hR ((h0.push { cls:=.type "tuple_iterator",data:=.fields #[.ref l,.int 0 0] }).push { cls:=.type "enumerate",data:=.fields #[.none,.bool false,.ref h0.objs.size,rawInt 0,.none,.none] })
  rw [show (Shared.mk h0 gg dd tt oo).heap.objs.size = h0.objs.size from rfl,<-e1] at q
  exact q he ⟨_,Heap.get?_push_of_some _ (Heap.get?_push_size _ rfl),rfl,rfl⟩ fun b o z=>Heap.get?_push_of_some _ (Heap.get?_push_of_some _ z)
 exact wp_ite (wpAny_bind (wpAny_of_eq (a:=(Value.ref l,none)) rfl fin)) (wpAny_bind (wpAny_of_eq (a:=(Value.ref l,none)) rfl fin))
end
end L2
namespace L2
open PySem PySem.Spec PyProof.Rows
noncomputable def Ite2 (sq:Hp->Addr->List V->Prop) (a:Addr):It :=
 ⟨fun i H=>∃ xs x,sq H a xs/\xs[i]? = some x,fun i H v H'=>∃ T x,v = .ref T/\H T = none/\H' = upd H T (.tup [.int i,x])/\∀ xs,sq H a xs->xs[i]? = some x,fun i H=>∃ xs,sq H a xs/\xs.length = i⟩
section
variable {P:Program} {w:World} {K:PySem.W.Frag} {elts:List Expr} {kk:Nat} {tp:Pos} {isIt:Heap->Addr->Addr->Nat->Prop} {isq:Heap->Addr->Array Value->Prop} {sq:Hp->Addr->List V->Prop}
theorem turn_enum2 (oI:∀ h c l i,isIt h c l i->∃ o,h.get? c = some o/\∀ v,o.data ≠ .cell v) (kI:∀ h h' c l i,isIt h c l i->(∀ o,h.get? c = some o->h'.get? c = some o)->isIt h' c l i)
  (gI:∀ (X:Cx) pins σ H s c xs,X.K = K->Inv X pins σ H s->sq H c xs->∃ its,Vals xs its/\isq s.heap c its.toArray) (uI:∀ (X:Cx) pins σ H s c xs ys,X.K = K->Inv X pins σ H s->sq H c xs->sq H c ys->xs = ys)
  (nE:∀ h c e it i old its,IsEnum h e it i old->isq h c its->c ≠ e) (nI:∀ h c l i its e,isIt h e l i->isq h c its->c ≠ e)
  (a it e:Addr) (hei:e ≠ it) (WI:∀ (A:Around),A.handled = none->a ≠ e->a ≠ it->∀ items:Array Value,WalksT P w A e [e,it,a] [e,it] items.size (fun i vals=>∃ t x,items[i]? = some x/\vals = #[.int (i:Int) t,x])
   (fun i h=>(∃ old,IsEnum h e it (i:Int) old)/\isIt h it a i/\isq h a items)
   (fun i T h=>(∃ x,IsEnumOut h e it ((i:Int) + 1) x T)/\isIt h it a (i + 1)/\isq h a items/\T ≠ e/\T ≠ it)) :
  Turn P w K (.Tuple elts kk tp) (Ite2 sq a) [e,it] e (fun i h=>(∃ old,IsEnum h e it (i:Int) old)/\isIt h it a i) where
 mem:=List.mem_cons_self ..
 obj:=fun i h st b hb=>by
  obtain ⟨⟨old,h1⟩,h2⟩:=st
  rcases List.mem_cons.mp hb with rfl | hb
  ·exact ⟨_,h1,fun v z=>by cases z⟩
  ·rw [List.mem_singleton.mp hb]
   exact oI _ _ _ _ h2
 keep:=fun i h h' st k=>⟨let ⟨old,h1⟩:=st.1; ⟨old,k e (by simp) _ h1⟩,kI _ _ _ _ _ st.2 (k it (by simp))⟩
 item:=by
  intro X hP hw hK hc i pins s σ H E I hf st hg
  subst hP hw
  obtain ⟨xs,x,hq,hx⟩:=hg
  obtain ⟨its,rv,p⟩:=gI _ _ _ _ _ _ _ hK I hq
  obtain ⟨u,hu,ru⟩:=rv.get hx
  obtain ⟨⟨old,s1⟩,s2⟩:=id st
  have W:=WI X.A (I.ok.hd hc) (nE _ _ _ _ _ _ _ s1 p) (nI _ _ _ _ _ _ s2 p) its.toArray
  have hi:i < its.toArray.size:=by rw [List.size_toArray]; exact (List.getElem?_eq_some_iff.mp hu).1
  refine W.item i s _ _ hi ⟨st.1,st.2,p⟩ fun T vals h' tk hv hT ht hm k=>?_
  obtain ⟨t,x',hx',rfl⟩:=hv
  have ex:x' = u:=Option.some.inj (hx'.symm.trans ((List.getElem?_toArray ..).trans hu))
  subst ex
  refine ⟨.ref T,rfl,W.go elts kk tp i T _ _ _ hm fun h2 st2 k2=>?_⟩
  have hT2:h2.IsTuple T #[.int i t,x']:=ht.at fun o z=>k2 T o (W.apart i T h' hm) z
  have gone:∀ c ∈ [e,it],∃ ob,s.heap.get? c = some ob:=fun c hc'=>by
   rcases List.mem_cons.mp hc' with rfl | hb
   ·exact ⟨_,s1⟩
   ·rw [List.mem_singleton.mp hb]
    obtain ⟨o,h4,_⟩:=oI _ _ _ _ s2
    exact ⟨o,h4⟩
  refine ⟨.ref T,upd H T (.tup [.int i,x]),I.turnLaid (fp:=[e,it]) (fun b o hb eb=>k2 b o hb (k b o hb eb)) hf gone hT ⟨?_,[.int i t,x'],.cons ⟨t,rfl⟩ (.cons ru .nil),hT2⟩,rfl,⟨T,x,rfl,I.hok.fresh hT,rfl,fun zs hz=>by rw [uI _ _ _ _ _ _ _ _ hK I hz hq]; exact hx⟩,⟨st2.1,st2.2.1⟩,fun c hc'=>?_⟩
  ·show 2<=sizeLine
   decide
  ·obtain ⟨ob,eb⟩:=gone c hc'
   rw [upd_ne (Nat.ne_of_lt (Nat.lt_of_lt_of_le (Heap.lt_size eb) hT))]
   exact (hf c hc').1
 done:=by
  intro X hP hw hK hc i pins s σ H E I hf st hg
  subst hP hw
  obtain ⟨xs,hq,hx⟩:=hg
  obtain ⟨its,rv,p⟩:=gI _ _ _ _ _ _ _ hK I hq
  obtain ⟨⟨old,s1⟩,s2⟩:=id st
  have W:=WI X.A (I.ok.hd hc) (nE _ _ _ _ _ _ _ s1 p) (nI _ _ _ _ _ _ s2 p) its.toArray
  have hi:i = its.toArray.size:=by rw [List.size_toArray,<-rv.length,hx]
  rw [hi] at st
  refine W.done s _ _ ⟨st.1,st.2,p⟩ fun h' tk k=>⟨rfl,?_⟩
  refine I.step (h':=h') (H':=H) (t':=tk) (g':=s.gens) (d':=s.drawn) (ch:=[e,it]) (fun b hb=>let ⟨_,f1,_,f3,f4,f5⟩:=hf b hb; ⟨f3,f1,f4,f5⟩) (fun b ob _ _ hc e _=>k b ob hc e) (fun b ob _ _ hc e _=>⟨ob.slots,k b ob hc e⟩) (fun _ _ _ _ n=>n)
   (fun b ob hc e=>⟨ob,k b ob hc e⟩) (fun _ _ e=>e) (fun _ _ _ e=>e) (fun b ps e=>⟨#[],by rw [e]; simp⟩) (fun m hm=>?_) (fun b u eb=>?_) I.bare
  ·obtain ⟨ob,es,ep,ho,r⟩:=hm
   exact ⟨ob,es,ep,k _ ob (fun hb=>(hf _ hb).2.1 rfl) ho,r⟩
  ·have nf:∀ b u,H b = some u->b ∉ [e,it]:=fun b u e hb=>by rw [(hf b hb).1] at e; cases e
   refine (I.hok b u eb).stay (fun c v hc q=>k c v ?_ q) (fun _ q=>q) fun _ _ q=>q
   rcases hc with z | z
   ·rw [z]; exact nf b u eb
   ·exact nf c _ z
 self:=fun A i s Q E st h=>let ⟨_,he⟩:=st.1; wpAny_pyIter_enum he h
theorem turn_enumL (a it e:Addr) (hei:e ≠ it):Turn P w K (.Tuple elts kk tp) (Ite2 (SqL K) a) [e,it] e (fun i h=>(∃ old,IsEnum h e it (i:Int) old)/\h.IsListIter it a i) :=
 turn_enum2 (isIt:=Heap.IsListIter) (isq:=Heap.IsList) (fun h c l i ⟨o,e,_,d⟩=>⟨o,e,fun v z=>by rw [d] at z; cases z⟩) (fun h h' c l i z k=>z.at k) (fun X pins σ H s c xs hK I hq=>by subst hK; obtain ⟨its,rv,p,_⟩:=I.list hq; exact ⟨its,rv,p.isList⟩) (fun X pins σ H s c xs ys hK I hq hr=>by subst hK; exact I.list_inj hq hr)
  (fun h c e it i old its he ⟨o,ho,hc,_⟩ z=>by
   rw [z,he] at ho
   cases ho
   exact absurd (show Value.type "enumerate" = .type "list" from hc) (by decide))
  (fun h c l i its e ⟨o',ho',hc',_⟩ ⟨o,ho,hc,_⟩ z=>by
   rw [z,ho'] at ho
   cases ho
   rw [hc'] at hc
   exact absurd hc (by decide)) a it e hei fun A hA h1 h2 items=>WalksT.enumerate hA e it a hei h1 h2 items
theorem turn_enumT (a it e:Addr) (hei:e ≠ it):Turn P w K (.Tuple elts kk tp) (Ite2 (SqT K) a) [e,it] e (fun i h=>(∃ old,IsEnum h e it (i:Int) old)/\h.IsTupleIter it a i) :=
 turn_enum2 (isIt:=Heap.IsTupleIter) (isq:=Heap.IsTuple) (fun h c l i ⟨o,e,_,d⟩=>⟨o,e,fun v z=>by rw [d] at z; cases z⟩) (fun h h' c l i z k=>z.at k) (fun X pins σ H s c xs hK I hq=>by subst hK; obtain ⟨its,rv,p,_⟩:=I.tuple hq; exact ⟨its,rv,p⟩) (fun X pins σ H s c xs ys hK I hq hr=>by subst hK; exact I.tuple_inj hq hr)
  (fun h c e it i old its he ⟨o,ho,hc,_⟩ z=>by
   rw [z,he] at ho
   cases ho
   exact absurd (show Value.type "enumerate" = .type "tuple" from hc) (by decide))
  (fun h c l i its e ⟨o',ho',hc',_⟩ ⟨o,ho,hc,_⟩ z=>by
   rw [z,ho'] at ho
   cases ho
   rw [hc'] at hc
   exact absurd hc (by decide)) a it e hei fun A hA h1 h2 items=>walksET hA e it a hei h1 h2 items
end
section
variable {X:Cx} {elts:List Expr} {kk:Nat} {tp:Pos}
noncomputable def enumR (K:PySem.W.Frag) (R:It->Hp->Prop) (a:Addr) (xs:List V) (H:Hp):Prop:=SqL K H a xs/\R (Ite2 (SqL K) a) H\/SqT K H a xs/\R (Ite2 (SqT K) a) H
noncomputable def iEnum2 (K:PySem.W.Frag) (ta:TA):TI:=fun σ H R=>ta σ H fun vs H1=>∃ a xs,vs = [.ref a]/\enumR K R a xs H1
theorem pi_enum2 {a:Expr} {ta:TA} {p pos:Pos} (hg:Gl X "enumerate") (hm:X.mg "enumerate" = none) (hv:bootBuiltins "enumerate" = some (.type "enumerate")) (ha:PA X [a] ta) (hs:starEach [a] X.env = [(false,eval a X.env)]:=by rfl):PI X (.Tuple elts kk tp) (.Call (.Name "enumerate" p) [a] [] pos) (iEnum2 X.K ta):=by
 intro pins s σ H R I h
 refine Call_ (ld_blt I hg hm hv (PyProof.Rows.callWith_type1 (thn (ha pos pins s σ H _ I h) fun us s1 ⟨vs,H1,I1,r1,q1⟩=>?_) hs rfl))
 obtain ⟨l,xs,e,q⟩:=q1
 subst e
 obtain ⟨u,rfl,ru⟩:=vals1 r1
 cases ru
 have fpk:∀ b ∈ [s1.heap.objs.size + 1,s1.heap.objs.size],FpOk X pins H1 b:=fun b hb=>by
  rcases List.mem_cons.mp hb with z | hb
  ·rw [z]
   exact I1.fpOk (Nat.le_succ _) (I1.hok.fresh (Nat.le_succ _))
  ·rw [List.mem_singleton.mp hb]
   exact I1.fpOk (Nat.le_refl _) (I1.hok.fresh (Nat.le_refl _))
 rcases q with ⟨hq,q⟩ | ⟨hq,q⟩
 ·obtain ⟨its,rv,pl,hz⟩:=I1.list hq
  exact call_enumerate_list pl.isList fun h' he hit hsz k=>wpAny_pyIter_enum he ⟨s1.heap.objs.size + 1,_,_,_,H1,rfl,I1.kept (t':=s1.toks) k,turn_enumL l s1.heap.objs.size (s1.heap.objs.size + 1) (Nat.succ_ne_self _),⟨⟨_,he⟩,hit⟩,fpk,q⟩
 ·obtain ⟨its,rv,pl,hz⟩:=I1.tuple hq
  exact call_enumT pl fun h' he hit k=>wpAny_pyIter_enum he ⟨s1.heap.objs.size + 1,_,_,_,H1,rfl,I1.kept (t':=s1.toks) k,turn_enumT l s1.heap.objs.size (s1.heap.objs.size + 1) (Nat.succ_ne_self _),⟨⟨_,he⟩,hit⟩,fpk,q⟩
end
end L2
namespace L2
open PySem PySem.Spec PyProof.Rows
theorem enum_sqs {K:PySem.W.Frag} {R:It->Hp->Prop} {a:Addr} {xs:List V} {H H':Hp} (h:Sqs K H a xs) (k:KeepAt a H H') (q:∀ sq:Hp->Addr->List V->Prop,(∀ H1,KeepAt a H H1->sq H1 a xs)->R (Ite2 sq a) H'):enumR K R a xs H':=by
 rcases h with h | h
 ·exact .inl ⟨k.seqL h,q _ fun H1 k=>k.seqL h⟩
 ·exact .inr ⟨k.seqT h,q _ fun H1 k=>k.seqT h⟩
section
variable {X:Cx} (K:PySem.W.Frag)
theorem piE2 {elts:List Expr} {kk:Nat} {tp:Pos} {a:Expr} {ta:TA} {p pos:Pos} (hm:X.mg "enumerate" = none) (ha:PA X [a] ta) (hg:Gl X "enumerate":=by rfl) (hs:starEach [a] X.env = [(false,eval a X.env)]:=by rfl) (hK:X.K = K:=by rfl) :
  PI X (.Tuple elts kk tp) (.Call (.Name "enumerate" p) [a] [] pos) (iEnum2 K ta):=by subst hK; exact pi_enum2 hg hm bt_enumerate ha hs
end
end L2
namespace L2
open PySem PySem.Spec PyProof.Rows
section
variable {X:Cx} {tg iter elt:Expr} {ifs:List Expr} {scope:Scope} {cl:List (Str × Addr)} {N':List Str} {cap:List (Option Nat)} {wi:TI} {pos:Pos}
theorem comp_core {e:Expr} {gs:List Comprehension} {newAcc:Sem Value} {p2:Pos} {use:Option (Value->Sem Unit)} {Qv:Value->Shared->Prop} (hcl:clausesOf e = ⟨tg,iter,ifs,0⟩ :: gs) (o:Addr->HO) (hs:∀ x,foldedSetIterable iter X.env x = pure x) (S:CScope X scope cl N' cap) (hc:X.calm = true) (hi:PI X tg iter wi)
  {lp:Addr->It->St->Hp->(St->Hp->Prop)->Prop}
  (hnew:∀ (pins:List (Addr × Obj)) (s:Shared) (σ:St) (H:Hp) (Q:Value->Shared->Prop) (E:Value->Shared->Prop),Inv X pins σ H s->(∀ s',Inv X pins σ (upd H s.heap.objs.size (o s.heap.objs.size)) s'->(∀ b ob,s.heap.get? b = some ob->s'.heap.get? b = some ob)->Q (.ref s.heap.objs.size) s')->wpAny (model X.prog X.w) X.A newAcc Q E s)
  (hlp:∀ (pins:List (Addr × Obj)) (ex:List Addr) (s3:Shared) (H3:Hp) (D it:Addr) (fp:List Addr) (tn:Nat->Heap->Prop) (J:It) (σ:St) (s:Shared) (H:Hp) (Q:St->Hp->Prop) (R:Result->Shared->Prop),
   Turn X.prog X.w X.K tg J fp it tn->Inv (cxC X scope cl N' pins ex s3 H3) [] σ H s->tn 0 s.heap->(∀ b ∈ fp,FpOk (cxC X scope cl N' pins ex s3 H3) [] H b)->lp D J σ H Q ->
   (∀ s' σ' H',Inv (cxC X scope cl N' pins ex s3 H3) [] σ' H' s'->Q σ' H'->R (.ok .next) s') ->
   codeAny (model X.prog X.w) X.A (.compLoop e 0 (.ref it) (.ref D) (compEnvC scope cl s3.heap.objs.size X.env)) R s)
  (hun:∀ it D env,X.A.under (.compStart e 0 (.ref it) (.ref D) env) = X.A) (hden:∀ it D env,(model X.prog X.w).den (.compStart e 0 (.ref it) (.ref D) env) = (compStart e 0 (.ref it) (.ref D) env).onRaise (fun x=>do noteFrame x env; standAt theWindowsPlace))
  {pins:List (Addr × Obj)} {s:Shared} {σ:St} {H:Hp} {Q:V->Hp->Prop} (I:Inv X pins σ H s) (h:tComp wi o cap lp σ H Q)
  (hend:∀ (D:Addr) (fp:List Addr) (H2:Hp) (s3 s':Shared) (σ':St) (H':Hp),Inv X pins σ H2 s3->(∀ b ∈ fp,FpOk X pins H2 b)->Inv (cxC X scope cl N' pins fp s3 H2) [] σ' H' s'->Q (.ref D) H'->compPost (model X.prog X.w) X.A X.xe use Qv (.ref D) s3.heap.objs.size (.ok .next) s') :
  wpAny (model X.prog X.w) X.A (comprehension e scope X.env p2 newAcc false (eval iter X.env) use) Qv X.xe s:=by
 refine wpAny_comprehension_free hcl hs S.clos S.kind S.loc (thn (hi pins s σ H _ I h) fun v s1 h1=>thn h1 fun itv s2 h2=>?_)
 obtain ⟨it,fp,tn,J,H2,eit,I2,T,st2,f2,R2⟩:=h2
 subst eit
 refine hnew pins s2 σ H2 _ _ I2 fun s3 I3 k3=>?_
 have hD:H2 s2.heap.objs.size = none:=I2.hok.fresh (Nat.le_refl _)
 have fok:∀ b ∈ fp,FpOk X pins (upd H2 s2.heap.objs.size (o s2.heap.objs.size)) b/\∃ ob,s3.heap.get? b = some ob:=fun b hb=>by
  obtain ⟨ob,e,_⟩:=T.obj _ _ st2 b hb
  obtain ⟨f0,fr⟩:=f2 b hb
  exact ⟨⟨by rw [upd_ne (Nat.ne_of_lt (Heap.lt_size e))]; exact f0,fr⟩,ob,k3 b ob e⟩
 refine wpAny_newFunctionEnv S.nocell (by intro y hy; simp at hy) (fun h1 hns hsb=>?_) S.kind
 have hk:∀ b ob,s3.heap.get? b = some ob->h1.get? b = some ob:=fun b ob e=>(hsb.2 b (Nat.ne_of_lt (Heap.lt_size e))).trans (Heap.get?_push_of_some _ e)
 have I4:Inv (cxC X scope cl N' pins fp s3 (upd H2 s2.heap.objs.size (o s2.heap.objs.size))) [] (capS cap σ) (upd H2 s2.heap.objs.size (o s2.heap.objs.size)) { s3 with heap:=h1,toks:=s3.toks + ([]:List (Str × Value)).length } :=
  I3.block S hc fok hns hk
 have st4:tn 0 h1:=T.keep 0 _ _ st2 fun b hb ob e=>hk b ob (k3 b ob e)
 refine comp_start (X:=cxC X scope cl N' pins fp s3 (upd H2 s2.heap.objs.size (o s2.heap.objs.size))) (gs:=⟨tg,iter,ifs,0⟩ :: gs) (e:=e) (d:=0) (tg:=tg) (iter:=iter) (ifs:=ifs) (hun _ _ _) (hden _ _ _) hcl rfl T st4 ?_
 refine hlp pins fp s3 _ s2.heap.objs.size it fp tn J (capS cap σ) _ _ _ _ T I4 st4 (fun b hb=>?_) (R2 _ hD) fun s' σ' H' I' q'=>?_
 ·obtain ⟨⟨f0,f1,f2',f3,f4,f5⟩,ob,eo⟩:=fok b hb
  refine ⟨f0,Nat.ne_of_lt (Heap.lt_size eo),fun hf=>?_,.inl hb,fun x c e=>f4 x c (S.cin.get e),fun p hp=>f5 p (by simpa [cxC] using hp)⟩
  rcases List.mem_cons.mp (I3.stkSub b hf) with z | z
  ·exact f1 z
  ·exact f2' z
 ·exact hend _ fp _ s3 s' σ' H' I3 (fun b hb=>(fok b hb).1) I' q'
theorem ps_setLC {i:Nat} {x:Str} {pos' cpos:Pos} {g:TG} {tc:TT} {te:TE} (hN:X.N.Nodup) (hi:X.N[i]? = some x) (hx:Loc X.env.scope x) (S:CScope X scope cl N' cap) (hc:X.calm = true) (hI:PI X tg iter wi)
  (hb:∀ (pins:List (Addr × Obj)) (ex:List Addr) (s3:Shared) (H3:Hp),PG (cxC X scope cl N' pins ex s3 H3) tg g/\PTs (cxC X scope cl N' pins ex s3 H3) ifs tc/\PE (cxC X scope cl N' pins ex s3 H3) elt te)
  (hs:∀ x,foldedSetIterable iter X.env x = pure x:=by intro _; rfl)
  (hsw:swapsWith (.ListComp elt [⟨tg,iter,ifs,0⟩] scope cpos) (some (.Name x pos')) pos.line X.env = pure true:=by rfl)
  (hf:X.fn x = true\/X.env.scope.names.lookup x = some .local:=by first | exact .inl rfl | exact .inr rfl | assumption) :
  PS X (.Assign [.Name x pos'] (.ListComp elt [⟨tg,iter,ifs,0⟩] scope cpos) pos) (tAsg (tComp wi (fun _=>.lst []) cap fun D J σ H Q=>Loop g tc (emLst D te) J σ H Q) (gName i)):=by
 intro pins s σ H D I h
 rw [exec_Assign]
 refine wpAny_bind (wpAny_standAt (wpAny_bind (wpAny_of_eq hsw (wpAny_ite_true rfl (wpAny_bind (wpAny_bind ?_))))))
 refine comp_core (newAcc:=newList []) (p2:=firstIterPos [⟨tg,iter,ifs,0⟩] cpos) rfl (fun _=>.lst []) hs S hc hI (fun pins s σ H Q E I h=>?_) (fun pins ex s3 H3 D it fp tn J σ s H Q R T I st hf h hR=>?_) (fun _ _ _=>rfl) (fun _ _ _=>rfl) I h fun E fp H2 s3 s' σ' H' I3 fok I' q=>?_
 ·refine wpAny_newList ?_
  exact h _ (I.lnew (t':=s.toks) (its:=[]) .nil (Nat.zero_le _)) fun b ob e=>Heap.get?_push_of_some _ e
 ·obtain ⟨b1,b2,b3⟩:=hb pins ex s3 H3
  exact comp_loop (X:=cxC X scope cl N' pins ex s3 H3) rfl rfl hc rfl (turnE_list elt tg iter ifs scope cpos _ _ _) b1 b2 (pem_list rfl b3) T I st hf h hR
 ·have IX:Inv X pins σ H' s':=I3.unblock fok I' ⟨rfl,fun _ _=>rfl⟩
  have fC:FpOk X pins H' s3.heap.objs.size:=I3.fpOk (Nat.le_refl _) I'.free
  obtain ⟨m,hn,_⟩:=I'.loc
  show wpAny _ _ (assign (.Name x pos') X.env (.ref E)) _ _ _
  refine wpAny_assign_Name (store_ok2 (v:=.ref E) IX hN hi hx rfl (fun s2 I2 ⟨a,hsb,ha⟩=>?_) hf)
  have nC:s3.heap.objs.size ≠ a:=by
   rcases ha with rfl | ha
   ·exact fC.2.1
   ·exact (fC.2.2.2.2.1 _ _ ha).symm
  refine ⟨m,?_,fun h' hsb'=>wpAny_pure (wpAny_pure ?_)⟩
  ·obtain ⟨ob,es,ep,e1,r⟩:=hn
   exact ⟨ob,es,ep,(hsb.2 _ nC).trans e1,r⟩
  refine ⟨_,H',?_,q⟩
  have k:∀ b ob,b ∉ [s3.heap.objs.size]->s2.heap.get? b = some ob->h'.get? b = some ob:=fun b ob hb e=>(hsb'.2 b fun z=>hb (List.mem_singleton.mpr z)).trans e
  refine I2.step (h':=h') (H':=H') (t':=s2.toks) (g':=s2.gens) (d':=s2.drawn) (ch:=[s3.heap.objs.size]) (fun b hb=>by rw [List.mem_singleton.mp hb]; exact ⟨fC.2.2.2.1,fC.2.1,fC.2.2.2.2⟩) (fun b ob _ _ hc e _=>k b ob hc e) (fun b ob _ _ hc e _=>⟨ob.slots,k b ob hc e⟩) (fun _ _ _ _ n=>n)
   (fun b ob hc e=>⟨ob,k b ob hc e⟩) (fun _ _ e=>e) (fun _ _ _ e=>e) (fun b ps e=>⟨#[],by rw [e]; simp⟩) (fun m hm=>?_) (fun b u eb=>?_) I2.bare
  ·obtain ⟨ob,es,ep,ho,r⟩:=hm
   exact ⟨ob,es,ep,k _ ob (fun hb=>fC.2.1 (List.mem_singleton.mp hb).symm) ho,r⟩
  ·have nf:∀ b u,H' b = some u->b ∉ [s3.heap.objs.size]:=fun b u e hb=>by rw [List.mem_singleton.mp hb,fC.1] at e; cases e
   refine (I2.hok b u eb).stay (fun c v hc q=>k c v ?_ q) (fun _ q=>q) fun _ _ q=>q
   rcases hc with z | z
   ·rw [z]; exact nf b u eb
   ·exact nf c _ z
end
end L2
namespace L2
open PySem PySem.Spec PyProof.Rows
section
variable {X:Cx}
theorem call_any (hc:X.calm = true):CallR X (.builtin "any") (fun xs H Q=>∃ (p:Addr) (bs:List Bool),xs = [.ref p]/\SqL X.K H p (bs.map V.bl)/\Q (.bl (bs.any id)) H):=by
 intro pins s σ H xs us Q I r h
 obtain ⟨p,bs,rfl,hq,q⟩:=h
 obtain ⟨u,rfl,ru⟩:=vals1 r
 cases ru
 obtain ⟨its,rv,pl,hz⟩:=I.list hq
 refine call_any_walk (wpAny_pyIter_list pl.isList ?_)
 have hne:p ≠ s.heap.objs.size:=by
  obtain ⟨o,n,e,_⟩:=pl
  exact Nat.ne_of_lt (Heap.lt_size e)
 refine ⟨s.heap.objs.size,_,_,_,_,_,fun i=>bs.getD i false,rfl,Walks.list (A:=X.A.in1) (show X.A.in1.handled = none from I.ok.hd hc) _ p hne its.toArray,⟨⟨_,Heap.get?_push_size _ rfl,rfl,rfl⟩,?_⟩,fun i v s' Q' E' hv q'=>?_,fun h' tk k=>?_⟩
 ·obtain ⟨o,n,e,c,d,e2⟩:=pl
  exact ⟨o,Heap.get?_push_of_some _ e,c,n,e2⟩
 ·have hb:(bs.map V.bl)[i]? = some (V.bl (bs.getD i false))/\RelV (V.bl (bs.getD i false)) v:=by
   have hv':its[i]? = some v:=by simpa using hv
   have hi:i < its.length:=(List.getElem?_eq_some_iff.mp hv').1
   have hl:=rv.length
   rw [List.length_map] at hl
   have e:(bs.map V.bl)[i]? = some (V.bl (bs.getD i false)):=by
    rw [List.getElem?_map,List.getElem?_eq_getElem (by omega)]
    simp [List.getD_eq_getElem?_getD,List.getElem?_eq_getElem (show i < bs.length by omega)]
   obtain ⟨u,hu,ru⟩:=rv.get e
   rw [hv'] at hu
   cases hu
   exact ⟨e,ru⟩
  cases hb.2
  exact wpAny_truthy_bool q'
 ·have hl:=rv.length
  rw [List.length_map] at hl
  have e:(List.range its.toArray.size).any (fun i=>bs.getD i false) = bs.any id:=by
   rw [List.size_toArray,<-hl,Bool.eq_iff_iff,List.any_eq_true,List.any_eq_true]
   constructor
   ·rintro ⟨i,hi,z⟩
    have hi':=List.mem_range.mp hi
    refine ⟨bs[i],List.getElem_mem hi',?_⟩
    simpa [List.getD_eq_getElem?_getD,List.getElem?_eq_getElem hi'] using z
   ·rintro ⟨b,hb,z⟩
    obtain ⟨i,hi,rfl⟩:=List.mem_iff_getElem.mp hb
    refine ⟨i,List.mem_range.mpr hi,?_⟩
    simpa [List.getD_eq_getElem?_getD,List.getElem?_eq_getElem hi] using z
  rw [e]
  exact ⟨.bl (bs.any id),H,I.kept fun b o eb=>k b o (by
   intro hb
   have:b = s.heap.objs.size:=by simpa using hb
   exact absurd (Heap.lt_size eb) (by rw [this]; exact Nat.lt_irrefl _)) (Heap.get?_push_of_some _ eb),rfl,q⟩
theorem bt_any:bootBuiltins "any" = some (.builtin "any"):=by decide +kernel
variable (K:PySem.W.Frag)
theorem cl_any (hc:X.calm = true:=by rfl) (hK:X.K = K:=by rfl):CallR X (.builtin "any") (fun xs H Q=>∃ (p:Addr) (bs:List Bool),xs = [.ref p]/\SqL K H p (bs.map V.bl)/\Q (.bl (bs.any id)) H):=by subst hK; exact call_any hc
end
end L2
namespace L2
open PySem PySem.Spec PyProof.Rows
noncomputable def mrgK (kvs more:List (Key × V)):List (Key × V):=more.foldl (fun a kv=>putK a kv.1 kv.2) kvs
theorem KV.mrg:∀ {more:List (Key × V)} {vs':List (Key × Value)} {kvs:List (Key × V)} {vs:List (Key × Value)},KV kvs vs->KV more vs'->KV (mrgK kvs more) (merged vs vs')
 | [],[],_,_,r,_=>r
 | [],_ :: _,_,_,_,r'=>by cases r'
 | _ :: _,[],_,_,_,r'=>by cases r'
 | (k,y) :: m,(k',u) :: n,kvs,vs,r,r'=>by
  cases r' with
  | cons h t =>
   obtain ⟨e,ry⟩:=h
   have e:k = k':=e
   subst e
   show KV (mrgK (putK kvs k y) m) (merged (stored vs k u) n)
   exact KV.mrg (r.put k ry) t
theorem mrgK_length (kvs more:List (Key × V)):(mrgK kvs more).length<=kvs.length + more.length:=by
 induction more generalizing kvs with
 | nil=>exact Nat.le_refl _
 | cons a r ih =>
  have h1:=ih (putK kvs a.1 a.2)
  have h2:=length_putK kvs a.1 a.2
  show (mrgK (putK kvs a.1 a.2) r).length<=kvs.length + (r.length + 1)
  omega
section
variable {X:Cx}
theorem bt_dict:bootBuiltins "dict" = some (.type "dict"):=by decide +kernel
end
end L2
namespace L2
open PySem PySem.Spec PyProof.Rows
theorem dl_entry:entryFor table "dict.update.loop" = some Builtin.«dict.update.loop»:=entryFor_of_tree (by kernel_rfl)
theorem dl_plain:plainId "dict.update.loop" = true:=by decide +kernel
section
variable {prog:Program} {w:World} {A:Around} {E:Value->Shared->Prop} {s:Shared}
theorem getAttrQ_miss {a:Addr} {xs:Array Value} {k:Nat} {sl:Array (Option Value)} {name:Str} {Q:Option Value->Shared->Prop}
  (hx:s.heap.get? a = some { cls:=.type "list",dict:=none,data:=.seq xs k,slots:=sl }) (hmiss:typeLookup (.type "list") name = pure none) (hname:(["__module__", "__name__", "__qualname__", "__doc__", "__annotations__"]:List Str).contains name = false) (hA:A.handled = none)
  (h:∀ h' tk,(∀ b ob,s.heap.get? b = some ob->h'.get? b = some ob)->Q none { s with heap:=h',toks:=tk }) (hsz:name.length + 100<=sizeLine) :
  wpAny (model prog w) A (getAttr? (.ref a) name) Q E s:=by
 obtain ⟨hp,g,d,tk,os⟩:=s
 have hT:∀ tk',(⟨hp,g,d,tk',os⟩:Shared).TypeIs (.ref a) "list":=fun _=>⟨_,hx,rfl⟩
 have f1:=sub_AttributeError
 have f3:=F.slot_list_getattribute.lookup
 have f4:=F.slot_list_getattribute.bind (.ref a)
 have f5:=am_list_getattr_none
 unfold getAttr? getAttrBy? getAttrBy
 repeat (any_goals (first | assumption | exact hT _ | ((with_reducible show wpAny _ _ (call (Value.builtin "list.__getattribute__") _ _) _ _ _); refine call_meets F.slot_list_getattribute (hT _) am_entry_list_getattribute (F.args_list_getattribute_2 _ _) (meets_getattribute_miss_list a xs k sl name _ hmiss hname hsz) ⟨hx,hA,fun h' tk' e hx'=>?_⟩) | wp_step))
 obtain ⟨t',u',he⟩:=hx'.there
 show wpAny _ _ (getattributeRaised _ _ _ _ _ _ _) _ _ _
 unfold getattributeRaised
 repeat (any_goals (first | assumption | wp_step))
 exact h _ _ hx'.keeps
end
section
variable {prog:Program} {w:World} {A:Around} {R:Result->Shared->Prop} {I:Addr} {fp wr:List Addr} {G:Array GenState->Array GenState->Prop} {n:Nat} {P:Nat->Value->Prop} {St:Nat->Shared->Prop} {K:Type} [DecidableEq K] {knd:KeyKind prog w K}
theorem dict_loop (W:WalksS prog w A.in1 I fp wr G n P St) (D:Addr) (hDf:D ∉ fp) (h0:Heap) (more:List (K × Value)) (hn:more.length = n)
  (hval:∀ i v,P i v->∃ t o k key u m,v = .ref t/\t ∉ D :: wr/\h0.get? t = some o/\o.cls = .type "tuple"/\o.data = .seq #[key,u] m/\more[i]? = some (k,u)/\knd.is k key = true) :
  ∀ (k i:Nat) (s:Shared) (kvs:List (K × Value)) (tk:Tok),n - i = k->i<=n->St i s->(∀ b o,b ∉ D :: wr->h0.get? b = some o->s.heap.get? b = some o)->s.heap.DictOf knd D kvs->kvs.length + k<=sizeLine ->
   (∀ s',Moved (D :: wr) G s s'->s'.heap.DictOf knd D (merged kvs (more.drop i))->R (.ok (.ret .none)) s') ->
   codeAny (model prog w) A (.builtin "dict.update.loop" ⟨[.ref D,.ref I,.int (i:Int) tk,.none],[]⟩) R s:=by
 have hDw:D ∉ wr:=fun h=>hDf (W.sub _ h)
 have hsub:∀ b ∈ wr,b ∈ D :: wr:=fun b hb=>List.mem_cons_of_mem _ hb
 have dat:∀ {h h':Heap} {kvs:List (K × Value)},h.DictOf knd D kvs->(∀ o,h.get? D = some o->h'.get? D = some o)->h'.DictOf knd D kvs:=fun ⟨o,es,ep,ho,r⟩ k=>⟨o,es,ep,k o ho,r⟩
 intro k
 induction k with
 | zero =>
  intro i s kvs tk hk hi hst hh hS _ hR
  have hin:i = n:=by omega
  subst hin
  refine codeAny_builtin dl_entry ?_
  rw [Around.under_plainId dl_plain _]
  refine wpAny_bind (W.done s _ _ hst fun s' hm=>?_)
  have q:=hR s' (hm.mono hsub)
  rw [<-hn,List.drop_length] at q
  show wpAny _ _ (Builtin.Dict.addKeywords D [] >>= _) _ _ _
  exact wpAny_bind (wpAny_pure (wpAny_pure (q (dat hS fun o=>hm.heap D o hDw))))
 | succ k ih =>
  intro i s kvs tk hk hi hst hh hS hz hR
  refine codeAny_builtin dl_entry ?_
  rw [Around.under_plainId dl_plain _]
  refine wpAny_bind (W.item i s _ _ (by omega) hst fun v s' hP hst' hm=>?_)
  obtain ⟨t,o,kk,key,u,m,rfl,htw,ht,hc,hd,hx,hkey⟩:=hval i v hP
  have ht':s'.heap.get? t = some o:=hm.heap t o (fun z=>htw (hsub _ z)) (hh t o htw ht)
  refine wpAny_bind (wpAny_holding (wpAny_bind (wpAny_tryCatch ?_)))
  unfold Builtin.Dict.pairItems
  refine wpAny_bind (wpAny_typeOf (T := "tuple") ⟨o,ht',hc⟩ ?_)
  rw [if_pos (by decide)]
  refine wpAny_bind (wpAny_seqItems ht' hd (wpAny_pure ?_))
  show wpAny _ _ (holding [key,u] (dictSet D key u)) _ _ _
  refine wpAny_holding (wpAny_dictSet_pairs hkey (dat hS fun o=>hm.heap D o hDw) (fun h' d' hsb=>?_) (by omega))
  refine wpAny_pure ⟨plainId_quiet dl_plain _,ih (i + 1) _ (stored kvs kk u) _ (by omega) (by omega) (W.frame _ s' _ _ hst' (Nat.le_succ _) fun b hb o e=>?_) (fun b o hb e=>?_) d' (by
   have:=stored_length_le kvs kk u
   omega) fun s'' hm'' hS''=>?_⟩
  ·rw [hsb.2 b (fun h:b = D=>hDf (by rw [<-h]; exact hb))]; exact e
  ·rw [hsb.2 b (fun h:b = D=>hb (by rw [h]; exact List.mem_cons_self))]; exact hm.heap b o (fun z=>hb (hsub _ z)) (hh b o hb e)
  ·refine hR s'' (Moved.trans W.gtrans ((hm.mono hsub).then_heap (Nat.le_succ _) fun b o hb e=>?_) hm'') ?_
   ·rw [hsb.2 b (fun h:b = D=>hb (by rw [h]; exact List.mem_cons_self))]; exact e
   ·have hd:more.drop i = (kk,u) :: more.drop (i + 1):=by
     obtain ⟨hi',ex⟩:=List.getElem?_eq_some_iff.mp hx
     rw [<-ex]
     exact List.drop_eq_getElem_cons hi'
    rw [hd]
    exact hS''
end
section
variable {X:Cx}
theorem vals_addrs:∀ {as:List Addr} {its:List Value},Vals (as.map V.ref) its->its = as.map Value.ref
 | [],_,.nil=>rfl
 | _ :: _,_,.cons r t=>by rw [List.map_cons,vals_addrs t]; cases r; rfl
theorem tups_of {pins:List (Addr × Obj)} {σ:St} {H:Hp} {s:Shared} (I:Inv X pins σ H s):∀ ps:List (Addr × Key × V),(∀ q ∈ ps,H q.1 = some (.tup [kV q.2.1,q.2.2]))->∃ more:List (Key × Value),KV (ps.map fun q=>q.2) more /\
  ∀ (i:Nat) (q:Addr × Key × V),ps[i]? = some q->∃ (o:Obj) (key u:Value) (m:Nat),s.heap.get? q.1 = some o/\o.cls = .type "tuple"/\o.data = .seq #[key,u] m/\more[i]? = some (q.2.1,u)/\(mixKind X.prog X.w).is q.2.1 key = true
 | [],_=>⟨[],.nil,fun i q h=>by simp at h⟩
 | p :: ps,h=>by
  obtain ⟨more,r,hm⟩:=tups_of I ps fun q hq=>h q (List.mem_cons_of_mem _ hq)
  obtain ⟨_,its,rv,o,h1,h2,n,h3⟩:=(show ObjOk X.prog X.w H s.heap p.1 (.tup [kV p.2.1,p.2.2]) from I.hok _ _ (h p (List.mem_cons_self ..)))
  obtain ⟨key,u,rfl,rk,ru⟩:=rv.two
  refine ⟨(p.2.1,u) :: more,.cons ⟨rfl,ru⟩ r,fun i q hq=>?_⟩
  cases i with
  | zero=>cases hq; exact ⟨o,key,u,n,h1,h2,by simpa using h3,rfl,kV_is rk⟩
  | succ i=>exact hm i q hq
theorem dictP_of (hc:X.calm = true):CallR X (.type "dict") (fun xs H Q=>∃ (p:Addr) (ps:List (Addr × Key × V)),xs = [.ref p]/\H p = some (.lst (ps.map fun q=>V.ref q.1))/\(∀ q ∈ ps,H q.1 = some (.tup [kV q.2.1,q.2.2]))/\ps.length<=1000/\∀ l,H l = none->Q (.ref l) (upd H l (.dK (mrgK [] (ps.map fun q=>q.2))))):=by
 intro pins s σ H xs us Q I r h
 obtain ⟨p,ps,rfl,hp,ht,hl,q⟩:=h
 obtain ⟨u,rfl,ru⟩:=vals1 r
 cases ru
 obtain ⟨its,nn,rv,ho,hz⟩:=I.lst hp
 have ei:its = (ps.map fun q=>q.1).map Value.ref:=vals_addrs (by rw [List.map_map]; exact rv)
 obtain ⟨more,rm,hm⟩:=tups_of I ps ht
 have lm:more.length = ps.length:=by rw [<-rm.length,List.length_map]
 have li:its.toArray.size = ps.length:=by rw [ei]; simp
 have hps:p < s.heap.objs.size:=Heap.lt_size ho
 refine callType_codes (Q₁:=fun obj s₁=>obj = .ref s.heap.objs.size/\s₁ = { s with heap:=s.heap.push { cls:=.type "dict",data:=.dict #[] } }) PySem.F.kt_called_dict (PySem.F.kt_typeCall_dict_1 _) PySem.F.entry_dict_init (kt_code_dict_new _ ⟨rfl,rfl⟩) ?_
 rintro obj s₁ ⟨rfl,rfl⟩
 have hnew:(s.heap.push { cls:=.type "dict",data:=.dict #[] }).DictOf (mixKind X.prog X.w) s.heap.objs.size []:=Heap.DictOf.new s.heap
 have ho':(s.heap.push { cls:=.type "dict",data:=.dict #[] }).get? p = some { cls:=.type "list",data:=.seq its.toArray nn }:=Heap.get?_push_of_some _ ho
 refine ⟨hnew.typeIs,PySem.F.args_dict_init_2 _ _,?_⟩
 unfold Builtin.«dict.__init__»
 refine wpAny_bind ?_
 unfold Builtin.Dict.selfAndRest
 refine wpAny_bind (wpAny_notOrdered_dict hnew.typeIs ?_)
 show wpAny _ _ (pure (s.heap.objs.size,[Value.ref p])) _ _ _
 refine wpAny_pure ?_
 show wpAny _ _ (Builtin.Dict.updateFrom "dict.__init__" s.heap.objs.size (.ref p) [] .none) _ _ _
 unfold Builtin.Dict.updateFrom
 refine wpAny_bind (wpAny_typeOf (T := "list") ⟨_,ho',rfl⟩ ?_)
 rw [if_pos (by decide)]
 have hh:X.A.in1.in1.handled = none:=I.ok.hd hc
 refine wpAny_bind (getAttrQ_miss ho' (am_miss_of_fast (by decide +kernel)) (by decide +kernel) hh (fun h1 tk1 k1=>?_) (by decide +kernel))
 refine wpAny_ite_true rfl ?_
 have hD1:h1.DictOf (mixKind X.prog X.w) s.heap.objs.size []:=let ⟨o,es,ep,ho,r⟩:=hnew; ⟨o,es,ep,k1 _ _ ho,r⟩
 have hp1:=k1 _ _ ho'
 have hDs:s.heap.objs.size < h1.objs.size:=let ⟨_,_,_,ho,_⟩:=hD1; Heap.lt_size ho
 have hps1:p ≠ h1.objs.size:=Nat.ne_of_lt (Nat.lt_trans hps hDs)
 refine wpAny_bind (wpAny_rule (wpAny_bind (wpAny_pyIter_list (l:=p) (items:=its.toArray) ⟨_,hp1,rfl,nn,rfl⟩ (wpAny_pure ⟨plainId_quiet dl_plain _,?_⟩))))
 have k2:∀ b o,s.heap.get? b = some o->h1.get? b = some o:=fun b o e=>k1 b o (Heap.get?_push_of_some _ e)
 refine dict_loop (A:=X.A.in1) (knd:=mixKind X.prog X.w) ((Walks.list (A:=X.A.in1.in1) hh h1.objs.size p hps1 its.toArray).toS) s.heap.objs.size ?_ h1 more (lm.trans li.symm) (fun i v hv=>?_) _ 0 _ [] _ rfl (Nat.zero_le _) ⟨⟨_,Heap.get?_push_size _ rfl,rfl,rfl⟩,⟨_,Heap.get?_push_of_some _ hp1,rfl,nn,rfl⟩⟩ (fun b o _ e=>Heap.get?_push_of_some _ e) (let ⟨o,es,ep,ho,r⟩:=hD1; ⟨o,es,ep,Heap.get?_push_of_some _ ho,r⟩) ?_ fun s' hmv hS'=>?_
 ·simp only [List.mem_cons,List.not_mem_nil,or_false,not_or]
  exact ⟨Nat.ne_of_lt hDs,Nat.ne_of_gt hps⟩
 ·have hv:its.toArray[i]? = some v:=hv
  rw [List.getElem?_toArray,ei,List.map_map,List.getElem?_map] at hv
  obtain ⟨z,hz',rfl⟩:=Option.map_eq_some_iff.mp hv
  obtain ⟨o,key,u,m,e1,e2,e3,e4,e5⟩:=hm i z hz'
  have lt:=Heap.lt_size e1
  refine ⟨z.1,o,z.2.1,key,u,m,rfl,?_,k2 _ _ e1,e2,e3,e4,e5⟩
  simp only [List.mem_cons,List.not_mem_nil,or_false,not_or]
  exact ⟨Nat.ne_of_lt lt,Nat.ne_of_lt (Nat.lt_trans lt hDs)⟩
 ·rw [li,sizeLine_eq]; simp; omega
 ·obtain ⟨h',g',d',tk',os'⟩:=s'
  have eg:g' = s.gens:=hmv.gens
  have ed:d' = s.drawn:=hmv.drawn
  have eo:os' = s.os:=hmv.os
  subst eg; subst ed; subst eo
  refine ⟨rfl,.ref s.heap.objs.size,upd H s.heap.objs.size (.dK (mrgK [] (ps.map fun q=>q.2))),I.laid (fun b o eb=>?_) (Nat.le_refl _) (dk_new ?_ (beq_eq_false_iff_ne.mpr (Nat.ne_of_gt I.big)) (KV.mrg .nil rm) hS'),rfl,q _ I.fresh⟩
  ·have lt:=Heap.lt_size eb
   refine hmv.heap b o ?_ (Heap.get?_push_of_some _ (k2 b o eb))
   simp only [List.mem_cons,List.not_mem_nil,or_false,not_or]
   exact ⟨Nat.ne_of_lt lt,Nat.ne_of_lt (Nat.lt_trans lt hDs)⟩
  ·have:=mrgK_length [] (ps.map fun q=>q.2)
   rw [List.length_map] at this
   rw [sizeLine_eq]
   simp at this
   omega
end
end L2
namespace L2
open PySem PySem.Spec PyProof.Rows
section
variable {X:Cx} {pos:Pos}
variable (K:PySem.W.Frag)
theorem cl_dictP (hc:X.calm = true:=by rfl):CallR X (.type "dict") (fun xs H Q=>∃ (p:Addr) (ps:List (Addr × Key × V)),xs = [.ref p]/\H p = some (.lst (ps.map fun q=>V.ref q.1))/\(∀ q ∈ ps,H q.1 = some (.tup [kV q.2.1,q.2.2]))/\ps.length<=1000/\∀ l,H l = none->Q (.ref l) (upd H l (.dK (mrgK [] (ps.map fun q=>q.2))))):=dictP_of hc
end
end L2
namespace L2
open PySem PySem.Spec PyProof.Rows
section
variable {X:Cx}
theorem d_updP {pins:List (Addr × Obj)} {σ:St} {H:Hp} {s:Shared} {a p:Addr} {kvs:List (Key × V)} {ps:List (Addr × Key × V)} {A:Around} {E:Value->Shared->Prop} {Q:Value->Shared->Prop} (I:Inv X pins σ H s) (hh:A.handled = none) (ea:H a = some (.dK kvs)) (hp:H p = some (.lst (ps.map fun q=>V.ref q.1))) (ht:∀ q ∈ ps,H q.1 = some (.tup [kV q.2.1,q.2.2])) (hl:kvs.length + ps.length<=sizeLine)
  (h:∀ s',Inv X pins σ (upd H a (.dK (mrgK kvs (ps.map fun q=>q.2)))) s'->Q .none s'):wpAny (model X.prog X.w) A (call (.builtin "dict.update") [.ref a,.ref p]) Q E s:=by
 obtain ⟨z,hd,vs,rel,dd⟩:=dk_of I.hok ea
 obtain ⟨its,nn,rv,ho,hz⟩:=I.lst hp
 have ei:its = (ps.map fun q=>q.1).map Value.ref:=vals_addrs (by rw [List.map_map]; exact rv)
 obtain ⟨more,rm,hm⟩:=tups_of I ps ht
 have lm:more.length = ps.length:=by rw [<-rm.length,List.length_map]
 have li:its.toArray.size = ps.length:=by rw [ei]; simp
 have lv:vs.length = kvs.length:=rel.length.symm
 have pa:p ≠ a:=ne_of hp ea (by intro z; cases z)
 refine call_meetsIn PySem.F.slot_dict_update dd.typeIs PySem.F.entry_dict_update (PySem.F.args_dict_update_2 _ _) (S:=fun A R s=>wpAny (model X.prog X.w) A.in1 (Builtin.«dict.update» ⟨[.ref a,.ref p],[]⟩) (fun fin s'=>match fin with | .done f=>R (.ok f) s' | .again c'=>c'.quiet = true/\codeAny (model X.prog X.w) A c' R s') (fun e s'=>R (.error e) s') s) (fun A R s h=>h) ?_
 unfold Builtin.«dict.update»
 refine wpAny_bind ?_
 unfold Builtin.Dict.selfAndRest
 refine wpAny_bind (wpAny_notOrdered_dict dd.typeIs ?_)
 show wpAny _ _ (pure (a,[Value.ref p])) _ _ _
 refine wpAny_pure ?_
 show wpAny _ _ (Builtin.Dict.updateFrom "dict.update" a (.ref p) [] .none) _ _ _
 unfold Builtin.Dict.updateFrom
 refine wpAny_bind (wpAny_typeOf (T := "list") ⟨_,ho,rfl⟩ ?_)
 rw [if_pos (by decide)]
 have hh1:A.in1.handled = none:=hh
 refine wpAny_bind (getAttrQ_miss ho (am_miss_of_fast (by decide +kernel)) (by decide +kernel) hh1 (fun h1 tk1 k1=>?_) (by decide +kernel))
 refine wpAny_ite_true rfl ?_
 have hD1:h1.DictOf (mixKind X.prog X.w) a vs:=let ⟨o,es,ep,ho,r⟩:=dd; ⟨o,es,ep,k1 _ _ ho,r⟩
 have hp1:=k1 _ _ ho
 have hps1:p ≠ h1.objs.size:=Nat.ne_of_lt (Heap.lt_size hp1)
 have has1:a ≠ h1.objs.size:=let ⟨_,_,_,ho,_⟩:=hD1; Nat.ne_of_lt (Heap.lt_size ho)
 refine wpAny_bind (wpAny_rule (wpAny_bind (wpAny_pyIter_list (l:=p) (items:=its.toArray) ⟨_,hp1,rfl,nn,rfl⟩ (wpAny_pure ⟨plainId_quiet dl_plain _,?_⟩))))
 refine dict_loop (A:=A) (knd:=mixKind X.prog X.w) ((Walks.list (A:=A.in1) hh1 h1.objs.size p hps1 its.toArray).toS) a ?_ h1 more (lm.trans li.symm) (fun i v hv=>?_) _ 0 _ vs _ rfl (Nat.zero_le _) ⟨⟨_,Heap.get?_push_size _ rfl,rfl,rfl⟩,⟨_,Heap.get?_push_of_some _ hp1,rfl,nn,rfl⟩⟩ (fun b o _ e=>Heap.get?_push_of_some _ e) (let ⟨o,es,ep,ho,r⟩:=hD1; ⟨o,es,ep,Heap.get?_push_of_some _ ho,r⟩) ?_ fun s' hmv hS'=>?_
 ·simp only [List.mem_cons,List.not_mem_nil,or_false,not_or]
  exact ⟨has1,pa.symm⟩
 ·have hv:its.toArray[i]? = some v:=hv
  rw [List.getElem?_toArray,ei,List.map_map,List.getElem?_map] at hv
  obtain ⟨z,hz',rfl⟩:=Option.map_eq_some_iff.mp hv
  obtain ⟨o,key,u,m,e1,e2,e3,e4,e5⟩:=hm i z hz'
  have za:z.1 ≠ a:=ne_of (ht z (List.mem_of_getElem? hz')) ea (by intro z; cases z)
  refine ⟨z.1,o,z.2.1,key,u,m,rfl,?_,k1 _ _ e1,e2,e3,e4,e5⟩
  simp only [List.mem_cons,List.not_mem_nil,or_false,not_or]
  exact ⟨za,Nat.ne_of_lt (Heap.lt_size (k1 _ _ e1))⟩
 ·rw [li,lv]; omega
 ·obtain ⟨h',g',d',tk',os'⟩:=s'
  have eg:g' = s.gens:=hmv.gens
  have ed:d' = s.drawn:=hmv.drawn
  have eo:os' = s.os:=hmv.os
  subst eg; subst ed; subst eo
  have he:∃ q,h'.get? a = some q:=let ⟨q,_,_,hq,_⟩:=hS'; ⟨q,hq⟩
  have hlen:(mrgK kvs (ps.map fun q=>q.2)).length<=sizeLine:=by
   have:=mrgK_length kvs (ps.map fun q=>q.2)
   rw [List.length_map] at this
   omega
  refine h _ (I.write (x:=a) (e:=a) (by rw [ea]; exact True.intro) (.inl rfl) (fun b q hb z=>?_) he (dk_new hlen hd (rel.mrg rm) hS'))
  refine hmv.heap b q ?_ (Heap.get?_push_of_some _ (k1 b q z))
  simp only [List.mem_cons,List.not_mem_nil,or_false,not_or]
  exact ⟨hb,Nat.ne_of_lt (Heap.lt_size (k1 b q z))⟩
noncomputable def tDUpdP (td ty:TE):TE:=fun σ H Q=>td σ H fun x H1=>∃ a,x = .ref a/\IsD H1 a/\ty σ H1 fun y H2=>∃ (p:Addr) (kvs:List (Key × V)) (ps:List (Addr × Key × V)),y = .ref p/\H2 a = some (.dK kvs)/\H2 p = some (.lst (ps.map fun q=>V.ref q.1))/\(∀ q ∈ ps,H2 q.1 = some (.tup [kV q.2.1,q.2.2]))/\kvs.length + ps.length<=sizeLine/\Q .non (upd H2 a (.dK (mrgK kvs (ps.map fun q=>q.2))))
theorem pe_dupdP {o e:Expr} {apos cpos:Pos} {td ty:TE} (ho:PE X o td) (he:PE X e ty) (m:M1 X o "update" apos e cpos) (hc:X.calm = true:=by rfl):PE X (.Call (.Attribute o "update" apos) [e] [] cpos) (tDUpdP td ty):=by
 intro pins s σ H Q I h
 refine wpAny_Call_method m.base m.few m.line PySem.F.plainAttrs_dict PySem.F.slot_dict_update PySem.F.type_dict_update (thn (ho pins s σ H _ I h) fun u s1 ⟨x,H1,I1,rx,a,ex,d,q1⟩=>?_)
 subst ex
 obtain rfl:u = Value.ref a:=rx
 obtain ⟨t1,t2,_⟩:=isD_at I1 d
 refine ⟨t1,t2,?_⟩
 rw [m.trees]
 refine Calls.callWith_builtin rfl (Calls.evalArgs_plain (Calls.spliced_cons (thn (he pins s1 σ H1 _ I1 q1) fun iv s2 ⟨y,H2,I2,ry,p,kvs,ps,ey,e1,e2,e3,hl,q2⟩=>Calls.spliced_nil ?_)))
 subst ey
 obtain rfl:iv = Value.ref p:=ry
 exact d_updP I2 (I2.ok.hd hc) e1 e2 e3 hl fun s3 I3=>⟨.non,_,I3,rfl,q2⟩
end
end L2
namespace L2
open PySem PySem.Spec PyProof.Rows
noncomputable def Itd (d:Addr) (o:Obj) (kvs:List (Key × V)):It :=
 ⟨fun i H=>H d = some (.frz o (.dK kvs))/\i < kvs.length,fun i H x H'=>H' = H/\∃ k v,kvs[i]? = some (k,v)/\x = kV k,fun i H=>H d = some (.frz o (.dK kvs))/\kvs.length<=i⟩
theorem KV.at {kvs:List (Key × V)} {vs:List (Key × Value)} (h:KV kvs vs):∀ {i:Nat} {k:Key} {v:V},kvs[i]? = some (k,v)->∃ u,vs[i]? = some (k,u):=by
 induction h with
 | nil=>intro i k v e; rw [List.getElem?_nil] at e; cases e
 | cons r _ ih =>
  intro i k v e
  cases i with
  | zero =>
   rw [List.getElem?_cons_zero] at e ⊢
   cases e
   obtain ⟨a,b⟩:=r
   exact ⟨_,by rw [show k = _ from a]⟩
  | succ i=>exact ih e
theorem rel_key {k:Key} {u:Value} (h:keyIs k u = true):RelV (kV k) u:=by
 cases k with
 | inl i=>obtain ⟨t,rfl⟩:=Value.isInt_shape h; exact ⟨t,rfl⟩
 | inr x=>obtain ⟨t,rfl⟩:=Value.isStrOf_shape h; exact ⟨t,rfl⟩
section
variable {X:Cx} {tg:Expr}
theorem turn_dict {P:Program} {w:World} {K:PySem.W.Frag} {d it:Addr} {o:Obj} {kvs:List (Key × V)} {es:Array DictEntry} {ep:Nat} (hd:o.data = .dict es ep):Turn P w K tg (Itd d o kvs) [it] it (fun i h=>h.IsKeyIter it d i kvs.length ep) where
 mem:=by simp
 obj:=fun i h st b hb=>by
  have e:b = it:=by simpa using hb
  subst e
  obtain ⟨o,e,c,d⟩:=st
  exact ⟨o,e,fun v z=>by rw [d] at z; cases z⟩
 keep:=fun i h h' st k=>by
  obtain ⟨o,e,r⟩:=st
  exact ⟨o,k it (by simp) o e,r⟩
 item:=by
  intro X hP hw hK hc i pins s σ H E I hf st hg
  subst hP hw hK
  obtain ⟨hq,hi⟩:=hg
  obtain ⟨f0,f1,f2,f3,f4,f5⟩:=hf it (by simp)
  obtain ⟨ho,hz,hS,vs,r,ob,es',ep',e1,c1,d1,m1⟩:=(show ObjOk X.prog X.w H s.heap d (.frz o (.dK kvs)) from I.hok d _ hq)
  rw [ho] at e1
  cases e1
  rw [hd] at d1
  cases d1
  have hx:kvs[i]? = some (kvs[i].1,kvs[i].2):=List.getElem?_eq_getElem hi
  obtain ⟨u,hu⟩:=r.at hx
  have hl:kvs.length = vs.length:=r.length
  rw [hl] at st
  refine wpAny_pyNext_dict_item (knd:=mixKind X.prog X.w) st ⟨o,es,ho,c1,hd,m1⟩ hu fun key h' hkey st' sb=>?_
  have I1:Inv X pins σ H { s with heap:=h' }:=I.turned (t':=s.toks) (fun b o hb e=>(sb.2 b hb).trans e) f0 f1 f3 f4 f5
  obtain ⟨oi,ei,ci,di⟩:=id st'
  rw [<-hl] at st'
  exact ⟨key,rfl,go_of (s:={ s with heap:=h' }) ei ci di (by decide) ⟨kV kvs[i].1,H,I1,rel_key hkey,⟨rfl,_,_,hx,rfl⟩,st',fun b hb=>(hf b hb).1⟩⟩
 done:=by
  intro X hP hw hK hc i pins s σ H E I hf st hg
  subst hP hw hK
  obtain ⟨hq,hi⟩:=hg
  obtain ⟨f0,f1,f2,f3,f4,f5⟩:=hf it (by simp)
  obtain ⟨ho,hz,hS,vs,r,ob,es',ep',e1,c1,d1,m1⟩:=(show ObjOk X.prog X.w H s.heap d (.frz o (.dK kvs)) from I.hok d _ hq)
  rw [ho] at e1
  cases e1
  rw [hd] at d1
  cases d1
  have hl:kvs.length = vs.length:=r.length
  rw [hl] at st hi
  exact wpAny_pyNext_dict_end (knd:=mixKind X.prog X.w) (I.ok.hd hc) st ⟨o,es,ho,c1,hd,m1⟩ (List.getElem?_eq_none hi) fun h' eb=>⟨rfl,I.turned (t':=s.toks) (fun b o hb e=>eb b o hb e) f0 f1 f3 f4 f5⟩
 self:=fun _ _ _ _ _ st h=>wpAny_pyIter_keyiter st h
noncomputable def iDic (tl:TE):TI:=fun σ H R=>tl σ H fun x H1=>∃ d kvs,x = .ref d/\H1 d = some (.dK kvs)/\∀ o,R (Itd d o kvs) (upd H1 d (.frz o (.dK kvs)))
theorem pi_dic {l:Expr} {tl:TE} (hl:PE X l tl):PI X tg l (iDic tl):=by
 intro pins s σ H R I h
 refine thn (hl pins s σ H _ I h) fun v s1 ⟨x,H1,I1,r1,q1⟩=>?_
 obtain ⟨d,kvs,e,hq,q⟩:=q1
 subst e
 cases r1
 obtain ⟨hz,hS,vs,r,o,es,ep,ho,c1,d1,m1⟩:=(show ObjOk X.prog X.w H1 s1.heap d (.dK kvs) from I1.hok d _ hq)
 have I2:Inv X pins σ (upd H1 d (.frz o (.dK kvs))) { s1 with heap:=s1.heap,toks:=s1.toks }:=I1.write (t':=s1.toks) (by rw [hq]; trivial) (.inl rfl) (fun b u _ e=>e) ⟨_,ho⟩ ⟨ho,hz,hS,vs,r,o,es,ep,ho,c1,d1,m1⟩
 have hl:kvs.length = vs.length:=r.length
 refine wpAny_pyIter_dict (knd:=mixKind X.prog X.w) (ep:=ep) hS ⟨o,es,ho,c1,d1,m1⟩ ?_
 refine ⟨s1.heap.objs.size,[s1.heap.objs.size],_,_,upd H1 d (.frz o (.dK kvs)),rfl,I2.kept (t':=s1.toks) fun b o e=>Heap.get?_push_of_some _ e,turn_dict d1,?_,fun b hb=>?_,q o⟩
 ·rw [hl]
  exact ⟨_,Heap.get?_push_size _ rfl,rfl,rfl⟩
 have e:b = s1.heap.objs.size:=by simpa using hb
 subst e
 exact I2.fpOk (Nat.le_refl _) (I2.hok.fresh (Nat.le_refl _))
end
end L2
namespace L2
open PySem PySem.Spec PyProof.Rows
section
variable {X:Cx} (K:PySem.W.Frag)
theorem slT (hK:X.K = K:=by rfl):SlR X (rSlT K):=by subst hK; exact sl_tup
end
end L2
namespace L2
open PySem PySem.Spec PyProof.Rows
section
variable {prog:Program} {w:World} {A:Around} {E:Value->Shared->Prop} {s:Shared}
theorem cat_tup0 {t b:Addr} {vs ws:List Value} {Q:Value->Shared->Prop} (ht:IsTup s.heap t vs.toArray) (hb:IsTup s.heap b ws.toArray) (hv:vs = []) (h:Q (.ref b) s):wpAny (model prog w) A (binaryOp .Add (.ref t) (.ref b)) Q E s:=by
 obtain ⟨⟨cls,dd,data,sl⟩,ho,hc,n,hd⟩:=id ht
 obtain ⟨⟨cls2,dd2,data2,sl2⟩,ho2,hc2,n2,hd2⟩:=id hb
 simp only at hc hd hc2 hd2
 subst hc hd hc2 hd2
 exact concat_meets ⟨_,ho,rfl⟩ ⟨_,ho2,rfl⟩ noFill_tuple_add seq_tuple_add PySem.F.slot_tuple_add PySem.F.entry_tuple_add (PySem.F.args_tuple_add_2 _ _)
  (tuple_addW0 t b vs.toArray ws.toArray n n2 dd dd2 sl sl2 (by simp [hv])) ⟨ho,ho2,h⟩
end
section
variable {X:Cx} (K:PySem.W.Frag)
noncomputable def rCatU:R2:=fun x y H Q=>∃ a b xs ys,x = .ref a/\y = .ref b/\SqT K H a xs/\SqT K H b ys/\ys ≠ []/\xs.length + ys.length<=sizeLine /\
 (xs = []->Q (.ref b) H)/\(xs ≠ []->∀ p,H p = none->Q (.ref p) (upd H p (.tup (xs ++ ys))))
theorem op_catU (hK:X.K = K:=by rfl):OpR X (binaryOp .Add) (rCatU K):=by
 subst hK
 intro pins s σ H x y v u Q I rx ry h
 obtain ⟨a,b,xs,ys,ea,eb,ha,hb,hy,hz,q1,q2⟩:=h
 by_cases hx:xs = []
 ·subst ea eb hx
  cases rx
  cases ry
  obtain ⟨its,r1,p1,_⟩:=I.tuple ha
  obtain ⟨its2,r2,p2,_⟩:=I.tuple hb
  exact cat_tup0 p1 p2 (r1.nil_iff.mpr rfl) ⟨.ref b,H,I,rfl,q1 rfl⟩
 ·exact op_catT _ _ _ _ _ _ _ _ _ I rx ry ⟨a,b,xs,ys,ea,eb,ha,hb,hx,hz,fun z=>absurd z hy,fun _=>q2 hx⟩
end
end L2
namespace Sw
open PySem L2
noncomputable def top (i:Nat):Stmt:=PySem.Challenge.pw_strikeweave_k20_rows_that_show_nothing.main.body.getD i (.Pass ⟨0,0,0,0⟩)
noncomputable abbrev s_is_number:Stmt:=top 2
noncomputable abbrev s_is_listed:Stmt:=top 3
noncomputable abbrev s_is_row_of:Stmt:=top 4
noncomputable abbrev s_shows_least:Stmt:=top 6
noncomputable abbrev s_are_rows:Stmt:=top 7
noncomputable abbrev s_is_row:Stmt:=top 8
noncomputable abbrev s_is_grounded:Stmt:=top 9
noncomputable abbrev s_is_name:Stmt:=top 19
noncomputable abbrev s_check_names:Stmt:=top 20
noncomputable abbrev s_check_strikes:Stmt:=top 21
noncomputable abbrev s_is_strike:Stmt:=top 22
noncomputable abbrev s_law_mix:Stmt:=top 24
noncomputable abbrev s_law_left:Stmt:=top 25
noncomputable abbrev s_law_pick:Stmt:=top 26
noncomputable abbrev s_law_size:Stmt:=top 27
noncomputable abbrev s_law_strikes:Stmt:=top 28
noncomputable abbrev s_law_many_names:Stmt:=top 29
noncomputable abbrev s_law_strikers:Stmt:=top 30
noncomputable abbrev s_law_rounds:Stmt:=top 31
noncomputable abbrev s_law_all_out:Stmt:=top 32
noncomputable abbrev s_law_has_in:Stmt:=top 33
noncomputable abbrev s_law_is_row:Stmt:=top 34
noncomputable abbrev s_law_good:Stmt:=top 35
noncomputable abbrev s_law_says:Stmt:=top 36
noncomputable abbrev s_law_other_part:Stmt:=top 37
noncomputable abbrev s_law_bent:Stmt:=top 38
noncomputable abbrev s_law_ring_false:Stmt:=top 39
noncomputable abbrev s_law:Stmt:=top 40
noncomputable abbrev s_Web___init__:Stmt:=inClass (top 18) 0
noncomputable abbrev s_Web_all_names:Stmt:=inClass (top 18) 1
noncomputable abbrev s_Web_all_strikes:Stmt:=inClass (top 18) 2
noncomputable abbrev s_Web_strikers:Stmt:=inClass (top 18) 3
noncomputable abbrev s_Web_struck:Stmt:=inClass (top 18) 4
noncomputable abbrev s_Web_check_has:Stmt:=inClass (top 18) 5
structure Tx (K:PySem.W.Frag) (mg:Str->Option Value) where
 is_number:Fn K mg "is_number" s_is_number ["thing"]
 is_listed:Fn K mg "is_listed" s_is_listed ["thing"]
 is_row_of:Fn K mg "is_row_of" s_is_row_of ["thing", "many"]
 shows_least:Fn K mg "shows_least" s_shows_least ["web", "rows"]
 are_rows:Fn K mg "are_rows" s_are_rows ["web", "rows"]
 is_row:Fn K mg "is_row" s_is_row ["names", "row"]
 is_grounded:Fn K mg "is_grounded" s_is_grounded ["web", "words", "numbers", "name"]
 is_name:Fn K mg "is_name" s_is_name ["thing"]
 check_names:Fn K mg "check_names" s_check_names ["names"]
 check_strikes:Fn K mg "check_strikes" s_check_strikes ["names", "strikes"]
 is_strike:Fn K mg "is_strike" s_is_strike ["names", "thing"]
 law_mix:Fn K mg "_law_mix" s_law_mix ["_law_cell", "_law_k"]
 law_left:Fn K mg "_law_left" s_law_left ["_law_script", "_law_k"]
 law_pick:Fn K mg "_law_pick" s_law_pick ["_law_left_here", "_law_many"]
 law_size:Fn K mg "_law_size" s_law_size ["_law_left_here"]
 law_strikes:Fn K mg "_law_strikes" s_law_strikes ["_law_left_here", "_law_names"]
 law_many_names:Fn K mg "_law_many_names" s_law_many_names ["_law_left_here", "_law_many"]
 law_strikers:Fn K mg "_law_strikers" s_law_strikers ["_law_names", "_law_strikes_here"]
 law_rounds:Fn K mg "_law_rounds" s_law_rounds ["_law_names", "_law_strikes_here"]
 law_all_out:Fn K mg "_law_all_out" s_law_all_out ["_law_some", "_law_words"]
 law_has_in:Fn K mg "_law_has_in" s_law_has_in ["_law_some", "_law_words"]
 law_is_row:Fn K mg "_law_is_row" s_law_is_row ["_law_row"]
 law_good:Fn K mg "_law_good" s_law_good ["_law_names", "_law_strikes_here", "_law_rows"]
 law_says:Fn K mg "_law_says" s_law_says ["_law_found", "_law_due"]
 law_other_part:Fn K mg "_law_other_part" s_law_other_part ["_law_left_here", "_law_row", "_law_rows"]
 law_bent:Fn K mg "_law_bent" s_law_bent ["_law_left_here", "_law_rows"]
 law_ring_false:Fn K mg "_law_ring_false" s_law_ring_false ["_law_left_here"]
 CWeb:Addr
 clWeb:Cls K CWeb
 mgWeb:mg "Web" = some (.ref CWeb)
 nWeb_names:NoAttr K CWeb "names"
 nWeb_strikes:NoAttr K CWeb "strikes"
 nWeb_strikers_by_name:NoAttr K CWeb "strikers_by_name"
 nWeb_struck_by_name:NoAttr K CWeb "struck_by_name"
 fWeb___init__:Addr
 fdWeb___init__:FuncData
 FWeb___init__:Fun K "__init__" "Web.__init__" s_Web___init__ fWeb___init__ fdWeb___init__
 bWeb___init__:Binds K fdWeb___init__ ["self", "names", "strikes"] []
 mkWeb:Mk K CWeb fWeb___init__
 mWeb_all_names:Mt K CWeb "all_names" "Web.all_names" s_Web_all_names ["self"]
 mWeb_all_strikes:Mt K CWeb "all_strikes" "Web.all_strikes" s_Web_all_strikes ["self"]
 mWeb_strikers:Mt K CWeb "strikers" "Web.strikers" s_Web_strikers ["self", "name"]
 mWeb_struck:Mt K CWeb "struck" "Web.struck" s_Web_struck ["self", "name"]
 mWeb_check_has:Mt K CWeb "check_has" "Web.check_has" s_Web_check_has ["self", "name"]
 gLETTERS:∃ t,mg "LETTERS" = some (.str "abcdefghijklmnopqrstuvwxyz" t)
 gLONGEST_NAME:∃ t,mg "LONGEST_NAME" = some (.int 8 t)
 b_len:mg "len" = none
 b_range:mg "range" = none
 b_enumerate:mg "enumerate" = none
 b_min:mg "min" = none
 b_abs:mg "abs" = none
 b_sorted:mg "sorted" = none
 b_int:mg "int" = none
 b_str:mg "str" = none
 b_bool:mg "bool" = none
 b_list:mg "list" = none
 b_tuple:mg "tuple" = none
 b_dict:mg "dict" = none
 b_set:mg "set" = none
 b_isinstance:mg "isinstance" = none
 b_all:mg "all" = none
 b_any:mg "any" = none
end Sw
namespace L2
open PySem
theorem for_asG {J:It} {xs:List V} {a:Addr} {H0:Hp} (as:AsSeq J xs a H0) {g:TG} {tb:TS} {D:Ends} {σ:St} {H:Hp} (Pv:Nat->St->Hp->Prop) (h0:Pv 0 σ H) (hk:∀ i σ H,i<=xs.length->Pv i σ H->KeepAt a H0 H)
  (hs:∀ i σ H x,xs[i]? = some x->Pv i σ H->∀ D':Ends,(∀ σ' H',Pv (i + 1) σ' H'->D'.nx σ' H')->D'.rt = D.rt->g x σ H fun σ2 H2=>tb D' σ2 H2) (hd:∀ σ H,Pv xs.length σ H->D.nx σ H) :
  ∃ W:Nat->Nat->St->Hp->Prop,(∃ m,W 0 m σ H)/\∀ i m σ H,W i m σ H ->
   (J.stop i H/\D.nx σ H)\/(J.go i H/\∃ N:St->Hp->Prop,(∀ σ' H',N σ' H'->∃ m',m' < m/\W (i + 1) m' σ' H')/\∀ x H',J.yld i H x H'->g x σ H' fun σ2 H2=>tb { D with nx:=N,ct:=N,bk:=D.nx } σ2 H2) :=
 for_as as Pv h0 hk (fun i σ H x hx hp=>hs i σ H x hx hp _ (fun _ _ z=>z) rfl) hd
theorem for_rangeG {lo:Int} {n:Nat} {g:TG} {tb:TS} {D:Ends} {σ:St} {H:Hp} (Pv:Nat->St->Hp->Prop) (h0:Pv 0 σ H)
  (hs:∀ i σ H,i < n->Pv i σ H->∀ D':Ends,(∀ σ' H',Pv (i + 1) σ' H'->D'.nx σ' H')->D'.rt = D.rt->g (.int (lo + i)) σ H fun σ2 H2=>tb D' σ2 H2) (hd:∀ σ H,Pv n σ H->D.nx σ H) :
  ∃ W:Nat->Nat->St->Hp->Prop,(∃ m,W 0 m σ H)/\∀ i m σ H,W i m σ H ->
   ((Itr lo n).stop i H/\D.nx σ H)\/((Itr lo n).go i H/\∃ N:St->Hp->Prop,(∀ σ' H',N σ' H'->∃ m',m' < m/\W (i + 1) m' σ' H')/\∀ x H',(Itr lo n).yld i H x H'->g x σ H' fun σ2 H2=>tb { D with nx:=N,ct:=N,bk:=D.nx } σ2 H2) :=
 for_range Pv h0 (fun i σ H hi hp=>hs i σ H hi hp _ (fun _ _ z=>z) rfl) hd
theorem ex1 {α:Type} {A C:α->Prop} {a:α} (e:A a) (h:C a):∃ v,A v/\C v:=⟨a,e,h⟩
theorem ex3_6 {α0 α1 α2:Type} {A0 A1 A2 A3 A4 A5:α0->α1->α2->Prop} {a:α0} {b:α1} {c:α2} (h0:A0 a b c) (h1:A1 a b c) (h2:A2 a b c) (h3:A3 a b c) (h4:A4 a b c) (h5:A5 a b c):∃ a b c,A0 a b c/\A1 a b c/\A2 a b c/\A3 a b c/\A4 a b c/\A5 a b c:=⟨a,b,c,h0,h1,h2,h3,h4,h5⟩
theorem ex6_8 {α0 α1 α2 α3 α4 α5:Type} {A0 A1 A2 A3 A4 A5 A6 A7:α0->α1->α2->α3->α4->α5->Prop} {a:α0} {b:α1} {c:α2} {d:α3} {e:α4} {f:α5} (h0:A0 a b c d e f) (h1:A1 a b c d e f) (h2:A2 a b c d e f) (h3:A3 a b c d e f) (h4:A4 a b c d e f) (h5:A5 a b c d e f) (h6:A6 a b c d e f) (h7:A7 a b c d e f):∃ a b c d e f,A0 a b c d e f/\A1 a b c d e f/\A2 a b c d e f/\A3 a b c d e f/\A4 a b c d e f/\A5 a b c d e f/\A6 a b c d e f/\A7 a b c d e f:=⟨a,b,c,d,e,f,h0,h1,h2,h3,h4,h5,h6,h7⟩
theorem ex2_3 {α0 α1:Type} {A0 A1 A2:α0->α1->Prop} {a:α0} {b:α1} (h0:A0 a b) (h1:A1 a b) (h2:A2 a b):∃ a b,A0 a b/\A1 a b/\A2 a b:=⟨a,b,h0,h1,h2⟩
theorem seq_gen {t u:TS} {D:Ends} {σ:St} {H:Hp} (h:∀ N:St->Hp->Prop,(∀ σ' H',u D σ' H'->N σ' H')->t { D with nx:=N } σ H):tSeq t u D σ H:=h _ fun _ _ z=>z
theorem g_seq {i:Nat} {v:V} {t u:TS} {D:Ends} {σ:St} {H:Hp} (h:∀ N:St->Hp->Prop,(∀ σ' H',u D σ' H'->N σ' H')->t { D with nx:=N } (σ.set i (some v)) H):gName i v σ H (fun σ2 H2=>tSeq t u D σ2 H2):=h _ fun _ _ z=>z
end L2
namespace Sw
open PySem L2
section
variable {P:Program} {w:World} {K:PySem.W.Frag} {mg:Str->Option Value} {base:Heap}
noncomputable def letB (c:Nat):Bool:=decide (97<=c) && decide (c<=122)
noncomputable def nameB (x:Str):Bool:=decide (1<=x.length) && decide (x.length<=8) && x.cps.toList.all letB
theorem letters_are:("abcdefghijklmnopqrstuvwxyz":Str).cps.toList = List.range' 97 26:=by decide +kernel
theorem let_iff (c:Nat):decide (c ∈ ("abcdefghijklmnopqrstuvwxyz":Str).cps.toList) = letB c:=by
 rw [letters_are]
 unfold letB
 by_cases h1:97<=c
 ·by_cases h2:c<=122
  ·rw [decide_eq_true (List.mem_range'_1.mpr (by omega)),decide_eq_true h1,decide_eq_true h2]; rfl
  ·rw [decide_eq_false (fun z=>by have:=List.mem_range'_1.mp z; omega),decide_eq_false h2,Bool.and_false]
 ·rw [decide_eq_false (fun z=>by have:=List.mem_range'_1.mp z; omega),decide_eq_false h1,Bool.false_and]
theorem sc_is_name:FnScope ["thing"] ["thing"] (defScope s_is_name):=⟨rfl,rfl,rfl,by decide +kernel,rfl,by decide +kernel,by decide +kernel⟩
noncomputable def sp_is_name:Sp:=fun vs H Q _=>∃ x,vs = [.str x]/\x.length<=1000/\∀ H',Same H H'->Q (.bl (nameB x)) H'
theorem ok_is_name (T:Tx K mg):FnOk P w K mg base CX0 1 T.is_name.f T.is_name.fd ["thing"] sp_is_name:=by
 refine T.is_name.F.ok sc_is_name (fun vs H Q E h=>?_) (fun cdv A outer s H vs Q E hr h=>?_)
 ·obtain ⟨x,rfl,_⟩:=h
  rfl
 ·obtain ⟨x,rfl,hx,k⟩:=h
  refine ⟨_,(pss_cons (ps_if (PW.pt (pw_or (pt_not (pt_val (pe_bf (cl_isin K) T.b_isinstance bt_isinstance (pa_cons (pv 0) (pa_cons (pe_ty T.b_str bt_str) pa_nil))))) (pw_or1 (pt_not (pt_chain op_le op_le pe_int (pe_bf call_len_str T.b_len bt_len (pa_cons (pv 0) pa_nil)) (pe_gi T.gLONGEST_NAME)))))) (pss_one (ps_ret pe_bl)) pss_nil)
   (pss_one (ps_ret (pe_bf (cl_all K) T.b_all bt_all (pa_cons (pe_lc (N':=["letter"]) (cap:=[none]) (cl:=[]) (cs_mk trivial trivial) rfl (pi_str (pv 0)) (fun _ _ _ _=>by exact ⟨(pgC 0),pts_nil,(pe_cmpR op_in_str (pv 0) (pe_gs T.gLETTERS) rfl)⟩)) pa_nil))))),?_⟩
  have h64:x.length<=sizeLine:=by rw [sizeLine_eq]; omega
  have hlen:x.cps.size = x.length:=rfl
  refine ex1 rfl ⟨.str x, "str",_,true,rfl,.str x,rfl,ex1 rfl ?_⟩
  refine iteF ?_
  refine ex1 rfl ⟨x,rfl,h64,ex2_3 rfl rfl (ex1 rfl ?_)⟩
  refine ite2 (fun c1=>?_) (fun c1=>?_)
  ·have c1:(1:Int)<=(x.length:Int):=of_decide_eq_true c1
   refine ex2_3 rfl rfl (ex1 rfl ?_)
   by_cases c2:(x.length:Int)<=8
   ·rw [decide_eq_true c2]
    refine iteF ?_
    refine ex1 rfl ⟨x,rfl,fun D hD=>?_⟩
    refine loop_J (n:=x.cps.size) (fun i σ H'=>(∃ v,σ = [v])/\Same H H'/\H' D = some (.lst ((x.cps.toList.take i).map fun c=>V.bl (letB c)))) ⟨⟨_,rfl⟩,Same.new hD,upd_same⟩ (fun i _ _ hi _=>hi) (fun _ _ _=>rfl) ?_ ?_
    ·rintro i σ H1 v H' N hi ⟨⟨v0,rfl⟩,s1,e1⟩ ⟨rfl,c,hc,rfl⟩ hN
     refine g_true ?_
     refine ex1 rfl (ex2_3 rfl rfl ⟨_,e1,?_,?_⟩)
     ·rw [List.length_map,List.length_take,sizeLine_eq]; omega
     ·rw [PySem.StrLaws.found_one,let_iff]
      refine hN _ _ ⟨⟨_,rfl⟩,s1.upd hD,?_⟩
      rw [upd_same]
      have:x.cps.toList[i]? = some c:=by rw [Array.getElem?_toList]; exact hc
      rw [List.take_add_one,this,List.map_append]
      rfl
    ·rintro σ H1 ⟨_,s1,e1⟩
     refine ⟨D,x.cps.toList.map letB,rfl,SqL.of ?_,?_⟩
     ·rw [e1,<-Array.length_toList,List.take_length,List.map_map]; rfl
     ·have e:(x.cps.toList.map letB).all id = nameB x:=by
       unfold nameB
       rw [decide_eq_true (show 1<=x.length by omega),decide_eq_true (show x.length<=8 by omega),List.all_map]
       rfl
      rw [e]
      exact k _ s1
   ·rw [decide_eq_false c2]
    refine iteT ?_
    have e:nameB x = false:=by
     unfold nameB
     rw [decide_eq_false (show ¬ x.length<=8 by omega),Bool.and_false,Bool.false_and]
    have:=k H (Same.refl H)
    rw [e] at this
    exact this
  ·have c1:¬ (1:Int)<=(x.length:Int):=fun z=>c1 (decide_eq_true z)
   refine ex1 rfl ?_
   refine iteT ?_
   have e:nameB x = false:=by
    unfold nameB
    rw [decide_eq_false (show ¬ 1<=x.length by omega),Bool.false_and,Bool.false_and]
   have:=k H (Same.refl H)
   rw [e] at this
   exact this
end
end Sw
namespace Sw
open PySem L2
section
variable {P:Program} {w:World} {K:PySem.W.Frag} {mg:Str->Option Value} {base:Heap}
theorem take_succ {α:Type} {l:List α} {i:Nat} {x:α} (h:l[i]? = some x):l.take (i + 1) = l.take i ++ [x]:=by
 rw [List.take_add_one,h]; rfl
theorem nodup_take {α:Type} {l:List α} {i:Nat} {x:α} (nd:l.Nodup) (h:l[i]? = some x):x ∉ l.take i:=by
 intro hm
 obtain ⟨j,hj,e⟩:=List.getElem_of_mem hm
 have hj':j < i:=by rw [List.length_take] at hj; omega
 rw [List.getElem_take] at e
 obtain ⟨hi,e'⟩:=List.getElem?_eq_some_iff.mp h
 have:=(List.getElem_inj nd).mp (e.trans e'.symm)
 omega
theorem sc_check_names:FnScope ["names", "seen", "place", "name"] ["names"] (defScope s_check_names):=⟨rfl,rfl,rfl,by decide +kernel,rfl,by decide +kernel,by decide +kernel⟩
noncomputable def NamesOk (ss:List Str):Prop:=(∀ x ∈ ss,nameB x = true)/\ss.Nodup/\ss.length<=100
noncomputable def sp_check_names (K:PySem.W.Frag):Sp:=fun vs H Q _=>∃ (p:Addr) (ss:List Str),vs = [.ref p]/\Sqs K H p (ss.map V.str)/\NamesOk ss/\∀ H',Same H H'->Q .non H'
theorem nameB_len {x:Str} (h:nameB x = true):1<=x.length/\x.length<=8:=by
 unfold nameB at h
 rw [Bool.and_eq_true,Bool.and_eq_true] at h
 exact ⟨of_decide_eq_true h.1.1,of_decide_eq_true h.1.2⟩
theorem ok_check_names (T:Tx K mg):FnOk P w K mg base CX0 2 T.check_names.f T.check_names.fd ["names"] (sp_check_names K):=by
 have G_is_name:FnOk P w K mg base CX0 1 T.is_name.f T.is_name.fd ["thing"] sp_is_name:=ok_is_name T
 have sc:=sc_check_names
 refine T.check_names.F.ok sc_check_names (fun vs H Q E h=>?_) (fun cdv A outer s H vs Q E hr h=>?_)
 ·obtain ⟨p,ss,rfl,_⟩:=h
  rfl
 ·obtain ⟨a,ss,rfl,hS,⟨hN,hD,hL⟩,k⟩:=h
  have hu:=hu_of hr
  refine ⟨_,(pss_cons (ps_set (i:=1) sc.nd rfl (by first | exact Or.inl rfl | exact Or.inr rfl) (pe_callTy0 (cl_set0 P w) (by rfl) T.b_set bt_set))
   (pss_one (ps_for PassesOwn.never rfl (piE2 K T.b_enumerate (pa_cons (pv 0) pa_nil)) (pgT K (n:=2) (pgs_cons (pg_name (i:=2) sc.nd rfl (by first | exact Or.inl rfl | exact Or.inr rfl)) (pgs_cons (pg_name (i:=3) sc.nd rfl (by first | exact Or.inl rfl | exact Or.inr rfl)) pgs_nil)))
   (pss_cons (ps_if (PW.pt (pw_or (pt_not (pt_val (pe_fn T.is_name G_is_name (hr.mono (by decide)) (pa_cons (pv 3) pa_nil)))) (pw_or1 (pt_cmpR (o_inS P w) (pv 3) (pv 1) rfl)))) (pss_one ps_never) pss_nil)
   (pss_one (ps_expr (peSadd P w (m_addS P w) (pv 1) (pa_cons (pv 3) pa_nil)))))))),?_⟩
  refine ⟨rfl,fun p hp=>?_⟩
  have s0:Same H (upd H p (SetS P w p [])):=Same.new hp
  refine ex1 rfl ⟨a,ex1 rfl (enum_sqs hS (s0.at a) fun sq hk=>for_J (n:=ss.length) (fun i σ H1=>∃ v2 v3,σ = [some (.ref a),some (.ref p),v2,v3]/\Same H H1/\H1 p = some (SetS P w p ((ss.take i).map Sum.inr))) ⟨_,_,rfl,s0,upd_same⟩ ?_ ?_ ?_ ?_)⟩
  ·rintro i σ H1 hi ⟨v2,v3,rfl,s1,e1⟩
   exact ⟨_,_,hk _ (s1.at a),by rw [List.getElem?_map,List.getElem?_eq_getElem hi]; rfl⟩
  ·rintro σ H1 ⟨v2,v3,rfl,s1,e1⟩
   exact ⟨_,hk _ (s1.at a),by rw [List.length_map]⟩
  ·rintro i σ H1 v H' hi ⟨v2,v3,rfl,s1,e1⟩ ⟨t,x,rfl,ht,rfl,hx⟩
   have hx:=hx _ (hk _ (s1.at a))
   have hi':ss[i]? = some ss[i]:=List.getElem?_eq_getElem hi
   rw [List.getElem?_map,hi'] at hx
   cases hx
   have hm:ss[i] ∈ ss:=List.getElem_mem hi
   have hnb:=hN _ hm
   have hlen:=nameB_len hnb
   have npt:p ≠ t:=ne_of_none e1 ht
   refine ⟨t,ex1 rfl ⟨SqT.of upd_same,rfl,_,ex1 rfl (ex2_3 rfl rfl ?_)⟩⟩
   refine ex1 rfl ⟨ss[i],rfl,by omega,fun H2 s2=>⟨_,rfl,?_⟩⟩
   rw [hnb]
   refine iteF ?_
   have s12:Same H H2:=(s1.trans (Same.new ht)).trans s2
   have e2:H2 p = some (SetS P w p ((ss.take i).map Sum.inr)):=s2 _ _ (by rw [upd_ne npt]; exact e1)
   have hnin:¬ (Sum.inr ss[i]:Key) ∈ (ss.take i).map Sum.inr:=fun z=>by
    obtain ⟨y,hy,e⟩:=List.mem_map.mp z
    cases e
    exact nodup_take hD hi' hy
   refine ex1 rfl (ex1 rfl ⟨p,_,Sum.inr ss[i],rfl,rfl,e2,ex1 rfl ?_⟩)
   rw [if_neg (by decide),decide_eq_false hnin]
   refine iteF ?_
   refine ex1 rfl ⟨⟨p,rfl,.inl ⟨_,e2⟩⟩,ex1 rfl ⟨p,_,Sum.inr ss[i],rfl,rfl,e2,?_,?_⟩⟩
   ·rw [List.length_map,List.length_take]; omega
   ·refine ⟨_,ex1 rfl ⟨s12.upd hp,?_⟩⟩
    rw [upd_same]
    unfold addK
    rw [if_neg hnin,take_succ hi',List.map_append]
    rfl
  ·rintro σ H1 ⟨v2,v3,rfl,s1,e1⟩
   exact k H1 s1
end
end Sw
namespace Sw
open PySem L2
theorem flat_strs (ss:List Str):(ss.map V.str).all flatV = true:=by
 rw [List.all_eq_true]
 intro v hv
 obtain ⟨x,_,rfl⟩:=List.mem_map.mp hv
 rfl
theorem inV_str (x:Str) (ss:List Str):inV (.str x) (ss.map V.str) = decide (x ∈ ss):=by
 unfold inV
 rw [List.any_map]
 induction ss with
 | nil=>rfl
 | cons y r ih =>
  rw [List.any_cons,ih]
  show ((y == x) || decide (x ∈ r)) = decide (x ∈ y :: r)
  by_cases e:x = y
  ·subst e
   simp
  ·have:(y == x) = false:=by simpa using fun z=>e z.symm
   rw [this,Bool.false_or]
   by_cases h:x ∈ r
   ·rw [decide_eq_true h,decide_eq_true (List.mem_cons_of_mem _ h)]
   ·rw [decide_eq_false h,decide_eq_false (fun z=>(List.mem_cons.mp z).elim e h)]
theorem inL_str {K:PySem.W.Frag} {H:Hp} {p:Addr} {x:Str} {ss:List Str} {Q:VK} (h:Sqs K H p (ss.map V.str)) (q:Q (.bl (decide (x ∈ ss))) H):rIn K false (.str x) (.ref p) H Q :=
 ⟨p,_,rfl,h,rfl,flat_strs ss,by rw [if_neg (by decide),inV_str]; exact q⟩
theorem notInL_str {K:PySem.W.Frag} {H:Hp} {p:Addr} {x:Str} {ss:List Str} {Q:VK} (h:Sqs K H p (ss.map V.str)) (q:Q (.bl (!decide (x ∈ ss))) H):rIn K true (.str x) (.ref p) H Q :=
 ⟨p,_,rfl,h,rfl,flat_strs ss,by rw [if_pos rfl,inV_str]; exact q⟩
end Sw
namespace Sw
open PySem L2
section
variable {P:Program} {w:World} {K:PySem.W.Frag} {mg:Str->Option Value} {base:Heap}
theorem sc_is_strike:FnScope ["names", "thing"] ["names", "thing"] (defScope s_is_strike):=⟨rfl,rfl,rfl,by decide +kernel,rfl,by decide +kernel,by decide +kernel⟩
noncomputable def sp_is_strike (K:PySem.W.Frag):Sp:=fun vs H Q _=>∃ (p:Addr) (ss:List Str) (t:Addr) (x y:Str),vs = [.ref p,.ref t]/\Sqs K H p (ss.map V.str)/\H t = some (.tup [.str x,.str y])/\x ∈ ss/\y ∈ ss/\Q (.bl true) H
theorem ok_is_strike (T:Tx K mg):FnOk P w K mg base CX0 1 T.is_strike.f T.is_strike.fd ["names", "thing"] (sp_is_strike K):=by
 refine T.is_strike.F.ok sc_is_strike (fun vs H Q E h=>?_) (fun cdv A outer s H vs Q E hr h=>?_)
 ·obtain ⟨p,ss,t,x,y,rfl,_⟩:=h
  rfl
 ·obtain ⟨p,ss,t,x,y,rfl,hS,ht,hx,hy,k⟩:=h
  refine ⟨_,(pss_cons (ps_if (PW.pt (pw_or (pt_not (pt_val (pe_bf (cl_isin K) T.b_isinstance bt_isinstance (pa_cons (pv 1) (pa_cons (pe_ty T.b_tuple bt_tuple) pa_nil))))) (pw_or1 (pt_cmpR op_ne (pe_bf (cl_len K) T.b_len bt_len (pa_cons (pv 1) pa_nil)) pe_int (nomark _))))) (pss_one (ps_ret pe_bl)) pss_nil)
   (pss_one (ps_ret (pe_and (pe_cmpR (o_inL K) (pe_ix (ixT K) (pv 1) pe_int (fun _ _=>rfl)) (pv 0) rfl) (pe_one (pe_cmpR (o_inL K) (pe_ix (ixT K) (pv 1) pe_int (fun _ _=>rfl)) (pv 0) rfl)))))),?_⟩
  refine ex1 rfl ⟨_, "tuple",_,true,rfl,.tup ht,rfl,ex1 rfl ?_⟩
  refine iteF ?_
  refine ex1 rfl (ex2_3 (a:=t) rfl (.inr (SqT.of ht)) ⟨rfl,ex1 rfl ?_⟩)
  refine iteF ?_
  refine ex1 rfl ⟨t,_,ex2_3 rfl rfl ⟨SqT.of ht,rfl,ex1 rfl (inL_str hS ⟨_,rfl,?_⟩)⟩⟩
  rw [decide_eq_true hx]
  refine iteT ?_
  refine ex1 rfl ⟨t,_,ex2_3 rfl rfl ⟨SqT.of ht,rfl,ex1 rfl (inL_str hS ?_)⟩⟩
  rw [decide_eq_true hy]
  exact k
structure StrkOk (ss:List Str) (ps:List PA2):Prop where
 nm:∀ q ∈ ps,q.2.1 ∈ ss/\q.2.2 ∈ ss
 nd:(ps.map fun q=>q.2).Nodup
 len:ps.length<=200
noncomputable def refs (ps:List PA2):List V:=ps.map fun q=>V.ref q.1
noncomputable def pkeys (ps:List PA2):List (List Key × Addr):=ps.map fun q=>([.inr q.2.1,.inr q.2.2],q.1)
theorem pkeys_in {H:Hp} {ps:List PA2} (h:∀ q ∈ ps,PairIn H q):TupsIn H (pkeys ps):=fun k hk=>by
 obtain ⟨q,hq,rfl⟩:=List.mem_map.mp hk
 exact h q hq
theorem same_pairs {H H':Hp} {ps:List PA2} (s:Same H H') (h:∀ q ∈ ps,PairIn H q):∀ q ∈ ps,PairIn H' q:=fun q hq=>s _ _ (h q hq)
theorem sc_check_strikes:FnScope ["names", "strikes", "seen", "place", "strike"] ["names", "strikes"] (defScope s_check_strikes):=⟨rfl,rfl,rfl,by decide +kernel,rfl,by decide +kernel,by decide +kernel⟩
noncomputable def sp_check_strikes (K:PySem.W.Frag):Sp:=fun vs H Q _=>∃ (p:Addr) (ss:List Str) (a:Addr) (ps:List PA2),vs = [.ref p,.ref a]/\Sqs K H p (ss.map V.str)/\SqL K H a (refs ps)/\(∀ q ∈ ps,PairIn H q)/\StrkOk ss ps/\∀ H',Same H H'->Q .non H'
theorem ok_check_strikes (T:Tx K mg):FnOk P w K mg base CX0 2 T.check_strikes.f T.check_strikes.fd ["names", "strikes"] (sp_check_strikes K):=by
 have G_is_strike:FnOk P w K mg base CX0 1 T.is_strike.f T.is_strike.fd ["names", "thing"] (sp_is_strike K):=ok_is_strike T
 have sc:=sc_check_strikes
 refine T.check_strikes.F.ok sc_check_strikes (fun vs H Q E h=>?_) (fun cdv A outer s H vs Q E hr h=>?_)
 ·obtain ⟨p,ss,t,x,rfl,_⟩:=h
  rfl
 ·obtain ⟨n,ss,a,ps,rfl,hS,hP,hI,⟨hN,hD,hL⟩,k⟩:=h
  have hu:=hu_of hr
  refine ⟨_,(pss_cons (ps_set (i:=2) sc.nd rfl (by first | exact Or.inl rfl | exact Or.inr rfl) (pe_callTy0 (cl_set0T P w) (by rfl) T.b_set bt_set))
   (pss_one (ps_for PassesOwn.never rfl (piE2 K T.b_enumerate (pa_cons (pv 1) pa_nil)) (pgT K (n:=2) (pgs_cons (pg_name (i:=3) sc.nd rfl (by first | exact Or.inl rfl | exact Or.inr rfl)) (pgs_cons (pg_name (i:=4) sc.nd rfl (by first | exact Or.inl rfl | exact Or.inr rfl)) pgs_nil)))
   (pss_cons (ps_if (PW.pt (pw_or (pt_not (pt_val (pe_fn T.is_strike G_is_strike (hr.mono (by decide)) (pa_cons (pv 0) (pa_cons (pv 4) pa_nil))))) (pw_or1 (pt_cmpR (o_inT P w hu) (pv 4) (pv 2) rfl)))) (pss_one ps_never) pss_nil)
   (pss_one (ps_expr (peSadd P w (m_addT P w hu) (pv 2) (pa_cons (pv 4) pa_nil)))))))),?_⟩
  refine ⟨rfl,fun p hp=>?_⟩
  have s0:Same H (upd H p (SetT P w p [])):=Same.new hp
  refine ex1 rfl ⟨a,ex1 rfl (.inl ⟨(s0.at a).seqL hP,for_J (n:=ps.length) (fun i σ H1=>∃ v3 v4,σ = [some (.ref n),some (.ref a),some (.ref p),v3,v4]/\Same H H1/\H1 p = some (SetT P w p (pkeys (ps.take i)))) ⟨_,_,rfl,s0,upd_same⟩ ?_ ?_ ?_ ?_⟩)⟩
  ·rintro i σ H1 hi ⟨v2,v3,rfl,s1,e1⟩
   exact ⟨_,_,(s1.at a).seqL hP,by unfold refs; rw [List.getElem?_map,List.getElem?_eq_getElem hi]; rfl⟩
  ·rintro σ H1 ⟨v2,v3,rfl,s1,e1⟩
   exact ⟨_,(s1.at a).seqL hP,by unfold refs; rw [List.length_map]⟩
  ·rintro i σ H1 v H' hi ⟨v2,v3,rfl,s1,e1⟩ ⟨t,x,rfl,ht,rfl,hx⟩
   have hx:=hx _ ((s1.at a).seqL hP)
   have hi':ps[i]? = some ps[i]:=List.getElem?_eq_getElem hi
   unfold refs at hx
   rw [List.getElem?_map,hi'] at hx
   cases hx
   have hm:ps[i] ∈ ps:=List.getElem_mem hi
   obtain ⟨hn1,hn2⟩:=hN _ hm
   have npt:p ≠ t:=ne_of_none e1 ht
   have s2:Same H (upd H1 t (.tup [.int i,.ref ps[i].1])):=s1.trans (Same.new ht)
   have hq:=s2 _ _ (hI _ hm)
   refine ⟨t,ex1 rfl ⟨SqT.of upd_same,rfl,_,ex1 rfl (ex2_3 rfl rfl ?_)⟩⟩
   refine ex1 rfl (ex1 rfl ⟨n,ss,ps[i].1,ps[i].2.1,ps[i].2.2,rfl,(s2.at n).seq hS,hq,hn1,hn2,ex1 rfl ?_⟩)
   refine iteF ?_
   have e2:(upd H1 t (.tup [.int i,.ref ps[i].1])) p = some (SetT P w p (pkeys (ps.take i))):=by rw [upd_ne npt]; exact e1
   have hin:TupsIn (upd H1 t (.tup [.int i,.ref ps[i].1])) (pkeys (ps.take i)):=pkeys_in (same_pairs s2 fun q hq=>hI q (List.mem_of_mem_take hq))
   have hne:∀ q ∈ pkeys (ps.take i),q.1 ≠ [.inr ps[i].2.1,.inr ps[i].2.2]:=fun q hq e=>by
    obtain ⟨z,hz,rfl⟩:=List.mem_map.mp hq
    have e':z.2 = ps[i].2:=by
     obtain ⟨z1,z2,z3⟩:=z
     simp only [List.cons.injEq,Sum.inr.injEq,and_true] at e
     exact Prod.ext e.1 e.2
    have h1:(ps.map fun q=>q.2)[i]? = some ps[i].2:=by rw [List.getElem?_map,hi']; rfl
    refine nodup_take hD h1 ?_
    rw [<-List.map_take,<-e']
    exact List.mem_map.mpr ⟨z,hz,rfl⟩
   refine ex1 rfl (ex1 rfl ⟨p,ps[i].1,_,[.inr ps[i].2.1,.inr ps[i].2.2],rfl,rfl,e2,hq,hin,hne,ex1 rfl ?_⟩)
   refine iteF ?_
   refine ex1 rfl ⟨⟨p,rfl,.inr (.inr ⟨_,e2⟩)⟩,ex1 rfl ⟨p,ps[i].1,_,[.inr ps[i].2.1,.inr ps[i].2.2],rfl,rfl,e2,hq,hin,hne,?_,?_⟩⟩
   ·unfold pkeys; rw [List.length_map,List.length_take]; omega
   ·refine ⟨_,ex1 rfl ⟨s2.upd hp,?_⟩⟩
    rw [upd_same,take_succ hi']
    unfold pkeys
    rw [List.map_append]
    rfl
  ·rintro σ H1 ⟨v2,v3,rfl,s1,e1⟩
   exact k H1 s1
end
end Sw
namespace Sw
open PySem L2
noncomputable def la (kvs:List (Key × V)) (n:Str):Addr:=match valV kvs (.inr n) with | some (.ref l)=>l | _=>0
theorem la_of {kvs:List (Key × V)} {n:Str} {l:Addr} (h:valV kvs (.inr n) = some (.ref l)):la kvs n = l:=by unfold la; rw [h]
theorem val_put (kvs:List (Key × V)) (n m:Str) (v:V):valV (putK kvs (Sum.inr n:Key) v) (.inr m) = if m = n then some v else valV kvs (.inr m):=by
 rw [valV_put]
 by_cases e:m = n
 ·rw [if_pos e,if_pos (by rw [e])]
 ·rw [if_neg e,if_neg (fun z=>e (Sum.inr.inj z))]
theorem la_put (kvs:List (Key × V)) (n m:Str) (p:Addr):la (putK kvs (.inr n) (.ref p)) m = if m = n then p else la kvs m:=by
 unfold la
 rw [val_put]
 by_cases e:m = n
 ·rw [if_pos e,if_pos e]
 ·rw [if_neg e,if_neg e]
structure DOk (H0:Hp) (kvs:List (Key × V)) (ns:List Str):Prop where
 val:∀ n ∈ ns,valV kvs (.inr n) = some (.ref (la kvs n))
 inj:∀ n ∈ ns,∀ m ∈ ns,la kvs n = la kvs m->n = m
 fr:∀ n ∈ ns,H0 (la kvs n) = none
theorem dc_run {K:PySem.W.Frag} {J:It} {a:Addr} {ns:List Str} {H:Hp} {σ:St} {Q:St->Hp->Prop} (as:AsSeq J (ns.map V.str) a H) (hσ:∃ v,σ = [v]) (nd:ns.Nodup) (hl:ns.length<=1000) {D:Addr} (hD:H D = none)
  (q:∀ σ kvs H',Same H H'->H' D = some (.dK kvs)->DOk H kvs ns->(∀ n ∈ ns,H' (la kvs n) = some (.lst []))->(∀ n ∈ ns,la kvs n ≠ D)->Q σ H') :
  Loop (gName 0) tTrue (emDct D (tVar 0) (tLst tNil)) J σ (upd H D (.dK [])) Q:=by
 obtain ⟨v,rfl⟩:=hσ
 refine loop_as as (fun i σ H1=>(∃ v,σ = [v])/\∃ kvs,Same H H1/\H1 D = some (.dK kvs)/\kvs.length<=i/\DOk H kvs (ns.take i)/\(∀ n ∈ ns.take i,H1 (la kvs n) = some (.lst []))/\∀ n ∈ ns.take i,la kvs n ≠ D)
  ⟨⟨v,rfl⟩,[],Same.new hD,upd_same,Nat.zero_le _,⟨fun n h=>by simp at h,fun n h=>by simp at h,fun n h=>by simp at h⟩,fun n h=>by simp at h,fun n h=>by simp at h⟩ (fun i σ H1 _ ⟨_,kvs,s1,_⟩=>s1.at a) ?_ ?_
 ·rintro i σ H1 x N hx ⟨⟨v,rfl⟩,kvs,s1,e1,l1,D1,c1,n1⟩ hN
  rw [List.getElem?_map] at hx
  have hi:i < ns.length:=by
   rcases Nat.lt_or_ge i ns.length with z | z
   ·exact z
   ·rw [List.getElem?_eq_none z] at hx; cases hx
  have hi':ns[i]? = some ns[i]:=List.getElem?_eq_getElem hi
  rw [hi'] at hx
  cases hx
  refine g_true ?_
  refine ex1 rfl ⟨Nat.zero_le _,fun p hp=>?_⟩
  have npD:D ≠ p:=ne_of_none e1 hp
  refine ⟨kvs,.inr ns[i],by rw [upd_ne npD]; exact e1,rfl,by rw [sizeLine_eq]; omega,hN _ _ ⟨⟨_,rfl⟩,putK kvs (.inr ns[i]) (.ref p),?_,upd_same,?_,⟨?_,?_,?_⟩,?_,?_⟩⟩
  ·exact (s1.trans (Same.new hp)).upd hD
  ·have:=length_putK kvs (Sum.inr ns[i]:Key) (.ref p)
   omega
  all_goals rw [take_succ hi']
  ·intro n hn
   rw [val_put,la_put]
   by_cases e:n = ns[i]
   ·rw [if_pos e,if_pos e]
   ·rw [if_neg e,if_neg e]
    rcases List.mem_append.mp hn with z | z
    ·exact D1.val n z
    ·exact absurd (List.mem_singleton.mp z) e
  ·intro n hn m hm
   rw [la_put,la_put]
   have old:∀ k ∈ ns.take i ++ [ns[i]],k ≠ ns[i]->k ∈ ns.take i:=fun k hk e=>(List.mem_append.mp hk).elim id fun z=>absurd (List.mem_singleton.mp z) e
   by_cases e:n = ns[i]
   ·by_cases e':m = ns[i]
    ·exact fun _=>e.trans e'.symm
    ·rw [if_pos e,if_neg e']
     intro z
     have:=c1 m (old m hm e')
     rw [<-z,hp] at this; cases this
   ·by_cases e':m = ns[i]
    ·rw [if_neg e,if_pos e']
     intro z
     have:=c1 n (old n hn e)
     rw [z,hp] at this; cases this
    ·rw [if_neg e,if_neg e']
     exact D1.inj n (old n hn e) m (old m hm e')
  ·intro n hn
   rw [la_put]
   by_cases e:n = ns[i]
   ·rw [if_pos e]; exact s1.free hp
   ·rw [if_neg e]
    rcases List.mem_append.mp hn with z | z
    ·exact D1.fr n z
    ·exact absurd (List.mem_singleton.mp z) e
  ·intro n hn
   rw [la_put]
   by_cases e:n = ns[i]
   ·rw [if_pos e,upd_ne npD.symm,upd_same]
   ·rw [if_neg e]
    rcases List.mem_append.mp hn with z | z
    ·rw [upd_ne (n1 n z),upd_ne (ne_of_none (c1 n z) hp)]
     exact c1 n z
    ·exact absurd (List.mem_singleton.mp z) e
  ·intro n hn
   rw [la_put]
   by_cases e:n = ns[i]
   ·rw [if_pos e]; exact npD.symm
   ·rw [if_neg e]
    rcases List.mem_append.mp hn with z | z
    ·exact n1 n z
    ·exact absurd (List.mem_singleton.mp z) e
 ·rintro σ H1 ⟨_,kvs,s1,e1,l1,D1,c1,n1⟩
  rw [List.length_map] at *
  rw [List.take_length] at *
  exact q σ kvs H1 s1 e1 D1 c1 n1
end Sw
namespace Sw
open PySem L2
noncomputable def strikersOf (qs:List PA2) (n:Str):List Str:=(qs.filter fun q=>decide (q.2.2 = n)).map fun q=>q.2.1
noncomputable def struckOf (qs:List PA2) (n:Str):List Str:=(qs.filter fun q=>decide (q.2.1 = n)).map fun q=>q.2.2
theorem strikersOf_snoc (qs:List PA2) (q:PA2) (n:Str):strikersOf (qs ++ [q]) n = strikersOf qs n ++ (if q.2.2 = n then [q.2.1] else []):=by
 unfold strikersOf
 rw [List.filter_append,List.map_append]
 by_cases e:q.2.2 = n
 ·rw [if_pos e,List.filter_cons,if_pos (decide_eq_true e)]; rfl
 ·rw [if_neg e,List.filter_cons,if_neg (by simp [e])]; rfl
theorem struckOf_snoc (qs:List PA2) (q:PA2) (n:Str):struckOf (qs ++ [q]) n = struckOf qs n ++ (if q.2.1 = n then [q.2.2] else []):=by
 unfold struckOf
 rw [List.filter_append,List.map_append]
 by_cases e:q.2.1 = n
 ·rw [if_pos e,List.filter_cons,if_pos (decide_eq_true e)]; rfl
 ·rw [if_neg e,List.filter_cons,if_neg (by simp [e])]; rfl
noncomputable def wf (a b c d:Addr):List (Str × V):=[("names",.ref a),("strikes",.ref b),("strikers_by_name",.ref c),("struck_by_name",.ref d)]
structure WebOk (ns:List Str) (qs:List PA2):Prop where
 nd:ns.Nodup
 len:ns.length<=100
 srt:ns.Pairwise leS
 mem:∀ q ∈ qs,q.2.1 ∈ ns/\q.2.2 ∈ ns
 ndq:(qs.map fun q=>q.2).Nodup
 lenq:qs.length<=200
 srq:qs.Pairwise leP
structure WebAt (C:Addr) (H:Hp) (x:Addr) (ns:List Str) (qs:List PA2):Prop where
 ok:WebOk ns qs
 ex:∃ dx a b c d kc kd,H x = some (.ins C dx (wf a b c d))/\H a = some (.lst (ns.map V.str))/\H b = some (.lst (refs qs))/\(∀ q ∈ qs,PairIn H q)/\H c = some (.dK kc)/\H d = some (.dK kd) /\
  (∀ n ∈ ns,∃ l,valV kc (.inr n) = some (.ref l)/\H l = some (.lst ((strikersOf qs n).map V.str)))/\∀ n ∈ ns,∃ l,valV kd (.inr n) = some (.ref l)/\H l = some (.lst ((struckOf qs n).map V.str))
section
variable {P:Program} {w:World} {K:PySem.W.Frag} {mg:Str->Option Value} {base:Heap}
theorem sc_Web___init__:FnScope ["self", "names", "strikes", "one", "other"] ["self", "names", "strikes"] (defScope s_Web___init__):=⟨rfl,rfl,rfl,by decide +kernel,rfl,by decide +kernel,by decide +kernel⟩
noncomputable def sp_Web_init (K:PySem.W.Frag) (C:Addr):Sp:=fun vs H Q _=>∃ (x dx n:Addr) (ss:List Str) (a:Addr) (ps:List PA2),vs = [.ref x,.ref n,.ref a]/\H x = some (.ins C dx [])/\Sqs K H n (ss.map V.str)/\NamesOk ss /\
 H a = some (.lst (refs ps))/\(∀ q ∈ ps,PairIn H q)/\StrkOk ss ps/\∀ ns qs H',ns.Perm ss->ns.Pairwise leS->qs.Perm ps->qs.Pairwise leP->Sm [x] H H'->WebAt C H' x ns qs->(∀ z zs u,H z = some (.lst zs)->WebAt C (upd H' z u) x ns qs)->Q .non H'
theorem ok_Web_init (T:Tx K mg):FnOk P w K mg base CX0 3 T.fWeb___init__ T.fdWeb___init__ ["self", "names", "strikes"] (sp_Web_init K T.CWeb):=by
 have G_check_names:FnOk P w K mg base CX0 2 T.check_names.f T.check_names.fd ["names"] (sp_check_names K):=ok_check_names T
 have G_check_strikes:FnOk P w K mg base CX0 2 T.check_strikes.f T.check_strikes.fd ["names", "strikes"] (sp_check_strikes K):=ok_check_strikes T
 have sc:=sc_Web___init__
 refine T.FWeb___init__.ok sc_Web___init__ (fun vs H Q E h=>?_) (fun cdv A outer s H vs Q E hr h=>?_)
 ·obtain ⟨x,dx,n,ss,a,ps,rfl,_⟩:=h
  rfl
 ·obtain ⟨x,dx,n,ss,a,ps,rfl,hx,hS,hN,hP,hI,hO,k⟩:=h
  have hu:=hu_of hr
  refine ⟨_,(pss_cons (ps_expr (pe_fn T.check_names G_check_names (hr.mono (by decide)) (pa_cons (pv 1) pa_nil)))
   (pss_cons (ps_expr (pe_fn T.check_strikes G_check_strikes (hr.mono (by decide)) (pa_cons (pv 1) (pa_cons (pv 2) pa_nil))))
   (pss_cons (psF K (pv 0) (pe_bf (cl_sortQ K) T.b_sorted bt_sorted (pa_cons (pv 1) pa_nil)))
   (pss_cons (psF K (pv 0) (pe_bf (cl_sortP K) T.b_sorted bt_sorted (pa_cons (pv 2) pa_nil)))
   (pss_cons (psF K (pv 0) (pe_dc (N':=["name"]) (cap:=[none]) (cl:=[]) (cs_mk trivial trivial) rfl (piL K (peF K (pv 0))) (fun _ _ _ _=>by exact ⟨(pgC 0),pts_nil,(pv 0),(pe_lst pa_nil)⟩)))
   (pss_cons (psF K (pv 0) (pe_dc (N':=["name"]) (cap:=[none]) (cl:=[]) (cs_mk trivial trivial) rfl (piL K (peF K (pv 0))) (fun _ _ _ _=>by exact ⟨(pgC 0),pts_nil,(pv 0),(pe_lst pa_nil)⟩)))
   (pss_one (ps_for PassesOwn.never rfl (piL K (peF K (pv 0))) (pgT K (n:=2) (pgs_cons (pg_name (i:=3) sc.nd rfl (by first | exact Or.inl rfl | exact Or.inr rfl)) (pgs_cons (pg_name (i:=4) sc.nd rfl (by first | exact Or.inl rfl | exact Or.inr rfl)) pgs_nil)))
   (pss_cons (ps_expr (peBM K PySem.F.plainAttrs_list PySem.F.slot_list_append PySem.F.type_list_append mt_append (pe_dget hu (peF K (pv 0)) (pv 4) (fun _ _=>rfl)) (pa_cons (pv 3) pa_nil)))
   (pss_one (ps_expr (peBM K PySem.F.plainAttrs_list PySem.F.slot_list_append PySem.F.type_list_append mt_append (pe_dget hu (peF K (pv 0)) (pv 3) (fun _ _=>rfl)) (pa_cons (pv 4) pa_nil))))))))))))),?_⟩
  obtain ⟨hN1,hN2,hN3⟩:=id hN
  obtain ⟨hO1,hO2,hO3⟩:=id hO
  refine seq_gen fun Z1 hZ1=>?_
  refine ex1 rfl ⟨n,ss,rfl,hS,hN,fun H1 s1=>?_⟩
  refine hZ1 _ _ (seq_gen fun Z2 hZ2=>?_)
  refine ex1 rfl (ex1 rfl ⟨n,ss,a,ps,rfl,(s1.at n).seq hS,SqL.of (s1 _ _ hP),same_pairs s1 hI,hO,fun H2 s2=>?_⟩)
  refine hZ2 _ _ (seq_gen fun Z3 hZ3=>?_)
  have s12:=s1.trans s2
  refine ex1 rfl ⟨n,ss,rfl,(s12.at n).seq hS,fun l1 ns hl1 p1 w1=>?_⟩
  have nx1:x ≠ l1:=ne_of_none (s12 _ _ hx) hl1
  refine ex1 rfl ⟨x,T.CWeb,dx,[],rfl,by rw [upd_ne nx1]; exact s12 _ _ hx,T.clWeb,T.nWeb_names,by decide,?_⟩
  have hxa:a ≠ x:=ne_of hP hx (by intro z; cases z)
  have k3:Sm [x] H (upd (upd H2 l1 (.lst (ns.map V.str))) x (.ins T.CWeb dx (putF "names" (.ref l1) []))):=(Sm.new s12.sm hl1).upd (by simp)
  have e3:(upd (upd H2 l1 (.lst (ns.map V.str))) x (.ins T.CWeb dx (putF "names" (.ref l1) []))) l1 = some (.lst (ns.map V.str)):=by rw [upd_ne nx1.symm,upd_same]
  generalize hH3:upd (upd H2 l1 (.lst (ns.map V.str))) x (.ins T.CWeb dx (putF "names" (.ref l1) [])) = H3 at k3 e3 ⊢
  refine hZ3 _ _ (seq_gen fun Z4 hZ4=>?_)
  have x3:H3 x = some (.ins T.CWeb dx [("names",.ref l1)]):=by rw [<-hH3,upd_same]; rfl
  have nin:∀ {b:Addr},b ≠ x->b ∉ [x]:=fun h z=>h (List.mem_singleton.mp z)
  have pin3:∀ q ∈ ps,PairIn H3 q:=fun q hq=>k3 _ _ (hI q hq) (nin (ne_of (hI q hq) hx (by intro z; cases z)))
  refine ex1 rfl ⟨a,ps,rfl,SqL.of (k3 _ _ hP (nin hxa)),pin3,fun l2 qs hl2 p2 w2=>?_⟩
  have nx2:x ≠ l2:=ne_of_none x3 hl2
  refine ex1 rfl ⟨x,T.CWeb,dx,[("names",.ref l1)],rfl,by rw [upd_ne nx2]; exact x3,T.clWeb,T.nWeb_strikes,by simp,?_⟩
  have k4:Sm [x] H3 (upd (upd H3 l2 (.lst (refs qs))) x (.ins T.CWeb dx (putF "strikes" (.ref l2) [("names",.ref l1)]))):=(Sm.new (Sm.refl _ _) hl2).upd (by simp)
  have e4:(upd (upd H3 l2 (.lst (refs qs))) x (.ins T.CWeb dx (putF "strikes" (.ref l2) [("names",.ref l1)]))) l2 = some (.lst (refs qs)):=by rw [upd_ne nx2.symm,upd_same]
  have x4:(upd (upd H3 l2 (.lst (refs qs))) x (.ins T.CWeb dx (putF "strikes" (.ref l2) [("names",.ref l1)]))) x = some (.ins T.CWeb dx [("names",.ref l1),("strikes",.ref l2)]):=by rw [upd_same]; rfl
  refine hZ4 _ _ ?_
  show tSeq _ _ _ _ (upd (upd H3 l2 (.lst (refs qs))) x (.ins T.CWeb dx (putF "strikes" (.ref l2) [("names",.ref l1)])))
  generalize upd (upd H3 l2 (.lst (refs qs))) x (.ins T.CWeb dx (putF "strikes" (.ref l2) [("names",.ref l1)])) = H4 at k4 e4 x4 ⊢
  have f4:H4 l1 = some (.lst (ns.map V.str)):=k4 _ _ e3 (nin nx1.symm)
  have pin4:∀ q ∈ qs,PairIn H4 q:=fun q hq=>k4 _ _ (pin3 q (p2.mem_iff.mp hq)) (nin (ne_of (pin3 q (p2.mem_iff.mp hq)) x3 (by intro z; cases z)))
  have ndn:ns.Nodup:=p1.nodup_iff.mpr hN2
  have lnn:ns.length<=1000:=by rw [p1.length_eq]; omega
  refine seq_gen fun Z5 hZ5=>?_
  refine ex1 rfl ⟨x,T.CWeb,dx,_,ex1 rfl ⟨x4,T.clWeb,T.nWeb_names,rfl,l1,rfl,⟨_,SqL.of f4⟩,fun c hc=>dc_run (K:=K) (asL (SqL.of f4)) ⟨_,rfl⟩ ndn lnn hc fun _ kc H5 s5 e5 D5 c5 n5=>?_⟩⟩
  have x5:=s5 _ _ x4
  refine ex1 rfl ⟨x,T.CWeb,dx,ex1 rfl ⟨x5,T.clWeb,T.nWeb_strikers_by_name,by simp,?_⟩⟩
  have k6:Sm [x] H5 (upd H5 x (.ins T.CWeb dx (putF "strikers_by_name" (.ref c) [("names",.ref l1),("strikes",.ref l2)]))):=(Sm.refl _ _).upd (by simp)
  have x6:(upd H5 x (.ins T.CWeb dx (putF "strikers_by_name" (.ref c) [("names",.ref l1),("strikes",.ref l2)]))) x = some (.ins T.CWeb dx [("names",.ref l1),("strikes",.ref l2),("strikers_by_name",.ref c)]):=by rw [upd_same]; rfl
  generalize upd H5 x (.ins T.CWeb dx (putF "strikers_by_name" (.ref c) [("names",.ref l1),("strikes",.ref l2)])) = H6 at k6 x6 ⊢
  refine hZ5 _ _ (seq_gen fun Z6 hZ6=>?_)
  have kk6:∀ {b:Addr} {o:HO},H4 b = some o->b ≠ x->H6 b = some o:=fun e hb=>k6 _ _ (s5 _ _ e) (nin hb)
  have f6:=kk6 f4 nx1.symm
  have g6:=kk6 e4 nx2.symm
  have c6:H6 c = some (.dK kc):=k6 _ _ e5 (nin (ne_of_none x4 hc).symm)
  have cl6:∀ n ∈ ns,H6 (la kc n) = some (.lst []):=fun n hn=>k6 _ _ (c5 n hn) (nin (ne_of_none x4 (D5.fr n hn)).symm)
  refine ex1 rfl ⟨x,T.CWeb,dx,_,ex1 rfl ⟨x6,T.clWeb,T.nWeb_names,rfl,l1,rfl,⟨_,SqL.of f6⟩,fun d hd=>dc_run (K:=K) (asL (SqL.of f6)) ⟨_,rfl⟩ ndn lnn hd fun _ kd H7 s7 e7 D7 c7 n7=>?_⟩⟩
  have x7:=s7 _ _ x6
  refine ex1 rfl ⟨x,T.CWeb,dx,ex1 rfl ⟨x7,T.clWeb,T.nWeb_struck_by_name,by simp,?_⟩⟩
  have k8:Sm [x] H7 (upd H7 x (.ins T.CWeb dx (putF "struck_by_name" (.ref d) [("names",.ref l1),("strikes",.ref l2),("strikers_by_name",.ref c)]))):=(Sm.refl _ _).upd (by simp)
  have x8:(upd H7 x (.ins T.CWeb dx (putF "struck_by_name" (.ref d) [("names",.ref l1),("strikes",.ref l2),("strikers_by_name",.ref c)]))) x = some (.ins T.CWeb dx (wf l1 l2 c d)):=by rw [upd_same]; rfl
  generalize upd H7 x (.ins T.CWeb dx (putF "struck_by_name" (.ref d) [("names",.ref l1),("strikes",.ref l2),("strikers_by_name",.ref c)])) = H8 at k8 x8 ⊢
  refine hZ6 _ _ ?_
  have kk8:∀ {b:Addr} {o:HO},H6 b = some o->b ≠ x->H8 b = some o:=fun e hb=>k8 _ _ (s7 _ _ e) (nin hb)
  have f8:=kk8 f6 nx1.symm
  have g8:=kk8 g6 nx2.symm
  have c8:=kk8 c6 (ne_of_none x4 hc).symm
  have d8:H8 d = some (.dK kd):=k8 _ _ e7 (nin (ne_of_none x6 hd).symm)
  have cl8:∀ n ∈ ns,H8 (la kc n) = some (.lst []):=fun n hn=>kk8 (cl6 n hn) (ne_of_none x4 (D5.fr n hn)).symm
  have dl8:∀ n ∈ ns,H8 (la kd n) = some (.lst []):=fun n hn=>k8 _ _ (c7 n hn) (nin (ne_of_none x6 (D7.fr n hn)).symm)
  have pin8:∀ q ∈ qs,PairIn H8 q:=fun q hq=>kk8 (kk6 (pin4 q hq) (ne_of (pin4 q hq) x4 (by intro z; cases z))) (ne_of (pin4 q hq) x4 (by intro z; cases z))
  have dif:∀ n ∈ ns,∀ m ∈ ns,la kc n ≠ la kd m:=fun n hn m hm=>ne_of_none (cl6 n hn) (D7.fr m hm)
  have old4:∀ {b:Addr} {o:HO},H4 b = some o->b ≠ x->(∀ n ∈ ns,b ≠ la kc n)/\∀ n ∈ ns,b ≠ la kd n:=fun e hb=>⟨fun n hn=>ne_of_none e (D5.fr n hn),fun n hn=>ne_of_none (kk6 e hb) (D7.fr n hn)⟩
  have kall:Sm [x] H H8:=fun b o e hb=>by
   have hb':b ≠ x:=fun z=>hb (by simp [z])
   exact kk8 (kk6 (k4 _ _ (k3 _ _ e hb) hb) hb') hb'
  have odif:∀ {b:Addr} {o:HO},H b = some o->b ≠ x->(∀ n ∈ ns,b ≠ la kc n)/\∀ n ∈ ns,b ≠ la kd n:=fun e hb=>old4 (k4 _ _ (k3 _ _ e (nin hb)) (nin hb)) hb
  have xdif:(∀ n ∈ ns,x ≠ la kc n)/\∀ n ∈ ns,x ≠ la kd n:=⟨fun n hn=>ne_of_none x4 (D5.fr n hn),fun n hn=>ne_of_none x6 (D7.fr n hn)⟩
  have cdif:(∀ n ∈ ns,c ≠ la kc n)/\∀ n ∈ ns,c ≠ la kd n:=⟨fun n hn=>(n5 n hn).symm,fun n hn=>ne_of_none c6 (D7.fr n hn)⟩
  have ddif:(∀ n ∈ ns,d ≠ la kc n)/\∀ n ∈ ns,d ≠ la kd n:=⟨fun n hn=>(ne_of_none (cl6 n hn) hd).symm,fun n hn=>(n7 n hn).symm⟩
  refine ⟨_,rfl,x,T.CWeb,dx,_,_,rfl,x8,T.clWeb,T.nWeb_strikes,rfl,l2,rfl,⟨_,SqL.of g8⟩,for_asG (asL (SqL.of g8)) (fun i σ H9=>(∃ v3 v4,σ = [some (.ref x),some (.ref n),some (.ref a),v3,v4]) /\
   (∀ b o,H8 b = some o->((∀ n ∈ ns,b ≠ la kc n)/\∀ n ∈ ns,b ≠ la kd n)->H9 b = some o)/\(∀ n ∈ ns,H9 (la kc n) = some (.lst ((strikersOf (qs.take i) n).map V.str)))/\∀ n ∈ ns,H9 (la kd n) = some (.lst ((struckOf (qs.take i) n).map V.str)))
   ⟨⟨_,_,rfl⟩,fun b o e _=>e,cl8,dl8⟩ ?_ ?_ ?_⟩
  ·rintro i σ H9 _ ⟨_,h1,_⟩ o e
   exact h1 _ _ e (old4 e4 nx2.symm)
  ·rintro i σ H9 v hv ⟨⟨v3,v4,rfl⟩,h1,h2,h3⟩ D1 hD1 _
   unfold refs at hv
   rw [List.getElem?_map] at hv
   cases hq:qs[i]? with
   | none=>rw [hq] at hv; cases hv
   | some q =>
    rw [hq] at hv
    cases hv
    have hm:q ∈ qs:=List.mem_of_getElem? hq
    have hq9:PairIn H9 q:=h1 _ _ (pin8 q hm) (old4 (pin4 q hm) (ne_of (pin4 q hm) x4 (by intro z; cases z)))
    obtain ⟨m1,m2⟩:=hO1 q (p2.mem_iff.mp hm)
    have m1:q.2.1 ∈ ns:=p1.mem_iff.mpr m1
    have m2:q.2.2 ∈ ns:=p1.mem_iff.mpr m2
    have hlen:∀ l:List PA2,l.length<=200->∀ n,(strikersOf l n).length<=200/\(struckOf l n).length<=200:=fun l hl n=>by
     unfold strikersOf struckOf
     rw [List.length_map,List.length_map]
     exact ⟨Nat.le_trans (List.length_filter_le ..) hl,Nat.le_trans (List.length_filter_le ..) hl⟩
    have hl200:(qs.take i).length<=200:=by
     rw [List.length_take]
     have:=p2.length_eq
     omega
    have x9:H9 x = some (.ins T.CWeb dx (wf l1 l2 c d)):=h1 _ _ x8 xdif
    refine ⟨q.1,ex1 rfl ⟨SqT.of hq9,rfl,_,ex1 rfl (ex2_3 rfl rfl ?_)⟩⟩
    refine ex1 rfl ⟨x,T.CWeb,dx,_,ex1 rfl ⟨x9,T.clWeb,T.nWeb_strikers_by_name,rfl,ex1 rfl ⟨c,.ref (la kc q.2.2),rfl,by rw [<-D5.val _ m2]; exact DGet.k (k:=Sum.inr q.2.2) (h1 _ _ c8 cdif),.inl ⟨rfl,_,SqL.of (h2 _ m2)⟩,ex1 rfl ⟨_,ex2_3 rfl rfl ⟨h2 _ m2,?_,?_⟩⟩⟩⟩⟩
    ·rw [List.length_map,sizeLine_eq]
     have:=(hlen _ hl200 q.2.2).1
     omega
    have x10:(upd H9 (la kc q.2.2) (.lst ((strikersOf (qs.take i) q.2.2).map V.str ++ [.str q.2.1]))) x = some (.ins T.CWeb dx (wf l1 l2 c d)):=by rw [upd_ne (xdif.1 _ m2)]; exact x9
    have d10:(upd H9 (la kc q.2.2) (.lst ((strikersOf (qs.take i) q.2.2).map V.str ++ [.str q.2.1]))) d = some (.dK kd):=by rw [upd_ne (ddif.1 _ m2)]; exact h1 _ _ d8 ddif
    have l10:(upd H9 (la kc q.2.2) (.lst ((strikersOf (qs.take i) q.2.2).map V.str ++ [.str q.2.1]))) (la kd q.2.1) = some (.lst ((struckOf (qs.take i) q.2.1).map V.str)):=by rw [upd_ne (dif _ m2 _ m1).symm]; exact h3 _ m1
    refine ex1 rfl ⟨x,T.CWeb,dx,_,ex1 rfl ⟨x10,T.clWeb,T.nWeb_struck_by_name,rfl,ex1 rfl ⟨d,.ref (la kd q.2.1),rfl,by rw [<-D7.val _ m1]; exact DGet.k (k:=Sum.inr q.2.1) d10,.inl ⟨rfl,_,SqL.of l10⟩,ex1 rfl ⟨_,ex2_3 rfl rfl ⟨l10,?_,?_⟩⟩⟩⟩⟩
    ·rw [List.length_map,sizeLine_eq]
     have:=(hlen _ hl200 q.2.1).2
     omega
    refine hD1 _ _ ⟨⟨_,_,rfl⟩,fun b o e hb=>?_,fun m hm=>?_,fun m hm=>?_⟩
    ·rw [upd_ne (hb.2 _ m1),upd_ne (hb.1 _ m2)]
     exact h1 b o e hb
    ·rw [upd_ne (dif m hm _ m1),take_succ hq,strikersOf_snoc]
     by_cases e:q.2.2 = m
     ·rw [<-e,upd_same,if_pos rfl,List.map_append]; rfl
     ·rw [if_neg e,List.append_nil,upd_ne (fun z=>e (D5.inj _ hm _ m2 z).symm)]
      exact h2 m hm
    ·rw [take_succ hq,struckOf_snoc]
     by_cases e:q.2.1 = m
     ·rw [<-e,upd_same,if_pos rfl,List.map_append]; rfl
     ·rw [if_neg e,List.append_nil,upd_ne (fun z=>e (D7.inj _ hm _ m1 z).symm),upd_ne (dif _ m2 _ hm).symm]
      exact h3 m hm
  ·rintro σ H9 ⟨_,h1,h2,h3⟩
   have hlq:(refs qs).length = qs.length:=by unfold refs; rw [List.length_map]
   rw [hlq,List.take_length] at h2 h3
   have mk:∀ G:Hp,(∀ b o,H9 b = some o->(b = x\/b = l1\/b = l2\/b = c\/b = d\/(∃ q ∈ qs,b = q.1)\/(∃ n ∈ ns,b = la kc n)\/∃ n ∈ ns,b = la kd n)->G b = some o)->WebAt T.CWeb G x ns qs:=fun G g =>
    ⟨⟨ndn,by rw [p1.length_eq]; exact hN3,w1,fun q hq=>⟨p1.mem_iff.mpr (hO1 q (p2.mem_iff.mp hq)).1,p1.mem_iff.mpr (hO1 q (p2.mem_iff.mp hq)).2⟩,(p2.map _).nodup_iff.mpr hO2,by rw [p2.length_eq]; exact hO3,w2⟩,dx,l1,l2,c,d,kc,kd,g _ _ (h1 _ _ x8 xdif) (.inl rfl),g _ _ (h1 _ _ f8 (old4 f4 nx1.symm)) (.inr (.inl rfl)),g _ _ (h1 _ _ g8 (old4 e4 nx2.symm)) (.inr (.inr (.inl rfl))),
     fun q hm=>g _ _ (h1 _ _ (pin8 q hm) (old4 (pin4 q hm) (ne_of (pin4 q hm) x4 (by intro z; cases z)))) (.inr (.inr (.inr (.inr (.inr (.inl ⟨q,hm,rfl⟩)))))),g _ _ (h1 _ _ c8 cdif) (.inr (.inr (.inr (.inl rfl)))),g _ _ (h1 _ _ d8 ddif) (.inr (.inr (.inr (.inr (.inl rfl))))),
     fun n hn=>⟨_,D5.val n hn,g _ _ (h2 n hn) (.inr (.inr (.inr (.inr (.inr (.inr (.inl ⟨n,hn,rfl⟩)))))))⟩,fun n hn=>⟨_,D7.val n hn,g _ _ (h3 n hn) (.inr (.inr (.inr (.inr (.inr (.inr (.inr ⟨n,hn,rfl⟩)))))))⟩⟩
   refine k ns qs H9 p1 w1 p2 w2 (fun b o e hb=>?_) (mk H9 fun b o e _=>e) fun z zs u hz=>mk _ fun b o e hb=>?_
   ·have hb':b ≠ x:=fun z=>hb (by simp [z])
    exact h1 _ _ (kall b o e hb) (odif e hb')
   ·have zx:z ≠ x:=ne_of hz hx (by intro y; cases y)
    have z3:=k3 _ _ hz (nin zx)
    have z4:=k4 _ _ z3 (nin zx)
    have nz:b ≠ z:=by
     rcases hb with rfl | rfl | rfl | rfl | rfl | ⟨q,hq,rfl⟩ | ⟨n,hn,rfl⟩ | ⟨n,hn,rfl⟩
     ·exact zx.symm
     ·exact (ne_of_none (s12 _ _ hz) hl1).symm
     ·exact (ne_of_none z3 hl2).symm
     ·exact (ne_of_none z4 hc).symm
     ·exact (ne_of_none (kk6 z4 zx) hd).symm
     ·exact ne_of (hI q (p2.mem_iff.mp hq)) hz (by intro y; cases y)
     ·exact ((odif hz zx).1 n hn).symm
     ·exact ((odif hz zx).2 n hn).symm
    rw [upd_ne nz]; exact e
end
end Sw
namespace Sw
open PySem L2
theorem WebAt.same {C:Addr} {H H':Hp} {x:Addr} {ns:List Str} {qs:List PA2} (h:WebAt C H x ns qs) (s:Same H H'):WebAt C H' x ns qs:=by
 obtain ⟨ok,dx,a,b,c,d,kc,kd,e1,e2,e3,e4,e5,e6,e7,e8⟩:=h
 exact ⟨ok,dx,a,b,c,d,kc,kd,s _ _ e1,s _ _ e2,s _ _ e3,same_pairs s e4,s _ _ e5,s _ _ e6,fun n hn=>let ⟨l,v,e⟩:=e7 n hn; ⟨l,v,s _ _ e⟩,fun n hn=>let ⟨l,v,e⟩:=e8 n hn; ⟨l,v,s _ _ e⟩⟩
section
variable {P:Program} {w:World} {K:PySem.W.Frag} {mg:Str->Option Value} {base:Heap}
theorem sc_Web_all_names:FnScope ["self"] ["self"] (defScope s_Web_all_names):=⟨rfl,rfl,rfl,by decide +kernel,rfl,by decide +kernel,by decide +kernel⟩
noncomputable def sp_all_names (C:Addr):Sp:=fun vs H Q _=>∃ (x:Addr) (ns:List Str) (qs:List PA2),vs = [.ref x]/\WebAt C H x ns qs/\∀ l,H l = none->Q (.ref l) (upd H l (.lst (ns.map V.str)))
theorem ok_Web_all_names (T:Tx K mg):FnOk P w K mg base CX0 1 T.mWeb_all_names.f T.mWeb_all_names.fd ["self"] (sp_all_names T.CWeb):=by
 refine T.mWeb_all_names.F.ok sc_Web_all_names (fun vs H Q E h=>?_) (fun cdv A outer s H vs Q E hr h=>?_)
 ·obtain ⟨x,ns,qs,rfl,_⟩:=h
  rfl
 ·obtain ⟨x,ns,qs,rfl,⟨ok,dx,a,b,c,d,kc,kd,e1,e2,e3,e4,e5,e6,e7,e8⟩,k⟩:=h
  refine ⟨_,(pss_one (ps_ret (pe_bt (cl_list K) T.b_list bt_list (pa_cons (peF K (pv 0)) pa_nil)))),?_⟩
  exact ⟨_,rfl,x,T.CWeb,dx,_,_,rfl,e1,T.clWeb,T.nWeb_names,rfl,a,_,rfl,.inl (SqL.of e2),k⟩
theorem sc_Web_check_has:FnScope ["self", "name"] ["self", "name"] (defScope s_Web_check_has):=⟨rfl,rfl,rfl,by decide +kernel,rfl,by decide +kernel,by decide +kernel⟩
noncomputable def sp_check_has (C:Addr):Sp:=fun vs H Q _=>∃ (x:Addr) (n:Str) (ns:List Str) (qs:List PA2),vs = [.ref x,.str n]/\WebAt C H x ns qs/\n ∈ ns/\Q .non H
theorem ok_Web_check_has (T:Tx K mg):FnOk P w K mg base CX0 1 T.mWeb_check_has.f T.mWeb_check_has.fd ["self", "name"] (sp_check_has T.CWeb):=by
 refine T.mWeb_check_has.F.ok sc_Web_check_has (fun vs H Q E h=>?_) (fun cdv A outer s H vs Q E hr h=>?_)
 ·obtain ⟨x,n,ns,qs,rfl,_⟩:=h
  rfl
 ·obtain ⟨x,n,ns,qs,rfl,⟨ok,dx,a,b,c,d,kc,kd,e1,e2,e3,e4,e5,e6,e7,e8⟩,hn,k⟩:=h
  refine ⟨_,(pss_one (ps_if (pt_cmpR (o_notInL K) (pv 1) (peF K (pv 0)) rfl) (pss_one ps_never) pss_nil)),?_⟩
  refine ex1 rfl (ex1 rfl ⟨x,T.CWeb,dx,_,ex1 rfl ⟨e1,T.clWeb,T.nWeb_names,rfl,notInL_str (.inl (SqL.of e2)) ⟨_,rfl,?_⟩⟩⟩)
  rw [decide_eq_true hn]
  exact iteF k
end
end Sw
namespace Sw
open PySem L2
section
variable {P:Program} {w:World} {K:PySem.W.Frag} {mg:Str->Option Value} {base:Heap}
theorem sc_Web_strikers:FnScope ["self", "name"] ["self", "name"] (defScope s_Web_strikers):=⟨rfl,rfl,rfl,by decide +kernel,rfl,by decide +kernel,by decide +kernel⟩
noncomputable def sp_strikers (C:Addr):Sp:=fun vs H Q _=>∃ (x:Addr) (n:Str) (ns:List Str) (qs:List PA2),vs = [.ref x,.str n]/\WebAt C H x ns qs/\n ∈ ns/\∀ l,H l = none->Q (.ref l) (upd H l (.lst ((strikersOf qs n).map V.str)))
theorem ok_Web_strikers (T:Tx K mg):FnOk P w K mg base CX0 2 T.mWeb_strikers.f T.mWeb_strikers.fd ["self", "name"] (sp_strikers T.CWeb):=by
 have G_Web_check_has:FnOk P w K mg base CX0 1 T.mWeb_check_has.f T.mWeb_check_has.fd ["self", "name"] (sp_check_has T.CWeb):=ok_Web_check_has T
 refine T.mWeb_strikers.F.ok sc_Web_strikers (fun vs H Q E h=>?_) (fun cdv A outer s H vs Q E hr h=>?_)
 ·obtain ⟨x,n,ns,qs,rfl,_⟩:=h
  rfl
 ·obtain ⟨x,n,ns,qs,rfl,hW,hn,k⟩:=h
  have hu:=hu_of hr
  obtain ⟨ok,dx,a,b,c,d,kc,kd,e1,e2,e3,e4,e5,e6,e7,e8⟩:=id hW
  refine ⟨_,(pss_cons (ps_expr (pe_meth (pv 0) T.clWeb T.mWeb_check_has.m G_Web_check_has (hr.mono (by decide)) T.mWeb_check_has.b .nil pass0 (pa_cons (pv 1) pa_nil)))
   (pss_one (ps_ret (pe_bt (cl_list K) T.b_list bt_list (pa_cons (pe_dget hu (peF K (pv 0)) (pv 1) (fun _ _=>rfl)) pa_nil))))),?_⟩
  refine ex1 rfl ⟨x,dx,ex1 rfl ⟨e1,rfl,ex1 rfl ⟨x,n,ns,qs,rfl,hW,hn,?_⟩⟩⟩
  obtain ⟨l,v,e⟩:=e7 n hn
  exact ⟨_,rfl,x,T.CWeb,dx,_,_,rfl,e1,T.clWeb,T.nWeb_strikers_by_name,rfl,_,rfl,c,_,rfl,by rw [<-v]; exact DGet.k (k:=Sum.inr n) e5,l,_,rfl,.inl (SqL.of e),k⟩
end
end Sw
namespace Sw
open PySem L2
mutual
noncomputable def Th (H:Hp):PyData->V->Prop
 | .none,v=>v = .non
 | .bool b,v=>v = .bl b
 | .int i,v=>v = .int i
 | .str x,v=>v = .str x
 | .list ds,v=>∃ a xs,v = .ref a/\H a = some (.lst xs)/\Ths H ds xs
 | .tuple ds,v=>∃ a xs,v = .ref a/\H a = some (.tup xs)/\Ths H ds xs
 | .dict _,_=>False
noncomputable def Ths (H:Hp):List PyData->List V->Prop
 | [],vs=>vs = []
 | d :: ds,vs=>∃ v r,vs = v :: r/\Th H d v/\Ths H ds r
end
mutual
theorem Th.rp {K:PySem.W.Frag} {H:Hp}:∀ {d:PyData} {v:V},Th H d v->Rp K H d v
 | .none,_,h=>by simpa [Th,Rp] using h
 | .bool _,_,h=>by simpa [Th,Rp] using h
 | .int _,_,h=>by simpa [Th,Rp] using h
 | .str _,_,h=>by simpa [Th,Rp] using h
 | .list ds,v,h=>by
  simp only [Th] at h
  obtain ⟨a,xs,rfl,e,r⟩:=h
  simp only [Rp]
  exact ⟨a,xs,rfl,SqL.of e,Ths.rp r⟩
 | .tuple ds,v,h=>by
  simp only [Th] at h
  obtain ⟨a,xs,rfl,e,r⟩:=h
  simp only [Rp]
  exact ⟨a,xs,rfl,SqT.of e,Ths.rp r⟩
 | .dict _,_,h=>by simp [Th] at h
theorem Ths.rp {K:PySem.W.Frag} {H:Hp}:∀ {ds:List PyData} {vs:List V},Ths H ds vs->Rps K H ds vs
 | [],_,h=>by simpa [Ths,Rps] using h
 | d :: ds,vs,h=>by
  simp only [Ths] at h
  obtain ⟨v,r,rfl,h1,h2⟩:=h
  simp only [Rps]
  exact ⟨v,r,rfl,Th.rp h1,Ths.rp h2⟩
end
mutual
theorem Th.same {H H':Hp} (s:Same H H'):∀ {d:PyData} {v:V},Th H d v->Th H' d v
 | .none,_,h=>by simpa [Th] using h
 | .bool _,_,h=>by simpa [Th] using h
 | .int _,_,h=>by simpa [Th] using h
 | .str _,_,h=>by simpa [Th] using h
 | .list ds,v,h=>by
  simp only [Th] at h ⊢
  obtain ⟨a,xs,rfl,e,r⟩:=h
  exact ⟨a,xs,rfl,s _ _ e,Ths.same s r⟩
 | .tuple ds,v,h=>by
  simp only [Th] at h ⊢
  obtain ⟨a,xs,rfl,e,r⟩:=h
  exact ⟨a,xs,rfl,s _ _ e,Ths.same s r⟩
 | .dict _,_,h=>by simp [Th] at h
theorem Ths.same {H H':Hp} (s:Same H H'):∀ {ds:List PyData} {vs:List V},Ths H ds vs->Ths H' ds vs
 | [],_,h=>by simpa [Ths] using h
 | d :: ds,vs,h=>by
  simp only [Ths] at h ⊢
  obtain ⟨v,r,rfl,h1,h2⟩:=h
  exact ⟨v,r,rfl,Th.same s h1,Ths.same s h2⟩
end
theorem Ths.length {H:Hp}:∀ {ds:List PyData} {vs:List V},Ths H ds vs->vs.length = ds.length
 | [],vs,h=>by
  have:vs = []:=by simpa [Ths] using h
  rw [this]; rfl
 | d :: ds,vs,h=>by
  simp only [Ths] at h
  obtain ⟨v,r,rfl,_,h2⟩:=h
  rw [List.length_cons,List.length_cons,h2.length]
noncomputable def tyD:PyData->String
 | .none => "NoneType"
 | .bool _ => "bool"
 | .int _ => "int"
 | .str _ => "str"
 | .list _ => "list"
 | .tuple _ => "tuple"
 | .dict _ => "dict"
theorem Th.ty {K:PySem.W.Frag} {H:Hp}:∀ {d:PyData} {v:V},Th H d v->TyOf K H v (.type (tyD d))
 | .none,v,h=>by
  have e:v = V.non:=by simpa [Th] using h
  rw [e]; exact .non
 | .bool b,v,h=>by
  have e:v = V.bl b:=by simpa [Th] using h
  rw [e]; exact .bl b
 | .int i,v,h=>by
  have e:v = V.int i:=by simpa [Th] using h
  rw [e]; exact .int i
 | .str x,v,h=>by
  have e:v = V.str x:=by simpa [Th] using h
  rw [e]; exact .str x
 | .list ds,v,h=>by
  simp only [Th] at h
  obtain ⟨a,xs,rfl,e,_⟩:=h
  exact .lst e
 | .tuple ds,v,h=>by
  simp only [Th] at h
  obtain ⟨a,xs,rfl,e,_⟩:=h
  exact .tup e
 | .dict _,_,h=>by simp [Th] at h
theorem kit_of {K:PySem.W.Frag} {H:Hp} {d:PyData} {v:V} (h:Th H d v) (n:String) (hn:n = "int"\/n = "bool"\/n = "str"\/n = "list"\/n = "tuple"):PySem.W.kitOne K (.type (tyD d)) (.type n) = some (decide (tyD d = n) || (decide (n = "int") && decide (tyD d = "bool"))):=by
 match d with
 | .dict _=>simp [Th] at h
 | .none=>rcases hn with rfl | rfl | rfl | rfl | rfl <;> rfl
 | .bool _=>rcases hn with rfl | rfl | rfl | rfl | rfl <;> rfl
 | .int _=>rcases hn with rfl | rfl | rfl | rfl | rfl <;> rfl
 | .str _=>rcases hn with rfl | rfl | rfl | rfl | rfl <;> rfl
 | .list _=>rcases hn with rfl | rfl | rfl | rfl | rfl <;> rfl
 | .tuple _=>rcases hn with rfl | rfl | rfl | rfl | rfl <;> rfl
noncomputable def isNum:PyData->Bool
 | .int _=>true
 | _=>false
section
variable {P:Program} {w:World} {K:PySem.W.Frag} {mg:Str->Option Value} {base:Heap}
theorem sc_is_number:FnScope ["thing"] ["thing"] (defScope s_is_number):=⟨rfl,rfl,rfl,by decide +kernel,rfl,by decide +kernel,by decide +kernel⟩
noncomputable def sp_numberA:Sp:=fun vs H Q _=>∃ (v:V) (d:PyData),vs = [v]/\Th H d v/\Q (.bl (isNum d)) H
theorem ok_is_number (T:Tx K mg):FnOk P w K mg base CX0 1 T.is_number.f T.is_number.fd ["thing"] sp_numberA:=by
 have sc:=sc_is_number
 refine T.is_number.F.ok sc_is_number (fun vs H Q E h=>?_) (fun cdv A outer s H vs Q E hr h=>?_)
 ·obtain ⟨v,d,rfl,_⟩:=h
  rfl
 ·obtain ⟨v,d,rfl,hd,q⟩:=h
  refine ⟨_,(pss_one (ps_ret (pe_and (pe_bf (cl_isin K) T.b_isinstance bt_isinstance (pa_cons (pv 0) (pa_cons (pe_ty T.b_int bt_int) pa_nil))) (pe_one (pe_not (pe_bf (cl_isin K) T.b_isinstance bt_isinstance (pa_cons (pv 0) (pa_cons (pe_ty T.b_bool bt_bool) pa_nil)))))))),?_⟩
  have k1:=kit_of (K:=K) hd "int" (.inl rfl)
  have k2:=kit_of (K:=K) hd "bool" (.inr (.inl rfl))
  refine ex1 rfl ⟨v, "int",_,_,rfl,hd.ty,k1,?_⟩
  match d,hd,q,k1,k2 with
  | .dict _,hd,_,_,_=>simp [Th] at hd
  | .int _,hd,q,_,k2=>exact ex1 rfl (iteT (ex1 rfl ⟨v, "bool",_,_,rfl,hd.ty,k2,ex1 rfl q⟩))
  | .bool _,hd,q,_,k2=>exact ex1 rfl (iteT (ex1 rfl ⟨v, "bool",_,_,rfl,hd.ty,k2,ex1 rfl q⟩))
  | .none,hd,q,_,_=>exact ex1 rfl (iteF q)
  | .str _,hd,q,_,_=>exact ex1 rfl (iteF q)
  | .list _,hd,q,_,_=>exact ex1 rfl (iteF q)
  | .tuple _,hd,q,_,_=>exact ex1 rfl (iteF q)
end
end Sw
namespace Sw
open PySem L2
theorem six {d n:Nat} (h:d < n):seqIndex? (d:Int) n = some d:=by
 unfold seqIndex?
 simp
 omega
theorem erase_perm {α:Type} {l:List α} {i:Nat} {x:α} (h:l[i]? = some x):(x :: l.eraseIdx i).Perm l:=ST.erase_perm h
theorem map_erase {α β:Type} (f:α->β):∀ (l:List α) (i:Nat),(l.map f).eraseIdx i = (l.eraseIdx i).map f
 | [],_=>rfl
 | _ :: _,0=>rfl
 | a :: l,i + 1=>by
  show f a :: (l.map f).eraseIdx i = f a :: (l.eraseIdx i).map f
  rw [map_erase f l i]
theorem names_of {all rest got:List Str} (pm:(rest ++ got).Perm all) (h1:∀ x ∈ all,nameB x = true) (h2:all.Nodup) (h3:all.length<=100):NamesOk got:=by
 refine ⟨fun x hx=>h1 x (pm.mem_iff.mp (List.mem_append_right _ hx)),?_,?_⟩
 ·exact (List.nodup_append.mp (pm.nodup_iff.mpr h2)).2.1
 ·have:=pm.length_eq
  rw [List.length_append] at this
  omega
theorem pop_perm {all rest got:List Str} {d:Nat} {x:Str} (pm:(rest ++ got).Perm all) (h:rest[d]? = some x):(rest.eraseIdx d ++ (got ++ [x])).Perm all:=by
 refine List.Perm.trans ?_ pm
 rw [<-List.append_assoc]
 refine List.perm_append_comm.trans ?_
 rw [<-List.append_assoc]
 exact (erase_perm h).append_right got
theorem Sm1 {p b:Addr} {H H':Hp} {o:HO} (h:Sm [p] H H') (e:H b = some o) (n:b ≠ p):H' b = some o:=h b o e fun z=>n (List.mem_singleton.mp z)
end Sw
namespace Sw
open PySem L2
theorem str_of {x y:Str} (h:x.cps.toList = y.cps.toList):x = y:=by
 cases x; cases y
 exact congrArg Str.mk (Array.toList_inj.mp h)
theorem leS_anti {x y:Str} (h1:leS x y) (h2:leS y x):x = y:=str_of (List.le_antisymm (as:=x.cps.toList) (bs:=y.cps.toList) h1 h2)
theorem sorted_one {a b:List Str} (h1:a.Pairwise leS) (h2:b.Pairwise leS) (h:a.Perm b):a = b:=List.Perm.eq_of_pairwise (fun _ _ _ _=>leS_anti) h1 h2 h
end Sw
namespace Sw
open PySem L2
section
variable {P:Program} {w:World} {K:PySem.W.Frag} {mg:Str->Option Value} {base:Heap}
theorem sc_law_mix:FnScope ["_law_cell", "_law_k", "_law_m"] ["_law_cell", "_law_k"] (defScope s_law_mix):=⟨rfl,rfl,rfl,by decide +kernel,rfl,by decide +kernel,by decide +kernel⟩
noncomputable def sp_mix:Sp:=fun vs H Q _=>∃ (cell k:Int),vs = [.int cell,.int k]/\0<=k/\k<=2000000/\∀ m:Int,0<=m->m < 1999999973->Q (.int m) H
theorem ok_law_mix (T:Tx K mg):FnOk P w K mg base CX0 1 T.law_mix.f T.law_mix.fd ["_law_cell", "_law_k"] sp_mix:=by
 have sc:=sc_law_mix
 refine T.law_mix.F.ok sc_law_mix (fun vs H Q E h=>?_) (fun cdv A outer s H vs Q E hr h=>?_)
 ·obtain ⟨c,k,rfl,_⟩:=h
  rfl
 ·obtain ⟨cell,k,rfl,k0,k1,q⟩:=h
  refine ⟨_,(pss_cons (ps_set (i:=2) sc.nd rfl (by first | exact Or.inl rfl | exact Or.inr rfl) (pe_op op_mod (pe_op op_mul (pe_op op_add (pe_op op_add (pe_op op_mod (pv 0) pe_int) (pe_op op_mul (pe_op op_mul (pv 1) (pv 1)) pe_int)) pe_int) pe_int) pe_int))
   (pss_one (ps_ret (pe_op op_mod (pe_op op_mul (pv 2) (pv 2)) pe_int)))),?_⟩
  refine ex1 rfl (ex2_3 rfl rfl ⟨(show (0:Int) < 2147483629 by decide),ex1 rfl (ex1 rfl (ex2_3 rfl rfl ⟨.inl ⟨by omega,by omega⟩,ex2_3 rfl rfl ⟨.inr ⟨by decide,by decide⟩,ex2_3 rfl rfl (ex2_3 rfl rfl (ex2_3 rfl rfl ⟨.inr ⟨by decide,by decide⟩,ex2_3 rfl rfl ⟨(show (0:Int) < 2147483647 by decide),?_⟩⟩))⟩⟩))⟩)
  generalize hm:(cell % 2147483629 + k * k * 7919 + 11) * 48271 % 2147483647 = m
  have h1:0<=m:=by rw [<-hm]; exact Int.emod_nonneg _ (by decide)
  have h2:m < 2147483647:=by rw [<-hm]; exact Int.emod_lt_of_pos _ (by decide)
  exact ⟨_,rfl,_,rfl,_,_,rfl,rfl,.inl ⟨by omega,by omega⟩,_,_,rfl,rfl,(show (0:Int) < 1999999973 by decide),q _ (Int.emod_nonneg _ (by decide)) (Int.emod_lt_of_pos _ (by decide))⟩
noncomputable def LeftAt (H:Hp) (p:Addr) (c:Int):Prop:=∃ a b:Int,H p = some (.lst [.int a,.int b,.int c])/\0<=c
theorem LeftAt.isS {H:Hp} {p:Addr} {c:Int} (h:LeftAt H p c):(H p).isSome = true:=by
 obtain ⟨_,_,e,_⟩:=h
 rw [e]; rfl
theorem LeftAt.get {H:Hp} {p:Addr} {c:Int} (h:LeftAt H p c):H p = some ((H p).get h.isS):=(Option.some_get _).symm
theorem LeftAt.cast {H:Hp} {p:Addr} {c c':Int} (h:LeftAt H p c) (e:c = c'):LeftAt H p c':=e ▸ h
theorem LeftAt.upd {H:Hp} {p a:Addr} {c:Int} {o:HO} (h:LeftAt H p c) (n:p ≠ a):LeftAt (L2.upd H a o) p c:=by
 obtain ⟨x,y,e,z⟩:=h
 exact ⟨x,y,by rw [upd_ne n]; exact e,z⟩
theorem LeftAt.same {H H':Hp} {p:Addr} {c:Int} (h:LeftAt H p c) (s:Same H H'):LeftAt H' p c:=by
 obtain ⟨x,y,e,z⟩:=h
 exact ⟨x,y,s _ _ e,z⟩
theorem if01 (c:Bool):-(2 ^ 64) < (if c = true then (1:Int) else 0)/\(if c = true then (1:Int) else 0) < 2 ^ 64:=by cases c <;> exact ⟨by decide,by decide⟩
theorem sc_law_left:FnScope ["_law_script", "_law_k", "_law_cell"] ["_law_script", "_law_k"] (defScope s_law_left):=⟨rfl,rfl,rfl,by decide +kernel,rfl,by decide +kernel,by decide +kernel⟩
noncomputable def sp_left (K:PySem.W.Frag):Sp:=fun vs H Q _=>∃ (p:Addr) (xs:List Int) (k:Nat),vs = [.ref p,.int (k:Int)]/\SqL K H p (xs.map V.int)/\k<=1000/\∀ l H',H l = none->Same H H'->LeftAt H' l 0->Q (.ref l) H'
theorem ok_law_left (T:Tx K mg):FnOk P w K mg base CX0 1 T.law_left.f T.law_left.fd ["_law_script", "_law_k"] (sp_left K):=by
 have sc:=sc_law_left
 refine T.law_left.F.ok sc_law_left (fun vs H Q E h=>?_) (fun cdv A outer s H vs Q E hr h=>?_)
 ·obtain ⟨p,xs,k,rfl,_⟩:=h
  rfl
 ·obtain ⟨p,xs,k,rfl,hS,hk,q⟩:=h
  refine ⟨_,(pss_cons (ps_set (i:=2) sc.nd rfl (by first | exact Or.inl rfl | exact Or.inr rfl) (pe_ifExp (pt_cmpR op_lt (pv 1) (pe_bf (cl_len K) T.b_len bt_len (pa_cons (pv 0) pa_nil)) (nomark _)) (pe_ix (ixL K) (pv 0) (pv 1) (fun _ _=>rfl)) pe_int))
   (pss_one (ps_ret (pe_lst (pa_cons (pe_op op_mul (pe_bf call_abs T.b_abs bt_abs (pa_cons (pv 2) pa_nil)) (pe_bt call_int1 T.b_int bt_int (pa_cons (pe_cmpR op_ge (pe_bf call_abs T.b_abs bt_abs (pa_cons (pv 2) pa_nil)) (pe_op op_pow pe_int pe_int) (nomark _)) pa_nil))) (pa_cons (pe_op op_add (pv 2) (pe_op op_mul pe_int (pv 1))) (pa_cons pe_int pa_nil))))))),?_⟩
  refine ex1 rfl (ex1 rfl (ex2_3 (a:=p) rfl (.inl hS) (ex2_3 rfl rfl (ex1 rfl ?_))))
  have at1:decide ((k:Int) < ((xs.map V.int).length:Int)) = true->∃ c:Int,atI (xs.map V.int) (k:Int) = some (.int c):=fun c1=>by
   have c1:(k:Int) < ((xs.map V.int).length:Int):=of_decide_eq_true c1
   rw [List.length_map] at c1
   have hk':xs[k]? = some (xs[k]'(by omega)):=List.getElem?_eq_getElem (by omega)
   exact ⟨_,atI_nat (by rw [List.getElem?_map,hk']; rfl)⟩
  refine ite2 (fun c1=>?_) (fun c1=>?_)
  ·obtain ⟨c,hc⟩:=at1 c1
   refine ex1 rfl (ex1 rfl ⟨p,_,ex2_3 rfl rfl ⟨hS,hc,?_⟩⟩)
   (repeat first | refine ⟨_,rfl,?_⟩ | refine ⟨_,_,rfl,rfl,?_⟩)
   refine ⟨⟨by decide,by decide,by decide⟩,?_⟩
   (repeat first | refine ⟨_,rfl,?_⟩ | refine ⟨_,_,rfl,rfl,?_⟩)
   refine .inr ⟨_,rfl,?_⟩
   (repeat first | refine ⟨_,rfl,?_⟩ | refine ⟨_,_,rfl,rfl,?_⟩)
   refine ⟨.inr ?_,?_⟩
   ·exact if01 _
   (repeat first | refine ⟨_,rfl,?_⟩ | refine ⟨_,_,rfl,rfl,?_⟩)
   refine ⟨.inl ⟨by decide,by decide⟩,?_⟩
   (repeat first | refine ⟨_,rfl,?_⟩ | refine ⟨_,_,rfl,rfl,?_⟩)
   exact ⟨by show 3<=sizeLine; decide,fun l hl=>q l _ hl (Same.new hl) ⟨_,_,upd_same,by decide⟩⟩
  ·(repeat first | refine ⟨_,rfl,?_⟩ | refine ⟨_,_,rfl,rfl,?_⟩)
   refine ⟨⟨by decide,by decide,by decide⟩,?_⟩
   (repeat first | refine ⟨_,rfl,?_⟩ | refine ⟨_,_,rfl,rfl,?_⟩)
   refine .inr ⟨_,rfl,?_⟩
   (repeat first | refine ⟨_,rfl,?_⟩ | refine ⟨_,_,rfl,rfl,?_⟩)
   refine ⟨.inr ?_,?_⟩
   ·exact if01 _
   (repeat first | refine ⟨_,rfl,?_⟩ | refine ⟨_,_,rfl,rfl,?_⟩)
   refine ⟨.inl ⟨by decide,by decide⟩,?_⟩
   (repeat first | refine ⟨_,rfl,?_⟩ | refine ⟨_,_,rfl,rfl,?_⟩)
   exact ⟨by show 3<=sizeLine; decide,fun l hl=>q l _ hl (Same.new hl) ⟨_,_,upd_same,by decide⟩⟩
theorem sc_law_pick:FnScope ["_law_left_here", "_law_many", "_law_digit"] ["_law_left_here", "_law_many"] (defScope s_law_pick):=⟨rfl,rfl,rfl,by decide +kernel,rfl,by decide +kernel,by decide +kernel⟩
noncomputable def sp_pick:Sp:=fun vs H Q _=>∃ (p:Addr) (c many:Int),vs = [.ref p,.int many]/\LeftAt H p c/\c<=1000000/\0 < many/\many<=1000000 /\
 ∀ (d:Nat) H',(d:Int) < many->Sm [p] H H'->LeftAt H' p (c + 1)->Q (.int (d:Int)) H'
theorem ok_law_pick (T:Tx K mg):FnOk P w K mg base CX0 2 T.law_pick.f T.law_pick.fd ["_law_left_here", "_law_many"] sp_pick:=by
 have G_law_mix:FnOk P w K mg base CX0 1 T.law_mix.f T.law_mix.fd ["_law_cell", "_law_k"] sp_mix:=ok_law_mix T
 have sc:=sc_law_pick
 refine T.law_pick.F.ok sc_law_pick (fun vs H Q E h=>?_) (fun cdv A outer s H vs Q E hr h=>?_)
 ·obtain ⟨p,c,m,rfl,_⟩:=h
  rfl
 ·obtain ⟨p,c,many,rfl,⟨a,b,e,c0⟩,c1,m0,m1,q⟩:=h
  refine ⟨_,(pss_cons (ps_asg (pe_op op_add (pe_ix (ixL K) (pv 0) pe_int (fun _ _=>rfl)) pe_int) (pg_sub (pv 0) pe_int set_list))
   (pss_cons (ps_if (pt_cmpR op_gt (pe_ix (ixL K) (pv 0) pe_int (fun _ _=>rfl)) pe_int (nomark _)) (pss_cons (ps_set (i:=2) sc.nd rfl (by first | exact Or.inl rfl | exact Or.inr rfl) (pe_op op_mod (pe_ix (ixL K) (pv 0) pe_int (fun _ _=>rfl)) (pv 1)))
   (pss_cons (ps_asg (pe_op op_fdiv (pe_ix (ixL K) (pv 0) pe_int (fun _ _=>rfl)) (pv 1)) (pg_sub (pv 0) pe_int set_list))
   (pss_one (ps_ret (pv 2))))) pss_nil)
   (pss_one (ps_ret (pe_op op_mod (pe_op op_fdiv (pe_fn T.law_mix G_law_mix (hr.mono (by decide)) (pa_cons (pe_fn T.law_mix G_law_mix (hr.mono (by decide)) (pa_cons (pe_ix (ixL K) (pv 0) pe_int (fun _ _=>rfl)) (pa_cons (pe_ix (ixL K) (pv 0) pe_int (fun _ _=>rfl)) pa_nil))) (pa_cons (pe_op op_add (pe_ix (ixL K) (pv 0) pe_int (fun _ _=>rfl)) pe_int) pa_nil))) pe_int) (pv 1)))))),?_⟩
  have nn:∀ d:Int,0<=d->d < many->∀ a' b',Q (.int d) (upd (upd H p (.lst [.int a,.int b,.int (c + 1)])) p (.lst [.int a',.int b',.int (c + 1)]))/\Q (.int d) (upd H p (.lst [.int a',.int b',.int (c + 1)])):=fun d h0 h1 a' b'=>by
   obtain ⟨n,rfl⟩:=Int.eq_ofNat_of_zero_le h0
   exact ⟨q n _ h1 (((Sm.refl _ _).upd (by simp)).upd (by simp)) ⟨a',b',upd_same,by omega⟩,q n _ h1 ((Sm.refl _ _).upd (by simp)) ⟨a',b',upd_same,by omega⟩⟩
  refine ex1 rfl ⟨p,_,ex2_3 rfl rfl ⟨SqL.of e,rfl,ex2_3 rfl rfl (ex1 rfl ⟨p,_,_,2,rfl,rfl,e,rfl,?_⟩)⟩⟩
  refine ex1 rfl ⟨p,_,ex2_3 rfl rfl ⟨SqL.of upd_same,rfl,ex2_3 rfl rfl (ex1 rfl ?_)⟩⟩
  refine ite2 (fun h1=>?_) (fun h1=>?_)
  ·have h1:(0:Int) < a:=of_decide_eq_true h1
   refine ex1 rfl ⟨p,_,ex2_3 rfl rfl ⟨SqL.of upd_same,rfl,ex1 rfl (ex2_3 rfl rfl ⟨m0,?_⟩)⟩⟩
   refine ex1 rfl ⟨p,_,ex2_3 rfl rfl ⟨SqL.of upd_same,rfl,ex1 rfl (ex2_3 rfl rfl ⟨⟨m0,by omega⟩,ex1 rfl ⟨p,_,_,0,rfl,rfl,upd_same,rfl,?_⟩⟩)⟩⟩
   exact ⟨_,rfl,(nn _ (Int.emod_nonneg _ (by omega)) (Int.emod_lt_of_pos _ m0) _ _).1⟩
  ·refine ex1 rfl ⟨p,_,ex2_3 rfl rfl ⟨SqL.of upd_same,rfl,ex1 rfl ⟨p,_,ex2_3 rfl rfl ⟨SqL.of upd_same,rfl,_,ex1 rfl ⟨by omega,by omega,fun m2 h2 h3=>?_⟩⟩⟩⟩⟩
   refine ex1 rfl ⟨p,_,ex2_3 rfl rfl ⟨SqL.of upd_same,rfl,ex2_3 rfl rfl ⟨_,ex1 rfl ⟨by omega,by omega,fun m3 h4 h5=>?_⟩⟩⟩⟩
   refine ex2_3 rfl rfl ⟨⟨by decide,by decide⟩,ex1 rfl (ex2_3 rfl rfl ⟨m0,?_⟩)⟩
   exact (nn _ (Int.emod_nonneg _ (by omega)) (Int.emod_lt_of_pos _ m0) _ _).2
end
end Sw
namespace Sw
open PySem L2
noncomputable def pd (k:Str × Str):PyData:=.tuple [.str k.1,.str k.2]
theorem nameB_ok {x:Str} (h:nameB x = true):PySem.PyData.strOk x = true:=by
 unfold nameB at h
 rw [Bool.and_eq_true] at h
 unfold PySem.PyData.strOk
 rw [<-Array.all_toList,List.all_eq_true]
 intro c hc
 have:=(List.all_eq_true.mp h.2) c hc
 unfold letB at this
 rw [Bool.and_eq_true] at this
 have:=of_decide_eq_true this.2
 exact decide_eq_true (by omega)
theorem rp_pair {K:PySem.W.Frag} {H:Hp} {t:Addr} {k:Str × Str} (h:H t = some (.tup [.str k.1,.str k.2])):Rp K H (pd k) (.ref t):=by
 unfold pd
 simp only [Rp,Rps]
 exact ⟨t,_,rfl,SqT.of h,_,_,rfl,rfl,_,_,rfl,rfl,rfl⟩
theorem rps_pairs {K:PySem.W.Frag} {H:Hp}:∀ {ps:List PA2},(∀ q ∈ ps,PairIn H q)->Rps K H (ps.map fun q=>pd q.2) (refs ps)
 | [],_=>by simp [Rps,refs]
 | q :: r,h=>by
  show Rps K H (pd q.2 :: r.map fun q=>pd q.2) (V.ref q.1 :: refs r)
  simp only [Rps]
  exact ⟨_,_,rfl,rp_pair (h q (List.mem_cons_self ..)),rps_pairs fun z hz=>h z (List.mem_cons_of_mem _ hz)⟩
theorem rp_pairs {K:PySem.W.Frag} {H:Hp} {l:Addr} {ps:List PA2} (hl:H l = some (.lst (refs ps))) (h:∀ q ∈ ps,PairIn H q):Rp K H (.list (ps.map fun q=>pd q.2)) (.ref l):=by
 simp only [Rp]
 exact ⟨l,_,rfl,SqL.of hl,rps_pairs h⟩
theorem eqv_pd (a b:Str × Str):PyData.eqv (pd a) (pd b) = decide (a = b):=by
 unfold pd
 rw [PyData.eqv,PyData.eqvAll,PyData.eqvAll,PyData.eqvAll,PyData.eqv,PyData.eqv]
 by_cases h1:a.1 = b.1
 ·by_cases h2:a.2 = b.2
  ·rw [decide_eq_true (Prod.ext h1 h2),h1,h2]; simp
  ·rw [decide_eq_false fun z=>h2 (congrArg Prod.snd z)]; simp [h2]
 ·rw [decide_eq_false fun z=>h1 (congrArg Prod.fst z)]; simp [h1]
theorem any_pairs (k:Str × Str):∀ ps:List PA2,((ps.map fun q=>pd q.2).any fun z=>PyData.eqv z (pd k)) = decide (k ∈ ps.map fun q=>q.2)
 | []=>rfl
 | q :: r=>by
  rw [List.map_cons,List.any_cons,any_pairs k r,eqv_pd,List.map_cons]
  by_cases e:q.2 = k
  ·rw [decide_eq_true e,Bool.true_or,decide_eq_true (show k ∈ q.2 :: _ from by rw [<-e]; exact List.mem_cons_self ..)]
  ·rw [decide_eq_false e,Bool.false_or]
   by_cases h:k ∈ r.map fun q=>q.2
   ·rw [decide_eq_true h,decide_eq_true (List.mem_cons_of_mem _ h)]
   ·rw [decide_eq_false h,decide_eq_false fun z=>(List.mem_cons.mp z).elim (fun z=>e z.symm) h]
theorem lay_pd {k:Str × Str} (h1:PySem.PyData.strOk k.1 = true) (h2:PySem.PyData.strOk k.2 = true):(pd k).canLay0 = true:=by
 unfold pd
 simp [PyData.canLay0,PyData.canLayAll0,h1,h2]
theorem lay_pds:∀ {ps:List PA2},(∀ q ∈ ps,PySem.PyData.strOk q.2.1 = true/\PySem.PyData.strOk q.2.2 = true)->PyData.canLayAll0 (ps.map fun q=>pd q.2) = true
 | [],_=>rfl
 | q :: r,h=>by
  rw [List.map_cons,PyData.canLayAll0,lay_pd (h q (List.mem_cons_self ..)).1 (h q (List.mem_cons_self ..)).2,lay_pds fun z hz=>h z (List.mem_cons_of_mem _ hz)]
  rfl
theorem notIn_pair {K:PySem.W.Frag} {H:Hp} {t l:Addr} {k:Str × Str} {ps:List PA2} {Q:VK} (ht:H t = some (.tup [.str k.1,.str k.2])) (hl:H l = some (.lst (refs ps))) (hp:∀ q ∈ ps,PairIn H q)
  (hk:PySem.PyData.strOk k.1 = true/\PySem.PyData.strOk k.2 = true) (hs:∀ q ∈ ps,PySem.PyData.strOk q.2.1 = true/\PySem.PyData.strOk q.2.2 = true) (q:Q (.bl (!decide (k ∈ ps.map fun q=>q.2))) H):rInD K true (.ref t) (.ref l) H Q :=
 ⟨pd k,_,rp_pair ht,.inl (rp_pairs hl hp),⟨lay_pd hk.1 hk.2,by simp [pd,PyData.depth,PyData.depthAll]⟩,lay_pds hs,by rw [if_pos rfl,any_pairs]; exact q⟩
structure FL (H:Hp) (l:Addr) (ps:List PA2) (ss:List Str):Prop where
 at_:H l = some (.lst (refs ps))
 pin:∀ q ∈ ps,PairIn H q
 nm:∀ q ∈ ps,q.2.1 ∈ ss/\q.2.2 ∈ ss
 nd:(ps.map fun q=>q.2).Nodup
theorem FL.sm {H H':Hp} {p l:Addr} {c:Int} {ps:List PA2} {ss:List Str} (h:FL H l ps ss) (L:LeftAt H p c) (n:l ≠ p) (s:Sm [p] H H'):FL H' l ps ss:=by
 obtain ⟨x,y,e,_⟩:=L
 exact ⟨Sm1 s h.at_ n,fun q hq=>Sm1 s (h.pin q hq) (ne_of (h.pin q hq) e (by intro z; cases z)),h.nm,h.nd⟩
theorem FL.new {H:Hp} {l t:Addr} {o:HO} {ps:List PA2} {ss:List Str} (h:FL H l ps ss) (n:H t = none):FL (upd H t o) l ps ss :=
 ⟨by rw [upd_ne (ne_of_none h.at_ n)]; exact h.at_,fun q hq=>by unfold PairIn; rw [upd_ne (ne_of_none (h.pin q hq) n)]; exact h.pin q hq,h.nm,h.nd⟩
theorem FL.put {H:Hp} {l t:Addr} {ps:List PA2} {ss:List Str} {x y:Str} (h:FL H l ps ss) (k:Nat) (ht:H t = some (.tup [.str x,.str y])) (hx:x ∈ ss) (hy:y ∈ ss) (hn:(x,y) ∉ ps.map fun q=>q.2) :
  FL (upd H l (.lst ((refs ps).take k ++ V.ref t :: (refs ps).drop k))) l (ps.take k ++ (t,x,y) :: ps.drop k) ss:=by
 have pm:(ps.take k ++ (t,x,y) :: ps.drop k).Perm ((t,x,y) :: ps):=by
  refine List.perm_middle.trans (List.Perm.cons _ ?_)
  rw [List.take_append_drop]
 have mm:∀ q ∈ ps.take k ++ (t,x,y) :: ps.drop k,q = (t,x,y)\/q ∈ ps:=fun q hq=>List.mem_cons.mp (pm.mem_iff.mp hq)
 refine ⟨?_,fun q hq=>?_,fun q hq=>?_,?_⟩
 ·rw [upd_same]
  unfold refs
  rw [List.map_append,List.map_take,List.map_cons,List.map_drop]
 ·unfold PairIn
  rcases mm q hq with rfl | z
  ·rw [upd_ne (ne_of ht h.at_ (by intro z; cases z))]; exact ht
  ·rw [upd_ne (ne_of (h.pin q z) h.at_ (by intro z; cases z))]; exact h.pin q z
 ·rcases mm q hq with rfl | z
  ·exact ⟨hx,hy⟩
  ·exact h.nm q z
 ·rw [(pm.map _).nodup_iff]
  show ((x,y) :: ps.map fun q=>q.2).Nodup
  exact List.nodup_cons.mpr ⟨hn,h.nd⟩
theorem FL.app {H:Hp} {l t:Addr} {ps:List PA2} {ss:List Str} {x y:Str} (h:FL H l ps ss) (ht:H t = some (.tup [.str x,.str y])) (hx:x ∈ ss) (hy:y ∈ ss) (hn:(x,y) ∉ ps.map fun q=>q.2) :
  FL (upd H l (.lst (refs ps ++ [V.ref t]))) l (ps ++ [(t,x,y)]) ss:=by
 have:=h.put ps.length ht hx hy hn
 have e:(refs ps).length = ps.length:=by unfold refs; rw [List.length_map]
 rw [<-e,List.take_length,List.drop_length,e,List.take_length,List.drop_length] at this
 exact this
theorem prod_len (ss:List Str):∀ tt:List Str,(tt.flatMap fun a=>ss.map fun b=>(a,b)).length = tt.length * ss.length
 | []=>by simp
 | a :: r=>by rw [List.flatMap_cons,List.length_append,List.length_map,prod_len ss r,List.length_cons,Nat.succ_mul]; omega
theorem FL.len {H:Hp} {l:Addr} {ps:List PA2} {ss:List Str} (h:FL H l ps ss):ps.length<=ss.length * ss.length:=by
 have:=h.nd.length_le_of_subset (l₂:=ss.flatMap fun a=>ss.map fun b=>(a,b)) (fun k hk=>by
  obtain ⟨q,hq,rfl⟩:=List.mem_map.mp hk
  obtain ⟨h1,h2⟩:=h.nm q hq
  exact List.mem_flatMap.mpr ⟨q.2.1,h1,List.mem_map.mpr ⟨q.2.2,h2,rfl⟩⟩)
 rw [prod_len,List.length_map] at this
 exact this
end Sw
namespace Sw
open PySem L2
section
variable {P:Program} {w:World} {K:PySem.W.Frag} {mg:Str->Option Value} {base:Heap}
theorem size_at (d1 d2 d:Nat) (h1:d1 < 3) (h2:d2 < 4) (h:d < 8):∃ n:Nat,n<=10/\atI [V.int (8 + (d1:Int)),V.int d2,V.int 4,V.int 5,V.int 6,V.int 7,V.int 5,V.int 6] (d:Int) = some (.int (n:Int)):=by
 suffices ∃ n:Nat,n<=10/\[V.int (8 + (d1:Int)),V.int d2,V.int 4,V.int 5,V.int 6,V.int 7,V.int 5,V.int 6][d]? = some (.int (n:Int)) by
  obtain ⟨n,h,e⟩:=this
  exact ⟨n,h,atI_nat e⟩
 match d,h with
 | 0,_=>exact ⟨8 + d1,by omega,by show some (V.int _) = _; rw [Int.natCast_add]; rfl⟩
 | 1,_=>exact ⟨d2,by omega,rfl⟩
 | 2,_=>exact ⟨4,by omega,rfl⟩
 | 3,_=>exact ⟨5,by omega,rfl⟩
 | 4,_=>exact ⟨6,by omega,rfl⟩
 | 5,_=>exact ⟨7,by omega,rfl⟩
 | 6,_=>exact ⟨5,by omega,rfl⟩
 | 7,_=>exact ⟨6,by omega,rfl⟩
theorem sc_law_size:FnScope ["_law_left_here", "_law_way"] ["_law_left_here"] (defScope s_law_size):=⟨rfl,rfl,rfl,by decide +kernel,rfl,by decide +kernel,by decide +kernel⟩
noncomputable def sp_size:Sp:=fun vs H Q _=>∃ (p:Addr) (c:Int),vs = [.ref p]/\LeftAt H p c/\c<=900000 /\
 ∀ (n:Nat) H',n<=10->Sm [p] H H'->LeftAt H' p (c + 3)->Q (.int (n:Int)) H'
theorem ok_law_size (T:Tx K mg):FnOk P w K mg base CX0 3 T.law_size.f T.law_size.fd ["_law_left_here"] sp_size:=by
 have G_law_pick:FnOk P w K mg base CX0 2 T.law_pick.f T.law_pick.fd ["_law_left_here", "_law_many"] sp_pick:=ok_law_pick T
 have sc:=sc_law_size
 refine T.law_size.F.ok sc_law_size (fun vs H Q E h=>?_) (fun cdv A outer s H vs Q E hr h=>?_)
 ·obtain ⟨p,c,rfl,_⟩:=h
  rfl
 ·obtain ⟨p,c,rfl,hL,c1,q⟩:=h
  refine ⟨_,(pss_cons (ps_set (i:=1) sc.nd rfl (by first | exact Or.inl rfl | exact Or.inr rfl) (pe_fn T.law_pick G_law_pick (hr.mono (by decide)) (pa_cons (pv 0) (pa_cons pe_int pa_nil))))
   (pss_one (ps_ret (pe_ix (ixL K) (pe_lst (pa_cons (pe_op op_add pe_int (pe_fn T.law_pick G_law_pick (hr.mono (by decide)) (pa_cons (pv 0) (pa_cons pe_int pa_nil)))) (pa_cons (pe_fn T.law_pick G_law_pick (hr.mono (by decide)) (pa_cons (pv 0) (pa_cons pe_int pa_nil))) (pa_cons pe_int (pa_cons pe_int (pa_cons pe_int (pa_cons pe_int (pa_cons pe_int (pa_cons pe_int pa_nil))))))))) (pv 1) (fun _ _=>rfl))))),?_⟩
  refine ex1 rfl (ex3_6 (a:=p) rfl hL (by omega) (by decide) (by decide) fun d H1 hd k1 L1=>?_)
  refine ex1 rfl (ex3_6 (a:=p) rfl L1 (by omega) (by decide) (by decide) fun d1 H2 hd1 k2 L2=>?_)
  refine ex2_3 rfl rfl ?_
  refine ex1 rfl (ex3_6 (a:=p) rfl L2 (by omega) (by decide) (by decide) fun d2 H3 hd2 k3 L3=>?_)
  refine ⟨by show 8<=sizeLine; decide,fun l hl=>?_⟩
  obtain ⟨n,hn,e⟩:=size_at d1 d2 d (by omega) (by omega) (by omega)
  have e3:=L3.get
  refine ex1 rfl ⟨l,_,ex2_3 rfl rfl ⟨SqL.of upd_same,e,?_⟩⟩
  exact q n _ hn (((k1.trans k2).trans k3).new hl) ((L3.cast (by omega)).upd (ne_of_none e3 hl))
end
end Sw
namespace Sw
open PySem L2
section
variable {P:Program} {w:World} {K:PySem.W.Frag} {mg:Str->Option Value} {base:Heap}
theorem LeftAt.ne {H:Hp} {p n:Addr} {c:Int} {ss:List Str} (h:LeftAt H p c) (hn:H n = some (.lst (ss.map V.str))):n ≠ p:=by
 rintro rfl
 obtain ⟨a,b,e,_⟩:=h
 rw [hn] at e
 cases ss with
 | nil=>cases e
 | cons x r=>cases e
theorem LeftAt.neP {H:Hp} {p n:Addr} {c:Int} {ss:List PA2} (h:LeftAt H p c) (hn:H n = some (.lst (refs ss))):n ≠ p:=by
 rintro rfl
 obtain ⟨a,b,e,_⟩:=h
 rw [hn] at e
 cases ss with
 | nil=>cases e
 | cons x r=>cases e
theorem often_at (d:Nat) (h:d < 4):∃ n:Nat,0 < n/\n<=9/\atI [V.int 4,V.int 6,V.int 9,V.int 3] (d:Int) = some (.int (n:Int)):=by
 suffices ∃ n:Nat,0 < n/\n<=9/\[V.int 4,V.int 6,V.int 9,V.int 3][d]? = some (.int (n:Int)) by
  obtain ⟨n,h1,h2,e⟩:=this
  exact ⟨n,h1,h2,atI_nat e⟩
 match d,h with
 | 0,_=>exact ⟨4,by omega,by omega,rfl⟩
 | 1,_=>exact ⟨6,by omega,by omega,rfl⟩
 | 2,_=>exact ⟨9,by omega,by omega,rfl⟩
 | 3,_=>exact ⟨3,by omega,by omega,rfl⟩
theorem sc_law_strikes:FnScope ["_law_left_here", "_law_names", "_law_found", "_law_often", "_law_one", "_law_other"] ["_law_left_here", "_law_names"] (defScope s_law_strikes):=⟨rfl,rfl,rfl,by decide +kernel,rfl,by decide +kernel,by decide +kernel⟩
noncomputable def sp_strikes (K:PySem.W.Frag):Sp:=fun vs H Q _=>∃ (p n:Addr) (c:Int) (ss:List Str),vs = [.ref p,.ref n]/\LeftAt H p c/\c<=900000/\H n = some (.lst (ss.map V.str))/\NamesOk ss/\ss.length<=10 /\
 ∀ l (ps:List PA2) c' H',H l = none->Sm [p] H H'->H' l = some (.lst (refs ps))->(∀ q ∈ ps,PairIn H' q)->StrkOk ss ps->c'<=c + 1000->LeftAt H' p c'->Q (.ref l) H'
noncomputable def SI (H:Hp) (p f:Addr) (ss:List Str) (b:Int) (H1:Hp):Prop:=Sm [p] H H1/\(∃ c',c'<=b/\LeftAt H1 p c')/\∃ ps,FL H1 f ps ss
set_option maxHeartbeats 4000000 in
theorem ok_law_strikes (T:Tx K mg):FnOk P w K mg base CX0 3 T.law_strikes.f T.law_strikes.fd ["_law_left_here", "_law_names"] (sp_strikes K):=by
 have G_law_pick:FnOk P w K mg base CX0 2 T.law_pick.f T.law_pick.fd ["_law_left_here", "_law_many"] sp_pick:=ok_law_pick T
 have sc:=sc_law_strikes
 refine T.law_strikes.F.ok sc_law_strikes (fun vs H Q E h=>?_) (fun cdv A outer s H vs Q E hr h=>?_)
 ·obtain ⟨p,n,c,ss,rfl,_⟩:=h
  rfl
 ·obtain ⟨p,n,c,ss,rfl,hL,c1,hn,hN,hlen,q⟩:=h
  obtain ⟨a0,b0,e0,c0⟩:=id hL
  refine ⟨_,(pss_cons (ps_set (i:=2) sc.nd rfl (by first | exact Or.inl rfl | exact Or.inr rfl) (pe_lst pa_nil))
   (pss_cons (ps_set (i:=3) sc.nd rfl (by first | exact Or.inl rfl | exact Or.inr rfl) (pe_ix (ixL K) (pe_lst (pa_cons pe_int (pa_cons pe_int (pa_cons pe_int (pa_cons pe_int pa_nil))))) (pe_fn T.law_pick G_law_pick (hr.mono (by decide)) (pa_cons (pv 0) (pa_cons pe_int pa_nil))) (fun _ _=>rfl)))
   (pss_cons (ps_for PassesOwn.never rfl (piL K (pv 1)) (pg_name (i:=4) sc.nd rfl (by first | exact Or.inl rfl | exact Or.inr rfl))
   (pss_cons (ps_for PassesOwn.never rfl (piL K (pv 1)) (pg_name (i:=5) sc.nd rfl (by first | exact Or.inl rfl | exact Or.inr rfl))
   (pss_one (ps_if (PW.pt (pw_and (pt_cmpR op_ne (pv 4) (pv 5) (nomark _)) (pw_and (pt_cmpR op_eq (pe_fn T.law_pick G_law_pick (hr.mono (by decide)) (pa_cons (pv 0) (pa_cons (pv 3) pa_nil))) pe_int (nomark _)) (pw_and1 (pt_cmpR (o_notInD K hr.units) (pe_tup (pa_cons (pv 4) (pa_cons (pv 5) pa_nil))) (pv 2) rfl))))) (pss_cons (ps_expr (peBM K PySem.F.plainAttrs_list PySem.F.slot_list_insert PySem.F.type_list_insert mt_insert (pv 2) (pa_cons (pe_fn T.law_pick G_law_pick (hr.mono (by decide)) (pa_cons (pv 0) (pa_cons (pe_op op_add (pe_bf (cl_len K) T.b_len bt_len (pa_cons (pv 2) pa_nil)) pe_int) pa_nil))) (pa_cons (pe_tup (pa_cons (pv 4) (pa_cons (pv 5) pa_nil))) pa_nil))))
   (pss_one (ps_if (PW.pt (pw_and (pt_cmpR op_eq (pe_fn T.law_pick G_law_pick (hr.mono (by decide)) (pa_cons (pv 0) (pa_cons pe_int pa_nil))) pe_int (nomark _)) (pw_and1 (pt_cmpR (o_notInD K hr.units) (pe_tup (pa_cons (pv 5) (pa_cons (pv 4) pa_nil))) (pv 2) rfl)))) (pss_one (ps_expr (peBM K PySem.F.plainAttrs_list PySem.F.slot_list_append PySem.F.type_list_append mt_append (pv 2) (pa_cons (pe_tup (pa_cons (pv 5) (pa_cons (pv 4) pa_nil))) pa_nil)))) pss_nil))) pss_nil)))
   (pss_one (ps_if (PW.pt (pw_and (pt_cmpR op_eq (pe_fn T.law_pick G_law_pick (hr.mono (by decide)) (pa_cons (pv 0) (pa_cons pe_int pa_nil))) pe_int (nomark _)) (pw_and1 (pt_cmpR (o_notInD K hr.units) (pe_tup (pa_cons (pv 4) (pa_cons (pv 4) pa_nil))) (pv 2) rfl)))) (pss_one (ps_expr (peBM K PySem.F.plainAttrs_list PySem.F.slot_list_append PySem.F.type_list_append mt_append (pv 2) (pa_cons (pe_tup (pa_cons (pv 4) (pa_cons (pv 4) pa_nil))) pa_nil)))) pss_nil))))
   (pss_one (ps_ret (pv 2)))))),?_⟩
  refine ⟨Nat.zero_le _,fun f hf=>?_⟩
  have npf:p ≠ f:=ne_of_none e0 hf
  have nnf:n ≠ f:=ne_of_none hn hf
  have nnp:n ≠ p:=hL.ne hn
  have nnD:n ∉ [p]:=by simpa using nnp
  have nm:∀ x ∈ ss,PySem.PyData.strOk x = true:=fun x hx=>nameB_ok (hN.1 x hx)
  refine ⟨by show 4<=sizeLine; decide,fun t ht=>?_⟩
  have s1:Same H (upd (upd H f (.lst [])) t (.lst [.int 4,.int 6,.int 9,.int 3])):=(Same.new hf).trans (Same.new ht)
  have ef:(upd (upd H f (.lst [])) t (.lst [.int 4,.int 6,.int 9,.int 3])) f = some (.lst []):=by rw [upd_ne (ne_of_none upd_same ht),upd_same]
  refine ex1 rfl (ex3_6 (a:=p) (b:=c) rfl (hL.same s1) (by omega) (by decide) (by decide) fun d H1 hd k1 L1=>?_)
  obtain ⟨often,o1,o2,eo⟩:=often_at d (by omega)
  have hpt:p ≠ t:=ne_of_none ((Same.new hf) _ _ e0) ht
  refine ⟨t,_,ex2_3 rfl rfl ⟨SqL.of (Sm1 k1 upd_same hpt.symm),eo,?_⟩⟩
  have i0:SI H p f ss (c + 1) H1:=⟨s1.sm.trans k1,⟨_,Int.le_refl _,L1⟩,[],Sm1 k1 ef npf.symm,by simp,by simp,by simp⟩
  have hseq:∀ {H1 b},SI H p f ss b H1->SqL K H1 n (ss.map V.str):=fun h=>(h.1.at nnD).seqL (SqL.of hn)
  refine ex1 rfl ⟨n,rfl,⟨_,hseq i0⟩,?_⟩
  refine for_asG (asL (K:=K) (SqL.of hn)) (fun i σ H1=>(∃ v4 v5,σ = [some (.ref p),some (.ref n),some (.ref f),some (.int (often:Int)),v4,v5])/\SI H p f ss (c + 1 + 31 * i) H1) ?_ ?_ ?_ ?_
  ·exact ⟨⟨_,_,rfl⟩,by simpa using i0⟩
  ·rintro i σ H1 hi ⟨_,h1⟩
   exact h1.1.at nnD
  ·rintro i σ H1 x hx ⟨⟨v4,v5,rfl⟩,h1⟩ D1 hD1 _
   rw [List.getElem?_map] at hx
   obtain ⟨one,ho,rfl⟩:∃ y,ss[i]? = some y/\V.str y = x:=by
    cases e:ss[i]? with
    | none=>rw [e] at hx; cases hx
    | some y=>rw [e] at hx; exact ⟨y,rfl,by injection hx⟩
   have hone:one ∈ ss:=List.mem_of_getElem? ho
   have hi:i < ss.length:=(List.getElem?_eq_some_iff.mp ho).1
   refine ex1 rfl ⟨n,rfl,⟨_,hseq h1⟩,?_⟩
   refine for_asG (asL (K:=K) (SqL.of hn)) (fun j σ H1=>(∃ v5,σ = [some (.ref p),some (.ref n),some (.ref f),some (.int (often:Int)),some (.str one),v5])/\SI H p f ss (c + 1 + 31 * i + 3 * j) H1) ?_ ?_ ?_ ?_
   ·exact ⟨⟨_,rfl⟩,by simpa using h1⟩
   ·rintro i σ H1 hi ⟨_,h1⟩
    exact h1.1.at nnD
   ·rintro j σ H1 x hx ⟨⟨v5,rfl⟩,h1⟩ D2 hD2 _
    rw [List.getElem?_map] at hx
    obtain ⟨oth,ho,rfl⟩:∃ y,ss[j]? = some y/\V.str y = x:=by
     cases e:ss[j]? with
     | none=>rw [e] at hx; cases hx
     | some y=>rw [e] at hx; exact ⟨y,rfl,by injection hx⟩
    have hoth:oth ∈ ss:=List.mem_of_getElem? ho
    have hj:j < ss.length:=(List.getElem?_eq_some_iff.mp ho).1
    obtain ⟨k1,⟨c',hc',L1⟩,ps,F1⟩:=h1
    have done:∀ {H2 c2 ps2},Sm [p] H H2->c2<=c' + 3->LeftAt H2 p c2->FL H2 f ps2 ss->SI H p f ss (c + 1 + 31 * i + 3 * ((j + 1:Nat):Int)) H2:=fun {H2 c2 ps2} a b d e=>⟨a,⟨c2,by omega,d⟩,ps2,e⟩
    refine ex1 rfl (ex1 rfl ⟨rfl,ex1 rfl ?_⟩)
    refine ite2 (fun h1=>?_) (fun h1=>iteF (hD2 _ _ ⟨⟨_,rfl⟩,done k1 (by omega) L1 F1⟩))
    refine ex1 rfl (ex1 rfl (ex3_6 (a:=p) (b:=c') rfl L1 (by omega) (by omega) (by omega) fun d1 H2 hd1 k2 L2=>⟨rfl,_,rfl,?_⟩))
    have F2:=F1.sm L1 npf.symm k2
    refine ite2 (fun h2=>?_) (fun h2=>iteF (hD2 _ _ ⟨⟨_,rfl⟩,done (k1.trans k2) (by omega) L2 F2⟩))
    refine ex1 rfl (ex1 rfl ⟨by show 2<=sizeLine; decide,fun t2 ht2=>?_⟩)
    have F3:=F2.new (o:=.tup [.str one,.str oth]) ht2
    have e2:=L2.get
    have L3:=L2.upd (o:=.tup [.str one,.str oth]) (ne_of_none e2 ht2)
    have k3:=(k1.trans k2).new (o:=.tup [.str one,.str oth]) ht2
    refine ex1 rfl (notIn_pair (k:=(one,oth)) upd_same F3.at_ F3.pin ⟨nm _ hone,nm _ hoth⟩ (fun q hq=>⟨nm _ (F3.nm q hq).1,nm _ (F3.nm q hq).2⟩) ⟨_,rfl,?_⟩)
    refine ite2 (fun h3=>?_) (fun h3=>hD2 _ _ ⟨⟨_,rfl⟩,done k3 (by omega) L3 F3⟩)
    have h3':(one,oth) ∉ ps.map fun q=>q.2:=by simpa using h3
    have lps:=F3.len
    have lps':ps.length<=100:=Nat.le_trans lps (Nat.mul_le_mul hlen hlen)
    have rl:(refs ps).length = ps.length:=by unfold refs; rw [List.length_map]
    refine ex1 rfl ⟨.inl ⟨rfl,_,SqL.of F3.at_⟩,ex1 rfl (ex1 rfl (ex2_3 (a:=f) rfl (.inl (SqL.of F3.at_)) (ex2_3 rfl rfl (ex3_6 (a:=p) (b:=c' + 1) rfl L3 (by omega) (by omega) (by omega) fun d2 H4 hd2 k4 L4=>?_))))⟩
    have F4:=F3.sm L3 npf.symm k4
    refine ex1 rfl (ex1 rfl ⟨by show 2<=sizeLine; decide,fun t3 ht3=>?_⟩)
    have F5:=F4.new (o:=.tup [.str one,.str oth]) ht3
    have e4:=L4.get
    have L5:=L4.upd (o:=.tup [.str one,.str oth]) (ne_of_none e4 ht3)
    have k5:=(k3.trans k4).new (o:=.tup [.str one,.str oth]) ht3
    refine ⟨f,_,_,d2,ex1 rfl ⟨rfl,rfl,F5.at_,by omega,by rw [sizeLine_eq]; omega,?_⟩⟩
    have F6:=F5.put d2 upd_same hone hoth h3'
    have L6:=L5.upd (o:=.lst ((refs ps).take d2 ++ V.ref t3 :: (refs ps).drop d2)) npf
    have k6:=k5.updN (o:=.lst ((refs ps).take d2 ++ V.ref t3 :: (refs ps).drop d2)) hf
    generalize hps:ps.take d2 ++ (t3,one,oth) :: ps.drop d2 = ps' at F6
    refine ex1 rfl (ex3_6 (a:=p) rfl L6 (by omega) (by decide) (by decide) fun d3 H7 hd3 k7 L7=>⟨rfl,_,rfl,?_⟩)
    have F7:=F6.sm L6 npf.symm k7
    refine ite2 (fun h4=>?_) (fun h4=>iteF (hD2 _ _ ⟨⟨_,rfl⟩,done (k6.trans k7) (by omega) L7 F7⟩))
    refine ex1 rfl (ex1 rfl ⟨by show 2<=sizeLine; decide,fun t4 ht4=>?_⟩)
    have F8:=F7.new (o:=.tup [.str oth,.str one]) ht4
    have e7:=L7.get
    have L8:=L7.upd (o:=.tup [.str oth,.str one]) (ne_of_none e7 ht4)
    have k8:=(k6.trans k7).new (o:=.tup [.str oth,.str one]) ht4
    refine ex1 rfl (notIn_pair (k:=(oth,one)) upd_same F8.at_ F8.pin ⟨nm _ hoth,nm _ hone⟩ (fun q hq=>⟨nm _ (F8.nm q hq).1,nm _ (F8.nm q hq).2⟩) ⟨_,rfl,?_⟩)
    refine ite2 (fun h5=>?_) (fun h5=>hD2 _ _ ⟨⟨_,rfl⟩,done k8 (by omega) L8 F8⟩)
    have h5':(oth,one) ∉ ps'.map fun q=>q.2:=by simpa using h5
    have lps:=F8.len
    have lps':ps'.length<=100:=Nat.le_trans lps (Nat.mul_le_mul hlen hlen)
    have rl:(refs ps').length = ps'.length:=by unfold refs; rw [List.length_map]
    refine ex1 rfl ⟨.inl ⟨rfl,_,SqL.of F8.at_⟩,ex1 rfl (ex1 rfl ⟨by show 2<=sizeLine; decide,fun t5 ht5=>?_⟩)⟩
    have F9:=F8.new (o:=.tup [.str oth,.str one]) ht5
    have e8:=L8.get
    have L9:=L8.upd (o:=.tup [.str oth,.str one]) (ne_of_none e8 ht5)
    have k9:=k8.new (o:=.tup [.str oth,.str one]) ht5
    refine ⟨f,ex2_3 rfl rfl ⟨F9.at_,by rw [sizeLine_eq]; omega,hD2 _ _ ⟨⟨_,rfl⟩,done (k9.updN hf) (by omega) (L9.upd npf) (F9.app upd_same hoth hone h5')⟩⟩⟩
   ·rintro σ H1 ⟨⟨v5,rfl⟩,k1,⟨c',hc',L1⟩,ps,F1⟩
    simp only [List.length_map] at hc'
    have done:∀ {H2 c2 ps2},Sm [p] H H2->c2<=c' + 1->LeftAt H2 p c2->FL H2 f ps2 ss->SI H p f ss (c + 1 + 31 * ((i + 1:Nat):Int)) H2:=fun {H2 c2 ps2} a b d e=>⟨a,⟨c2,by omega,d⟩,ps2,e⟩
    refine ex1 rfl (ex3_6 (a:=p) (b:=c') rfl L1 (by omega) (by decide) (by decide) fun d3 H7 hd3 k7 L7=>⟨rfl,_,rfl,?_⟩)
    have F7:=F1.sm L1 npf.symm k7
    refine ite2 (fun h4=>?_) (fun h4=>iteF (hD1 _ _ ⟨⟨_,_,rfl⟩,done (k1.trans k7) (by omega) L7 F7⟩))
    refine ex1 rfl (ex1 rfl ⟨by show 2<=sizeLine; decide,fun t4 ht4=>?_⟩)
    have F8:=F7.new (o:=.tup [.str one,.str one]) ht4
    have e7:=L7.get
    have L8:=L7.upd (o:=.tup [.str one,.str one]) (ne_of_none e7 ht4)
    have k8:=(k1.trans k7).new (o:=.tup [.str one,.str one]) ht4
    refine ex1 rfl (notIn_pair (k:=(one,one)) upd_same F8.at_ F8.pin ⟨nm _ hone,nm _ hone⟩ (fun q hq=>⟨nm _ (F8.nm q hq).1,nm _ (F8.nm q hq).2⟩) ⟨_,rfl,?_⟩)
    refine ite2 (fun h5=>?_) (fun h5=>hD1 _ _ ⟨⟨_,_,rfl⟩,done k8 (by omega) L8 F8⟩)
    have h5':(one,one) ∉ ps.map fun q=>q.2:=by simpa using h5
    have lps:=F8.len
    have lps':ps.length<=100:=Nat.le_trans lps (Nat.mul_le_mul hlen hlen)
    have rl:(refs ps).length = ps.length:=by unfold refs; rw [List.length_map]
    refine ex1 rfl ⟨.inl ⟨rfl,_,SqL.of F8.at_⟩,ex1 rfl (ex1 rfl ⟨by show 2<=sizeLine; decide,fun t5 ht5=>?_⟩)⟩
    have F9:=F8.new (o:=.tup [.str one,.str one]) ht5
    have e8:=L8.get
    have L9:=L8.upd (o:=.tup [.str one,.str one]) (ne_of_none e8 ht5)
    have k9:=k8.new (o:=.tup [.str one,.str one]) ht5
    refine ⟨f,ex2_3 rfl rfl ⟨F9.at_,by rw [sizeLine_eq]; omega,hD1 _ _ ⟨⟨_,_,rfl⟩,done (k9.updN hf) (by omega) (L9.upd npf) (F9.app upd_same hone hone h5')⟩⟩⟩
  ·rintro σ H1 ⟨⟨v4,v5,rfl⟩,k1,⟨c',hc',L1⟩,ps,F1⟩
   simp only [List.length_map] at hc'
   have lps:=F1.len
   have lps':ps.length<=100:=Nat.le_trans lps (Nat.mul_le_mul hlen hlen)
   exact ⟨_,rfl,q f ps c' H1 hf k1 F1.at_ F1.pin ⟨F1.nm,F1.nd,by omega⟩ (by omega) L1⟩
end
end Sw
namespace Sw
open PySem L2
noncomputable def allA:List Str:=["b", "aa", "zebra", "c", "quartzes", "ab", "m", "knows", "d", "mm", "likes", "z", "a", "ba", "abcdefgh", "y", "zz", "e", "x", "f"]
noncomputable abbrev txtA:Str := "b aa zebra c quartzes ab m knows d mm likes z a ba abcdefgh y zz e x f"
noncomputable def allB:List Str:=["g", "hh", "i", "jj", "k", "ll", "say", "strike", "fact", "back"]
noncomputable abbrev txtB:Str := "g hh i jj k ll say strike fact back"
theorem splitA (Q:VK) (H:Hp) (h:∀ l,H l = none->Q (.ref l) (upd H l (.lst (allA.map V.str)))):rSplit (.str txtA) [.str " "] H Q:=⟨txtA, " ",allA,rfl,rfl,by decide +kernel,by decide +kernel,by decide +kernel,by decide +kernel,by decide +kernel,by decide +kernel,h⟩
theorem splitB (Q:VK) (H:Hp) (h:∀ l,H l = none->Q (.ref l) (upd H l (.lst (allB.map V.str)))):rSplit (.str txtB) [.str " "] H Q:=⟨txtB, " ",allB,rfl,rfl,by decide +kernel,by decide +kernel,by decide +kernel,by decide +kernel,by decide +kernel,by decide +kernel,h⟩
theorem allAB_ok:(∀ x ∈ allA ++ allB,nameB x = true)/\(allA ++ allB).Nodup:=⟨by decide +kernel,by decide +kernel⟩
section
variable {P:Program} {w:World} {K:PySem.W.Frag} {mg:Str->Option Value} {base:Heap}
theorem sc_law_many_names:FnScope ["_law_left_here", "_law_many", "_law_some", "_law_names", "_law_k"] ["_law_left_here", "_law_many"] (defScope s_law_many_names):=⟨rfl,rfl,rfl,by decide +kernel,rfl,by decide +kernel,by decide +kernel⟩
noncomputable def sp_many:Sp:=fun vs H Q _=>∃ (p:Addr) (c:Int) (many:Nat),vs = [.ref p,.int (many:Int)]/\LeftAt H p c/\c<=900000/\many<=30 /\
 ∀ l (ss:List Str) H',H l = none->Sm [p] H H'->H' l = some (.lst (ss.map V.str))->ss.length = many->NamesOk ss->LeftAt H' p (c + many)->Q (.ref l) H'
set_option maxHeartbeats 4000000 in
theorem ok_law_many_names (T:Tx K mg):FnOk P w K mg base CX0 3 T.law_many_names.f T.law_many_names.fd ["_law_left_here", "_law_many"] sp_many:=by
 have G_law_pick:FnOk P w K mg base CX0 2 T.law_pick.f T.law_pick.fd ["_law_left_here", "_law_many"] sp_pick:=ok_law_pick T
 have sc:=sc_law_many_names
 refine T.law_many_names.F.ok sc_law_many_names (fun vs H Q E h=>?_) (fun cdv A outer s H vs Q E hr h=>?_)
 ·obtain ⟨p,c,m,rfl,_⟩:=h
  rfl
 ·obtain ⟨p,c,many,rfl,hL,c1,m1,q⟩:=h
  refine ⟨_,(pss_cons (ps_set (i:=2) sc.nd rfl (by first | exact Or.inl rfl | exact Or.inr rfl) (peBM K PySem.F.plainAttrs_str PySem.F.slot_str_split PySem.F.type_str_split mt_split pe_str (pa_cons pe_str pa_nil)))
   (pss_cons (ps_set (i:=2) sc.nd rfl (by first | exact Or.inl rfl | exact Or.inr rfl) (pe_op op_cat (pv 2) (peBM K PySem.F.plainAttrs_str PySem.F.slot_str_split PySem.F.type_str_split mt_split pe_str (pa_cons pe_str pa_nil))))
   (pss_cons (ps_set (i:=3) sc.nd rfl (by first | exact Or.inl rfl | exact Or.inr rfl) (pe_lst pa_nil))
   (pss_cons (ps_for PassesOwn.never rfl (piR1 T.b_range (pa_cons (pv 1) pa_nil)) (pg_name (i:=4) sc.nd rfl (by first | exact Or.inl rfl | exact Or.inr rfl))
   (pss_one (ps_expr (peBM K PySem.F.plainAttrs_list PySem.F.slot_list_append PySem.F.type_list_append mt_append (pv 3) (pa_cons (peBM K PySem.F.plainAttrs_list PySem.F.slot_list_pop PySem.F.type_list_pop mt_popAt (pv 2) (pa_cons (pe_fn T.law_pick G_law_pick (hr.mono (by decide)) (pa_cons (pv 0) (pa_cons (pe_bf (cl_len K) T.b_len bt_len (pa_cons (pv 2) pa_nil)) pa_nil))) pa_nil)) pa_nil)))))
   (pss_one (ps_ret (pv 3))))))),?_⟩
  refine seq_gen fun N1 hN1=>?_
  refine ⟨rfl,?_⟩
  dsimp only [tCons,tC,tNil]
  refine splitA _ _ fun a0 ha0=>?_
  refine hN1 _ _ (seq_gen fun N2 hN2=>?_)
  refine ex1 rfl ⟨rfl,?_⟩
  dsimp only [tCons,tC,tNil]
  refine splitB _ _ fun b0 hb0=>?_
  have s2:=Same.new (o:=.lst (allA.map V.str)) ha0
  have s3:=Same.new (o:=.lst (allB.map V.str)) hb0
  refine ⟨a0,b0,_,_,rfl,rfl,s3 _ _ upd_same,upd_same,by decide,fun a ha=>?_⟩
  have s4:=(s2.trans s3).trans (Same.new (o:=.lst (allA.map V.str ++ allB.map V.str)) ha)
  have e4:(upd (upd (upd H a0 (.lst (allA.map V.str))) b0 (.lst (allB.map V.str))) a (.lst (allA.map V.str ++ allB.map V.str))) a = some (.lst ((allA ++ allB).map V.str)):=by rw [upd_same,List.map_append]
  have ha1:H a = none:=(s2.trans s3).free ha
  generalize upd (upd (upd H a0 (.lst (allA.map V.str))) b0 (.lst (allB.map V.str))) a (.lst (allA.map V.str ++ allB.map V.str)) = H4 at s4 e4 ⊢
  have L4:=hL.same s4
  refine hN2 _ _ (seq_gen fun N3 hN3=>?_)
  refine ⟨Nat.zero_le _,fun n hn=>?_⟩
  have s5:=Same.new (o:=.lst []) hn
  have L5:=L4.same s5
  have n5:(upd H4 n (.lst [])) n = some (.lst []):=upd_same
  have e5:=s5 _ _ e4
  have nan:a ≠ n:=ne_of_none e4 hn
  have npa:p ≠ a:=ne_of_none hL.get ha1
  have npn:p ≠ n:=ne_of_none L4.get hn
  have hn1:H n = none:=s4.free hn
  have s15:=s4.trans s5
  generalize upd H4 n (.lst []) = H5 at s5 L5 n5 e5 s15 ⊢
  refine hN3 _ _ (seq_gen fun N4 hN4=>?_)
  refine ex1 rfl (ex1 rfl ⟨by omega,by omega,?_⟩)
  rw [Int.toNat_natCast]
  have al:(allA ++ allB).length = 30:=rfl
  refine for_rangeG (fun i σ H7=>(∃ v4,σ = [some (.ref p),some (.int (many:Int)),some (.ref a),some (.ref n),v4])/\Sm [p] H H7/\LeftAt H7 p (c + i)/\∃ rest got:List Str,H7 a = some (.lst (rest.map V.str))/\H7 n = some (.lst (got.map V.str))/\(rest ++ got).Perm (allA ++ allB)/\got.length = i) ?_ ?_ ?_
  ·exact ⟨⟨_,rfl⟩,s15.sm,L5.cast (by omega),_,[],e5,n5,by rw [List.append_nil],rfl⟩
  ·rintro i σ H7 hi ⟨⟨v4,rfl⟩,k7,L7,rest,got,ea,eb,pm,hg⟩ D1 hD1 _
   have hlen:rest.length = 30 - i:=by
    have:=pm.length_eq
    rw [List.length_append,hg,al] at this
    omega
   refine ex1 rfl ⟨.inl ⟨rfl,_,SqL.of eb⟩,ex1 rfl ⟨.inl ⟨rfl,_,SqL.of ea⟩,ex1 rfl (ex1 rfl (ex2_3 (a:=a) rfl (.inl (SqL.of ea)) (ex3_6 (a:=p) rfl L7 (by omega) ?_ ?_ fun d H8 hd k8 L8=>?_)))⟩⟩
   ·rw [List.length_map]; omega
   ·rw [List.length_map]; omega
   rw [List.length_map] at hd
   have hd':d < rest.length:=by omega
   have hx:rest[d]? = some rest[d]:=List.getElem?_eq_getElem hd'
   have ea2:=Sm1 k8 ea npa.symm
   have eb2:=Sm1 k8 eb npn.symm
   refine ⟨a,_,_,d,.str rest[d],rfl,rfl,ea2,by omega,by omega,six (by rw [List.length_map]; exact hd'),by rw [List.getElem?_map,hx]; rfl,n,ex2_3 rfl rfl ⟨by rw [upd_ne nan.symm]; exact eb2,?_,?_⟩⟩
   ·rw [List.length_map,sizeLine_eq]; omega
   refine hD1 _ _ ⟨⟨_,rfl⟩,?_,?_,rest.eraseIdx d,got ++ [rest[d]],?_,?_,pop_perm pm hx,by rw [List.length_append,hg]; rfl⟩
   ·exact ((k7.trans k8).updN ha1).updN hn1
   ·exact ((L8.cast (by omega)).upd npa).upd npn
   ·rw [upd_ne nan,upd_same,map_erase]
   ·rw [upd_same,List.map_append]; rfl
  ·rintro σ H7 ⟨⟨v4,rfl⟩,k7,L7,rest,got,ea,eb,pm,hg⟩
   exact hN4 _ _ (ex1 rfl (q n got H7 hn1 k7 eb hg (names_of pm allAB_ok.1 allAB_ok.2 (by omega)) L7))
end
end Sw
namespace Sw
open PySem L2
theorem pair_sm {H H':Hp} {p:Addr} {c:Int} {q:PA2} (h:PairIn H q) (L:LeftAt H p c) (s:Sm [p] H H'):PairIn H' q:=by
 obtain ⟨x,y,e,_⟩:=L
 exact Sm1 s h (ne_of h e (by intro z; cases z))
end Sw
namespace Sw
open PySem L2
theorem WebAt.sm {C:Addr} {H H':Hp} {x p:Addr} {c:Int} {ns:List Str} {qs:List PA2} (h:WebAt C H x ns qs) (L:LeftAt H p c) (s:Sm [p] H H'):WebAt C H' x ns qs:=by
 obtain ⟨ok,dx,a,b,c,d,kc,kd,e1,e2,e3,e4,e5,e6,e7,e8⟩:=h
 obtain ⟨y,z,e0,_⟩:=id L
 have k:∀ {b:Addr} {o:HO},H b = some o->o ≠ .lst [.int y,.int z,.int _]->H' b = some o:=fun e n=>Sm1 s e (ne_of e e0 n)
 exact ⟨ok,dx,a,b,c,d,kc,kd,k e1 (by intro z; cases z),Sm1 s e2 (L.ne e2),Sm1 s e3 (L.neP e3),fun q hq=>pair_sm (e4 q hq) L s,k e5 (by intro z; cases z),k e6 (by intro z; cases z),fun n hn=>let ⟨l,v,e⟩:=e7 n hn; ⟨l,v,Sm1 s e (L.ne e)⟩,fun n hn=>let ⟨l,v,e⟩:=e8 n hn; ⟨l,v,Sm1 s e (L.ne e)⟩⟩
noncomputable def sd (ss:List Str):PyData:=.list (ss.map PyData.str)
theorem rps_strs {K:PySem.W.Frag} {H:Hp}:∀ ss:List Str,Rps K H (ss.map PyData.str) (ss.map V.str)
 | []=>by simp [Rps]
 | x :: r=>by
  simp only [List.map_cons,Rps,Rp]
  exact ⟨_,_,rfl,rfl,rps_strs r⟩
theorem rp_strs {K:PySem.W.Frag} {H:Hp} {l:Addr} {ss:List Str} (h:SqL K H l (ss.map V.str)):Rp K H (sd ss) (.ref l):=by
 unfold sd
 simp only [Rp]
 exact ⟨l,_,rfl,h,rps_strs ss⟩
theorem depth_strs:∀ ss:List Str,PyData.depthAll (ss.map PyData.str)<=1
 | []=>by simp [PyData.depthAll]
 | x :: r=>by
  have:=depth_strs r
  simp only [List.map_cons,PyData.depthAll,PyData.depth]
  omega
theorem lay_strs:∀ {ss:List Str},(∀ x ∈ ss,PySem.PyData.strOk x = true)->PyData.canLayAll0 (ss.map PyData.str) = true
 | [],_=>rfl
 | x :: r,h=>by
  rw [List.map_cons,PyData.canLayAll0,lay_strs fun z hz=>h z (List.mem_cons_of_mem _ hz)]
  simp [PyData.canLay0,h x (List.mem_cons_self ..)]
theorem pl_strs {ss:List Str} (h:∀ x ∈ ss,nameB x = true):Pl (sd ss):=by
 refine ⟨?_,?_⟩
 ·unfold sd
  rw [PyData.canLay0]
  exact lay_strs fun x hx=>nameB_ok (h x hx)
 ·unfold sd
  rw [PyData.depth]
  have:=depth_strs ss
  omega
end Sw
namespace Sw
open PySem L2
theorem eqvAll_strs:∀ a b:List Str,PyData.eqvAll (a.map PyData.str) (b.map PyData.str) = decide (a = b)
 | [],[]=>by simp [PyData.eqvAll]
 | [],_ :: _=>by simp [PyData.eqvAll]
 | _ :: _,[]=>by simp [PyData.eqvAll]
 | x :: a,y :: b=>by
  rw [List.map_cons,List.map_cons,PyData.eqvAll,eqvAll_strs a b,PyData.eqv]
  by_cases h1:x = y
  ·by_cases h2:a = b
   ·rw [decide_eq_true h2,h1,h2]; simp
   ·rw [decide_eq_false h2]; simp [h2]
  ·simp [h1]
theorem eqv_sd (a b:List Str):PyData.eqv (sd a) (sd b) = decide (a = b):=by
 unfold sd
 rw [PyData.eqv,eqvAll_strs]
end Sw
namespace Sw
open PySem L2
theorem lc_filter {K:PySem.W.Frag} {a D:Addr} {ts:List Str} {r:St} {tc:TT} {H:Hp} {Q:St->Hp->Prop} (p:Str->Bool) (e:H a = some (.lst (ts.map V.str))) (len:ts.length<=1000) (hD:H D = none)
  (ht:∀ y ∈ ts,∀ H1,Same H H1->∀ Q':Bool->Hp->Prop,(∀ H2,Same H1 H2->Q' (p y) H2)->tc (some (.str y) :: r) H1 Q') (h:∀ σ H2,Same H H2->H2 D = some (.lst ((ts.filter p).map V.str))->Q σ H2) (v0:Option V) :
  Loop (gName 0) tc (emLst D (tVar 0)) (Itl K a) (v0 :: r) (upd H D (.lst [])) Q:=by
 refine loop_as (asL (K:=K) (SqL.of e)) (fun i σ H3=>(∃ v,σ = v :: r)/\Same H H3/\H3 D = some (.lst (((ts.take i).filter p).map V.str)))
  ⟨⟨_,rfl⟩,Same.new hD,upd_same⟩ (fun i σ H1 _ ⟨_,s1,_⟩=>s1.at a) ?_ ?_
 ·rintro i σ H3 v N hx ⟨⟨v0,rfl⟩,s3,e3⟩ hN
  rw [List.getElem?_map] at hx
  obtain ⟨y,hy,rfl⟩:=Option.map_eq_some_iff.mp hx
  refine ht y (List.mem_of_getElem? hy) H3 s3 _ fun H4 s4=>?_
  have e3:=s4 _ _ e3
  have s3:=s3.trans s4
  have hs:(ts.take (i + 1)).filter p = (ts.take i).filter p ++ if p y = true then [y] else []:=by
   rw [take_succ hy,List.filter_append,List.filter_cons,List.filter_nil]
  have hl:(((ts.take i).filter p).map V.str).length<=1000:=by
   rw [List.length_map]
   have:=List.length_filter_le p (ts.take i)
   rw [List.length_take] at this
   omega
  refine ite2 (fun c=>ex1 rfl ⟨_,e3,by rw [sizeLine_eq]; omega,hN _ _ ⟨⟨_,rfl⟩,s3.upd hD,?_⟩⟩) (fun c=>hN _ _ ⟨⟨_,rfl⟩,s3,?_⟩)
  ·rw [upd_same,hs,if_pos c,List.map_append]; rfl
  ·rw [hs,if_neg c,List.append_nil]; exact e3
 ·rintro σ H3 ⟨_,s3,e3⟩
  rw [List.length_map,List.take_length] at e3
  exact h σ H3 s3 e3
end Sw
namespace Sw
open PySem L2
noncomputable abbrev wIn:Str := "in"
noncomputable abbrev wOut:Str := "out"
noncomputable abbrev wOpen:Str := "open"
noncomputable def WD (kvs:List (Key × V)) (f:Str->Option Str):Prop:=∀ n,valV kvs (.inr n) = (f n).map V.str
noncomputable def putW (f:Str->Option Str) (l:List Str) (w:Str) (n:Str):Option Str:=if n ∈ l then some w else f n
theorem putW_in {f:Str->Option Str} {l:List Str} {w n:Str} (h:n ∈ l):putW f l w n = some w:=if_pos h
theorem putW_out {f:Str->Option Str} {l:List Str} {w n:Str} (h:n ∉ l):putW f l w n = f n:=if_neg h
theorem WD.mrg {w:Str}:∀ {l:List Str} {kvs:List (Key × V)} {f:Str->Option Str},WD kvs f->WD (mrgK kvs (l.map fun n=>(Sum.inr n,V.str w))) (putW f l w)
 | [],_,_,h=>fun n=>by rw [putW_out List.not_mem_nil]; exact h n
 | a :: l,kvs,f,h=>fun n=>by
  have h1:WD (putK kvs (.inr a) (.str w)) (putW f [a] w):=fun m=>by
   rw [val_put]
   by_cases e:m = a
   ·rw [if_pos e,putW_in (List.mem_singleton.mpr e)]; rfl
   ·rw [if_neg e,putW_out fun z=>e (List.mem_singleton.mp z)]; exact h m
  refine (WD.mrg (l:=l) h1 n).trans ?_
  by_cases e:n ∈ l
  ·rw [putW_in e,putW_in (List.mem_cons_of_mem _ e)]
  ·rw [putW_out e]
   by_cases e':n = a
   ·rw [putW_in (List.mem_singleton.mpr e'),putW_in (e' ▸ List.mem_cons_self ..)]
   ·rw [putW_out fun z=>e' (List.mem_singleton.mp z),putW_out fun z=>(List.mem_cons.mp z).elim e' e]
noncomputable def allOut (qs:List PA2) (f:Str->Option Str) (n:Str):Bool:=((strikersOf qs n).map fun y=>decide (f y = some wOut)).all id
noncomputable def oneIn (qs:List PA2) (f:Str->Option Str) (n:Str):Bool:=((strikersOf qs n).map fun y=>decide (f y = some wIn)).any id
theorem oneIn_iff {qs:List PA2} {f:Str->Option Str} {n:Str}:oneIn qs f n = true ↔ ∃ y ∈ strikersOf qs n,f y = some wIn:=by
 unfold oneIn
 rw [List.any_map,List.any_eq_true]
 exact ⟨fun ⟨y,hy,h⟩=>⟨y,hy,of_decide_eq_true h⟩,fun ⟨y,hy,h⟩=>⟨y,hy,decide_eq_true h⟩⟩
theorem lc_map {K:PySem.W.Frag} {a D:Addr} {ts:List Str} {r:St} {te:TE} {H:Hp} {Q:St->Hp->Prop} (g:Str->V) (e:H a = some (.lst (ts.map V.str))) (len:ts.length<=1000) (hD:H D = none)
  (ht:∀ y ∈ ts,∀ H1,Same H H1->∀ Q':VK,(∀ H2,Same H1 H2->Q' (g y) H2)->te (some (.str y) :: r) H1 Q') (h:∀ σ H2,Same H H2->H2 D = some (.lst (ts.map g))->Q σ H2) (v0:Option V) :
  Loop (gName 0) tTrue (emLst D te) (Itl K a) (v0 :: r) (upd H D (.lst [])) Q:=by
 refine loop_as (asL (K:=K) (SqL.of e)) (fun i σ H3=>(∃ v,σ = v :: r)/\Same H H3/\H3 D = some (.lst ((ts.take i).map g)))
  ⟨⟨_,rfl⟩,Same.new hD,upd_same⟩ (fun i σ H1 _ ⟨_,s1,_⟩=>s1.at a) ?_ ?_
 ·rintro i σ H3 v N hx ⟨⟨v0,rfl⟩,s3,e3⟩ hN
  rw [List.getElem?_map] at hx
  obtain ⟨y,hy,rfl⟩:=Option.map_eq_some_iff.mp hx
  have hi:=(List.getElem?_eq_some_iff.mp hy).1
  refine g_true (ht y (List.mem_of_getElem? hy) H3 s3 _ fun H4 s4=>⟨_,s4 _ _ e3,?_,hN _ _ ⟨⟨_,rfl⟩,(s3.trans s4).upd hD,?_⟩⟩)
  ·rw [List.length_map,List.length_take,sizeLine_eq]; omega
  ·rw [upd_same,take_succ hy,List.map_append]; rfl
 ·rintro σ H3 ⟨_,s3,e3⟩
  rw [List.length_map,List.take_length] at e3
  exact h σ H3 s3 e3
theorem lc_bools {K:PySem.W.Frag} {a D:Addr} {ts:List Str} {r:St} {te:TE} {H:Hp} {Q:St->Hp->Prop} (p:Str->Bool) (e:H a = some (.lst (ts.map V.str))) (len:ts.length<=1000) (hD:H D = none)
  (ht:∀ y ∈ ts,∀ H1,Same H H1->∀ Q':VK,(∀ H2,Same H1 H2->Q' (.bl (p y)) H2)->te (some (.str y) :: r) H1 Q') (h:∀ σ H2,Same H H2->H2 D = some (.lst ((ts.map p).map V.bl))->Q σ H2) (v0:Option V) :
  Loop (gName 0) tTrue (emLst D te) (Itl K a) (v0 :: r) (upd H D (.lst [])) Q:=lc_map (fun y=>V.bl (p y)) e len hD ht (fun σ H2 s2 e2=>h σ H2 s2 (by rw [e2,List.map_map]; rfl)) v0
noncomputable abbrev Row:Type:=Str × Str × V
noncomputable def RL (H:Hp) (l:Addr) (rs:List (Addr × Row)):Prop:=H l = some (.lst (rs.map fun q=>V.ref q.1))/\∀ q ∈ rs,H q.1 = some (.tup [.str q.2.1,.str q.2.2.1,q.2.2.2])
theorem RL.same {H H':Hp} {l:Addr} {rs:List (Addr × Row)} (h:RL H l rs) (s:Same H H'):RL H' l rs:=⟨s _ _ h.1,fun q hq=>s _ _ (h.2 q hq)⟩
theorem RL.app {H H':Hp} {a b c:Addr} {rs ts:List (Addr × Row)} (h:RL H a rs) (h':RL H b ts) (e:H' c = some (.lst ((rs.map fun q=>V.ref q.1) ++ ts.map fun q=>V.ref q.1))) (k:∀ q o,H q = some (.tup o)->H' q = some (.tup o)):RL H' c (rs ++ ts) :=
 ⟨by rw [e,List.map_append],fun q hq=>k _ _ ((List.mem_append.mp hq).elim (h.2 q) (h'.2 q))⟩
theorem lc_tups {K:PySem.W.Frag} {a D:Addr} {ts:List Str} {ta:TA} {r:St} {H:Hp} {Q:St->Hp->Prop} {tc:TT} (p:Str->Bool) (g:Str->List V) (hg:∀ y,(g y).length<=3) (e:H a = some (.lst (ts.map V.str))) (len:ts.length<=1000) (hD:H D = none) (h3:∀ y H1 (Q':List V->Hp->Prop),Q' (g y) H1->ta (some (.str y) :: r) H1 Q')
  (ht:∀ y ∈ ts,∀ H1,Same H H1->∀ Q':Bool->Hp->Prop,Q' (p y) H1->tc (some (.str y) :: r) H1 Q')
  (h:∀ σ (rs:List (Addr × Str)) H2,Same H H2->H2 D = some (.lst (rs.map fun q=>V.ref q.1))->(∀ q ∈ rs,H2 q.1 = some (.tup (g q.2)))->rs.map (fun q=>q.2) = ts.filter p->Q σ H2) (v0:Option V) :
  Loop (gName 0) tc (emLst D (tTup ta)) (Itl K a) (v0 :: r) (upd H D (.lst [])) Q:=by
 refine loop_as (asL (K:=K) (SqL.of e)) (fun i σ H3=>(∃ v,σ = v :: r)/\Same H H3/\∃ rs:List (Addr × Str),H3 D = some (.lst (rs.map fun q=>V.ref q.1))/\(∀ q ∈ rs,H3 q.1 = some (.tup (g q.2)))/\rs.map (fun q=>q.2) = (ts.take i).filter p)
  ⟨⟨_,rfl⟩,Same.new hD,[],upd_same,fun q h=>absurd h List.not_mem_nil,rfl⟩ (fun i σ H1 _ ⟨_,s1,_⟩=>s1.at a) ?_ ?_
 ·rintro i σ H3 v N hx ⟨⟨v0,rfl⟩,s3,rs,L3,t3,q3⟩ hN
  rw [List.getElem?_map] at hx
  obtain ⟨y,hy,rfl⟩:=Option.map_eq_some_iff.mp hx
  have hi:=(List.getElem?_eq_some_iff.mp hy).1
  have lr:=congrArg List.length q3
  rw [List.length_map] at lr
  have lf:=List.length_filter_le p (ts.take i)
  rw [List.length_take] at lf
  have hs:(ts.take (i + 1)).filter p = (ts.take i).filter p ++ if p y = true then [y] else []:=by
   rw [take_succ hy,List.filter_append,List.filter_cons,List.filter_nil]
  refine ht y (List.mem_of_getElem? hy) H3 s3 _ ?_
  refine ite2 (fun c=>h3 _ _ _ ⟨Nat.le_trans (hg y) (by show 3<=sizeLine; decide),fun t ht=>?_⟩) (fun c=>hN _ _ ⟨⟨_,rfl⟩,s3,rs,L3,t3,by rw [hs,if_neg c,List.append_nil]; exact q3⟩)
  have u4:=Same.new (o:=.tup (g y)) ht
  have ntD:t ≠ D:=(ne_of_none L3 ht).symm
  refine ⟨_,u4 _ _ L3,by rw [List.length_map,sizeLine_eq]; omega,hN _ _ ⟨⟨_,rfl⟩,(s3.trans u4).upd hD,rs ++ [(t,y)],by rw [upd_same,List.map_append]; rfl,fun q hq=>?_,by rw [hs,if_pos c,List.map_append,q3]; rfl⟩⟩
  rcases List.mem_append.mp hq with c | c
  ·exact (upd_ne (ne_of (t3 q c) L3 (by intro z; cases z))).trans (u4 _ _ (t3 q c))
  ·rw [List.mem_singleton.mp c]
   exact (upd_ne ntD).trans upd_same
 ·rintro σ H3 ⟨_,s3,rs,L3,t3,q3⟩
  rw [List.length_map,List.take_length] at q3
  exact h σ rs H3 s3 L3 t3 q3
theorem lc_rows {K:PySem.W.Frag} {a D:Addr} {ts:List Str} {w:Str} {v3:V} {t3:TE} {r:St} {H:Hp} {Q:St->Hp->Prop} {tc:TT} (p:Str->Bool) (e:H a = some (.lst (ts.map V.str))) (len:ts.length<=1000) (hD:H D = none) (h3:∀ y H1 (Q':VK),Q' v3 H1->t3 (some (.str y) :: r) H1 Q')
  (ht:∀ y ∈ ts,∀ H1,Same H H1->∀ Q':Bool->Hp->Prop,Q' (p y) H1->tc (some (.str y) :: r) H1 Q')
  (h:∀ σ rs H2,Same H H2->RL H2 D rs->rs.map (fun q=>q.2) = (ts.filter p).map (fun n=>(n,w,v3))->Q σ H2) (v0:Option V) :
  Loop (gName 0) tc (emLst D (tTup (tCons (tVar 0) (tCons (tC (.str w)) (tCons t3 tNil))))) (Itl K a) (v0 :: r) (upd H D (.lst [])) Q :=
 lc_tups p (fun y=>[.str y,.str w,v3]) (fun _=>Nat.le_refl _) e len hD (fun y H1 Q' hq=>⟨_,rfl,h3 _ _ _ hq⟩) ht (fun σ rs H2 s2 e2 t2 q2=>h σ (rs.map fun q=>(q.1,q.2,w,v3)) H2 s2 ⟨by rw [e2,List.map_map]; rfl,fun q hq=>let ⟨z,hz,e⟩:=List.mem_map.mp hq; e ▸ t2 z hz⟩ (by rw [<-q2,List.map_map,List.map_map]; rfl)) v0
theorem filter_all {l:List Str}:l.filter (fun _=>true) = l:=List.filter_eq_self.mpr fun _ _=>rfl
end Sw
namespace Sw
open PySem L2
noncomputable def LT (b:Bool) (xs:List V):HO:=bif b then .lst xs else .tup xs
theorem or_LT {H:Hp} {l:Addr} {xs:List V}:∀ {b:Bool},H l = some (LT b xs)->H l = some (.lst xs)\/H l = some (.tup xs)
 | true,h=>.inl h
 | false,h=>.inr h
theorem sqs_LT {K:PySem.W.Frag} {H:Hp} {l:Addr} {xs:List V} {b:Bool} (h:H l = some (LT b xs)):Sqs K H l xs:=(or_LT h).imp SqL.of SqT.of
noncomputable def isinA (K:PySem.W.Frag):List V->Hp->VK->Prop:=fun xs H Q=>isinT K xs H Q\/∃ (x:V) (p:Addr) (ns:List String) (b:Bool) (T:String),xs = [x,.ref p]/\H p = some (.tup (ns.map V.ty))/\((x = .non/\T = "NoneType")\/∃ i,x = .int i/\T = "int")/\PySem.W.kitAny K (.type T) (ns.map Value.type) = some b/\Q (.bl b) H
theorem cl_isinA {X:Cx} (K:PySem.W.Frag) (hK:X.K = K:=by rfl):CallR X (.builtin "isinstance") (isinA K):=by
 subst hK
 intro pins s σ H xs us Q I r h
 rcases h with h | ⟨x,p,ns,b,T,rfl,hp,ht,he,q⟩
 ·exact cl_isinT X.K rfl pins s σ H xs us Q I r h
 obtain ⟨u,v,rfl,ru,rv⟩:=r.two
 cases rv
 obtain ⟨its,rv,⟨⟨oc,od,odt,osl⟩,ho,hc,n,hd⟩,hz⟩:=I.tuple (SqT.of hp)
 rw [vals_ty rv] at hd
 cases hc
 cases hd
 rcases ht with ⟨rfl,rfl⟩ | ⟨i,rfl,rfl⟩
 ·cases ru
  exact PySem.W.kia_tup PySem.W.kitx_none I.kIn True.intro ho he (fun z=>nomatch z) fun tk=>⟨.bl b,H,I.tok _,rfl,q⟩
 ·obtain ⟨t,rfl⟩:=(show ∃ t,u = Value.int i t from ru)
  exact PySem.W.kia_tup PySem.W.kitx_int I.kIn True.intro ho he (fun z=>nomatch z) fun tk=>⟨.bl b,H,I.tok _,rfl,q⟩
end Sw
namespace Sw
open PySem L2
noncomputable def isinU (K:PySem.W.Frag):List V->Hp->VK->Prop:=fun xs H Q=>isinA K xs H Q\/∃ (x:Bool) (p:Addr) (ns:List String) (b:Bool),xs = [.bl x,.ref p]/\H p = some (.tup (ns.map V.ty))/\PySem.W.kitAny K (.type "bool") (ns.map Value.type) = some b/\Q (.bl b) H
theorem cl_isinU {X:Cx} (K:PySem.W.Frag) (hK:X.K = K:=by rfl):CallR X (.builtin "isinstance") (isinU K):=by
 subst hK
 intro pins s σ H xs us Q I r h
 rcases h with h | ⟨x,p,ns,b,rfl,hp,he,q⟩
 ·exact cl_isinA X.K rfl pins s σ H xs us Q I r h
 obtain ⟨u,v,rfl,ru,rv⟩:=r.two
 cases rv
 obtain ⟨its,rv,⟨⟨oc,od,odt,osl⟩,ho,hc,n,hd⟩,hz⟩:=I.tuple (SqT.of hp)
 rw [vals_ty rv] at hd
 cases hc
 cases hd
 cases ru
 exact PySem.W.kia_tup PySem.W.kitx_bool I.kIn True.intro ho he (fun z=>nomatch z) fun tk=>⟨.bl b,H,I.tok _,rfl,q⟩
noncomputable def isLs:PyData->Bool
 | .list _=>true
 | .tuple _=>true
 | _=>false
theorem isin_ls {K:PySem.W.Frag} {H:Hp} {d:PyData} {v:V} {t:Addr} {Q:VK} (h:Th H d v) (ht:H t = some (.tup (["list", "tuple"].map V.ty))) (q:Q (.bl (isLs d)) H):isinU K [v,.ref t] H Q:=by
 match d,h,q with
 | .dict _,h,_=>simp [Th] at h
 | .none,h,q =>
  have e:v = V.non:=by simpa [Th] using h
  subst e
  exact .inl (.inr ⟨.non,t,["list", "tuple"],false, "NoneType",rfl,ht,.inl ⟨rfl,rfl⟩,rfl,q⟩)
 | .int i,h,q =>
  have e:v = V.int i:=by simpa [Th] using h
  subst e
  exact .inl (.inr ⟨.int i,t,["list", "tuple"],false, "int",rfl,ht,.inr ⟨i,rfl,rfl⟩,rfl,q⟩)
 | .bool b,h,q =>
  have e:v = V.bl b:=by simpa [Th] using h
  subst e
  exact .inr ⟨b,t,["list", "tuple"],false,rfl,ht,rfl,q⟩
 | .str x,h,q =>
  have e:v = V.str x:=by simpa [Th] using h
  subst e
  exact .inl (.inl ⟨.str x,t,["list", "tuple"],_,false,rfl,ht,.str x,.inl ⟨x,rfl⟩,rfl,q⟩)
 | .list ds,h,q =>
  simp only [Th] at h
  obtain ⟨a,xs,rfl,e,_⟩:=h
  exact .inl (.inl ⟨.ref a,t,["list", "tuple"],_,true,rfl,ht,.lst e,.inr ⟨a,xs,rfl,.inl e⟩,rfl,q⟩)
 | .tuple ds,h,q =>
  simp only [Th] at h
  obtain ⟨a,xs,rfl,e,_⟩:=h
  exact .inl (.inl ⟨.ref a,t,["list", "tuple"],_,true,rfl,ht,.tup e,.inr ⟨a,xs,rfl,.inr e⟩,rfl,q⟩)
noncomputable def is3:PyData->Bool
 | .tuple ds=>decide (ds.length = 3)
 | _=>false
section
variable {P:Program} {w:World} {K:PySem.W.Frag} {mg:Str->Option Value} {base:Heap}
theorem sc_is_listed:FnScope ["thing"] ["thing"] (defScope s_is_listed):=⟨rfl,rfl,rfl,by decide +kernel,rfl,by decide +kernel,by decide +kernel⟩
noncomputable def sp_listedA:Sp:=fun vs H Q _=>∃ (v:V) (d:PyData),vs = [v]/\Th H d v/\∀ H',Same H H'->Q (.bl (isLs d)) H'
theorem ok_is_listed (T:Tx K mg):FnOk P w K mg base CX0 1 T.is_listed.f T.is_listed.fd ["thing"] sp_listedA:=by
 have sc:=sc_is_listed
 refine T.is_listed.F.ok sc_is_listed (fun vs H Q E h=>?_) (fun cdv A outer s H vs Q E hr h=>?_)
 ·obtain ⟨v,d,rfl,_⟩:=h
  rfl
 ·obtain ⟨v,d,rfl,hd,q⟩:=h
  refine ⟨_,(pss_one (ps_ret (pe_bf (cl_isinU K) T.b_isinstance bt_isinstance (pa_cons (pv 0) (pa_cons (pe_tup (pa_cons (pe_ty T.b_list bt_list) (pa_cons (pe_ty T.b_tuple bt_tuple) pa_nil))) pa_nil))))),?_⟩
  refine ex1 rfl ⟨by show 2<=sizeLine; decide,fun t ht=>?_⟩
  have s1:=Same.new (o:=.tup [.ty "list",.ty "tuple"]) ht
  exact isin_ls (hd.same s1) upd_same (q _ s1)
theorem sc_is_row_of:FnScope ["thing", "many"] ["thing", "many"] (defScope s_is_row_of):=⟨rfl,rfl,rfl,by decide +kernel,rfl,by decide +kernel,by decide +kernel⟩
noncomputable def sp_row_ofA:Sp:=fun vs H Q _=>∃ (v:V) (d:PyData),vs = [v,.int 3]/\Th H d v/\Q (.bl (is3 d)) H
theorem ok_is_row_of (T:Tx K mg):FnOk P w K mg base CX0 1 T.is_row_of.f T.is_row_of.fd ["thing", "many"] sp_row_ofA:=by
 have sc:=sc_is_row_of
 refine T.is_row_of.F.ok sc_is_row_of (fun vs H Q E h=>?_) (fun cdv A outer s H vs Q E hr h=>?_)
 ·obtain ⟨v,d,rfl,_⟩:=h
  rfl
 ·obtain ⟨v,d,rfl,hd,q⟩:=h
  refine ⟨_,(pss_one (ps_ret (pe_and (pe_bf (cl_isin K) T.b_isinstance bt_isinstance (pa_cons (pv 0) (pa_cons (pe_ty T.b_tuple bt_tuple) pa_nil))) (pe_one (pe_cmpR op_eq (pe_bf (cl_len K) T.b_len bt_len (pa_cons (pv 0) pa_nil)) (pv 1) (nomark _)))))),?_⟩
  have k1:=kit_of (K:=K) hd "tuple" (.inr (.inr (.inr (.inr rfl))))
  refine ex1 rfl ⟨v, "tuple",_,_,rfl,hd.ty,k1,?_⟩
  match d,hd,q,k1 with
  | .dict _,hd,_,_=>simp [Th] at hd
  | .none,_,q,_=>exact ex1 rfl (iteF q)
  | .int _,_,q,_=>exact ex1 rfl (iteF q)
  | .bool _,_,q,_=>exact ex1 rfl (iteF q)
  | .str _,_,q,_=>exact ex1 rfl (iteF q)
  | .list _,_,q,_=>exact ex1 rfl (iteF q)
  | .tuple ds,hd,q,_ =>
   simp only [Th] at hd
   obtain ⟨a,xs,rfl,e,r⟩:=hd
   refine ex1 rfl (iteT (ex1 rfl (ex2_3 (a:=a) rfl (.inr (SqT.of e)) (ex1 rfl ⟨rfl,?_⟩))))
   show Q (V.bl (decide (V.int (xs.length:Int) = V.int 3))) H
   have e3:decide (V.int (xs.length:Int) = V.int 3) = is3 (.tuple ds):=by
    show _ = decide (ds.length = 3)
    rw [r.length]
    exact decide_eq_decide.mpr ⟨fun z=>by injection z with z; omega,fun z=>by rw [z]; rfl⟩
   rw [e3]
   exact q
noncomputable def isNon:PyData->Bool
 | .none=>true
 | _=>false
noncomputable def isRowD (ns:List Str):PyData->Bool
 | .tuple [a,b,c]=>((ns.map PyData.str).any fun z=>PyData.eqv z a) && (if PyData.eqv b (.str wOpen) = true then isNon c else ([.str wIn,.str wOut].any fun z=>PyData.eqv z b) && isNum c)
 | _=>false
theorem is3_of {d:PyData} {ns:List Str} (h:¬ is3 d = true):isRowD ns d = false:=by
 match d with
 | .tuple [a,b,c]=>exact absurd rfl h
 | .tuple []=>rfl
 | .tuple [_]=>rfl
 | .tuple [_,_]=>rfl
 | .tuple (_ :: _ :: _ :: _ :: _)=>rfl
 | .none=>rfl
 | .bool _=>rfl
 | .int _=>rfl
 | .str _=>rfl
 | .list _=>rfl
 | .dict _=>rfl
theorem is3_get {d:PyData} (h:is3 d = true):∃ a b c,d = .tuple [a,b,c]:=by
 match d,h with
 | .tuple [a,b,c],_=>exact ⟨a,b,c,rfl⟩
 | .tuple [],h=>simp [is3] at h
 | .tuple [_],h=>simp [is3] at h
 | .tuple [_,_],h=>simp [is3] at h
 | .tuple (_ :: _ :: _ :: _ :: _),h=>simp [is3] at h
theorem th3 {H:Hp} {a b c:PyData} {v:V} (h:Th H (.tuple [a,b,c]) v):∃ p x y z,v = .ref p/\H p = some (.tup [x,y,z])/\Th H a x/\Th H b y/\Th H c z:=by
 simp only [Th,Ths] at h
 obtain ⟨p,xs,rfl,e,x,r1,rfl,h1,y,r2,rfl,h2,z,r3,rfl,h3,rfl⟩:=h
 exact ⟨p,x,y,z,rfl,e,h1,h2,h3⟩
theorem pl_str {x:Str} (h:PySem.PyData.strOk x = true):Pl (.str x):=⟨by rw [PyData.canLay0]; exact h,by rw [PyData.depth]; decide⟩
theorem rp_list {K:PySem.W.Frag} {H:Hp} {l:Addr}:∀ {ns:List Str},Rps K H (ns.map PyData.str) (ns.map V.str)
 | []=>by simp [Rps]
 | n :: r=>by
  rw [List.map_cons,List.map_cons]
  simp only [Rps]
  exact ⟨_,_,rfl,by simp only [Rp],rp_list (l:=l)⟩
theorem lay_list:∀ {ns:List Str},(∀ x ∈ ns,PySem.PyData.strOk x = true)->PyData.canLayAll0 (ns.map PyData.str) = true
 | [],_=>rfl
 | n :: r,h=>by
  rw [List.map_cons,PyData.canLayAll0,PyData.canLay0,h n (List.mem_cons_self ..),lay_list fun x hx=>h x (List.mem_cons_of_mem _ hx)]; rfl
theorem non_iff {H:Hp} {d:PyData} {v:V} (h:Th H d v):decide (v = V.non) = isNon d:=by
 match d,h with
 | .none,h=>exact decide_eq_true (by simpa [Th] using h)
 | .bool b,h=>rw [show v = V.bl b by simpa [Th] using h]; rfl
 | .int b,h=>rw [show v = V.int b by simpa [Th] using h]; rfl
 | .str b,h=>rw [show v = V.str b by simpa [Th] using h]; rfl
 | .list ds,h =>
  simp only [Th] at h
  obtain ⟨a,xs,rfl,_⟩:=h
  rfl
 | .tuple ds,h =>
  simp only [Th] at h
  obtain ⟨a,xs,rfl,_⟩:=h
  rfl
 | .dict _,h=>simp [Th] at h
theorem sc_is_row:FnScope ["names", "row"] ["names", "row"] (defScope s_is_row):=⟨rfl,rfl,rfl,by decide +kernel,rfl,by decide +kernel,by decide +kernel⟩
noncomputable def sp_is_rowA:Sp:=fun vs H Q _=>∃ (l:Addr) (v:V) (ns:List Str) (d:PyData),vs = [.ref l,v]/\H l = some (.lst (ns.map V.str))/\(∀ y ∈ ns,nameB y = true)/\Th H d v/\(∀ a b c,d = .tuple [a,b,c]->Pl a/\Pl b)/\∀ H',Same H H'->Q (.bl (isRowD ns d)) H'
set_option maxHeartbeats 1000000 in
theorem ok_is_row (T:Tx K mg):FnOk P w K mg base CX0 2 T.is_row.f T.is_row.fd ["names", "row"] sp_is_rowA:=by
 have G_is_row_of:FnOk P w K mg base CX0 1 T.is_row_of.f T.is_row_of.fd ["thing", "many"] sp_row_ofA:=ok_is_row_of T
 have G_is_number:FnOk P w K mg base CX0 1 T.is_number.f T.is_number.fd ["thing"] sp_numberA:=ok_is_number T
 have sc:=sc_is_row
 refine T.is_row.F.ok sc_is_row (fun vs H Q E h=>?_) (fun cdv A outer s H vs Q E hr h=>?_)
 ·obtain ⟨l,v,ns,d,rfl,_⟩:=h
  rfl
 ·obtain ⟨l,v,ns,d,rfl,hl,okn,hd,pl,q⟩:=h
  refine ⟨_,(pss_cons (ps_if (PW.pt (pw_or (pt_not (pt_val (pe_fn T.is_row_of G_is_row_of (hr.mono (by decide)) (pa_cons (pv 1) (pa_cons pe_int pa_nil))))) (pw_or1 (pt_cmpR (o_notInD K hr.units) (pe_ix (ixT K) (pv 1) pe_int (fun _ _=>rfl)) (pv 0) rfl)))) (pss_one (ps_ret pe_bl)) pss_nil)
   (pss_cons (ps_if (pt_cmpR (o_eqD K hr.units) (pe_ix (ixT K) (pv 1) pe_int (fun _ _=>rfl)) pe_str (nomark _)) (pss_one (ps_ret (pe_cmpR op_isN (pe_ix (ixT K) (pv 1) pe_int (fun _ _=>rfl)) pe_non (nomark _)))) pss_nil)
   (pss_one (ps_ret (pe_and (pe_cmpR (o_inD K hr.units) (pe_ix (ixT K) (pv 1) pe_int (fun _ _=>rfl)) (pe_tup (pa_cons pe_str (pa_cons pe_str pa_nil))) rfl) (pe_one (pe_fn T.is_number G_is_number (hr.mono (by decide)) (pa_cons (pe_ix (ixT K) (pv 1) pe_int (fun _ _=>rfl)) pa_nil)))))))),?_⟩
  refine seq_gen fun N1 hN1=>?_
  refine ex1 rfl ⟨v,d,rfl,hd,ex1 rfl ?_⟩
  by_cases c3:is3 d = true
  ·obtain ⟨a,b,c,rfl⟩:=is3_get c3
   obtain ⟨p,x,y,zv,rfl,hp,ha,hb,hc⟩:=th3 hd
   obtain ⟨pa,pb⟩:=pl a b c rfl
   rw [c3]
   refine iteF ?_
   refine ex1 rfl ⟨p,_,ex2_3 rfl rfl ⟨SqT.of hp,rfl,ex1 rfl ?_⟩⟩
   refine ⟨a,ns.map PyData.str,ha.rp,.inl ?_,pa,lay_list fun y hy=>nameB_ok (okn y hy),?_⟩
   ·simp only [Rp]
    exact ⟨l,_,rfl,SqL.of hl,rp_list (l:=l)⟩
   rw [if_pos rfl]
   refine ex1 rfl (ite2 (fun z=>?_) (fun z=>hN1 _ _ ?_))
   ·have q0:=q H fun b o e=>e
    have:isRowD ns (.tuple [a,b,c]) = false:=by
     show (((ns.map PyData.str).any fun z=>PyData.eqv z a) && _) = false
     rw [show ((ns.map PyData.str).any fun z=>PyData.eqv z a) = false by simpa using z]
     rfl
    rw [this] at q0
    exact q0
   have e1:((ns.map PyData.str).any fun z=>PyData.eqv z a) = true:=by
    cases h:((ns.map PyData.str).any fun z=>PyData.eqv z a) with
    | true=>rfl
    | false=>exact absurd (by rw [h]; rfl) z
   have er:isRowD ns (.tuple [a,b,c]) = if PyData.eqv b (.str wOpen) = true then isNon c else ([.str wIn,.str wOut].any fun z=>PyData.eqv z b) && isNum c:=by
    show (((ns.map PyData.str).any fun z=>PyData.eqv z a) && _) = _
    rw [e1,Bool.true_and]
   rw [er] at q
   refine seq_gen fun N2 hN2=>?_
   refine ex1 rfl ⟨p,_,ex2_3 rfl rfl ⟨SqT.of hp,rfl,?_⟩⟩
   refine ⟨b,.str wOpen,hb.rp,by simp only [Rp],pb,pl_str (by decide +kernel),ex1 rfl (ite2 (fun z=>?_) (fun z=>hN2 _ _ ?_))⟩
   ·rw [if_pos z] at q
    refine ex1 rfl ⟨p,_,ex2_3 rfl rfl ⟨SqT.of hp,rfl,rfl,?_⟩⟩
    rw [non_iff hc]
    exact q H fun b o e=>e
   rw [if_neg z] at q
   refine ex1 rfl ⟨p,_,ex2_3 rfl rfl ⟨SqT.of hp,rfl,by show 2<=sizeLine; decide,fun t ht=>?_⟩⟩
   have s1:=Same.new (o:=.tup [.str wIn,.str wOut]) ht
   have q1:=q _ s1
   refine ⟨b,[.str wIn,.str wOut],(hb.same s1).rp,.inr ?_,pb,by decide +kernel,?_⟩
   ·simp only [Rp]
    exact ⟨t,_,rfl,SqT.of upd_same,rp_list (l:=t) (ns:=[wIn,wOut])⟩
   rw [if_neg (by decide)]
   refine ex1 rfl (ite2 (fun e2=>?_) (fun e2=>?_))
   ·rw [e2,Bool.true_and] at q1
    exact ex1 rfl ⟨p,_,ex2_3 rfl rfl ⟨SqT.of (s1 _ _ hp),rfl,zv,c,rfl,hc.same s1,q1⟩⟩
   ·rw [Bool.eq_false_iff.mpr e2,Bool.false_and] at q1
    exact q1
  ·have e3:is3 d = false:=Bool.eq_false_iff.mpr c3
   have q0:=q H fun b o e=>e
   rw [is3_of c3] at q0
   rw [e3]
   exact iteT (iteT q0)
end
end Sw
namespace Sw
open PySem L2
theorem eqv_str {x:Str} {d:PyData} (h:PyData.eqv (.str x) d = true):d = .str x:=by
 match d with
 | .str y=>simp [PyData.eqv] at h; rw [h]
 | .none=>simp [PyData.eqv] at h
 | .bool _=>simp [PyData.eqv] at h
 | .int _=>simp [PyData.eqv] at h
 | .list _=>simp [PyData.eqv] at h
 | .tuple _=>simp [PyData.eqv] at h
 | .dict _=>simp [PyData.eqv] at h
theorem eqv_str' {x:Str} {d:PyData} (h:PyData.eqv d (.str x) = true):d = .str x:=by
 match d with
 | .str y=>simp [PyData.eqv] at h; rw [h]
 | .none=>simp [PyData.eqv] at h
 | .bool _=>simp [PyData.eqv] at h
 | .int _=>simp [PyData.eqv] at h
 | .list _=>simp [PyData.eqv] at h
 | .tuple _=>simp [PyData.eqv] at h
 | .dict _=>simp [PyData.eqv] at h
theorem row_get {ns:List Str} {d:PyData} (h:isRowD ns d = true):∃ (n:Str) (b c:PyData),d = .tuple [.str n,b,c]/\n ∈ ns/\((b = .str wOpen/\c = .none)\/∃ i,c = .int i/\(b = .str wIn\/b = .str wOut)):=by
 have h3:is3 d = true:=by
  cases h3:is3 d with
  | true=>rfl
  | false=>rw [is3_of (by rw [h3]; decide)] at h; cases h
 obtain ⟨a,b,c,rfl⟩:=is3_get h3
 have h:(((ns.map PyData.str).any fun z=>PyData.eqv z a) && (if PyData.eqv b (.str wOpen) = true then isNon c else ([.str wIn,.str wOut].any fun z=>PyData.eqv z b) && isNum c)) = true:=h
 obtain ⟨h1,h2⟩:=Bool.and_eq_true_iff.mp h
 obtain ⟨z,hz,e⟩:=List.any_eq_true.mp h1
 obtain ⟨n,hn,rfl⟩:=List.mem_map.mp hz
 have ea:=eqv_str e
 subst ea
 refine ⟨n,b,c,rfl,hn,?_⟩
 by_cases k:PyData.eqv b (.str wOpen) = true
 ·rw [if_pos k] at h2
  refine .inl ⟨eqv_str' k,?_⟩
  match c,h2 with
  | .none,_=>rfl
 ·rw [if_neg k] at h2
  obtain ⟨h4,h5⟩:=Bool.and_eq_true_iff.mp h2
  obtain ⟨y,hy,e⟩:=List.any_eq_true.mp h4
  have hb:b = .str wIn\/b = .str wOut:=by
   rcases List.mem_cons.mp hy with rfl | hy
   ·exact .inl (eqv_str e)
   ·cases List.mem_singleton.mp hy
    exact .inr (eqv_str e)
  match c,h5 with
  | .int i,_=>exact .inr ⟨i,rfl,hb⟩
end Sw
namespace Sw
open PySem L2
theorem Ths.get {H:Hp}:∀ {ds:List PyData} {vs:List V},Ths H ds vs->∀ {i:Nat} {v:V},vs[i]? = some v->∃ d,ds[i]? = some d/\Th H d v
 | [],vs,h,i,v,e=>by
  have:vs = []:=by simpa [Ths] using h
  subst this
  cases e
 | d :: ds,vs,h,i,v,e=>by
  simp only [Ths] at h
  obtain ⟨x,r,rfl,h1,h2⟩:=h
  match i with
  | 0=>cases e; exact ⟨d,rfl,h1⟩
  | i + 1=>exact h2.get (i:=i) e
theorem lc_th {J:It} {a D:Addr} {vs:List V} {ds:List PyData} {r:St} {te:TE} {H:Hp} {Q:St->Hp->Prop} (g:PyData->V) (as:AsSeq J vs a H) (T:Ths H ds vs) (len:ds.length<=1000) (hD:H D = none)
  (ht:∀ d ∈ ds,∀ v,Th H d v->∀ H1,Same H H1->∀ Q':VK,(∀ H2,Same H1 H2->Q' (g d) H2)->te (some v :: r) H1 Q') (h:∀ σ H2,Same H H2->H2 D = some (.lst (ds.map g))->Q σ H2) (v0:Option V) :
  Loop (gName 0) tTrue (emLst D te) J (v0 :: r) (upd H D (.lst [])) Q:=by
 have lv:=T.length
 refine loop_as as (fun i σ H3=>(∃ v,σ = v :: r)/\Same H H3/\H3 D = some (.lst ((ds.take i).map g)))
  ⟨⟨_,rfl⟩,Same.new hD,upd_same⟩ (fun i σ H1 _ ⟨_,s1,_⟩=>s1.at a) ?_ ?_
 ·rintro i σ H3 v N hx ⟨⟨v0,rfl⟩,s3,e3⟩ hN
  obtain ⟨d,hd,tv⟩:=T.get hx
  refine g_true (ht d (List.mem_of_getElem? hd) v tv H3 s3 _ fun H4 s4=>⟨_,s4 _ _ e3,by rw [List.length_map,List.length_take,sizeLine_eq]; omega,hN _ _ ⟨⟨_,rfl⟩,(s3.trans s4).upd hD,?_⟩⟩)
  rw [upd_same,take_succ hd,List.map_append]; rfl
 ·rintro σ H3 ⟨_,s3,e3⟩
  rw [lv,List.take_length] at e3
  exact h σ H3 s3 e3
noncomputable def nmOf:PyData->Str
 | .tuple (.str n :: _)=>n
 | _ => ""
noncomputable def RowsD (ns:List Str) (d:PyData):Prop:=∃ ds,(d = .list ds\/d = .tuple ds)/\(∀ x ∈ ds,isRowD ns x = true)/\(ds.map nmOf).Perm ns
end Sw
namespace Sw
open PySem L2
section
variable {P:Program} {w:World} {K:PySem.W.Frag} {mg:Str->Option Value} {base:Heap}
theorem sc_are_rows:FnScope ["web", "rows", "names"] ["web", "rows"] (defScope s_are_rows):=⟨rfl,rfl,rfl,by decide +kernel,rfl,by decide +kernel,by decide +kernel⟩
noncomputable def sp_are_rowsA (C:Addr):Sp:=fun vs H Q _=>∃ (x:Addr) (v:V) (ns:List Str) (qs:List PA2) (d:PyData),vs = [.ref x,v]/\WebAt C H x ns qs/\Th H d v/\(∀ y ∈ ns,nameB y = true)/\(∀ ds,d = .list ds\/d = .tuple ds->ds.length<=1000/\∀ e ∈ ds,∀ a b c,e = .tuple [a,b,c]->Pl a/\Pl b)/\∀ (b:Bool) H',Same H H'->(b = true ↔ RowsD ns d)->Q (.bl b) H'
theorem ls_get {H:Hp} {d:PyData} {v:V} (h:Th H d v) (k:isLs d = true):∃ ds a xs,(d = .list ds\/d = .tuple ds)/\v = .ref a/\Ths H ds xs/\(H a = some (.lst xs)\/H a = some (.tup xs)):=by
 match d,h,k with
 | .list ds,h,_ =>
  simp only [Th] at h
  obtain ⟨a,xs,e1,e2,r⟩:=h
  exact ⟨ds,a,xs,.inl rfl,e1,r,.inl e2⟩
 | .tuple ds,h,_ =>
  simp only [Th] at h
  obtain ⟨a,xs,e1,e2,r⟩:=h
  exact ⟨ds,a,xs,.inr rfl,e1,r,.inr e2⟩
theorem rows_ls {ns:List Str} {d:PyData} (h:RowsD ns d):isLs d = true:=by
 obtain ⟨ds,rfl | rfl,_⟩:=h <;> rfl
theorem rows_of {ns:List Str} {d:PyData} {ds:List PyData} (e:d = .list ds\/d = .tuple ds):RowsD ns d ↔ (∀ x ∈ ds,isRowD ns x = true)/\(ds.map nmOf).Perm ns:=by
 constructor
 ·rintro ⟨ds',e',h⟩
  have:ds' = ds:=by
   rcases e with rfl | rfl
   ·rcases e' with e' | e'
    ·cases e'; rfl
    ·cases e'
   ·rcases e' with e' | e'
    ·cases e'
    ·cases e'; rfl
  subst this
  exact h
 ·exact fun h=>⟨ds,e,h⟩
set_option maxHeartbeats 1000000 in
theorem ok_are_rows (T:Tx K mg):FnOk P w K mg base CX0 3 T.are_rows.f T.are_rows.fd ["web", "rows"] (sp_are_rowsA T.CWeb):=by
 have G_Web_all_names:FnOk P w K mg base CX0 1 T.mWeb_all_names.f T.mWeb_all_names.fd ["self"] (sp_all_names T.CWeb):=ok_Web_all_names T
 have G_is_listed:FnOk P w K mg base CX0 1 T.is_listed.f T.is_listed.fd ["thing"] sp_listedA:=ok_is_listed T
 have G_is_row:FnOk P w K mg base CX0 2 T.is_row.f T.is_row.fd ["names", "row"] sp_is_rowA:=ok_is_row T
 have sc:=sc_are_rows
 refine T.are_rows.F.ok sc_are_rows (fun vs H Q E h=>?_) (fun cdv A outer s H vs Q E hr h=>?_)
 ·obtain ⟨x,v,ns,qs,d,rfl,_⟩:=h
  rfl
 ·obtain ⟨x,v,ns,qs,d,rfl,hW,hd,okn,hp,q⟩:=h
  refine ⟨_,(pss_cons (ps_set (i:=2) sc.nd rfl (by first | exact Or.inl rfl | exact Or.inr rfl) (pe_meth0 (pv 0) T.clWeb T.mWeb_all_names.m G_Web_all_names (hr.mono (by decide)) T.mWeb_all_names.b .nil pass0))
   (pss_cons (ps_if (PW.pt (pw_or (pt_not (pt_val (pe_fn T.is_listed G_is_listed (hr.mono (by decide)) (pa_cons (pv 1) pa_nil)))) (pw_or1 (pt_not (pt_val (pe_bf (cl_all K) T.b_all bt_all (pa_cons (pe_lc (N':=["row", "names"]) (cap:=[none,some 2]) (cl:=[("names",_)]) (cs_mk ⟨⟨rfl,rfl,rfl,rfl⟩,trivial⟩ ⟨rfl,trivial⟩) rfl (piS K (pv 1)) (fun _ _ _ _=>by exact ⟨(pgC 0),pts_nil,(pe_fn T.is_row G_is_row (hr.mono (by decide)) (pa_cons (pv 1) (pa_cons (pv 0) pa_nil)))⟩)) pa_nil))))))) (pss_one (ps_ret pe_bl)) pss_nil)
   (pss_one (ps_ret (pe_cmpR (o_eqD K hr.units) (pe_bf (cl_sortS K) T.b_sorted bt_sorted (pa_cons (pe_lc (N':=["row"]) (cap:=[none]) (cl:=[]) (cs_mk trivial trivial) rfl (piS K (pv 1)) (fun _ _ _ _=>by exact ⟨(pgC 0),pts_nil,(pe_ix (ixT K) (pv 0) pe_int (fun _ _=>rfl))⟩)) pa_nil)) (pv 2) (nomark _)))))),?_⟩
  obtain ⟨ok,dx,a1,b',c,d',kc,kd,e2,_⟩:=id hW
  refine seq_gen fun N1 hN1=>?_
  refine ex1 rfl ⟨x,dx,ex1 rfl ⟨e2,rfl,x,ns,qs,rfl,hW,fun l hl=>?_⟩⟩
  have s1:=Same.new (o:=.lst (ns.map V.str)) hl
  have l1:(upd H l (.lst (ns.map V.str))) l = some (.lst (ns.map V.str)):=upd_same
  have d1:=hd.same s1
  show N1 _ (upd H l (.lst (ns.map V.str)))
  generalize upd H l (.lst (ns.map V.str)) = H1 at s1 l1 d1 ⊢
  refine hN1 _ _ (seq_gen fun N2 hN2=>?_)
  refine ex1 rfl ⟨v,d,rfl,d1,fun H2 s2=>ex1 rfl ?_⟩
  cases hls:isLs d with
  | false=>exact iteT (iteT (q false H2 (s1.trans s2) ⟨(fun z=>by cases z),(fun z=>by rw [rows_ls z] at hls; cases hls)⟩))
  | true =>
   refine iteF ?_
   obtain ⟨ds,a,xs,ed,rfl,T2,ha⟩:=ls_get (d1.same s2) hls
   obtain ⟨hlen,hpl⟩:=hp ds ed
   have sqa:Sqs K H2 a xs:=ha.imp SqL.of SqT.of
   dsimp only [tNot,tB,tCB,tCons]
   refine comp_seq rfl sqa fun J as C hC=>?_
   refine lc_th (fun d=>.bl (isRowD ns d)) as T2 hlen hC (fun y hy vy ty H3 s3 Q' hQ=>?_) (fun σ H3 s3 e3=>?_) _
   ·exact ex1 rfl (ex1 rfl ⟨l,vy,ns,y,rfl,s3 _ _ (s2 _ _ l1),okn,ty.same s3,hpl y hy,fun H4 s4=>hQ H4 s4⟩)
   refine ⟨C,ds.map (isRowD ns),rfl,SqL.of (by rw [e3,List.map_map]; rfl),ex1 rfl ?_⟩
   have hall:((ds.map (isRowD ns)).all id) = true ↔ ∀ x ∈ ds,isRowD ns x = true:=by
    rw [List.all_map,List.all_eq_true]
    exact Iff.rfl
   refine ite2 (fun z=>?_) (fun z=>hN2 _ _ ?_)
   ·refine q false H3 ((s1.trans s2).trans s3) ⟨(fun z=>by cases z),fun r=>?_⟩
    rw [hall.mpr ((rows_of ed).mp r).1] at z
    cases z
   have hr':∀ x ∈ ds,isRowD ns x = true:=hall.mp (by
    cases h:((ds.map (isRowD ns)).all id) with
    | true=>rfl
    | false=>exact absurd (by rw [h]; rfl) z)
   have T3:=T2.same s3
   have sqa3:Sqs K H3 a xs:=ha.imp (fun e=>SqL.of (s3 _ _ e)) fun e=>SqT.of (s3 _ _ e)
   dsimp only [tRet,tOp,tCB,tCons]
   refine comp_seq rfl sqa3 fun J as C2 hC2=>?_
   refine lc_th (fun d=>.str (nmOf d)) as T3 hlen hC2 (fun y hy vy ty H4 s4 Q' hQ=>?_) (fun σ H4 s4 e4=>?_) _
   ·obtain ⟨n,b,c,rfl,_⟩:=row_get (hr' y hy)
    obtain ⟨p,vx,vy',vz,rfl,hp',h1,_⟩:=th3 (ty.same s4)
    have e1:vx = .str n:=by simpa [Th] using h1
    subst e1
    exact ex1 rfl ⟨p,_,ex2_3 rfl rfl ⟨SqT.of hp',rfl,hQ H4 fun b o e=>e⟩⟩
   refine ⟨C2,ds.map nmOf,rfl,SqL.of (by rw [e4,List.map_map]; rfl),fun m ts hm pt so=>?_⟩
   have u5:=Same.new (o:=.lst (ts.map V.str)) hm
   have l5:=u5 _ _ (s4 _ _ (s3 _ _ (s2 _ _ l1)))
   have okt:∀ y ∈ ts,nameB y = true:=fun y hy=>by
    obtain ⟨e,he,rfl⟩:=List.mem_map.mp (pt.mem_iff.mp hy)
    obtain ⟨n,b,c,rfl,hn,_⟩:=row_get (hr' e he)
    exact okn n hn
   refine ex1 rfl ⟨sd ts,sd ns,rp_strs (SqL.of upd_same),rp_strs (SqL.of l5),pl_strs okt,pl_strs okn,?_⟩
   rw [eqv_sd]
   refine q _ _ ((((s1.trans s2).trans s3).trans s4).trans u5) ?_
   rw [decide_eq_true_iff,rows_of ed]
   exact ⟨fun e=>⟨hr',by rw [<-e]; exact pt.symm⟩,fun h=>sorted_one so ok.srt (pt.trans h.2)⟩
end
end Sw
namespace Sw
open PySem L2
theorem nd_len:∀ {l m:List Str},l.Nodup->(∀ x ∈ l,x ∈ m)->l.length<=m.length
 | [],_,_,_=>Nat.zero_le _
 | x :: l,m,nd,h=>by
  obtain ⟨n1,n2⟩:=List.nodup_cons.mp nd
  have hx:=h x (List.mem_cons_self ..)
  have h1:=nd_len (m:=m.erase x) n2 fun y hy=>(List.mem_erase_of_ne (fun z:y = x=>n1 (z ▸ hy))).mpr (h y (List.mem_cons_of_mem _ hy))
  rw [List.length_erase_of_mem hx] at h1
  have:=List.length_pos_of_mem hx
  rw [List.length_cons]
  omega
end Sw
namespace Sw
open PySem L2
section
variable {ns l:List Str} {A O:(Str->Option Str)->Str->Bool} {f:Str->Option Str} {w n:Str} {num:Int}
noncomputable def wl (ns:List Str) (f:Str->Option Str):List Str:=ns.filter fun n=>(f n).isNone
noncomputable def insOf (ns:List Str) (A:(Str->Option Str)->Str->Bool) (f:Str->Option Str):List Str:=(wl ns f).filter (A f)
noncomputable def nxt1 (ns:List Str) (A:(Str->Option Str)->Str->Bool) (f:Str->Option Str):Str->Option Str:=putW f (insOf ns A f) wIn
noncomputable def nxt (ns:List Str) (A O:(Str->Option Str)->Str->Bool) (f:Str->Option Str):Str->Option Str:=putW (nxt1 ns A f) (insOf ns O (nxt1 ns A f)) wOut
noncomputable def rowsOf (ns:List Str) (A O:(Str->Option Str)->Str->Bool) (f:Str->Option Str) (num:Int):List Row:=((insOf ns A f).map fun n=>(n,wIn,V.int num)) ++ (insOf ns O (nxt1 ns A f)).map fun n=>(n,wOut,V.int num)
theorem mem_wl:n ∈ wl ns f ↔ n ∈ ns/\f n = none:=by unfold wl; rw [List.mem_filter,Option.isNone_iff_eq_none]
theorem mem_ins (h:n ∈ insOf ns A f):n ∈ ns/\f n = none:=mem_wl.mp (List.mem_filter.mp h).1
theorem wl_put (hl:∀ n ∈ l,n ∈ ns/\f n = none) (nd:l.Nodup) (nn:ns.Nodup):(wl ns (putW f l w)).length + l.length<=(wl ns f).length:=by
 rw [<-List.length_append]
 refine nd_len (List.nodup_append.mpr ⟨nn.filter _,nd,fun a ha b hb e=>?_⟩) fun x hx=>?_
 ·have:=(mem_wl.mp ha).2
  rw [e,putW_in hb] at this
  cases this
 ·rcases List.mem_append.mp hx with c | c
  ·obtain ⟨c1,c2⟩:=mem_wl.mp c
   refine mem_wl.mpr ⟨c1,?_⟩
   by_cases d:x ∈ l
   ·rw [putW_in d] at c2; cases c2
   ·rw [putW_out d] at c2; exact c2
  ·exact mem_wl.mpr (hl x c)
theorem ins_wl (nn:ns.Nodup):(wl ns (putW f (insOf ns A f) w)).length + (insOf ns A f).length<=(wl ns f).length:=wl_put (fun _ h=>mem_ins h) ((nn.filter _).filter _) nn
theorem rows_nil (h:rowsOf ns A O f num = []):nxt ns A O f = f:=by
 obtain ⟨h1,h2⟩:=List.append_eq_nil_iff.mp h
 have h1:=List.map_eq_nil_iff.mp h1
 have h2:=List.map_eq_nil_iff.mp h2
 have e1:nxt1 ns A f = f:=by unfold nxt1; rw [h1]; exact funext fun n=>putW_out List.not_mem_nil
 unfold nxt; rw [h2,e1]; exact funext fun n=>putW_out List.not_mem_nil
inductive RSeq (ns:List Str) (A O:(Str->Option Str)->Str->Bool):(Str->Option Str)->Int->List Row->Prop
 | stop {f:Str->Option Str} {num:Int}:rowsOf ns A O f num = []->RSeq ns A O f num ((wl ns f).map fun n=>(n,wOpen,V.non))
 | step {f:Str->Option Str} {num:Int} {t:List Row}:rowsOf ns A O f num ≠ []->RSeq ns A O (nxt ns A O f) (num + 1) t->RSeq ns A O f num (rowsOf ns A O f num ++ t)
theorem word_ok:PySem.PyData.strOk wIn = true/\PySem.PyData.strOk wOut = true/\PySem.PyData.strOk wOpen = true:=⟨by decide +kernel,by decide +kernel,by decide +kernel⟩
noncomputable def ToldR (H:Hp) (ns:List Str) (qs:List PA2) (Q:VK):Prop:=∀ l rs H',Same H H'->H l = none->RL H' l rs->RSeq ns (allOut qs) (oneIn qs) (fun _=>none) 1 (rs.map fun q=>q.2)->rs.length<=100->Q (.ref l) H'
theorem mem_strikers {qs:List PA2} {n y:Str}:y ∈ strikersOf qs n ↔ (y,n) ∈ qs.map fun q=>q.2:=by
 unfold strikersOf
 rw [List.mem_map,List.mem_map]
 constructor
 ·rintro ⟨q,hq,rfl⟩
  obtain ⟨h1,h2⟩:=List.mem_filter.mp hq
  exact ⟨q,h1,Prod.ext rfl (of_decide_eq_true h2)⟩
 ·rintro ⟨q,hq,e⟩
  exact ⟨q,List.mem_filter.mpr ⟨hq,decide_eq_true (congrArg Prod.snd e)⟩,congrArg Prod.fst e⟩
end
end Sw
namespace Sw
open PySem L2
noncomputable abbrev Mk:Type:=Option (Bool × Int)
noncomputable def wdM:Mk->Str
 | none=>wOpen
 | some (true,_)=>wIn
 | some (false,_)=>wOut
noncomputable def nmM:Mk->V
 | none=>.non
 | some (_,i)=>.int i
noncomputable def rowM (q:Str × Mk):Row:=(q.1,wdM q.2,nmM q.2)
noncomputable def lookM (D:List (Str × Mk)) (n:Str):Mk:=((D.find? fun q=>decide (q.1 = n)).map fun q=>q.2).getD none
noncomputable def isIn (m:Mk):Bool:=match m with | some (true,_)=>true | _=>false
noncomputable def ltM (k:Int) (m:Mk):Bool:=match m with | some (false,j)=>decide (j < k) | _=>false
noncomputable def leM (k:Int) (m:Mk):Bool:=match m with | some (true,j)=>decide (j<=k) | _=>false
noncomputable def grd (ys:List Str) (M:Str->Mk) (n:Str):Bool:=match M n with
 | some (true,k)=>ys.all fun y=>ltM k (M y)
 | some (false,k)=>ys.any fun y=>leM k (M y)
 | none=>(!ys.any fun y=>isIn (M y)) && ys.any fun y=>(M y).isNone
theorem look_of {D:List (Str × Mk)} (nd:(D.map fun q=>q.1).Nodup) {n:Str} {m:Mk} (h:(n,m) ∈ D):lookM D n = m:=by
 induction D with
 | nil=>exact absurd h List.not_mem_nil
 | cons q r ih =>
  rw [List.map_cons] at nd
  obtain ⟨n1,n2⟩:=List.nodup_cons.mp nd
  unfold lookM
  rw [List.find?_cons]
  rcases List.mem_cons.mp h with rfl | h
  ·rw [decide_eq_true rfl]; rfl
  ·have:¬ q.1 = n:=fun e=>n1 (e ▸ List.mem_map.mpr ⟨_,h,rfl⟩)
   rw [decide_eq_false this]
   exact ih n2 h
theorem look_mem {D:List (Str × Mk)} (nd:(D.map fun q=>q.1).Nodup) {n:Str} (h:n ∈ D.map fun q=>q.1):(n,lookM D n) ∈ D:=by
 obtain ⟨⟨m,k⟩,hq,rfl⟩:=List.mem_map.mp h
 rw [look_of nd hq]
 exact hq
theorem io_ne:wIn ≠ wOut:=by decide +kernel
theorem wd_in {m:Mk}:decide (V.str (wdM m) = V.str wIn) = isIn m:=by
 match m with
 | none=>decide +kernel
 | some (true,i)=>exact decide_eq_true rfl
 | some (false,i)=>exact decide_eq_false (fun z=>io_ne (by injection z with z; exact z.symm))
noncomputable def isOut (m:Mk):Bool:=match m with | some (false,_)=>true | _=>false
theorem wd_out {m:Mk}:decide (V.str (wdM m) = V.str wOut) = isOut m:=by
 match m with
 | none=>decide +kernel
 | some (true,i)=>exact decide_eq_false (fun z=>io_ne (by injection z))
 | some (false,i)=>exact decide_eq_true rfl
theorem wd_open {m:Mk}:decide (V.str (wdM m) = V.str wOpen) = m.isNone:=by
 match m with
 | none=>exact decide_eq_true rfl
 | some (true,i)=>exact decide_eq_false (fun z=>absurd (show wIn = wOpen by injection z) (by decide +kernel))
 | some (false,i)=>exact decide_eq_false (fun z=>absurd (show wOut = wOpen by injection z) (by decide +kernel))
theorem out_get {m:Mk} (h:isOut m = true):∃ j,m = some (false,j):=by
 match m,h with
 | some (false,j),_=>exact ⟨j,rfl⟩
theorem in_get {m:Mk} (h:isIn m = true):∃ j,m = some (true,j):=by
 match m,h with
 | some (true,j),_=>exact ⟨j,rfl⟩
theorem ltM_no {k:Int} {m:Mk} (h:¬ isOut m = true):ltM k m = false:=by
 match m with
 | none=>rfl
 | some (true,j)=>rfl
 | some (false,j)=>exact absurd rfl h
theorem leM_no {k:Int} {m:Mk} (h:¬ isIn m = true):leM k m = false:=by
 match m with
 | none=>rfl
 | some (false,j)=>rfl
 | some (true,j)=>exact absurd rfl h
theorem in_iff {m:Mk}:wdM m = wIn ↔ isIn m = true:=by
 rw [<-wd_in,decide_eq_true_iff]
 exact ⟨fun e=>congrArg V.str e,fun e=>by injection e⟩
theorem open_iff {m:Mk}:wdM m = wOpen ↔ m.isNone = true:=by
 rw [<-wd_open,decide_eq_true_iff]
 exact ⟨fun e=>congrArg V.str e,fun e=>by injection e⟩
theorem in_some (ys:List Str) (M:Str->Mk):inV (.str wIn) (ys.map fun y=>V.str (wdM (M y))) = ys.any fun y=>isIn (M y):=by
 rw [show (ys.map fun y=>V.str (wdM (M y))) = (ys.map fun y=>wdM (M y)).map V.str by rw [List.map_map]; rfl,inV_str,Bool.eq_iff_iff,decide_eq_true_iff,List.mem_map,List.any_eq_true]
 exact exists_congr fun y=>and_congr_right fun _=>in_iff
theorem open_some (ys:List Str) (M:Str->Mk):inV (.str wOpen) (ys.map fun y=>V.str (wdM (M y))) = ys.any fun y=>(M y).isNone:=by
 rw [show (ys.map fun y=>V.str (wdM (M y))) = (ys.map fun y=>wdM (M y)).map V.str by rw [List.map_map]; rfl,inV_str,Bool.eq_iff_iff,decide_eq_true_iff,List.mem_map,List.any_eq_true]
 exact exists_congr fun y=>and_congr_right fun _=>open_iff
noncomputable def WM (kvs:List (Key × V)) (D:List (Str × Mk)):Prop:=∀ n,n ∈ D.map (fun q=>q.1)->valV kvs (.inr n) = some (.str (wdM (lookM D n)))
noncomputable def NM (kvs:List (Key × V)) (D:List (Str × Mk)):Prop:=∀ n,n ∈ D.map (fun q=>q.1)->valV kvs (.inr n) = some (nmM (lookM D n))
theorem get_rd {H:Hp} {d:Addr} {kvs:List (Key × V)} {n:Str} {v:V} (e:Rd H d (.dK kvs)) (h:valV kvs (.inr n) = some v):DGet H d (.str n) (some v):=.inl ⟨kvs,.inr n,e,rfl,h.symm⟩
theorem rd_same {H H':Hp} {d:Addr} {u:HO} (s:Same H H') (h:Rd H d u):Rd H' d u:=h.elim (fun e=>.inl (s _ _ e)) fun ⟨o,e⟩=>.inr ⟨o,s _ _ e⟩
section
variable {P:Program} {w:World} {K:PySem.W.Frag} {mg:Str->Option Value} {base:Heap}
theorem sc_is_grounded:FnScope ["web", "words", "numbers", "name", "strikers", "against"] ["web", "words", "numbers", "name"] (defScope s_is_grounded):=⟨rfl,rfl,rfl,by decide +kernel,rfl,by decide +kernel,by decide +kernel⟩
noncomputable def sp_grounded (C:Addr):Sp:=fun vs H Q _=>∃ (x dw dn:Addr) (n:Str) (ns:List Str) (qs:List PA2) (kw kn:List (Key × V)) (D:List (Str × Mk)),vs = [.ref x,.ref dw,.ref dn,.str n]/\WebAt C H x ns qs/\n ∈ ns/\Rd H dw (.dK kw)/\Rd H dn (.dK kn)/\WM kw D/\NM kn D /\
 (∀ m ∈ ns,m ∈ D.map fun q=>q.1)/\∀ H',Same H H'->Q (.bl (grd (strikersOf qs n) (lookM D) n)) H'
set_option maxHeartbeats 1000000 in
theorem ok_is_grounded (T:Tx K mg):FnOk P w K mg base CX0 3 T.is_grounded.f T.is_grounded.fd ["web", "words", "numbers", "name"] (sp_grounded T.CWeb):=by
 have G_Web_strikers:FnOk P w K mg base CX0 2 T.mWeb_strikers.f T.mWeb_strikers.fd ["self", "name"] (sp_strikers T.CWeb):=ok_Web_strikers T
 have sc:=sc_is_grounded
 refine T.is_grounded.F.ok sc_is_grounded (fun vs H Q E h=>?_) (fun cdv A outer s H vs Q E hr h=>?_)
 ·obtain ⟨x,dw,dn,n,ns,qs,kw,kn,D,rfl,_⟩:=h
  rfl
 ·obtain ⟨x,dw,dn,n,ns,qs,kw,kn,D,rfl,hW,hn,ew,en,wm,nm,hD,q⟩:=h
  have hu:=hu_of hr
  refine ⟨_,(pss_cons (ps_set (i:=4) sc.nd rfl (by first | exact Or.inl rfl | exact Or.inr rfl) (pe_meth (pv 0) T.clWeb T.mWeb_strikers.m G_Web_strikers (hr.mono (by decide)) T.mWeb_strikers.b .nil pass0 (pa_cons (pv 3) pa_nil)))
   (pss_cons (ps_if (pt_cmpR op_eq (pe_dget hu (pv 1) (pv 3) (fun _ _=>rfl)) pe_str (nomark _)) (pss_one (ps_ret (pe_bf (cl_all K) T.b_all bt_all (pa_cons (pe_lc (N':=["one", "words", "numbers", "name"]) (cap:=[none,some 1,some 2,some 3]) (cl:=[("words",_),("numbers",_),("name",_)]) (cs_mk ⟨⟨rfl,rfl,rfl,rfl⟩,⟨⟨rfl,rfl,rfl,rfl⟩,⟨⟨rfl,rfl,rfl,rfl⟩,trivial⟩⟩⟩ ⟨rfl,⟨rfl,⟨rfl,trivial⟩⟩⟩) rfl (piL K (pv 4)) (fun _ _ _ _=>by exact ⟨(pgC 0),pts_nil,(pe_and (pe_cmpR op_eq (pe_dget hu (pv 1) (pv 0) (fun _ _=>rfl)) pe_str (nomark _)) (pe_one (pe_cmpR op_lt (pe_dget hu (pv 2) (pv 0) (fun _ _=>rfl)) (pe_dget hu (pv 2) (pv 3) (fun _ _=>rfl)) (nomark _))))⟩)) pa_nil)))) pss_nil)
   (pss_cons (ps_if (pt_cmpR op_eq (pe_dget hu (pv 1) (pv 3) (fun _ _=>rfl)) pe_str (nomark _)) (pss_one (ps_ret (pe_bf (cl_any K) T.b_any bt_any (pa_cons (pe_lc (N':=["one", "words", "numbers", "name"]) (cap:=[none,some 1,some 2,some 3]) (cl:=[("words",_),("numbers",_),("name",_)]) (cs_mk ⟨⟨rfl,rfl,rfl,rfl⟩,⟨⟨rfl,rfl,rfl,rfl⟩,⟨⟨rfl,rfl,rfl,rfl⟩,trivial⟩⟩⟩ ⟨rfl,⟨rfl,⟨rfl,trivial⟩⟩⟩) rfl (piL K (pv 4)) (fun _ _ _ _=>by exact ⟨(pgC 0),pts_nil,(pe_and (pe_cmpR op_eq (pe_dget hu (pv 1) (pv 0) (fun _ _=>rfl)) pe_str (nomark _)) (pe_one (pe_cmpR op_le (pe_dget hu (pv 2) (pv 0) (fun _ _=>rfl)) (pe_dget hu (pv 2) (pv 3) (fun _ _=>rfl)) (nomark _))))⟩)) pa_nil)))) pss_nil)
   (pss_cons (ps_setLC (i:=5) (N':=["one", "words"]) (cap:=[none,some 1]) (cl:=[("words",_)]) sc.nd rfl (by first | exact Or.inl rfl | exact Or.inr rfl) (cs_mk ⟨⟨rfl,rfl,rfl,rfl⟩,trivial⟩ ⟨rfl,trivial⟩) rfl (piL K (pv 4)) (fun _ _ _ _=>by exact ⟨(pgC 0),pts_nil,(pe_dget hu (pv 1) (pv 0) (fun _ _=>rfl))⟩))
   (pss_one (ps_ret (pe_and (pe_cmpR (o_notInL K) pe_str (pv 5) rfl) (pe_one (pe_cmpR (o_inL K) pe_str (pv 5) rfl))))))))),?_⟩
  refine seq_gen fun N1 hN1=>?_
  obtain ⟨ok,dx,a1,b,c,d',kc,kd,e2,_⟩:=id hW
  have lq:=ok.lenq
  have ls:(strikersOf qs n).length<=qs.length:=by unfold strikersOf; rw [List.length_map]; exact List.length_filter_le ..
  refine ex1 rfl ⟨x,dx,ex1 rfl ⟨e2,rfl,ex1 rfl ⟨x,n,ns,qs,rfl,hW,hn,fun l2 hl2=>?_⟩⟩⟩
  have s2:=Same.new (o:=.lst ((strikersOf qs n).map V.str)) hl2
  have f2:(upd H l2 (.lst ((strikersOf qs n).map V.str))) l2 = some (.lst ((strikersOf qs n).map V.str)):=upd_same
  generalize upd H l2 (.lst ((strikersOf qs n).map V.str)) = H2 at s2 f2 ⊢
  have ew:=rd_same s2 ew
  have en:=rd_same s2 en
  have ms:∀ y ∈ strikersOf qs n,y ∈ D.map fun q=>q.1:=fun y hy=>hD y (by
   obtain ⟨q,hq,rfl⟩:=List.mem_map.mp hy
   exact (ok.mem q (List.mem_filter.mp hq).1).1)
  have gw:∀ {H3:Hp},Same H2 H3->∀ y ∈ D.map (fun q=>q.1),DGet H3 dw (.str y) (some (.str (wdM (lookM D y)))):=fun s3 y hy=>get_rd (rd_same s3 ew) (wm y hy)
  have gn:∀ {H3:Hp},Same H2 H3->∀ y ∈ D.map (fun q=>q.1),DGet H3 dn (.str y) (some (nmM (lookM D y))):=fun s3 y hy=>get_rd (rd_same s3 en) (nm y hy)
  have hnD:=hD n hn
  have rf:Same H2 H2:=fun b o e=>e
  refine hN1 _ _ (seq_gen fun N2 hN2=>?_)
  refine ex1 rfl (ex1 rfl ⟨dw,_,rfl,gw rf n hnD,rfl,ex1 rfl ?_⟩)
  refine ite2 (fun c=>?_) (fun c=>?_)
  ·obtain ⟨k,hk⟩:=in_get (wd_in.symm.trans c)
   unfold grd at q
   rw [hk] at q
   refine ex1 rfl ⟨l2,rfl,⟨_,SqL.of f2⟩,fun C hC=>?_⟩
   refine lc_bools (fun y=>ltM k (lookM D y)) f2 (by omega) hC (fun y hy H3 s3 Q' hQ=>?_) (fun σ H3 s3 e3=>⟨C,_,rfl,SqL.of e3,by rw [List.all_map]; exact q H3 (s2.trans s3)⟩) _
   refine ex1 rfl (ex1 rfl ⟨dw,_,rfl,gw s3 y (ms y hy),rfl,ex1 rfl (ite2 (fun d=>?_) (fun d=>?_))⟩)
   ·obtain ⟨j,hj⟩:=out_get (wd_out.symm.trans d)
    have g1:=gn s3 y (ms y hy)
    have g2:=gn s3 n hnD
    rw [hj] at g1
    rw [hk] at g2
    refine ex1 rfl (ex1 rfl ⟨dn,_,rfl,g1,ex1 rfl (ex1 rfl ⟨dn,_,rfl,g2,ex2_3 rfl rfl ?_⟩)⟩)
    have:=hQ H3 fun b o e=>e
    rw [hj] at this
    exact this
   ·have:=hQ H3 fun b o e=>e
    rw [ltM_no fun z=>d (wd_out.trans z)] at this
    exact this
  ·refine hN2 _ _ (seq_gen fun N3 hN3=>?_)
   refine ex1 rfl (ex1 rfl ⟨dw,_,rfl,gw rf n hnD,rfl,ex1 rfl ?_⟩)
   refine ite2 (fun c'=>?_) (fun c'=>?_)
   ·obtain ⟨k,hk⟩:=out_get (wd_out.symm.trans c')
    unfold grd at q
    rw [hk] at q
    refine ex1 rfl ⟨l2,rfl,⟨_,SqL.of f2⟩,fun C hC=>?_⟩
    refine lc_bools (fun y=>leM k (lookM D y)) f2 (by omega) hC (fun y hy H3 s3 Q' hQ=>?_) (fun σ H3 s3 e3=>⟨C,_,rfl,SqL.of e3,by rw [List.any_map]; exact q H3 (s2.trans s3)⟩) _
    refine ex1 rfl (ex1 rfl ⟨dw,_,rfl,gw s3 y (ms y hy),rfl,ex1 rfl (ite2 (fun d=>?_) (fun d=>?_))⟩)
    ·obtain ⟨j,hj⟩:=in_get (wd_in.symm.trans d)
     have g1:=gn s3 y (ms y hy)
     have g2:=gn s3 n hnD
     rw [hj] at g1
     rw [hk] at g2
     refine ex1 rfl (ex1 rfl ⟨dn,_,rfl,g1,ex1 rfl (ex1 rfl ⟨dn,_,rfl,g2,ex2_3 rfl rfl ?_⟩)⟩)
     have:=hQ H3 fun b o e=>e
     rw [hj] at this
     exact this
    ·have:=hQ H3 fun b o e=>e
     rw [leM_no fun z=>d (wd_in.trans z)] at this
     exact this
   ·have hk:lookM D n = none:=by
     match hm:lookM D n with
     | none=>rfl
     | some (true,k)=>rw [hm] at c; exact absurd (wd_in (m:=some (true,k))) (fun z=>c z)
     | some (false,k)=>rw [hm] at c'; exact absurd (wd_out (m:=some (false,k))) (fun z=>c' z)
    unfold grd at q
    rw [hk] at q
    refine hN3 _ _ (seq_gen fun N4 hN4=>?_)
    refine ex1 rfl ⟨l2,rfl,⟨_,SqL.of f2⟩,fun C hC=>?_⟩
    refine lc_map (fun y=>V.str (wdM (lookM D y))) f2 (by omega) hC (fun y hy H3 s3 Q' hQ=>?_) (fun σ H3 s3 e3=>?_) _
    ·exact ex1 rfl (ex1 rfl ⟨dw,_,rfl,gw s3 y (ms y hy),hQ H3 fun b o e=>e⟩)
    refine hN4 _ _ (ex1 rfl ?_)
    have fl:((strikersOf qs n).map fun y=>V.str (wdM (lookM D y))).all flatV = true:=List.all_eq_true.mpr fun z hz=>by
     obtain ⟨y,_,rfl⟩:=List.mem_map.mp hz
     rfl
    have q:=q H3 (s2.trans s3)
    refine ⟨C,_,rfl,.inl (SqL.of e3),rfl,fl,?_⟩
    rw [if_pos rfl,show Str.ofString "in" = wIn from rfl,in_some]
    refine ex1 rfl (ite2 (fun d=>?_) (fun d=>?_))
    ·rw [d,Bool.true_and] at q
     refine ex1 rfl ⟨C,_,rfl,.inl (SqL.of e3),rfl,fl,?_⟩
     rw [if_neg (by decide),show Str.ofString "open" = wOpen from rfl,open_some]
     exact q
    ·rw [Bool.eq_false_iff.mpr d,Bool.false_and] at q
     exact q
end
end Sw
namespace Sw
open PySem L2
noncomputable def RS (H:Hp) (b:Bool) (a:Addr) (rs:List (Addr × Row)):Prop:=H a = some (LT b (rs.map fun q=>V.ref q.1))/\∀ q ∈ rs,H q.1 = some (.tup [.str q.2.1,.str q.2.2.1,q.2.2.2])
theorem RS.same {H H':Hp} {b:Bool} {a:Addr} {rs:List (Addr × Row)} (h:RS H b a rs) (s:Same H H'):RS H' b a rs:=⟨s _ _ h.1,fun q hq=>s _ _ (h.2 q hq)⟩
theorem lc_row {α:Type} {J:It} {a D:Addr} {rs:List (Addr × α)} {r:St} {te:TE} {H:Hp} {Q:St->Hp->Prop} (g:α->V) (as:AsSeq J (rs.map fun q=>V.ref q.1) a H) (len:rs.length<=1000) (hD:H D = none)
  (ht:∀ q ∈ rs,∀ H1,Same H H1->∀ Q':VK,(∀ H2,Same H1 H2->Q' (g q.2) H2)->te (some (.ref q.1) :: r) H1 Q') (h:∀ σ H2,Same H H2->H2 D = some (.lst ((rs.map fun q=>q.2).map g))->Q σ H2) (v0:Option V) :
  Loop (gName 0) tTrue (emLst D te) J (v0 :: r) (upd H D (.lst [])) Q:=by
 refine loop_as as (fun i σ H3=>(∃ v,σ = v :: r)/\Same H H3/\H3 D = some (.lst (((rs.map fun q=>q.2).take i).map g)))
  ⟨⟨_,rfl⟩,Same.new hD,upd_same⟩ (fun i σ H1 _ ⟨_,s1,_⟩=>s1.at a) ?_ ?_
 ·rintro i σ H3 v N hx ⟨⟨v0,rfl⟩,s3,e3⟩ hN
  rw [List.getElem?_map] at hx
  obtain ⟨y,hy,rfl⟩:=Option.map_eq_some_iff.mp hx
  have hi:=(List.getElem?_eq_some_iff.mp hy).1
  have hy2:(rs.map fun q=>q.2)[i]? = some y.2:=by rw [List.getElem?_map,hy]; rfl
  refine g_true (ht y (List.mem_of_getElem? hy) H3 s3 _ fun H4 s4=>⟨_,s4 _ _ e3,by rw [List.length_map,List.length_take,sizeLine_eq]; omega,hN _ _ ⟨⟨_,rfl⟩,(s3.trans s4).upd hD,?_⟩⟩)
  rw [upd_same,take_succ hy2,List.map_append]; rfl
 ·rintro σ H3 ⟨_,s3,e3⟩
  rw [List.length_map,List.take_of_length_le (by rw [List.length_map]; exact Nat.le_refl _)] at e3
  exact h σ H3 s3 e3
theorem dc_row {K:PySem.W.Frag} {J:It} {a C:Addr} {rs:List (Addr × Row)} {D:List (Str × Mk)} {te:TE} {H:Hp} {Q:St->Hp->Prop} (g:Mk->V) (as:AsSeq J (rs.map fun q=>V.ref q.1) a H) (hR:∀ q ∈ rs,H q.1 = some (.tup [.str q.2.1,.str q.2.2.1,q.2.2.2])) (eD:(rs.map fun q=>q.2) = D.map rowM) (nd:(D.map fun q=>q.1).Nodup) (len:D.length<=1000) (hC:H C = none)
  (ht:∀ (d:Str × Mk) (H1:Hp) (Q':VK),Q' (g d.2) H1->te [some (.str d.1),some (.str (wdM d.2)),some (nmM d.2)] H1 Q') (h:∀ σ H2,Same H H2->H2 C = some (.dK (D.map fun d=>((Sum.inr d.1:Key),g d.2)))->Q σ H2) (v0 v1 v2:Option V) :
  Loop (gTup K 3 (gCons (gName 0) (gCons (gName 1) (gCons (gName 2) gNil)))) tTrue (emDct C (tVar 0) te) J [v0,v1,v2] (upd H C (.dK [])) Q:=by
 have lr:rs.length = D.length:=by
  have:=congrArg List.length eD
  rwa [List.length_map,List.length_map] at this
 refine loop_as as (fun i σ H3=>(∃ v0 v1 v2,σ = [v0,v1,v2])/\Same H H3/\H3 C = some (.dK ((D.take i).map fun d=>((Sum.inr d.1:Key),g d.2))))
  ⟨⟨_,_,_,rfl⟩,Same.new hC,upd_same⟩ (fun i σ H1 _ ⟨_,s1,_⟩=>s1.at a) ?_ ?_
 ·rintro i σ H3 v N hx ⟨⟨v0,v1,v2,rfl⟩,s3,e3⟩ hN
  rw [List.getElem?_map] at hx
  obtain ⟨y,hy,rfl⟩:=Option.map_eq_some_iff.mp hx
  have hi:=(List.getElem?_eq_some_iff.mp hy).1
  have hd:D[i]? = some D[i]:=List.getElem?_eq_getElem (by omega)
  have ey:y.2 = rowM D[i]:=by
   have:(rs.map fun q=>q.2)[i]? = (D.map rowM)[i]?:=by rw [eD]
   rw [List.getElem?_map,List.getElem?_map,hy,hd] at this
   exact Option.some.inj this
  have ez:=s3 _ _ (hR y (List.mem_of_getElem? hy))
  rw [ey] at ez
  refine ⟨y.1,ex1 rfl ⟨SqT.of ez,rfl,_,ex1 rfl ⟨_,ex1 rfl (ex2_3 rfl rfl ?_)⟩⟩⟩
  have vn:valV ((D.take i).map fun d=>((Sum.inr d.1:Key),g d.2)) (Sum.inr D[i].1:Key) = none:=by
   cases e:valV ((D.take i).map fun d=>((Sum.inr d.1:Key),g d.2)) (Sum.inr D[i].1:Key) with
   | none=>rfl
   | some v =>
    obtain ⟨p,hp,e1⟩:=List.mem_map.mp (valV_in e)
    obtain ⟨d,hd1,rfl⟩:=List.mem_map.mp hp
    have e1:d.1 = D[i].1:=Sum.inr.inj e1
    have nm:(D.map fun q=>q.1)[i]? = some D[i].1:=by rw [List.getElem?_map,hd]; rfl
    exact absurd (by rw [<-List.map_take]; exact List.mem_map.mpr ⟨d,hd1,e1⟩) (nodup_take nd nm)
  show emDct C (tVar 0) te [some (.str D[i].1),some (.str (wdM D[i].2)),some (nmM D[i].2)] H3 N
  refine ex1 rfl (ht D[i] H3 _ ⟨_,Sum.inr D[i].1,e3,rfl,by rw [List.length_map,List.length_take,sizeLine_eq]; omega,hN _ _ ⟨⟨_,_,_,rfl⟩,s3.upd hC,?_⟩⟩)
  rw [upd_same,putK_new _ vn,take_succ hd,List.map_append]; rfl
 ·rintro σ H3 ⟨_,s3,e3⟩
  rw [List.length_map,lr,List.take_length] at e3
  exact h σ H3 s3 e3
theorem val_map (D:List (Str × Mk)) (g:Mk->V) {n:Str} (h:n ∈ D.map fun q=>q.1):valV (D.map fun d=>((Sum.inr d.1:Key),g d.2)) (.inr n) = some (g (lookM D n)):=by
 induction D with
 | nil=>exact absurd h List.not_mem_nil
 | cons d r ih =>
  rw [List.map_cons]
  by_cases e:d.1 = n
  ·rw [valV_pos (congrArg Sum.inr e)]
   unfold lookM
   rw [List.find?_cons,decide_eq_true e]; rfl
  ·rw [valV_neg (fun z=>e (Sum.inr.inj z)),ih (by
    rw [List.map_cons] at h
    exact (List.mem_cons.mp h).resolve_left fun z=>e z.symm)]
   unfold lookM
   rw [List.find?_cons,decide_eq_false e]
theorem lc_keys {d C:Addr} {o:Obj} {kvs:List (Key × V)} {ks:List Str} {r:St} {te:TE} {H:Hp} {Q:St->Hp->Prop} (p:Str->Bool) (hd:H d = some (.frz o (.dK kvs))) (hk:(kvs.map fun q=>q.1) = ks.map Sum.inr) (len:kvs.length<=1000) (hC:H C = none)
  (ht:∀ y ∈ ks,∀ H1,Same H H1->∀ Q':VK,(∀ H2,Same H1 H2->Q' (.bl (p y)) H2)->te (some (.str y) :: r) H1 Q') (h:∀ σ H2,Same H H2->H2 C = some (.lst ((ks.map p).map V.bl))->Q σ H2) (v0:Option V) :
  Loop (gName 0) tTrue (emLst C te) (Itd d o kvs) (v0 :: r) (upd H C (.lst [])) Q:=by
 have lk:kvs.length = ks.length:=by
  have:=congrArg List.length hk
  rwa [List.length_map,List.length_map] at this
 refine loop_J (n:=kvs.length) (fun i σ H3=>(∃ v,σ = v :: r)/\Same H H3/\H3 C = some (.lst (((ks.take i).map p).map V.bl)))
  ⟨⟨_,rfl⟩,Same.new hC,upd_same⟩ (fun i σ H1 hi ⟨_,s1,_⟩=>⟨s1 _ _ hd,hi⟩) (fun σ H1 ⟨_,s1,_⟩=>⟨s1 _ _ hd,Nat.le_refl _⟩) ?_ ?_
 ·rintro i σ H3 x H' N hi ⟨⟨v,rfl⟩,s3,e3⟩ ⟨eH,k,v,ek,rfl⟩ hN
  subst H'
  have hy:ks[i]? = some ks[i]:=List.getElem?_eq_getElem (by omega)
  have ek:k = .inr ks[i]:=by
   have:(kvs.map fun q=>q.1)[i]? = (ks.map Sum.inr)[i]?:=by rw [hk]
   rw [List.getElem?_map,List.getElem?_map,ek,hy] at this
   exact Option.some.inj this
  subst ek
  refine g_true (ht ks[i] (List.mem_of_getElem? hy) H3 s3 _ fun H4 s4=>⟨_,s4 _ _ e3,by rw [List.length_map,List.length_map,List.length_take,sizeLine_eq]; omega,hN _ _ ⟨⟨_,rfl⟩,(s3.trans s4).upd hC,?_⟩⟩)
  rw [upd_same,take_succ hy,List.map_append,List.map_append]; rfl
 ·rintro σ H3 ⟨_,s3,e3⟩
  rw [lk,List.take_length] at e3
  exact h σ H3 s3 e3
end Sw
namespace Sw
open PySem L2
noncomputable def nmE:Mk->PyData
 | none=>.none
 | some (_,i)=>.int i
noncomputable def rdE (d:Str × Mk):PyData:=.tuple [.str d.1,.str (wdM d.2),nmE d.2]
theorem row_mark {ns:List Str} {e:PyData} (h:isRowD ns e = true):∃ d:Str × Mk,e = rdE d/\d.1 ∈ ns:=by
 obtain ⟨n,b,c,rfl,hn,k⟩:=row_get h
 rcases k with ⟨rfl,rfl⟩ | ⟨i,rfl,rfl | rfl⟩
 ·exact ⟨(n,none),rfl,hn⟩
 ·exact ⟨(n,some (true,i)),rfl,hn⟩
 ·exact ⟨(n,some (false,i)),rfl,hn⟩
theorem th_row {H:Hp} {d:Str × Mk} {v:V} (h:Th H (rdE d) v):∃ p,v = .ref p/\H p = some (.tup [.str d.1,.str (wdM d.2),nmM d.2]):=by
 obtain ⟨p,x,y,z,rfl,hp,h1,h2,h3⟩:=th3 h
 have e1:x = .str d.1:=by simpa [Th] using h1
 have e2:y = .str (wdM d.2):=by simpa [Th] using h2
 have e3:z = nmM d.2:=by
  match hm:d.2 with
  | none =>
   rw [hm] at h3
   have h3:Th H .none z:=h3
   show z = V.non
   simpa [Th] using h3
  | some (b,i) =>
   rw [hm] at h3
   have h3:Th H (.int i) z:=h3
   show z = V.int i
   simpa [Th] using h3
 subst e1 e2 e3
 exact ⟨p,rfl,hp⟩
theorem rows_marks {H:Hp} {ns:List Str}:∀ {ds:List PyData} {xs:List V},(∀ x ∈ ds,isRowD ns x = true)->Ths H ds xs->∃ (D:List (Str × Mk)) (rs:List (Addr × Row)),ds = D.map rdE/\(xs = rs.map fun q=>V.ref q.1)/\(∀ q ∈ rs,H q.1 = some (.tup [.str q.2.1,.str q.2.2.1,q.2.2.2]))/\(rs.map fun q=>q.2) = D.map rowM
 | [],xs,_,h=>by
  have:xs = []:=by simpa [Ths] using h
  subst this
  exact ⟨[],[],rfl,rfl,fun q hq=>absurd hq List.not_mem_nil,rfl⟩
 | e :: ds,xs,hr,h=>by
  simp only [Ths] at h
  obtain ⟨v,r,rfl,h1,h2⟩:=h
  obtain ⟨D,rs,rfl,rfl,k,ek⟩:=rows_marks (fun x hx=>hr x (List.mem_cons_of_mem _ hx)) h2
  obtain ⟨d,rfl,hd⟩:=row_mark (hr e (List.mem_cons_self ..))
  obtain ⟨p,rfl,hp⟩:=th_row h1
  refine ⟨d :: D,(p,rowM d) :: rs,rfl,rfl,fun q hq=>?_,by rw [List.map_cons,List.map_cons,ek]⟩
  rcases List.mem_cons.mp hq with rfl | hq
  ·exact hp
  ·exact k q hq
theorem nm_rdE (D:List (Str × Mk)):(D.map rdE).map nmOf = D.map fun q=>q.1:=by rw [List.map_map]; rfl
end Sw
namespace Sw
open PySem L2
theorem row_is {ns:List Str} {d:Str × Mk} (h:d.1 ∈ ns):isRowD ns (rdE d) = true:=by
 have e1:((ns.map PyData.str).any fun z=>PyData.eqv z (.str d.1)) = true:=List.any_eq_true.mpr ⟨.str d.1,List.mem_map.mpr ⟨d.1,h,rfl⟩,by simp [PyData.eqv]⟩
 show (((ns.map PyData.str).any fun z=>PyData.eqv z (.str d.1)) && _) = true
 rw [e1,Bool.true_and]
 match hm:d.2 with
 | none=>show (if PyData.eqv (.str wOpen) (.str wOpen) = true then true else _) = true; rw [if_pos (by simp [PyData.eqv])]
 | some (true,i) =>
  show (if PyData.eqv (.str wIn) (.str wOpen) = true then false else ([.str wIn,.str wOut].any fun z=>PyData.eqv z (.str wIn)) && true) = true
  rw [if_neg (by decide +kernel)]
  decide +kernel
 | some (false,i) =>
  show (if PyData.eqv (.str wOut) (.str wOpen) = true then false else ([.str wIn,.str wOut].any fun z=>PyData.eqv z (.str wOut)) && true) = true
  rw [if_neg (by decide +kernel)]
  decide +kernel
noncomputable def ShowD (ns:List Str) (sr:Str->List Str) (d:PyData):Prop:=∃ D:List (Str × Mk),(d = .list (D.map rdE)\/d = .tuple (D.map rdE))/\(D.map fun q=>q.1).Perm ns/\((D.map fun q=>q.1).all fun n=>grd (sr n) (lookM D) n) = true
theorem show_rows {ns:List Str} {sr:Str->List Str} {d:PyData} (h:ShowD ns sr d):RowsD ns d:=by
 obtain ⟨D,e,p,_⟩:=h
 refine ⟨_,e,fun x hx=>?_,by rw [nm_rdE]; exact p⟩
 obtain ⟨q,hq,rfl⟩:=List.mem_map.mp hx
 exact row_is (p.mem_iff.mp (List.mem_map.mpr ⟨q,hq,rfl⟩))
theorem rdE_inj {a b:Str × Mk} (h:rdE a = rdE b):a = b:=by
 unfold rdE at h
 injection h with h
 injection h with h1 h2
 injection h2 with h2 h3
 injection h3 with h3 _
 injection h1 with h1
 injection h2 with h2
 obtain ⟨a1,a2⟩:=a
 obtain ⟨b1,b2⟩:=b
 cases h1
 match a2,b2,h2,h3 with
 | none,none,_,_=>rfl
 | none,some (_,_),_,h3=>cases h3
 | some (_,_),none,_,h3=>cases h3
 | some (true,i),some (true,j),_,h3=>cases h3; rfl
 | some (false,i),some (false,j),_,h3=>cases h3; rfl
 | some (true,i),some (false,j),h2,_=>exact absurd h2 io_ne
 | some (false,i),some (true,j),h2,_=>exact absurd h2.symm io_ne
theorem map_inj {D E:List (Str × Mk)} (h:D.map rdE = E.map rdE):D = E:=by
 induction D generalizing E with
 | nil=>cases E with
  | nil=>rfl
  | cons _ _=>cases h
 | cons a r ih=>cases E with
  | nil=>cases h
  | cons b t =>
   rw [List.map_cons,List.map_cons] at h
   injection h with h1 h2
   rw [rdE_inj h1,ih h2]
end Sw
namespace Sw
open PySem L2
section
variable {P:Program} {w:World} {K:PySem.W.Frag} {mg:Str->Option Value} {base:Heap}
theorem sc_shows_least:FnScope ["web", "rows", "words", "numbers"] ["web", "rows"] (defScope s_shows_least):=⟨rfl,rfl,rfl,by decide +kernel,rfl,by decide +kernel,by decide +kernel⟩
noncomputable def sp_showsA (C:Addr):Sp:=fun vs H Q _=>∃ (x:Addr) (v:V) (ns:List Str) (qs:List PA2) (d:PyData),vs = [.ref x,v]/\WebAt C H x ns qs/\Th H d v/\(∀ y ∈ ns,nameB y = true)/\(∀ ds,d = .list ds\/d = .tuple ds->ds.length<=1000/\∀ e ∈ ds,∀ a b c,e = .tuple [a,b,c]->Pl a/\Pl b)/\∀ (b:Bool) H',Same H H'->(b = true ↔ ShowD ns (strikersOf qs) d)->Q (.bl b) H'
theorem th_LT {H:Hp} {d:PyData} {v:V} {ds:List PyData} (h:Th H d v) (e:d = .list ds\/d = .tuple ds):∃ a b xs,v = .ref a/\H a = some (LT b xs)/\Ths H ds xs:=by
 rcases e with rfl | rfl
 ·simp only [Th] at h
  obtain ⟨a,xs,e1,e2,r⟩:=h
  exact ⟨a,true,xs,e1,e2,r⟩
 ·simp only [Th] at h
  obtain ⟨a,xs,e1,e2,r⟩:=h
  exact ⟨a,false,xs,e1,e2,r⟩
set_option maxHeartbeats 1000000 in
theorem ok_shows_least (T:Tx K mg):FnOk P w K mg base CX0 4 T.shows_least.f T.shows_least.fd ["web", "rows"] (sp_showsA T.CWeb):=by
 have G_are_rows:FnOk P w K mg base CX0 3 T.are_rows.f T.are_rows.fd ["web", "rows"] (sp_are_rowsA T.CWeb):=ok_are_rows T
 have G_is_grounded:FnOk P w K mg base CX0 3 T.is_grounded.f T.is_grounded.fd ["web", "words", "numbers", "name"] (sp_grounded T.CWeb):=ok_is_grounded T
 have sc:=sc_shows_least
 refine T.shows_least.F.ok sc_shows_least (fun vs H Q E h=>?_) (fun cdv A outer s H vs Q E hr h=>?_)
 ·obtain ⟨x,v,ns,qs,d,rfl,_⟩:=h
  rfl
 ·obtain ⟨x,v,ns,qs,d,rfl,hW,hd,okn,hp,q⟩:=h
  refine ⟨_,(pss_cons (ps_if (pt_not (pt_val (pe_fn T.are_rows G_are_rows (hr.mono (by decide)) (pa_cons (pv 0) (pa_cons (pv 1) pa_nil))))) (pss_one (ps_ret pe_bl)) pss_nil)
   (pss_cons (ps_set (i:=2) sc.nd rfl (by first | exact Or.inl rfl | exact Or.inr rfl) (pe_dc (N':=["name", "word", "number"]) (cap:=[none,none,none]) (cl:=[]) (cs_mk trivial trivial) rfl (piS K (pv 1)) (fun _ _ _ _=>by exact ⟨(pgT K (n:=3) (pgs_cons (pgC 0) (pgs_cons (pgC 1) (pgs_cons (pgC 2) pgs_nil)))),pts_nil,(pv 0),(pv 1)⟩)))
   (pss_cons (ps_set (i:=3) sc.nd rfl (by first | exact Or.inl rfl | exact Or.inr rfl) (pe_dc (N':=["name", "word", "number"]) (cap:=[none,none,none]) (cl:=[]) (cs_mk trivial trivial) rfl (piS K (pv 1)) (fun _ _ _ _=>by exact ⟨(pgT K (n:=3) (pgs_cons (pgC 0) (pgs_cons (pgC 1) (pgs_cons (pgC 2) pgs_nil)))),pts_nil,(pv 0),(pv 2)⟩)))
   (pss_one (ps_ret (pe_bf (cl_all K) T.b_all bt_all (pa_cons (pe_lc (N':=["name", "web", "words", "numbers"]) (cap:=[none,some 0,some 2,some 3]) (cl:=[("words",_),("web",_),("numbers",_)]) (cs_mk ⟨⟨rfl,rfl,rfl,rfl⟩,⟨⟨rfl,rfl,rfl,rfl⟩,⟨⟨rfl,rfl,rfl,rfl⟩,trivial⟩⟩⟩ ⟨rfl,⟨rfl,⟨rfl,trivial⟩⟩⟩) rfl (pi_dic (pv 2)) (fun _ _ _ _=>by exact ⟨(pgC 0),pts_nil,(pe_fn T.is_grounded G_is_grounded (hr.mono (by decide)) (pa_cons (pv 1) (pa_cons (pv 2) (pa_cons (pv 3) (pa_cons (pv 0) pa_nil)))))⟩)) pa_nil))))))),?_⟩
  refine seq_gen fun N1 hN1=>?_
  refine ex1 rfl (ex1 rfl ⟨x,v,ns,qs,d,rfl,hW,hd,okn,hp,fun b1 H1 s1 hb=>ex1 rfl ?_⟩)
  cases b1 with
  | false=>exact iteT (q false H1 s1 ⟨(fun z=>by cases z),fun z=>hb.mpr (show_rows z)⟩)
  | true =>
  refine iteF (hN1 _ _ (seq_gen fun N2 hN2=>?_))
  obtain ⟨ds,ed,hr',pn⟩:=hb.mp rfl
  obtain ⟨a,b,xs,rfl,ha,T1⟩:=th_LT (hd.same s1) ed
  obtain ⟨D,rs,rfl,rfl,k1,eD⟩:=rows_marks hr' T1
  rw [nm_rdE] at pn
  have R1:RS H1 b a rs:=⟨ha,k1⟩
  have q:∀ H',Same H H'->Q (.bl ((D.map fun q=>q.1).all fun n=>grd (strikersOf qs n) (lookM D) n)) H':=fun H' s'=>q _ H' s' ⟨fun z=>⟨D,ed,pn,z⟩,fun ⟨D',e',_,z⟩=>by
   have:D' = D:=by
    rcases ed with ed | ed
    ·rcases e' with e' | e'
     ·rw [ed] at e'; injection e' with e'; exact (map_inj e').symm
     ·rw [ed] at e'; cases e'
    ·rcases e' with e' | e'
     ·rw [ed] at e'; cases e'
     ·rw [ed] at e'; injection e' with e'; exact (map_inj e').symm
   rw [<-this]; exact z⟩
  have ok:=hW.ok
  have nd:(D.map fun q=>q.1).Nodup:=pn.nodup_iff.mpr ok.nd
  have lD:D.length<=100:=by
   have a2:=pn.length_eq
   rw [List.length_map] at a2
   have:=ok.len
   omega
  dsimp only [tAsg]
  refine comp_seq rfl (sqs_LT R1.1) fun J as dw hdw=>?_
  refine dc_row (fun m=>.str (wdM m)) as R1.2 eD nd (by omega) hdw (fun d H' Q' hq=>⟨_,rfl,hq⟩) (fun σ H2 s2 e2=>?_) _ _ _
  have hdw0:H dw = none:=s1.free hdw
  have s12:=s1.trans s2
  have R2:=R1.same s2
  clear as s2 hdw
  refine hN2 _ _ (seq_gen fun N3 hN3=>?_)
  dsimp only [tAsg]
  refine comp_seq rfl (sqs_LT R2.1) fun J as dn hdn=>?_
  refine dc_row (fun m=>nmM m) as R2.2 eD nd (by omega) hdn (fun d H' Q' hq=>⟨_,rfl,hq⟩) (fun σ H3 s3 e3=>?_) _ _ _
  have nwn:dw ≠ dn:=ne_of_none e2 hdn
  have e2:=s3 _ _ e2
  have s13:=s12.trans s3
  clear as R2 s12 s3
  refine hN3 _ _ ?_
  refine ex1 rfl ⟨dw,_,rfl,e2,fun o C hC=>?_⟩
  have s4:Same H (upd H3 dw (.frz o (.dK (D.map fun d=>((Sum.inr d.1:Key),V.str (wdM d.2)))))):=s13.upd hdw0
  have w4:(upd H3 dw (.frz o (.dK (D.map fun d=>((Sum.inr d.1:Key),V.str (wdM d.2)))))) dw = some (.frz o (.dK (D.map fun d=>((Sum.inr d.1:Key),V.str (wdM d.2))))):=upd_same
  have n4:(upd H3 dw (.frz o (.dK (D.map fun d=>((Sum.inr d.1:Key),V.str (wdM d.2)))))) dn = some (.dK (D.map fun d=>((Sum.inr d.1:Key),nmM d.2))):=(upd_ne nwn.symm).trans e3
  generalize upd H3 dw (.frz o (.dK (D.map fun d=>((Sum.inr d.1:Key),V.str (wdM d.2))))) = H4 at s4 w4 n4 hC ⊢
  refine lc_keys (ks:=D.map fun q=>q.1) (fun n=>grd (strikersOf qs n) (lookM D) n) w4 (by rw [List.map_map,List.map_map]; rfl) (by rw [List.length_map]; omega) hC (fun y hy H5 s5 Q' hQ=>?_) (fun σ H5 s5 e5=>⟨C,_,rfl,SqL.of e5,by rw [List.all_map]; exact q H5 (s4.trans s5)⟩) _
  exact ex1 rfl (ex1 rfl (ex1 rfl (ex1 rfl ⟨x,dw,dn,y,ns,qs,_,_,D,rfl,hW.same (s4.trans s5),pn.mem_iff.mp hy,.inr ⟨o,s5 _ _ w4⟩,.inl (s5 _ _ n4),fun n hn=>val_map D (fun m=>.str (wdM m)) hn,fun n hn=>val_map D nmM hn,fun m hm=>pn.mem_iff.mpr hm,hQ⟩)))
end
end Sw
namespace Sw
open PySem L2
noncomputable def isStr:PyData->Bool
 | .str _=>true
 | _=>false
theorem kit_str {K:PySem.W.Frag} {H:Hp} {d:PyData} {v:V} (h:Th H d v):PySem.W.kitOne K (.type (tyD d)) (.type "str") = some (isStr d):=by
 match d with
 | .dict _=>simp [Th] at h
 | .none=>rfl
 | .bool _=>rfl
 | .int _=>rfl
 | .str _=>rfl
 | .list _=>rfl
 | .tuple _=>rfl
theorem str_get {d:PyData} (h:isStr d = true):∃ x,d = .str x:=by
 match d,h with
 | .str x,_=>exact ⟨x,rfl⟩
theorem rdE_parts {a b c:PyData}:(∃ e,PyData.tuple [a,b,c] = rdE e)->isStr a = true/\isStr b = true:=fun ⟨e,h⟩=>by
 unfold rdE at h
 injection h with h
 injection h with h1 h
 injection h with h2 h
 subst h1 h2
 exact ⟨rfl,rfl⟩
section
variable {P:Program} {w:World} {K:PySem.W.Frag} {mg:Str->Option Value} {base:Heap}
theorem sc_law_is_row:FnScope ["_law_row"] ["_law_row"] (defScope s_law_is_row):=⟨rfl,rfl,rfl,by decide +kernel,rfl,by decide +kernel,by decide +kernel⟩
noncomputable def sp_lis_rowA:Sp:=fun vs H Q _=>∃ (v:V) (d:PyData),vs = [v]/\Th H d v/\(∀ a b c,d = .tuple [a,b,c]->Pl a/\Pl b)/\∀ (b:Bool) H',Same H H'->(b = true ↔ ∃ e,d = rdE e)->Q (.bl b) H'
set_option maxHeartbeats 1000000 in
theorem ok_law_is_row (T:Tx K mg):FnOk P w K mg base CX0 1 T.law_is_row.f T.law_is_row.fd ["_law_row"] sp_lis_rowA:=by
 have sc:=sc_law_is_row
 refine T.law_is_row.F.ok sc_law_is_row (fun vs H Q E h=>?_) (fun cdv A outer s H vs Q E hr h=>?_)
 ·obtain ⟨v,d,rfl,_⟩:=h
  rfl
 ·obtain ⟨v,d,rfl,hd,pl,q⟩:=h
  refine ⟨_,(pss_cons (ps_if (PW.pt (pw_or (pt_not (pt_val (pe_bf (cl_isin K) T.b_isinstance bt_isinstance (pa_cons (pv 0) (pa_cons (pe_ty T.b_tuple bt_tuple) pa_nil))))) (pw_or (pt_cmpR op_ne (pe_bf (cl_len K) T.b_len bt_len (pa_cons (pv 0) pa_nil)) pe_int (nomark _)) (pw_or (pt_not (pt_val (pe_bf (cl_isin K) T.b_isinstance bt_isinstance (pa_cons (pe_ix (ixT K) (pv 0) pe_int (fun _ _=>rfl)) (pa_cons (pe_ty T.b_str bt_str) pa_nil))))) (pw_or1 (pt_not (pt_val (pe_bf (cl_isin K) T.b_isinstance bt_isinstance (pa_cons (pe_ix (ixT K) (pv 0) pe_int (fun _ _=>rfl)) (pa_cons (pe_ty T.b_str bt_str) pa_nil)))))))))) (pss_one (ps_ret pe_bl)) pss_nil)
   (pss_cons (ps_if (pt_cmpR (o_eqD K hr.units) (pe_ix (ixT K) (pv 0) pe_int (fun _ _=>rfl)) pe_str (nomark _)) (pss_one (ps_ret (pe_cmpR op_isN (pe_ix (ixT K) (pv 0) pe_int (fun _ _=>rfl)) pe_non (nomark _)))) pss_nil)
   (pss_one (ps_ret (pe_and (pe_cmpR (o_inD K hr.units) (pe_ix (ixT K) (pv 0) pe_int (fun _ _=>rfl)) (pe_tup (pa_cons pe_str (pa_cons pe_str pa_nil))) rfl) (pe_and (pe_bf (cl_isin K) T.b_isinstance bt_isinstance (pa_cons (pe_ix (ixT K) (pv 0) pe_int (fun _ _=>rfl)) (pa_cons (pe_ty T.b_int bt_int) pa_nil))) (pe_one (pe_not (pe_bf (cl_isin K) T.b_isinstance bt_isinstance (pa_cons (pe_ix (ixT K) (pv 0) pe_int (fun _ _=>rfl)) (pa_cons (pe_ty T.b_bool bt_bool) pa_nil))))))))))),?_⟩
  have no:(¬ ∃ e,d = rdE e)->Q (.bl false) H:=fun n=>q false H (fun b o e=>e) ⟨(fun z=>by cases z),fun z=>absurd z n⟩
  have kT:=kit_of (K:=K) hd "tuple" (.inr (.inr (.inr (.inr rfl))))
  refine seq_gen fun N1 hN1=>?_
  refine ex1 rfl ⟨v, "tuple",_,_,rfl,hd.ty,kT,?_⟩
  have nt:(∀ ds,d ≠ .tuple ds)->Q (.bl false) H:=fun n=>no fun ⟨e,he⟩=>n _ he
  match d,hd,pl,q,no,nt,kT with
  | .dict _,hd,_,_,_,_,_=>simp [Th] at hd
  | .none,_,_,_,_,nt,_=>exact ex1 rfl (iteT (iteT (nt fun _ z=>by cases z)))
  | .int _,_,_,_,_,nt,_=>exact ex1 rfl (iteT (iteT (nt fun _ z=>by cases z)))
  | .bool _,_,_,_,_,nt,_=>exact ex1 rfl (iteT (iteT (nt fun _ z=>by cases z)))
  | .str _,_,_,_,_,nt,_=>exact ex1 rfl (iteT (iteT (nt fun _ z=>by cases z)))
  | .list _,_,_,_,_,nt,_=>exact ex1 rfl (iteT (iteT (nt fun _ z=>by cases z)))
  | .tuple ds,hd,pl,q,no,_,_ =>
   refine ex1 rfl (iteF ?_)
   have hd':=hd
   simp only [Th] at hd'
   obtain ⟨p,xs,rfl,hp,r⟩:=hd'
   refine ex1 rfl (ex2_3 (a:=p) rfl (.inr (SqT.of hp)) ⟨rfl,ex1 rfl (ite2 (fun z=>iteT ?_) (fun z=>?_))⟩)
   ·refine no fun ⟨e,he⟩=>?_
    unfold rdE at he
    injection he with he
    have:=r.length
    rw [he] at this
    rw [this] at z
    cases z
   have l3:ds.length = 3:=by
    rw [<-r.length]
    by_cases c:xs.length = 3
    ·exact c
    ·exact absurd (by
      rw [Bool.not_eq_true']
      exact decide_eq_false fun y=>c (by injection y with y; omega)) z
   obtain ⟨a,b,c,e3⟩:=is3_get (d:=.tuple ds) (decide_eq_true l3)
   injection e3 with e3
   subst e3
   obtain ⟨p',x,y,zv,ep,hp',ha,hb,hc⟩:=th3 hd
   cases ep
   obtain ⟨pa,pb⟩:=pl a b c rfl
   refine ex1 rfl ⟨p,_,ex2_3 rfl rfl ⟨SqT.of hp',rfl,x, "str",_,_,rfl,ha.ty,kit_str ha,ex1 rfl ?_⟩⟩
   cases hsa:isStr a with
   | false=>exact iteT (iteT (no fun z=>by rw [(rdE_parts z).1] at hsa; cases hsa))
   | true =>
   refine iteF (ex1 rfl ⟨p,_,ex2_3 rfl rfl ⟨SqT.of hp',rfl,y, "str",_,_,rfl,hb.ty,kit_str hb,ex1 rfl ?_⟩⟩)
   cases hsb:isStr b with
   | false=>exact iteT (no fun z=>by rw [(rdE_parts z).2] at hsb; cases hsb)
   | true =>
   refine iteF (hN1 _ _ ?_)
   obtain ⟨n,rfl⟩:=str_get hsa
   obtain ⟨wd,rfl⟩:=str_get hsb
   have key:isRowD [n] (.tuple [.str n,.str wd,c]) = true ↔ ∃ e,PyData.tuple [.str n,.str wd,c] = rdE e:=⟨fun z=>let ⟨e,he,_⟩:=row_mark z; ⟨e,he⟩,fun ⟨e,he⟩=>by
    have:n = e.1:=by
     unfold rdE at he
     injection he with he
     injection he with h1 _
     injection h1
    rw [he,this]
    exact row_is (List.mem_singleton.mpr rfl)⟩
   have er:isRowD [n] (.tuple [.str n,.str wd,c]) = if PyData.eqv (.str wd) (.str wOpen) = true then isNon c else ([.str wIn,.str wOut].any fun z=>PyData.eqv z (.str wd)) && isNum c:=by
    show ((([n].map PyData.str).any fun z=>PyData.eqv z (.str n)) && _) = _
    rw [show (([n].map PyData.str).any fun z=>PyData.eqv z (.str n)) = true by simp [PyData.eqv],Bool.true_and]
   rw [er] at key
   refine seq_gen fun N2 hN2=>?_
   refine ex1 rfl ⟨p,_,ex2_3 rfl rfl ⟨SqT.of hp',rfl,?_⟩⟩
   refine ⟨.str wd,.str wOpen,hb.rp,by simp only [Rp],pb,pl_str (by decide +kernel),ex1 rfl (ite2 (fun z=>?_) (fun z=>hN2 _ _ ?_))⟩
   ·rw [if_pos z] at key
    refine ex1 rfl ⟨p,_,ex2_3 rfl rfl ⟨SqT.of hp',rfl,rfl,?_⟩⟩
    rw [non_iff hc]
    exact q _ H (fun b o e=>e) key
   rw [if_neg z] at key
   refine ex1 rfl ⟨p,_,ex2_3 rfl rfl ⟨SqT.of hp',rfl,by show 2<=sizeLine; decide,fun t ht=>?_⟩⟩
   have s1:=Same.new (o:=.tup [.str wIn,.str wOut]) ht
   refine ⟨.str wd,[.str wIn,.str wOut],(hb.same s1).rp,.inr ?_,pb,by decide +kernel,?_⟩
   ·simp only [Rp]
    exact ⟨t,_,rfl,SqT.of upd_same,rp_list (l:=t) (ns:=[wIn,wOut])⟩
   rw [if_neg (by decide)]
   have q1:=fun b=>q b _ s1
   have hc1:=hc.same s1
   have hp1:=s1 _ _ hp'
   refine ex1 rfl (ite2 (fun e2=>?_) (fun e2=>?_))
   ·rw [e2,Bool.true_and] at key
    have k1:=kit_of (K:=K) hc1 "int" (.inl rfl)
    have k2:=kit_of (K:=K) hc1 "bool" (.inr (.inl rfl))
    refine ex1 rfl ⟨p,_,ex2_3 rfl rfl ⟨SqT.of hp1,rfl,zv, "int",_,_,rfl,hc1.ty,k1,?_⟩⟩
    have q2:=q1 _ key
    clear key er q q1 pl no hd r
    match c,hc1,q2,k1,k2 with
    | .dict _,hc1,_,_,_=>simp [Th] at hc1
    | .int _,hc1,q2,_,k2=>exact ex1 rfl (iteT (ex1 rfl ⟨p,_,ex2_3 rfl rfl ⟨SqT.of hp1,rfl,zv, "bool",_,_,rfl,hc1.ty,k2,ex1 rfl q2⟩⟩))
    | .bool _,hc1,q2,_,k2=>exact ex1 rfl (iteT (ex1 rfl ⟨p,_,ex2_3 rfl rfl ⟨SqT.of hp1,rfl,zv, "bool",_,_,rfl,hc1.ty,k2,ex1 rfl q2⟩⟩))
    | .none,_,q2,_,_=>exact ex1 rfl (iteF q2)
    | .str _,_,q2,_,_=>exact ex1 rfl (iteF q2)
    | .list _,_,q2,_,_=>exact ex1 rfl (iteF q2)
    | .tuple _,_,q2,_,_=>exact ex1 rfl (iteF q2)
   ·rw [Bool.eq_false_iff.mpr e2,Bool.false_and] at key
    exact q1 false key
end
end Sw
namespace Sw
open PySem L2
theorem eqv_nil:∀ ds:List PyData,PyData.eqv (.list ds) (.list []) = ds.isEmpty
 | []=>by rw [PyData.eqv,PyData.eqvAll]; rfl
 | _ :: _=>by rw [PyData.eqv,PyData.eqvAll]; rfl
theorem eqv_sd_nil (ss:List Str):PyData.eqv (sd ss) (.list []) = ss.isEmpty:=by
 unfold sd
 rw [eqv_nil]
 cases ss <;> rfl
theorem pl_nil:Pl (.list []):=⟨by simp [PyData.canLay0,PyData.canLayAll0],by simp [PyData.depth,PyData.depthAll]⟩
theorem rp_nil {K:PySem.W.Frag} {H:Hp} {l:Addr} (h:SqL K H l []):Rp K H (.list []) (.ref l):=by
 simp only [Rp]
 exact ⟨l,_,rfl,h,by simp [Rps]⟩
end Sw
namespace Sw
open PySem L2
noncomputable def StepsAt (H:Hp) (kvs:List (Key × V)) (ns:List Str) (nx:Str->List Str):Prop:=∀ n ∈ ns,∃ l,valV kvs (.inr n) = some (.ref l)/\H l = some (.lst ((nx n).map V.str))
theorem StepsAt.same {H H':Hp} {kvs:List (Key × V)} {ns:List Str} {nx:Str->List Str} (h:StepsAt H kvs ns nx) (s:Same H H'):StepsAt H' kvs ns nx:=fun n hn=>let ⟨l,h1,h2⟩:=h n hn; ⟨l,h1,s _ _ h2⟩
theorem mrgK_new:∀ {more acc:List (Key × V)},((acc ++ more).map fun k=>k.1).Nodup->mrgK acc more = acc ++ more
 | [],acc,_=>(List.append_nil acc).symm
 | a :: r,acc,h=>by
  have e:putK acc a.1 a.2 = acc ++ [a]:=by
   unfold putK
   rw [if_neg]
   rw [List.any_eq_true]
   rintro ⟨k,hk,c⟩
   rw [List.map_append] at h
   exact (List.nodup_append.mp h).2.2 k.1 (List.mem_map.mpr ⟨k,hk,rfl⟩) a.1 (List.mem_map.mpr ⟨a,List.mem_cons_self ..,rfl⟩) (of_decide_eq_true c)
  show mrgK (putK acc a.1 a.2) r = _
  rw [e,mrgK_new (by rw [List.append_assoc]; exact h),List.append_assoc]; rfl
section
variable {P:Program} {w:World} {K:PySem.W.Frag} {mg:Str->Option Value} {base:Heap}
noncomputable def sp_lstrikers:Sp:=fun vs H Q _=>∃ (n a:Addr) (ss:List Str) (ps:List PA2),vs = [.ref n,.ref a]/\H n = some (.lst (ss.map V.str))/\NamesOk ss/\H a = some (.lst (refs ps))/\(∀ q ∈ ps,PairIn H q)/\StrkOk ss ps /\
 ∀ d kvs H',Same H H'->H' d = some (.dK kvs)->StepsAt H' kvs ss (strikersOf ps)->Q (.ref d) H'
theorem sc_law_strikers:FnScope ["_law_names", "_law_strikes_here", "_law_found", "_law_one", "_law_other"] ["_law_names", "_law_strikes_here"] (defScope s_law_strikers):=⟨rfl,rfl,rfl,by decide +kernel,rfl,by decide +kernel,by decide +kernel⟩
set_option maxHeartbeats 4000000 in
theorem ok_law_strikers (T:Tx K mg):FnOk P w K mg base CX0 1 T.law_strikers.f T.law_strikers.fd ["_law_names", "_law_strikes_here"] sp_lstrikers:=by
 have sc:=sc_law_strikers
 refine T.law_strikers.F.ok sc_law_strikers (fun vs H Q E h=>?_) (fun cdv A outer s H vs Q E hr h=>?_)
 ·obtain ⟨n,a,ss,ps,rfl,_⟩:=h
  rfl
 ·obtain ⟨n,a,ss,ps,rfl,hn,hN,ha,hp,hO,k⟩:=h
  have hu:=hu_of hr
  refine ⟨_,(pss_cons (ps_set (i:=2) sc.nd rfl (by first | exact Or.inl rfl | exact Or.inr rfl) (pe_bt cl_dictP T.b_dict bt_dict (pa_cons (pe_lc (N':=["_law_name"]) (cap:=[none]) (cl:=[]) (cs_mk trivial trivial) rfl (piL K (pv 0)) (fun _ _ _ _=>by exact ⟨(pgC 0),pts_nil,(pe_tup (pa_cons (pv 0) (pa_cons (pe_lst pa_nil) pa_nil)))⟩)) pa_nil)))
   (pss_cons (ps_for PassesOwn.never rfl (piL K (pv 1)) (pgT K (n:=2) (pgs_cons (pg_name (i:=3) sc.nd rfl (by first | exact Or.inl rfl | exact Or.inr rfl)) (pgs_cons (pg_name (i:=4) sc.nd rfl (by first | exact Or.inl rfl | exact Or.inr rfl)) pgs_nil)))
   (pss_one (ps_expr (peBM K PySem.F.plainAttrs_list PySem.F.slot_list_append PySem.F.type_list_append mt_append (pe_dget hu (pv 2) (pv 4) (fun _ _=>rfl)) (pa_cons (pv 3) pa_nil)))))
   (pss_one (ps_ret (pv 2))))),?_⟩
  have l100:=hN.2.2
  have lq:=hO.len
  refine seq_gen fun N1 hN1=>?_
  refine ex1 rfl ⟨n,rfl,⟨_,SqL.of hn⟩,fun E hE=>?_⟩
  refine loop_as (asL (K:=K) (SqL.of hn)) (fun i σ H3=>(∃ v,σ = [v])/\Same H H3/\∃ ts:List (Addr × Key × V),H3 E = some (.lst (ts.map fun q=>V.ref q.1))/\(∀ q ∈ ts,H3 q.1 = some (.tup [kV q.2.1,q.2.2]))/\(ts.map fun q=>q.2.1) = (ss.take i).map Sum.inr/\DOk H (ts.map fun q=>q.2) (ss.take i)/\∀ m ∈ ss.take i,la (ts.map fun q=>q.2) m ≠ E/\H3 (la (ts.map fun q=>q.2) m) = some (.lst []))
   ⟨⟨_,rfl⟩,Same.new hE,[],upd_same,fun q h=>absurd h List.not_mem_nil,rfl,⟨fun n h=>absurd h List.not_mem_nil,fun n h=>absurd h List.not_mem_nil,fun n h=>absurd h List.not_mem_nil⟩,fun m h=>absurd h List.not_mem_nil⟩ (fun i σ H1 _ ⟨_,s1,_⟩=>s1.at n) ?_ ?_
  ·rintro i σ H3 v N hx ⟨⟨v0,rfl⟩,s3,ts,e3,t3,q3,D3,c3⟩ hN'
   rw [List.getElem?_map] at hx
   obtain ⟨y,hy,rfl⟩:=Option.map_eq_some_iff.mp hx
   have hi:=(List.getElem?_eq_some_iff.mp hy).1
   have lt:=congrArg List.length q3
   rw [List.length_map,List.length_map,List.length_take] at lt
   refine g_true (ex1 rfl ⟨Nat.zero_le _,fun p hp'=>?_⟩)
   have u4:=Same.new (o:=.lst []) hp'
   have f4:(upd H3 p (.lst [])) p = some (.lst []):=upd_same
   have pE:p ≠ E:=(ne_of_none e3 hp').symm
   generalize upd H3 p (.lst []) = H4 at u4 f4 ⊢
   refine ⟨by show 2<=sizeLine; decide,fun t ht=>?_⟩
   have u5:=Same.new (o:=.tup [.str y,.ref p]) ht
   have f5:(upd H4 t (.tup [.str y,.ref p])) t = some (.tup [.str y,.ref p]):=upd_same
   have tE:t ≠ E:=(ne_of_none (u4 _ _ e3) ht).symm
   generalize upd H4 t (.tup [.str y,.ref p]) = H5 at u5 f5 ⊢
   have u45:=u4.trans u5
   have yn:y ∉ ss.take i:=nodup_take hN.2.1 hy
   have ek:(ts ++ [((t,(Sum.inr y,V.ref p)):Addr × Key × V)]).map (fun q=>q.2) = putK (ts.map fun q=>q.2) (.inr y) (.ref p):=by
    rw [List.map_append]
    unfold putK
    rw [if_neg]; rfl
    rw [List.any_map,List.any_eq_true]
    rintro ⟨q,hq,c⟩
    have c:q.2.1 = Sum.inr y:=of_decide_eq_true c
    have:(Sum.inr y:Key) ∈ (ss.take i).map Sum.inr:=q3 ▸ List.mem_map.mpr ⟨q,hq,c⟩
    obtain ⟨z,hz,e⟩:=List.mem_map.mp this
    cases e
    exact yn hz
   have old:∀ m ∈ ss.take i ++ [y],m ≠ y->m ∈ ss.take i:=fun m hm e=>(List.mem_append.mp hm).elim id fun z=>absurd (List.mem_singleton.mp z) e
   refine ⟨_,u45 _ _ e3,by rw [List.length_map,sizeLine_eq]; omega,hN' _ _ ⟨⟨_,rfl⟩,(s3.trans u45).upd hE,ts ++ [(t,(Sum.inr y,V.ref p))],by rw [upd_same,List.map_append]; rfl,fun q hq=>?_,?_,?_,?_⟩⟩
   ·rcases List.mem_append.mp hq with c | c
    ·exact (upd_ne (ne_of (t3 q c) e3 (by intro z; cases z))).trans (u45 _ _ (t3 q c))
    ·rw [List.mem_singleton.mp c]
     exact (upd_ne tE).trans f5
   ·rw [take_succ hy,List.map_append,List.map_append,q3]; rfl
   ·rw [ek,take_succ hy]
    refine ⟨fun m hm=>?_,fun m hm m' hm'=>?_,fun m hm=>?_⟩
    ·rw [val_put,la_put]
     by_cases e:m = y
     ·rw [if_pos e,if_pos e]
     ·rw [if_neg e,if_neg e]; exact D3.val m (old m hm e)
    ·rw [la_put,la_put]
     by_cases e:m = y
     ·by_cases e':m' = y
      ·exact fun _=>e.trans e'.symm
      ·rw [if_pos e,if_neg e']
       intro z
       have:=(c3 m' (old m' hm' e')).2
       rw [<-z,hp'] at this; cases this
     ·by_cases e':m' = y
      ·rw [if_neg e,if_pos e']
       intro z
       have:=(c3 m (old m hm e)).2
       rw [z,hp'] at this; cases this
      ·rw [if_neg e,if_neg e']
       exact D3.inj m (old m hm e) m' (old m' hm' e')
    ·rw [la_put]
     by_cases e:m = y
     ·rw [if_pos e]; exact s3.free hp'
     ·rw [if_neg e]; exact D3.fr m (old m hm e)
   ·rw [ek,take_succ hy]
    intro m hm
    rw [la_put]
    by_cases e:m = y
    ·rw [if_pos e]; exact ⟨pE,(upd_ne pE).trans (u5 _ _ f4)⟩
    ·rw [if_neg e]
     obtain ⟨c1,c2⟩:=c3 m (old m hm e)
     exact ⟨c1,(upd_ne c1).trans (u45 _ _ c2)⟩
  ·rintro σ H3 ⟨_,s3,ts,e3,t3,q3,D3,c3⟩
   rw [List.length_map,List.take_length] at q3 D3 c3
   have lt:=congrArg List.length q3
   rw [List.length_map,List.length_map] at lt
   have em:mrgK [] (ts.map fun q=>q.2) = ts.map fun q=>q.2:=mrgK_new (by
    rw [List.nil_append,List.map_map,show ((fun k:Key × V=>k.1) ∘ fun q:Addr × Key × V=>q.2) = fun q=>q.2.1 from rfl,q3]
    exact List.Pairwise.map _ (fun a b h e=>h (Sum.inr.inj e)) hN.2.1)
   refine ⟨E,ts,rfl,e3,t3,by omega,fun D hD=>?_⟩
   rw [em]
   generalize (ts.map fun q=>q.2) = kvs at D3 c3 em ⊢
   have u4:=Same.new (o:=.dK kvs) hD
   have f4:(upd H3 D (.dK kvs)) D = some (.dK kvs):=upd_same
   generalize upd H3 D (.dK kvs) = H4 at u4 f4 ⊢
   have s4:=s3.trans u4
   have c4:∀ m ∈ ss,H4 (la kvs m) = some (.lst []):=fun m hm=>u4 _ _ (c3 m hm).2
   have Dn:∀ m ∈ ss,D ≠ la kvs m:=fun m hm=>(ne_of_none (c3 m hm).2 hD).symm
   refine hN1 _ _ (seq_gen fun N2 hN2=>?_)
   have ha4:=s4 _ _ ha
   refine ex1 rfl ⟨a,rfl,⟨_,SqL.of ha4⟩,for_asG (asL (SqL.of ha4)) (fun i σ H9=>(∃ v3 v4,σ = [some (.ref n),some (.ref a),some (.ref D),v3,v4])/\(∀ b o,H4 b = some o->(∀ m ∈ ss,b ≠ la kvs m)->H9 b = some o)/\∀ m ∈ ss,H9 (la kvs m) = some (.lst ((strikersOf (ps.take i) m).map V.str))) ?_ ?_ ?_ ?_⟩
   ·exact ⟨⟨_,_,rfl⟩,fun b o e _=>e,c4⟩
   ·rintro i σ H9 hi ⟨_,h1,_⟩ o e
    exact h1 _ _ e fun m hm=>ne_of_none ha (D3.fr m hm)
   ·rintro i σ H9 v hv ⟨⟨v3,v4,rfl⟩,h1,h2⟩ D1 hD1 _
    unfold refs at hv
    rw [List.getElem?_map] at hv
    obtain ⟨q,hq,rfl⟩:=Option.map_eq_some_iff.mp hv
    have hm:=List.mem_of_getElem? hq
    have old:∀ {b o},H b = some o->H9 b = some o:=fun {b o} e=>h1 b o (s4 b o e) fun m hm=>ne_of_none e (D3.fr m hm)
    have m2:=(hO.nm q hm).2
    have hl:((strikersOf (ps.take i) q.2.2).map V.str).length<=200:=by
     unfold strikersOf
     rw [List.length_map,List.length_map]
     have:=List.length_filter_le (fun z:PA2=>decide (z.2.2 = q.2.2)) (ps.take i)
     rw [List.length_take] at this
     omega
    refine ⟨q.1,ex1 rfl ⟨SqT.of (old (hp q hm)),rfl,_,ex1 rfl (ex2_3 rfl rfl ?_)⟩⟩
    refine ex1 rfl (ex1 rfl ⟨D,.ref (la kvs q.2.2),rfl,by rw [<-D3.val _ m2]; exact DGet.k (k:=Sum.inr q.2.2) (h1 _ _ f4 Dn),.inl ⟨rfl,_,SqL.of (h2 _ m2)⟩,ex1 rfl ⟨_,ex2_3 rfl rfl ⟨h2 _ m2,by rw [sizeLine_eq]; omega,hD1 _ _ ⟨⟨_,_,rfl⟩,fun b o e hb=>?_,fun m hm'=>?_⟩⟩⟩⟩)
    ·rw [upd_ne (hb _ m2)]; exact h1 b o e hb
    ·rw [take_succ hq,strikersOf_snoc]
     by_cases e:q.2.2 = m
     ·rw [<-e,upd_same,if_pos rfl,List.map_append]; rfl
     ·rw [if_neg e,List.append_nil,upd_ne (fun z=>e (D3.inj _ hm' _ m2 z).symm)]
      exact h2 m hm'
   ·rintro σ H9 ⟨⟨v3,v4,rfl⟩,h1,h2⟩
    have hlq:(refs ps).length = ps.length:=by unfold refs; rw [List.length_map]
    rw [hlq,List.take_length] at h2
    exact hN2 _ _ (ex1 rfl (k D kvs H9 (fun b o e=>h1 b o (s4 b o e) fun m hm=>ne_of_none e (D3.fr m hm)) (h1 _ _ f4 Dn) fun m hm=>⟨_,D3.val m hm,h2 m hm⟩))
end
end Sw
namespace Sw
open PySem L2
noncomputable def nmD:Mk->PyData
 | none=>.none
 | some (_,i)=>.int i
noncomputable def md (m:Mk):PyData:=.tuple [.str (wdM m),nmD m]
noncomputable def MkIn (H:Hp) (q:Addr × Mk):Prop:=H q.1 = some (.tup [.str (wdM q.2),nmM q.2])
noncomputable def MkL (H:Hp) (l:Addr) (ms:List (Addr × Mk)):Prop:=H l = some (.lst (ms.map fun q=>V.ref q.1))/\∀ q ∈ ms,MkIn H q
theorem MkL.same {H H':Hp} {l:Addr} {ms:List (Addr × Mk)} (h:MkL H l ms) (s:Same H H'):MkL H' l ms:=⟨s _ _ h.1,fun q hq=>s _ _ (h.2 q hq)⟩
theorem rp_mk {K:PySem.W.Frag} {H:Hp} {q:Addr × Mk} (h:MkIn H q):Rp K H (md q.2) (.ref q.1):=by
 unfold md
 simp only [Rp]
 refine ⟨q.1,_,rfl,SqT.of h,?_⟩
 simp only [Rps]
 refine ⟨_,_,rfl,by simp only [Rp],_,_,rfl,?_,rfl⟩
 match q.2 with
 | none=>show Rp K H .none .non; simp only [Rp]
 | some (b,i)=>show Rp K H (.int i) (.int i); simp only [Rp]
theorem rps_mk {K:PySem.W.Frag} {H:Hp}:∀ {ms:List (Addr × Mk)},(∀ q ∈ ms,MkIn H q)->Rps K H (ms.map fun q=>md q.2) (ms.map fun q=>V.ref q.1)
 | [],_=>by simp [Rps]
 | q :: r,h=>by
  rw [List.map_cons,List.map_cons]
  simp only [Rps]
  exact ⟨_,_,rfl,rp_mk (h q (List.mem_cons_self ..)),rps_mk fun z hz=>h z (List.mem_cons_of_mem _ hz)⟩
theorem wd_ok (m:Mk):PySem.PyData.strOk (wdM m) = true:=by
 match m with
 | none=>decide +kernel
 | some (true,_)=>exact (by decide +kernel:PySem.PyData.strOk wIn = true)
 | some (false,_)=>exact (by decide +kernel:PySem.PyData.strOk wOut = true)
theorem lay_mk (m:Mk):PyData.canLay0 (md m) = true:=by
 unfold md
 simp only [PyData.canLay0,PyData.canLayAll0,wd_ok,Bool.true_and,Bool.and_true]
 match m with
 | none=>rfl
 | some (_,_)=>rfl
theorem depth_mk (m:Mk):(md m).depth<=3:=by
 unfold md
 match m with
 | none=>simp [nmD,PyData.depth,PyData.depthAll]
 | some (_,_)=>simp [nmD,PyData.depth,PyData.depthAll]
theorem depth_mks:∀ ms:List (Addr × Mk),PyData.depthAll (ms.map fun q=>md q.2)<=3
 | []=>by simp [PyData.depthAll]
 | x :: r=>by
  have:=depth_mks r
  have e:=depth_mk x.2
  rw [List.map_cons,PyData.depthAll]
  omega
theorem lay_mks:∀ ms:List (Addr × Mk),PyData.canLayAll0 (ms.map fun q=>md q.2) = true
 | []=>rfl
 | x :: r=>by
  rw [List.map_cons,PyData.canLayAll0,lay_mks r,lay_mk]; rfl
theorem pl_mks (ms:List (Addr × Mk)):Pl (.list (ms.map fun q=>md q.2)):=by
 refine ⟨?_,?_⟩
 ·rw [PyData.canLay0]; exact lay_mks ms
 ·rw [PyData.depth]
  have:=depth_mks ms
  omega
theorem eq_nil {K:PySem.W.Frag} {H:Hp} {l e:Addr} {ms:List (Addr × Mk)} {Q:VK} (h:MkL H l ms) (he:H e = some (.lst [])) (q:Q (.bl ms.isEmpty) H):rEqD K (.ref l) (.ref e) H Q:=by
 refine ⟨.list (ms.map fun q=>md q.2),.list [],?_,rp_nil (SqL.of he),pl_mks ms,pl_nil,?_⟩
 ·simp only [Rp]
  exact ⟨l,_,rfl,SqL.of h.1,rps_mk h.2⟩
 ·rw [eqv_nil,List.isEmpty_map]; exact q
theorem ne_nil {K:PySem.W.Frag} {H:Hp} {l e:Addr} {ms:List (Addr × Mk)} {Q:VK} (h:MkL H l ms) (he:H e = some (.lst [])) (q:Q (.bl (!ms.isEmpty)) H):rNeD K (.ref l) (.ref e) H Q:=by
 refine ⟨.list (ms.map fun q=>md q.2),.list [],?_,rp_nil (SqL.of he),pl_mks ms,pl_nil,?_⟩
 ·simp only [Rp]
  exact ⟨l,_,rfl,SqL.of h.1,rps_mk h.2⟩
 ·rw [eqv_nil,List.isEmpty_map]; exact q
theorem lc_marks {K:PySem.W.Frag} {a D:Addr} {ms:List (Addr × Mk)} {r:St} {tc:TT} {H:Hp} {Q:St->Hp->Prop} (p:Mk->Bool) (e:MkL H a ms) (len:ms.length<=1000) (hD:H D = none)
  (ht:∀ y ∈ ms,∀ H1,Same H H1->∀ Q':Bool->Hp->Prop,(∀ H2,Same H1 H2->Q' (p y.2) H2)->tc (some (.ref y.1) :: r) H1 Q') (h:∀ σ H2,Same H H2->MkL H2 D (ms.filter fun q=>p q.2)->Q σ H2) (v0:Option V) :
  Loop (gName 0) tc (emLst D (tVar 0)) (Itl K a) (v0 :: r) (upd H D (.lst [])) Q:=by
 refine loop_as (asL (K:=K) (SqL.of e.1)) (fun i σ H3=>(∃ v,σ = v :: r)/\Same H H3/\H3 D = some (.lst (((ms.take i).filter fun q=>p q.2).map fun q=>V.ref q.1)))
  ⟨⟨_,rfl⟩,Same.new hD,upd_same⟩ (fun i σ H1 _ ⟨_,s1,_⟩=>s1.at a) ?_ ?_
 ·rintro i σ H3 v N hx ⟨⟨v0,rfl⟩,s3,e3⟩ hN
  rw [List.getElem?_map] at hx
  obtain ⟨y,hy,rfl⟩:=Option.map_eq_some_iff.mp hx
  refine ht y (List.mem_of_getElem? hy) H3 s3 _ fun H4 s4=>?_
  have e3:=s4 _ _ e3
  have s3:=s3.trans s4
  have hs:((ms.take (i + 1)).filter fun q=>p q.2) = ((ms.take i).filter fun q=>p q.2) ++ if p y.2 = true then [y] else []:=by
   rw [take_succ hy,List.filter_append,List.filter_cons,List.filter_nil]
  have hl:(((ms.take i).filter fun q=>p q.2).map fun q=>V.ref q.1).length<=1000:=by
   rw [List.length_map]
   have:=List.length_filter_le (fun q:Addr × Mk=>p q.2) (ms.take i)
   rw [List.length_take] at this
   omega
  refine ite2 (fun c=>ex1 rfl ⟨_,e3,by rw [sizeLine_eq]; omega,hN _ _ ⟨⟨_,rfl⟩,s3.upd hD,?_⟩⟩) (fun c=>hN _ _ ⟨⟨_,rfl⟩,s3,?_⟩)
  ·rw [upd_same,hs,if_pos c,List.map_append]; rfl
  ·rw [hs,if_neg c,List.append_nil]; exact e3
 ·rintro σ H3 ⟨_,s3,e3⟩
  rw [List.length_map,List.take_length] at e3
  exact h σ H3 s3 ⟨e3,fun q hq=>s3 _ _ (e.2 q (List.mem_filter.mp hq).1)⟩
noncomputable abbrev MT:Type:=Addr × (Str × Mk) × Addr
theorem val_ts {ts:List MT} (nd:(ts.map fun q=>q.2.1.1).Nodup) {q:MT} (h:q ∈ ts):valV (ts.map fun q=>((Sum.inr q.2.1.1:Key),V.ref q.2.2)) (.inr q.2.1.1) = some (.ref q.2.2):=by
 induction ts with
 | nil=>exact absurd h List.not_mem_nil
 | cons x r ih =>
  rw [List.map_cons] at nd ⊢
  obtain ⟨n1,n2⟩:=List.nodup_cons.mp nd
  rcases List.mem_cons.mp h with rfl | h
  ·exact valV_pos rfl
  ·have:¬ x.2.1.1 = q.2.1.1:=fun z=>n1 (z ▸ List.mem_map.mpr ⟨q,h,rfl⟩)
   rw [valV_neg (p:=((Sum.inr x.2.1.1:Key),V.ref x.2.2)) (fun z=>this (Sum.inr.inj z))]
   exact ih n2 h
noncomputable def MarksAt (H:Hp) (kvs:List (Key × V)) (D:List (Str × Mk)):Prop:=∀ n,n ∈ D.map (fun q=>q.1)->∃ t,valV kvs (.inr n) = some (.ref t)/\MkIn H (t,lookM D n)
theorem MarksAt.same {H H':Hp} {kvs:List (Key × V)} {D:List (Str × Mk)} (h:MarksAt H kvs D) (s:Same H H'):MarksAt H' kvs D:=fun n hn=>let ⟨t,h1,h2⟩:=h n hn; ⟨t,h1,s _ _ h2⟩
theorem filt_any {α:Type} (p:α->Bool):∀ l:List α,(l.filter p).isEmpty = !l.any p
 | []=>rfl
 | x :: r=>by
  rw [List.filter_cons,List.any_cons]
  cases h:p x with
  | true=>rw [if_pos rfl]; rfl
  | false=>rw [if_neg (by decide),Bool.false_or]; exact filt_any p r
theorem filt_all {α:Type} (p:α->Bool):∀ l:List α,(l.filter fun x=>!p x).isEmpty = l.all p
 | []=>rfl
 | x :: r=>by
  rw [List.filter_cons,List.all_cons]
  cases h:p x with
  | true=>rw [if_neg (by decide),Bool.true_and]; exact filt_all p r
  | false=>rw [if_pos (by decide)]; rfl
theorem ge_lt {j k:Int}:decide (k<=j) = !decide (j < k):=by
 by_cases c:j < k
 ·rw [decide_eq_true c,decide_eq_false (by omega)]; rfl
 ·rw [decide_eq_false c,decide_eq_true (by omega)]; rfl
end Sw
namespace Sw
open PySem L2
theorem pl_strsO {ss:List Str} (h:∀ x ∈ ss,PySem.PyData.strOk x = true):Pl (sd ss):=by
 refine ⟨?_,?_⟩
 ·unfold sd
  rw [PyData.canLay0]
  exact lay_strs h
 ·unfold sd
  rw [PyData.depth]
  have:=depth_strs ss
  omega
theorem str_pl {x:Str} (h:Pl (.str x)):PySem.PyData.strOk x = true:=by
 have:=h.1
 rwa [PyData.canLay0] at this
theorem lc_thB {J:It} {a D:Addr} {vs:List V} {ds:List PyData} {r:St} {te:TE} {H:Hp} {Q:St->Hp->Prop} (g:PyData->Prop) (as:AsSeq J vs a H) (T:Ths H ds vs) (len:ds.length<=1000) (hD:H D = none)
  (ht:∀ d ∈ ds,∀ v,Th H d v->∀ H1,Same H H1->∀ Q':VK,(∀ (b:Bool) H2,Same H1 H2->(b = true ↔ g d)->Q' (.bl b) H2)->te (some v :: r) H1 Q') (h:∀ σ (bs:List Bool) H2,Same H H2->H2 D = some (.lst (bs.map V.bl))->(bs.all id = true ↔ ∀ d ∈ ds,g d)->Q σ H2) (v0:Option V) :
  Loop (gName 0) tTrue (emLst D te) J (v0 :: r) (upd H D (.lst [])) Q:=by
 have lv:=T.length
 refine loop_as as (fun i σ H3=>(∃ v,σ = v :: r)/\Same H H3/\∃ bs:List Bool,bs.length<=i/\H3 D = some (.lst (bs.map V.bl))/\(bs.all id = true ↔ ∀ d ∈ ds.take i,g d))
  ⟨⟨_,rfl⟩,Same.new hD,[],Nat.le_refl _,upd_same,⟨fun _ d hd=>by rw [List.take_zero] at hd; exact absurd hd List.not_mem_nil,fun _=>rfl⟩⟩ (fun i σ H1 _ ⟨_,s1,_⟩=>s1.at a) ?_ ?_
 ·rintro i σ H3 v N hx ⟨⟨v0,rfl⟩,s3,bs,lb,e3,hb⟩ hN
  obtain ⟨d,hd,tv⟩:=T.get hx
  have hi:=(List.getElem?_eq_some_iff.mp hd).1
  refine g_true (ht d (List.mem_of_getElem? hd) v tv H3 s3 _ fun b H4 s4 hg=>⟨_,s4 _ _ e3,by rw [List.length_map,sizeLine_eq]; omega,hN _ _ ⟨⟨_,rfl⟩,(s3.trans s4).upd hD,bs ++ [b],by rw [List.length_append]; exact Nat.succ_le_succ lb,by rw [upd_same,List.map_append]; rfl,?_⟩⟩)
  rw [List.all_append,Bool.and_eq_true_iff,hb,take_succ hd]
  have:([b].all id) = b:=by simp
  rw [this,hg]
  exact ⟨fun ⟨z1,z2⟩ x hx=>(List.mem_append.mp hx).elim (z1 x) fun k=>List.mem_singleton.mp k ▸ z2,fun z=>⟨fun x hx=>z x (List.mem_append.mpr (.inl hx)),z d (List.mem_append.mpr (.inr (List.mem_singleton.mpr rfl)))⟩⟩
 ·rintro σ H3 ⟨_,s3,bs,lb,e3,hb⟩
  rw [lv,List.take_length] at hb
  exact h σ bs H3 s3 e3 hb
theorem rdE_marks:∀ {ds:List PyData},(∀ x ∈ ds,∃ e,x = rdE e)->∃ D:List (Str × Mk),ds = D.map rdE
 | [],_=>⟨[],rfl⟩
 | x :: r,h=>by
  obtain ⟨e,rfl⟩:=h x (List.mem_cons_self ..)
  obtain ⟨D,rfl⟩:=rdE_marks fun y hy=>h y (List.mem_cons_of_mem _ hy)
  exact ⟨e :: D,rfl⟩
theorem marks_rows {H:Hp}:∀ {D:List (Str × Mk)} {xs:List V},Ths H (D.map rdE) xs->∃ rs:List (Addr × Row),(xs = rs.map fun q=>V.ref q.1)/\(∀ q ∈ rs,H q.1 = some (.tup [.str q.2.1,.str q.2.2.1,q.2.2.2]))/\(rs.map fun q=>q.2) = D.map rowM
 | [],xs,h=>by
  have:xs = []:=by simpa [Ths] using h
  subst this
  exact ⟨[],rfl,fun q hq=>absurd hq List.not_mem_nil,rfl⟩
 | d :: D,xs,h=>by
  rw [List.map_cons] at h
  simp only [Ths] at h
  obtain ⟨v,r,rfl,h1,h2⟩:=h
  obtain ⟨rs,rfl,k,ek⟩:=marks_rows h2
  obtain ⟨p,rfl,hp⟩:=th_row h1
  refine ⟨(p,rowM d) :: rs,rfl,fun q hq=>?_,by rw [List.map_cons,List.map_cons,ek]⟩
  rcases List.mem_cons.mp hq with rfl | hq
  ·exact hp
  ·exact k q hq
theorem show_list {ns:List Str} {sr:Str->List Str} {D:List (Str × Mk)}:ShowD ns sr (.list (D.map rdE)) ↔ (D.map fun q=>q.1).Perm ns/\((D.map fun q=>q.1).all fun n=>grd (sr n) (lookM D) n) = true:=by
 constructor
 ·rintro ⟨D',e,p,a⟩
  have:D' = D:=by
   rcases e with e | e
   ·injection e with e; exact (map_inj e).symm
   ·cases e
  subst this
  exact ⟨p,a⟩
 ·rintro ⟨p,a⟩
  exact ⟨D,.inl rfl,p,a⟩
theorem all_mem {α:Type} {p:α->Bool} {l l':List α} (h:∀ x,x ∈ l ↔ x ∈ l'):l.all p = l'.all p:=by
 rw [Bool.eq_iff_iff,List.all_eq_true,List.all_eq_true]
 exact ⟨fun z x hx=>z x ((h x).mpr hx),fun z x hx=>z x ((h x).mp hx)⟩
noncomputable def Fit (d:PyData):Prop:=∀ ds,d = .list ds\/d = .tuple ds->ds.length<=1000/\∀ e ∈ ds,∀ a b c,e = .tuple [a,b,c]->Pl a/\Pl b
section
variable {P:Program} {w:World} {K:PySem.W.Frag} {mg:Str->Option Value} {base:Heap}
theorem sc_law_good:FnScope ["_law_names", "_law_strikes_here", "_law_rows", "_law_marks", "_law_strikers_here", "_law_name", "_law_some", "_law_lower"] ["_law_names", "_law_strikes_here", "_law_rows"] (defScope s_law_good):=⟨rfl,rfl,rfl,by decide +kernel,rfl,by decide +kernel,by decide +kernel⟩
noncomputable def sp_goodA:Sp:=fun vs H Q _=>∃ (n a:Addr) (v:V) (ss:List Str) (ps:List PA2) (d:PyData),vs = [.ref n,.ref a,v]/\H n = some (.lst (ss.map V.str))/\NamesOk ss/\H a = some (.lst (refs ps))/\(∀ q ∈ ps,PairIn H q)/\StrkOk ss ps/\Th H d v/\(∀ ds,d ≠ .tuple ds)/\Fit d /\
 ∀ (b:Bool) H',Same H H'->(b = true ↔ ShowD ss (strikersOf ps) d)->Q (.bl b) H'
set_option maxHeartbeats 4000000 in
theorem ok_law_good (T:Tx K mg):FnOk P w K mg base CX0 2 T.law_good.f T.law_good.fd ["_law_names", "_law_strikes_here", "_law_rows"] sp_goodA:=by
 have G_law_is_row:FnOk P w K mg base CX0 1 T.law_is_row.f T.law_is_row.fd ["_law_row"] sp_lis_rowA:=ok_law_is_row T
 have G_law_strikers:FnOk P w K mg base CX0 1 T.law_strikers.f T.law_strikers.fd ["_law_names", "_law_strikes_here"] sp_lstrikers:=ok_law_strikers T
 have sc:=sc_law_good
 refine T.law_good.F.ok sc_law_good (fun vs H Q E h=>?_) (fun cdv A outer s H vs Q E hr h=>?_)
 ·obtain ⟨n,a,v,ss,ps,d,rfl,_⟩:=h
  rfl
 ·obtain ⟨n,a,v,ss,ps,d,rfl,hn,hN,ha,hp,hO,hd,nt,ft,q⟩:=h
  have hu:=hu_of hr
  refine ⟨_,(pss_cons (ps_if (PW.pt (pw_or (pt_not (pt_val (pe_bf (cl_isinU K) T.b_isinstance bt_isinstance (pa_cons (pv 2) (pa_cons (pe_tup (pa_cons (pe_ty T.b_list bt_list) (pa_cons (pe_ty T.b_tuple bt_tuple) pa_nil))) pa_nil))))) (pw_or1 (pt_not (pt_val (pe_bf (cl_all K) T.b_all bt_all (pa_cons (pe_lc (N':=["_law_row"]) (cap:=[none]) (cl:=[]) (cs_mk trivial trivial) rfl (piL K (pv 2)) (fun _ _ _ _=>by exact ⟨(pgC 0),pts_nil,(pe_fn T.law_is_row G_law_is_row (hr.mono (by decide)) (pa_cons (pv 0) pa_nil))⟩)) pa_nil))))))) (pss_one (ps_ret pe_bl)) pss_nil)
   (pss_cons (ps_if (pt_cmpR (o_neD K hr.units) (pe_bf (cl_sortS K) T.b_sorted bt_sorted (pa_cons (pe_lc (N':=["_law_row"]) (cap:=[none]) (cl:=[]) (cs_mk trivial trivial) rfl (piL K (pv 2)) (fun _ _ _ _=>by exact ⟨(pgC 0),pts_nil,(pe_ix (ixT K) (pv 0) pe_int (fun _ _=>rfl))⟩)) pa_nil)) (pe_bf (cl_sortS K) T.b_sorted bt_sorted (pa_cons (pv 0) pa_nil)) (nomark _)) (pss_one (ps_ret pe_bl)) pss_nil)
   (pss_cons (ps_set (i:=3) sc.nd rfl (by first | exact Or.inl rfl | exact Or.inr rfl) (pe_bt cl_dictP T.b_dict bt_dict (pa_cons (pe_lc (N':=["_law_row"]) (cap:=[none]) (cl:=[]) (cs_mk trivial trivial) rfl (piL K (pv 2)) (fun _ _ _ _=>by exact ⟨(pgC 0),pts_nil,(pe_tup (pa_cons (pe_ix (ixT K) (pv 0) pe_int (fun _ _=>rfl)) (pa_cons (pe_slice (slT K) (pv 0) (po_some pe_int) po_none) pa_nil)))⟩)) pa_nil)))
   (pss_cons (ps_set (i:=4) sc.nd rfl (by first | exact Or.inl rfl | exact Or.inr rfl) (pe_fn T.law_strikers G_law_strikers (hr.mono (by decide)) (pa_cons (pv 0) (pa_cons (pv 1) pa_nil))))
   (pss_cons (ps_for PassesOwn.never rfl (piL K (pv 0)) (pg_name (i:=5) sc.nd rfl (by first | exact Or.inl rfl | exact Or.inr rfl))
   (pss_cons (ps_setLC (i:=6) (N':=["_law_other", "_law_marks"]) (cap:=[none,some 3]) (cl:=[("_law_marks",_)]) sc.nd rfl (by first | exact Or.inl rfl | exact Or.inr rfl) (cs_mk ⟨⟨rfl,rfl,rfl,rfl⟩,trivial⟩ ⟨rfl,trivial⟩) rfl (piL K (pe_dget hu (pv 4) (pv 5) (fun _ _=>rfl))) (fun _ _ _ _=>by exact ⟨(pgC 0),pts_nil,(pe_dget hu (pv 1) (pv 0) (fun _ _=>rfl))⟩))
   (pss_cons (ps_setLC (i:=7) (N':=["_law_one"]) (cap:=[none]) (cl:=[]) sc.nd rfl (by first | exact Or.inl rfl | exact Or.inr rfl) (cs_mk trivial trivial) rfl (piL K (pv 6)) (fun _ _ _ _=>by exact ⟨(pgC 0),(pts_one (pt_cmpR op_eq (pe_ix (ixT K) (pv 0) pe_int (fun _ _=>rfl)) pe_str (nomark _))),(pv 0)⟩))
   (pss_one (ps_if (pt_cmpR op_eq (pe_ix (ixT K) (pe_dget hu (pv 3) (pv 5) (fun _ _=>rfl)) pe_int (fun _ _=>rfl)) pe_str (nomark _)) (pss_one (ps_if (pt_cmpR (o_neD K hr.units) (pe_lc (N':=["_law_one", "_law_marks", "_law_name"]) (cap:=[none,some 3,some 5]) (cl:=[("_law_name",_),("_law_marks",_)]) (cs_mk ⟨⟨rfl,rfl,rfl,rfl⟩,⟨⟨rfl,rfl,rfl,rfl⟩,trivial⟩⟩ ⟨rfl,⟨rfl,trivial⟩⟩) rfl (piL K (pv 6)) (fun _ _ _ _=>by exact ⟨(pgC 0),(pts_one (PW.pt (pw_or (pt_cmpR op_ne (pe_ix (ixT K) (pv 0) pe_int (fun _ _=>rfl)) pe_str (nomark _)) (pw_or1 (pt_cmpR op_ge (pe_ix (ixT K) (pv 0) pe_int (fun _ _=>rfl)) (pe_ix (ixT K) (pe_dget hu (pv 1) (pv 2) (fun _ _=>rfl)) pe_int (fun _ _=>rfl)) (nomark _)))))),(pv 0)⟩)) (pe_lst pa_nil) (nomark _)) (pss_one (ps_ret pe_bl)) pss_nil)) (pss_one (ps_if (pt_cmpR op_eq (pe_ix (ixT K) (pe_dget hu (pv 3) (pv 5) (fun _ _=>rfl)) pe_int (fun _ _=>rfl)) pe_str (nomark _)) (pss_one (ps_if (pt_cmpR (o_eqD K hr.units) (pe_lc (N':=["_law_one", "_law_marks", "_law_name"]) (cap:=[none,some 3,some 5]) (cl:=[("_law_name",_),("_law_marks",_)]) (cs_mk ⟨⟨rfl,rfl,rfl,rfl⟩,⟨⟨rfl,rfl,rfl,rfl⟩,trivial⟩⟩ ⟨rfl,⟨rfl,trivial⟩⟩) rfl (piL K (pv 7)) (fun _ _ _ _=>by exact ⟨(pgC 0),(pts_one (pt_cmpR op_le (pe_ix (ixT K) (pv 0) pe_int (fun _ _=>rfl)) (pe_ix (ixT K) (pe_dget hu (pv 1) (pv 2) (fun _ _=>rfl)) pe_int (fun _ _=>rfl)) (nomark _))),(pv 0)⟩)) (pe_lst pa_nil) (nomark _)) (pss_one (ps_ret pe_bl)) pss_nil)) (pss_one (ps_if (PW.pt (pw_or (pt_cmpR (o_neD K hr.units) (pv 7) (pe_lst pa_nil) (nomark _)) (pw_or1 (pt_cmpR (o_notInL K) pe_str (pe_lc (N':=["_law_one"]) (cap:=[none]) (cl:=[]) (cs_mk trivial trivial) rfl (piL K (pv 6)) (fun _ _ _ _=>by exact ⟨(pgC 0),pts_nil,(pe_ix (ixT K) (pv 0) pe_int (fun _ _=>rfl))⟩)) rfl)))) (pss_one (ps_ret pe_bl)) pss_nil)))))))))
   (pss_one (ps_ret pe_bl))))))),?_⟩
  refine seq_gen fun N1 hN1=>?_
  have lss:=hN.2.2
  refine ex1 rfl ⟨by show 2<=sizeLine; decide,fun t ht=>?_⟩
  have s1:=Same.new (o:=.tup [.ty "list",.ty "tuple"]) ht
  have t1:(upd H t (.tup [.ty "list",.ty "tuple"])) t = some (.tup (["list", "tuple"].map V.ty)):=upd_same
  have d1:=hd.same s1
  generalize upd H t (.tup [.ty "list",.ty "tuple"]) = H1 at s1 t1 d1 ⊢
  refine isin_ls d1 t1 (ex1 rfl ?_)
  cases hls:isLs d with
  | false=>exact iteT (iteT (q false H1 s1 ⟨(fun z=>by cases z),(fun z=>by rw [rows_ls (show_rows z)] at hls; cases hls)⟩))
  | true =>
  refine iteF ?_
  obtain ⟨ds,r,xs,ed,rfl,T1,hr1⟩:=ls_get d1 hls
  have ed:d = .list ds:=ed.resolve_right fun z=>nt _ z
  subst ed
  have hr1:H1 r = some (.lst xs):=by
   simp only [Th] at d1
   obtain ⟨a',xs',e1,e2,_⟩:=d1
   cases e1
   rcases hr1 with e | e
   ·exact e
   ·rw [e] at e2; cases e2
  obtain ⟨hlen,hpl⟩:=ft ds (.inl rfl)
  refine ex1 rfl ⟨r,rfl,⟨_,SqL.of hr1⟩,fun C hC=>?_⟩
  refine lc_thB (fun e=>∃ x,e = rdE x) (asL (K:=K) (SqL.of hr1)) T1 hlen hC (fun y hy vy ty H3 s3 Q' hQ=>?_) (fun σ bs H2 s2 e2 hb=>?_) _
  ·exact ex1 rfl ⟨vy,y,rfl,ty.same s3,hpl y hy,fun b H4 s4 hb=>hQ b H4 s4 hb⟩
  refine ⟨C,bs,rfl,SqL.of e2,ex1 rfl ?_⟩
  refine ite2 (fun z=>?_) (fun z=>hN1 _ _ (seq_gen fun N2 hN2=>?_))
  ·refine q false H2 (s1.trans s2) ⟨(fun z=>by cases z),fun r=>?_⟩
   have:bs.all id = true:=hb.mpr fun e he=>by
    obtain ⟨e',he',_⟩:=row_mark (((rows_of (.inl rfl)).mp (show_rows r)).1 e he)
    exact ⟨e',he'⟩
   rw [this] at z
   cases z
  obtain ⟨D,rfl⟩:=rdE_marks (hb.mp (by
   cases h:bs.all id with
   | true=>rfl
   | false=>exact absurd (by rw [h]; rfl) z))
  have T2:=T1.same s2
  obtain ⟨rs,rfl,k2,eD⟩:=marks_rows T2
  have R2:RL H2 r rs:=⟨s2 _ _ hr1,k2⟩
  have s12:=s1.trans s2
  have okD:∀ d ∈ D,PySem.PyData.strOk d.1 = true:=fun d hd=>str_pl (hpl (rdE d) (List.mem_map.mpr ⟨d,hd,rfl⟩) _ _ _ rfl).1
  have lrs:rs.length = D.length:=by
   have a1:=congrArg List.length eD
   rwa [List.length_map,List.length_map] at a1
  have lD0:D.length<=1000:=by rwa [List.length_map] at hlen
  clear s1 s2 e2 hC t1 ht T1 T2 hb z hr1 d1
  refine ex1 rfl ⟨r,rfl,⟨_,SqL.of R2.1⟩,fun C2 hC2=>?_⟩
  refine lc_row (fun r=>.str r.1) (asL (K:=K) (SqL.of R2.1)) (by omega) hC2 (fun y hy H4 s4 Q' hQ=>?_) (fun σ H3 s3 e3=>?_) _
  ·exact ex1 rfl ⟨y.1,_,ex2_3 rfl rfl ⟨SqT.of (s4 _ _ (R2.2 y hy)),rfl,hQ H4 fun b o e=>e⟩⟩
  refine ⟨C2,D.map (fun q=>q.1),rfl,SqL.of (by rw [e3,eD,List.map_map,List.map_map]; rfl),fun m ts hm pt so=>?_⟩
  have u4:=Same.new (o:=.lst (ts.map V.str)) hm
  have m4:(upd H3 m (.lst (ts.map V.str))) m = some (.lst (ts.map V.str)):=upd_same
  generalize upd H3 m (.lst (ts.map V.str)) = H4 at u4 m4 ⊢
  have s14:=s12.trans (s3.trans u4)
  refine ex1 rfl ⟨n,ss,rfl,SqL.of (s14 _ _ hn),fun m2 ts2 hm2 pt2 so2=>?_⟩
  have u5:=Same.new (o:=.lst (ts2.map V.str)) hm2
  have s15:=s14.trans u5
  have okt:∀ x ∈ ts,PySem.PyData.strOk x = true:=fun x hx=>by
   obtain ⟨d,hd,rfl⟩:=List.mem_map.mp (pt.mem_iff.mp hx)
   exact okD d hd
  refine ⟨sd ts,sd ts2,rp_strs (SqL.of (u5 _ _ m4)),rp_strs (SqL.of upd_same),pl_strsO okt,pl_strs fun y hy=>hN.1 y (pt2.mem_iff.mp hy),?_⟩
  rw [eqv_sd]
  have sh:=show_list (ns:=ss) (sr:=strikersOf ps) (D:=D)
  refine ex1 rfl (ite2 (fun z=>?_) (fun z=>?_))
  ·refine q false _ s15 ⟨(fun z=>by cases z),fun r=>?_⟩
   have e5:ts = ts2:=sorted_one so so2 (pt.trans ((sh.mp r).1.trans pt2.symm))
   rw [decide_eq_true e5] at z
   cases z
  have e5:ts = ts2:=by simpa using z
  have pn:(D.map fun q=>q.1).Perm ss:=pt.symm.trans (e5 ▸ pt2)
  have q:∀ H',Same H H'->Q (.bl (ss.all fun n=>grd (strikersOf ps n) (lookM D) n)) H':=fun H' s'=>q _ H' s' (by
   rw [sh,<-all_mem (p:=fun n=>grd (strikersOf ps n) (lookM D) n) (l:=D.map fun q=>q.1) fun x=>pn.mem_iff]
   exact ⟨fun z=>⟨pn,z⟩,fun z=>z.2⟩)
  have nd:(D.map fun q=>q.1).Nodup:=pn.nodup_iff.mpr hN.2.1
  have lD:D.length = ss.length:=by
   have a2:=pn.length_eq
   rwa [List.length_map] at a2
  have atD:∀ {i:Nat} {y:Addr × Row},rs[i]? = some y->∃ d,D[i]? = some d/\y.2 = rowM d:=fun {i y} hy=>by
   have:(rs.map fun q=>q.2)[i]? = (D.map rowM)[i]?:=by rw [eD]
   rw [List.getElem?_map,List.getElem?_map,hy] at this
   obtain ⟨d,h1,h2⟩:=Option.map_eq_some_iff.mp this.symm
   exact ⟨d,h1,h2.symm⟩
  have R5:=R2.same (s3.trans (u4.trans u5))
  generalize upd H4 m2 (.lst (ts2.map V.str)) = H5 at u5 s15 R5 ⊢
  clear s14 u4 u5 m4 s3 e3 s12 R2 hC2 hm hm2 so so2 pt pt2 sh e5 z okt k2
  refine hN2 _ _ (seq_gen fun N3 hN3=>?_)
  refine ex1 rfl ⟨r,rfl,⟨_,SqL.of R5.1⟩,fun C hC=>?_⟩
  refine loop_as (asL (K:=K) (SqL.of R5.1)) (fun i σ H6=>(∃ v,σ = [v])/\Same H5 H6/\∃ ts:List MT,H6 C = some (.lst (ts.map fun q=>V.ref q.1))/\(∀ q ∈ ts,H6 q.1 = some (.tup [.str q.2.1.1,.ref q.2.2])/\MkIn H6 (q.2.2,q.2.1.2))/\(ts.map fun q=>q.2.1) = D.take i)
   ⟨⟨_,rfl⟩,Same.new hC,[],upd_same,fun q hq=>absurd hq List.not_mem_nil,rfl⟩ (fun i σ H1 _ ⟨_,s1,_⟩=>s1.at r) ?_ ?_
  ·rintro i σ H6 v N hx ⟨⟨v0,rfl⟩,s6,ts,e6,t6,q6⟩ hN'
   rw [List.getElem?_map] at hx
   obtain ⟨y,hy,rfl⟩:=Option.map_eq_some_iff.mp hx
   obtain ⟨d,hd,ey⟩:=atD hy
   have hi:=(List.getElem?_eq_some_iff.mp hd).1
   have lt:ts.length = i:=by
    have:=congrArg List.length q6
    rw [List.length_map,List.length_take] at this
    omega
   have ez:=s6 _ _ (R5.2 y (List.mem_of_getElem? hy))
   rw [ey] at ez
   have ez:H6 y.1 = some (.tup [.str d.1,.str (wdM d.2),nmM d.2]):=ez
   refine g_true ?_
   refine ex1 rfl ⟨y.1,_,ex2_3 rfl rfl ⟨SqT.of ez,rfl,ex1 rfl (ex1 rfl ⟨y.1,_,rfl,SqT.of ez,by show ¬ (1 = 0/\_); omega,fun t1 ht1=>⟨by show 2<=sizeLine; decide,?_⟩⟩)⟩⟩
   rw [show cutV [V.str d.1,V.str (wdM d.2),nmM d.2] (some 1) none = [V.str (wdM d.2),nmM d.2] from rfl]
   have u7:=Same.new (o:=.tup [.str (wdM d.2),nmM d.2]) ht1
   have f7:(upd H6 t1 (.tup [.str (wdM d.2),nmM d.2])) t1 = some (.tup [.str (wdM d.2),nmM d.2]):=upd_same
   have n7:t1 ≠ C:=(ne_of_none e6 ht1).symm
   generalize upd H6 t1 (.tup [.str (wdM d.2),nmM d.2]) = H7 at u7 f7 ⊢
   intro t2 ht2
   have e7:=u7 _ _ e6
   have nC:C ≠ t2:=ne_of_none e7 ht2
   have u8:=Same.new (o:=.tup [.str d.1,.ref t1]) ht2
   refine ⟨_,(upd_ne nC).trans e7,by rw [List.length_map,sizeLine_eq]; omega,hN' _ _ ⟨⟨_,rfl⟩,((s6.trans u7).trans u8).upd hC,ts ++ [(t2,d,t1)],by rw [upd_same,List.map_append]; rfl,fun z hz=>?_,?_⟩⟩
   ·have keep:∀ {b:Addr} {xs:List V},H7 b = some (.tup xs)->(upd (upd H7 t2 (.tup [.str d.1,.ref t1])) C (.lst ((ts.map fun q=>V.ref q.1) ++ [.ref t2]))) b = some (.tup xs):=fun {b xs} e=>(upd_ne (ne_of e e7 (by intro z; cases z))).trans (u8 _ _ e)
    rcases List.mem_append.mp hz with k | k
    ·exact ⟨keep (u7 _ _ (t6 z k).1),keep (u7 _ _ (t6 z k).2)⟩
    ·cases List.mem_singleton.mp k
     exact ⟨(upd_ne nC.symm).trans upd_same,keep f7⟩
   ·rw [List.map_append,q6,take_succ hd]; rfl
  ·rintro σ H6 ⟨_,s6,ts,e6,t6,q6⟩
   rw [List.length_map,lrs,List.take_length] at q6
   have ndt:(ts.map fun q=>q.2.1.1).Nodup:=by
    have:(ts.map fun q=>q.2.1.1) = D.map fun q=>q.1:=by rw [<-q6,List.map_map]; rfl
    rw [this]; exact nd
   refine ⟨C,ts.map fun q=>(q.1,(Sum.inr q.2.1.1:Key),V.ref q.2.2),rfl,by rw [List.map_map]; exact e6,fun z hz=>?_,by rw [List.length_map]; have:=congrArg List.length q6; rw [List.length_map] at this; omega,fun dm hdm=>?_⟩
   ·obtain ⟨x,hx,rfl⟩:=List.mem_map.mp hz
    exact (t6 x hx).1
   have ek:mrgK [] ((ts.map fun q=>(q.1,(Sum.inr q.2.1.1:Key),V.ref q.2.2)).map fun q=>q.2) = ts.map fun q=>((Sum.inr q.2.1.1:Key),V.ref q.2.2):=by
    rw [List.map_map,mrgK_new]
    ·rfl
    ·rw [List.nil_append,List.map_map]
     show (ts.map fun q=>(Sum.inr q.2.1.1:Key)).Nodup
     rw [show (ts.map fun q=>(Sum.inr q.2.1.1:Key)) = (ts.map fun q=>q.2.1.1).map Sum.inr by rw [List.map_map]; rfl]
     exact (List.pairwise_map.mpr (ndt.imp fun h z=>h (Sum.inr.inj z)))
   rw [ek]
   have u7:=Same.new (o:=.dK (ts.map fun q=>((Sum.inr q.2.1.1:Key),V.ref q.2.2))) hdm
   have d7:(upd H6 dm (.dK (ts.map fun q=>((Sum.inr q.2.1.1:Key),V.ref q.2.2)))) dm = some (.dK (ts.map fun q=>((Sum.inr q.2.1.1:Key),V.ref q.2.2))):=upd_same
   have M7:MarksAt (upd H6 dm (.dK (ts.map fun q=>((Sum.inr q.2.1.1:Key),V.ref q.2.2)))) (ts.map fun q=>((Sum.inr q.2.1.1:Key),V.ref q.2.2)) D:=fun y hy=>by
    have hm:(y,lookM D y) ∈ ts.map fun q=>q.2.1:=by rw [q6]; exact look_mem nd hy
    obtain ⟨x,hx,e⟩:=List.mem_map.mp hm
    have e1:x.2.1.1 = y:=congrArg Prod.fst e
    have e2:x.2.1.2 = lookM D y:=congrArg Prod.snd e
    rw [<-e1,<-(e1.symm ▸ e2:x.2.1.2 = lookM D x.2.1.1)]
    exact ⟨x.2.2,val_ts ndt hx,u7 _ _ (t6 x hx).2⟩
   have s7:=s15.trans (s6.trans u7)
   show N3 _ (upd H6 dm (.dK (ts.map fun q=>((Sum.inr q.2.1.1:Key),V.ref q.2.2))))
   generalize upd H6 dm (.dK (ts.map fun q=>((Sum.inr q.2.1.1:Key),V.ref q.2.2))) = H7 at u7 d7 M7 s7 ⊢
   generalize (ts.map fun q=>((Sum.inr q.2.1.1:Key),V.ref q.2.2)) = km at d7 M7
   clear u7 e6 t6 q6 ndt s6 ek s15 R5 hC hdm
   refine hN3 _ _ (seq_gen fun N4 hN4=>?_)
   refine ex1 rfl (ex1 rfl ⟨n,a,ss,ps,rfl,s7 _ _ hn,hN,s7 _ _ ha,same_pairs s7 hp,hO,fun ds ks H8 s8 e8 K8=>?_⟩)
   have s78:=s7.trans s8
   have d8:=s8 _ _ d7
   have M8:=M7.same s8
   clear s7 s8 d7 M7
   refine hN4 _ _ (seq_gen fun N5 hN5=>?_)
   refine ex1 rfl ⟨n,rfl,⟨_,SqL.of (s78 _ _ hn)⟩,?_⟩
   have lq:=hO.len
   refine for_asG (asL (K:=K) (SqL.of (s78 _ _ hn))) (fun i σ H9=>(∃ v5 v6 v7,σ = [some (.ref n),some (.ref a),some (.ref r),some (.ref dm),some (.ref ds),v5,v6,v7])/\Same H8 H9/\((ss.take i).all fun n=>grd (strikersOf ps n) (lookM D) n) = true) ⟨⟨_,_,_,rfl⟩,fun b o e=>e,rfl⟩ (fun i σ H1 _ ⟨_,s1,_⟩=>s1.at n) ?_ ?_
   ·rintro i σ H9 x hx ⟨⟨v5,v6,v7,rfl⟩,s9,ih⟩ D1 hD1 hrt
    rw [List.getElem?_map] at hx
    obtain ⟨y,hy,rfl⟩:=Option.map_eq_some_iff.mp hx
    have ym:=List.mem_of_getElem? hy
    have d9:=s9 _ _ d8
    have M9:=M8.same s9
    have s79:=s78.trans s9
    obtain ⟨l,hl1,hl2⟩:=K8 y ym
    have hl2:=s9 _ _ hl2
    have ls:(strikersOf ps y).length<=ps.length:=by unfold strikersOf; rw [List.length_map]; exact List.length_filter_le ..
    have msD:∀ z ∈ strikersOf ps y,z ∈ D.map fun q=>q.1:=fun z hz=>pn.mem_iff.mpr (by
     obtain ⟨q,hq,rfl⟩:=List.mem_map.mp hz
     exact (hO.nm q (List.mem_filter.mp hq).1).1)
    have mt:∀ {HX:Hp},Same H8 HX->∀ z ∈ D.map (fun q=>q.1),DGet HX dm (.str z) (some (.ref (la km z)))/\MkIn HX (la km z,lookM D z):=fun sX z hz=>by
     obtain ⟨t,h1,h2⟩:=M8 z hz
     rw [la_of h1]
     exact ⟨get_rd (.inl (sX _ _ d8)) h1,sX _ _ h2⟩
    have hyD:y ∈ D.map fun q=>q.1:=pn.mem_iff.mpr ym
    have no:grd (strikersOf ps y) (lookM D) y = false->∀ HX,Same H9 HX->D1.rt (.bl false) HX:=fun hg HX sX=>by
     rw [hrt]
     have:=q HX (s79.trans sX)
     rw [show (ss.all fun n=>grd (strikersOf ps n) (lookM D) n) = false from Bool.eq_false_iff.mpr fun z=>by rw [List.all_eq_true.mp z y ym] at hg; cases hg] at this
     exact this
    have yes:grd (strikersOf ps y) (lookM D) y = true->∀ HX v5 v6 v7,Same H9 HX->D1.nx [some (.ref n),some (.ref a),some (.ref r),some (.ref dm),some (.ref ds),v5,v6,v7] HX:=fun hg HX v5 v6 v7 sX=>hD1 _ _ ⟨⟨_,_,_,rfl⟩,s9.trans sX,by rw [take_succ hy,List.all_append,ih,Bool.true_and,List.all_cons,hg]; rfl⟩
    refine g_seq fun M1 hM1=>?_
    refine ex1 rfl (ex1 rfl ⟨ds,_,rfl,get_rd (.inl (s9 _ _ e8)) hl1,l,rfl,⟨_,SqL.of hl2⟩,fun C hC=>?_⟩)
    refine lc_map (fun z=>V.ref (la km z)) hl2 (by omega) hC (fun z hz HA sA Q' hQ=>?_) (fun σ HA sA eA=>?_) _
    ·exact ex1 rfl (ex1 rfl ⟨dm,_,rfl,(mt (s9.trans sA) z (msD z hz)).1,hQ HA fun b o e=>e⟩)
    obtain ⟨ms,ems⟩:∃ ms:List (Addr × Mk),ms = (strikersOf ps y).map fun z=>(la km z,lookM D z):=⟨_,rfl⟩
    have LA:MkL HA C ms:=⟨by rw [eA,ems,List.map_map]; rfl,fun q hq=>by
     rw [ems] at hq
     obtain ⟨z,hz,rfl⟩:=List.mem_map.mp hq
     exact (mt (s9.trans sA) z (msD z hz)).2⟩
    have lms:ms.length<=200:=by rw [ems,List.length_map]; omega
    refine hM1 _ _ (seq_gen fun M2 hM2=>?_)
    refine ex1 rfl ⟨C,rfl,⟨_,SqL.of LA.1⟩,fun C2 hC2=>?_⟩
    refine lc_marks isIn LA (by omega) hC2 (fun z hz HB sB Q' hQ=>?_) (fun σ HB sB LB=>?_) _
    ·refine ex1 rfl ⟨z.1,_,ex2_3 rfl rfl ⟨SqT.of (sB _ _ (LA.2 z hz)),rfl,rfl,ex1 rfl ?_⟩⟩
     rw [show decide (V.str (wdM z.2) = V.str (Str.ofString "in")) = isIn z.2 from wd_in]
     exact hQ HB fun b o e=>e
    have LA:=LA.same sB
    have sAB:=sA.trans sB
    clear sA sB eA hC hC2
    refine hM2 _ _ ?_
    obtain ⟨g0,m0⟩:=mt (s9.trans sAB) y hyD
    refine ex1 rfl (ex1 rfl ⟨dm,_,rfl,g0,la km y,_,ex2_3 rfl rfl ⟨SqT.of m0,rfl,rfl,ex1 rfl (ite2 (fun c=>?_) (fun c=>?_))⟩⟩)
    ·obtain ⟨k,hk⟩:=in_get (wd_in.symm.trans c)
     have hk:lookM D y = some (true,k):=hk
     have m0':=m0
     unfold MkIn at m0'
     rw [hk] at m0'
     refine ex1 rfl ⟨C,rfl,⟨_,SqL.of LA.1⟩,fun C3 hC3=>?_⟩
     refine lc_marks (fun m=>!ltM k m) LA (by omega) hC3 (fun z hz HC sC Q' hQ=>?_) (fun σ HC sC LC=>?_) _
     ·have hQ:=hQ HC fun b o e=>e
      refine ex1 rfl ⟨z.1,_,ex2_3 rfl rfl ⟨SqT.of (sC _ _ (LA.2 z hz)),rfl,rfl,ex1 rfl (ite2 (fun d=>?_) (fun d=>?_))⟩⟩
      ·rw [ltM_no fun o=>by rw [show decide (V.str (wdM z.2) = V.str (Str.ofString "out")) = isOut z.2 from wd_out,o] at d; cases d] at hQ
       exact hQ
      ·have d:isOut z.2 = true:=by
        rw [show decide (V.str (wdM z.2) = V.str (Str.ofString "out")) = isOut z.2 from wd_out] at d
        simpa using d
       obtain ⟨j,hj⟩:=out_get d
       have ez:=sC _ _ (LA.2 z hz)
       rw [hj] at ez hQ
       refine ex1 rfl ⟨z.1,_,ex2_3 rfl rfl ⟨SqT.of ez,rfl,ex1 rfl (ex1 rfl ⟨dm,_,rfl,(mt (s9.trans (sAB.trans sC)) y hyD).1,la km y,_,ex2_3 rfl rfl ⟨SqT.of (sC _ _ m0'),rfl,ex2_3 rfl rfl (ex1 rfl ?_)⟩⟩)⟩⟩
       rw [ge_lt]
       exact hQ
     refine ⟨Nat.zero_le _,fun e he=>?_⟩
     have uE:=Same.new (o:=.lst []) he
     refine ne_nil (LC.same uE) upd_same (ex1 rfl ?_)
     have sX:=sAB.trans (sC.trans uE)
     have eG:(ms.filter fun q=>!ltM k q.2).isEmpty = grd (strikersOf ps y) (lookM D) y:=by
      rw [filt_all fun q:Addr × Mk=>ltM k q.2]
      unfold grd
      rw [hk,ems,List.all_map]; rfl
     rw [eG]
     refine ite2 (fun d=>no (by simpa using d) _ sX) (fun d=>yes (by simpa using d) _ _ _ _ sX)
    ·refine ex1 rfl (ex1 rfl ⟨dm,_,rfl,g0,la km y,_,ex2_3 rfl rfl ⟨SqT.of m0,rfl,rfl,ex1 rfl (ite2 (fun c'=>?_) (fun c'=>?_))⟩⟩)
     ·obtain ⟨k,hk⟩:=out_get (wd_out.symm.trans c')
      have hk:lookM D y = some (false,k):=hk
      have m0':=m0
      unfold MkIn at m0'
      rw [hk] at m0'
      refine ex1 rfl ⟨C2,rfl,⟨_,SqL.of LB.1⟩,fun C3 hC3=>?_⟩
      have lfl:(ms.filter fun q=>isIn q.2).length<=1000:=Nat.le_trans (List.length_filter_le ..) (by omega)
      refine lc_marks (fun m=>leM k m) LB lfl hC3 (fun z hz HC sC Q' hQ=>?_) (fun σ HC sC LC=>?_) _
      ·have hQ:=hQ HC fun b o e=>e
       obtain ⟨j,hj⟩:=in_get (List.mem_filter.mp hz).2
       have ez:=sC _ _ (LB.2 z hz)
       rw [hj] at ez hQ
       exact ex1 rfl ⟨z.1,_,ex2_3 rfl rfl ⟨SqT.of ez,rfl,ex1 rfl (ex1 rfl ⟨dm,_,rfl,(mt (s9.trans (sAB.trans sC)) y hyD).1,la km y,_,ex2_3 rfl rfl ⟨SqT.of (sC _ _ m0'),rfl,ex2_3 rfl rfl (ex1 rfl hQ)⟩⟩)⟩⟩
      refine ⟨Nat.zero_le _,fun e he=>?_⟩
      have uE:=Same.new (o:=.lst []) he
      refine eq_nil (LC.same uE) upd_same (ex1 rfl ?_)
      have sX:=sAB.trans (sC.trans uE)
      have eG:((ms.filter fun q=>isIn q.2).filter fun q=>leM k q.2).isEmpty = !grd (strikersOf ps y) (lookM D) y:=by
       rw [List.filter_filter,filt_any]
       unfold grd
       rw [hk,ems,List.any_map]
       refine congrArg _ (List.any_congr rfl fun z=>?_)
       show (leM k (lookM D z) && isIn (lookM D z)) = leM k (lookM D z)
       cases hi:isIn (lookM D z) with
       | true=>rw [Bool.and_true]
       | false=>rw [leM_no (by rw [hi]; decide)]; rfl
      rw [eG]
      refine ite2 (fun d=>no (by simpa using d) _ sX) (fun d=>yes (by simpa using d) _ _ _ _ sX)
     ·have hk:lookM D y = none:=by
       match hm:lookM D y with
       | none=>rfl
       | some (true,k)=>rw [hm] at c; exact absurd (wd_in (m:=some (true,k))) (fun z=>c z)
       | some (false,k)=>rw [hm] at c'; exact absurd (wd_out (m:=some (false,k))) (fun z=>c' z)
      have eG:grd (strikersOf ps y) (lookM D) y = ((ms.filter fun q=>isIn q.2).isEmpty && ms.any fun q=>q.2.isNone):=by
       rw [filt_any]
       unfold grd
       rw [hk,ems,List.any_map,List.any_map]; rfl
      refine ex1 rfl ⟨Nat.zero_le _,fun e he=>?_⟩
      have uE:=Same.new (o:=.lst []) he
      refine ne_nil (LB.same uE) upd_same (ex1 rfl (ite2 (fun d=>no ?_ _ (sAB.trans uE)) (fun d=>?_)))
      ·rw [eG,show (ms.filter fun q=>isIn q.2).isEmpty = false by simpa using d]; rfl
      ·have d:(ms.filter fun q=>isIn q.2).isEmpty = true:=by simpa using d
       rw [d,Bool.true_and] at eG
       have LE:=LA.same uE
       refine ex1 rfl ⟨C,rfl,⟨_,SqL.of LE.1⟩,fun C3 hC3=>?_⟩
       refine lc_row (fun m=>V.str (wdM m)) (asL (K:=K) (SqL.of LE.1)) (by omega) hC3 (fun z hz HC sC Q' hQ=>?_) (fun σ HC sC eC=>?_) _
       ·exact ex1 rfl ⟨z.1,_,ex2_3 rfl rfl ⟨SqT.of (sC _ _ (LE.2 z hz)),rfl,hQ HC fun b o e=>e⟩⟩
       have eC:HC C3 = some (.lst ((strikersOf ps y).map fun z=>V.str (wdM (lookM D z)))):=by rw [eC,ems,List.map_map,List.map_map]; rfl
       have sX:=sAB.trans (uE.trans sC)
       refine ⟨C3,_,rfl,.inl (SqL.of eC),rfl,List.all_eq_true.mpr fun z hz=>by obtain ⟨_,_,rfl⟩:=List.mem_map.mp hz; rfl,?_⟩
       rw [if_pos rfl,show Str.ofString "open" = wOpen from rfl,open_some,show ((strikersOf ps y).any fun y=>(lookM D y).isNone) = grd (strikersOf ps y) (lookM D) y by rw [eG,ems,List.any_map]; rfl]
       exact ex1 rfl (ite2 (fun d=>no (by simpa using d) _ sX) (fun d=>yes (by simpa using d) _ _ _ _ sX))
   ·rintro σ H9 ⟨⟨v5,v6,v7,rfl⟩,s9,ih⟩
    rw [List.length_map,List.take_length] at ih
    have:=q H9 (s78.trans s9)
    rw [ih] at this
    exact hN5 _ _ this
end
end Sw
namespace Sw
open PySem L2
theorem RL.smd {H H':Hp} {l d:Addr} {rs:List (Addr × Row)} {kvs:List (Key × V)} (h:RL H l rs) (e:H d = some (.dK kvs)) (k:Sm [d] H H'):RL H' l rs :=
 ⟨Sm1 k h.1 (ne_of h.1 e (by intro z; cases z)),fun q hq=>Sm1 k (h.2 q hq) (ne_of (h.2 q hq) e (by intro z; cases z))⟩
end Sw
namespace Sw
open PySem L2
theorem ne_nil_of {K:PySem.W.Frag} {H:Hp} {E:Addr} {ts:List Str} {Q:VK} (e:H E = some (.lst (ts.map V.str))) (ok:∀ x ∈ ts,nameB x = true) (h:∀ H2,Same H H2->Q (.bl (!ts.isEmpty)) H2):∀ e',H e' = none->rNeD K (.ref E) (.ref e') (upd H e' (.lst [])) Q:=fun e' he =>
 ⟨sd ts,.list [],rp_strs (SqL.of (Same.new he _ _ e)),rp_nil (SqL.of upd_same),pl_strs ok,pl_nil,by rw [eqv_sd_nil]; exact h _ (Same.new he)⟩
theorem lc_pairs {K:PySem.W.Frag} {a D:Addr} {ts:List Str} {w:Str} {r:St} {H:Hp} {Q:St->Hp->Prop} (e:H a = some (.lst (ts.map V.str))) (len:ts.length<=1000) (hD:H D = none)
  (h:∀ σ (qs:List (Addr × Key × V)) H2,Same H H2->H2 D = some (.lst (qs.map fun q=>V.ref q.1))->(∀ q ∈ qs,H2 q.1 = some (.tup [kV q.2.1,q.2.2]))->qs.map (fun q=>q.2) = ts.map (fun n=>(Sum.inr n,V.str w))->Q σ H2) (v0:Option V) :
  Loop (gName 0) tTrue (emLst D (tTup (tCons (tVar 0) (tCons (tC (.str w)) tNil)))) (Itl K a) (v0 :: r) (upd H D (.lst [])) Q :=
 lc_tups (fun _=>true) (fun y=>[.str y,.str w]) (fun _=>by show 2<=3; decide) e len hD (fun y H1 Q' hq=>⟨_,rfl,hq⟩) (fun y hy G sg Q' hq=>hq) (fun σ rs H2 s2 e2 t2 q2=>h σ (rs.map fun q=>(q.1,Sum.inr q.2,V.str w)) H2 s2 (by rw [e2,List.map_map]; rfl) (fun q hq=>let ⟨z,hz,e⟩:=List.mem_map.mp hq; e ▸ t2 z hz) (by rw [filter_all] at q2; rw [<-q2,List.map_map,List.map_map]; rfl)) v0
noncomputable abbrev wNo:Str := ""
theorem get2 {H:Hp} {d:Addr} {kvs:List (Key × V)} {f:Str->Option Str} {y:Str} {r:St} {Q:VK} (hd:H d = some (.dK kvs)) (hf:WD kvs f) (h:Q (.str ((f y).getD wNo)) H):tDGet2 (tVar 1) (tVar 0) (tC (.str wNo)) (some (.str y) :: some (.ref d) :: r) H Q:=by
 refine ex1 rfl ⟨d,rfl,.inl ⟨kvs,.inl hd⟩,ex1 rfl ⟨_,DGet.k (k:=Sum.inr y) hd,?_⟩⟩
 rw [hf y]
 cases e:f y with
 | none=>rw [e] at h; exact h
 | some z=>rw [e] at h; exact h
theorem no_ne:wNo ≠ wIn/\wNo ≠ wOut:=⟨by decide +kernel,by decide +kernel⟩
theorem getD_eq {o:Option Str} {w:Str} (h:wNo ≠ w):o.getD wNo = w ↔ o = some w:=by
 cases o with
 | none=>exact ⟨fun e=>absurd e h,fun e=>by cases e⟩
 | some z=>exact ⟨fun e=>congrArg some e,fun e=>Option.some.inj e⟩
theorem ins_eq {ns:List Str} {A:(Str->Option Str)->Str->Bool} {f:Str->Option Str}:ns.filter (fun y=>(f y).isNone && A f y) = insOf ns A f:=by
 unfold insOf wl
 rw [List.filter_filter]
 exact List.filter_congr fun y _=>Bool.and_comm ..
section
variable {P:Program} {w:World} {K:PySem.W.Frag} {mg:Str->Option Value} {base:Heap}
noncomputable def sp_lall:Sp:=fun vs H Q _=>∃ (a d:Addr) (y:Str) (qs:List PA2) (kvs:List (Key × V)) (f:Str->Option Str),vs = [.ref a,.ref d]/\H a = some (.lst ((strikersOf qs y).map V.str))/\qs.length<=200/\H d = some (.dK kvs)/\WD kvs f/\∀ H',Same H H'->Q (.bl (allOut qs f y)) H'
noncomputable def sp_lhas:Sp:=fun vs H Q _=>∃ (a d:Addr) (y:Str) (qs:List PA2) (kvs:List (Key × V)) (f:Str->Option Str),vs = [.ref a,.ref d]/\H a = some (.lst ((strikersOf qs y).map V.str))/\qs.length<=200/\H d = some (.dK kvs)/\WD kvs f/\∀ H',Same H H'->Q (.bl (oneIn qs f y)) H'
theorem strikersOf_len {ps:List PA2} (h:ps.length<=200) (m:Str):(strikersOf ps m).length<=1000:=by
 unfold strikersOf
 rw [List.length_map]
 exact Nat.le_trans (List.length_filter_le ..) (Nat.le_trans h (by decide))
theorem sc_law_all_out:FnScope ["_law_some", "_law_words"] ["_law_some", "_law_words"] (defScope s_law_all_out):=⟨rfl,rfl,rfl,by decide +kernel,rfl,by decide +kernel,by decide +kernel⟩
theorem sc_law_has_in:FnScope ["_law_some", "_law_words"] ["_law_some", "_law_words"] (defScope s_law_has_in):=⟨rfl,rfl,rfl,by decide +kernel,rfl,by decide +kernel,by decide +kernel⟩
theorem ok_law_all_out (T:Tx K mg):FnOk P w K mg base CX0 1 T.law_all_out.f T.law_all_out.fd ["_law_some", "_law_words"] sp_lall:=by
 have sc:=sc_law_all_out
 refine T.law_all_out.F.ok sc_law_all_out (fun vs H Q E h=>?_) (fun cdv A outer s H vs Q E hr h=>?_)
 ·obtain ⟨a,d,y,qs,kvs,f,rfl,_⟩:=h
  rfl
 ·obtain ⟨a,d,y,qs,kvs,f,rfl,ha,len,hd,hf,k⟩:=h
  have hu:=hu_of hr
  refine ⟨_,(pss_one (ps_ret (pe_bf (cl_all K) T.b_all bt_all (pa_cons (pe_lc (N':=["_law_name", "_law_words"]) (cap:=[none,some 1]) (cl:=[("_law_words",_)]) (cs_mk ⟨⟨rfl,rfl,rfl,rfl⟩,trivial⟩ ⟨rfl,trivial⟩) rfl (piL K (pv 0)) (fun _ _ _ _=>by exact ⟨(pgC 0),pts_nil,(pe_cmpR op_eq (pe_dget2 hu (pv 1) (pv 0) pe_str ⟨rfl,rfl,rfl,rfl⟩) pe_str (nomark _))⟩)) pa_nil)))),?_⟩
  refine ex1 rfl ⟨a,rfl,⟨_,SqL.of ha⟩,fun D hD=>?_⟩
  refine lc_bools (fun y=>decide (f y = some wOut)) ha (strikersOf_len len y) hD (fun y hy H3 s3 Q' hQ=>?_) (fun σ H3 s3 e3=>⟨D,_,rfl,SqL.of e3,k H3 s3⟩) _
  refine get2 (Q:=fun x H1=>tC (.str wOut) _ H1 fun z H2=>rEq x z H2 Q') (s3 _ _ hd) hf ⟨rfl,?_⟩
  have e:decide (V.str ((f y).getD wNo) = V.str wOut) = decide (f y = some wOut):=decide_eq_decide.mpr ⟨fun c=>(getD_eq no_ne.2).mp (by injection c),fun c=>congrArg V.str ((getD_eq no_ne.2).mpr c)⟩
  rw [e]
  exact hQ _ fun b o e=>e
theorem ok_law_has_in (T:Tx K mg):FnOk P w K mg base CX0 1 T.law_has_in.f T.law_has_in.fd ["_law_some", "_law_words"] sp_lhas:=by
 have sc:=sc_law_has_in
 refine T.law_has_in.F.ok sc_law_has_in (fun vs H Q E h=>?_) (fun cdv A outer s H vs Q E hr h=>?_)
 ·obtain ⟨a,d,y,qs,kvs,f,rfl,_⟩:=h
  rfl
 ·obtain ⟨a,d,y,qs,kvs,f,rfl,ha,len,hd,hf,k⟩:=h
  have hu:=hu_of hr
  refine ⟨_,(pss_one (ps_ret (pe_cmpR (o_inL K) pe_str (pe_lc (N':=["_law_name", "_law_words"]) (cap:=[none,some 1]) (cl:=[("_law_words",_)]) (cs_mk ⟨⟨rfl,rfl,rfl,rfl⟩,trivial⟩ ⟨rfl,trivial⟩) rfl (piL K (pv 0)) (fun _ _ _ _=>by exact ⟨(pgC 0),pts_nil,(pe_dget2 hu (pv 1) (pv 0) pe_str ⟨rfl,rfl,rfl,rfl⟩)⟩)) rfl))),?_⟩
  refine ex1 rfl ⟨a,rfl,⟨_,SqL.of ha⟩,fun D hD=>?_⟩
  refine lc_map (fun y=>V.str ((f y).getD wNo)) ha (strikersOf_len len y) hD (fun y hy H3 s3 Q' hQ=>get2 (s3 _ _ hd) hf (hQ _ fun b o e=>e)) (fun σ H3 s3 e3=>?_) _
  have e3:H3 D = some (.lst (((strikersOf qs y).map fun y=>(f y).getD wNo).map V.str)):=by rw [e3,List.map_map]; rfl
  refine inL_str (.inl (SqL.of e3)) ?_
  have e:decide (wIn ∈ (strikersOf qs y).map fun y=>(f y).getD wNo) = oneIn qs f y:=by
   refine Bool.eq_iff_iff.mpr ?_
   rw [decide_eq_true_iff,oneIn_iff,List.mem_map]
   exact ⟨fun ⟨z,hz,e⟩=>⟨z,hz,(getD_eq no_ne.1).mp e⟩,fun ⟨z,hz,e⟩=>⟨z,hz,(getD_eq no_ne.1).mpr e⟩⟩
  rw [e]
  exact k H3 s3
end
end Sw
namespace Sw
open PySem L2
theorem names_isEmpty {ns:List Str} {A O:(Str->Option Str)->Str->Bool} {f:Str->Option Str} {num:Int}:rowsOf ns A O f num = [] ↔ (insOf ns A f ++ insOf ns O (nxt1 ns A f)).isEmpty = true:=by
 rw [List.isEmpty_iff]
 unfold rowsOf
 rw [List.append_eq_nil_iff,List.append_eq_nil_iff,List.map_eq_nil_iff,List.map_eq_nil_iff]
section
variable {P:Program} {w:World} {K:PySem.W.Frag} {mg:Str->Option Value} {base:Heap}
noncomputable def sp_lrounds:Sp:=fun vs H Q _=>∃ (n a:Addr) (ss ns:List Str) (ps:List PA2),vs = [.ref n,.ref a]/\H n = some (.lst (ss.map V.str))/\NamesOk ss/\H a = some (.lst (refs ps))/\(∀ q ∈ ps,PairIn H q)/\StrkOk ss ps/\ns.Perm ss/\ns.Pairwise leS/\ToldR H ns ps Q
theorem sc_law_rounds:FnScope ["_law_names", "_law_strikes_here", "_law_strikers_here", "_law_words", "_law_rows", "_law_number", "_law_more", "_law_got_in", "_law_got_out"] ["_law_names", "_law_strikes_here"] (defScope s_law_rounds):=⟨rfl,rfl,rfl,by decide +kernel,rfl,by decide +kernel,by decide +kernel⟩
set_option maxHeartbeats 4000000 in
theorem ok_law_rounds (T:Tx K mg):FnOk P w K mg base CX0 2 T.law_rounds.f T.law_rounds.fd ["_law_names", "_law_strikes_here"] sp_lrounds:=by
 have G_law_strikers:FnOk P w K mg base CX0 1 T.law_strikers.f T.law_strikers.fd ["_law_names", "_law_strikes_here"] sp_lstrikers:=ok_law_strikers T
 have G_law_all_out:FnOk P w K mg base CX0 1 T.law_all_out.f T.law_all_out.fd ["_law_some", "_law_words"] sp_lall:=ok_law_all_out T
 have G_law_has_in:FnOk P w K mg base CX0 1 T.law_has_in.f T.law_has_in.fd ["_law_some", "_law_words"] sp_lhas:=ok_law_has_in T
 have sc:=sc_law_rounds
 refine T.law_rounds.F.ok sc_law_rounds (fun vs H Q E h=>?_) (fun cdv A outer s H vs Q E hr h=>?_)
 ·obtain ⟨n,a,ss,ns,ps,rfl,_⟩:=h
  rfl
 ·obtain ⟨n,a,ss,ns,ps,rfl,hn,hN,ha,hp,hO,pn,so,k⟩:=h
  have hu:=hu_of hr
  refine ⟨_,(pss_cons (ps_set (i:=2) sc.nd rfl (by first | exact Or.inl rfl | exact Or.inr rfl) (pe_fn T.law_strikers G_law_strikers (hr.mono (by decide)) (pa_cons (pv 0) (pa_cons (pv 1) pa_nil))))
   (pss_cons (ps_set (i:=3) sc.nd rfl (by first | exact Or.inl rfl | exact Or.inr rfl) pe_dnewK)
   (pss_cons (ps_set (i:=4) sc.nd rfl (by first | exact Or.inl rfl | exact Or.inr rfl) (pe_lst pa_nil))
   (pss_cons (ps_set (i:=5) sc.nd rfl (by first | exact Or.inl rfl | exact Or.inr rfl) pe_int)
   (pss_cons (ps_set (i:=6) sc.nd rfl (by first | exact Or.inl rfl | exact Or.inr rfl) pe_bl)
   (pss_cons (ps_while PassesOwn.never (pt_val (pv 6)) (pss_cons (ps_setLC (i:=7) (N':=["_law_name", "_law_words", "_law_strikers_here"]) (cap:=[none,some 3,some 2]) (cl:=[("_law_words",_),("_law_strikers_here",_)]) sc.nd rfl (by first | exact Or.inl rfl | exact Or.inr rfl) (cs_mk ⟨⟨rfl,rfl,rfl,rfl⟩,⟨⟨rfl,rfl,rfl,rfl⟩,trivial⟩⟩ ⟨rfl,⟨rfl,trivial⟩⟩) rfl (piL K (pe_bf (cl_sortS K) T.b_sorted bt_sorted (pa_cons (pv 0) pa_nil))) (fun _ _ _ _=>by exact ⟨(pgC 0),(pts_one (PW.pt (pw_and (pt_cmp (pc_dnotin hu (pv 0) (pv 1))) (pw_and1 (pt_val (pe_fn T.law_all_out G_law_all_out (hr.mono (by decide)) (pa_cons (pe_dget hu (pv 2) (pv 0) (fun _ _=>rfl)) (pa_cons (pv 1) pa_nil)))))))),(pv 0)⟩))
   (pss_cons (ps_expr (pe_dupdP (pv 3) (pe_lc (N':=["_law_name"]) (cap:=[none]) (cl:=[]) (cs_mk trivial trivial) rfl (piL K (pv 7)) (fun _ _ _ _=>by exact ⟨(pgC 0),pts_nil,(pe_tup (pa_cons (pv 0) (pa_cons pe_str pa_nil)))⟩)) ⟨rfl,rfl,rfl,rfl⟩))
   (pss_cons (ps_setLC (i:=8) (N':=["_law_name", "_law_words", "_law_strikers_here"]) (cap:=[none,some 3,some 2]) (cl:=[("_law_words",_),("_law_strikers_here",_)]) sc.nd rfl (by first | exact Or.inl rfl | exact Or.inr rfl) (cs_mk ⟨⟨rfl,rfl,rfl,rfl⟩,⟨⟨rfl,rfl,rfl,rfl⟩,trivial⟩⟩ ⟨rfl,⟨rfl,trivial⟩⟩) rfl (piL K (pe_bf (cl_sortS K) T.b_sorted bt_sorted (pa_cons (pv 0) pa_nil))) (fun _ _ _ _=>by exact ⟨(pgC 0),(pts_one (PW.pt (pw_and (pt_cmp (pc_dnotin hu (pv 0) (pv 1))) (pw_and1 (pt_val (pe_fn T.law_has_in G_law_has_in (hr.mono (by decide)) (pa_cons (pe_dget hu (pv 2) (pv 0) (fun _ _=>rfl)) (pa_cons (pv 1) pa_nil)))))))),(pv 0)⟩))
   (pss_cons (ps_expr (pe_dupdP (pv 3) (pe_lc (N':=["_law_name"]) (cap:=[none]) (cl:=[]) (cs_mk trivial trivial) rfl (piL K (pv 8)) (fun _ _ _ _=>by exact ⟨(pgC 0),pts_nil,(pe_tup (pa_cons (pv 0) (pa_cons pe_str pa_nil)))⟩)) ⟨rfl,rfl,rfl,rfl⟩))
   (pss_cons (ps_set (i:=4) sc.nd rfl (by first | exact Or.inl rfl | exact Or.inr rfl) (pe_op op_cat (pe_op op_cat (pv 4) (pe_lc (N':=["_law_name", "_law_number"]) (cap:=[none,some 5]) (cl:=[("_law_number",_)]) (cs_mk ⟨⟨rfl,rfl,rfl,rfl⟩,trivial⟩ ⟨rfl,trivial⟩) rfl (piL K (pv 7)) (fun _ _ _ _=>by exact ⟨(pgC 0),pts_nil,(pe_tup (pa_cons (pv 0) (pa_cons pe_str (pa_cons (pv 1) pa_nil))))⟩))) (pe_lc (N':=["_law_name", "_law_number"]) (cap:=[none,some 5]) (cl:=[("_law_number",_)]) (cs_mk ⟨⟨rfl,rfl,rfl,rfl⟩,trivial⟩ ⟨rfl,trivial⟩) rfl (piL K (pv 8)) (fun _ _ _ _=>by exact ⟨(pgC 0),pts_nil,(pe_tup (pa_cons (pv 0) (pa_cons pe_str (pa_cons (pv 1) pa_nil))))⟩))))
   (pss_cons (ps_set (i:=6) sc.nd rfl (by first | exact Or.inl rfl | exact Or.inr rfl) (pe_cmpR (o_neD K hr.units) (pe_op op_cat (pv 7) (pv 8)) (pe_lst pa_nil) (nomark _)))
   (pss_one (ps_set (i:=5) sc.nd rfl (by first | exact Or.inl rfl | exact Or.inr rfl) (pe_op op_add (pv 5) pe_int))))))))))
   (pss_one (ps_ret (pe_op op_cat (pv 4) (pe_lc (N':=["_law_name", "_law_words"]) (cap:=[none,some 3]) (cl:=[("_law_words",_)]) (cs_mk ⟨⟨rfl,rfl,rfl,rfl⟩,trivial⟩ ⟨rfl,trivial⟩) rfl (piL K (pe_bf (cl_sortS K) T.b_sorted bt_sorted (pa_cons (pv 0) pa_nil))) (fun _ _ _ _=>by exact ⟨(pgC 0),(pts_one (pt_cmp (pc_dnotin hu (pv 0) (pv 1)))),(pe_tup (pa_cons (pv 0) (pa_cons pe_str (pa_cons pe_non pa_nil))))⟩))))))))))),?_⟩
  have nn:ns.Nodup:=pn.nodup_iff.mpr hN.2.1
  have ln:ns.length<=100:=by rw [pn.length_eq]; exact hN.2.2
  have inn:∀ {y},y ∈ ns->y ∈ ss:=fun h=>pn.mem_iff.mp h
  have lfl:∀ g:Str->Option Str,(wl ns g).length<=100:=fun g=>Nat.le_trans (List.length_filter_le ..) ln
  have lin:∀ (B:(Str->Option Str)->Str->Bool) g,(insOf ns B g).length<=100:=fun B g=>Nat.le_trans (List.length_filter_le ..) (lfl _)
  refine seq_gen fun N1 hN1=>?_
  refine ex1 rfl (ex1 rfl ⟨n,a,ss,ps,rfl,hn,hN,ha,hp,hO,fun d kvs H1 s1 ed st=>?_⟩)
  refine hN1 _ _ (seq_gen fun N2 hN2=>?_)
  intro wd hwd
  have u1:=Same.new (o:=.dK []) hwd
  have f1:(upd H1 wd (.dK [])) wd = some (.dK []):=upd_same
  generalize upd H1 wd (.dK []) = H2 at u1 f1 ⊢
  refine hN2 _ _ (seq_gen fun N3 hN3=>?_)
  refine ⟨Nat.zero_le _,fun r hr0=>?_⟩
  have u2:=Same.new (o:=.lst []) hr0
  have f2:(upd H2 r (.lst [])) r = some (.lst []):=upd_same
  generalize upd H2 r (.lst []) = H3 at u2 f2 ⊢
  refine hN3 _ _ (seq_gen fun N4 hN4=>?_)
  refine hN4 _ _ (seq_gen fun N5 hN5=>?_)
  refine hN5 _ _ (seq_gen fun N6 hN6=>?_)
  have lw0:=lfl fun _=>none
  have n1:=s1 _ _ hn
  refine ⟨fun m σ H4=>∃ (g:Bool) (num:Int) (r:Addr) (v7 v8:Option V) (kvw:List (Key × V)) (f:Str->Option Str) (rd:List (Addr × Row)),σ = [some (.ref n),some (.ref a),some (.ref d),some (.ref wd),some (.ref r),some (.int num),some (.bl g),v7,v8]/\Same H1 H4/\H4 wd = some (.dK kvw)/\WD kvw f/\RL H4 r rd /\
   (g = true->∀ t,RSeq ns (allOut ps) (oneIn ps) f num t->RSeq ns (allOut ps) (oneIn ps) (fun _=>none) 1 ((rd.map fun q=>q.2) ++ t))/\(g = false->RSeq ns (allOut ps) (oneIn ps) (fun _=>none) 1 ((rd.map fun q=>q.2) ++ (wl ns f).map fun n=>(n,wOpen,V.non)))/\m = (wl ns f).length + (if g = true then 1 else 0)/\kvw.length + (wl ns f).length<=100/\rd.length + (wl ns f).length<=100,
   ⟨_,true,1,r,none,none,[],fun _=>none,[],rfl,u1.trans u2,u2 _ _ f1,fun n=>rfl,⟨f2,fun q h=>absurd h List.not_mem_nil⟩,fun _ t h=>h,fun h=>(by cases h),rfl,by show 0 + _<=_; omega,by show 0 + _<=_; omega⟩,?_⟩
  clear f1 f2 u1 u2 hr0
  rintro m σ H4 ⟨g,num,r,v7,v8,kvw,f,rd,rfl,s4,e4,wd4,Lr,W4,C4,rfl,len4,ld4⟩
  refine ex1 rfl ⟨g,rfl,?_⟩
  have n4:=s4 _ _ n1
  cases g with
  | false =>
   refine iteF (hN6 _ _ ?_)
   refine ex1 rfl (ex1 rfl ⟨n,_,rfl,SqL.of n4,fun l1 t1 hl1 p1 w1=>⟨l1,rfl,⟨_,SqL.of upd_same⟩,fun D hD=>?_⟩⟩)
   cases sorted_one w1 so (p1.trans pn.symm)
   have u5:=Same.new (o:=.lst (ns.map V.str)) hl1
   refine lc_rows (v3:=.non) (fun y=>(f y).isNone) upd_same (by omega) hD (fun y G Q' hq=>hq) (fun y hy G sg Q' hq=>?_) (fun σ rs2 H6 s6 L6 q6=>?_) _
   ·refine ex1 rfl (ex1 rfl ⟨wd,_,rfl,DGet.k (k:=Sum.inr y) (sg _ _ (u5 _ _ e4)),_,rfl,?_⟩)
    rw [wd4 y]
    have e:(!((f y).map V.str).isSome) = (f y).isNone:=by cases f y <;> rfl
    rw [e]
    exact hq
   have s46:=u5.trans s6
   have Lr:=Lr.same s46
   have l2:=congrArg List.length q6
   rw [List.length_map,List.length_map] at l2
   have l2:rs2.length = (wl ns f).length:=l2
   refine ⟨r,D,_,_,rfl,rfl,Lr.1,L6.1,by rw [List.length_map,List.length_map,sizeLine_eq]; omega,fun c hc=>?_⟩
   have u7:=Same.new (o:=.lst ((rd.map fun q=>V.ref q.1) ++ rs2.map fun q=>V.ref q.1)) hc
   have s06:=s1.trans (s4.trans s46)
   exact k c (rd ++ rs2) _ (s06.trans u7) (s06.free hc) (Lr.app L6 upd_same fun q o e=>u7 _ _ e) (by rw [List.map_append,q6]; exact C4 rfl) (by rw [List.length_append]; omega)
  | true =>
   refine iteT ⟨_,fun _ _ z=>z,seq_gen fun M1 hM1=>?_⟩
   have W4:=W4 rfl
   refine ex1 rfl ⟨n,_,rfl,SqL.of n4,fun l1 t1 hl1 p1 w1=>⟨l1,rfl,⟨_,SqL.of upd_same⟩,fun D1 hD1=>?_⟩⟩
   cases sorted_one w1 so (p1.trans pn.symm)
   have u5:=Same.new (o:=.lst (ns.map V.str)) hl1
   refine lc_filter (fun y=>(f y).isNone && allOut ps f y) upd_same (by omega) hD1 (fun y hy G sg Q' hQ=>?_) (fun σ H5 s5 e5=>?_) _
   ·have sG:=s4.trans (u5.trans sg)
    refine ex1 rfl (ex1 rfl ⟨wd,_,rfl,DGet.k (k:=Sum.inr y) ((u5.trans sg) _ _ e4),_,rfl,?_⟩)
    rw [wd4 y]
    have hQ0:=hQ G fun b o e=>e
    cases ef:f y with
    | some z=>rw [ef] at hQ0; exact iteF hQ0
    | none =>
     refine iteT ?_
     obtain ⟨ls,h1,h2⟩:=(st.same sG) y (inn hy)
     refine ex1 rfl (ex1 rfl ⟨d,_,rfl,by rw [<-h1]; exact DGet.k (k:=Sum.inr y) (sG _ _ ed),ex1 rfl ⟨ls,wd,y,ps,_,f,rfl,h2,hO.len,(u5.trans sg) _ _ e4,wd4,fun G' sg'=>⟨_,rfl,?_⟩⟩⟩)
     have:=hQ G' sg'
     rw [ef] at this
     exact this
   rw [ins_eq] at e5
   have s45:=u5.trans s5
   have e45:=s45 _ _ e4
   clear hD1 u5 p1 w1
   refine hM1 _ _ (seq_gen fun M2 hM2=>?_)
   refine ex1 rfl ⟨wd,rfl,.inl ⟨_,.inl e45⟩,ex1 rfl ⟨D1,rfl,⟨_,SqL.of e5⟩,fun E1 hE1=>?_⟩⟩
   refine lc_pairs (w:=wIn) e5 (Nat.le_trans (lin _ _) (by decide)) hE1 (fun σ qs1 H6 s6 e6 t6 q6=>?_) _
   have k1:=wd4.mrg (w:=wIn) (l:=insOf ns (allOut ps) f)
   have m1:=mrgK_length kvw ((insOf ns (allOut ps) f).map fun n=>(Sum.inr n,V.str wIn))
   rw [List.length_map] at m1
   have lq1:=congrArg List.length q6
   rw [List.length_map,List.length_map] at lq1
   have i1:=ins_wl (A:=allOut ps) (f:=f) (w:=wIn) nn
   refine ⟨E1,kvw,qs1,rfl,s6 _ _ e45,e6,t6,by rw [sizeLine_eq]; omega,?_⟩
   rw [q6]
   have d6:=s6 _ _ e5
   have w6:=s6 _ _ e45
   have nD1:D1 ≠ wd:=ne_of d6 w6 (by intro z; cases z)
   have k7:=((s4.trans s45).trans s6).upd (o:=.dK (mrgK kvw ((insOf ns (allOut ps) f).map fun n=>(Sum.inr n,V.str wIn)))) hwd
   have L7:=((Lr.same s45).same s6).smd (H':=upd H6 wd (.dK (mrgK kvw ((insOf ns (allOut ps) f).map fun n=>(Sum.inr n,V.str wIn))))) w6 ((Sm.refl [wd] H6).upd (by simp))
   have d7:(upd H6 wd (.dK (mrgK kvw ((insOf ns (allOut ps) f).map fun n=>(Sum.inr n,V.str wIn))))) D1 = some (.lst ((insOf ns (allOut ps) f).map V.str)):=(upd_ne nD1).trans d6
   have w7:(upd H6 wd (.dK (mrgK kvw ((insOf ns (allOut ps) f).map fun n=>(Sum.inr n,V.str wIn))))) wd = some (.dK (mrgK kvw ((insOf ns (allOut ps) f).map fun n=>(Sum.inr n,V.str wIn)))):=upd_same
   generalize mrgK kvw ((insOf ns (allOut ps) f).map fun n=>(Sum.inr n,V.str wIn)) = kv1 at k1 m1 k7 L7 d7 w7 ⊢
   generalize upd H6 wd (.dK kv1) = H7 at k7 L7 d7 w7 ⊢
   have k1:WD kv1 (nxt1 ns (allOut ps) f):=k1
   clear s6 e6 t6 q6 s5 s45 e5 e45 w6 d6 hE1 Lr e4 s4 n4
   refine hM2 _ _ (seq_gen fun M3 hM3=>?_)
   have n7:=k7 _ _ n1
   refine ex1 rfl ⟨n,_,rfl,SqL.of n7,fun l2 t2 hl2 p2 w2=>⟨l2,rfl,⟨_,SqL.of upd_same⟩,fun D2 hD2=>?_⟩⟩
   cases sorted_one w2 so (p2.trans pn.symm)
   have u8:=Same.new (o:=.lst (ns.map V.str)) hl2
   have nx:nxt1 ns (allOut ps) f = nxt1 ns (allOut ps) f:=rfl
   generalize hg1:nxt1 ns (allOut ps) f = f1 at k1
   refine lc_filter (fun y=>(f1 y).isNone && oneIn ps f1 y) upd_same (by omega) hD2 (fun y hy G sg Q' hQ=>?_) (fun σ H9 s9 e9=>?_) _
   ·have sG:=k7.trans (u8.trans sg)
    refine ex1 rfl (ex1 rfl ⟨wd,_,rfl,DGet.k (k:=Sum.inr y) ((u8.trans sg) _ _ w7),_,rfl,?_⟩)
    rw [k1 y]
    have hQ0:=hQ G fun b o e=>e
    cases ef:f1 y with
    | some z=>rw [ef] at hQ0; exact iteF hQ0
    | none =>
     refine iteT ?_
     obtain ⟨ls,h1,h2⟩:=(st.same sG) y (inn hy)
     refine ex1 rfl (ex1 rfl ⟨d,_,rfl,by rw [<-h1]; exact DGet.k (k:=Sum.inr y) (sG _ _ ed),ex1 rfl ⟨ls,wd,y,ps,_,f1,rfl,h2,hO.len,(u8.trans sg) _ _ w7,k1,fun G' sg'=>⟨_,rfl,?_⟩⟩⟩)
     have:=hQ G' sg'
     rw [ef] at this
     exact this
   rw [ins_eq] at e9
   have s79:=u8.trans s9
   have e79:=s79 _ _ w7
   have i2:=ins_wl (A:=oneIn ps) (f:=f1) (w:=wOut) nn
   have l1':=lin (allOut ps) f
   have l2':=lin (oneIn ps) f1
   clear hD2 u8 p2 w2
   refine hM3 _ _ (seq_gen fun M4 hM4=>?_)
   refine ex1 rfl ⟨wd,rfl,.inl ⟨_,.inl e79⟩,ex1 rfl ⟨D2,rfl,⟨_,SqL.of e9⟩,fun E2 hE2=>?_⟩⟩
   refine lc_pairs (w:=wOut) e9 (Nat.le_trans l2' (by decide)) hE2 (fun σ qs2 HA sA eA tA qA=>?_) _
   have k2:=k1.mrg (w:=wOut) (l:=insOf ns (oneIn ps) f1)
   have m2:=mrgK_length kv1 ((insOf ns (oneIn ps) f1).map fun n=>(Sum.inr n,V.str wOut))
   rw [List.length_map] at m2
   have lq2:=congrArg List.length qA
   rw [List.length_map,List.length_map] at lq2
   refine ⟨E2,kv1,qs2,rfl,sA _ _ e79,eA,tA,by rw [sizeLine_eq]; omega,?_⟩
   rw [qA]
   have dA:=sA _ _ e9
   have wA:=sA _ _ e79
   have nD2:D2 ≠ wd:=ne_of dA wA (by intro z; cases z)
   have kB:=((k7.trans s79).trans sA).upd (o:=.dK (mrgK kv1 ((insOf ns (oneIn ps) f1).map fun n=>(Sum.inr n,V.str wOut)))) hwd
   have LB:=((L7.same s79).same sA).smd (H':=upd HA wd (.dK (mrgK kv1 ((insOf ns (oneIn ps) f1).map fun n=>(Sum.inr n,V.str wOut))))) wA ((Sm.refl [wd] HA).upd (by simp))
   have aB:(upd HA wd (.dK (mrgK kv1 ((insOf ns (oneIn ps) f1).map fun n=>(Sum.inr n,V.str wOut))))) D1 = some (.lst ((insOf ns (allOut ps) f).map V.str)):=(upd_ne nD1).trans (sA _ _ (s79 _ _ d7))
   have bB:(upd HA wd (.dK (mrgK kv1 ((insOf ns (oneIn ps) f1).map fun n=>(Sum.inr n,V.str wOut))))) D2 = some (.lst ((insOf ns (oneIn ps) f1).map V.str)):=(upd_ne nD2).trans dA
   have wB:(upd HA wd (.dK (mrgK kv1 ((insOf ns (oneIn ps) f1).map fun n=>(Sum.inr n,V.str wOut))))) wd = some (.dK (mrgK kv1 ((insOf ns (oneIn ps) f1).map fun n=>(Sum.inr n,V.str wOut)))):=upd_same
   generalize mrgK kv1 ((insOf ns (oneIn ps) f1).map fun n=>(Sum.inr n,V.str wOut)) = kv2 at k2 m2 kB LB aB bB wB ⊢
   generalize upd HA wd (.dK kv2) = HB at kB LB aB bB wB ⊢
   clear sA eA tA qA s9 s79 e9 e79 wA dA hE2 L7 w7 k7 n7 d7
   refine hM4 _ _ (seq_gen fun M5 hM5=>?_)
   refine ex1 rfl (ex1 rfl ⟨D1,rfl,⟨_,SqL.of aB⟩,fun R1 hR1=>?_⟩)
   refine lc_rows (v3:=.int num) (fun _=>true) aB (Nat.le_trans l1' (by decide)) hR1 (fun y G Q' hq=>⟨_,rfl,hq⟩) (fun y hy G sg Q' hq=>hq) (fun σ rs1 HC sC LC qC=>?_) _
   rw [filter_all] at qC
   have lr1:=congrArg List.length qC
   rw [List.length_map,List.length_map] at lr1
   have LBC:=LB.same sC
   refine ⟨r,R1,_,_,rfl,rfl,LBC.1,LC.1,by rw [List.length_map,List.length_map,sizeLine_eq]; omega,fun c1 hc1=>?_⟩
   have uD:=Same.new (o:=.lst ((rd.map fun q=>V.ref q.1) ++ rs1.map fun q=>V.ref q.1)) hc1
   have LD:=LBC.app LC (H':=upd HC c1 (.lst ((rd.map fun q=>V.ref q.1) ++ rs1.map fun q=>V.ref q.1))) upd_same fun q o e=>uD _ _ e
   generalize upd HC c1 (.lst ((rd.map fun q=>V.ref q.1) ++ rs1.map fun q=>V.ref q.1)) = HD at uD LD ⊢
   have sBD:=sC.trans uD
   refine ex1 rfl ⟨D2,rfl,⟨_,SqL.of (sBD _ _ bB)⟩,fun R2 hR2=>?_⟩
   refine lc_rows (v3:=.int num) (fun _=>true) (sBD _ _ bB) (Nat.le_trans l2' (by decide)) hR2 (fun y G Q' hq=>⟨_,rfl,hq⟩) (fun y hy G sg Q' hq=>hq) (fun σ rs2 HE sE LE qE=>?_) _
   rw [filter_all] at qE
   have lr2:=congrArg List.length qE
   rw [List.length_map,List.length_map] at lr2
   have LDE:=LD.same sE
   refine ⟨c1,R2,_,_,rfl,rfl,LDE.1,LE.1,by rw [List.length_map,List.length_map,List.length_append,sizeLine_eq]; omega,fun c2 hc2=>?_⟩
   have uF:=Same.new (o:=.lst (((rd ++ rs1).map fun q=>V.ref q.1) ++ rs2.map fun q=>V.ref q.1)) hc2
   have LF:=LDE.app LE (H':=upd HE c2 (.lst (((rd ++ rs1).map fun q=>V.ref q.1) ++ rs2.map fun q=>V.ref q.1))) upd_same fun q o e=>uF _ _ e
   generalize upd HE c2 (.lst (((rd ++ rs1).map fun q=>V.ref q.1) ++ rs2.map fun q=>V.ref q.1)) = HF at uF LF ⊢
   have sBF:=sBD.trans (sE.trans uF)
   have aF:=sBF _ _ aB
   have bF:=sBF _ _ bB
   have wF:=sBF _ _ wB
   have kF:=kB.trans sBF
   clear LE LDE LD LC LBC LB sE sC sBD uD uF sBF aB bB wB kB hR1 hR2
   have eqr:((rd ++ rs1 ++ rs2).map fun q=>q.2) = (rd.map fun q=>q.2) ++ rowsOf ns (allOut ps) (oneIn ps) f num:=by
    unfold rowsOf
    rw [List.map_append,List.map_append,qC,qE,List.append_assoc,hg1]
   refine hM5 _ _ (seq_gen fun M6 hM6=>?_)
   refine ex1 rfl (ex1 rfl ⟨D1,D2,_,_,rfl,rfl,aF,bF,by rw [List.length_map,List.length_map,sizeLine_eq]; omega,fun c hc=>⟨Nat.zero_le _,?_⟩⟩)
   have uG:=Same.new (o:=.lst ((insOf ns (allOut ps) f).map V.str ++ (insOf ns (oneIn ps) f1).map V.str)) hc
   have eG:(upd HF c (.lst ((insOf ns (allOut ps) f).map V.str ++ (insOf ns (oneIn ps) f1).map V.str))) c = some (.lst ((insOf ns (allOut ps) f ++ insOf ns (oneIn ps) f1).map V.str)):=by rw [upd_same,List.map_append]
   refine ne_nil_of eG (fun x hx=>hN.1 x (inn ((List.mem_append.mp hx).elim (fun z=>(mem_ins z).1) fun z=>(mem_ins z).1))) fun HG sG=>?_
   have sFG:=uG.trans sG
   refine hM6 _ _ ?_
   refine ex1 rfl ⟨_,_,rfl,rfl,?_⟩
   have nxe:nxt ns (allOut ps) (oneIn ps) f = putW f1 (insOf ns (oneIn ps) f1) wOut:=by unfold nxt; rw [hg1]
   have k2:WD kv2 (nxt ns (allOut ps) (oneIn ps) f):=by rw [nxe]; exact k2
   have i1:(wl ns f1).length + (insOf ns (allOut ps) f).length<=(wl ns f).length:=by rw [<-hg1]; exact i1
   rw [<-nxe] at i2
   have lz:∀ b:Bool,(if b = true then 1 else 0)<=1:=fun b=>by cases b <;> decide
   have emp:rowsOf ns (allOut ps) (oneIn ps) f num = [] ↔ (insOf ns (allOut ps) f ++ insOf ns (oneIn ps) f1).isEmpty = true:=by rw [<-hg1]; exact names_isEmpty
   have ll:(insOf ns (allOut ps) f ++ insOf ns (oneIn ps) f1).length = _:=List.length_append
   generalize (insOf ns (allOut ps) f ++ insOf ns (oneIn ps) f1) = both at emp ll
   refine ⟨(wl ns (nxt ns (allOut ps) (oneIn ps) f)).length + (if (!both.isEmpty) = true then 1 else 0),?_,_,_,c2,_,_,kv2,_,rd ++ rs1 ++ rs2,rfl,kF.trans sFG,sFG _ _ wF,k2,LF.same sFG,fun hb t ht=>?_,fun hb=>?_,rfl,by omega,by rw [List.length_append,List.length_append]; omega⟩
   ·cases both with
    | nil=>show _ + 0 < _ + 1; omega
    | cons b r=>show _ + 1 < _ + 1; rw [List.length_cons] at ll; omega
   ·rw [eqr,List.append_assoc]
    exact W4 _ (.step (fun c=>by rw [emp.mp c] at hb; cases hb) ht)
   ·have c:=emp.mpr (by cases e:both.isEmpty with | true=>rfl | false=>rw [e] at hb; cases hb)
    rw [eqr,c,rows_nil c,List.append_nil]
    exact W4 _ (.stop c)
end
end Sw
namespace Sw
open PySem L2
noncomputable def er (H:Hp) (m:Addr):Hp:=fun b=>if b = m then none else H b
theorem er_ne {H:Hp} {m b:Addr} (h:b ≠ m):er H m b = H b:=if_neg h
theorem er_same {H:Hp} {m:Addr}:Same (er H m) H:=fun b o e=>by
 unfold er at e
 by_cases c:b = m
 ·rw [if_pos c] at e; cases e
 ·rw [if_neg c] at e; exact e
theorem er_mono {H H':Hp} {m:Addr} (s:Same H H'):Same (er H m) (er H' m):=fun b o e=>by
 unfold er at e ⊢
 by_cases c:b = m
 ·rw [if_pos c] at e; cases e
 ·rw [if_neg c] at e ⊢; exact s _ _ e
theorem er_sm {H H':Hp} {m:Addr} (s:Sm [m] H H'):Same (er H m) (er H' m):=fun b o e=>by
 unfold er at e ⊢
 by_cases c:b = m
 ·rw [if_pos c] at e; cases e
 ·rw [if_neg c] at e ⊢; exact Sm1 s e c
theorem rows_len {rs:List (Addr × Row)} {D:List (Str × Mk)} (h:(rs.map fun q=>q.2) = D.map rowM):rs.length = D.length:=by
 have:=congrArg List.length h
 rwa [List.length_map,List.length_map] at this
theorem left_ne {H:Hp} {p n:Addr} {c:Int} {α:Type} {rs:List (Addr × α)} (h:LeftAt H p c) (hn:H n = some (.lst (rs.map fun q=>V.ref q.1))):n ≠ p:=fun e=>by
 subst e
 obtain ⟨a,b,e,_⟩:=h
 have:=Option.some.inj (hn.symm.trans e)
 cases rs with
 | nil=>cases this
 | cons x r=>cases this
theorem left_neT {H:Hp} {p n:Addr} {c:Int} {xs:List V} (h:LeftAt H p c) (hn:H n = some (.tup xs)):n ≠ p:=fun e=>by
 subst e
 obtain ⟨a,b,e,_⟩:=h
 cases Option.some.inj (hn.symm.trans e)
theorem RL.sm {H H':Hp} {l p:Addr} {c:Int} {rs:List (Addr × Row)} (h:RL H l rs) (L:LeftAt H p c) (k:Sm [p] H H'):RL H' l rs:=⟨Sm1 k h.1 (left_ne L h.1),fun q hq=>Sm1 k (h.2 q hq) (left_neT L (h.2 q hq))⟩
noncomputable def Go (d:PyData):Prop:=d.canLay0 = true/\d.depth<=10
theorem th_nm {H:Hp} (m:Mk):Th H (nmE m) (nmM m):=by
 match m with
 | none=>show Th H .none .non; simp [Th]
 | some (_,i)=>show Th H (.int i) (.int i); simp [Th]
noncomputable def Gd0 (d:PyData):Prop:=d.canLay0 = true/\d.depth<=4
theorem Gd0.go {d:PyData} (h:Gd0 d):Go d:=⟨h.1,by have:=h.2; omega⟩
theorem go_tup3 {a b c:PyData} (ha:Gd0 a) (hb:Gd0 b) (hc:Gd0 c):Go (.tuple [a,b,c]):=by
 refine ⟨?_,?_⟩
 ·simp only [PyData.canLay0,PyData.canLayAll0,ha.1,hb.1,hc.1,Bool.and_self]
 ·have:=ha.2; have:=hb.2; have:=hc.2
  simp only [PyData.depth,PyData.depthAll]
  omega
theorem go_pl {a b c:PyData} (h:Go (.tuple [a,b,c])):Pl a/\Pl b:=by
 obtain ⟨h1,h2⟩:=h
 simp only [PyData.canLay0,PyData.canLayAll0,Bool.and_eq_true_iff] at h1
 simp only [PyData.depth,PyData.depthAll] at h2
 exact ⟨⟨h1.1,by omega⟩,⟨h1.2.1,by omega⟩⟩
theorem g0_str {x:Str} (h:PySem.PyData.strOk x = true):Gd0 (.str x):=⟨by rw [PyData.canLay0]; exact h,by rw [PyData.depth]; decide⟩
theorem g0_int (i:Int):Gd0 (.int i):=⟨by rw [PyData.canLay0],by rw [PyData.depth]; decide⟩
theorem g0_bool (i:Bool):Gd0 (.bool i):=⟨by rw [PyData.canLay0],by rw [PyData.depth]; decide⟩
theorem g0_none:Gd0 .none:=⟨by rw [PyData.canLay0],by rw [PyData.depth]; decide⟩
theorem g0_nm (m:Mk):Gd0 (nmE m):=by
 match m with
 | none=>exact g0_none
 | some (_,i)=>exact g0_int i
theorem at_lit {xs:List V} {G:V->Prop} (h:∀ v ∈ xs,G v) {d:Nat} (hd:d < xs.length):∃ v,G v/\atI xs (d:Int) = some v:=⟨xs[d],h _ (List.getElem_mem hd),atI_nat (List.getElem?_eq_getElem hd)⟩
noncomputable def Som (H:Hp) (v:V):Prop:=∃ e,Gd0 e/\Th H e v
theorem Som.same {H H':Hp} {v:V} (h:Som H v) (s:Same H H'):Som H' v:=let ⟨e,g,t⟩:=h; ⟨e,g,t.same s⟩
theorem som_str {H:Hp} {x:Str} (h:PySem.PyData.strOk x = true):Som H (.str x):=⟨.str x,g0_str h,by simp [Th]⟩
theorem som_int {H:Hp} (i:Int):Som H (.int i):=⟨.int i,g0_int i,by simp [Th]⟩
theorem som_bl {H:Hp} (i:Bool):Som H (.bl i):=⟨.bool i,g0_bool i,by simp [Th]⟩
theorem som_non {H:Hp}:Som H .non:=⟨.none,g0_none,by simp [Th]⟩
theorem som_nm {H:Hp} (m:Mk):Som H (nmM m):=⟨nmE m,g0_nm m,th_nm m⟩
theorem som_tup3 {H:Hp} {t:Addr} {x y z:V} (h:H t = some (.tup [x,y,z])) (hx:Som H x) (hy:Som H y) (hz:Som H z):∃ e,Go e/\Th H e (.ref t):=by
 obtain ⟨a,ga,ta⟩:=hx
 obtain ⟨b,gb,tb⟩:=hy
 obtain ⟨c,gc,tc⟩:=hz
 refine ⟨.tuple [a,b,c],go_tup3 ga gb gc,?_⟩
 simp only [Th,Ths]
 exact ⟨t,_,rfl,h,_,_,rfl,ta,_,_,rfl,tb,_,_,rfl,tc,rfl⟩
end Sw
namespace Sw
open PySem L2
section
variable {P:Program} {w:World} {K:PySem.W.Frag} {mg:Str->Option Value} {base:Heap}
theorem sc_law_other_part:FnScope ["_law_left_here", "_law_row", "_law_rows", "_law_name", "_law_word", "_law_number", "_law_way", "_law_numbers"] ["_law_left_here", "_law_row", "_law_rows"] (defScope s_law_other_part):=⟨rfl,rfl,rfl,by decide +kernel,rfl,by decide +kernel,by decide +kernel⟩
noncomputable def sp_other:Sp:=fun vs H Q _=>∃ (p r l:Addr) (c:Int) (d:Str × Mk) (rs:List (Addr × Row)) (D:List (Str × Mk)),vs = [.ref p,.ref r,.ref l]/\LeftAt H p c/\c<=900000/\H r = some (.tup [.str d.1,.str (wdM d.2),nmM d.2])/\PySem.PyData.strOk d.1 = true/\RL H l rs/\(rs.map fun q=>q.2) = D.map rowM/\D ≠ []/\D.length<=200 /\
 ∀ v e c' H',Sm [p] H H'->Th (er H' p) e v->Go e->LeftAt H' p c'->c'<=c + 4->Q v H'
set_option maxHeartbeats 4000000 in
theorem ok_law_other_part (T:Tx K mg):FnOk P w K mg base CX0 3 T.law_other_part.f T.law_other_part.fd ["_law_left_here", "_law_row", "_law_rows"] sp_other:=by
 have G_law_pick:FnOk P w K mg base CX0 2 T.law_pick.f T.law_pick.fd ["_law_left_here", "_law_many"] sp_pick:=ok_law_pick T
 have sc:=sc_law_other_part
 refine T.law_other_part.F.ok sc_law_other_part (fun vs H Q E h=>?_) (fun cdv A outer s H vs Q E hr h=>?_)
 ·obtain ⟨p,r,l,c,d,rs,D,rfl,_⟩:=h
  rfl
 ·obtain ⟨p,r,l,c,d,rs,D,rfl,hL,c1,e,okd,hR,eD,D0,lD,q⟩:=h
  refine ⟨_,(pss_cons (ps_asg (pv 1) (pgT K (n:=3) (pgs_cons (pg_name (i:=3) sc.nd rfl (by first | exact Or.inl rfl | exact Or.inr rfl)) (pgs_cons (pg_name (i:=4) sc.nd rfl (by first | exact Or.inl rfl | exact Or.inr rfl)) (pgs_cons (pg_name (i:=5) sc.nd rfl (by first | exact Or.inl rfl | exact Or.inr rfl)) pgs_nil)))))
   (pss_cons (ps_set (i:=6) sc.nd rfl (by first | exact Or.inl rfl | exact Or.inr rfl) (pe_fn T.law_pick G_law_pick (hr.mono (by decide)) (pa_cons (pv 0) (pa_cons pe_int pa_nil))))
   (pss_cons (ps_if (pt_cmpR op_lt (pv 6) pe_int (nomark _)) (pss_cons (ps_set (i:=4) sc.nd rfl (by first | exact Or.inl rfl | exact Or.inr rfl) (pe_ix (ixL K) (pe_lst (pa_cons pe_str (pa_cons pe_str (pa_cons pe_str pa_nil)))) (pv 6) (fun _ _=>rfl)))
   (pss_cons (ps_set (i:=5) sc.nd rfl (by first | exact Or.inl rfl | exact Or.inr rfl) (pe_ix (ixL K) (pe_lst (pa_cons (pv 5) (pa_cons (pe_ix (ixT K) (pe_ix (ixL K) (pv 2) (pe_fn T.law_pick G_law_pick (hr.mono (by decide)) (pa_cons (pv 0) (pa_cons (pe_bf (cl_len K) T.b_len bt_len (pa_cons (pv 2) pa_nil)) pa_nil))) (fun _ _=>rfl)) pe_int (fun _ _=>rfl)) (pa_cons pe_int (pa_cons pe_non pa_nil))))) (pe_fn T.law_pick G_law_pick (hr.mono (by decide)) (pa_cons (pv 0) (pa_cons pe_int pa_nil))) (fun _ _=>rfl)))
   (pss_one (ps_ret (pe_tup (pa_cons (pv 3) (pa_cons (pv 4) (pa_cons (pv 5) pa_nil)))))))) pss_nil)
   (@pss_cons _ _ _ _ _ (@ps_set _ _ 7 _ _ _ _ sc.nd rfl (by first | exact Or.inl rfl | exact Or.inr rfl) (@pe_lst _ _ _ _ (@pa_cons _ _ _ _ _ pe_non (@pa_cons _ _ _ _ _ pe_str (@pa_cons _ _ _ _ _ pe_bl (@pa_cons _ _ _ _ _ pe_bl (@pa_cons _ _ _ _ _ (pe_lst (pa_cons pe_int pa_nil)) (@pa_cons _ _ _ _ _ (pe_tup pa_nil) (@pa_cons _ _ _ _ _ (pe_ix (ixT K) (pe_ix (ixL K) (pv 2) (pe_fn T.law_pick G_law_pick (hr.mono (by decide)) (pa_cons (pv 0) (pa_cons (pe_bf (cl_len K) T.b_len bt_len (pa_cons (pv 2) pa_nil)) pa_nil))) (fun _ _=>rfl)) pe_int (fun _ _=>rfl)) (@pa_cons _ _ _ _ _ pe_int (@pa_cons _ _ _ _ _ pe_int (@pa_cons _ _ _ _ _ pe_int pa_nil (by rfl)) (by rfl)) (by rfl)) (by rfl)) (by rfl)) (by rfl)) (by rfl)) (by rfl)) (by rfl)) (by rfl))) (by rfl) (by first | exact .inl rfl | exact .inr rfl | assumption))
   (pss_cons (ps_if (pt_val (pe_bf (cl_isin K) T.b_isinstance bt_isinstance (pa_cons (pv 5) (pa_cons (pe_ty T.b_int bt_int) pa_nil)))) (pss_one (ps_set (i:=7) sc.nd rfl (by first | exact Or.inl rfl | exact Or.inr rfl) (pe_op op_cat (pv 7) (pe_lst (pa_cons (pe_op op_sub (pv 5) pe_int) (pa_cons (pe_op op_add (pv 5) pe_int) pa_nil)))))) pss_nil)
   (pss_one (ps_ret (pe_tup (pa_cons (pv 3) (pa_cons (pv 4) (pa_cons (pe_ix (ixL K) (pv 7) (pe_fn T.law_pick G_law_pick (hr.mono (by decide)) (pa_cons (pv 0) (pa_cons (pe_bf (cl_len K) T.b_len bt_len (pa_cons (pv 7) pa_nil)) pa_nil))) (fun _ _=>rfl)) pa_nil))))))))))),?_⟩
  have lrs:=rows_len eD
  have lpos:0 < rs.length:=by rw [lrs]; exact List.length_pos_iff.mpr D0
  have lm:(rs.map fun q=>V.ref q.1).length = rs.length:=List.length_map ..
  have row:∀ {H1:Hp} {k:Nat},RL H1 l rs->(k:Int) < (rs.length:Int)->∃ (a:Addr) (m:Str × Mk),atI (rs.map fun q=>V.ref q.1) (k:Int) = some (.ref a)/\H1 a = some (.tup [.str m.1,.str (wdM m.2),nmM m.2]):=fun {H1 k} R hk=>by
   have hk:k < rs.length:=by omega
   have h1:rs[k]? = some rs[k]:=List.getElem?_eq_getElem hk
   have h2:(rs.map fun q=>q.2)[k]? = (D.map rowM)[k]?:=by rw [eD]
   rw [List.getElem?_map,List.getElem?_map,h1] at h2
   obtain ⟨m,_,hm⟩:=Option.map_eq_some_iff.mp h2.symm
   refine ⟨rs[k].1,m,atI_nat (by rw [List.getElem?_map,h1]; rfl),?_⟩
   have z:=R.2 rs[k] (List.getElem_mem hk)
   have hm:rowM m = rs[k].2:=hm
   rw [<-hm] at z
   exact z
  refine seq_gen fun N1 hN1=>?_
  refine ex1 rfl ⟨r,ex1 rfl ⟨SqT.of e,rfl,_,ex1 rfl ⟨_,ex1 rfl ⟨_,ex1 rfl ⟨rfl,?_⟩⟩⟩⟩⟩
  refine hN1 _ _ (seq_gen fun N2 hN2=>?_)
  refine ex1 rfl (ex3_6 (a:=p) rfl hL (by omega) (by decide) (by decide) fun d1 H1 hd1 k1 L1=>?_)
  have R1:=hR.sm hL k1
  refine hN2 _ _ (seq_gen fun N3 hN3=>?_)
  refine ex1 rfl (ex2_3 rfl rfl (ex1 rfl (ite2 (fun z=>?_) (fun z=>?_))))
  ·have z:(d1:Int) < 3:=of_decide_eq_true z
   refine seq_gen fun M1 hM1=>?_
   refine ⟨by show 3<=sizeLine; decide,fun t ht=>?_⟩
   obtain ⟨v1,⟨w1,ok1,rfl⟩,a1⟩:=at_lit (xs:=[V.str wIn,V.str wOut,V.str wOpen]) (G:=fun v=>∃ w,PySem.PyData.strOk w = true/\v = .str w) (fun v hv=>by
    rcases List.mem_cons.mp hv with rfl | hv
    ·exact ⟨_,word_ok.1,rfl⟩
    rcases List.mem_cons.mp hv with rfl | hv
    ·exact ⟨_,word_ok.2.1,rfl⟩
    cases List.mem_singleton.mp hv
    exact ⟨_,word_ok.2.2,rfl⟩) (d:=d1) (by show d1 < 3; omega)
   refine ex1 rfl ⟨t,_,ex2_3 rfl rfl ⟨SqL.of upd_same,a1,?_⟩⟩
   have u2:=Same.new (o:=.lst [V.str wIn,V.str wOut,V.str wOpen]) ht
   have k2:=k1.trans u2.sm
   have L2:=L1.same u2
   have R2:=R1.same u2
   show M1 _ (upd H1 t (.lst [V.str wIn,V.str wOut,V.str wOpen]))
   generalize upd H1 t (.lst [V.str wIn,V.str wOut,V.str wOpen]) = H2 at k2 L2 R2 ⊢
   refine hM1 _ _ (seq_gen fun M2 hM2=>?_)
   refine ex1 rfl (ex1 rfl (ex1 rfl (ex1 rfl (ex2_3 (a:=l) rfl (.inl (SqL.of R2.1)) (ex3_6 (a:=p) rfl L2 (by omega) (by rw [lm]; omega) (by rw [lm]; omega) fun d3 H3 hd3 k3 L3=>?_)))))
   rw [lm] at hd3
   have R3:=R2.sm L2 k3
   obtain ⟨a,m,ea,em⟩:=row R3 hd3
   refine ⟨l,_,ex2_3 rfl rfl ⟨SqL.of R3.1,ea,a,_,ex2_3 rfl rfl ⟨SqT.of em,rfl,?_⟩⟩⟩
   refine ⟨by show 4<=sizeLine; decide,fun t2 ht2=>?_⟩
   have u4:=Same.new (o:=.lst [nmM d.2,nmM m.2,V.int 1,V.non]) ht2
   have e4:(upd H3 t2 (.lst [nmM d.2,nmM m.2,V.int 1,V.non])) t2 = some (.lst [nmM d.2,nmM m.2,V.int 1,V.non]):=upd_same
   have n4:t2 ≠ p:=(ne_of_none L3.get ht2).symm
   have k4:=(k2.trans k3).trans u4.sm
   have L4:=L3.same u4
   generalize upd H3 t2 (.lst [nmM d.2,nmM m.2,V.int 1,V.non]) = H4 at k4 L4 e4 ⊢
   refine ex1 rfl (ex3_6 (a:=p) rfl L4 (by omega) (by decide) (by decide) fun d5 H5 hd5 k5 L5=>?_)
   obtain ⟨v5,s5,a5⟩:=at_lit (xs:=[nmM d.2,nmM m.2,V.int 1,V.non]) (G:=fun v=>∀ H,Som H v) (fun v hv H=>by
    rcases List.mem_cons.mp hv with rfl | hv
    ·exact som_nm _
    rcases List.mem_cons.mp hv with rfl | hv
    ·exact som_nm _
    rcases List.mem_cons.mp hv with rfl | hv
    ·exact som_int _
    cases List.mem_singleton.mp hv
    exact som_non) (d:=d5) (by show d5 < 4; omega)
   refine ⟨t2,_,ex2_3 rfl rfl ⟨SqL.of (Sm1 k5 e4 n4),a5,?_⟩⟩
   refine hM2 _ _ ?_
   refine ex1 rfl (ex1 rfl (ex1 rfl ⟨by show 3<=sizeLine; decide,fun t6 ht6=>?_⟩))
   have n6:t6 ≠ p:=(ne_of_none L5.get ht6).symm
   obtain ⟨e,ge,te⟩:=som_tup3 (H:=er (upd H5 t6 (.tup [.str d.1,.str w1,v5])) p) (t:=t6) ((er_ne n6).trans upd_same) (som_str okd) (som_str ok1) (s5 _)
   have u6:=Same.new (o:=.tup [.str d.1,.str w1,v5]) ht6
   exact q _ e _ _ ((k4.trans k5).trans u6.sm) te ge (L5.same u6) (by omega)
  ·refine hN3 _ _ (seq_gen fun M1 hM1=>?_)
   refine ⟨by show 1<=sizeLine; decide,fun b1 hb1=>⟨Nat.zero_le _,fun b2 hb2=>?_⟩⟩
   have u1:=Same.new (o:=.lst [V.int 1]) hb1
   have u2:=Same.new (o:=.tup []) hb2
   have f1:=u2 _ _ (upd_same (H:=H1) (a:=b1) (o:=.lst [V.int 1]))
   have f2:(upd (upd H1 b1 (.lst [V.int 1])) b2 (.tup [])) b2 = some (.tup []):=upd_same
   have n1:b1 ≠ p:=(ne_of_none L1.get hb1).symm
   have n2:b2 ≠ p:=(ne_of_none (u1 _ _ L1.get) hb2).symm
   have k2:=(k1.trans u1.sm).trans u2.sm
   have L2:=(L1.same u1).same u2
   have R2:=(R1.same u1).same u2
   generalize upd (upd H1 b1 (.lst [V.int 1])) b2 (.tup []) = H2 at f1 f2 k2 L2 R2 ⊢
   clear u1 u2 hb1 hb2
   refine ex1 rfl (ex1 rfl (ex1 rfl (ex2_3 (a:=l) rfl (.inl (SqL.of R2.1)) (ex3_6 (a:=p) rfl L2 (by omega) (by rw [lm]; omega) (by rw [lm]; omega) fun d3 H3 hd3 k3 L3=>?_))))
   rw [lm] at hd3
   have R3:=R2.sm L2 k3
   have f1:=Sm1 k3 f1 n1
   have f2:=Sm1 k3 f2 n2
   obtain ⟨a,m,ea,em⟩:=row R3 hd3
   refine ⟨l,_,ex2_3 rfl rfl ⟨SqL.of R3.1,ea,a,_,ex2_3 rfl rfl ⟨SqT.of em,rfl,?_⟩⟩⟩
   refine ⟨by show 10<=sizeLine; decide,fun t2 ht2=>?_⟩
   obtain ⟨xs,exs⟩:∃ xs:List V,xs = [V.non,V.str (Str.ofString "1"),V.bl true,V.bl false,V.ref b1,V.ref b2,nmM m.2,V.int 0,V.int 1,V.int 2]:=⟨_,rfl⟩
   have hx:∀ HX:Hp,HX b1 = some (.lst [V.int 1])->HX b2 = some (.tup [])->∀ v ∈ xs,Som HX v:=fun HX h1 h2 v hv=>by
    rw [exs] at hv
    rcases List.mem_cons.mp hv with rfl | hv
    ·exact som_non
    rcases List.mem_cons.mp hv with rfl | hv
    ·exact som_str (by decide +kernel)
    rcases List.mem_cons.mp hv with rfl | hv
    ·exact som_bl _
    rcases List.mem_cons.mp hv with rfl | hv
    ·exact som_bl _
    rcases List.mem_cons.mp hv with rfl | hv
    ·refine ⟨.list [.int 1],⟨by decide +kernel,by decide +kernel⟩,?_⟩
     simp only [Th,Ths]
     exact ⟨b1,_,rfl,h1,_,_,rfl,rfl,rfl⟩
    rcases List.mem_cons.mp hv with rfl | hv
    ·refine ⟨.tuple [],⟨by decide +kernel,by decide +kernel⟩,?_⟩
     simp only [Th,Ths]
     exact ⟨b2,_,rfl,h2,rfl⟩
    rcases List.mem_cons.mp hv with rfl | hv
    ·exact som_nm _
    rcases List.mem_cons.mp hv with rfl | hv
    ·exact som_int _
    rcases List.mem_cons.mp hv with rfl | hv
    ·exact som_int _
    cases List.mem_singleton.mp hv
    exact som_int _
   have lx:xs.length = 10:=by rw [exs]; rfl
   show M1 _ (upd H3 t2 (.lst [V.non,V.str (Str.ofString "1"),V.bl true,V.bl false,V.ref b1,V.ref b2,nmM m.2,V.int 0,V.int 1,V.int 2]))
   rw [<-exs]
   have u4:=Same.new (o:=.lst xs) ht2
   have e4:(upd H3 t2 (.lst xs)) t2 = some (.lst xs):=upd_same
   have n4:t2 ≠ p:=(ne_of_none L3.get ht2).symm
   have k4:=(k2.trans k3).trans u4.sm
   have L4:=L3.same u4
   have f1:=u4 _ _ f1
   have f2:=u4 _ _ f2
   generalize upd H3 t2 (.lst xs) = H4 at k4 L4 e4 f1 f2 ⊢
   clear exs u4 R3 em ea R2 L2 L3 k2 k3 ht2
   refine hM1 _ _ (seq_gen fun M2 hM2=>?_)
   have fin:∀ (nl:Addr) (ys:List V) (HX:Hp),Sm [p] H HX->LeftAt HX p (c + 1 + 1)->HX nl = some (.lst ys)->nl ≠ p->ys.length<=12->0 < ys.length->(∀ v ∈ ys,Som (er HX p) v)->M2 [some (.ref p),some (.ref r),some (.ref l),some (.str d.1),some (.str (wdM d.2)),some (nmM d.2),some (.int (d1:Int)),some (.ref nl)] HX:=fun nl ys HX kX LX eX nX l12 l0 sX=>by
    refine hM2 _ _ ?_
    refine ex1 rfl (ex1 rfl (ex1 rfl (ex1 rfl (ex1 rfl (ex2_3 (a:=nl) rfl (.inl (SqL.of eX)) (ex3_6 (a:=p) rfl LX (by omega) (by omega) (by omega) fun d5 H5 hd5 k5 L5=>?_))))))
    obtain ⟨v5,s5,a5⟩:=at_lit (G:=fun v=>Som (er HX p) v) sX (d:=d5) (by omega)
    refine ⟨nl,_,ex2_3 rfl rfl ⟨SqL.of (Sm1 k5 eX nX),a5,by show 3<=sizeLine; decide,fun t6 ht6=>?_⟩⟩
    have n6:t6 ≠ p:=(ne_of_none L5.get ht6).symm
    have u6:=Same.new (o:=.tup [.str d.1,.str (wdM d.2),v5]) ht6
    obtain ⟨e,ge,te⟩:=som_tup3 (H:=er (upd H5 t6 (.tup [.str d.1,.str (wdM d.2),v5])) p) (t:=t6) ((er_ne n6).trans upd_same) (som_str okd) (som_str (wd_ok _)) ((s5.same (er_sm k5)).same (er_mono u6))
    exact q _ e _ _ ((kX.trans k5).trans u6.sm) te ge (L5.same u6) (by omega)
   match hm:d.2 with
   | none =>
    rw [hm] at fin
    refine ex1 rfl ⟨V.non, "int",_,false,rfl,.non,rfl,ex1 rfl (iteF ?_)⟩
    exact fin t2 xs H4 k4 L4 e4 n4 (by omega) (by omega) (hx _ ((er_ne n1).trans f1) ((er_ne n2).trans f2))
   | some (b,k) =>
    rw [hm] at fin
    refine ex1 rfl ⟨V.int k, "int",_,true,rfl,.int k,rfl,ex1 rfl (iteT ?_)⟩
    refine ex1 rfl (ex1 rfl (ex2_3 rfl rfl (ex1 rfl (ex2_3 rfl rfl ⟨by show 2<=sizeLine; decide,fun t5 ht5=>?_⟩))))
    have u5:=Same.new (o:=.lst [V.int (k - 1),V.int (k + 1)]) ht5
    refine ⟨t2,t5,_,_,rfl,rfl,u5 _ _ e4,upd_same,by show xs.length + 2<=sizeLine; rw [lx]; decide,fun t6 ht6=>?_⟩
    have u6:=Same.new (o:=.lst (xs ++ [V.int (k - 1),V.int (k + 1)])) ht6
    have n6:t6 ≠ p:=(ne_of_none (u5 _ _ L4.get) ht6).symm
    refine fin t6 (xs ++ [V.int (k - 1),V.int (k + 1)]) _ ((k4.trans u5.sm).trans u6.sm) ((L4.same u5).same u6) upd_same n6 (by rw [List.length_append,lx]; show 10 + 2<=12; decide) (by rw [List.length_append,lx]; show 0 < 10 + 2; decide) fun v hv=>?_
    rcases List.mem_append.mp hv with hv | hv
    ·exact hx _ ((er_ne n1).trans (u6 _ _ (u5 _ _ f1))) ((er_ne n2).trans (u6 _ _ (u5 _ _ f2))) v hv
    ·rcases List.mem_cons.mp hv with rfl | hv
     ·exact som_int _
     ·cases List.mem_singleton.mp hv
      exact som_int _
end
end Sw
namespace Sw
open PySem L2
theorem ths_app {H:Hp}:∀ {ds es:List PyData} {xs ys:List V},Ths H ds xs->Ths H es ys->Ths H (ds ++ es) (xs ++ ys)
 | [],es,xs,ys,h,k=>by
  have:xs = []:=by simpa [Ths] using h
  subst this
  exact k
 | d :: ds,es,xs,ys,h,k=>by
  simp only [Ths] at h
  obtain ⟨v,r,rfl,h1,h2⟩:=h
  rw [List.cons_append,List.cons_append]
  simp only [Ths]
  exact ⟨_,_,rfl,h1,ths_app h2 k⟩
theorem ths_one {H:Hp} {d:PyData} {v:V} (h:Th H d v):Ths H [d] [v]:=by
 simp only [Ths]
 exact ⟨_,_,rfl,h,rfl⟩
theorem th_rd {H:Hp} {d:Str × Mk} {a:Addr} (h:H a = some (.tup [.str d.1,.str (wdM d.2),nmM d.2])):Th H (rdE d) (.ref a):=by
 unfold rdE
 simp only [Th,Ths]
 exact ⟨a,_,rfl,h,_,_,rfl,rfl,_,_,rfl,rfl,_,_,rfl,th_nm _,rfl⟩
theorem ths_rows {H:Hp}:∀ {rs:List (Addr × Row)} {D:List (Str × Mk)},(rs.map fun q=>q.2) = D.map rowM->(∀ q ∈ rs,H q.1 = some (.tup [.str q.2.1,.str q.2.2.1,q.2.2.2]))->Ths H (D.map rdE) (rs.map fun q=>V.ref q.1)
 | [],[],_,_=>by simp [Ths]
 | [],d :: D,e,_=>by cases e
 | q :: r,[],e,_=>by cases e
 | q :: r,d :: D,e,h=>by
  rw [List.map_cons,List.map_cons] at e
  obtain ⟨e1,e2⟩:=List.cons.inj e
  rw [List.map_cons,List.map_cons]
  simp only [Ths]
  have hq:=h q (List.mem_cons_self ..)
  have e1:q.2 = rowM d:=e1
  rw [e1] at hq
  exact ⟨_,_,rfl,th_rd hq,ths_rows e2 fun z hz=>h z (List.mem_cons_of_mem _ hz)⟩
theorem th_list {H:Hp} {ds:List PyData} {xs:List V} {l:Addr} (h:H l = some (.lst xs)) (t:Ths H ds xs):Th H (.list ds) (.ref l):=by
 simp only [Th]
 exact ⟨l,xs,rfl,h,t⟩
theorem go_rd {d:Str × Mk} (h:PySem.PyData.strOk d.1 = true):Go (rdE d):=go_tup3 (g0_str h) (g0_str (wd_ok _)) (g0_nm _)
theorem cut_take {xs:List V} {k:Nat}:cutV xs none (some (k:Int)) = xs.take k:=by
 unfold cutV
 rw [HT.sIx_nat,HT.sIx_none]
 show (xs.drop 0).take (min k xs.length - 0) = _
 rw [List.drop_zero,Nat.sub_zero]
 by_cases c:k<=xs.length
 ·rw [Nat.min_eq_left c]
 ·rw [Nat.min_eq_right (by omega),List.take_of_length_le (Nat.le_refl _),List.take_of_length_le (by omega)]
theorem cut_drop {xs:List V} {k:Nat}:cutV xs (some ((k:Int) + 1)) none = xs.drop (k + 1):=by
 unfold cutV
 rw [show (some ((k:Int) + 1):Option Int) = some ((k + 1:Nat):Int) from rfl,HT.sIx_nat,HT.sIx_none]
 by_cases c:k + 1<=xs.length
 ·rw [Nat.min_eq_left c]
  exact List.take_of_length_le (by rw [List.length_drop]; exact Nat.le_refl _)
 ·rw [Nat.min_eq_right (by omega),Nat.sub_self,List.take_zero]
  exact (List.drop_of_length_le (by omega)).symm
theorem sl_take {K:PySem.W.Frag} {H:Hp} {l:Addr} {xs:List V} {σ:St} {Q:VK} {i j k:Nat} (hv:σ[i]? = some (some (.ref l))) (hj:σ[j]? = some (some (.int (k:Int)))) (h:H l = some (.lst xs)) (q:∀ b,H b = none->Q (.ref b) (upd H b (.lst (xs.take k)))):tSl (rSlL K) (tVar i) tNoPart (tPart (tVar j)) σ H Q :=
 ⟨_,hv,_,hj,_,rfl,l,xs,rfl,SqL.of h,fun b hb=>by rw [cut_take]; exact q b hb⟩
theorem sl_drop {K:PySem.W.Frag} {H:Hp} {l:Addr} {xs:List V} {σ:St} {Q:VK} {i j k:Nat} (hv:σ[i]? = some (some (.ref l))) (hj:σ[j]? = some (some (.int (k:Int)))) (h:H l = some (.lst xs)) (q:∀ b,H b = none->Q (.ref b) (upd H b (.lst (xs.drop (k + 1))))):tSl (rSlL K) (tVar i) (tPart (tOp (rI0 fun i j=>V.int (i + j)) (tVar j) (tC (V.int 1)))) tNoPart σ H Q :=
 ⟨_,hv,_,hj,_,_,rfl,rfl,_,rfl,l,xs,rfl,SqL.of h,fun b hb=>by rw [cut_drop]; exact q b hb⟩
noncomputable def Sog (H:Hp) (v:V):Prop:=∃ e,Go e/\Th H e v
theorem Som.sog {H:Hp} {v:V} (h:Som H v):Sog H v:=let ⟨e,g,t⟩:=h; ⟨e,g.go,t⟩
theorem soms {H:Hp}:∀ {xs:List V},(∀ v ∈ xs,Som H v)->∃ ds,Ths H ds xs/\PyData.canLayAll0 ds = true/\PyData.depthAll ds<=4
 | [],_=>⟨[],by simp [Ths],rfl,by simp [PyData.depthAll]⟩
 | x :: r,h=>by
  obtain ⟨e,g,t⟩:=h x (List.mem_cons_self ..)
  obtain ⟨ds,td,ld,dd⟩:=soms fun v hv=>h v (List.mem_cons_of_mem _ hv)
  refine ⟨e :: ds,?_,by rw [PyData.canLayAll0,g.1,ld]; rfl,?_⟩
  ·simp only [Ths]
   exact ⟨_,_,rfl,t,td⟩
  ·have:=g.2
   rw [PyData.depthAll]
   omega
theorem sog_tup {H:Hp} {t:Addr} {xs:List V} (h:H t = some (.tup xs)) (hx:∀ v ∈ xs,Som H v):Sog H (.ref t):=by
 obtain ⟨ds,td,ld,dd⟩:=soms hx
 refine ⟨.tuple ds,⟨by rw [PyData.canLay0]; exact ld,by rw [PyData.depth]; omega⟩,?_⟩
 simp only [Th]
 exact ⟨t,xs,rfl,h,td⟩
theorem sog_lst {H:Hp} {t:Addr} {xs:List V} (h:H t = some (.lst xs)) (hx:∀ v ∈ xs,Som H v):Sog H (.ref t):=by
 obtain ⟨ds,td,ld,dd⟩:=soms hx
 exact ⟨.list ds,⟨by rw [PyData.canLay0]; exact ld,by rw [PyData.depth]; omega⟩,th_list h td⟩
theorem mem3 {P:V->Prop} {x y z:V} (hx:P x) (hy:P y) (hz:P z):∀ v ∈ [x,y,z],P v:=fun v hv=>by
 rcases List.mem_cons.mp hv with rfl | hv
 ·exact hx
 rcases List.mem_cons.mp hv with rfl | hv
 ·exact hy
 cases List.mem_singleton.mp hv
 exact hz
theorem mem_c {P:V->Prop} {x:V} {r:List V} (hx:P x) (hr:∀ v ∈ r,P v):∀ v ∈ x :: r,P v:=fun v hv=>by
 rcases List.mem_cons.mp hv with rfl | hv
 ·exact hx
 ·exact hr v hv
theorem mem_0 {P:V->Prop}:∀ v ∈ ([]:List V),P v:=fun v hv=>absurd hv List.not_mem_nil
section
variable {P:Program} {w:World} {K:PySem.W.Frag} {mg:Str->Option Value} {base:Heap}
theorem sc_law_bent:FnScope ["_law_left_here", "_law_rows", "_law_at", "_law_way", "_law_row"] ["_law_left_here", "_law_rows"] (defScope s_law_bent):=⟨rfl,rfl,rfl,by decide +kernel,rfl,by decide +kernel,by decide +kernel⟩
noncomputable def sp_bent:Sp:=fun vs H Q _=>∃ (p l:Addr) (c:Int) (rs:List (Addr × Row)) (D:List (Str × Mk)),vs = [.ref p,.ref l]/\LeftAt H p c/\c<=800000/\RL H l rs/\(rs.map fun q=>q.2) = D.map rowM/\(∀ d ∈ D,PySem.PyData.strOk d.1 = true)/\D ≠ []/\D.length<=200 /\
 ∀ b ds c' H',Sm [p] H H'->Th (er H' p) (.list ds) (.ref b)->ds.length<=D.length + 1->(∀ e ∈ ds,Go e)->LeftAt H' p c'->c'<=c + 10->Q (.ref b) H'
set_option maxHeartbeats 4000000 in
theorem ok_law_bent (T:Tx K mg):FnOk P w K mg base CX0 4 T.law_bent.f T.law_bent.fd ["_law_left_here", "_law_rows"] sp_bent:=by
 have G_law_pick:FnOk P w K mg base CX0 2 T.law_pick.f T.law_pick.fd ["_law_left_here", "_law_many"] sp_pick:=ok_law_pick T
 have G_law_other_part:FnOk P w K mg base CX0 3 T.law_other_part.f T.law_other_part.fd ["_law_left_here", "_law_row", "_law_rows"] sp_other:=ok_law_other_part T
 have sc:=sc_law_bent
 refine T.law_bent.F.ok sc_law_bent (fun vs H Q E h=>?_) (fun cdv A outer s H vs Q E hr h=>?_)
 ·obtain ⟨p,l,c,rs,D,rfl,_⟩:=h
  rfl
 ·obtain ⟨p,l,c,rs,D,rfl,hL,c1,hR,eD,okD,D0,lD,q⟩:=h
  refine ⟨_,(pss_cons (ps_set (i:=2) sc.nd rfl (by first | exact Or.inl rfl | exact Or.inr rfl) (pe_fn T.law_pick G_law_pick (hr.mono (by decide)) (pa_cons (pv 0) (pa_cons (pe_bf (cl_len K) T.b_len bt_len (pa_cons (pv 1) pa_nil)) pa_nil))))
   (pss_cons (ps_set (i:=3) sc.nd rfl (by first | exact Or.inl rfl | exact Or.inr rfl) (pe_fn T.law_pick G_law_pick (hr.mono (by decide)) (pa_cons (pv 0) (pa_cons pe_int pa_nil))))
   (pss_cons (ps_if (pt_cmpR op_eq (pv 3) pe_int (nomark _)) (pss_one (ps_ret (pe_op op_cat (pe_slice (slL K) (pv 1) po_none (po_some (pv 2))) (pe_slice (slL K) (pv 1) (po_some (pe_op op_add (pv 2) pe_int)) po_none)))) pss_nil)
   (pss_cons (ps_if (pt_cmpR op_eq (pv 3) pe_int (nomark _)) (pss_one (ps_ret (pe_op op_cat (pv 1) (pe_lst (pa_cons (pe_ix (ixL K) (pv 1) (pv 2) (fun _ _=>rfl)) pa_nil))))) pss_nil)
   (pss_cons (ps_set (i:=4) sc.nd rfl (by first | exact Or.inl rfl | exact Or.inr rfl) (pe_ix (ixL K) (pv 1) (pv 2) (fun _ _=>rfl)))
   (@pss_cons _ _ _ _ _ (@ps_if _ _ _ _ _ _ _ _ (pt_cmpR op_eq (pv 3) pe_int (nomark _)) (@pss_one _ _ _ (@ps_set _ _ 4 _ _ _ _ sc.nd rfl (by first | exact Or.inl rfl | exact Or.inr rfl) (@pe_op _ _ _ _ _ _ _ _ (op_catU K) (@pe_tup _ _ _ _ _ (@pa_cons _ _ _ _ _ (@pe_ix _ _ _ _ _ _ _ (ixL K) (@pe_lst _ _ _ _ (@pa_cons _ _ _ _ _ pe_non (@pa_cons _ _ _ _ _ pe_str (@pa_cons _ _ _ _ _ pe_str (@pa_cons _ _ _ _ _ pe_int (@pa_cons _ _ _ _ _ (pe_lst (pa_cons pe_str pa_nil)) (@pa_cons _ _ _ _ _ (pe_ix (ixT K) (pe_ix (ixL K) (pv 1) pe_int (fun _ _=>rfl)) pe_int (fun _ _=>rfl)) pa_nil (by rfl)) (by rfl)) (by rfl)) (by rfl)) (by rfl)) (by rfl))) (pe_fn T.law_pick G_law_pick (hr.mono (by decide)) (pa_cons (pv 0) (pa_cons pe_int pa_nil))) (fun _ _=>rfl)) pa_nil (by rfl))) (pe_slice (slT K) (pv 4) (po_some pe_int) po_none)) (by rfl) (by first | exact .inl rfl | exact .inr rfl | assumption))) (@pss_one _ _ _ (@ps_if _ _ _ _ _ _ _ _ (pt_cmpR op_eq (pv 3) pe_int (nomark _)) (@pss_one _ _ _ (@ps_set _ _ 4 _ _ _ _ sc.nd rfl (by first | exact Or.inl rfl | exact Or.inr rfl) (@pe_ix _ _ _ _ _ _ _ (ixL K) (@pe_lst _ _ _ _ (@pa_cons _ _ _ _ _ (pe_bt (cl_list K) T.b_list bt_list (pa_cons (pv 4) pa_nil)) (@pa_cons _ _ _ _ _ (pe_op (op_catU K) (pv 4) (pe_tup (pa_cons pe_non pa_nil))) (@pa_cons _ _ _ _ _ (pe_slice (slT K) (pv 4) po_none (po_some pe_int)) (@pa_cons _ _ _ _ _ pe_non (@pa_cons _ _ _ _ _ pe_str pa_nil (by rfl)) (by rfl)) (by rfl)) (by rfl)) (by rfl))) (pe_fn T.law_pick G_law_pick (hr.mono (by decide)) (pa_cons (pv 0) (pa_cons pe_int pa_nil))) (fun _ _=>rfl)) (by rfl) (by first | exact .inl rfl | exact .inr rfl | assumption))) (@pss_one _ _ _ (@ps_if _ _ _ _ _ _ _ _ (pt_cmpR op_eq (pv 3) pe_int (nomark _)) (@pss_one _ _ _ (@ps_set _ _ 4 _ _ _ _ sc.nd rfl (by first | exact Or.inl rfl | exact Or.inr rfl) (@pe_tup _ _ _ _ _ (@pa_cons _ _ _ _ _ (pe_ix (ixT K) (pv 4) pe_int (fun _ _=>rfl)) (@pa_cons _ _ _ _ _ (@pe_ix _ _ _ _ _ _ _ (ixL K) (@pe_lst _ _ _ _ (@pa_cons _ _ _ _ _ pe_str (@pa_cons _ _ _ _ _ pe_str (@pa_cons _ _ _ _ _ pe_non (@pa_cons _ _ _ _ _ pe_int (@pa_cons _ _ _ _ _ (pe_tup (pa_cons pe_str pa_nil)) (@pa_cons _ _ _ _ _ (pe_lst (pa_cons pe_str pa_nil)) (@pa_cons _ _ _ _ _ (pe_lst pa_nil) pa_nil (by rfl)) (by rfl)) (by rfl)) (by rfl)) (by rfl)) (by rfl)) (by rfl))) (pe_fn T.law_pick G_law_pick (hr.mono (by decide)) (pa_cons (pv 0) (pa_cons pe_int pa_nil))) (fun _ _=>rfl)) (@pa_cons _ _ _ _ _ (pe_ix (ixT K) (pv 4) pe_int (fun _ _=>rfl)) pa_nil (by rfl)) (by rfl)) (by rfl))) (by rfl) (by first | exact .inl rfl | exact .inr rfl | assumption))) (pss_one (ps_set (i:=4) sc.nd rfl (by first | exact Or.inl rfl | exact Or.inr rfl) (pe_fn T.law_other_part G_law_other_part (hr.mono (by decide)) (pa_cons (pv 0) (pa_cons (pv 4) (pa_cons (pv 1) pa_nil)))))))))))
   (pss_one (ps_ret (pe_op op_cat (pe_op op_cat (pe_slice (slL K) (pv 1) po_none (po_some (pv 2))) (pe_lst (pa_cons (pv 4) pa_nil))) (pe_slice (slL K) (pv 1) (po_some (pe_op op_add (pv 2) pe_int)) po_none)))))))))),?_⟩
  have lrs:=rows_len eD
  have lpos:0 < rs.length:=by rw [lrs]; exact List.length_pos_iff.mpr D0
  have lm:(rs.map fun q=>V.ref q.1).length = rs.length:=List.length_map ..
  have row:∀ {H1:Hp} {k:Nat},RL H1 l rs->k < rs.length->∃ (a:Addr) (m:Str × Mk),(rs.map fun q=>V.ref q.1)[k]? = some (.ref a)/\D[k]? = some m/\H1 a = some (.tup [.str m.1,.str (wdM m.2),nmM m.2]):=fun {H1 k} R hk=>by
   have h1:rs[k]? = some rs[k]:=List.getElem?_eq_getElem hk
   have h2:(rs.map fun q=>q.2)[k]? = (D.map rowM)[k]?:=by rw [eD]
   rw [List.getElem?_map,List.getElem?_map,h1] at h2
   obtain ⟨m,hd,hm⟩:=Option.map_eq_some_iff.mp h2.symm
   refine ⟨rs[k].1,m,by rw [List.getElem?_map,h1]; rfl,hd,?_⟩
   have z:=R.2 rs[k] (List.getElem_mem hk)
   have hm:rowM m = rs[k].2:=hm
   rw [<-hm] at z
   exact z
  have goD:∀ e ∈ D.map rdE,Go e:=fun e he=>by
   obtain ⟨d,hd,rfl⟩:=List.mem_map.mp he
   exact go_rd (okD d hd)
  refine seq_gen fun N1 hN1=>?_
  refine ex1 rfl (ex1 rfl (ex2_3 (a:=l) rfl (.inl (SqL.of hR.1)) (ex3_6 (a:=p) rfl hL (by omega) (by rw [lm]; omega) (by rw [lm]; omega) fun at' H1 hat k1 L1=>?_)))
  rw [lm] at hat
  have hat:at' < rs.length:=by omega
  have R1:=hR.sm hL k1
  refine hN1 _ _ (seq_gen fun N2 hN2=>?_)
  refine ex1 rfl (ex3_6 (a:=p) rfl L1 (by omega) (by decide) (by decide) fun way H2 hway k2 L2=>?_)
  have R2:=R1.sm L1 k2
  have k12:=k1.trans k2
  clear k1 k2 R1 L1
  refine hN2 _ _ (seq_gen fun N3 hN3=>?_)
  have eR:∀ {HX:Hp} {cX:Int},RL HX l rs->LeftAt HX p cX->∀ q ∈ rs,(er HX p) q.1 = some (.tup [.str q.2.1,.str q.2.2.1,q.2.2.2]):=fun {HX cX} R L q hq=>(er_ne (left_neT L (R.2 q hq))).trans (R.2 q hq)
  have tT:∀ {HX:Hp} {cX:Int},RL HX l rs->LeftAt HX p cX->Ths (er HX p) ((D.take at').map rdE) ((rs.map fun q=>V.ref q.1).take at'):=fun {HX cX} R L=>by
   rw [<-List.map_take]
   exact ths_rows (by rw [List.map_take,List.map_take,eD]) fun q hq=>eR R L q (List.mem_of_mem_take hq)
  have tD:∀ {HX:Hp} {cX:Int},RL HX l rs->LeftAt HX p cX->Ths (er HX p) ((D.drop (at' + 1)).map rdE) ((rs.map fun q=>V.ref q.1).drop (at' + 1)):=fun {HX cX} R L=>by
   rw [<-List.map_drop]
   exact ths_rows (by rw [List.map_drop,List.map_drop,eD]) fun q hq=>eR R L q (List.mem_of_mem_drop hq)
  have gT:∀ e ∈ (D.take at').map rdE,Go e:=fun e he=>by
   obtain ⟨d,hd,rfl⟩:=List.mem_map.mp he
   exact go_rd (okD d (List.mem_of_mem_take hd))
  have gD:∀ e ∈ (D.drop (at' + 1)).map rdE,Go e:=fun e he=>by
   obtain ⟨d,hd,rfl⟩:=List.mem_map.mp he
   exact go_rd (okD d (List.mem_of_mem_drop hd))
  have lT:((D.take at').map rdE).length + ((D.drop (at' + 1)).map rdE).length<=D.length:=by
   rw [List.length_map,List.length_map,List.length_take,List.length_drop]; omega
  have lT':((rs.map fun q=>V.ref q.1).take at').length + ((rs.map fun q=>V.ref q.1).drop (at' + 1)).length<=200:=by
   rw [List.length_take,List.length_drop,lm]; omega
  generalize (D.take at').map rdE = dT at tT gT lT
  generalize (D.drop (at' + 1)).map rdE = dD at tD gD lT
  generalize eT:(rs.map fun q=>V.ref q.1).take at' = xT at tT lT'
  generalize eDr:(rs.map fun q=>V.ref q.1).drop (at' + 1) = xD at tD lT'
  refine ex1 rfl ⟨rfl,ex1 rfl (ite2 (fun z=>?_) (fun z=>?_))⟩
  ·refine sl_take rfl rfl R2.1 fun b1 hb1=>?_
   rw [eT]
   have u1:=Same.new (o:=.lst xT) hb1
   refine sl_drop rfl rfl (u1 _ _ R2.1) fun b2 hb2=>?_
   rw [eDr]
   have u2:=Same.new (o:=.lst xD) hb2
   refine ⟨b1,b2,xT,xD,rfl,rfl,u2 _ _ upd_same,upd_same,by rw [sizeLine_eq]; omega,fun b3 hb3=>?_⟩
   have u3:=Same.new (o:=.lst (xT ++ xD)) hb3
   have u:=(u1.trans u2).trans u3
   have L3:=L2.same u
   have R3:=R2.same u
   have n3:b3 ≠ p:=(ne_of_none (u2 _ _ (u1 _ _ L2.get)) hb3).symm
   refine q b3 (dT ++ dD) _ _ (k12.trans u.sm) (th_list ((er_ne n3).trans upd_same) (ths_app (tT R3 L3) (tD R3 L3))) (by rw [List.length_append]; omega) (fun e he=>(List.mem_append.mp he).elim (gT e) (gD e)) L3 (by omega)
  refine hN3 _ _ (seq_gen fun N4 hN4=>?_)
  refine ex1 rfl ⟨rfl,ex1 rfl (ite2 (fun z=>?_) (fun z=>?_))⟩
  ·obtain ⟨a,m,ea,em,ha⟩:=row R2 hat
   refine ex1 rfl (ex1 rfl (ex1 rfl ⟨l,_,ex2_3 rfl rfl ⟨SqL.of R2.1,atI_nat ea,by show 1<=sizeLine; decide,fun b1 hb1=>?_⟩⟩))
   have u1:=Same.new (o:=.lst [.ref a]) hb1
   refine ⟨l,b1,_,_,rfl,rfl,u1 _ _ R2.1,upd_same,by rw [lm,sizeLine_eq]; show rs.length + 1<=_; omega,fun b3 hb3=>?_⟩
   have u3:=Same.new (o:=.lst ((rs.map fun q=>V.ref q.1) ++ [.ref a])) hb3
   have u:=u1.trans u3
   have L3:=L2.same u
   have R3:=R2.same u
   have n3:b3 ≠ p:=(ne_of_none (u1 _ _ L2.get) hb3).symm
   have na:a ≠ p:=left_neT L2 ha
   have mm:=List.mem_of_getElem? em
   refine q b3 (D.map rdE ++ [rdE m]) _ _ (k12.trans u.sm) (th_list ((er_ne n3).trans upd_same) (ths_app (ths_rows eD (eR R3 L3)) (ths_one (th_rd ((er_ne na).trans (u _ _ ha)))))) (by rw [List.length_append,List.length_map]; exact Nat.le_refl _) (fun e he=>(List.mem_append.mp he).elim (goD e) fun k=>by cases List.mem_singleton.mp k; exact go_rd (okD m mm)) L3 (by omega)
  refine hN4 _ _ (seq_gen fun N5 hN5=>?_)
  obtain ⟨a,m,ea,em,ha⟩:=row R2 hat
  have okm:=okD m (List.mem_of_getElem? em)
  have na:a ≠ p:=left_neT L2 ha
  refine ex1 rfl (ex1 rfl ⟨l,_,ex2_3 rfl rfl ⟨SqL.of R2.1,atI_nat ea,?_⟩⟩)
  refine hN5 _ _ (seq_gen fun N6 hN6=>?_)
  have fin:∀ (v:V) (cX:Int) (HX:Hp),Sm [p] H HX->RL HX l rs->LeftAt HX p cX->cX<=c + 10->Sog (er HX p) v->N6 [some (.ref p),some (.ref l),some (.int (at':Int)),some (.int (way:Int)),some v] HX:=fun v cX HX kX RX LX hcX sX=>by
   refine hN6 _ _ ?_
   refine sl_take rfl rfl RX.1 fun b1 hb1=>?_
   rw [eT]
   have u1:=Same.new (o:=.lst xT) hb1
   refine ex1 rfl ⟨by show 1<=sizeLine; decide,fun b2 hb2=>?_⟩
   have u2:=Same.new (o:=.lst [v]) hb2
   refine ⟨b1,b2,xT,[v],rfl,rfl,u2 _ _ upd_same,upd_same,by rw [sizeLine_eq]; show xT.length + 1<=_; omega,fun b3 hb3=>?_⟩
   have u3:=Same.new (o:=.lst (xT ++ [v])) hb3
   have u:=(u1.trans u2).trans u3
   refine sl_drop rfl rfl (u _ _ RX.1) fun b4 hb4=>?_
   rw [eDr]
   have u4:=Same.new (o:=.lst xD) hb4
   refine ⟨b3,b4,xT ++ [v],xD,rfl,rfl,u4 _ _ upd_same,upd_same,by rw [sizeLine_eq,List.length_append]; show xT.length + 1 + xD.length<=_; omega,fun b5 hb5=>?_⟩
   have u5:=Same.new (o:=.lst ((xT ++ [v]) ++ xD)) hb5
   have u:=(u.trans u4).trans u5
   have L5:=LX.same u
   have R5:=RX.same u
   have n5:b5 ≠ p:=(ne_of_none (u4 _ _ (u3 _ _ (u2 _ _ (u1 _ _ LX.get)))) hb5).symm
   obtain ⟨e,ge,te⟩:=sX
   refine q b5 ((dT ++ [e]) ++ dD) _ _ (kX.trans u.sm) (th_list ((er_ne n5).trans upd_same) (ths_app (ths_app (tT R5 L5) (ths_one (te.same (er_mono u)))) (tD R5 L5))) (by rw [List.length_append,List.length_append]; show dT.length + 1 + dD.length<=_; omega) (fun e' he=>?_) L5 hcX
   rcases List.mem_append.mp he with he | he
   ·rcases List.mem_append.mp he with he | he
    ·exact gT e' he
    ·cases List.mem_singleton.mp he; exact ge
   ·exact gD e' he
  have sw:∀ {HX:Hp},∀ v ∈ [V.str m.1,.str (wdM m.2),nmM m.2],Som HX v:=fun {HX}=>mem3 (som_str okm) (som_str (wd_ok _)) (som_nm _)
  refine ex1 rfl ⟨rfl,ex1 rfl (ite2 (fun z=>?_) (fun z=>?_))⟩
  ·
   refine ⟨by show 1<=sizeLine; decide,fun b1 hb1=>?_⟩
   have u1:=Same.new (o:=.lst [V.str (Str.ofString "a")]) hb1
   have R3:=R2.same u1
   obtain ⟨a0,m0,ea0,em0,ha0⟩:=row R3 lpos
   refine ex1 rfl ⟨l,_,ex2_3 rfl rfl ⟨SqL.of R3.1,(show atI (rs.map fun q=>V.ref q.1) ((0:Nat):Int) = some (.ref a0) from atI_nat ea0),a0,_,ex2_3 rfl rfl ⟨SqT.of ha0,rfl,by show 6<=sizeLine; decide,fun b2 hb2=>?_⟩⟩⟩
   have u2:=Same.new (o:=.lst [V.non,V.str (Str.ofString "zzz"),V.str (Str.ofString ""),V.int 3,V.ref b1,V.str m0.1]) hb2
   have u:=u1.trans u2
   have f1:=u2 _ _ (upd_same (H:=H2) (a:=b1) (o:=.lst [V.str (Str.ofString "a")]))
   have n1:b1 ≠ p:=(ne_of_none L2.get hb1).symm
   have n2:b2 ≠ p:=(ne_of_none (u1 _ _ L2.get) hb2).symm
   have f2:(upd (upd H2 b1 (.lst [V.str (Str.ofString "a")])) b2 (.lst [V.non,V.str (Str.ofString "zzz"),V.str (Str.ofString ""),V.int 3,V.ref b1,V.str m0.1])) b2 = some (.lst [V.non,V.str (Str.ofString "zzz"),V.str (Str.ofString ""),V.int 3,V.ref b1,V.str m0.1]):=upd_same
   have R4:=R2.same u
   have L4:=L2.same u
   have ha4:=u _ _ ha
   have k4:=k12.trans u.sm
   generalize upd (upd H2 b1 (.lst [V.str (Str.ofString "a")])) b2 (.lst [V.non,V.str (Str.ofString "zzz"),V.str (Str.ofString ""),V.int 3,V.ref b1,V.str m0.1]) = H4 at f1 f2 R4 L4 ha4 k4 ⊢
   refine ex1 rfl (ex3_6 (a:=p) rfl L4 (by omega) (by decide) (by decide) fun d5 H5 hd5 k5 L5=>?_)
   have f1:=Sm1 k5 f1 n1
   have s1:Som (er H5 p) (.ref b1):=⟨.list [.str (Str.ofString "a")],⟨by decide +kernel,by decide +kernel⟩,th_list ((er_ne n1).trans f1) (ths_one (by simp [Th]))⟩
   obtain ⟨v5,s5,a5⟩:=at_lit (xs:=[V.non,V.str (Str.ofString "zzz"),V.str (Str.ofString ""),V.int 3,V.ref b1,V.str m0.1]) (G:=Som (er H5 p)) (mem_c som_non (mem_c (som_str (by decide +kernel)) (mem_c (som_str (by decide +kernel)) (mem_c (som_int _) (mem_c s1 (mem_c (som_str (okD m0 (List.mem_of_getElem? em0))) mem_0)))))) (d:=d5) (by show d5 < 6; omega)
   refine ⟨b2,_,ex2_3 rfl rfl ⟨SqL.of (Sm1 k5 f2 n2),a5,by show 1<=sizeLine; decide,fun b6 hb6=>?_⟩⟩
   have u6:=Same.new (o:=.tup [v5]) hb6
   have ha5:=Sm1 k5 ha4 na
   refine ex1 rfl (ex1 rfl ⟨a,_,rfl,SqT.of (u6 _ _ ha5),by show ¬ (1 = 0/\_); omega,fun b7 hb7=>?_⟩)
   rw [show cutV [V.str m.1,V.str (wdM m.2),nmM m.2] (some 1) none = [V.str (wdM m.2),nmM m.2] from rfl]
   have u7:=Same.new (o:=.tup [V.str (wdM m.2),nmM m.2]) hb7
   refine ⟨b6,b7,_,_,rfl,rfl,SqT.of (u7 _ _ upd_same),SqT.of upd_same,(by intro z; cases z),by show 1 + 2<=sizeLine; decide,(fun z=>by cases z),fun _ b8 hb8=>?_⟩
   have u8:=Same.new (o:=.tup ([v5] ++ [V.str (wdM m.2),nmM m.2])) hb8
   have u:=(u6.trans u7).trans u8
   have n8:b8 ≠ p:=(ne_of_none (u7 _ _ (u6 _ _ L5.get)) hb8).symm
   exact fin (.ref b8) _ _ ((k4.trans k5).trans u.sm) ((R4.sm L4 k5).same u) (L5.same u) (by omega) (sog_tup ((er_ne n8).trans upd_same) (mem_c (s5.same (er_mono u)) (mem_c (som_str (wd_ok _)) (mem_c (som_nm _) mem_0))))
  refine ex1 rfl ⟨rfl,ex1 rfl (ite2 (fun z=>?_) (fun z=>?_))⟩
  ·
   refine ex1 rfl ⟨a,_,rfl,.inr (SqT.of ha),fun b1 hb1=>?_⟩
   have u1:=Same.new (o:=.lst [V.str m.1,V.str (wdM m.2),nmM m.2]) hb1
   refine ex1 rfl ⟨by show 1<=sizeLine; decide,fun b2 hb2=>?_⟩
   have u2:=Same.new (o:=.tup [V.non]) hb2
   refine ⟨a,b2,_,_,rfl,rfl,SqT.of (u2 _ _ (u1 _ _ ha)),SqT.of upd_same,(by intro z; cases z),by show 3 + 1<=sizeLine; decide,(fun z=>by cases z),fun _ b3 hb3=>?_⟩
   have u3:=Same.new (o:=.tup ([V.str m.1,V.str (wdM m.2),nmM m.2] ++ [V.non])) hb3
   refine ex1 rfl (ex1 rfl ⟨a,_,rfl,SqT.of (u3 _ _ (u2 _ _ (u1 _ _ ha))),by show ¬ (_/\2 = 3); omega,fun b4 hb4=>?_⟩)
   rw [show cutV [V.str m.1,V.str (wdM m.2),nmM m.2] none (some 2) = [V.str m.1,V.str (wdM m.2)] from rfl]
   have u4:=Same.new (o:=.tup [V.str m.1,V.str (wdM m.2)]) hb4
   refine ⟨by show 5<=sizeLine; decide,fun b5 hb5=>?_⟩
   have u5:=Same.new (o:=.lst [V.ref b1,V.ref b3,V.ref b4,V.non,V.str (Str.ofString "in")]) hb5
   have g1:=u5 _ _ (u4 _ _ (u3 _ _ (u2 _ _ (upd_same (H:=H2) (a:=b1) (o:=.lst [V.str m.1,V.str (wdM m.2),nmM m.2])))))
   have n1:b1 ≠ p:=(ne_of_none L2.get hb1).symm
   have n3:b3 ≠ p:=(ne_of_none (u2 _ _ (u1 _ _ L2.get)) hb3).symm
   have n4:b4 ≠ p:=(ne_of_none (u3 _ _ (u2 _ _ (u1 _ _ L2.get))) hb4).symm
   have n5:b5 ≠ p:=(ne_of_none (u4 _ _ (u3 _ _ (u2 _ _ (u1 _ _ L2.get)))) hb5).symm
   have u:=(((u1.trans u2).trans u3).trans u4).trans u5
   have g3:=u5 _ _ (u4 _ _ (upd_same (H:=upd (upd H2 b1 (.lst [V.str m.1,V.str (wdM m.2),nmM m.2])) b2 (.tup [V.non])) (a:=b3) (o:=.tup ([V.str m.1,V.str (wdM m.2),nmM m.2] ++ [V.non]))))
   have g4:=u5 _ _ (upd_same (H:=upd (upd (upd H2 b1 (.lst [V.str m.1,V.str (wdM m.2),nmM m.2])) b2 (.tup [V.non])) b3 (.tup ([V.str m.1,V.str (wdM m.2),nmM m.2] ++ [V.non]))) (a:=b4) (o:=.tup [V.str m.1,V.str (wdM m.2)]))
   have g5:(upd (upd (upd (upd (upd H2 b1 (.lst [V.str m.1,V.str (wdM m.2),nmM m.2])) b2 (.tup [V.non])) b3 (.tup ([V.str m.1,V.str (wdM m.2),nmM m.2] ++ [V.non]))) b4 (.tup [V.str m.1,V.str (wdM m.2)])) b5 (.lst [V.ref b1,V.ref b3,V.ref b4,V.non,V.str (Str.ofString "in")])) b5 = some (.lst [V.ref b1,V.ref b3,V.ref b4,V.non,V.str (Str.ofString "in")]):=upd_same
   have R4:=R2.same u
   have L4:=L2.same u
   have k4:=k12.trans u.sm
   generalize upd (upd (upd (upd (upd H2 b1 (.lst [V.str m.1,V.str (wdM m.2),nmM m.2])) b2 (.tup [V.non])) b3 (.tup ([V.str m.1,V.str (wdM m.2),nmM m.2] ++ [V.non]))) b4 (.tup [V.str m.1,V.str (wdM m.2)])) b5 (.lst [V.ref b1,V.ref b3,V.ref b4,V.non,V.str (Str.ofString "in")]) = H4 at g1 g3 g4 g5 R4 L4 k4 ⊢
   refine ex1 rfl (ex3_6 (a:=p) rfl L4 (by omega) (by decide) (by decide) fun d5 H5 hd5 k5 L5=>?_)
   have s1:Sog (er H5 p) (.ref b1):=sog_lst ((er_ne n1).trans (Sm1 k5 g1 n1)) sw
   have s3:Sog (er H5 p) (.ref b3):=sog_tup ((er_ne n3).trans (Sm1 k5 g3 n3)) (mem_c (som_str okm) (mem_c (som_str (wd_ok _)) (mem_c (som_nm _) (mem_c som_non mem_0))))
   have s4:Sog (er H5 p) (.ref b4):=sog_tup ((er_ne n4).trans (Sm1 k5 g4 n4)) (mem_c (som_str okm) (mem_c (som_str (wd_ok _)) mem_0))
   obtain ⟨v5,s5,a5⟩:=at_lit (xs:=[V.ref b1,V.ref b3,V.ref b4,V.non,V.str (Str.ofString "in")]) (G:=Sog (er H5 p)) (mem_c s1 (mem_c s3 (mem_c s4 (mem_c som_non.sog (mem_c (som_str (by decide +kernel)).sog mem_0))))) (d:=d5) (by show d5 < 5; omega)
   refine ⟨b5,_,ex2_3 rfl rfl ⟨SqL.of (Sm1 k5 g5 n5),a5,?_⟩⟩
   exact fin v5 _ _ (k4.trans k5) (R4.sm L4 k5) L5 (by omega) s5
  refine ex1 rfl ⟨rfl,ex1 rfl (ite2 (fun z=>?_) (fun z=>?_))⟩
  ·
   refine ex1 rfl ⟨a,_,ex2_3 rfl rfl ⟨SqT.of ha,rfl,?_⟩⟩
   refine ⟨by show 1<=sizeLine; decide,fun b1 hb1=>⟨by show 1<=sizeLine; decide,fun b2 hb2=>⟨Nat.zero_le _,fun b3 hb3=>⟨by show 7<=sizeLine; decide,fun b5 hb5=>?_⟩⟩⟩⟩
   have u1:=Same.new (o:=.tup [V.str (Str.ofString "in")]) hb1
   have u2:=Same.new (o:=.lst [V.str (Str.ofString "in")]) hb2
   have u3:=Same.new (o:=.lst []) hb3
   have u5:=Same.new (o:=.lst [V.str (Str.ofString "In"),V.str (Str.ofString "none"),V.non,V.int 1,V.ref b1,V.ref b2,V.ref b3]) hb5
   have n1:b1 ≠ p:=(ne_of_none L2.get hb1).symm
   have n2:b2 ≠ p:=(ne_of_none (u1 _ _ L2.get) hb2).symm
   have n3:b3 ≠ p:=(ne_of_none (u2 _ _ (u1 _ _ L2.get)) hb3).symm
   have n5:b5 ≠ p:=(ne_of_none (u3 _ _ (u2 _ _ (u1 _ _ L2.get))) hb5).symm
   have u:=((u1.trans u2).trans u3).trans u5
   have g1:=u5 _ _ (u3 _ _ (u2 _ _ (upd_same (H:=H2) (a:=b1) (o:=.tup [V.str (Str.ofString "in")]))))
   have g2:=u5 _ _ (u3 _ _ (upd_same (H:=upd H2 b1 (.tup [V.str (Str.ofString "in")])) (a:=b2) (o:=.lst [V.str (Str.ofString "in")])))
   have g3:=u5 _ _ (upd_same (H:=upd (upd H2 b1 (.tup [V.str (Str.ofString "in")])) b2 (.lst [V.str (Str.ofString "in")])) (a:=b3) (o:=.lst []))
   have g5:(upd (upd (upd (upd H2 b1 (.tup [V.str (Str.ofString "in")])) b2 (.lst [V.str (Str.ofString "in")])) b3 (.lst [])) b5 (.lst [V.str (Str.ofString "In"),V.str (Str.ofString "none"),V.non,V.int 1,V.ref b1,V.ref b2,V.ref b3])) b5 = some (.lst [V.str (Str.ofString "In"),V.str (Str.ofString "none"),V.non,V.int 1,V.ref b1,V.ref b2,V.ref b3]):=upd_same
   have R4:=R2.same u
   have L4:=L2.same u
   have k4:=k12.trans u.sm
   have ha4:=u _ _ ha
   generalize upd (upd (upd (upd H2 b1 (.tup [V.str (Str.ofString "in")])) b2 (.lst [V.str (Str.ofString "in")])) b3 (.lst [])) b5 (.lst [V.str (Str.ofString "In"),V.str (Str.ofString "none"),V.non,V.int 1,V.ref b1,V.ref b2,V.ref b3]) = H4 at g1 g2 g3 g5 R4 L4 k4 ha4 ⊢
   refine ex1 rfl (ex3_6 (a:=p) rfl L4 (by omega) (by decide) (by decide) fun d5 H5 hd5 k5 L5=>?_)
   have s1:Som (er H5 p) (.ref b1):=by
    refine ⟨.tuple [.str (Str.ofString "in")],⟨by decide +kernel,by decide +kernel⟩,?_⟩
    simp only [Th]
    exact ⟨b1,_,rfl,(er_ne n1).trans (Sm1 k5 g1 n1),ths_one (by simp [Th])⟩
   have s2:Som (er H5 p) (.ref b2):=⟨.list [.str (Str.ofString "in")],⟨by decide +kernel,by decide +kernel⟩,th_list ((er_ne n2).trans (Sm1 k5 g2 n2)) (ths_one (by simp [Th]))⟩
   have s3:Som (er H5 p) (.ref b3):=⟨.list [],⟨by decide +kernel,by decide +kernel⟩,th_list ((er_ne n3).trans (Sm1 k5 g3 n3)) (by simp [Ths])⟩
   obtain ⟨v5,s5,a5⟩:=at_lit (xs:=[V.str (Str.ofString "In"),V.str (Str.ofString "none"),V.non,V.int 1,V.ref b1,V.ref b2,V.ref b3]) (G:=Som (er H5 p)) (mem_c (som_str (by decide +kernel)) (mem_c (som_str (by decide +kernel)) (mem_c som_non (mem_c (som_int _) (mem_c s1 (mem_c s2 (mem_c s3 mem_0))))))) (d:=d5) (by show d5 < 7; omega)
   refine ⟨b5,_,ex2_3 rfl rfl ⟨SqL.of (Sm1 k5 g5 n5),a5,?_⟩⟩
   refine ex1 rfl ⟨a,_,ex2_3 rfl rfl ⟨SqT.of (Sm1 k5 ha4 na),rfl,by show 3<=sizeLine; decide,fun b6 hb6=>?_⟩⟩
   have u6:=Same.new (o:=.tup [V.str m.1,v5,nmM m.2]) hb6
   have n6:b6 ≠ p:=(ne_of_none L5.get hb6).symm
   exact fin (.ref b6) _ _ ((k4.trans k5).trans u6.sm) ((R4.sm L4 k5).same u6) (L5.same u6) (by omega) (sog_tup ((er_ne n6).trans upd_same) (mem3 (som_str okm) (s5.same (er_mono u6)) (som_nm _)))
  ·refine ex1 rfl (ex1 rfl (ex1 rfl ⟨p,a,l,_,m,rs,D,rfl,L2,by omega,ha,okm,R2,eD,D0,lD,fun v e c' H' kk te ge L' hc'=>?_⟩))
   exact fin v _ _ (k12.trans kk) (R2.sm L2 kk) L' (by omega) ⟨e,ge,te⟩
end
end Sw
namespace Sw
open PySem L2
theorem idx_one {l:List Str} (nd:l.Nodup) {i j:Nat} {a:Str} (h:l[i]? = some a) (h':l[j]? = some a):i = j:=by
 obtain ⟨hi,e⟩:=List.getElem?_eq_some_iff.mp h
 obtain ⟨hj,e'⟩:=List.getElem?_eq_some_iff.mp h'
 rcases Nat.lt_trichotomy i j with c | c | c
 ·exact absurd (e.trans e'.symm) (List.pairwise_iff_getElem.mp nd i j hi hj c)
 ·exact c
 ·exact absurd (e'.trans e.symm) (List.pairwise_iff_getElem.mp nd j i hj hi c)
noncomputable def d0:Str := ""
noncomputable def prs (l:List Str) (f:Nat->Nat) (i:Nat):List (Str × Str):=(List.range i).map fun j=>(l.getD j d0,l.getD (f j) d0)
theorem getD_at {l:List Str} {j:Nat} (h:j < l.length):l[j]? = some (l.getD j d0):=by
 rw [List.getElem?_eq_getElem h,List.getD_eq_getElem?_getD,List.getElem?_eq_getElem h]; rfl
theorem at_get {l:List Str} {k:Int} {j:Nat} (e:k = (j:Int)) (h:j < l.length):atI (l.map V.str) k = some (V.str (l.getD j d0)):=by
 rw [e]
 exact atI_nat (by rw [List.getElem?_map,getD_at h]; rfl)
theorem prs_succ (l:List Str) (f:Nat->Nat) (i:Nat):prs l f (i + 1) = prs l f i ++ [(l.getD i d0,l.getD (f i) d0)]:=by
 unfold prs
 rw [List.range_succ,List.map_append]; rfl
theorem prs_len (l:List Str) (f:Nat->Nat) (i:Nat):(prs l f i).length = i:=by unfold prs; rw [List.length_map,List.length_range]
theorem mem_prs {l:List Str} {f:Nat->Nat} {i:Nat} (h:i<=l.length) (hf:∀ j,j < i->f j < l.length) {y n:Str}:(y,n) ∈ prs l f i ↔ ∃ j,j < i/\l[j]? = some y/\l[f j]? = some n:=by
 unfold prs
 rw [List.mem_map]
 constructor
 ·rintro ⟨j,hj,e⟩
  have hj:=List.mem_range.mp hj
  cases e
  exact ⟨j,hj,getD_at (by omega),getD_at (hf j hj)⟩
 ·rintro ⟨j,hj,e1,e2⟩
  refine ⟨j,List.mem_range.mpr hj,?_⟩
  rw [getD_at (by omega)] at e1
  rw [getD_at (hf j hj)] at e2
  rw [Option.some.inj e1,Option.some.inj e2]
theorem prs_nd {l:List Str} {f:Nat->Nat} {i:Nat} (nd:l.Nodup) (h:i<=l.length):(prs l f i).Nodup:=by
 unfold prs
 refine List.pairwise_map.mpr (List.Pairwise.imp_of_mem ?_ List.nodup_range)
 intro a b ha hb hne e
 have ha:=List.mem_range.mp ha
 have hb:=List.mem_range.mp hb
 exact hne (idx_one nd (getD_at (l:=l) (j:=a) (by omega)) (by rw [getD_at (l:=l) (j:=b) (by omega)]; exact congrArg some (congrArg Prod.fst e).symm))
theorem loop_prs {H0:Hp} {a D:Addr} {l:List Str} {n:Nat} {f:Nat->Nat} {em:TEm} {v0:Option V} {Q:St->Hp->Prop} (hD:H0 D = none) (ha:H0 a = some (.lst (l.map V.str))) (hn:n<=100)
  (hem:∀ (i:Nat) (H':Hp) (N:St->Hp->Prop),i < n->H' a = some (.lst (l.map V.str))->(∀ r,H' r = none->∃ ys,(upd H' r (.tup [.str (l.getD i d0),.str (l.getD (f i) d0)])) D = some (.lst ys)/\ys.length < sizeLine/\N [some (.int (0 + (i:Int))),some (.ref a)] (upd (upd H' r (.tup [.str (l.getD i d0),.str (l.getD (f i) d0)])) D (.lst (ys ++ [.ref r]))))->em [some (.int (0 + (i:Int))),some (.ref a)] H' N)
  (hd:∀ (σ:St) (H1:Hp) (ps:List PA2),Same H0 H1->H1 D = some (.lst (refs ps))->(∀ q ∈ ps,PairIn H1 q)->(ps.map fun q=>q.2) = prs l f n->Q σ H1):Loop (gName 0) tTrue em (Itr 0 n) [v0,some (.ref a)] (upd H0 D (.lst [])) Q:=by
 refine loop_J (n:=n) (fun i σ H1=>(∃ v,σ = [v,some (.ref a)])/\Same H0 H1/\∃ ps:List PA2,H1 D = some (.lst (refs ps))/\(∀ q ∈ ps,PairIn H1 q)/\(ps.map fun q=>q.2) = prs l f i) ⟨⟨_,rfl⟩,Same.new hD,[],upd_same,fun q hq=>absurd hq List.not_mem_nil,rfl⟩ (fun i σ H hi _=>hi) (fun σ H _=>Nat.le_refl _) ?_ ?_
 ·rintro i σ H1 x H' N hi ⟨⟨v,rfl⟩,s1,ps,e1,e2,e3⟩ ⟨eH,rfl⟩ hN
  subst H'
  refine g_true (hem i H1 N hi (s1 _ _ ha) fun r hr=>?_)
  have nr:D ≠ r:=ne_of_none e1 hr
  have lp:ps.length = i:=by
   have:=congrArg List.length e3
   rwa [List.length_map,prs_len] at this
  refine ⟨_,(upd_ne nr).trans e1,by unfold refs; rw [List.length_map,sizeLine_eq]; omega,hN _ _ ⟨⟨_,rfl⟩,(s1.trans (Same.new hr)).upd hD,ps ++ [(r,l.getD i d0,l.getD (f i) d0)],?_,fun q hq=>?_,?_⟩⟩
  ·unfold refs; rw [upd_same,List.map_append]; rfl
  ·rcases List.mem_append.mp hq with z | z
   ·have e:=e2 q z
    exact (upd_ne (ne_of e e1 (by intro z; cases z))).trans ((upd_ne (ne_of_none e hr)).trans e)
   ·cases List.mem_singleton.mp z
    exact (upd_ne nr.symm).trans upd_same
  ·rw [List.map_append,e3,prs_succ]; rfl
 ·rintro σ H1 ⟨_,s1,ps,e1,e2,e3⟩
  exact hd σ H1 ps s1 e1 e2 e3
end Sw
namespace Sw
open PySem L2
noncomputable def Alt (ts:List Str) (D:List (Str × Mk)):Prop:=∀ j d,D[j]? = some d->ts[j]? = some d.1/\∃ k,d.2 = some (decide (j % 2 = 0),k)
theorem ring_no {ts:List Str} {D:List (Str × Mk)} {sr:Str->List Str} (nd:ts.Nodup) (al:Alt ts D) (len:D.length = ts.length) (ev:ts.length % 2 = 0) (pos:0 < ts.length) (hs:∀ y n,y ∈ sr n ↔ ∃ j,ts[j]? = some y/\ts[(j + 1) % ts.length]? = some n) :
  ¬ ((D.map fun q=>q.1).all fun n=>grd (sr n) (lookM D) n) = true:=by
 intro h
 have em:(D.map fun q=>q.1) = ts:=by
  refine List.ext_getElem? fun j=>?_
  rw [List.getElem?_map]
  by_cases c:j < D.length
  ·have e:D[j]? = some D[j]:=List.getElem?_eq_getElem c
   rw [e,(al j _ e).1]; rfl
  ·rw [List.getElem?_eq_none (by omega),List.getElem?_eq_none (by omega)]; rfl
 rw [em] at h
 have nd':(D.map fun q=>q.1).Nodup:=by rw [em]; exact nd
 have mk:∀ {j:Nat} {y:Str},ts[j]? = some y->∃ k,lookM D y = some (decide (j % 2 = 0),k):=fun {j y} hy=>by
  have hj:=(List.getElem?_eq_some_iff.mp hy).1
  have e:D[j]? = some D[j]:=List.getElem?_eq_getElem (by omega)
  obtain ⟨h1,k,h2⟩:=al j _ e
  rw [hy] at h1
  refine ⟨k,?_⟩
  rw [<-h2]
  refine look_of nd' ?_
  rw [Option.some.inj h1]
  exact List.mem_of_getElem? e
 have g:∀ {j:Nat} {y:Str},ts[j]? = some y->grd (sr y) (lookM D) y = true:=fun {j y} hy=>List.all_eq_true.mp h y (List.mem_of_getElem? hy)
 have up:∀ {j:Nat} {x y:Str} {b b':Bool} {k k':Int},ts[j]? = some x->ts[j + 1]? = some y->lookM D x = some (b,k)->lookM D y = some (b',k')->k<=k':=fun {j x y b b' k k'} hx hy ex ey=>by
  have hj:=(List.getElem?_eq_some_iff.mp hy).1
  have gy:=g hy
  unfold grd at gy
  rw [ey] at gy
  have xm:x ∈ sr y:=(hs x y).mpr ⟨j,hx,by rw [Nat.mod_eq_of_lt hj]; exact hy⟩
  have only:∀ z,z ∈ sr y->z = x:=fun z hz=>by
   obtain ⟨i,h1,h2⟩:=(hs z y).mp hz
   have hi:=(List.getElem?_eq_some_iff.mp h1).1
   have e:=idx_one nd h2 hy
   have:i = j:=by
    by_cases c:i + 1 < ts.length
    ·rw [Nat.mod_eq_of_lt c] at e; omega
    ·have:i + 1 = ts.length:=by omega
     rw [this,Nat.mod_self] at e
     omega
   rw [this,hx] at h1
   exact (Option.some.inj h1).symm
  cases b' with
  | true =>
   have z:=List.all_eq_true.mp gy x xm
   rw [ex] at z
   cases b with
   | true=>cases z
   | false =>
    have z:decide (k < k') = true:=z
    have:=of_decide_eq_true z
    omega
  | false =>
   obtain ⟨z,hz,e⟩:=List.any_eq_true.mp gy
   rw [only z hz,ex] at e
   cases b with
   | true =>
    have e:decide (k<=k') = true:=e
    exact of_decide_eq_true e
   | false=>cases e
 obtain ⟨x0,h0⟩:∃ x,ts[0]? = some x:=⟨_,List.getElem?_eq_getElem pos⟩
 obtain ⟨k0,e0⟩:=mk h0
 have lo:∀ (j:Nat) (y:Str) (b:Bool) (k:Int),ts[j]? = some y->lookM D y = some (b,k)->k0<=k:=fun j=>by
  induction j with
  | zero =>
   intro y b k hy ey
   rw [h0] at hy
   cases hy
   rw [e0] at ey
   cases ey
   exact Int.le_refl _
  | succ j ih =>
   intro y b k hy ey
   have hj:=(List.getElem?_eq_some_iff.mp hy).1
   obtain ⟨x,hx⟩:∃ x,ts[j]? = some x:=⟨_,List.getElem?_eq_getElem (by omega)⟩
   obtain ⟨k1,e1⟩:=mk hx
   exact Int.le_trans (ih x _ k1 hx e1) (up hx hy e1 ey)
 obtain ⟨z,hz⟩:∃ x,ts[ts.length - 1]? = some x:=⟨_,List.getElem?_eq_getElem (by omega)⟩
 obtain ⟨k1,e1⟩:=mk hz
 have low:=lo _ z _ k1 hz e1
 rw [show decide ((ts.length - 1) % 2 = 0) = false from decide_eq_false (by omega)] at e1
 have g0:=g h0
 unfold grd at g0
 rw [e0] at g0
 have zm:z ∈ sr x0:=(hs z x0).mpr ⟨ts.length - 1,hz,by rw [show ts.length - 1 + 1 = ts.length by omega,Nat.mod_self]; exact h0⟩
 have w:=List.all_eq_true.mp g0 z zm
 rw [e1] at w
 have w:decide (k1 < k0) = true:=w
 have:=of_decide_eq_true w
 omega
theorem RL.snoc' {H:Hp} {l r:Addr} {rs:List (Addr × Row)} {q:Row} (h:RL H l rs) (hr:H r = none):RL (upd (upd H r (.tup [.str q.1,.str q.2.1,q.2.2])) l (.lst ((rs.map fun q=>V.ref q.1) ++ [.ref r]))) l (rs ++ [(r,q)]):=by
 refine ⟨by rw [upd_same,List.map_append]; rfl,fun x hx=>?_⟩
 rcases List.mem_append.mp hx with z | z
 ·have e:=h.2 x z
  rw [upd_ne (ne_of e h.1 (by intro z; cases z)),upd_ne (ne_of_none e hr)]; exact e
 ·cases List.mem_singleton.mp z
  exact (upd_ne (ne_of_none h.1 hr).symm).trans upd_same
theorem Alt.snoc {ts:List Str} {D:List (Str × Mk)} {x:Str} {k:Int} (h:Alt ts D) (hx:ts[D.length]? = some x):Alt ts (D ++ [(x,some (decide (D.length % 2 = 0),k))]):=fun j d hd=>by
 by_cases c:j < D.length
 ·rw [List.getElem?_append_left c] at hd
  exact h j d hd
 ·rw [List.getElem?_append_right (by omega)] at hd
  have hj:j - D.length = 0:=by
   have:=(List.getElem?_eq_some_iff.mp hd).1
   have l1:([(x,some (decide (D.length % 2 = 0),k))]:List (Str × Mk)).length = 1:=rfl
   omega
  rw [hj] at hd
  cases hd
  have:j = D.length:=by omega
  subst this
  exact ⟨hx,k,rfl⟩
theorem io_at (i:Nat):∃ b:Bool,b = decide (i % 2 = 0)/\atI [V.str wIn,V.str wOut] ((i:Int) % 2) = some (V.str (wdM (some (b,0)))):=by
 rcases Nat.mod_two_eq_zero_or_one i with h | h
 ·refine ⟨true,by rw [h]; rfl,?_⟩
  rw [show ((i:Int) % 2) = ((0:Nat):Int) by omega]
  exact atI_nat rfl
 ·refine ⟨false,by rw [h]; rfl,?_⟩
  rw [show ((i:Int) % 2) = ((1:Nat):Int) by omega]
  exact atI_nat rfl
theorem lc_ring {K:PySem.W.Frag} {sq:Hp->Addr->List V->Prop} {n p C:Addr} {c:Int} {ss:List Str} {H:Hp} {Q:St->Hp->Prop} (en:H n = some (.lst (ss.map V.str))) (hk:∀ H1,KeepAt n H H1->sq H1 n (ss.map V.str)) (hl:ss.length<=100) (hL:LeftAt H p c) (hc:c<=800000) (hC:H C = none)
  (h:∀ σ H2 (ts:List (Addr × Row)) (D:List (Str × Mk)),Sm [p] H H2->RL H2 C ts->(ts.map fun q=>q.2) = D.map rowM->Alt ss D->D.length = ss.length->LeftAt H2 p (c + ss.length)->Q σ H2) (v0 v1:Option V) :
  Loop (gTup K 2 (gCons (gName 0) (gCons (gName 1) gNil))) tTrue (emLst C (tTup (tCons (tVar 1) (tCons (tOp (rIxL K) (tLst (tCons (tC (.str (Str.ofString "in"))) (tCons (tC (.str (Str.ofString "out"))) tNil))) (tOp (rI (fun i j=>0 < j) fun i j=>V.int (i % j)) (tVar 0) (tC (.int 2)))) (tCons (tCall sp_pick [] E0 (tCons (tVar 2) (tCons (tC (.int 9)) tNil))) tNil))))) (Ite2 sq n) [v0,v1,some (.ref p)] (upd H C (.lst [])) Q:=by
 obtain ⟨a0,b0,e0,_⟩:=id hL
 have npC:p ≠ C:=ne_of_none e0 hC
 have nn:n ∉ [p]:=by simpa using hL.ne en
 refine loop_J (n:=ss.length) (fun i σ H3=>(∃ v0 v1,σ = [v0,v1,some (.ref p)])/\Sm [p] H H3/\LeftAt H3 p (c + i)/\∃ ts D,RL H3 C ts/\(ts.map fun q=>q.2) = D.map rowM/\Alt ss D/\D.length = i)
  ⟨⟨_,_,rfl⟩,(Same.new hC).sm,(hL.same (Same.new hC)).cast (Int.add_zero _).symm,[],[],⟨upd_same,fun q hq=>absurd hq List.not_mem_nil⟩,rfl,fun j d hd=>(by cases hd),rfl⟩ ?_ ?_ ?_ ?_
 ·rintro i σ H1 hi ⟨_,k1,_⟩
  exact ⟨_,_,hk _ (k1.at nn),by rw [List.getElem?_map,List.getElem?_eq_getElem hi]; rfl⟩
 ·rintro σ H1 ⟨_,k1,_⟩
  exact ⟨_,hk _ (k1.at nn),by rw [List.length_map]⟩
 ·rintro i σ H1 x H' N hi ⟨⟨v0,v1,rfl⟩,k1,L1,ts,D,R1,eD,al,ld⟩ ⟨t,x,rfl,ht,rfl,hx⟩ hN
  have hx:=hx _ (hk _ (k1.at nn))
  have hi':ss[i]? = some ss[i]:=List.getElem?_eq_getElem hi
  rw [List.getElem?_map,hi'] at hx
  cases hx
  have lt:ts.length = i:=(rows_len eD).trans ld
  refine ⟨t,ex1 rfl ⟨SqT.of upd_same,rfl,_,ex1 rfl (ex2_3 rfl rfl ?_)⟩⟩
  have u1:=Same.new (o:=.tup [.int (i:Int),.str ss[i]]) ht
  have k2:=k1.trans u1.sm
  have L2':=L1.same u1
  have R2:=R1.same u1
  dsimp only [tTrue]
  rw [if_pos rfl]
  generalize upd H1 t (.tup [.int (i:Int),.str ss[i]]) = H2 at k2 L2' R2 ⊢
  obtain ⟨b,hb,eb⟩:=io_at i
  refine ex1 rfl ⟨by show 2<=sizeLine; decide,fun t2 ht2=>?_⟩
  have u2:=Same.new (o:=.lst [V.str wIn,V.str wOut]) ht2
  have k3:=k2.trans u2.sm
  have L3:=L2'.same u2
  have R3:=R2.same u2
  refine ex1 rfl (ex2_3 rfl rfl ⟨by show (0:Int) < 2; decide,t2,_,ex2_3 rfl rfl ⟨SqL.of upd_same,eb,?_⟩⟩)
  generalize upd H2 t2 (.lst [V.str wIn,V.str wOut]) = H3 at k3 L3 R3 ⊢
  refine ex1 rfl (ex3_6 (a:=p) rfl L3 (by omega) (by decide) (by decide) fun d H4 hd k4 L4=>?_)
  have R4:=R3.sm L3 k4
  refine ⟨by show 3<=sizeLine; decide,fun r hr=>?_⟩
  have nr:C ≠ r:=ne_of_none R4.1 hr
  refine ⟨_,(upd_ne nr).trans R4.1,by rw [List.length_map,sizeLine_eq]; omega,hN _ _ ⟨⟨_,_,rfl⟩,((k3.trans k4).new hr).updN hC,((L4.same (Same.new hr)).upd npC).cast (by omega),ts ++ [(r,rowM (ss[i],some (b,(d:Int))))],D ++ [(ss[i],some (b,(d:Int)))],?_,by rw [List.map_append,List.map_append,eD]; rfl,?_,by rw [List.length_append,ld]; rfl⟩⟩
  ·have:=RL.snoc' (q:=rowM (ss[i],some (b,(d:Int)))) R4 hr
   have ew:wdM (some (b,0)) = wdM (some (b,(d:Int))):=by cases b <;> rfl
   rw [ew]
   exact this
  ·have:=al.snoc (x:=ss[i]) (k:=(d:Int)) (by rw [ld]; exact hi')
   rw [ld] at this
   rw [hb]
   exact this
 ·rintro σ H3 ⟨_,k3,L3,ts,D,R3,eD,al,ld⟩
  exact h σ H3 ts D k3 R3 eD al ld L3
end Sw
namespace Sw
open PySem L2
section
variable {P:Program} {w:World} {K:PySem.W.Frag} {mg:Str->Option Value} {base:Heap}
theorem sc_law_says:FnScope ["_law_found", "_law_due"] ["_law_found", "_law_due"] (defScope s_law_says):=⟨rfl,rfl,rfl,by decide +kernel,rfl,by decide +kernel,by decide +kernel⟩
noncomputable def sp_says:Sp:=fun vs H Q _=>∃ a b:Bool,vs = [.bl a,.bl b]/\Q (.bl (decide (a = b))) H
theorem ok_law_says (T:Tx K mg):FnOk P w K mg base CX0 1 T.law_says.f T.law_says.fd ["_law_found", "_law_due"] sp_says:=by
 have sc:=sc_law_says
 refine T.law_says.F.ok sc_law_says (fun vs H Q E h=>?_) (fun cdv A outer s H vs Q E hr h=>?_)
 ·obtain ⟨a,b,rfl,_⟩:=h
  rfl
 ·obtain ⟨a,b,rfl,q⟩:=h
  refine ⟨_,(pss_one (ps_ret (pe_and (pe_bf (cl_isin K) T.b_isinstance bt_isinstance (pa_cons (pv 0) (pa_cons (pe_ty T.b_bool bt_bool) pa_nil))) (pe_one (pe_cmpR op_eq (pv 0) (pv 1) (nomark _)))))),?_⟩
  refine ex1 rfl ⟨_, "bool",_,true,rfl,.bl a,rfl,true,rfl,?_⟩
  refine iteT ⟨_,rfl,_,rfl,rfl,?_⟩
  have e:decide (V.bl a = V.bl b) = decide (a = b):=by cases a <;> cases b <;> decide
  rw [e]
  exact q
end
end Sw
namespace Sw
open PySem L2
theorem go_list {ds:List PyData} (len:ds.length<=1000) (h:∀ e ∈ ds,Go e):Fit (.list ds):=fun ds' e=>by
 rcases e with e | e
 ·cases e
  refine ⟨len,fun e he a b c ee=>?_⟩
  subst ee
  exact go_pl (h _ he)
 ·cases e
theorem prs_ring {ts:List Str} {qs ps:List PA2} (pq:qs.Perm ps) (ep:(ps.map fun q=>q.2) = prs ts (fun j=>(j + 1) % ts.length) ts.length) (pos:0 < ts.length) (y n:Str):y ∈ strikersOf qs n ↔ ∃ j,ts[j]? = some y/\ts[(j + 1) % ts.length]? = some n:=by
 have h2:(y,n) ∈ (qs.map fun q=>q.2) ↔ (y,n) ∈ ps.map fun q=>q.2:=(pq.map fun q=>q.2).mem_iff
 rw [mem_strikers,h2,ep,mem_prs (Nat.le_refl _) (fun j hj=>Nat.mod_lt _ pos)]
 exact ⟨fun ⟨j,_,a,b⟩=>⟨j,a,b⟩,fun ⟨j,a,b⟩=>⟨j,(List.getElem?_eq_some_iff.mp a).1,a,b⟩⟩
section
variable {P:Program} {w:World} {K:PySem.W.Frag} {mg:Str->Option Value} {base:Heap}
theorem sc_law_ring_false:FnScope ["_law_left_here", "_law_names", "_law_strikes_here", "_law_rows"] ["_law_left_here"] (defScope s_law_ring_false):=⟨rfl,rfl,rfl,by decide +kernel,rfl,by decide +kernel,by decide +kernel⟩
noncomputable def sp_ringF:Sp:=fun vs H Q _=>∃ (p:Addr) (c:Int),vs = [.ref p]/\LeftAt H p c/\c<=700000/\∀ c' H',Sm [p] H H'->LeftAt H' p c'->c'<=c + 40->Q (.bl true) H'
set_option maxHeartbeats 4000000 in
theorem ok_law_ring_false (T:Tx K mg):FnOk P w K mg base CX0 5 T.law_ring_false.f T.law_ring_false.fd ["_law_left_here"] sp_ringF:=by
 have G_law_pick:FnOk P w K mg base CX0 2 T.law_pick.f T.law_pick.fd ["_law_left_here", "_law_many"] sp_pick:=ok_law_pick T
 have G_law_many_names:FnOk P w K mg base CX0 3 T.law_many_names.f T.law_many_names.fd ["_law_left_here", "_law_many"] sp_many:=ok_law_many_names T
 have G_Web___init__:FnOk P w K mg base CX0 3 T.fWeb___init__ T.fdWeb___init__ ["self", "names", "strikes"] (sp_Web_init K T.CWeb):=ok_Web_init T
 have G_law_says:FnOk P w K mg base CX0 1 T.law_says.f T.law_says.fd ["_law_found", "_law_due"] sp_says:=ok_law_says T
 have G_shows_least:FnOk P w K mg base CX0 4 T.shows_least.f T.shows_least.fd ["web", "rows"] (sp_showsA T.CWeb):=ok_shows_least T
 have sc:=sc_law_ring_false
 refine T.law_ring_false.F.ok sc_law_ring_false (fun vs H Q E h=>?_) (fun cdv A outer s H vs Q E hr h=>?_)
 ·obtain ⟨p,c,rfl,_⟩:=h
  rfl
 ·obtain ⟨p,c,rfl,hL,c1,q⟩:=h
  refine ⟨_,(pss_cons (ps_set (i:=1) sc.nd rfl (by first | exact Or.inl rfl | exact Or.inr rfl) (pe_bf (cl_sortS K) T.b_sorted bt_sorted (pa_cons (pe_fn T.law_many_names G_law_many_names (hr.mono (by decide)) (pa_cons (pv 0) (pa_cons (pe_op op_add pe_int (pe_op op_mul pe_int (pe_fn T.law_pick G_law_pick (hr.mono (by decide)) (pa_cons (pv 0) (pa_cons pe_int pa_nil))))) pa_nil))) pa_nil)))
   (pss_cons (ps_setLC (i:=2) (N':=["_law_k", "_law_names"]) (cap:=[none,some 1]) (cl:=[("_law_names",_)]) sc.nd rfl (by first | exact Or.inl rfl | exact Or.inr rfl) (cs_mk ⟨⟨rfl,rfl,rfl,rfl⟩,trivial⟩ ⟨rfl,trivial⟩) rfl (piR1 T.b_range (pa_cons (pe_bf (cl_len K) T.b_len bt_len (pa_cons (pv 1) pa_nil)) pa_nil)) (fun _ _ _ _=>by exact ⟨(pgC 0),pts_nil,(pe_tup (pa_cons (pe_ix (ixL K) (pv 1) (pv 0) (fun _ _=>rfl)) (pa_cons (pe_ix (ixL K) (pv 1) (pe_op op_mod (pe_op op_add (pv 0) pe_int) (pe_bf (cl_len K) T.b_len bt_len (pa_cons (pv 1) pa_nil))) (fun _ _=>rfl)) pa_nil)))⟩))
   (pss_cons (ps_setLC (i:=3) (N':=["_law_k", "_law_name", "_law_left_here"]) (cap:=[none,none,some 0]) (cl:=[("_law_left_here",_)]) sc.nd rfl (by first | exact Or.inl rfl | exact Or.inr rfl) (cs_mk ⟨⟨rfl,rfl,rfl,rfl⟩,trivial⟩ ⟨rfl,trivial⟩) rfl (piE2 K T.b_enumerate (pa_cons (pv 1) pa_nil)) (fun _ _ _ _=>by exact ⟨(pgT K (n:=2) (pgs_cons (pgC 0) (pgs_cons (pgC 1) pgs_nil))),pts_nil,(pe_tup (pa_cons (pv 1) (pa_cons (pe_ix (ixL K) (pe_lst (pa_cons pe_str (pa_cons pe_str pa_nil))) (pe_op op_mod (pv 0) pe_int) (fun _ _=>rfl)) (pa_cons (pe_fn T.law_pick G_law_pick (hr.mono (by decide)) (pa_cons (pv 2) (pa_cons pe_int pa_nil))) pa_nil))))⟩))
   (pss_one (ps_ret (pe_fn T.law_says G_law_says (hr.mono (by decide)) (pa_cons (pe_fn T.shows_least G_shows_least (hr.mono (by decide)) (pa_cons (pe_make T.mkWeb G_Web___init__ (hr.mono (by decide)) rfl T.mgWeb T.bWeb___init__ .nil pass0 (pa_cons (pv 1) (pa_cons (pv 2) pa_nil))) (pa_cons (pv 3) pa_nil))) (pa_cons pe_bl pa_nil)))))))),?_⟩
  refine seq_gen fun N1 hN1=>?_
  refine ex1 rfl (ex1 rfl (ex3_6 (a:=p) rfl hL (by omega) (by decide) (by decide) fun d H1 hd k1 L1=>?_))
  refine ex2_3 rfl rfl ⟨.inl ⟨by decide,by decide⟩,ex2_3 rfl rfl ?_⟩
  refine ⟨p,_,2 + 2 * d,congrArg (fun z=>[V.ref p,V.int z]) (by omega),L1,by omega,by omega,fun n0 ss H2 hn0 k2 e2 l2 No L2=>?_⟩
  refine ⟨n0,ss,rfl,SqL.of e2,fun n ts hn pt so=>?_⟩
  have u3:=Same.new (o:=.lst (ts.map V.str)) hn
  have e3:(upd H2 n (.lst (ts.map V.str))) n = some (.lst (ts.map V.str)):=upd_same
  have k3:=(k1.trans k2).trans u3.sm
  have L3:=L2.same u3
  have ltn:ts.length = 2 + 2 * d:=pt.length_eq.trans l2
  have Nt:NamesOk ts:=⟨fun x hx=>No.1 x (pt.mem_iff.mp hx),pt.nodup_iff.mpr No.2.1,by omega⟩
  show N1 _ (upd H2 n (.lst (ts.map V.str)))
  generalize upd H2 n (.lst (ts.map V.str)) = H3 at e3 k3 L3 ⊢
  clear k1 L1 k2 L2 e2 u3 hn hn0 pt so
  have lm:(ts.map V.str).length = ts.length:=List.length_map ..
  refine hN1 _ _ (seq_gen fun N2 hN2=>?_)
  refine ex1 rfl ⟨n,_,rfl,.inl (SqL.of e3),ex1 rfl ⟨by omega,by omega,fun F hF=>?_⟩⟩
  rw [Int.toNat_natCast,lm]
  refine loop_prs (l:=ts) (f:=fun j=>(j + 1) % ts.length) hF e3 (by omega) (fun k H' N hk e1 hN=>?_) (fun σ H4 ps s4 e4 p4 kp=>?_)
  ·have:(k + 1) % ts.length < ts.length:=Nat.mod_lt _ (by omega)
   refine ex1 rfl (ex1 rfl ⟨n,_,ex2_3 rfl rfl ⟨SqL.of e1,at_get (j:=k) (by omega) (by omega),ex1 rfl (ex1 rfl (ex2_3 rfl rfl (ex1 rfl (ex2_3 (a:=n) rfl (.inl (SqL.of e1)) (ex2_3 rfl rfl ⟨by omega,?_⟩)))))⟩⟩)
   exact ⟨n,_,ex2_3 rfl rfl ⟨SqL.of e1,at_get (j:=(k + 1) % ts.length) (by rw [lm,Int.zero_add]; rfl) this,by show 2<=sizeLine; decide,hN⟩⟩
  have k4:=k3.trans s4.sm
  have L4:=L3.same s4
  have en4:=s4 _ _ e3
  clear k3 L3 e3 s4 hF
  refine hN2 _ _ (seq_gen fun N3 hN3=>?_)
  refine ex1 rfl ⟨n,_,rfl,enum_sqs (.inl (SqL.of en4)) (fun o e=>e) fun sq hk C hC=>?_⟩
  refine lc_ring en4 hk (by omega) L4 (by omega) hC (fun σ H5 rs D k5 R5 eD al lD L5=>?_) _ _
  have en5:=Sm1 k5 en4 (L4.ne en4)
  have e5:=Sm1 k5 e4 (L4.neP e4)
  have p5:∀ q ∈ ps,PairIn H5 q:=fun q hq=>pair_sm (p4 q hq) L4 k5
  have k15:=k4.trans k5
  clear k4 L4 en4 e4 p4 k5 hC hk
  refine hN3 _ _ ?_
  refine ex1 rfl (ex1 rfl ?_)
  intro x dx nx ndx nex
  have s0:Same H5 (upd (upd H5 dx (.own x)) x (.ins T.CWeb dx [])):=fun b o e=>by
   rw [upd_ne (ne_of_none e nx),upd_ne (ne_of_none e ndx)]
   exact e
  have O5:StrkOk ts ps:=⟨fun q hq=>by
   have h2:(q.2.1,q.2.2) ∈ ps.map fun q=>q.2:=List.mem_map.mpr ⟨q,hq,rfl⟩
   rw [kp,mem_prs (Nat.le_refl _) (fun j hj=>Nat.mod_lt _ (by omega))] at h2
   obtain ⟨j,_,a,b⟩:=h2
   exact ⟨List.mem_of_getElem? a,List.mem_of_getElem? b⟩,by rw [kp]; exact prs_nd Nt.2.1 (Nat.le_refl _),by
   have:=congrArg List.length kp
   rw [List.length_map,prs_len] at this
   omega⟩
  refine ex6_8 (a:=x) (b:=dx) (c:=n) (d:=ts) (e:=F) (f:=ps) rfl upd_same (.inl (SqL.of (s0 _ _ en5))) Nt (s0 _ _ e5) (same_pairs s0 p5) O5 fun ns qs H7 pn srn pq srq k7 W7 _=>⟨rfl,?_⟩
  have s57:Same H5 H7:=fun b o e=>k7 b o (s0 b o e) (by simpa using ne_of_none e nx)
  have nmn:∀ y ∈ ns,nameB y = true:=fun y hy=>Nt.1 y (pn.mem_iff.mp hy)
  have okD:∀ d ∈ D,PySem.PyData.strOk d.1 = true:=fun d hd=>by
   obtain ⟨j,hj⟩:=List.mem_iff_getElem?.mp hd
   exact nameB_ok (Nt.1 _ (List.mem_of_getElem? (al j d hj).1))
  have R7:=R5.same s57
  refine ex1 rfl ⟨x,.ref C,ns,qs,.list (D.map rdE),rfl,W7,th_list R7.1 (ths_rows eD R7.2),nmn,go_list (by rw [List.length_map]; omega) (fun e he=>by
   obtain ⟨d,hd,rfl⟩:=List.mem_map.mp he
   exact go_rd (okD d hd)),fun b H8 s8 hb=>?_⟩
  have bf:b = false:=by
   cases b with
   | false=>rfl
   | true=>exact absurd (show_list.mp (hb.mp rfl)).2 (ring_no Nt.2.1 al lD (by omega) (by omega) (prs_ring pq kp (by omega)))
  subst bf
  have s58:=s57.trans s8
  exact ⟨false,false,rfl,q _ H8 (k15.trans s58.sm) (L5.same s58) (by omega)⟩
end
end Sw
namespace Sw
open PySem L2
theorem pl_list {ds:List PyData} (h:∀ e ∈ ds,Go e):Pl (.list ds):=by
 have all:∀ ds:List PyData,(∀ e ∈ ds,Go e)->PyData.canLayAll0 ds = true/\PyData.depthAll ds<=10:=fun ds=>by
  induction ds with
  | nil=>exact fun _=>⟨rfl,by simp [PyData.depthAll]⟩
  | cons d r ih =>
   intro h
   obtain ⟨h1,h2⟩:=h d (List.mem_cons_self ..)
   obtain ⟨i1,i2⟩:=ih fun e he=>h e (List.mem_cons_of_mem _ he)
   exact ⟨by rw [PyData.canLayAll0,h1,i1]; rfl,by rw [PyData.depthAll]; omega⟩
 obtain ⟨h1,h2⟩:=all ds h
 exact ⟨by rw [PyData.canLay0]; exact h1,by rw [PyData.depth]; omega⟩
theorem any_mem {α:Type} {p:α->Bool} {l l':List α} (h:∀ x,x ∈ l ↔ x ∈ l'):l.any p = l'.any p:=by
 rw [Bool.eq_iff_iff,List.any_eq_true,List.any_eq_true]
 exact ⟨fun ⟨x,hx,z⟩=>⟨x,(h x).mp hx,z⟩,fun ⟨x,hx,z⟩=>⟨x,(h x).mpr hx,z⟩⟩
theorem grd_mem {ys ys':List Str} {M:Str->Mk} {n:Str} (h:∀ x,x ∈ ys ↔ x ∈ ys'):grd ys M n = grd ys' M n:=by
 unfold grd
 rw [any_mem (p:=fun y=>isIn (M y)) h,any_mem (p:=fun y=>(M y).isNone) h]
 match M n with
 | none=>rfl
 | some (true,k)=>exact all_mem h
 | some (false,k)=>exact any_mem h
theorem show_perm {ns ss:List Str} {sr sr':Str->List Str} {d:PyData} (p:ns.Perm ss) (h:∀ n y,y ∈ sr n ↔ y ∈ sr' n):ShowD ns sr d ↔ ShowD ss sr' d:=by
 have e:∀ D:List (Str × Mk),((D.map fun q=>q.1).all fun n=>grd (sr n) (lookM D) n) = (D.map fun q=>q.1).all fun n=>grd (sr' n) (lookM D) n:=fun D=>congrArg (D.map fun q=>q.1).all (funext fun n=>grd_mem (h n))
 constructor
 ·rintro ⟨D,ed,pd,a⟩
  exact ⟨D,ed,pd.trans p,by rw [<-e]; exact a⟩
 ·rintro ⟨D,ed,pd,a⟩
  exact ⟨D,ed,pd.trans p.symm,by rw [e]; exact a⟩
theorem RSeq.mks {ns:List Str} {A O:(Str->Option Str)->Str->Bool} {f:Str->Option Str} {num:Int} {t:List Row} (h:RSeq ns A O f num t):∃ D:List (Str × Mk),t = D.map rowM/\∀ d ∈ D,d.1 ∈ ns:=by
 induction h with
 | @stop f num _ =>
  refine ⟨(wl ns f).map fun n=>(n,none),by rw [List.map_map]; rfl,fun d hd=>?_⟩
  obtain ⟨n,hn,rfl⟩:=List.mem_map.mp hd
  exact (mem_wl.mp hn).1
 | @step f num t _ _ ih =>
  obtain ⟨D,rfl,hD⟩:=ih
  refine ⟨((insOf ns A f).map fun n=>(n,some (true,num))) ++ ((insOf ns O (nxt1 ns A f)).map fun n=>(n,some (false,num))) ++ D,?_,fun d hd=>?_⟩
  ·rw [List.map_append,List.map_append,List.map_map,List.map_map]; rfl
  ·rcases List.mem_append.mp hd with hd | hd
   ·rcases List.mem_append.mp hd with hd | hd
    ·obtain ⟨n,hn,rfl⟩:=List.mem_map.mp hd
     exact (mem_ins hn).1
    ·obtain ⟨n,hn,rfl⟩:=List.mem_map.mp hd
     exact (mem_ins hn).1
   ·exact hD d hd
theorem lc_isrow {K:PySem.W.Frag} {a C:Addr} {vs:List V} {ds:List PyData} {r:St} {tc:TT} {H:Hp} {Q:St->Hp->Prop} (e:H a = some (.lst vs)) (T:Ths H ds vs) (len:ds.length<=1000) (hC:H C = none)
  (ht:∀ d ∈ ds,∀ v,Th H d v->∀ H1,Same H H1->∀ Q':Bool->Hp->Prop,(∀ (b:Bool) H2,Same H1 H2->(b = true ↔ ∃ e,d = rdE e)->Q' b H2)->tc (some v :: r) H1 Q')
  (h:∀ σ H2 (D:List (Str × Mk)) (ys:List V),Same H H2->H2 C = some (.lst ys)->Ths H (D.map rdE) ys->D.length<=ds.length->(∀ d ∈ D,rdE d ∈ ds)->Q σ H2) (v0:Option V) :
  Loop (gName 0) tc (emLst C (tVar 0)) (Itl K a) (v0 :: r) (upd H C (.lst [])) Q:=by
 have lv:=T.length
 refine loop_as (asL (K:=K) (SqL.of e)) (fun i σ H3=>(∃ v,σ = v :: r)/\Same H H3/\∃ (D:List (Str × Mk)) (ys:List V),H3 C = some (.lst ys)/\Ths H (D.map rdE) ys/\D.length<=i/\∀ d ∈ D,rdE d ∈ ds)
  ⟨⟨_,rfl⟩,Same.new hC,[],[],upd_same,(by simp [Ths]),Nat.le_refl _,fun d hd=>absurd hd List.not_mem_nil⟩ (fun i σ H1 _ ⟨_,s1,_⟩=>s1.at a) ?_ ?_
 ·rintro i σ H3 v N hx ⟨⟨v0,rfl⟩,s3,D,ys,e3,t3,l3,m3⟩ hN
  obtain ⟨d,hd,tv⟩:=T.get hx
  have hm:=List.mem_of_getElem? hd
  have hi:=(List.getElem?_eq_some_iff.mp hd).1
  have ly:=t3.length
  rw [List.length_map] at ly
  refine ht d hm v tv H3 s3 _ fun b H4 s4 hb=>?_
  have e3:=s4 _ _ e3
  have s3:=s3.trans s4
  cases b with
  | false=>exact iteF (hN _ _ ⟨⟨_,rfl⟩,s3,D,ys,e3,t3,Nat.le_succ_of_le l3,m3⟩)
  | true =>
   obtain ⟨x,rfl⟩:=hb.mp rfl
   refine iteT (ex1 rfl ⟨_,e3,by rw [sizeLine_eq]; omega,hN _ _ ⟨⟨_,rfl⟩,s3.upd hC,D ++ [x],ys ++ [v],upd_same,?_,by rw [List.length_append]; exact Nat.succ_le_succ l3,fun z hz=>?_⟩⟩)
   ·rw [List.map_append]
    exact ths_app t3 (ths_one tv)
   ·rcases List.mem_append.mp hz with hz | hz
    ·exact m3 z hz
    ·cases List.mem_singleton.mp hz; exact hm
 ·rintro σ H3 ⟨_,s3,D,ys,e3,t3,l3,m3⟩
  exact h σ H3 D ys s3 e3 t3 (by omega) m3
structure Bs (C:Addr) (H1 H:Hp) (p n a x du:Addr) (c:Int) (ns ss:List Str) (qs ps:List PA2) (rd:List (Addr × Row)):Prop where
 web:WebAt C H x ns qs
 ld:RL H du rd
 en:H n = some (.lst (ss.map V.str))
 ea:H a = some (.lst (refs ps))
 pa:∀ q ∈ ps,PairIn H q
 lf:LeftAt H p c
 sm:Same H1 H
section
variable {C:Addr} {H1 H H':Hp} {p n a x du:Addr} {c c':Int} {ns ss:List Str} {qs ps:List PA2} {rd:List (Addr × Row)}
theorem Bs.same (h:Bs C H1 H p n a x du c ns ss qs ps rd) (s:Same H H'):Bs C H1 H' p n a x du c ns ss qs ps rd:=⟨h.web.same s,h.ld.same s,s _ _ h.en,s _ _ h.ea,same_pairs s h.pa,h.lf.same s,h.sm.trans s⟩
theorem Bs.sms (h:Bs C H1 H p n a x du c ns ss qs ps rd) (hp:H1 p = none) (k:Sm [p] H H') (L:LeftAt H' p c'):Bs C H1 H' p n a x du c' ns ss qs ps rd:=⟨h.web.sm h.lf k,h.ld.sm h.lf k,Sm1 k h.en (h.lf.ne h.en),Sm1 k h.ea (h.lf.neP h.ea),fun q hq=>pair_sm (h.pa q hq) h.lf k,L,fun b o e=>k b o (h.sm b o e) (by simpa using ne_of_none e hp)⟩
end
noncomputable def Ask (H:Hp) (v:V):Prop:=∃ d,Th H d v/\(∀ ds,d ≠ .tuple ds)/\Fit d
theorem Ask.same {H H':Hp} {v:V} (h:Ask H v) (s:Same H H'):Ask H' v:=let ⟨d,t,r⟩:=h; ⟨d,t.same s,r⟩
theorem ask_none {H:Hp}:Ask H .non:=⟨.none,(by simp [Th]),(fun _ e=>by cases e),fun _ e=>(by rcases e with e | e <;> cases e)⟩
theorem ask_str {H:Hp} {x:Str}:Ask H (.str x):=⟨.str x,(by simp [Th]),(fun _ e=>by cases e),fun _ e=>(by rcases e with e | e <;> cases e)⟩
theorem ask_int {H:Hp} {x:Int}:Ask H (.int x):=⟨.int x,(by simp [Th]),(fun _ e=>by cases e),fun _ e=>(by rcases e with e | e <;> cases e)⟩
theorem ask_bl {H:Hp} {x:Bool}:Ask H (.bl x):=⟨.bool x,(by simp [Th]),(fun _ e=>by cases e),fun _ e=>(by rcases e with e | e <;> cases e)⟩
theorem ask_list {H:Hp} {ds:List PyData} {v:V} (t:Th H (.list ds) v) (f:Fit (.list ds)):Ask H v:=⟨_,t,(fun _ e=>by cases e),f⟩
section
variable {P:Program} {w:World} {K:PySem.W.Frag} {mg:Str->Option Value} {base:Heap}
theorem sc_law:FnScope ["_law_script", "_law_k", "_law_left_here", "_law_names", "_law_strikes_here", "_law_web", "_law_rows", "_law_turn", "_law_bent_here", "_law_thing"] ["_law_script"] (defScope s_law):=⟨rfl,rfl,rfl,by decide +kernel,rfl,by decide +kernel,by decide +kernel⟩
noncomputable def sp_law (K:PySem.W.Frag):Sp:=fun vs H Q _=>∃ (u:Addr) (xs:List Int),vs = [.ref u]/\SqL K H u (xs.map V.int)/\xs.length<=63/\∀ H',Q (.bl true) H'
set_option maxHeartbeats 8000000 in
theorem ok_law (T:Tx K mg) {f:Addr} {fd:FuncData} (F:Fun K "law" "law" s_law f fd):FnOk P w K mg base CX0 6 f fd ["_law_script"] (sp_law K):=by
 have G_law_left:FnOk P w K mg base CX0 1 T.law_left.f T.law_left.fd ["_law_script", "_law_k"] (sp_left K):=ok_law_left T
 have G_law_pick:FnOk P w K mg base CX0 2 T.law_pick.f T.law_pick.fd ["_law_left_here", "_law_many"] sp_pick:=ok_law_pick T
 have G_law_size:FnOk P w K mg base CX0 3 T.law_size.f T.law_size.fd ["_law_left_here"] sp_size:=ok_law_size T
 have G_law_many_names:FnOk P w K mg base CX0 3 T.law_many_names.f T.law_many_names.fd ["_law_left_here", "_law_many"] sp_many:=ok_law_many_names T
 have G_law_strikes:FnOk P w K mg base CX0 3 T.law_strikes.f T.law_strikes.fd ["_law_left_here", "_law_names"] (sp_strikes K):=ok_law_strikes T
 have G_Web___init__:FnOk P w K mg base CX0 3 T.fWeb___init__ T.fdWeb___init__ ["self", "names", "strikes"] (sp_Web_init K T.CWeb):=ok_Web_init T
 have G_law_rounds:FnOk P w K mg base CX0 2 T.law_rounds.f T.law_rounds.fd ["_law_names", "_law_strikes_here"] sp_lrounds:=ok_law_rounds T
 have G_law_bent:FnOk P w K mg base CX0 4 T.law_bent.f T.law_bent.fd ["_law_left_here", "_law_rows"] sp_bent:=ok_law_bent T
 have G_law_is_row:FnOk P w K mg base CX0 1 T.law_is_row.f T.law_is_row.fd ["_law_row"] sp_lis_rowA:=ok_law_is_row T
 have G_law_says:FnOk P w K mg base CX0 1 T.law_says.f T.law_says.fd ["_law_found", "_law_due"] sp_says:=ok_law_says T
 have G_shows_least:FnOk P w K mg base CX0 4 T.shows_least.f T.shows_least.fd ["web", "rows"] (sp_showsA T.CWeb):=ok_shows_least T
 have G_law_good:FnOk P w K mg base CX0 2 T.law_good.f T.law_good.fd ["_law_names", "_law_strikes_here", "_law_rows"] sp_goodA:=ok_law_good T
 have G_law_ring_false:FnOk P w K mg base CX0 5 T.law_ring_false.f T.law_ring_false.fd ["_law_left_here"] sp_ringF:=ok_law_ring_false T
 have sc:=sc_law
 refine F.ok sc_law (fun vs H Q E h=>?_) (fun cdv A outer s H vs Q E hr h=>?_)
 ·obtain ⟨u,xs,rfl,_⟩:=h
  rfl
 ·obtain ⟨u,xs,rfl,hS,hlen,q⟩:=h
  refine ⟨_,(@pss_cons _ _ _ _ _ (ps_for PassesOwn.never rfl (piR1 T.b_range (pa_cons (pe_op op_add (pe_bf (call_min2 rfl) T.b_min bt_min (pa_cons pe_int (pa_cons (pe_bf (cl_len K) T.b_len bt_len (pa_cons (pv 0) pa_nil)) pa_nil))) pe_int) pa_nil)) (pg_name (i:=1) sc.nd rfl (by first | exact Or.inl rfl | exact Or.inr rfl))
   (pss_cons (ps_set (i:=2) sc.nd rfl (by first | exact Or.inl rfl | exact Or.inr rfl) (pe_fn T.law_left G_law_left (hr.mono (by decide)) (pa_cons (pv 0) (pa_cons (pv 1) pa_nil))))
   (pss_cons (ps_asg (pe_op op_add (pe_ix (ixL K) (pv 2) pe_int (fun _ _=>rfl)) pe_int) (pg_sub (pv 2) pe_int set_list))
   (pss_cons (ps_set (i:=3) sc.nd rfl (by first | exact Or.inl rfl | exact Or.inr rfl) (pe_fn T.law_many_names G_law_many_names (hr.mono (by decide)) (pa_cons (pv 2) (pa_cons (pe_fn T.law_size G_law_size (hr.mono (by decide)) (pa_cons (pv 2) pa_nil)) pa_nil))))
   (pss_cons (ps_set (i:=4) sc.nd rfl (by first | exact Or.inl rfl | exact Or.inr rfl) (pe_fn T.law_strikes G_law_strikes (hr.mono (by decide)) (pa_cons (pv 2) (pa_cons (pv 3) pa_nil))))
   (pss_cons (ps_set (i:=5) sc.nd rfl (by first | exact Or.inl rfl | exact Or.inr rfl) (pe_make T.mkWeb G_Web___init__ (hr.mono (by decide)) rfl T.mgWeb T.bWeb___init__ .nil pass0 (pa_cons (pv 3) (pa_cons (pv 4) pa_nil))))
   (pss_cons (ps_set (i:=6) sc.nd rfl (by first | exact Or.inl rfl | exact Or.inr rfl) (pe_fn T.law_rounds G_law_rounds (hr.mono (by decide)) (pa_cons (pv 3) (pa_cons (pv 4) pa_nil))))
   (pss_cons (ps_for PassesOwn.never rfl (piR1 T.b_range (pa_cons (pe_op op_mul pe_int (pe_bt call_int1 T.b_int bt_int (pa_cons (pe_cmpR (o_neD K hr.units) (pv 6) (pe_lst pa_nil) (nomark _)) pa_nil))) pa_nil)) (pg_name (i:=7) sc.nd rfl (by first | exact Or.inl rfl | exact Or.inr rfl))
   (pss_cons (ps_set (i:=8) sc.nd rfl (by first | exact Or.inl rfl | exact Or.inr rfl) (pe_fn T.law_bent G_law_bent (hr.mono (by decide)) (pa_cons (pv 2) (pa_cons (pv 6) pa_nil))))
   (pss_cons (ps_if (PW.pt (pw_and (pt_cmpR op_eq (pe_fn T.law_pick G_law_pick (hr.mono (by decide)) (pa_cons (pv 2) (pa_cons pe_int pa_nil))) pe_int (nomark _)) (pw_and1 (pt_cmpR (o_neD K hr.units) (pv 8) (pe_lst pa_nil) (nomark _))))) (pss_one (ps_set (i:=8) sc.nd rfl (by first | exact Or.inl rfl | exact Or.inr rfl) (pe_fn T.law_bent G_law_bent (hr.mono (by decide)) (pa_cons (pv 2) (pa_cons (pe_op op_cat (pe_lc (N':=["_law_row"]) (cap:=[none]) (cl:=[]) (cs_mk trivial trivial) rfl (piL K (pv 8)) (fun _ _ _ _=>by exact ⟨(pgC 0),(pts_one (pt_val (pe_fn T.law_is_row G_law_is_row (hr.mono (by decide)) (pa_cons (pv 0) pa_nil)))),(pv 0)⟩)) (pe_slice (slL K) (pv 6) po_none (po_some pe_int))) pa_nil))))) pss_nil)
   (pss_one (ps_if (pt_not (pt_val (pe_fn T.law_says G_law_says (hr.mono (by decide)) (pa_cons (pe_fn T.shows_least G_shows_least (hr.mono (by decide)) (pa_cons (pv 5) (pa_cons (pv 8) pa_nil))) (pa_cons (pe_fn T.law_good G_law_good (hr.mono (by decide)) (pa_cons (pv 3) (pa_cons (pv 4) (pa_cons (pv 8) pa_nil)))) pa_nil))))) (pss_one (ps_ret pe_bl)) pss_nil)))))
   (@pss_cons _ _ _ _ _ (@ps_for _ _ _ _ _ _ _ _ PassesOwn.never rfl (@piT _ K _ _ _ (@pe_tup _ _ _ _ _ (@pa_cons _ _ _ _ _ pe_non (@pa_cons _ _ _ _ _ pe_str (@pa_cons _ _ _ _ _ pe_int (@pa_cons _ _ _ _ _ pe_bl (@pa_cons _ _ _ _ _ (pe_op op_cat (pv 6) (pe_lst (pa_cons (pe_tup pa_nil) pa_nil))) (@pa_cons _ _ _ _ _ (pe_lst (pa_cons (pv 6) pa_nil)) pa_nil (by rfl)) (by rfl)) (by rfl)) (by rfl)) (by rfl)) (by rfl))) rfl) (pg_name (i:=9) sc.nd rfl (by first | exact Or.inl rfl | exact Or.inr rfl))
   (pss_one (ps_if (pt_not (pt_val (pe_fn T.law_says G_law_says (hr.mono (by decide)) (pa_cons (pe_fn T.shows_least G_shows_least (hr.mono (by decide)) (pa_cons (pv 5) (pa_cons (pv 9) pa_nil))) (pa_cons (pe_fn T.law_good G_law_good (hr.mono (by decide)) (pa_cons (pv 3) (pa_cons (pv 4) (pa_cons (pv 9) pa_nil)))) pa_nil))))) (pss_one (ps_ret pe_bl)) pss_nil)) (fun _=>rfl))
   (pss_one (ps_if (pt_not (pt_val (pe_fn T.law_ring_false G_law_ring_false (hr.mono (by decide)) (pa_cons (pv 2) pa_nil)))) (pss_one (ps_ret pe_bl)) pss_nil)))))))))))
   (pss_one (ps_ret pe_bl))),?_⟩
  refine ⟨_,rfl,u,_,rfl,.inl hS,_,_,rfl,?_⟩
  have hz:∀ l:Int,0<=l->∃ z:Nat,(if l < (6:Int) then l else 6) + 1 = (z:Int)/\z<=7:=fun l h0=>by
   by_cases h1:l < (6:Int)
   ·rw [if_pos h1]; exact ⟨l.toNat + 1,by omega,by omega⟩
   ·rw [if_neg h1]; exact ⟨7,by decide,by decide⟩
  obtain ⟨z,ez,hz⟩:=hz ((xs.map V.int).length:Int) (by omega)
  refine ex2_3 rfl rfl (ex1 (a:=(z:Int)) (congrArg (fun t=>[V.int t]) ez) ⟨by omega,by omega,?_⟩)
  rw [Int.toNat_natCast]
  refine for_rangeG (fun i σ H1=>(∃ v1 v2 v3 v4 v5 v6 v7 v8 v9,σ = [some (.ref u),v1,v2,v3,v4,v5,v6,v7,v8,v9])/\Same H H1) ?_ ?_ ?_
  ·exact ⟨⟨_,_,_,_,_,_,_,_,_,rfl⟩,fun b o e=>e⟩
  ·rintro i σ H1 hi ⟨⟨v1,v2,v3,v4,v5,v6,v7,v8,v9,rfl⟩,s1⟩ D1 hD1 hrt1
   rw [Int.zero_add]
   refine g_seq fun N1 hN1=>?_
   refine ex1 rfl (ex1 rfl ⟨u,xs,i,rfl,(s1.at u).seqL hS,by omega,fun p H3 hp s3 L3=>?_⟩)
   refine hN1 _ _ (seq_gen fun N2 hN2=>?_)
   obtain ⟨a0,b0,e0,c0⟩:=L3
   refine ex1 rfl ⟨p,_,ex2_3 rfl rfl ⟨SqL.of e0,rfl,ex2_3 rfl rfl (ex1 rfl ⟨p,_,_,1,rfl,rfl,e0,rfl,?_⟩)⟩⟩
   have L4:LeftAt (upd H3 p (.lst [.int a0,.int (b0 + 300),.int 0])) p 0:=⟨a0,b0 + 300,upd_same,by decide⟩
   have k4:Sm [p] H3 (upd H3 p (.lst [.int a0,.int (b0 + 300),.int 0])):=(Sm.refl _ _).upd (by simp)
   show N2 _ (upd H3 p (.lst [.int a0,.int (b0 + 300),.int 0]))
   generalize upd H3 p (.lst [.int a0,.int (b0 + 300),.int 0]) = H4 at L4 k4 ⊢
   refine hN2 _ _ (seq_gen fun N3 hN3=>?_)
   refine ex1 rfl (ex1 rfl ⟨p,_,rfl,L4,by omega,fun m H5 hm k5 L5=>?_⟩)
   refine ⟨p,_,m,rfl,L5,by omega,by omega,fun n ss H6 hn6 k6 en l6 No L6=>?_⟩
   refine hN3 _ _ (seq_gen fun N4 hN4=>?_)
   refine ex1 rfl (ex1 rfl ⟨p,n,_,ss,rfl,L6,by omega,en,No,by omega,fun a ps c H7 ha7 k7 ea pa O7 hc7 L7=>?_⟩)
   have en:=Sm1 k7 en (L6.ne en)
   have k17:Sm [p] H1 H7:=(((s3.sm.trans k4).trans k5).trans k6).trans k7
   have s17:Same H1 H7:=fun b o e=>k17 b o e (by simpa using ne_of_none e hp)
   have hc:c<=2000:=by omega
   clear k17 k7 k6 k5 k4 s3 L6 L5 L4 e0 hn6 ha7 hc7
   refine hN4 _ _ (seq_gen fun N5 hN5=>?_)
   refine ex1 rfl (ex1 rfl ?_)
   intro x dx nx ndx nex
   have s0:Same H7 (upd (upd H7 dx (.own x)) x (.ins T.CWeb dx [])):=fun b o e=>by
    rw [upd_ne (ne_of_none e nx),upd_ne (ne_of_none e ndx)]
    exact e
   refine ex6_8 (a:=x) (b:=dx) (c:=n) (d:=ss) (e:=a) (f:=ps) rfl upd_same (.inl (SqL.of (s0 _ _ en))) No (s0 _ _ ea) (same_pairs s0 pa) O7 fun ns qs H8 pn srn pq srq k8 W8 _=>⟨rfl,?_⟩
   have s78:Same H7 H8:=fun b o e=>k8 b o (s0 b o e) (by simpa using ne_of_none e nx)
   have nmn:∀ y ∈ ns,nameB y = true:=fun y hy=>No.1 y (pn.mem_iff.mp hy)
   clear k8 s0
   refine hN5 _ _ (seq_gen fun N6 hN6=>?_)
   refine ex1 rfl (ex1 rfl ⟨n,a,ss,ns,ps,rfl,s78 _ _ en,No,s78 _ _ ea,same_pairs s78 pa,O7,pn,srn,fun du rd H9 s9 hdu LD RD lrd=>?_⟩)
   obtain ⟨D,eD,mD⟩:=RD.mks
   have s79:=s78.trans s9
   have B9:Bs T.CWeb H1 H9 p n a x du c ns ss qs ps rd:=⟨W8.same s9,LD,s79 _ _ en,s79 _ _ ea,same_pairs s79 pa,L7.same s79,s17.trans s79⟩
   have okD:∀ d ∈ D,PySem.PyData.strOk d.1 = true:=fun d hd=>nameB_ok (nmn _ (mD d hd))
   have goD:∀ e ∈ D.map rdE,Go e:=fun e he=>by
    obtain ⟨d,hd,rfl⟩:=List.mem_map.mp he
    exact go_rd (okD d hd)
   have lD:=rows_len eD
   clear s79 s78 s9 W8 LD en ea pa L7 s17 RD hdu mD nx ndx nex
   refine hN6 _ _ (seq_gen fun N7 hN7=>?_)
   have ask:∀ (v:V) (HX:Hp) (cX:Int) (G:Bool->Hp->Prop),Bs T.CWeb H1 HX p n a x du cX ns ss qs ps rd->Ask HX v->(∀ HY,Same HX HY->G true HY)->∀ sg:St,sg[3]? = some (some (.ref n))->sg[4]? = some (some (.ref a))->sg[5]? = some (some (.ref x))->∀ j:Nat,sg[j]? = some (some v) ->
     tB (tCall sp_says [] E0 (tCons (tCall (sp_showsA T.CWeb) [] E0 (tCons (tVar 5) (tCons (tVar j) tNil))) (tCons (tCall sp_goodA [] E0 (tCons (tVar 3) (tCons (tVar 4) (tCons (tVar j) tNil)))) tNil))) sg HX G:=fun v HX cX G BX ⟨d,td,nt,ft⟩ hG sg g3 g4 g5 j gj=>by
    refine ⟨_,g5,_,gj,x,v,ns,qs,d,rfl,BX.web,td,nmn,ft,fun b1 H2 s2 hb1=>?_⟩
    have B2:=BX.same s2
    refine ⟨_,g3,_,g4,_,gj,n,a,v,ss,ps,d,rfl,B2.en,No,B2.ea,B2.pa,O7,td.same s2,nt,ft,fun b2 H3 s3 hb2=>?_⟩
    have eb:b1 = b2:=Bool.eq_iff_iff.mpr (hb1.trans ((show_perm pn fun m y=>by
     rw [mem_strikers,mem_strikers]
     exact (pq.map fun q=>q.2).mem_iff).trans hb2.symm))
    refine ⟨b1,b2,rfl,true,by rw [decide_eq_true eb],hG H3 (s2.trans s3)⟩
   have hne:∀ {HX:Hp} {cX:Int} {G:VK},Bs T.CWeb H1 HX p n a x du cX ns ss qs ps rd->(∀ HY,Same HX HY->G (.bl (!(D.map rdE).isEmpty)) HY)->∀ e,HX e = none->rNeD K (.ref du) (.ref e) (upd HX e (.lst [])) G:=fun {HX cX G} BX hG e he=>by
    have ue:=Same.new (o:=.lst []) he
    have R:=BX.ld.same ue
    exact ⟨.list (D.map rdE),.list [],(th_list R.1 (ths_rows eD R.2)).rp,rp_nil (SqL.of upd_same),pl_list goD,pl_nil,by rw [eqv_nil]; exact hG _ ue⟩
   refine ex1 rfl ⟨Nat.zero_le _,hne B9 fun HA sA=>.inr ⟨_,rfl,?_⟩⟩
   have BA:=B9.same sA
   obtain ⟨zz,ezz,hzz,hpos⟩:∃ zz:Nat,(12:Int) * (if (!(D.map rdE).isEmpty) = true then 1 else 0) = (zz:Int)/\zz<=12/\(0 < zz->D ≠ []):=by
    cases D with
    | nil=>exact ⟨0,rfl,by decide,fun h=>absurd h (by decide)⟩
    | cons y r=>exact ⟨12,rfl,by decide,fun _ h=>by cases h⟩
   refine ex2_3 rfl rfl ⟨.inl ⟨by decide,by decide⟩,ex1 (a:=(zz:Int)) (congrArg (fun t=>[V.int t]) ezz) ⟨by omega,by omega,?_⟩⟩
   rw [Int.toNat_natCast]
   clear B9 sA
   refine for_rangeG (fun j σ HB=>(∃ v7 v8 v9,σ = [some (.ref u),some (.int (i:Int)),some (.ref p),some (.ref n),some (.ref a),some (.ref x),some (.ref du),v7,v8,v9])/\∃ cB,Bs T.CWeb H1 HB p n a x du cB ns ss qs ps rd/\cB<=2000 + 30 * (j:Int)) ?_ ?_ ?_
   ·exact ⟨⟨_,_,_,rfl⟩,c,BA,by omega⟩
   ·rintro j σ HB hj ⟨⟨v7,v8,v9,rfl⟩,cB,BB,hcB⟩ D2 hD2 hrt2
    have D0:D ≠ []:=hpos (by omega)
    rw [Int.zero_add]
    refine g_seq fun M1 hM1=>?_
    refine ex1 rfl (ex1 rfl ⟨p,du,cB,rd,D,rfl,BB.lf,by omega,BB.ld,eD,okD,D0,by omega,fun b ds cC HC kC tC lC gC LC hcC=>?_⟩)
    have BC:=BB.sms hp kC LC
    refine hM1 _ _ (seq_gen fun M2 hM2=>?_)
    have fin:∀ (b:Addr) (ds:List PyData) (cX:Int) (HX:Hp),Bs T.CWeb H1 HX p n a x du cX ns ss qs ps rd->Th (er HX p) (.list ds) (.ref b)->ds.length<=1000->(∀ e ∈ ds,Go e)->cX<=2000 + 30 * (j:Int) + 30->M2 [some (.ref u),some (.int (i:Int)),some (.ref p),some (.ref n),some (.ref a),some (.ref x),some (.ref du),some (.int (j:Int)),some (.ref b),v9] HX:=fun b ds cX HX BX tX lX gX hcX=>by
     refine hM2 _ _ ?_
     refine ask (.ref b) HX cX _ BX (ask_list (tX.same er_same) (go_list lX gX)) (fun HY sY=>iteF (hD2 _ _ ⟨⟨_,_,_,rfl⟩,cX,BX.same sY,?_⟩)) _ rfl rfl rfl 8 rfl
     rw [Int.natCast_add]
     omega
    refine ex1 rfl (ex3_6 (a:=p) rfl BC.lf (by omega) (by decide) (by decide) fun d3 HD hd3 kD LD=>?_)
    have BD:=BC.sms hp kD LD
    have tD:=tC.same (er_sm kD)
    clear BC tC LC kC BB
    refine ⟨rfl,ex1 rfl (ite2 (fun z=>?_) (fun z=>iteF (fin b ds _ HD BD tD (by omega) gC (by omega))))⟩
    have tD':=tD.same er_same
    have tl:=tD'
    simp only [Th] at tl
    obtain ⟨b',vs,eb',hb',tvs⟩:=tl
    cases eb'
    refine ex1 rfl ⟨Nat.zero_le _,fun e he=>?_⟩
    have ue:=Same.new (o:=.lst []) he
    refine ⟨.list ds,.list [],(tD'.same ue).rp,rp_nil (SqL.of upd_same),pl_list gC,pl_nil,?_⟩
    rw [eqv_nil]
    have BE:=BD.same ue
    have tE:=tD.same (er_mono ue)
    have hbE:=ue _ _ hb'
    have tvE:=tvs.same ue
    generalize upd HD e (.lst []) = HE at BE tE hbE tvE ⊢
    clear ue he tD tD' BD hb' tvs kD LD
    refine ex1 rfl (ite2 (fun z=>?_) (fun z=>fin b ds _ HE BE tE (by omega) gC (by omega)))
    refine ex1 rfl (ex1 rfl ⟨b,rfl,⟨_,SqL.of hbE⟩,fun C hC=>?_⟩)
    refine lc_isrow hbE tvE (by omega) hC (fun y hy vy ty H3 s3 Q' hQ=>?_) (fun σ HF DF ys sF eF tF lF mF=>?_) _
    ·exact ex1 rfl ⟨vy,y,rfl,ty.same s3,(fun a b c ee=>by subst ee; exact go_pl (gC _ hy)),fun bb H4 s4 hb=>⟨bb,rfl,hQ bb H4 s4 hb⟩⟩
    have BF:=BE.same sF
    have tF:=tF.same sF
    refine ex1 rfl (ex1 rfl ⟨du,_,rfl,SqL.of BF.ld.1,fun b2 hb2=>?_⟩)
    rw [show (some 1:Option Int) = some ((1:Nat):Int) from rfl,cut_take]
    have u2:=Same.new (o:=.lst ((rd.map fun q=>V.ref q.1).take 1)) hb2
    have ly:=tF.length
    rw [List.length_map] at ly
    refine ⟨C,b2,_,_,rfl,rfl,u2 _ _ eF,upd_same,by rw [List.length_take,List.length_map,sizeLine_eq]; omega,fun b3 hb3=>?_⟩
    have u3:=Same.new (o:=.lst (ys ++ (rd.map fun q=>V.ref q.1).take 1)) hb3
    have u:=u2.trans u3
    have BG:=BF.same u
    have tG:Ths (upd (upd HF b2 (.lst ((rd.map fun q=>V.ref q.1).take 1))) b3 (.lst (ys ++ (rd.map fun q=>V.ref q.1).take 1))) ((DF ++ D.take 1).map rdE) (ys ++ (rd.map fun q=>V.ref q.1).take 1):=by
     rw [List.map_append]
     have t1:=ths_rows (rs:=rd.take 1) (D:=D.take 1) (by rw [List.map_take,List.map_take,eD]) fun q hq=>BG.ld.2 q (List.mem_of_mem_take hq)
     exact ths_app (tF.same u) (by rw [List.map_take] at t1; rw [List.map_take]; rw [List.map_take] at t1; exact t1)
    obtain ⟨rg,eg,hg,eDg⟩:=marks_rows tG
    have lg:(upd (upd HF b2 (.lst ((rd.map fun q=>V.ref q.1).take 1))) b3 (.lst (ys ++ (rd.map fun q=>V.ref q.1).take 1))) b3 = some (.lst (rg.map fun q=>V.ref q.1)):=by rw [upd_same,eg]
    generalize upd (upd HF b2 (.lst ((rd.map fun q=>V.ref q.1).take 1))) b3 (.lst (ys ++ (rd.map fun q=>V.ref q.1).take 1)) = HG at BG hg lg tG ⊢
    clear tG u u2 u3 hb2 hb3 BF tF eF sF hC tvE hbE
    refine ⟨p,b3,_,rg,DF ++ D.take 1,rfl,BG.lf,by omega,⟨lg,hg⟩,eDg,fun d hd=>?_,?_,?_,fun b4 ds4 c4 HI kI tI lI gI LI hcI=>?_⟩
    ·rcases List.mem_append.mp hd with hd | hd
     ·exact str_pl (go_pl (gC _ (mF d hd))).1
     ·exact okD d (List.mem_of_mem_take hd)
    ·intro h0
     have:=(List.append_eq_nil_iff.mp h0).2
     cases D with
     | nil=>exact D0 rfl
     | cons y r=>cases this
    ·rw [List.length_append,List.length_take]; omega
    ·refine fin b4 ds4 c4 HI (BG.sms hp kI LI) tI ?_ gI (by omega)
     rw [List.length_append,List.length_take] at lI
     omega
   ·rintro σ HB ⟨⟨v7,v8,v9,rfl⟩,cB,BB,hcB⟩
    clear BA
    refine hN7 _ _ (seq_gen fun N8 hN8=>?_)
    refine ex1 rfl ⟨Nat.zero_le _,fun t1 ht1=>⟨by show 1<=sizeLine; decide,fun t2 ht2=>?_⟩⟩
    have u1:=Same.new (o:=.tup []) ht1
    have u2:=Same.new (o:=.lst [V.ref t1]) ht2
    have f1:=u2 _ _ (upd_same (H:=HB) (a:=t1) (o:=.tup []))
    refine ⟨du,t2,_,_,rfl,rfl,u2 _ _ (u1 _ _ BB.ld.1),upd_same,by rw [List.length_map,sizeLine_eq]; show rd.length + 1<=_; omega,fun t3 ht3=>?_⟩
    have u3:=Same.new (o:=.lst ((rd.map fun q=>V.ref q.1) ++ [V.ref t1])) ht3
    have f3:(upd (upd (upd HB t1 (.tup [])) t2 (.lst [V.ref t1])) t3 (.lst ((rd.map fun q=>V.ref q.1) ++ [V.ref t1]))) t3 = some (.lst ((rd.map fun q=>V.ref q.1) ++ [V.ref t1])):=upd_same
    have f1:=u3 _ _ f1
    have B3:=((BB.same u1).same u2).same u3
    generalize upd (upd (upd HB t1 (.tup [])) t2 (.lst [V.ref t1])) t3 (.lst ((rd.map fun q=>V.ref q.1) ++ [V.ref t1])) = H3 at f1 f3 B3 ⊢
    refine ex1 rfl ⟨by show 1<=sizeLine; decide,fun t4 ht4=>⟨by show 6<=sizeLine; decide,fun t5 ht5=>?_⟩⟩
    have u4:=Same.new (o:=.lst [V.ref du]) ht4
    have f4:(upd H3 t4 (.lst [V.ref du])) t4 = some (.lst [V.ref du]):=upd_same
    have u5:=Same.new (o:=.tup [V.non,V.str (Str.ofString "in"),V.int 0,V.bl true,V.ref t3,V.ref t4]) ht5
    have f5:(upd (upd H3 t4 (.lst [V.ref du])) t5 (.tup [V.non,V.str (Str.ofString "in"),V.int 0,V.bl true,V.ref t3,V.ref t4])) t5 = some (.tup [V.non,V.str (Str.ofString "in"),V.int 0,V.bl true,V.ref t3,V.ref t4]):=upd_same
    have f1:=u5 _ _ (u4 _ _ f1)
    have f3:=u5 _ _ (u4 _ _ f3)
    have f4:=u5 _ _ f4
    have B5:=(B3.same u4).same u5
    generalize upd (upd H3 t4 (.lst [V.ref du])) t5 (.tup [V.non,V.str (Str.ofString "in"),V.int 0,V.bl true,V.ref t3,V.ref t4]) = H5 at f1 f3 f4 f5 B5 ⊢
    clear u1 u2 u3 u4 u5 ht1 ht2 ht3 ht4 ht5 B3 BB
    have tr:=ths_rows eD B5.ld.2
    have a3:Ask H5 (.ref t3):=by
     refine ask_list (th_list f3 (ths_app tr (ths_one (d:=.tuple []) ?_))) (go_list (by rw [List.length_append,List.length_map]; show D.length + 1<=_; omega) fun e he=>?_)
     ·simp only [Th,Ths]
      exact ⟨t1,_,rfl,f1,rfl⟩
     ·rcases List.mem_append.mp he with he | he
      ·exact goD e he
      ·cases List.mem_singleton.mp he
       exact ⟨by decide +kernel,by decide +kernel⟩
    have a4:Ask H5 (.ref t4):=by
     refine ask_list (th_list f4 (ths_one (th_list B5.ld.1 tr))) fun ds' e=>?_
     rcases e with e | e
     ·cases e
      refine ⟨by show 1<=1000; decide,fun e he a b c ee=>?_⟩
      cases List.mem_singleton.mp he
      cases ee
     ·cases e
    have all:∀ v ∈ [V.non,V.str (Str.ofString "in"),V.int 0,V.bl true,V.ref t3,V.ref t4],Ask H5 v:=mem_c ask_none (mem_c ask_str (mem_c ask_int (mem_c ask_bl (mem_c a3 (mem_c a4 mem_0)))))
    refine ⟨t5,rfl,⟨_,SqT.of f5⟩,for_asG (asT (SqT.of f5)) (fun k σ H6=>(∃ v9,σ = [some (.ref u),some (.int (i:Int)),some (.ref p),some (.ref n),some (.ref a),some (.ref x),some (.ref du),v7,v8,v9])/\Same H5 H6) ⟨⟨_,rfl⟩,fun b o e=>e⟩ (fun k σ H6 _ ⟨_,s6⟩=>s6.at t5) ?_ ?_⟩
    ·rintro k σ H6 v hv ⟨⟨v9,rfl⟩,s6⟩ D2 hD2 _
     exact ask v H6 _ _ (B5.same s6) ((all v (List.mem_of_getElem? hv)).same s6) (fun HY sY=>iteF (hD2 _ _ ⟨⟨_,rfl⟩,s6.trans sY⟩)) _ rfl rfl rfl 9 rfl
    ·rintro σ H6 ⟨⟨v9,rfl⟩,s6⟩
     have B6:=B5.same s6
     refine hN8 _ _ ?_
     refine ex1 rfl ⟨p,cB,rfl,B6.lf,by omega,fun c7 H7 k7 L7 hc7=>ex1 rfl (iteF (hD1 _ _ ⟨⟨_,_,_,_,_,_,_,_,_,rfl⟩,s1.trans (B6.sms hp k7 L7).sm⟩))⟩
  ·rintro σ H1 ⟨_,s1⟩
   exact q H1
end
end Sw
namespace Sw
open PySem L2
section
variable {K:PySem.W.Frag} {h:Heap} {mg:Str->Option Value}
noncomputable def fn_mk {x:Str} {st:Stmt} {ps:List Str} {f:Addr} {oc:Value} {od an:Option Addr} {osl:Array (Option Value)} {kV doc pm cdv ct:Value} (X:K.In h) (G:h.Ns mainGlobals mg) (a:PySem.W.nsIn K mainGlobals x = some (some (.ref f)))
  (l:K.lookup f = some ⟨oc,od,.func (PySem.W.fnOf x x (defArgs st) (defBody st) (defScope st) .none kV doc pm an cdv ct),osl⟩) (c:PySem.W.codeIn K cdv x = true) (k:PySem.W.keepIn K (.ref f) = true)
  (hb:∀ (kV doc pm:Value) (an:Option Addr) (cdv ct:Value) (us:List Value),us.length = ps.length->bindArgs (PySem.W.fnOf x x (defArgs st) (defBody st) (defScope st) .none kV doc pm an cdv ct) ⟨us,[]⟩ = pure (ps.zip us)):Fn K mg x st ps :=
 ⟨f,_,fun_mk l c k,(fun_mk l c k).binds hb,PySem.W.mg_of X G a⟩
noncomputable def mt_mk {C:Addr} {x q:Str} {st:Stmt} {ps:List Str} {f:Addr} {oc:Value} {od an:Option Addr} {osl:Array (Option Value)} {kV doc pm cdv ct:Value} (a:PySem.W.findIn K (.ref C) x = some (some (.ref f))) (i:PySem.W.isFn K (.ref f) = true)
  (l:K.lookup f = some ⟨oc,od,.func (PySem.W.fnOf x q (defArgs st) (defBody st) (defScope st) .none kV doc pm an cdv ct),osl⟩) (c:PySem.W.codeIn K cdv q = true) (k:PySem.W.keepIn K (.ref f) = true)
  (hb:∀ (kV doc pm:Value) (an:Option Addr) (cdv ct:Value) (us:List Value),us.length = ps.length->bindArgs (PySem.W.fnOf x q (defArgs st) (defBody st) (defScope st) .none kV doc pm an cdv ct) ⟨us,[]⟩ = pure (ps.zip us)):Mt K C x q st ps :=
 ⟨f,_,fun_mk l c k,(fun_mk l c k).binds hb,⟨a,i,k⟩⟩
theorem str_mk {x z:Str} {v:Value} (X:K.In h) (G:h.Ns mainGlobals mg) (a:PySem.W.nsIn K mainGlobals x = some (some v)) (e:∃ t,v = .str z t):∃ t,mg x = some (.str z t):=by
 obtain ⟨t,rfl⟩:=e
 exact ⟨t,PySem.W.mg_of X G a⟩
theorem int_mk {x:Str} {z:Int} {v:Value} (X:K.In h) (G:h.Ns mainGlobals mg) (a:PySem.W.nsIn K mainGlobals x = some (some v)) (e:∃ t,v = .int z t):∃ t,mg x = some (.int z t):=by
 obtain ⟨t,rfl⟩:=e
 exact ⟨t,PySem.W.mg_of X G a⟩
theorem len1 {us:List Value} (h:us.length = 1):∃ a,us = [a]:=List.length_eq_one_iff.mp h
theorem len2 {us:List Value} (h:us.length = 2):∃ a b,us = [a,b]:=by
 cases us with
 | nil=>cases h
 | cons a r=>obtain ⟨b,rfl⟩:=len1 (Nat.succ.inj h); exact ⟨a,b,rfl⟩
theorem len3 {us:List Value} (h:us.length = 3):∃ a b c,us = [a,b,c]:=by
 cases us with
 | nil=>cases h
 | cons a r=>obtain ⟨b,c,rfl⟩:=len2 (Nat.succ.inj h); exact ⟨a,b,c,rfl⟩
theorem len4 {us:List Value} (h:us.length = 4):∃ a b c d,us = [a,b,c,d]:=by
 cases us with
 | nil=>cases h
 | cons a r=>obtain ⟨b,c,d,rfl⟩:=len3 (Nat.succ.inj h); exact ⟨a,b,c,d,rfl⟩
theorem noattr_mk {C:Addr} {f:Str} (h:PySem.W.findIn K (.ref C) f = some none):NoAttr K C f:=h
end
theorem all_mk {l:PySem.W.OpenLaw} {w:World} {K:PySem.W.Frag} {h:Heap} {mg:Str->Option Value} {fa f:Addr} {oc:Value} {od an:Option Addr} {osl:Array (Option Value)} {kV doc pm cdv ct:Value} (X:K.In h) (G:h.Ns mainGlobals mg) (hfa:mg "law" = some (.ref fa))
  (T:Tx K mg) (a:PySem.W.nsIn K mainGlobals "law" = some (some (.ref f))) (lk:K.lookup f = some ⟨oc,od,.func (PySem.W.fnOf "law" "law" (defArgs s_law) (defBody s_law) (defScope s_law) .none kV doc pm an cdv ct),osl⟩) (c:PySem.W.codeIn K cdv "law" = true) (k:PySem.W.keepIn K (.ref f) = true) :
  ∃ fd:FuncData,(∀ (s:Shared) (v:Value),BindsTo s fd ⟨[v],[]⟩ [("_law_script",v)])/\∀ base:Heap,K.In base->base.Ns mainGlobals mg->FnOk l.prog w K mg base CX0 6 fa fd ["_law_script"] (sp_law K):=by
 have e:=hfa.symm.trans (PySem.W.mg_of X G a)
 cases e
 exact ⟨PySem.W.fnOf "law" "law" (defArgs s_law) (defBody s_law) (defScope s_law) .none kV doc pm an cdv ct,fun s v=>.of_eq rfl,fun base _ _=>ok_law T (fun_mk lk c k)⟩
theorem walk {l:PySem.W.OpenLaw} {q:Program} {loose:List Str} {XP:(Str->Option Value)->Heap->Prop} {YP:World->Heap->Prop} {d:DefRec} {K:Params->PySem.W.Frag} (hn:l.most = some 63) (hdf:d.params.defaults = [])
  (hY:∀ (w:World) (h:Heap),YP w h->(K w.params).In h)
  (F:∀ (w:World) (mg:Str->Option Value) (fa:Addr) (h:Heap),(K w.params).In h->h.Ns mainGlobals mg->mg d.name = some (.ref fa) ->
   ∃ fd:FuncData,(∀ (s:Shared) (u:Value),BindsTo s fd ⟨[u],[]⟩ [("_law_script",u)])/\∀ base:Heap,(K w.params).In base->base.Ns mainGlobals mg->FnOk l.prog w (K w.params) mg base CX0 6 fa fd ["_law_script"] (sp_law (K w.params))) :
  PySem.W.WalkO q loose XP YP l.row.toRowW d [] (fun f vs=>PySem.call f vs) :=
 L2.walk_of (n:=63) (k:=6) (x := "_law_script") (CX:=fun _=>CX0) (sp:=fun w=>sp_law (K w.params)) hn (by decide) hdf ⟨rfl,by decide,by decide⟩ hY F (fun _ _ a ns hl _ hS=>⟨a,ns,rfl,hS,hl,fun _=>rfl⟩) fun _ _ _ _ _ z=>z
end Sw
open PySem PySem.W PyProof.Rows
set_option maxRecDepth 100000 in
set_option maxHeartbeats 0 in
theorem PySem.Challenge.cw_strikeweave_k20_rows_that_show_nothing_holds : PySem.Challenge.rw_strikeweave_k20_rows_that_show_nothing.Holds := by
 w_on; o_law; k_head; (case hw=>w_witness2)
 k_fill
 refine Sw.walk (l:=PySem.Challenge.rw_strikeweave_k20_rows_that_show_nothing) rfl rfl (fun w h Y=>PySem.W.kIn_of Y) ?F
 case F =>
  intro w mg fa h KX G hmg
  refine' Sw.all_mk KX G hmg (Sw.Tx.mk (Sw.fn_mk KX G ?a1 ?l2 ?c3 ?k4 (fun _ _ _ _ _ _ us hl=>by obtain ⟨a,rfl⟩:=Sw.len1 hl; rfl))
   (Sw.fn_mk KX G ?a5 ?l6 ?c7 ?k8 (fun _ _ _ _ _ _ us hl=>by obtain ⟨a,rfl⟩:=Sw.len1 hl; rfl))
   (Sw.fn_mk KX G ?a9 ?l10 ?c11 ?k12 (fun _ _ _ _ _ _ us hl=>by obtain ⟨a,b,rfl⟩:=Sw.len2 hl; rfl))
   (Sw.fn_mk KX G ?a13 ?l14 ?c15 ?k16 (fun _ _ _ _ _ _ us hl=>by obtain ⟨a,b,rfl⟩:=Sw.len2 hl; rfl))
   (Sw.fn_mk KX G ?a17 ?l18 ?c19 ?k20 (fun _ _ _ _ _ _ us hl=>by obtain ⟨a,b,rfl⟩:=Sw.len2 hl; rfl))
   (Sw.fn_mk KX G ?a21 ?l22 ?c23 ?k24 (fun _ _ _ _ _ _ us hl=>by obtain ⟨a,b,rfl⟩:=Sw.len2 hl; rfl))
   (Sw.fn_mk KX G ?a25 ?l26 ?c27 ?k28 (fun _ _ _ _ _ _ us hl=>by obtain ⟨a,b,c,d,rfl⟩:=Sw.len4 hl; rfl))
   (Sw.fn_mk KX G ?a29 ?l30 ?c31 ?k32 (fun _ _ _ _ _ _ us hl=>by obtain ⟨a,rfl⟩:=Sw.len1 hl; rfl))
   (Sw.fn_mk KX G ?a33 ?l34 ?c35 ?k36 (fun _ _ _ _ _ _ us hl=>by obtain ⟨a,rfl⟩:=Sw.len1 hl; rfl))
   (Sw.fn_mk KX G ?a37 ?l38 ?c39 ?k40 (fun _ _ _ _ _ _ us hl=>by obtain ⟨a,b,rfl⟩:=Sw.len2 hl; rfl))
   (Sw.fn_mk KX G ?a41 ?l42 ?c43 ?k44 (fun _ _ _ _ _ _ us hl=>by obtain ⟨a,b,rfl⟩:=Sw.len2 hl; rfl))
   (Sw.fn_mk KX G ?a45 ?l46 ?c47 ?k48 (fun _ _ _ _ _ _ us hl=>by obtain ⟨a,b,rfl⟩:=Sw.len2 hl; rfl))
   (Sw.fn_mk KX G ?a49 ?l50 ?c51 ?k52 (fun _ _ _ _ _ _ us hl=>by obtain ⟨a,b,rfl⟩:=Sw.len2 hl; rfl))
   (Sw.fn_mk KX G ?a53 ?l54 ?c55 ?k56 (fun _ _ _ _ _ _ us hl=>by obtain ⟨a,b,rfl⟩:=Sw.len2 hl; rfl))
   (Sw.fn_mk KX G ?a57 ?l58 ?c59 ?k60 (fun _ _ _ _ _ _ us hl=>by obtain ⟨a,rfl⟩:=Sw.len1 hl; rfl))
   (Sw.fn_mk KX G ?a61 ?l62 ?c63 ?k64 (fun _ _ _ _ _ _ us hl=>by obtain ⟨a,b,rfl⟩:=Sw.len2 hl; rfl))
   (Sw.fn_mk KX G ?a65 ?l66 ?c67 ?k68 (fun _ _ _ _ _ _ us hl=>by obtain ⟨a,b,rfl⟩:=Sw.len2 hl; rfl))
   (Sw.fn_mk KX G ?a69 ?l70 ?c71 ?k72 (fun _ _ _ _ _ _ us hl=>by obtain ⟨a,b,rfl⟩:=Sw.len2 hl; rfl))
   (Sw.fn_mk KX G ?a73 ?l74 ?c75 ?k76 (fun _ _ _ _ _ _ us hl=>by obtain ⟨a,b,rfl⟩:=Sw.len2 hl; rfl))
   (Sw.fn_mk KX G ?a77 ?l78 ?c79 ?k80 (fun _ _ _ _ _ _ us hl=>by obtain ⟨a,b,rfl⟩:=Sw.len2 hl; rfl))
   (Sw.fn_mk KX G ?a81 ?l82 ?c83 ?k84 (fun _ _ _ _ _ _ us hl=>by obtain ⟨a,b,rfl⟩:=Sw.len2 hl; rfl))
   (Sw.fn_mk KX G ?a85 ?l86 ?c87 ?k88 (fun _ _ _ _ _ _ us hl=>by obtain ⟨a,rfl⟩:=Sw.len1 hl; rfl))
   (Sw.fn_mk KX G ?a89 ?l90 ?c91 ?k92 (fun _ _ _ _ _ _ us hl=>by obtain ⟨a,b,c,rfl⟩:=Sw.len3 hl; rfl))
   (Sw.fn_mk KX G ?a93 ?l94 ?c95 ?k96 (fun _ _ _ _ _ _ us hl=>by obtain ⟨a,b,rfl⟩:=Sw.len2 hl; rfl))
   (Sw.fn_mk KX G ?a97 ?l98 ?c99 ?k100 (fun _ _ _ _ _ _ us hl=>by obtain ⟨a,b,c,rfl⟩:=Sw.len3 hl; rfl))
   (Sw.fn_mk KX G ?a101 ?l102 ?c103 ?k104 (fun _ _ _ _ _ _ us hl=>by obtain ⟨a,b,rfl⟩:=Sw.len2 hl; rfl))
   (Sw.fn_mk KX G ?a105 ?l106 ?c107 ?k108 (fun _ _ _ _ _ _ us hl=>by obtain ⟨a,rfl⟩:=Sw.len1 hl; rfl))
   _
   ⟨?g110,?g111,?g112,?g113⟩
   (PySem.W.mg_of KX G ?q109)
   (Sw.noattr_mk ?n114)
   (Sw.noattr_mk ?n115)
   (Sw.noattr_mk ?n116)
   (Sw.noattr_mk ?n117)
   _
   _
   (L2.fun_mk ?l120 ?c121 ?k122)
   (L2.Fun.binds (L2.fun_mk ?l120 ?c121 ?k122) (fun _ _ _ _ _ _ us hl=>by obtain ⟨a,b,c,rfl⟩:=Sw.len3 hl; rfl))
   ⟨?g123,?a118,?i119,?k124⟩
   (Sw.mt_mk ?a125 ?i126 ?l127 ?c128 ?k129 (fun _ _ _ _ _ _ us hl=>by obtain ⟨a,rfl⟩:=Sw.len1 hl; rfl))
   (Sw.mt_mk ?a130 ?i131 ?l132 ?c133 ?k134 (fun _ _ _ _ _ _ us hl=>by obtain ⟨a,rfl⟩:=Sw.len1 hl; rfl))
   (Sw.mt_mk ?a135 ?i136 ?l137 ?c138 ?k139 (fun _ _ _ _ _ _ us hl=>by obtain ⟨a,b,rfl⟩:=Sw.len2 hl; rfl))
   (Sw.mt_mk ?a140 ?i141 ?l142 ?c143 ?k144 (fun _ _ _ _ _ _ us hl=>by obtain ⟨a,b,rfl⟩:=Sw.len2 hl; rfl))
   (Sw.mt_mk ?a145 ?i146 ?l147 ?c148 ?k149 (fun _ _ _ _ _ _ us hl=>by obtain ⟨a,b,rfl⟩:=Sw.len2 hl; rfl))
   (Sw.str_mk KX G ?v150 ?e151)
   (Sw.int_mk KX G ?v152 ?e153)
   (PySem.W.mg_none_of KX G ?z154)
   (PySem.W.mg_none_of KX G ?z155)
   (PySem.W.mg_none_of KX G ?z156)
   (PySem.W.mg_none_of KX G ?z157)
   (PySem.W.mg_none_of KX G ?z158)
   (PySem.W.mg_none_of KX G ?z159)
   (PySem.W.mg_none_of KX G ?z160)
   (PySem.W.mg_none_of KX G ?z161)
   (PySem.W.mg_none_of KX G ?z162)
   (PySem.W.mg_none_of KX G ?z163)
   (PySem.W.mg_none_of KX G ?z164)
   (PySem.W.mg_none_of KX G ?z165)
   (PySem.W.mg_none_of KX G ?z166)
   (PySem.W.mg_none_of KX G ?z167)
   (PySem.W.mg_none_of KX G ?z168)
   (PySem.W.mg_none_of KX G ?z169)) ?aL ?lL ?cL ?kL
  (case a1=>k_is); (case l2=>k_is); (case c3=>k_is); (case k4=>k_is); (case a5=>k_is); (case l6=>k_is)
  (case c7=>k_is); (case k8=>k_is); (case a9=>k_is); (case l10=>k_is); (case c11=>k_is); (case k12=>k_is)
  (case a13=>k_is); (case l14=>k_is); (case c15=>k_is); (case k16=>k_is); (case a17=>k_is); (case l18=>k_is)
  (case c19=>k_is); (case k20=>k_is); (case a21=>k_is); (case l22=>k_is); (case c23=>k_is); (case k24=>k_is)
  (case a25=>k_is); (case l26=>k_is); (case c27=>k_is); (case k28=>k_is); (case a29=>k_is); (case l30=>k_is)
  (case c31=>k_is); (case k32=>k_is); (case a33=>k_is); (case l34=>k_is); (case c35=>k_is); (case k36=>k_is)
  (case a37=>k_is); (case l38=>k_is); (case c39=>k_is); (case k40=>k_is); (case a41=>k_is); (case l42=>k_is)
  (case c43=>k_is); (case k44=>k_is); (case a45=>k_is); (case l46=>k_is); (case c47=>k_is); (case k48=>k_is)
  (case a49=>k_is); (case l50=>k_is); (case c51=>k_is); (case k52=>k_is); (case a53=>k_is); (case l54=>k_is)
  (case c55=>k_is); (case k56=>k_is); (case a57=>k_is); (case l58=>k_is); (case c59=>k_is); (case k60=>k_is)
  (case a61=>k_is); (case l62=>k_is); (case c63=>k_is); (case k64=>k_is); (case a65=>k_is); (case l66=>k_is)
  (case c67=>k_is); (case k68=>k_is); (case a69=>k_is); (case l70=>k_is); (case c71=>k_is); (case k72=>k_is)
  (case a73=>k_is); (case l74=>k_is); (case c75=>k_is); (case k76=>k_is); (case a77=>k_is); (case l78=>k_is)
  (case c79=>k_is); (case k80=>k_is); (case a81=>k_is); (case l82=>k_is); (case c83=>k_is); (case k84=>k_is)
  (case a85=>k_is); (case l86=>k_is); (case c87=>k_is); (case k88=>k_is); (case a89=>k_is); (case l90=>k_is)
  (case c91=>k_is); (case k92=>k_is); (case a93=>k_is); (case l94=>k_is); (case c95=>k_is); (case k96=>k_is)
  (case a97=>k_is); (case l98=>k_is); (case c99=>k_is); (case k100=>k_is); (case a101=>k_is); (case l102=>k_is)
  (case c103=>k_is); (case k104=>k_is); (case a105=>k_is); (case l106=>k_is); (case c107=>k_is); (case k108=>k_is)
  (case q109=>k_is); (case g110=>k_is); (case g111=>k_is); (case g112=>k_is); (case g113=>k_is); (case n114=>k_is)
  (case n115=>k_is); (case n116=>k_is); (case n117=>k_is); (case a118=>k_is); (case i119=>k_is); (case l120=>k_is)
  (case c121=>k_is); (case k122=>k_is); (case g123=>k_is); (case k124=>k_is); (case a125=>k_is); (case i126=>k_is)
  (case l127=>k_is); (case c128=>k_is); (case k129=>k_is); (case a130=>k_is); (case i131=>k_is); (case l132=>k_is)
  (case c133=>k_is); (case k134=>k_is); (case a135=>k_is); (case i136=>k_is); (case l137=>k_is); (case c138=>k_is)
  (case k139=>k_is); (case a140=>k_is); (case i141=>k_is); (case l142=>k_is); (case c143=>k_is); (case k144=>k_is)
  (case a145=>k_is); (case i146=>k_is); (case l147=>k_is); (case c148=>k_is); (case k149=>k_is); (case v150=>k_is)
  (case e151=>exact ⟨_,rfl⟩); (case v152=>k_is); (case e153=>exact ⟨_,rfl⟩); (case z154=>k_is); (case z155=>k_is); (case z156=>k_is)
  (case z157=>k_is); (case z158=>k_is); (case z159=>k_is); (case z160=>k_is); (case z161=>k_is); (case z162=>k_is)
  (case z163=>k_is); (case z164=>k_is); (case z165=>k_is); (case z166=>k_is); (case z167=>k_is); (case z168=>k_is)
  (case z169=>k_is); (case aL=>k_is); (case lL=>k_is); (case cL=>k_is); (case kL=>k_is)
