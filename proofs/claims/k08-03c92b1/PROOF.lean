import PyProof.Rows.All
import Wide.All
import OpenK.AllK
import Wide.FinOn
import PyProof.Rows.SortShellK
import KE.KSortTup
import Lean
import PyProof.EqAt
import PyProof.EqKinds
import PyProof.TupleCall
import PyProof.SetRoads
import PyProof.DictRoadsH
import PyProof.IsRules
import PyProof.CollectWalk
import PyProof.FactsAll.set
import PyProof.NeData
import PyProof.P3In
import PyProof.TupleOfSeq
import PyProof.ZipIter
import PyProof.Rows.ZipGen
import KE.KDictOf
import PyProof.AttrMissHeap
import PyProof.Rows.SumAny
import PyProof.DictIter
import PyProof.DictWalks
import PySem.Challenge.RW_strikeweave_k08_rings_lead_on
namespace PySem.W.Fast
def tw16152319710287643644:=0
def tw14539090642258179949:=0
def tw9757100051325041281:=0
def tw17026332946876090209:=0
def tw7960372162806072424:=0
def tw11859653878838604661:=0
def tw8618675406848296127:=0
def tw740442450311231812:=0
def tw4690677612678684458:=0
def tw9897768460323979163:=0
def tw2725486956823539331:=0
def tw1624496076926341289:=0
def tw8749277164900080787:=0
def tw10720819157056108396:=0
def tw6765255476910228232:=0
def tw1341050747529921791:=0
def tw12644721870389972882:=0
def tw12754995442776168386:=0
def tw7479897286781131965:=0
def tw2928296521864800676:=0
def tw12710790308354304545:=0
def tw14284725634240716752:=0
def tw7287804184449710304:=0
def tw13080243030730080643:=0
def tw9120196209017170584:=0
def tw15504409346570142165:=0
def tw6517176319618381882:=0
def tw4097980145493076797:=0
def tw7477131902580369801:=0
def tw7207312770563475403:=0
def tw3017107093716414246:=0
def tw11969360790705540004:=0
def tw4080369042376005249:=0
def tw15278586749185045568:=0
def tw13269477039913312438:=0
def tw13041008251090057127:=0
def tw2635170317050732011:=0
def tw10357614732012047054:=0
def tw13292736185031890842:=0
def tw1474259772869396252:=0
def tw17653983390514681924:=0
def tw12872943167228470674:=0
def tw4545453475078638754:=0
def tw7098929032573899331:=0
def tw12655850876914390493:=0
def tw7223082041934927082:=0
def tw17225163654687578982:=0
def tw17727826170750135734:=0
def tw7482673783614216110:=0
def tw17831612959010665722:=0
def tw8930057689030655738:=0
def tw14110915756586659162:=0
def tw12746498950654368939:=0
def tw12589055786480897250:=0
def tw8522202009603735373:=0
def tw17565925648316108254:=0
def tw18153779432678390741:=0
def tw8637699763131485477:=0
def tw10716061410376250926:=0
def tw18406172660980609493:=0
def tw13352243926383591017:=0
def tw3735160715441828070:=0
def tw1277176955685014994:=0
def tw5220871656901020195:=0
def tw18114051624581363496:=0
def tw17923972531503327454:=0
def tw860958613812615534:=0
def tw15862200850416840145:=0
def tw9509300360766917219:=0
def tw2941975939968211915:=0
def tw765435044722173329:=0
def tw11070083474841620721:=0
def tw14835935829065691984:=0
def tw5688505932987404466:=0
def tw1826099604663822132:=0
def tw14372370640610525822:=0
def tw17937930054007043784:=0
def tw4212987961840903753:=0
def tw9426468221575443448:=0
def tw18188623806525521532:=0
def tw9591768444335440107:=0
def tw13427563823955878598:=0
def tw9167737744076903293:=0
def tw3634736107043665408:=0
def tw15042657910922536631:=0
def tw16143758718090952636:=0
def tw1013425985936283511:=0
def tw17556400588680458948:=0
def tw14145253456486821208:=0
def tw1376132773594978603:=0
def tw5463868517413754345:=0
def tw1066257838481774979:=0
def tw8403879958970891408:=0
def tw14523544102323116771:=0
def tw11836912327142580333:=0
def tw6407880080417598379:=0
def tw10602568500577657288:=0
def tw10044141755215454681:=0
def tw17251431711649692765:=0
def tw15897141275762227529:=0
def tw13170163340644702274:=0
def tw25384246018120557:=0
def tw1045652628568314232:=0
def tw5354409880373272012:=0
def tw10573913883814233934:=0
def tw18198046565439382857:=0
def tw7336213203107430615:=0
def tw17301524687150577988:=0
def tw3200700265691848057:=0
def tw7441154396837792143:=0
def tw5990859976789026923:=0
def tw13654066443789133666:=0
def tw1806566647212179466:=0
def tw4044522382837157799:=0
def tw9685189874977177926:=0
def tw16915806683239843570:=0
def tw3678425422743936918:=0
def tw10059505669310057829:=0
def tw17368516065725014859:=0
def tw12809923618485983703:=0
def tw17636617537591113066:=0
def tw8539517810741392522:=0
def tw783272618666466425:=0
def tw11424484091285119574:=0
def tw17548558259799430252:=0
def tw6757064511551674575:=0
def tw5807448558853434363:=0
def tw410878225375346694:=0
def tw6938336422349189468:=0
def tw6947606827768396875:=0
def tw12350099618081330650:=0
def tw511467881198056087:=0
def tw2986231872811827680:=0
def tw11015918041686175034:=0
def tw9894872472747651933:=0
def tw5364007675220996856:=0
def tw13329654444098116148:=0
def tw15228341689291020340:=0
def tw11415680220786407095:=0
def tw18307549098078286330:=0
def tw15356583763082545136:=0
def tw11344341460492696386:=0
def tw9590946336810459564:=0
def tw4126983185188537932:=0
def tw15183406005005304618:=0
def tw6591882811597292854:=0
def tw238297751433135696:=0
def tw6511020590904449666:=0
def tw7986077233262066343:=0
def tw8711123420305705701:=0
def tw1649144550502359933:=0
def tw4633545650513479561:=0
def tw15396641511480724439:=0
def tw5346570585127019484:=0
def tw18394818026068762572:=0
def tw7063101528039423406:=0
def tw18263609031367797754:=0
def tw3429570820948767523:=0
def tw13190230460688987808:=0
def tw14813549308054520022:=0
def tw4089785010412085304:=0
def tw8184061375667669675:=0
def tw15509877888581731601:=0
def tw4302610031910516874:=0
def tw16290980124740558214:=0
def tw9462525504347420989:=0
def tw12408676190724212569:=0
def tw2638987543027248089:=0
def tw2052205267449940918:=0
def tw9549363942816653577:=0
def tw7801193693275095054:=0
def tw8406597985599232701:=0
def tw9673754870939800911:=0
def tw12668832917687823923:=0
def tw10753346615947911280:=0
def tw3199973338310644973:=0
def tw5303780878237037181:=0
def tw6769618889156666520:=0
def tw12062409069936236848:=0
def tw2315909528082562194:=0
def tw6047454912635845107:=0
def tw17517778838504447197:=0
def tw5241402415201272621:=0
def tw9724477493013456375:=0
def tw6979672599797805645:=0
def tw14324492255780242942:=0
def tw6878858768583781113:=0
def tw11280838413039897315:=0
def tw11868900307392145917:=0
def tw8539398085963468714:=0
def tw14071835998551787874:=0
def tw9294804109605034161:=0
def tw8505716753876990552:=0
def tw13774223862816049982:=0
def tw7835405648286241970:=0
def tw9827800171015968859:=0
def tw7672842408390110093:=0
def tw8790502952294418808:=0
def tw7685837792631556679:=0
def tw12406457362313239526:=0
def tw5093359015448994442:=0
def tw11517781790072026357:=0
def tw385069359884435379:=0
def tw11279346327061778685:=0
def tw15084163524305750167:=0
def tw1508256190681964811:=0
def tw10359165964816696955:=0
def tw10708080123887916305:=0
def tw17270143949560506572:=0
def tw9521656584278770587:=0
def tw7904752686562558467:=0
def tw16191781853403815417:=0
def tw5585981198204159465:=0
def tw6190366998813019152:=0
def tw18312948014629161319:=0
def tw9017935015724171254:=0
def tw14324952002529035821:=0
def tw11892204682730954623:=0
def tw17555102809930212176:=0
def tw5620786031190660069:=0
def tw10231751260597045496:=0
def tw615869949448354870:=0
def tw10934571297484961300:=0
def tw799940412141288939:=0
def tw9286609568264850200:=0
def tw2690636518359332625:=0
def tw14525479396682223770:=0
def tw13920491128456794040:=0
def tw1717932061058297379:=0
end PySem.W.Fast
set_option autoImplicit false
set_option genSizeOf false
set_option genSizeOfSpec false
set_option bootstrap.genMatcherCode false
set_option compiler.extract_closed false
set_option linter.all false
set_option maxRecDepth 100000
namespace TS
open PySem PyProof.Rows
noncomputable def kk (κ:KeyKind) (p:Keyed):κ.α:=(κ.keyOf p.1).getD κ.dflt
noncomputable def Has (κ:KeyKind) (p:Keyed):Prop:=∃ a,κ.keyOf p.1 = some a
noncomputable def le (κ:KeyKind) (p q:Keyed):Prop:=κ.kle (kk κ p) (kk κ q)
noncomputable def Sor (κ:KeyKind) (l:List Keyed):Prop:=l.Pairwise (le κ)
structure Cmp (prog:Program) (w:World) (A:Around) (s:Shared) (κ:KeyKind) (kd:SortKind):Prop where
 lt:∀ (x y:Value) (a b:κ.α) (Q:Bool->Shared->Prop) (E:Value->Shared->Prop),κ.keyOf x = some a->κ.keyOf y = some b->Q (κ.blt a b) s->wpAny (model prog w) A (keyLt' kd x y) Q E s
section
variable {prog:Program} {w:World} {A:Around} {E:Value->Shared->Prop} {s:Shared} {κ:KeyKind} {kd:SortKind}
theorem wpS_lt (C:Cmp prog w A s κ kd) {st:SortSt} {x y:Keyed} {Q:Option Bool->SortSt->Prop} (hk:kindOf st = kd) (hx:Has κ x) (hy:Has κ y)
  (h:Q (some (κ.blt (kk κ x) (kk κ y))) st):wpS (model prog w) A E s (lt' x y) Q st:=by
 obtain ⟨a,ha⟩:=hx
 obtain ⟨b,hb⟩:=hy
 have e1:kk κ x = a:=by unfold kk; rw [ha]; rfl
 have e2:kk κ y = b:=by unfold kk; rw [hb]; rfl
 rw [e1,e2] at h
 rw [lt'_eq]
 refine wpS_bind (wpS_get ?_)
 rw [hk]
 refine wpS_bind (wpS_lift (wpAny_attempt (C.lt x.1 y.1 a b _ _ ha hb ⟨rfl,?_⟩)))
 exact wpS_pure h
theorem wpS_elem {st:SortSt} {arr:Array Keyed} {i:Nat} {p:Keyed} {Q:Keyed->SortSt->Prop} (hi:arr[i]? = some p) (h:Q p st):wpS (model prog w) A E s (elem' arr i) Q st:=by
 rw [elem'_eq,hi]; exact wpS_pure h
noncomputable def gallop':Bool->Keyed->Array Keyed->Nat->Nat->Nat->StateT SortSt Sem (Option Nat):=sortPriv% PySem.Builtin.gallop
noncomputable def bey (left:Bool) (ky:Keyed) (ar:Array Keyed) (bs:Nat) (i:Nat):StateT SortSt Sem (Option Bool):=do
 let x <-elem' ar (bs + i)
 if left then lt' x ky else return (<-lt' ky x).map (!·)
theorem gallop'_eq (left:Bool) (ky:Keyed) (ar:Array Keyed) (bs n ht:Nat):gallop' left ky ar bs n ht = (do
  let mut la:=0
  let mut of:=1
  let mut lo:=0
  let mut hi:=0
  let some ri <-bey left ky ar bs ht | return none
  if ri then
   let mx:=n - ht
   for _ in [0:n] do
    if of ≥ mx then break
    let some mo <-bey left ky ar bs (ht + of) | return none
    if !mo then break
    la:=of
    of:=2 * of + 1
   lo:=ht + la + 1
   hi:=ht + min of mx
  else
   let mx:=ht + 1
   for _ in [0:n] do
    if of ≥ mx then break
    let some fo <-bey left ky ar bs (ht - of) | return none
    if fo then break
    la:=of
    of:=2 * of + 1
   lo:=ht + 1 - min of mx
   hi:=ht - la
  for _ in [0:n] do
   if lo ≥ hi then break
   let m:=lo + (hi - lo) / 2
   let some mo <-bey left ky ar bs m | return none
   if mo then lo:=m + 1 else hi:=m
  return some hi):=rfl
noncomputable def PB (κ:KeyKind) (left:Bool) (ky:Keyed) (p:Keyed):Bool:=if left then κ.blt (kk κ p) (kk κ ky) else !κ.blt (kk κ ky) (kk κ p)
theorem wpS_bey (C:Cmp prog w A s κ kd) {st:SortSt} {left:Bool} {ky p:Keyed} {ar:Array Keyed} {bs i:Nat} {Q:Option Bool->SortSt->Prop} (hk:kindOf st = kd) (hky:Has κ ky) (hp:Has κ p) (hi:ar[bs + i]? = some p)
  (h:Q (some (PB κ left ky p)) st):wpS (model prog w) A E s (bey left ky ar bs i) Q st:=by
 unfold bey
 refine wpS_bind (wpS_elem hi ?_)
 cases left with
 | true=>exact wpS_lt C hk hp hky h
 | false =>
  simp only [Bool.false_eq_true,if_false]
  refine wpS_bind (wpS_lt C hk hky hp ?_)
  exact wpS_pure h
theorem wpS_gallop (C:Cmp prog w A s κ kd) {st:SortSt} {left:Bool} {ky:Keyed} {ar:Array Keyed} {bs n ht:Nat} {Q:Option Nat->SortSt->Prop} (hk:kindOf st = kd) (hky:Has κ ky)
  (P:Nat->Bool) (hP:∀ i,i < n->∃ p,ar[bs + i]? = some p/\Has κ p/\PB κ left ky p = P i) (mono:∀ i j,i<=j->j < n->P j = true->P i = true) (hht:ht < n)
  (h:∀ k,k<=n->(∀ i,i < k->P i = true)->(∀ i,k<=i->i < n->P i = false)->Q (some k) st):wpS (model prog w) A E s (gallop' left ky ar bs n ht) Q st:=by
 have B:∀ {st':SortSt} {i:Nat} {Q:Option Bool->SortSt->Prop},st' = st->i < n->Q (some (P i)) st'->wpS (model prog w) A E s (bey left ky ar bs i) Q st':=by
  intro st' i Q e hi q
  subst e
  obtain ⟨p,h1,h2,h3⟩:=hP i hi
  exact wpS_bey C hk hky h2 h1 (by rw [h3]; exact q)
 have nmono:∀ i j,i<=j->j < n->P i = false->P j = false:=by
  intro i j hij hj hi
  cases e:P j with
  | false=>rfl
  | true=>rw [mono i j hij hj e] at hi; cases hi
 rw [gallop'_eq]
 dsimp only
 refine wpS_bind (B rfl hht ?_)
 dsimp only
 have S:∀ {lo hi:Nat} {f:Nat->(Option (Option Nat) × Nat × Nat)->StateT SortSt Sem (ForInStep (Option (Option Nat) × Nat × Nat))},
   (∀ x l h,wpS (model prog w) A E s (f x (none,l,h)) (fun r st'=>st' = st/\(if h<=l then r = .done (none,l,h) else if P (l + (h - l) / 2) = true then r = .yield (none,l + (h - l) / 2 + 1,h) else r = .yield (none,l,l + (h - l) / 2))) st\/¬ (h<=l\/l + (h - l) / 2 < n)) ->
   lo<=hi->hi<=n->(∀ i,i < lo->P i = true)->(∀ i,hi<=i->i < n->P i = false) ->
   wpS (model prog w) A E s (forIn [0:n] (none,lo,hi) f) (fun c st'=>st' = st/\∃ k,c = (none,k,k)/\k<=n/\(∀ i,i < k->P i = true)/\(∀ i,k<=i->i < n->P i = false)) st:=by
  intro lo hi f hf h1 h2 h3 h4
  refine wpS_forRange (I:=fun x c st'=>st' = st/\∃ l r,c = (none,l,r)/\l<=r/\r<=n/\r - l<=n - x/\(∀ i,i < l->P i = true)/\(∀ i,r<=i->i < n->P i = false)) ?_ ?_ ⟨rfl,lo,hi,rfl,h1,h2,by omega,h3,h4⟩
  ·rintro x c st' _ hx ⟨rfl,l,r,rfl,hl,hr,hm,ha,hb⟩
   have hin:r<=l\/l + (r - l) / 2 < n:=by omega
   rcases hf x l r with q | q
   ·refine wpS_mono q fun z st2 ⟨e,q2⟩=>?_
    subst e
    by_cases hge:r<=l
    ·rw [if_pos hge] at q2
     subst q2
     have:l = r:=by omega
     subst this
     exact ⟨rfl,l,rfl,hr,ha,hb⟩
    ·rw [if_neg hge] at q2
     cases hp:P (l + (r - l) / 2) with
     | true =>
      rw [if_pos hp] at q2
      subst q2
      exact ⟨rfl,_,_,rfl,by omega,by omega,by omega,fun i hi=>mono i (l + (r - l) / 2) (by omega) (by omega) hp,hb⟩
     | false =>
      rw [if_neg (by rw [hp]; exact Bool.false_ne_true)] at q2
      subst q2
      exact ⟨rfl,_,_,rfl,by omega,by omega,by omega,ha,fun i hi1 hi2=>nmono (l + (r - l) / 2) i hi1 hi2 hp⟩
   ·exact absurd hin q
  ·rintro c st' ⟨rfl,l,r,rfl,hl,hr,hm,ha,hb⟩
   have:l = r:=by omega
   subst this
   exact ⟨rfl,l,rfl,hr,ha,hb⟩
 cases hr:P ht with
 | true =>
  rw [if_pos rfl]
  refine wpS_bind (wpS_mono (wpS_forRange (I:=fun x c st'=>st' = st/\∃ la of,c = (none,la,of)/\la < of/\x + 1<=of/\ht + la < n/\P (ht + la) = true)
   (Q:=fun c st'=>st' = st/\∃ la of,c = (none,la,of)/\la < of/\ht + la < n/\P (ht + la) = true/\(n - ht<=of\/(ht + of < n/\P (ht + of) = false))) ?st ?en ⟨rfl,0,1,rfl,by omega,by omega,by omega,hr⟩) ?po)
  case en =>
   rintro c st' ⟨rfl,la,of,rfl,a1,a2,a3,a4⟩
   exact ⟨rfl,la,of,rfl,a1,a3,a4,.inl (by omega)⟩
  case st =>
   rintro x c st' _ hx ⟨rfl,la,of,rfl,a1,a2,a3,a4⟩
   dsimp only
   by_cases hge:of ≥ n - ht
   ·rw [if_pos hge]
    exact wpS_pure ⟨rfl,la,of,rfl,a1,a3,a4,.inl hge⟩
   ·rw [if_neg hge]
    refine wpS_bind (B rfl (show ht + of < n by omega) ?_)
    cases hp:P (ht + of) with
    | true=>exact wpS_pure ⟨rfl,of,2 * of + 1,rfl,by omega,by omega,by omega,hp⟩
    | false=>exact wpS_pure ⟨rfl,la,of,rfl,a1,a3,a4,.inr ⟨by omega,hp⟩⟩
  case po =>
   rintro c st' ⟨rfl,la,of,rfl,a1,a3,a4,a5⟩
   dsimp only
   refine wpS_bind (wpS_mono (S (lo:=ht + la + 1) (hi:=ht + min of (n - ht)) (fun x l h'=>by
    dsimp only
    by_cases hge:h'<=l
    ·refine .inl ?_
     rw [if_pos hge]
     exact wpS_pure ⟨rfl,by rw [if_pos hge]⟩
    ·by_cases hn:l + (h' - l) / 2 < n
     ·refine .inl ?_
      rw [if_neg hge]
      refine wpS_bind (B rfl hn ?_)
      dsimp only
      cases hp:P (l + (h' - l) / 2) with
      | true =>
       simp only [if_true]
       exact wpS_pure ⟨rfl,by rw [if_neg hge]⟩
      | false =>
       simp only [Bool.false_eq_true,if_false]
       exact wpS_pure ⟨rfl,by rw [if_neg hge]⟩
     ·exact .inr (by omega)) (by omega) (by omega) (fun i hi=>mono i (ht + la) (by omega) a3 a4) fun i hi1 hi2=>?_) fun c st' ⟨e,k,e2,b1,b2,b3⟩=>?_)
   ·rcases a5 with a5 | ⟨a5,a6⟩
    ·omega
    ·exact nmono (ht + of) i (by omega) hi2 a6
   ·subst e e2
    exact wpS_pure (h k b1 b2 b3)
 | false =>
  rw [if_neg Bool.false_ne_true]
  refine wpS_bind (wpS_mono (wpS_forRange (I:=fun x c st'=>st' = st/\∃ la of,c = (none,la,of)/\la < of/\x + 1<=of/\la<=ht/\P (ht - la) = false)
   (Q:=fun c st'=>st' = st/\∃ la of,c = (none,la,of)/\la < of/\la<=ht/\P (ht - la) = false/\(ht + 1<=of\/(of<=ht/\P (ht - of) = true))) ?st ?en ⟨rfl,0,1,rfl,by omega,by omega,by omega,hr⟩) ?po)
  case en =>
   rintro c st' ⟨rfl,la,of,rfl,a1,a2,a3,a4⟩
   exact ⟨rfl,la,of,rfl,a1,a3,a4,.inl (by omega)⟩
  case st =>
   rintro x c st' _ hx ⟨rfl,la,of,rfl,a1,a2,a3,a4⟩
   dsimp only
   by_cases hge:of ≥ ht + 1
   ·rw [if_pos hge]
    exact wpS_pure ⟨rfl,la,of,rfl,a1,a3,a4,.inl hge⟩
   ·rw [if_neg hge]
    refine wpS_bind (B rfl (show ht - of < n by omega) ?_)
    cases hp:P (ht - of) with
    | false=>exact wpS_pure ⟨rfl,of,2 * of + 1,rfl,by omega,by omega,by omega,hp⟩
    | true=>exact wpS_pure ⟨rfl,la,of,rfl,a1,a3,a4,.inr ⟨by omega,hp⟩⟩
  case po =>
   rintro c st' ⟨rfl,la,of,rfl,a1,a3,a4,a5⟩
   dsimp only
   refine wpS_bind (wpS_mono (S (lo:=ht + 1 - min of (ht + 1)) (hi:=ht - la) (fun x l h'=>by
    dsimp only
    by_cases hge:h'<=l
    ·refine .inl ?_
     rw [if_pos hge]
     exact wpS_pure ⟨rfl,by rw [if_pos hge]⟩
    ·by_cases hn:l + (h' - l) / 2 < n
     ·refine .inl ?_
      rw [if_neg hge]
      refine wpS_bind (B rfl hn ?_)
      dsimp only
      cases hp:P (l + (h' - l) / 2) with
      | true =>
       simp only [if_true]
       exact wpS_pure ⟨rfl,by rw [if_neg hge]⟩
      | false =>
       simp only [Bool.false_eq_true,if_false]
       exact wpS_pure ⟨rfl,by rw [if_neg hge]⟩
     ·exact .inr (by omega)) (by omega) (by omega) (fun i hi=>?_) fun i hi1 hi2=>nmono (ht - la) i (by omega) hi2 a4) fun c st' ⟨e,k,e2,b1,b2,b3⟩=>?_)
   ·rcases a5 with a5 | ⟨a5,a6⟩
    ·omega
    ·exact mono i (ht - of) (by omega) (by omega) a6
   ·subst e e2
    exact wpS_pure (h k b1 b2 b3)
end
end TS
namespace TS
open PySem PyProof.Rows
section
variable {κ:KeyKind}
theorem le_refl (p:Keyed):le κ p p:=KeyOrd.kle_refl _
theorem le_trans {p q r:Keyed} (h1:le κ p q) (h2:le κ q r):le κ p r:=KeyOrd.kle_trans h1 h2
structure ML (κ:KeyKind) (a b:List Keyed) (o:List Keyed) (i j:Nat):Prop where
 perm:o.Perm (a.take i ++ b.take j)
 sor:Sor κ o
 la:∀ x ∈ o,∀ y ∈ a.drop i,le κ x y
 lb:∀ x ∈ o,∀ y ∈ b.drop j,le κ x y
theorem ML.sym {a b o:List Keyed} {i j:Nat} (m:ML κ a b o i j):ML κ b a o j i:=⟨m.perm.trans List.perm_append_comm,m.sor,m.lb,m.la⟩
theorem sor_split {l:List Keyed} (k:Nat) (h:Sor κ l):∀ x ∈ l.take k,∀ y ∈ l.drop k,le κ x y:=by
 have h':Sor κ (l.take k ++ l.drop k):=by rw [List.take_append_drop]; exact h
 exact (List.pairwise_append.mp h').2.2
theorem ML.addA {a b o:List Keyed} {i j:Nat} (m:ML κ a b o i j) (sa:Sor κ a) (k:Nat) (hk:∀ y ∈ (a.drop i).take k,∀ z ∈ b.drop j,le κ y z):ML κ a b (o ++ (a.drop i).take k) (i + k) j:=by
 have hs:Sor κ (a.drop i):=sa.sublist (List.drop_sublist _ _)
 refine ⟨?_,?_,fun x hx y hy=>?_,fun x hx y hy=>?_⟩
 ·rw [List.take_add]
  refine (List.Perm.append_right _ m.perm).trans ?_
  rw [List.append_assoc,List.append_assoc]
  exact List.Perm.append_left _ List.perm_append_comm
 ·refine List.pairwise_append.mpr ⟨m.sor,hs.sublist (List.take_sublist _ _),fun x hx y hy=>m.la x hx y (List.mem_of_mem_take hy)⟩
 ·rw [<-List.drop_drop] at hy
  rcases List.mem_append.mp hx with hx | hx
  ·exact m.la x hx y (List.mem_of_mem_drop hy)
  ·exact sor_split k hs x hx y hy
 ·rcases List.mem_append.mp hx with hx | hx
  ·exact m.lb x hx y hy
  ·exact hk x hx y hy
theorem ML.addB {a b o:List Keyed} {i j:Nat} (m:ML κ a b o i j) (sb:Sor κ b) (k:Nat) (hk:∀ y ∈ (b.drop j).take k,∀ z ∈ a.drop i,le κ y z):ML κ a b (o ++ (b.drop j).take k) i (j + k) :=
 (m.sym.addA sb k hk).sym
theorem ML.endA {a b o:List Keyed} {i j:Nat} (m:ML κ a b o i j) (sa:Sor κ a) (sb:Sor κ b) (h:∀ y ∈ a.drop i,∀ z ∈ b.drop j,le κ y z):Sor κ (o ++ a.drop i ++ b.drop j)/\(o ++ a.drop i ++ b.drop j).Perm (a ++ b):=by
 refine ⟨?_,?_⟩
 ·refine List.pairwise_append.mpr ⟨List.pairwise_append.mpr ⟨m.sor,sa.sublist (List.drop_sublist _ _),m.la⟩,sb.sublist (List.drop_sublist _ _),fun x hx y hy=>?_⟩
  rcases List.mem_append.mp hx with hx | hx
  ·exact m.lb x hx y hy
  ·exact h x hx y hy
 ·have h1:(o ++ a.drop i ++ b.drop j).Perm ((a.take i ++ b.take j) ++ a.drop i ++ b.drop j):=List.Perm.append_right _ (List.Perm.append_right _ m.perm)
  refine h1.trans ?_
  have h2:((a.take i ++ b.take j) ++ a.drop i ++ b.drop j).Perm ((a.take i ++ a.drop i) ++ (b.take j ++ b.drop j)):=by
   rw [List.append_assoc,List.append_assoc,List.append_assoc]
   refine List.Perm.append_left _ ?_
   rw [<-List.append_assoc,<-List.append_assoc]
   exact List.Perm.append_right _ List.perm_append_comm
  rw [List.take_append_drop,List.take_append_drop] at h2
  exact h2
theorem ML.endB {a b o:List Keyed} {i j:Nat} (m:ML κ a b o i j) (sa:Sor κ a) (sb:Sor κ b) (h:∀ y ∈ b.drop j,∀ z ∈ a.drop i,le κ y z):Sor κ (o ++ b.drop j ++ a.drop i)/\(o ++ b.drop j ++ a.drop i).Perm (a ++ b) :=
 ⟨(m.sym.endA sb sa h).1,(m.sym.endA sb sa h).2.trans List.perm_append_comm⟩
structure MH (κ:KeyKind) (a b:List Keyed) (o:List Keyed) (i j:Nat):Prop where
 perm:o.Perm (a.drop i ++ b.drop j)
 sor:Sor κ o
 la:∀ x ∈ o,∀ y ∈ a.take i,le κ y x
 lb:∀ x ∈ o,∀ y ∈ b.take j,le κ y x
theorem MH.sym {a b o:List Keyed} {i j:Nat} (m:MH κ a b o i j):MH κ b a o j i:=⟨m.perm.trans List.perm_append_comm,m.sor,m.lb,m.la⟩
theorem MH.addA {a b o:List Keyed} {i j:Nat} (m:MH κ a b o i j) (sa:Sor κ a) (k:Nat) (hki:k<=i) (hk:∀ y ∈ (a.take i).drop k,∀ z ∈ b.take j,le κ z y):MH κ a b ((a.take i).drop k ++ o) k j:=by
 have hs:Sor κ (a.take i):=sa.sublist (List.take_sublist _ _)
 have e:a.drop k = (a.take i).drop k ++ a.drop i:=by
  conv=>lhs; rw [<-List.take_append_drop i a]
  rw [List.drop_append]
  by_cases hl:i<=a.length
  ·rw [List.length_take,Nat.min_eq_left hl,Nat.sub_eq_zero_of_le hki,List.drop_zero]
  ·have:a.drop i = []:=List.drop_eq_nil_of_le (by lia)
   rw [this,List.drop_nil]
 have e2:(a.take i).take k = a.take k:=by rw [List.take_take,Nat.min_eq_left hki]
 refine ⟨?_,?_,fun x hx y hy=>?_,fun x hx y hy=>?_⟩
 ·rw [e,List.append_assoc]
  exact List.Perm.append_left _ m.perm
 ·exact List.pairwise_append.mpr ⟨hs.sublist (List.drop_sublist _ _),m.sor,fun x hx y hy=>m.la y hy x (List.mem_of_mem_drop hx)⟩
 ·rw [<-e2] at hy
  rcases List.mem_append.mp hx with hx | hx
  ·exact sor_split k hs y hy x hx
  ·exact m.la x hx y (List.mem_of_mem_take hy)
 ·rcases List.mem_append.mp hx with hx | hx
  ·exact hk x hx y hy
  ·exact m.lb x hx y hy
theorem MH.addB {a b o:List Keyed} {i j:Nat} (m:MH κ a b o i j) (sb:Sor κ b) (k:Nat) (hkj:k<=j) (hk:∀ y ∈ (b.take j).drop k,∀ z ∈ a.take i,le κ z y):MH κ a b ((b.take j).drop k ++ o) i k :=
 (m.sym.addA sb k hkj hk).sym
theorem MH.endA {a b o:List Keyed} {i j:Nat} (m:MH κ a b o i j) (sa:Sor κ a) (sb:Sor κ b) (h:∀ y ∈ a.take i,∀ z ∈ b.take j,le κ y z):Sor κ (a.take i ++ b.take j ++ o)/\(a.take i ++ b.take j ++ o).Perm (a ++ b):=by
 refine ⟨?_,?_⟩
 ·refine List.pairwise_append.mpr ⟨List.pairwise_append.mpr ⟨sa.sublist (List.take_sublist _ _),sb.sublist (List.take_sublist _ _),h⟩,m.sor,fun x hx y hy=>?_⟩
  rcases List.mem_append.mp hx with hx | hx
  ·exact m.la y hy x hx
  ·exact m.lb y hy x hx
 ·have h1:(a.take i ++ b.take j ++ o).Perm (a.take i ++ b.take j ++ (a.drop i ++ b.drop j)):=List.Perm.append_left _ m.perm
  refine h1.trans ?_
  have h2:(a.take i ++ b.take j ++ (a.drop i ++ b.drop j)).Perm ((a.take i ++ a.drop i) ++ (b.take j ++ b.drop j)):=by
   rw [List.append_assoc,List.append_assoc]
   refine List.Perm.append_left _ ?_
   rw [<-List.append_assoc,<-List.append_assoc]
   exact List.Perm.append_right _ List.perm_append_comm
  rw [List.take_append_drop,List.take_append_drop] at h2
  exact h2
theorem MH.endB {a b o:List Keyed} {i j:Nat} (m:MH κ a b o i j) (sa:Sor κ a) (sb:Sor κ b) (h:∀ y ∈ b.take j,∀ z ∈ a.take i,le κ y z):Sor κ (b.take j ++ a.take i ++ o)/\(b.take j ++ a.take i ++ o).Perm (a ++ b) :=
 ⟨(m.sym.endA sb sa h).1,(m.sym.endA sb sa h).2.trans List.perm_append_comm⟩
end
section
variable {prog:Program} {w:World} {A:Around} {E:Value->Shared->Prop} {s:Shared} {κ:KeyKind} {kd:SortKind}
noncomputable def setMin' (g:Nat):StateT SortSt Sem Unit:=modify fun s=>SortSt.mk' (kindOf s) (arrOf s) (pendingOf s) g (failedOf s)
noncomputable def mergeLo':Array Keyed->Array Keyed->StateT SortSt Sem (Array Keyed):=sortPriv% PySem.Builtin.mergeLo
theorem mergeLo'_eq (a b:Array Keyed):mergeLo' a b = (do
  rule "list.sort.merge-lo"
  let tot:=a.size + b.size
  let dn (o:Array Keyed) (i j:Nat):=o ++ a.extract i a.size ++ b.extract j b.size
  let lA (o:Array Keyed) (i j:Nat):=o ++ b.extract j b.size ++ a.extract i a.size
  let mut o:Array Keyed:=#[<-elem' b 0]
  let mut i:=0
  let mut j:=1
  if j == b.size then return dn o i j
  if i + 1 == a.size then return lA o i j
  let mut mg:=gallopOf (<-get)
  for _ in [0:tot] do
   let mut ac:=0
   let mut bc:=0
   for _ in [0:tot] do
    let some bw <-lt' (<-elem' b j) (<-elem' a i) | return dn o i j
    if bw then
     o:=o.push (<-elem' b j); j:=j + 1; bc:=bc + 1; ac:=0
     if j == b.size then return dn o i j
     if bc ≥ mg then break
    else
     o:=o.push (<-elem' a i); i:=i + 1; ac:=ac + 1; bc:=0
     if i + 1 == a.size then return lA o i j
     if ac ≥ mg then break
   rule "list.sort.gallop"
   mg:=mg + 1
   for _ in [0:tot] do
    if mg > 1 then mg:=mg - 1
    setMin' mg
    let some k <-gallop' false (<-elem' b j) a i (a.size - i) 0 | return dn o i j
    ac:=k
    if k > 0 then
     o:=o ++ a.extract i (i + k); i:=i + k
     if i + 1 == a.size then return lA o i j
     if i == a.size then return dn o i j
    o:=o.push (<-elem' b j); j:=j + 1
    if j == b.size then return dn o i j
    let some k <-gallop' true (<-elem' a i) b j (b.size - j) 0 | return dn o i j
    bc:=k
    if k > 0 then
     o:=o ++ b.extract j (j + k); j:=j + k
     if j == b.size then return dn o i j
    o:=o.push (<-elem' a i); i:=i + 1
    if i + 1 == a.size then return lA o i j
    if ac < 7 && bc < 7 then break
   mg:=mg + 1
   setMin' mg
  unsupported "internal:list.sort.merge-bound"):=rfl
noncomputable def Sm (st st':SortSt):Prop:=kindOf st' = kindOf st/\arrOf st' = arrOf st/\pendingOf st' = pendingOf st/\failedOf st' = failedOf st
theorem Sm.refl (st:SortSt):Sm st st:=⟨rfl,rfl,rfl,rfl⟩
theorem wpS_setMin {st st0:SortSt} {g:Nat} {Q:Unit->SortSt->Prop} (hs:Sm st0 st) (h:∀ st',Sm st0 st'->Q () st'):wpS (model prog w) A E s (setMin' g) Q st :=
 wpS_modify (h _ ⟨hs.1,hs.2.1,hs.2.2.1,hs.2.2.2⟩)
theorem mem_dt {l:List Keyed} {i k:Nat} {y:Keyed} (h:y ∈ (l.drop i).take k):∃ t,t < k/\l[i + t]? = some y:=by
 obtain ⟨t,ht,e⟩:=List.mem_iff_getElem.mp h
 rw [List.length_take,List.length_drop] at ht
 refine ⟨t,by lia,?_⟩
 rw [List.getElem_take,List.getElem_drop] at e
 rw [<-e]
 exact List.getElem?_eq_getElem (by lia)
theorem mem_d {l:List Keyed} {i:Nat} {y:Keyed} (h:y ∈ l.drop i):∃ t,i + t < l.length/\l[i + t]? = some y:=by
 obtain ⟨t,ht,e⟩:=List.mem_iff_getElem.mp h
 rw [List.length_drop] at ht
 refine ⟨t,by lia,?_⟩
 rw [List.getElem_drop] at e
 rw [<-e]
 exact List.getElem?_eq_getElem (by lia)
theorem mem_t {l:List Keyed} {i:Nat} {y:Keyed} (h:y ∈ l.take i):∃ t,t < i/\t < l.length/\l[t]? = some y:=by
 obtain ⟨t,ht,e⟩:=List.mem_iff_getElem.mp h
 rw [List.length_take] at ht
 refine ⟨t,by lia,by lia,?_⟩
 rw [List.getElem_take] at e
 rw [<-e]
 exact List.getElem?_eq_getElem (by lia)
theorem mem_td {l:List Keyed} {i k:Nat} {y:Keyed} (h:y ∈ (l.take i).drop k):∃ t,k<=t/\t < i/\l[t]? = some y:=by
 obtain ⟨t,h1,h2⟩:=mem_d h
 rw [List.length_take] at h1
 rw [List.getElem?_take_of_lt (by lia)] at h2
 exact ⟨k + t,by lia,by lia,h2⟩
theorem sor_le {l:List Keyed} (h:Sor κ l) {i j:Nat} {p q:Keyed} (hij:i<=j) (hp:l[i]? = some p) (hq:l[j]? = some q):le κ p q:=by
 obtain ⟨h1,rfl⟩:=List.getElem?_eq_some_iff.mp hp
 obtain ⟨h2,rfl⟩:=List.getElem?_eq_some_iff.mp hq
 rcases Nat.lt_or_eq_of_le hij with z | z
 ·exact List.pairwise_iff_getElem.mp h i j h1 h2 z
 ·subst z; exact le_refl _
theorem head_le {l:List Keyed} (h:Sor κ l) {i:Nat} {p:Keyed} (hp:l[i]? = some p):∀ z ∈ l.drop i,le κ p z:=fun z hz=>by
 obtain ⟨t,_,e⟩:=mem_d hz
 exact sor_le h (Nat.le_add_right _ _) hp e
theorem ar_get {a:Array Keyed} {i:Nat} {p:Keyed}:a[i]? = some p ↔ a.toList[i]? = some p:=by rw [Array.getElem?_toList]
theorem ar_at {a:Array Keyed} {i:Nat} (h:i < a.size):∃ p,a[i]? = some p:=⟨a[i],getElem?_pos a i h⟩
theorem take1 {l:List Keyed} {i:Nat} {p:Keyed} (h:l[i]? = some p):(l.drop i).take 1 = [p]:=by
 obtain ⟨h1,rfl⟩:=List.getElem?_eq_some_iff.mp h
 rw [List.drop_eq_getElem_cons h1]
 rfl
theorem ext_list (a:Array Keyed) (i k:Nat):(a.extract i (i + k)).toList = (a.toList.drop i).take k:=by
 rw [Array.toList_extract,List.extract_eq_take_drop,Nat.add_sub_cancel_left]
theorem ext_end (a:Array Keyed) (i:Nat):(a.extract i a.size).toList = a.toList.drop i:=by
 rw [Array.toList_extract,List.extract_eq_take_drop,List.take_of_length_le]
 rw [List.length_drop,Array.length_toList]
 exact Nat.le_refl _
theorem ext_beg (a:Array Keyed) (i:Nat):(a.extract 0 i).toList = a.toList.take i:=by
 rw [Array.toList_extract,List.extract_eq_take_drop,List.drop_zero,Nat.sub_zero]
noncomputable def Rm (κ:KeyKind) (a b r:Array Keyed):Prop:=Sor κ r.toList/\r.toList.Perm (a.toList ++ b.toList)
structure Pre (κ:KeyKind) (a b:Array Keyed):Prop where
 sa:Sor κ a.toList
 sb:Sor κ b.toList
 ka:∀ (i:Nat) p,a[i]? = some p->Has κ p
 kb:∀ (i:Nat) p,b[i]? = some p->Has κ p
 na:1<=a.size
 nb:1<=b.size
 first:∀ q,b[0]? = some q->∀ z ∈ a.toList,le κ q z
 last:∀ p,a[a.size - 1]? = some p->∀ z ∈ b.toList,le κ z p
section
variable {a b o:Array Keyed} {i j k:Nat} {p q:Keyed}
theorem Pre.pushB (P:Pre κ a b) (m:ML κ a.toList b.toList o.toList i j) (hq:b[j]? = some q) (h:∀ z ∈ a.toList.drop i,le κ q z):ML κ a.toList b.toList (o.push q).toList i (j + 1):=by
 have h1:=m.addB P.sb 1 (by rw [take1 (ar_get.mp hq)]; intro y hy; rw [List.mem_singleton.mp hy]; exact h)
 rw [take1 (ar_get.mp hq)] at h1
 rw [Array.toList_push]
 exact h1
theorem Pre.pushA (P:Pre κ a b) (m:ML κ a.toList b.toList o.toList i j) (hp:a[i]? = some p) (h:∀ z ∈ b.toList.drop j,le κ p z):ML κ a.toList b.toList (o.push p).toList (i + 1) j:=by
 have h1:=m.addA P.sa 1 (by rw [take1 (ar_get.mp hp)]; intro y hy; rw [List.mem_singleton.mp hy]; exact h)
 rw [take1 (ar_get.mp hp)] at h1
 rw [Array.toList_push]
 exact h1
theorem Pre.extA (P:Pre κ a b) (m:ML κ a.toList b.toList o.toList i j) (h:∀ y ∈ (a.toList.drop i).take k,∀ z ∈ b.toList.drop j,le κ y z):ML κ a.toList b.toList (o ++ a.extract i (i + k)).toList (i + k) j:=by
 rw [Array.toList_append,ext_list]
 exact m.addA P.sa k h
theorem Pre.extB (P:Pre κ a b) (m:ML κ a.toList b.toList o.toList i j) (h:∀ y ∈ (b.toList.drop j).take k,∀ z ∈ a.toList.drop i,le κ y z):ML κ a.toList b.toList (o ++ b.extract j (j + k)).toList i (j + k):=by
 rw [Array.toList_append,ext_list]
 exact m.addB P.sb k h
theorem Pre.doneB (P:Pre κ a b) (m:ML κ a.toList b.toList o.toList i j) (hj:j = b.size):Rm κ a b (o ++ a.extract i a.size ++ b.extract j b.size):=by
 unfold Rm
 rw [Array.toList_append,Array.toList_append,ext_end,ext_end]
 refine m.endA P.sa P.sb fun y _ z hz=>?_
 rw [List.drop_eq_nil_of_le (by rw [Array.length_toList]; lia)] at hz
 exact absurd hz (by simp)
theorem Pre.doneA (P:Pre κ a b) (m:ML κ a.toList b.toList o.toList i j) (hi:i = a.size):Rm κ a b (o ++ a.extract i a.size ++ b.extract j b.size):=by
 unfold Rm
 rw [Array.toList_append,Array.toList_append,ext_end,ext_end]
 refine m.endA P.sa P.sb fun y hy z _=>?_
 rw [List.drop_eq_nil_of_le (by rw [Array.length_toList]; lia)] at hy
 exact absurd hy (by simp)
theorem Pre.lastA (P:Pre κ a b) (m:ML κ a.toList b.toList o.toList i j) (hi:i + 1 = a.size):Rm κ a b (o ++ b.extract j b.size ++ a.extract i a.size):=by
 unfold Rm
 rw [Array.toList_append,Array.toList_append,ext_end,ext_end]
 refine m.endB P.sa P.sb fun y hy z hz=>?_
 obtain ⟨t,h1,h2⟩:=mem_d hz
 rw [Array.length_toList] at h1
 have e:i + t = a.size - 1:=by lia
 rw [e] at h2
 exact P.last z (ar_get.mpr h2) y (List.mem_of_mem_drop hy)
end
theorem Sm.knd {st st':SortSt} (h:Sm st st') {k:SortKind} (hk:kindOf st = k):kindOf st' = k:=h.1.trans hk
theorem wpS_gal (C:Cmp prog w A s κ kd) {st:SortSt} {left:Bool} {ky:Keyed} {ar:Array Keyed} {bs n ht:Nat} {Q:Option Nat->SortSt->Prop} (hk:kindOf st = kd) (hky:Has κ ky)
  (hsz:bs + n<=ar.size) (hh:∀ (i:Nat) p,ar[i]? = some p->Has κ p) (hs:∀ (u v:Nat) p q,u<=v->v < n->ar[bs + u]? = some p->ar[bs + v]? = some q->le κ p q) (hht:ht < n)
  (h:∀ k,k<=n->(∀ (t:Nat) p,t < k->ar[bs + t]? = some p->PB κ left ky p = true)->(∀ (t:Nat) p,k<=t->t < n->ar[bs + t]? = some p->PB κ left ky p = false)->Q (some k) st) :
  wpS (model prog w) A E s (gallop' left ky ar bs n ht) Q st:=by
 have key:∀ t,t < n->∃ p,ar[bs + t]? = some p:=fun t ht=>ar_at (by lia)
 refine wpS_gallop C hk hky (fun t=>match ar[bs + t]? with | some p=>PB κ left ky p | none=>false) (fun i hi=>?_) (fun i j hij hj hp=>?_) hht fun k hk1 h1 h2=>?_
 ·obtain ⟨p,hp⟩:=key i hi
  exact ⟨p,hp,hh _ p hp,by rw [hp]⟩
 ·obtain ⟨p,e1⟩:=key i (by lia)
  obtain ⟨q,e2⟩:=key j hj
  rw [e2] at hp
  rw [e1]
  have l:=hs i j p q hij hj e1 e2
  dsimp only at hp ⊢
  unfold PB at hp ⊢
  cases left with
  | true =>
   simp only [if_true] at hp ⊢
   exact KeyOrd.klt_of_kle_of_klt l hp
  | false =>
   simp only [Bool.false_eq_true,if_false,Bool.not_eq_true'] at hp ⊢
   exact KeyOrd.kle_trans l hp
 ·refine h k hk1 (fun t p ht hp=>?_) fun t p ht1 ht2 hp=>?_
  ·have:=h1 t ht
   rw [hp] at this
   exact this
  ·have:=h2 t ht1 ht2
   rw [hp] at this
   exact this
theorem PB_right {ky p:Keyed} (h:PB κ false ky p = true):le κ p ky:=by
 unfold PB at h
 show κ.blt (kk κ ky) (kk κ p) = false
 simpa using h
theorem PB_right' {ky p:Keyed} (h:PB κ false ky p = false):κ.klt (kk κ ky) (kk κ p):=by
 unfold PB at h
 show κ.blt (kk κ ky) (kk κ p) = true
 simpa using h
theorem PB_left {ky p:Keyed} (h:PB κ true ky p = true):κ.klt (kk κ p) (kk κ ky):=by
 unfold PB at h
 show κ.blt (kk κ p) (kk κ ky) = true
 simpa using h
theorem PB_left' {ky p:Keyed} (h:PB κ true ky p = false):le κ ky p:=by
 unfold PB at h
 show κ.blt (kk κ p) (kk κ ky) = false
 simpa using h
section
variable {α:Type} {Q:α->SortSt->Prop} {st:SortSt}
theorem wpS_if {c:Prop} {_:Decidable c} {t e:StateT SortSt Sem α} (h1:c->wpS (model prog w) A E s t Q st) (h2:¬ c->wpS (model prog w) A E s e Q st):wpS (model prog w) A E s (if c then t else e) Q st:=by
 split
 ·rename_i h; exact h1 h
 ·rename_i h; exact h2 h
theorem wpS_ifN {x y:Nat} {t e:StateT SortSt Sem α} (h1:x = y->wpS (model prog w) A E s t Q st) (h2:x ≠ y->wpS (model prog w) A E s e Q st):wpS (model prog w) A E s (if (x == y) = true then t else e) Q st :=
 wpS_if (fun h=>h1 (eq_of_beq h)) fun h=>h2 fun z=>h (beq_iff_eq.mpr z)
theorem wpS_jp1 {c:Prop} {_:Decidable c} {t:StateT SortSt Sem α} {F:Nat->StateT SortSt Sem α} (x:Nat) {y:Nat} (h:∀ g,wpS (model prog w) A E s (F g) Q st) (e:t = F x):wpS (model prog w) A E s (if c then t else F y) Q st:=by
 subst e
 exact wpS_if (fun _=>h _) fun _=>h _
theorem wpS_jp2 {c:Prop} {_:Decidable c} {t:StateT SortSt Sem α} {F:Array Keyed->Nat->StateT SortSt Sem α} {o:Array Keyed} {i:Nat} (R:Array Keyed->Nat->Prop) (h:∀ o i,R o i->wpS (model prog w) A E s (F o i) Q st)
  (hT:(∀ o i,R o i->wpS (model prog w) A E s (F o i) Q st)->c->wpS (model prog w) A E s t Q st) (hE:¬ c->R o i):wpS (model prog w) A E s (if c then t else F o i) Q st:=wpS_if (hT h) fun z=>h _ _ (hE z)
end
theorem wpS_out {α β:Type} {r0:Sem Unit} {el:StateT SortSt Sem Keyed} {x0:Keyed} {c1 c2:Prop} {_:Decidable c1} {_:Decidable c2} {t1 t2:Keyed->StateT SortSt Sem α} {ini:Keyed->SortSt->β} {n:Nat} {f:Nat->β->StateT SortSt Sem (ForInStep β)} {g:β->StateT SortSt Sem α} {Q:α->SortSt->Prop} {st:SortSt}
  (hr:∀ R:Unit->SortSt->Prop,R () st->wpS (model prog w) A E s (liftM r0:StateT SortSt Sem Unit) R st) (he:∀ R:Keyed->SortSt->Prop,R x0 st->wpS (model prog w) A E s el R st) (h1:c1->wpS (model prog w) A E s (t1 x0) Q st) (h2:¬ c1->c2->wpS (model prog w) A E s (t2 x0) Q st)
  (h3:¬ c1->¬ c2->wpS (model prog w) A E s (forIn [0:n] (ini x0 st) f) (fun c st'=>wpS (model prog w) A E s (g c) Q st') st) :
  wpS (model prog w) A E s ((liftM r0:StateT SortSt Sem Unit) >>= fun _=>el >>= fun x=>if c1 then t1 x else if c2 then t2 x else get >>= fun st'=>forIn [0:n] (ini x st') f >>= g) Q st :=
 wpS_bind (hr _ (wpS_bind (he _ (wpS_if h1 fun z1=>wpS_if (h2 z1) fun z2=>wpS_bind (wpS_get (wpS_bind (h3 z1 z2)))))))
noncomputable def MR (κ:KeyKind) (a b:Array Keyed) (st:SortSt) {β:Type} (c:Option (Array Keyed) × β) (st':SortSt):Prop:=Sm st st'/\∃ r,c.1 = some r/\Rm κ a b r
theorem MR.mk {a b r:Array Keyed} {st st':SortSt} {β:Type} {c:β} (sm:Sm st st') (h:Rm κ a b r):MR κ a b st (some r,c) st':=⟨sm,r,rfl,h⟩
structure LoP (κ:KeyKind) (a b:Array Keyed) (n:Nat) (o:Array Keyed) (i j:Nat):Prop where
 m:ML κ a.toList b.toList o.toList i j
 hi:i + 1 < a.size
 hj:j < b.size
 hn:n<=i + j
theorem LoP.putB {a b o o':Array Keyed} {n i j:Nat} (h:LoP κ a b n o i j) (m:ML κ a.toList b.toList o'.toList i (j + 1)) (e:j + 1 ≠ b.size):LoP κ a b (n + 1) o' i (j + 1):=⟨m,h.hi,Nat.lt_of_le_of_ne h.hj e,Nat.succ_le_succ h.hn⟩
theorem LoP.putA {a b o o':Array Keyed} {n i j:Nat} (h:LoP κ a b n o i j) (m:ML κ a.toList b.toList o'.toList (i + 1) j) (e:i + 1 + 1 ≠ a.size):LoP κ a b (n + 1) o' (i + 1) j:=⟨m,Nat.lt_of_le_of_ne h.hi e,h.hj,by rw [Nat.add_right_comm]; exact Nat.succ_le_succ h.hn⟩
theorem LoP.mono {a b o:Array Keyed} {n n' i j:Nat} (h:LoP κ a b n o i j) (l:n'<=n):LoP κ a b n' o i j:=⟨h.m,h.hi,h.hj,Nat.le_trans l h.hn⟩
noncomputable def LoI1 (κ:KeyKind) (a b:Array Keyed) (st:SortSt) (n:Nat) (c:Option (Array Keyed) × Array Keyed × Nat × Nat × Nat) (st':SortSt):Prop:=Sm st st'/\∃ o i j mg,c = (none,o,i,j,mg)/\LoP κ a b n o i j
noncomputable def LoI2 (κ:KeyKind) (a b:Array Keyed) (st:SortSt) (n:Nat) (c:Option (Array Keyed) × Array Keyed × Nat × Nat × Nat × Nat) (st':SortSt):Prop:=Sm st st'/\∃ o i j ac bc,c = (none,o,i,j,ac,bc)/\LoP κ a b n o i j
noncomputable def LoI3 (κ:KeyKind) (a b:Array Keyed) (st:SortSt) (n:Nat) (c:Option (Array Keyed) × Array Keyed × Nat × Nat × Nat × Nat × Nat) (st':SortSt):Prop:=Sm st st'/\∃ o i j mg ac bc,c = (none,o,i,j,mg,ac,bc)/\LoP κ a b n o i j
theorem LoI2.mk {a b o:Array Keyed} {st st':SortSt} {n i j ac bc:Nat} (sm:Sm st st') (h:LoP κ a b n o i j):LoI2 κ a b st n (none,o,i,j,ac,bc) st':=⟨sm,_,_,_,_,_,rfl,h⟩
theorem LoI3.mk {a b o:Array Keyed} {st st':SortSt} {n i j mg ac bc:Nat} (sm:Sm st st') (h:LoP κ a b n o i j):LoI3 κ a b st n (none,o,i,j,mg,ac,bc) st':=⟨sm,_,_,_,_,_,_,rfl,h⟩
theorem wpS_mergeLo (C:Cmp prog w A s κ kd) {st:SortSt} {a b:Array Keyed} {Q:Array Keyed->SortSt->Prop} (hk:kindOf st = kd) (P:Pre κ a b)
  (h:∀ r st',Sm st st'->Rm κ a b r->Q r st'):wpS (model prog w) A E s (mergeLo' a b) Q st:=by
 rw [mergeLo'_eq]
 obtain ⟨b0,hb0⟩:=ar_at (a:=b) (i:=0) P.nb
 have m0:ML κ a.toList b.toList (#[]:Array Keyed).toList 0 0:=⟨by simp,List.Pairwise.nil,fun x hx=>absurd hx (by simp),fun x hx=>absurd hx (by simp)⟩
 have m1:ML κ a.toList b.toList (#[b0]:Array Keyed).toList 0 1:=by
  have:=P.pushB m0 hb0 (by rw [List.drop_zero]; exact P.first b0 hb0)
  simpa using this
 apply wpS_out (x0:=b0) (fun R z=>wpS_lift (wpAny_rule ⟨rfl,z⟩)) (fun R z=>wpS_elem hb0 z)
 case h1=>exact fun hb1=>wpS_pure (h _ _ (Sm.refl _) (P.doneB m1 (eq_of_beq hb1)))
 case h2=>exact fun _ ha1=>wpS_pure (h _ _ (Sm.refl _) (P.lastA m1 (eq_of_beq ha1)))
 intro hb1 ha1
 have p1:LoP κ a b 1 #[b0] 0 1:=⟨m1,Nat.lt_of_le_of_ne P.na fun z=>ha1 (beq_iff_eq.mpr z),Nat.lt_of_le_of_ne P.nb fun z=>hb1 (beq_iff_eq.mpr z),Nat.le_refl _⟩
 refine wpS_mono (wpS_forRange (I:=fun x=>LoI1 κ a b st (x + 1)) (Q:=MR κ a b st) ?st ?en ⟨Sm.refl _,_,_,_,_,rfl,p1⟩) ?po
 case po =>
  rintro ⟨c1,c2⟩ st' ⟨sm,r,e,hr⟩
  cases e
  exact wpS_pure (h r st' sm hr)
 case en =>
  rintro c st' ⟨sm,o,i,j,mg,rfl,p⟩
  obtain ⟨_,h1,h2,h3⟩:=p
  exfalso
  lia
 case st =>
  rintro x c st' _ hx ⟨sm,o,i,j,mg,rfl,p⟩
  refine wpS_bind (wpS_mono (wpS_forRange (I:=fun _=>LoI2 κ a b st (x + 1)) (Q:=fun c st'=>MR κ a b st c st'\/LoI2 κ a b st (x + 1) c st') ?st1 ?en1 (LoI2.mk sm p)) ?po1)
  case en1=>exact fun c st2 z=>.inr z
  case st1 =>
   rintro x2 c st2 _ _ ⟨sm2,o,i',j',ac,bc,rfl,p2⟩
   obtain ⟨bj,hbj⟩:=ar_at (a:=b) (i:=j') p2.hj
   obtain ⟨ai,hai⟩:=ar_at (a:=a) (i:=i') (Nat.lt_of_succ_lt p2.hi)
   refine wpS_bind (wpS_elem hbj (wpS_bind (wpS_elem hai (wpS_bind (wpS_lt C (sm2.knd hk) (P.kb _ _ hbj) (P.ka _ _ hai) ?_)))))
   refine wpS_if (fun hlt=>wpS_bind (wpS_elem hbj ?_)) fun hlt=>wpS_bind (wpS_elem hai ?_)
   ·have m3:=P.pushB p2.m hbj fun z hz=>le_trans (KeyOrd.kle_of_klt hlt) (head_le P.sa (ar_get.mp hai) z hz)
    refine wpS_ifN (fun e1=>wpS_pure (.inl (MR.mk sm2 (P.doneB m3 e1)))) fun e1=>?_
    have p3:=(p2.putB m3 e1).mono (Nat.le_succ _)
    exact wpS_if (fun _=>wpS_pure (.inr (LoI2.mk sm2 p3))) fun _=>wpS_pure (LoI2.mk sm2 p3)
   ·have m3:=P.pushA p2.m hai fun z hz=>le_trans (show le κ ai bj from Bool.eq_false_iff.mpr hlt) (head_le P.sb (ar_get.mp hbj) z hz)
    refine wpS_ifN (fun e1=>wpS_pure (.inl (MR.mk sm2 (P.lastA m3 e1)))) fun e1=>?_
    have p3:=(p2.putA m3 e1).mono (Nat.le_succ _)
    exact wpS_if (fun _=>wpS_pure (.inr (LoI2.mk sm2 p3))) fun _=>wpS_pure (LoI2.mk sm2 p3)
  case po1 =>
   rintro ⟨c1,c2⟩ st2 (⟨sm2,r,e,hr⟩ | ⟨sm2,o2,i2,j2,ac,bc,e,p2⟩)
   ·cases e
    exact wpS_pure (MR.mk sm2 hr)
   ·cases e
    refine wpS_bind (wpS_lift (wpAny_rule ⟨rfl,?_⟩))
    refine wpS_bind (wpS_mono (wpS_forRange (I:=fun x3=>LoI3 κ a b st (x + 1 + x3)) (Q:=fun c st'=>MR κ a b st c st'\/LoI3 κ a b st (x + 1 + 1) c st') ?st2 ?en2 (LoI3.mk sm2 p2)) ?po2)
    case en2 =>
     rintro c st3 ⟨sm3,o',i',j',mg',ac,bc,rfl,p3⟩
     refine .inr (LoI3.mk sm3 (p3.mono ?_))
     have:=P.na
     lia
    case po2 =>
     rintro ⟨c1,c2⟩ st3 (⟨sm3,r,e,hr⟩ | ⟨sm3,o',i',j',mg',ac,bc,e,p3⟩)
     ·cases e
      exact wpS_pure (MR.mk sm3 hr)
     ·cases e
      refine wpS_bind (wpS_setMin sm3 fun st4 sm4=>?_)
      exact wpS_pure ⟨sm4,_,_,_,_,rfl,p3⟩
    case st2 =>
     rintro x3 c st3 _ _ ⟨sm3,o3,i3,j3,mg3,ac3,bc3,rfl,p3⟩
     obtain ⟨bj,hbj⟩:=ar_at (a:=b) (i:=j3) p3.hj
     have hi3:i3 + (a.size - i3)<=a.size:=by rw [Nat.add_sub_cancel' (Nat.le_of_lt (Nat.lt_of_succ_lt p3.hi))]; exact Nat.le_refl _
     have hj3:=p3.hj
     apply wpS_jp1 (mg3 - 1) (y:=mg3)
     case e=>exact rfl
     intro g
     refine wpS_bind (wpS_setMin sm3 fun st4 sm4=>?_)
     refine wpS_bind (wpS_elem hbj (wpS_bind (wpS_gal C (sm4.knd hk) (P.kb _ _ hbj) hi3 P.ka (fun u v p q huv _ e1 e2=>sor_le P.sa (Nat.add_le_add_left huv _) (ar_get.mp e1) (ar_get.mp e2)) (Nat.sub_pos_of_lt (Nat.lt_of_succ_lt p3.hi)) fun k hk1 k1 k2=>?_)))
     have m4:ML κ a.toList b.toList (o3 ++ a.extract i3 (i3 + k)).toList (i3 + k) j3:=P.extA p3.m fun y hy z hz=>by
      obtain ⟨t,ht,e⟩:=mem_dt hy
      exact le_trans (PB_right (k1 t y ht (ar_get.mpr e))) (head_le P.sb (ar_get.mp hbj) z hz)
     have hbz:∀ z ∈ a.toList.drop (i3 + k),le κ bj z:=fun z hz=>by
      obtain ⟨t,ht,e⟩:=mem_d hz
      rw [Array.length_toList] at ht
      exact KeyOrd.kle_of_klt (PB_right' (k2 (k + t) z (Nat.le_add_right _ _) (by lia) (by rw [<-Nat.add_assoc]; exact ar_get.mpr e)))
     apply wpS_jp2 (o:=o3) (i:=i3) (fun o i=>LoP κ a b (x + 1 + x3) o i j3/\∀ z ∈ a.toList.drop i,le κ bj z)
     ·rintro o4 i4 ⟨p4,hbz⟩
      refine wpS_bind (wpS_elem hbj ?_)
      have m5:=P.pushB p4.m hbj hbz
      refine wpS_ifN (fun e3=>wpS_pure (.inl (MR.mk sm4 (P.doneB m5 e3)))) fun e3=>?_
      have p5:=p4.putB m5 e3
      generalize o4.push bj = o5 at m5 p5 ⊢
      generalize j3 + 1 = j5 at m5 p5 ⊢
      obtain ⟨ai,hai⟩:=ar_at (a:=a) (i:=i4) (Nat.lt_of_succ_lt p5.hi)
      refine wpS_bind (wpS_elem hai (wpS_bind (wpS_gal C (sm4.knd hk) (P.ka _ _ hai) (by rw [Nat.add_sub_cancel' (Nat.le_of_lt p5.hj)]; exact Nat.le_refl _) P.kb (fun u v p q huv _ e1 e2=>sor_le P.sb (Nat.add_le_add_left huv _) (ar_get.mp e1) (ar_get.mp e2)) (Nat.sub_pos_of_lt p5.hj) fun k' hk1' k1' k2'=>?_)))
      have haz:∀ z ∈ b.toList.drop (j5 + k'),le κ ai z:=fun z hz=>by
       obtain ⟨t,ht,e⟩:=mem_d hz
       rw [Array.length_toList] at ht
       exact PB_left' (k2' (k' + t) z (Nat.le_add_right _ _) (by lia) (by rw [<-Nat.add_assoc]; exact ar_get.mpr e))
      apply wpS_jp2 (o:=o5) (i:=j5) (fun o j=>LoP κ a b (x + 1 + x3 + 1) o i4 j/\∀ z ∈ b.toList.drop j,le κ ai z)
      ·rintro o6 j6 ⟨p6,haz⟩
       refine wpS_bind (wpS_elem hai ?_)
       have m7:=P.pushA p6.m hai haz
       refine wpS_ifN (fun e5=>wpS_pure (.inl (MR.mk sm4 (P.lastA m7 e5)))) fun e5=>?_
       have p7:=p6.putA m7 e5
       exact wpS_if (fun _=>wpS_pure (.inr (LoI3.mk sm4 (p7.mono (by lia))))) fun _=>wpS_pure (LoI3.mk sm4 (p7.mono (by lia)))
      ·intro hF hk0
       have m6:ML κ a.toList b.toList (o5 ++ b.extract j5 (j5 + k')).toList i4 (j5 + k'):=P.extB m5 fun y hy z hz=>by
        obtain ⟨t,ht,e⟩:=mem_dt hy
        exact le_trans (KeyOrd.kle_of_klt (PB_left (k1' t y ht (ar_get.mpr e)))) (head_le P.sa (ar_get.mp hai) z hz)
       have hj5:=p5.hj
       exact wpS_ifN (fun e4=>wpS_pure (.inl (MR.mk sm4 (P.doneB m6 e4)))) fun e4=>hF _ _ ⟨⟨m6,p5.hi,by lia,Nat.le_trans p5.hn (by lia)⟩,haz⟩
      ·intro hk0
       have z0:k' = 0:=Nat.eq_zero_of_not_pos hk0
       subst z0
       exact ⟨p5,haz⟩
     ·intro hF hk0
      have hi:=p3.hi
      exact wpS_ifN (fun e1=>wpS_pure (.inl (MR.mk sm4 (P.lastA m4 e1)))) fun e1=>wpS_ifN (fun e2=>wpS_pure (.inl (MR.mk sm4 (P.doneA m4 e2)))) fun e2=>hF _ _ ⟨⟨m4,by lia,p3.hj,Nat.le_trans p3.hn (by lia)⟩,hbz⟩
     ·intro hk0
      have z0:k = 0:=Nat.eq_zero_of_not_pos hk0
      subst z0
      exact ⟨p3,hbz⟩
end
end TS
namespace TS
open PySem PyProof.Rows
section
variable {prog:Program} {w:World} {A:Around} {E:Value->Shared->Prop} {s:Shared} {κ:KeyKind} {kd:SortKind}
noncomputable def mergeHi':Array Keyed->Array Keyed->StateT SortSt Sem (Array Keyed):=sortPriv% PySem.Builtin.mergeHi
theorem mergeHi'_eq (a b:Array Keyed):mergeHi' a b = (do
  rule "list.sort.merge-hi"
  let tot:=a.size + b.size
  let dn (o:Array Keyed) (i j:Nat):=a.extract 0 i ++ b.extract 0 j ++ o.reverse
  let fB (o:Array Keyed) (i j:Nat):=b.extract 0 j ++ a.extract 0 i ++ o.reverse
  let mut i:=a.size - 1
  let mut j:=b.size
  let mut o:Array Keyed:=#[<-elem' a i]
  if i == 0 then return dn o i j
  if j == 1 then return fB o i j
  let mut mg:=gallopOf (<-get)
  for _ in [0:tot] do
   let mut ac:=0
   let mut bc:=0
   for _ in [0:tot] do
    let some aw <-lt' (<-elem' b (j - 1)) (<-elem' a (i - 1)) | return dn o i j
    if aw then
     i:=i - 1; o:=o.push (<-elem' a i); ac:=ac + 1; bc:=0
     if i == 0 then return dn o i j
     if ac ≥ mg then break
    else
     j:=j - 1; o:=o.push (<-elem' b j); bc:=bc + 1; ac:=0
     if j == 1 then return fB o i j
     if bc ≥ mg then break
   rule "list.sort.gallop"
   mg:=mg + 1
   for _ in [0:tot] do
    if mg > 1 then mg:=mg - 1
    setMin' mg
    let some at_ <-gallop' false (<-elem' b (j - 1)) a 0 i (i - 1) | return dn o i j
    let k:=i - at_
    ac:=k
    if k > 0 then
     o:=o ++ (a.extract at_ i).reverse; i:=at_
     if i == 0 then return dn o i j
    j:=j - 1; o:=o.push (<-elem' b j)
    if j == 1 then return fB o i j
    let some at_ <-gallop' true (<-elem' a (i - 1)) b 0 j (j - 1) | return dn o i j
    let k:=j - at_
    bc:=k
    if k > 0 then
     o:=o ++ (b.extract at_ j).reverse; j:=at_
     if j == 1 then return fB o i j
     if j == 0 then return dn o i j
    i:=i - 1; o:=o.push (<-elem' a i)
    if i == 0 then return dn o i j
    if ac < 7 && bc < 7 then break
   mg:=mg + 1
   setMin' mg
  unsupported "internal:list.sort.merge-bound"):=rfl
noncomputable abbrev MHa (κ:KeyKind) (a b o:Array Keyed) (i j:Nat):Prop:=MH κ a.toList b.toList o.toList.reverse i j
section
variable {a b o:Array Keyed} {i j k:Nat} {p q:Keyed}
theorem td1 {l:List Keyed} {i:Nat} {p:Keyed} (hi:1<=i) (h:l[i - 1]? = some p):(l.take i).drop (i - 1) = [p]:=by
 rw [List.drop_take,show i - (i - 1) = 1 by lia]
 exact take1 h
theorem ext_mid (a:Array Keyed) (k i:Nat):(a.extract k i).toList = (a.toList.take i).drop k:=by
 rw [Array.toList_extract,List.extract_eq_take_drop,List.drop_take]
theorem last_le {l:List Keyed} (h:Sor κ l) {i:Nat} {p:Keyed} (hp:l[i - 1]? = some p):∀ z ∈ l.take i,le κ z p:=fun z hz=>by
 obtain ⟨t,h1,_,e⟩:=mem_t hz
 exact sor_le h (by lia) e hp
theorem Pre.hpA (P:Pre κ a b) (m:MHa κ a b o i j) (hi:1<=i) (hp:a[i - 1]? = some p) (h:∀ z ∈ b.toList.take j,le κ z p):MHa κ a b (o.push p) (i - 1) j:=by
 have h1:=m.addA P.sa (i - 1) (by lia) (by rw [td1 hi (ar_get.mp hp)]; intro y hy; rw [List.mem_singleton.mp hy]; exact h)
 rw [td1 hi (ar_get.mp hp)] at h1
 unfold MHa
 rw [Array.toList_push,List.reverse_append]
 exact h1
theorem Pre.hpB (P:Pre κ a b) (m:MHa κ a b o i j) (hj:1<=j) (hq:b[j - 1]? = some q) (h:∀ z ∈ a.toList.take i,le κ z q):MHa κ a b (o.push q) i (j - 1):=by
 have h1:=m.addB P.sb (j - 1) (by lia) (by rw [td1 hj (ar_get.mp hq)]; intro y hy; rw [List.mem_singleton.mp hy]; exact h)
 rw [td1 hj (ar_get.mp hq)] at h1
 unfold MHa
 rw [Array.toList_push,List.reverse_append]
 exact h1
theorem Pre.heA (P:Pre κ a b) (m:MHa κ a b o i j) (hk:k<=i) (h:∀ y ∈ (a.toList.take i).drop k,∀ z ∈ b.toList.take j,le κ z y):MHa κ a b (o ++ (a.extract k i).reverse) k j:=by
 unfold MHa
 rw [Array.toList_append,Array.toList_reverse,List.reverse_append,List.reverse_reverse,ext_mid]
 exact m.addA P.sa k hk h
theorem Pre.heB (P:Pre κ a b) (m:MHa κ a b o i j) (hk:k<=j) (h:∀ y ∈ (b.toList.take j).drop k,∀ z ∈ a.toList.take i,le κ z y):MHa κ a b (o ++ (b.extract k j).reverse) i k:=by
 unfold MHa
 rw [Array.toList_append,Array.toList_reverse,List.reverse_append,List.reverse_reverse,ext_mid]
 exact m.addB P.sb k hk h
theorem Pre.hdA (P:Pre κ a b) (m:MHa κ a b o i j) (hi:i = 0):Rm κ a b (a.extract 0 i ++ b.extract 0 j ++ o.reverse):=by
 unfold Rm
 rw [Array.toList_append,Array.toList_append,Array.toList_reverse,ext_beg,ext_beg]
 refine m.endA P.sa P.sb fun y hy z _=>?_
 rw [hi,List.take_zero] at hy
 exact absurd hy (by simp)
theorem Pre.hdB (P:Pre κ a b) (m:MHa κ a b o i j) (hj:j = 0):Rm κ a b (a.extract 0 i ++ b.extract 0 j ++ o.reverse):=by
 unfold Rm
 rw [Array.toList_append,Array.toList_append,Array.toList_reverse,ext_beg,ext_beg]
 refine m.endA P.sa P.sb fun y _ z hz=>?_
 rw [hj,List.take_zero] at hz
 exact absurd hz (by simp)
theorem Pre.hfB (P:Pre κ a b) (m:MHa κ a b o i j) (hj:j = 1):Rm κ a b (b.extract 0 j ++ a.extract 0 i ++ o.reverse):=by
 unfold Rm
 rw [Array.toList_append,Array.toList_append,Array.toList_reverse,ext_beg,ext_beg]
 refine m.endB P.sa P.sb fun y hy z hz=>?_
 obtain ⟨t,h1,_,e⟩:=mem_t hy
 have e0:t = 0:=by lia
 rw [e0] at e
 exact P.first y (ar_get.mpr e) z (List.mem_of_mem_take hz)
end
structure HiP (κ:KeyKind) (a b:Array Keyed) (n:Nat) (o:Array Keyed) (i j:Nat):Prop where
 m:MHa κ a b o i j
 hi:1<=i
 hj:2<=j
 ia:i<=a.size
 jb:j<=b.size
 hn:n + i + j<=a.size + b.size
theorem HiP.putA {a b o o':Array Keyed} {n i j:Nat} (h:HiP κ a b n o i j) (m:MHa κ a b o' (i - 1) j) (e:i - 1 ≠ 0):HiP κ a b (n + 1) o' (i - 1) j:=by
 obtain ⟨_,h1,h2,h3,h4,h5⟩:=h
 exact ⟨m,by lia,h2,by lia,h4,by lia⟩
theorem HiP.putB {a b o o':Array Keyed} {n i j:Nat} (h:HiP κ a b n o i j) (m:MHa κ a b o' i (j - 1)) (e:j - 1 ≠ 1):HiP κ a b (n + 1) o' i (j - 1):=by
 obtain ⟨_,h1,h2,h3,h4,h5⟩:=h
 exact ⟨m,h1,by lia,h3,by lia,by lia⟩
theorem HiP.mono {a b o:Array Keyed} {n n' i j:Nat} (h:HiP κ a b n o i j) (l:n'<=n):HiP κ a b n' o i j:=⟨h.m,h.hi,h.hj,h.ia,h.jb,Nat.le_trans (Nat.add_le_add_right (Nat.add_le_add_right l _) _) h.hn⟩
theorem HiP.la {a b o:Array Keyed} {n i j:Nat} (h:HiP κ a b n o i j):i - 1 < a.size:=Nat.lt_of_lt_of_le (Nat.sub_lt h.hi (Nat.zero_lt_one)) h.ia
theorem HiP.lb {a b o:Array Keyed} {n i j:Nat} (h:HiP κ a b n o i j):j - 1 < b.size:=Nat.lt_of_lt_of_le (Nat.sub_lt (Nat.lt_of_succ_lt h.hj) (Nat.zero_lt_one)) h.jb
theorem HiP.hj1 {a b o:Array Keyed} {n i j:Nat} (h:HiP κ a b n o i j):1<=j:=Nat.le_of_succ_le h.hj
noncomputable def HiI1 (κ:KeyKind) (a b:Array Keyed) (st:SortSt) (n:Nat) (c:Option (Array Keyed) × Nat × Nat × Array Keyed × Nat) (st':SortSt):Prop:=Sm st st'/\∃ i j o mg,c = (none,i,j,o,mg)/\HiP κ a b n o i j
noncomputable def HiI2 (κ:KeyKind) (a b:Array Keyed) (st:SortSt) (n:Nat) (c:Option (Array Keyed) × Nat × Nat × Array Keyed × Nat × Nat) (st':SortSt):Prop:=Sm st st'/\∃ i j o ac bc,c = (none,i,j,o,ac,bc)/\HiP κ a b n o i j
noncomputable def HiI3 (κ:KeyKind) (a b:Array Keyed) (st:SortSt) (n:Nat) (c:Option (Array Keyed) × Nat × Nat × Array Keyed × Nat × Nat × Nat) (st':SortSt):Prop:=Sm st st'/\∃ i j o mg ac bc,c = (none,i,j,o,mg,ac,bc)/\HiP κ a b n o i j
theorem HiI2.mk {a b o:Array Keyed} {st st':SortSt} {n i j ac bc:Nat} (sm:Sm st st') (h:HiP κ a b n o i j):HiI2 κ a b st n (none,i,j,o,ac,bc) st':=⟨sm,_,_,_,_,_,rfl,h⟩
theorem HiI3.mk {a b o:Array Keyed} {st st':SortSt} {n i j mg ac bc:Nat} (sm:Sm st st') (h:HiP κ a b n o i j):HiI3 κ a b st n (none,i,j,o,mg,ac,bc) st':=⟨sm,_,_,_,_,_,_,rfl,h⟩
theorem wpS_mergeHi (C:Cmp prog w A s κ kd) {st:SortSt} {a b:Array Keyed} {Q:Array Keyed->SortSt->Prop} (hk:kindOf st = kd) (P:Pre κ a b)
  (h:∀ r st',Sm st st'->Rm κ a b r->Q r st'):wpS (model prog w) A E s (mergeHi' a b) Q st:=by
 rw [mergeHi'_eq]
 have hna:=P.na
 have hnb:=P.nb
 obtain ⟨b0,hb0⟩:=ar_at (a:=a) (i:=a.size - 1) (Nat.sub_lt hna Nat.zero_lt_one)
 have m0:MHa κ a b (#[]:Array Keyed) a.size b.size:=⟨by simp,List.Pairwise.nil,fun x hx=>absurd hx (by simp),fun x hx=>absurd hx (by simp)⟩
 have m1:MHa κ a b (#[b0]:Array Keyed) (a.size - 1) b.size:=by
  have:=P.hpA m0 hna hb0 (fun z hz=>P.last b0 hb0 z (List.mem_of_mem_take hz))
  simpa using this
 apply wpS_out (x0:=b0) (fun R z=>wpS_lift (wpAny_rule ⟨rfl,z⟩)) (fun R z=>wpS_elem hb0 z)
 case h1=>exact fun ha1=>wpS_pure (h _ _ (Sm.refl _) (P.hdA m1 (eq_of_beq ha1)))
 case h2=>exact fun _ hb1=>wpS_pure (h _ _ (Sm.refl _) (P.hfB m1 (eq_of_beq hb1)))
 intro ha1 hb1
 have ha1:¬ a.size - 1 = 0:=fun z=>ha1 (beq_iff_eq.mpr z)
 have hb1:¬ b.size = 1:=fun z=>hb1 (beq_iff_eq.mpr z)
 have p1:HiP κ a b 1 #[b0] (a.size - 1) b.size:=⟨m1,by lia,by lia,by lia,by lia,by lia⟩
 refine wpS_mono (wpS_forRange (I:=fun x=>HiI1 κ a b st (x + 1)) (Q:=MR κ a b st) ?st ?en ⟨Sm.refl _,_,_,_,_,rfl,p1⟩) ?po
 case po =>
  rintro ⟨c1,c2⟩ st' ⟨sm,r,e,hr⟩
  cases e
  exact wpS_pure (h r st' sm hr)
 case en =>
  rintro c st' ⟨sm,i,j,o,mg,rfl,p⟩
  obtain ⟨_,h1,h2,_,_,h3⟩:=p
  exfalso
  lia
 case st =>
  rintro x c st' _ hx ⟨sm,i,j,o,mg,rfl,p⟩
  refine wpS_bind (wpS_mono (wpS_forRange (I:=fun _=>HiI2 κ a b st (x + 1)) (Q:=fun c st'=>MR κ a b st c st'\/HiI2 κ a b st (x + 1) c st') ?st1 ?en1 (HiI2.mk sm p)) ?po1)
  case en1=>exact fun c st2 z=>.inr z
  case st1 =>
   rintro x2 c st2 _ _ ⟨sm2,i',j',o,ac,bc,rfl,p2⟩
   obtain ⟨bj,hbj⟩:=ar_at (a:=b) (i:=j' - 1) p2.lb
   obtain ⟨ai,hai⟩:=ar_at (a:=a) (i:=i' - 1) p2.la
   refine wpS_bind (wpS_elem hbj (wpS_bind (wpS_elem hai (wpS_bind (wpS_lt C (sm2.knd hk) (P.kb _ _ hbj) (P.ka _ _ hai) ?_)))))
   refine wpS_if (fun hlt=>wpS_bind (wpS_elem hai ?_)) fun hlt=>wpS_bind (wpS_elem hbj ?_)
   ·have m3:=P.hpA p2.m p2.hi hai fun z hz=>le_trans (last_le P.sb (ar_get.mp hbj) z hz) (KeyOrd.kle_of_klt hlt)
    refine wpS_ifN (fun e1=>wpS_pure (.inl (MR.mk sm2 (P.hdA m3 e1)))) fun e1=>?_
    have p3:=(p2.putA m3 e1).mono (Nat.le_succ _)
    exact wpS_if (fun _=>wpS_pure (.inr (HiI2.mk sm2 p3))) fun _=>wpS_pure (HiI2.mk sm2 p3)
   ·have m3:=P.hpB p2.m p2.hj1 hbj fun z hz=>le_trans (last_le P.sa (ar_get.mp hai) z hz) (show le κ ai bj from Bool.eq_false_iff.mpr hlt)
    refine wpS_ifN (fun e1=>wpS_pure (.inl (MR.mk sm2 (P.hfB m3 e1)))) fun e1=>?_
    have p3:=(p2.putB m3 e1).mono (Nat.le_succ _)
    exact wpS_if (fun _=>wpS_pure (.inr (HiI2.mk sm2 p3))) fun _=>wpS_pure (HiI2.mk sm2 p3)
  case po1 =>
   rintro ⟨c1,c2⟩ st2 (⟨sm2,r,e,hr⟩ | ⟨sm2,i2,j2,o2,ac,bc,e,p2⟩)
   ·cases e
    exact wpS_pure (MR.mk sm2 hr)
   ·cases e
    refine wpS_bind (wpS_lift (wpAny_rule ⟨rfl,?_⟩))
    refine wpS_bind (wpS_mono (wpS_forRange (I:=fun x3=>HiI3 κ a b st (x + 1 + x3)) (Q:=fun c st'=>MR κ a b st c st'\/HiI3 κ a b st (x + 1 + 1) c st') ?st2 ?en2 (HiI3.mk sm2 p2)) ?po2)
    case en2 =>
     rintro c st3 ⟨sm3,i',j',o',mg',ac,bc,rfl,p3⟩
     exact .inr (HiI3.mk sm3 (p3.mono (by lia)))
    case po2 =>
     rintro ⟨c1,c2⟩ st3 (⟨sm3,r,e,hr⟩ | ⟨sm3,i',j',o',mg',ac,bc,e,p3⟩)
     ·cases e
      exact wpS_pure (MR.mk sm3 hr)
     ·cases e
      refine wpS_bind (wpS_setMin sm3 fun st4 sm4=>?_)
      exact wpS_pure ⟨sm4,_,_,_,_,rfl,p3⟩
    case st2 =>
     rintro x3 c st3 _ _ ⟨sm3,i3,j3,o3,mg3,ac3,bc3,rfl,p3⟩
     obtain ⟨bj,hbj⟩:=ar_at (a:=b) (i:=j3 - 1) p3.lb
     apply wpS_jp1 (mg3 - 1) (y:=mg3)
     case e=>exact rfl
     intro g
     refine wpS_bind (wpS_setMin sm3 fun st4 sm4=>?_)
     refine wpS_bind (wpS_elem hbj (wpS_bind (wpS_gal C (sm4.knd hk) (P.kb _ _ hbj) (by rw [Nat.zero_add]; exact p3.ia) P.ka (fun u v p q huv _ e1 e2=>sor_le P.sa (Nat.add_le_add_left huv _) (ar_get.mp e1) (ar_get.mp e2)) (Nat.sub_lt p3.hi Nat.zero_lt_one) fun k hk1 k1 k2=>?_)))
     dsimp only
     have m4:MHa κ a b (o3 ++ (a.extract k i3).reverse) k j3:=P.heA p3.m hk1 fun y hy z hz=>by
      obtain ⟨t,ht1,ht2,e⟩:=mem_td hy
      exact le_trans (last_le P.sb (ar_get.mp hbj) z hz) (KeyOrd.kle_of_klt (PB_right' (k2 t y ht1 ht2 (by rw [Nat.zero_add]; exact ar_get.mpr e))))
     have hbz:∀ z ∈ a.toList.take k,le κ z bj:=fun z hz=>by
      obtain ⟨t,ht,_,e⟩:=mem_t hz
      exact PB_right (k1 t z ht (by rw [Nat.zero_add]; exact ar_get.mpr e))
     generalize hd:i3 - k = d
     apply wpS_jp2 (o:=o3) (i:=i3) (fun o i=>HiP κ a b (x + 1 + x3) o i j3/\∀ z ∈ a.toList.take i,le κ z bj)
     ·rintro o4 i4 ⟨p4,hbz⟩
      refine wpS_bind (wpS_elem hbj ?_)
      have m5:=P.hpB p4.m p4.hj1 hbj hbz
      refine wpS_ifN (fun e3=>wpS_pure (.inl (MR.mk sm4 (P.hfB m5 e3)))) fun e3=>?_
      have p5:=p4.putB m5 e3
      generalize o4.push bj = o5 at m5 p5 ⊢
      generalize j3 - 1 = j5 at m5 p5 ⊢
      obtain ⟨ai,hai⟩:=ar_at (a:=a) (i:=i4 - 1) p5.la
      refine wpS_bind (wpS_elem hai (wpS_bind (wpS_gal C (sm4.knd hk) (P.ka _ _ hai) (by rw [Nat.zero_add]; exact p5.jb) P.kb (fun u v p q huv _ e1 e2=>sor_le P.sb (Nat.add_le_add_left huv _) (ar_get.mp e1) (ar_get.mp e2)) (Nat.sub_lt p5.hj1 Nat.zero_lt_one) fun k' hk1' k1' k2'=>?_)))
      dsimp only
      have haz:∀ z ∈ b.toList.take k',le κ z ai:=fun z hz=>by
       obtain ⟨t,ht,_,e⟩:=mem_t hz
       exact KeyOrd.kle_of_klt (PB_left (k1' t z ht (by rw [Nat.zero_add]; exact ar_get.mpr e)))
      generalize hd':j5 - k' = d'
      apply wpS_jp2 (o:=o5) (i:=j5) (fun o j=>HiP κ a b (x + 1 + x3 + 1) o i4 j/\∀ z ∈ b.toList.take j,le κ z ai)
      ·rintro o6 j6 ⟨p6,haz⟩
       refine wpS_bind (wpS_elem hai ?_)
       have m7:=P.hpA p6.m p6.hi hai haz
       refine wpS_ifN (fun e5=>wpS_pure (.inl (MR.mk sm4 (P.hdA m7 e5)))) fun e5=>?_
       have p7:=p6.putA m7 e5
       exact wpS_if (fun _=>wpS_pure (.inr (HiI3.mk sm4 (p7.mono (by lia))))) fun _=>wpS_pure (HiI3.mk sm4 (p7.mono (by lia)))
      ·intro hF hk0
       have m6:MHa κ a b (o5 ++ (b.extract k' j5).reverse) i4 k':=P.heB m5 hk1' fun y hy z hz=>by
        obtain ⟨t,ht1,ht2,e⟩:=mem_td hy
        exact le_trans (last_le P.sa (ar_get.mp hai) z hz) (PB_left' (k2' t y ht1 ht2 (by rw [Nat.zero_add]; exact ar_get.mpr e)))
       obtain ⟨_,h1,h2,h3,h4,h5⟩:=p5
       exact wpS_ifN (fun e4=>wpS_pure (.inl (MR.mk sm4 (P.hfB m6 e4)))) fun e4=>wpS_ifN (fun e5=>wpS_pure (.inl (MR.mk sm4 (P.hdB m6 e5)))) fun e5=>hF _ _ ⟨⟨m6,h1,by lia,h3,Nat.le_trans hk1' h4,by lia⟩,haz⟩
      ·intro hk0
       have z0:k' = j5:=Nat.le_antisymm hk1' (Nat.le_of_sub_eq_zero (hd'.trans (Nat.eq_zero_of_not_pos hk0)))
       subst z0
       exact ⟨p5,haz⟩
     ·intro hF hk0
      obtain ⟨_,h1,h2,h3,h4,h5⟩:=p3
      exact wpS_ifN (fun e1=>wpS_pure (.inl (MR.mk sm4 (P.hdA m4 e1)))) fun e1=>hF _ _ ⟨⟨m4,by lia,h2,Nat.le_trans hk1 h3,h4,by lia⟩,hbz⟩
     ·intro hk0
      have z0:k = i3:=Nat.le_antisymm hk1 (Nat.le_of_sub_eq_zero (hd.trans (Nat.eq_zero_of_not_pos hk0)))
      subst z0
      exact ⟨p3,hbz⟩
end
end TS
namespace TS
open PySem PyProof.Rows
section
variable {prog:Program} {w:World} {A:Around} {E:Value->Shared->Prop} {s:Shared} {κ:KeyKind} {kd:SortKind}
noncomputable def seg (l:List Keyed) (lo n:Nat):List Keyed:=(l.drop lo).take n
theorem foldl_set (m:List Keyed) (lo:Nat):∀ (n:Nat) (a:Array Keyed),lo + n + m.length<=a.size ->
  ((m.zipIdx n).foldl (fun a (x:Keyed × Nat)=>a.setIfInBounds (lo + x.2) x.1) a).size = a.size /\
  ∀ t:Nat,((m.zipIdx n).foldl (fun a (x:Keyed × Nat)=>a.setIfInBounds (lo + x.2) x.1) a)[t]? = if lo + n<=t/\t < lo + n + m.length then m[t - (lo + n)]? else a[t]?:=by
 induction m with
 | nil =>
  intro n a h
  refine ⟨rfl,fun t=>?_⟩
  rw [if_neg (by simp only [List.length_nil]; omega)]
  rfl
 | cons p m ih =>
  intro n a h
  rw [List.length_cons] at h
  rw [List.zipIdx_cons,List.foldl_cons]
  obtain ⟨i1,i2⟩:=ih (n + 1) (a.setIfInBounds (lo + n) p) (by rw [Array.size_setIfInBounds]; omega)
  refine ⟨i1.trans Array.size_setIfInBounds,fun t=>?_⟩
  rw [i2 t,List.length_cons]
  by_cases h1:lo + n = t
  ·subst h1
   rw [if_neg (by omega),if_pos (by omega),Array.getElem?_setIfInBounds_self_of_lt (by omega),Nat.sub_self]
   rfl
  ·by_cases h2:lo + (n + 1)<=t/\t < lo + (n + 1) + m.length
   ·rw [if_pos h2,if_pos (by omega),show t - (lo + n) = (t - (lo + (n + 1))) + 1 by omega,List.getElem?_cons_succ]
   ·rw [if_neg h2,if_neg (by omega),Array.getElem?_setIfInBounds_ne h1]
theorem foldl_set_list (m:List Keyed) (lo:Nat) (a:Array Keyed) (h:lo + m.length<=a.size) :
  (m.zipIdx.foldl (fun a (x:Keyed × Nat)=>a.setIfInBounds (lo + x.2) x.1) a).toList = a.toList.take lo ++ m ++ a.toList.drop (lo + m.length):=by
 obtain ⟨h1,h2⟩:=foldl_set m lo 0 a (by omega)
 refine List.ext_getElem? fun t=>?_
 rw [Array.getElem?_toList,h2 t]
 have hl:(a.toList.take lo).length = lo:=by rw [List.length_take,Array.length_toList]; omega
 by_cases c1:t < lo
 ·rw [if_neg (by omega),List.append_assoc,List.getElem?_append_left (by omega),List.getElem?_take_of_lt c1,Array.getElem?_toList]
 ·by_cases c2:t < lo + m.length
  ·rw [if_pos (by omega),List.getElem?_append_left (by rw [List.length_append]; omega),List.getElem?_append_right (by omega),hl]
   rfl
  ·rw [if_neg (by omega),List.getElem?_append_right (by rw [List.length_append]; omega),List.length_append,hl,List.getElem?_drop,Array.getElem?_toList]
   congr 1
   omega
theorem seg_split (l:List Keyed) (lo n:Nat):l = l.take lo ++ seg l lo n ++ l.drop (lo + n):=by
 unfold seg
 rw [List.append_assoc,<-List.drop_drop,List.take_append_drop,List.take_append_drop]
theorem seg_add (l:List Keyed) (lo n m:Nat):seg l lo (n + m) = seg l lo n ++ seg l (lo + n) m:=by
 unfold seg
 rw [List.take_add,List.drop_drop]
structure Part (κ:KeyKind) (l l':List Keyed) (lo n:Nat):Prop where
 perm:l'.Perm l
 front:l'.take lo = l.take lo
 back:l'.drop (lo + n) = l.drop (lo + n)
theorem Part.refl (l:List Keyed) (lo n:Nat):Part κ l l lo n:=⟨List.Perm.refl _,rfl,rfl⟩
theorem Part.seg_front {l l':List Keyed} {lo n:Nat} (h:Part κ l l' lo n) {u m:Nat} (hu:u + m<=lo):seg l' u m = seg l u m:=by
 have:∀ x:List Keyed,seg x u m = ((x.take lo).drop u).take m:=fun x=>by
  unfold seg
  rw [List.drop_take,List.take_take,Nat.min_eq_left (by omega)]
 rw [this,this,h.front]
theorem Part.seg_back {l l':List Keyed} {lo n:Nat} (h:Part κ l l' lo n) {u m:Nat} (hu:lo + n<=u):seg l' u m = seg l u m:=by
 have:∀ x:List Keyed,seg x u m = ((x.drop (lo + n)).drop (u - (lo + n))).take m:=fun x=>by
  unfold seg
  rw [List.drop_drop,show lo + n + (u - (lo + n)) = u by omega]
 rw [this,this,h.back]
theorem Part.of {l z:List Keyed} {lo n:Nat} (hz:z.Perm (seg l lo n)) (hl:lo + n<=l.length):Part κ l (l.take lo ++ z ++ l.drop (lo + n)) lo n/\seg (l.take lo ++ z ++ l.drop (lo + n)) lo n = z:=by
 have h1:(l.take lo).length = lo:=by rw [List.length_take]; omega
 have h2:z.length = n:=by
  rw [hz.length_eq]
  unfold seg
  rw [List.length_take,List.length_drop]
  omega
 refine ⟨⟨?_,?_,?_⟩,?_⟩
 ·conv=>rhs; rw [seg_split l lo n]
  exact List.Perm.append_right _ (List.Perm.append_left _ hz)
 ·rw [List.append_assoc,List.take_append_of_le_length (by omega),List.take_of_length_le (by omega)]
 ·rw [List.drop_append,List.drop_eq_nil_of_le (by rw [List.length_append]; omega),List.nil_append,List.length_append,h1,h2,Nat.sub_self,List.drop_zero]
 ·unfold seg
  rw [List.append_assoc,List.drop_append,List.drop_eq_nil_of_le (by omega),List.nil_append,h1,Nat.sub_self,List.drop_zero,List.take_append_of_le_length (by omega),List.take_of_length_le (by omega)]
structure St (κ:KeyKind) (kd:SortKind) (a₀:Array Keyed) (st:SortSt):Prop where
 perm:(arrOf st).toList.Perm a₀.toList
 kind:kindOf st = kd
 failed:failedOf st = none
theorem St.size {a₀:Array Keyed} {st:SortSt} (h:St κ kd a₀ st):(arrOf st).size = a₀.size:=by
 have:=h.perm.length_eq
 simpa using this
theorem St.has {a₀:Array Keyed} {st:SortSt} (h:St κ kd a₀ st) (h0:KeysOf κ a₀) (i:Nat) (p:Keyed) (e:(arrOf st)[i]? = some p):Has κ p :=
 h0 p (h.perm.mem_iff.mp (List.mem_of_getElem? (ar_get.mp e)))
theorem seg_get {l:List Keyed} {lo n t:Nat} (ht:t < n):(seg l lo n)[t]? = l[lo + t]?:=by
 unfold seg
 rw [List.getElem?_take_of_lt ht,List.getElem?_drop]
theorem mergeAt'_eq (i:Nat):mergeAt' i = (do
  let u <-get
  let (some (sa,na,pw),some (sb,nb,_)):=((pendingOf u)[i]?,(pendingOf u)[i + 1]?) | unsupported "internal:list.sort.pending"
  set (setPending u (((pendingOf u).setIfInBounds i (sa,na + nb,pw)).eraseIdxIfInBounds (i + 1)))
  let some k <-gallop' false (<-elem' (arrOf u) sb) (arrOf u) sa na 0 | return false
  let (sa,na):=(sa + k,na - k)
  if na == 0 then return true
  let some nb <-gallop' true (<-elem' (arrOf u) (sa + na - 1)) (arrOf u) sb nb (nb - 1) | return false
  if nb == 0 then return true
  let x:=(arrOf u).extract sa sb
  let y:=(arrOf u).extract sb (sb + nb)
  let mm <-if na<=nb then mergeLo' x y else mergeHi' x y
  modify fun v=>setArr v (mm.toList.zipIdx.foldl (fun a (z:Keyed × Nat)=>a.setIfInBounds (sa + z.2) z.1) (arrOf v))
  return (failedOf (<-get)).isNone):=rfl
theorem wpS_set {st st2:SortSt} {Q:PUnit->SortSt->Prop} (h:Q ⟨⟩ st2):wpS (model prog w) A E s (set st2:StateT SortSt Sem PUnit) Q st:=by
 unfold wpS; rw [StateT.run_set]; exact wpAny_pure ⟨rfl,h⟩
theorem wpS_mergeAt (C:Cmp prog w A s κ kd) {a₀:Array Keyed} (h0:KeysOf κ a₀) {st:SortSt} {i sa na pw sb nb pw2:Nat} {Q:Bool->SortSt->Prop} (hS:St κ kd a₀ st)
  (hi:(pendingOf st)[i]? = some (sa,na,pw)) (hj:(pendingOf st)[i + 1]? = some (sb,nb,pw2)) (hsb:sb = sa + na) (hsz:sb + nb<=a₀.size) (hna:1<=na) (hnb:1<=nb)
  (sx:Sor κ (seg (arrOf st).toList sa na)) (sy:Sor κ (seg (arrOf st).toList sb nb))
  (h:∀ st',St κ kd a₀ st'->Part κ (arrOf st).toList (arrOf st').toList sa (na + nb)->Sor κ (seg (arrOf st').toList sa (na + nb)) ->
   pendingOf st' = ((pendingOf st).setIfInBounds i (sa,na + nb,pw)).eraseIdxIfInBounds (i + 1)->Q true st'):wpS (model prog w) A E s (mergeAt' i) Q st:=by
 subst hsb
 have hL:(arrOf st).toList.length = a₀.size:=by rw [Array.length_toList]; exact hS.size
 have hsz':=hS.size
 rw [mergeAt'_eq]
 refine wpS_bind (wpS_get ?_)
 rw [hi,hj]
 dsimp only
 refine wpS_bind (wpS_set ?_)
 obtain ⟨b0,hb0⟩:=ar_at (a:=arrOf st) (i:=sa + na) (by omega)
 have sxl:∀ u v p q,u<=v->v < na->(arrOf st)[sa + u]? = some p->(arrOf st)[sa + v]? = some q->le κ p q:=fun u v p q huv hv e1 e2 =>
  sor_le sx huv (by rw [seg_get (by omega)]; exact ar_get.mp e1) (by rw [seg_get hv]; exact ar_get.mp e2)
 have syl:∀ u v p q,u<=v->v < nb->(arrOf st)[sa + na + u]? = some p->(arrOf st)[sa + na + v]? = some q->le κ p q:=fun u v p q huv hv e1 e2 =>
  sor_le sy huv (by rw [seg_get (by omega)]; exact ar_get.mp e1) (by rw [seg_get hv]; exact ar_get.mp e2)
 refine wpS_bind (wpS_elem hb0 (wpS_bind (wpS_gal C hS.kind (hS.has h0 _ _ hb0) (by omega) (hS.has h0) sxl (by omega) fun k hk1 k1 k2=>?_)))
 dsimp only
 have b0y:∀ z ∈ seg (arrOf st).toList (sa + na) nb,le κ b0 z:=fun z hz=>by
  obtain ⟨t,ht,e⟩:=mem_dt hz
  exact syl 0 t b0 z (by omega) ht hb0 (ar_get.mpr e)
 have xk:∀ x ∈ (seg (arrOf st).toList sa na).take k,le κ x b0:=fun x hx=>by
  obtain ⟨t,ht,ht2,e⟩:=mem_t hx
  unfold seg at ht2
  rw [List.length_take] at ht2
  rw [seg_get (by omega)] at e
  exact PB_right (k1 t x ht (ar_get.mpr e))
 have kx:∀ x ∈ (seg (arrOf st).toList sa na).drop k,le κ b0 x:=fun x hx=>by
  obtain ⟨t,ht,e⟩:=mem_d hx
  unfold seg at ht
  rw [List.length_take] at ht
  rw [seg_get (by omega)] at e
  exact KeyOrd.kle_of_klt (PB_right' (k2 (k + t) x (by omega) (by omega) (ar_get.mpr e)))
 have S1:St κ kd a₀ (setPending st (((pendingOf st).setIfInBounds i (sa,na + nb,pw)).eraseIdxIfInBounds (i + 1))):=⟨hS.perm,hS.kind,hS.failed⟩
 by_cases hk0:na - k = 0
 ·rw [if_pos (by simpa using hk0)]
  have hkk:k = na:=by omega
  refine wpS_pure (h _ S1 (Part.refl _ _ _) ?_ rfl)
  show Sor κ (seg (arrOf st).toList sa (na + nb))
  rw [seg_add]
  refine List.pairwise_append.mpr ⟨sx,sy,fun x hx y hy=>le_trans (xk x ?_) (b0y y hy)⟩
  rw [List.take_of_length_le (by unfold seg; rw [List.length_take]; omega)]
  exact hx
 rw [if_neg (by simpa using hk0)]
 obtain ⟨al,hal⟩:=ar_at (a:=arrOf st) (i:=sa + k + (na - k) - 1) (by omega)
 refine wpS_bind (wpS_elem hal (wpS_bind (wpS_gal C S1.kind (hS.has h0 _ _ hal) (by omega) (hS.has h0) syl (by omega) fun k' hk1' k1' k2'=>?_)))
 dsimp only
 have hal':(arrOf st)[sa + (na - 1)]? = some al:=by rw [show sa + (na - 1) = sa + k + (na - k) - 1 by omega]; exact hal
 have xal:∀ x ∈ seg (arrOf st).toList sa na,le κ x al:=fun x hx=>by
  obtain ⟨t,ht,e⟩:=mem_dt hx
  exact sxl t (na - 1) x al (by omega) (by omega) (ar_get.mpr e) hal'
 have yk:∀ y ∈ (seg (arrOf st).toList (sa + na) nb).take k',le κ y al:=fun y hy=>by
  obtain ⟨t,ht,ht2,e⟩:=mem_t hy
  unfold seg at ht2
  rw [List.length_take] at ht2
  rw [seg_get (by omega)] at e
  exact KeyOrd.kle_of_klt (PB_left (k1' t y ht (ar_get.mpr e)))
 have ky:∀ y ∈ (seg (arrOf st).toList (sa + na) nb).drop k',le κ al y:=fun y hy=>by
  obtain ⟨t,ht,e⟩:=mem_d hy
  unfold seg at ht
  rw [List.length_take] at ht
  rw [seg_get (by omega)] at e
  exact PB_left' (k2' (k' + t) y (by omega) (by omega) (ar_get.mpr e))
 by_cases hk0':k' = 0
 ·rw [if_pos (by simpa using hk0')]
  refine wpS_pure (h _ S1 (Part.refl _ _ _) ?_ rfl)
  show Sor κ (seg (arrOf st).toList sa (na + nb))
  rw [seg_add]
  refine List.pairwise_append.mpr ⟨sx,sy,fun x hx y hy=>le_trans (xal x hx) (ky y ?_)⟩
  rw [hk0',List.drop_zero]
  exact hy
 rw [if_neg (by simpa using hk0')]
 have ex:((arrOf st).extract (sa + k) (sa + na)).toList = (seg (arrOf st).toList sa na).drop k:=by
  rw [ext_mid]
  unfold seg
  rw [List.drop_take,List.drop_take,List.drop_drop]
  congr 1
  omega
 have ey:((arrOf st).extract (sa + na) (sa + na + k')).toList = (seg (arrOf st).toList (sa + na) nb).take k':=by
  rw [ext_list]
  unfold seg
  rw [List.take_take,Nat.min_eq_left hk1']
 have P:Pre κ ((arrOf st).extract (sa + k) (sa + na)) ((arrOf st).extract (sa + na) (sa + na + k')):=by
  refine ⟨by rw [ex]; exact sx.sublist (List.drop_sublist _ _),by rw [ey]; exact sy.sublist (List.take_sublist _ _),fun t p e=>?_,fun t p e=>?_,?_,?_,fun q e z hz=>?_,fun p e z hz=>?_⟩
  ·have m:=List.mem_of_getElem? (ar_get.mp e)
   rw [ex] at m
   obtain ⟨u,_,e2⟩:=mem_dt (List.mem_of_mem_drop m)
   exact hS.has h0 _ p (ar_get.mpr e2)
  ·have m:=List.mem_of_getElem? (ar_get.mp e)
   rw [ey] at m
   obtain ⟨u,_,e2⟩:=mem_dt (List.mem_of_mem_take m)
   exact hS.has h0 _ p (ar_get.mpr e2)
  ·rw [Array.size_extract]; omega
  ·rw [Array.size_extract]; omega
  ·have m:=ar_get.mp e
   rw [ey,List.getElem?_take_of_lt (by omega),seg_get (by omega)] at m
   have:q = b0:=by
    have:=ar_get.mp hb0
    rw [Nat.add_zero,this] at m
    exact (Option.some.inj m).symm
   subst this
   rw [ex] at hz
   exact kx z hz
  ·have m:=ar_get.mp e
   rw [ex,Array.size_extract,List.getElem?_drop,seg_get (by omega)] at m
   have:p = al:=by
    have q:=ar_get.mp hal'
    rw [show k + (min (sa + na) (arrOf st).size - (sa + k) - 1) = na - 1 by omega,q] at m
    exact (Option.some.inj m).symm
   subst this
   rw [ey] at hz
   exact yk z hz
 have fin:∀ (r:Array Keyed) (st2:SortSt),Sm (setPending st (((pendingOf st).setIfInBounds i (sa,na + nb,pw)).eraseIdxIfInBounds (i + 1))) st2->Rm κ ((arrOf st).extract (sa + k) (sa + na)) ((arrOf st).extract (sa + na) (sa + na + k')) r ->
   Q (failedOf (setArr st2 (r.toList.zipIdx.foldl (fun a (z:Keyed × Nat)=>a.setIfInBounds (sa + k + z.2) z.1) (arrOf st2)))).isNone (setArr st2 (r.toList.zipIdx.foldl (fun a (z:Keyed × Nat)=>a.setIfInBounds (sa + k + z.2) z.1) (arrOf st2))):=by
  rintro r st2 ⟨q1,q2,q3,q4⟩ ⟨r1,r2⟩
  rw [ex,ey] at r2
  have hrl:r.toList.length = (na - k) + k':=by
   rw [r2.length_eq,List.length_append]
   unfold seg
   rw [List.length_drop,List.length_take,List.length_take,List.length_drop,List.length_take,List.length_drop]
   omega
  have q2':arrOf st2 = arrOf st:=q2
  have ef:failedOf (setArr st2 (r.toList.zipIdx.foldl (fun a (z:Keyed × Nat)=>a.setIfInBounds (sa + k + z.2) z.1) (arrOf st2))) = none:=q4.trans hS.failed
  rw [ef]
  have el:=foldl_set_list r.toList (sa + k) (arrOf st2) (by rw [q2']; omega)
  have eq:(r.toList.zipIdx.foldl (fun a (z:Keyed × Nat)=>a.setIfInBounds (sa + k + z.2) z.1) (arrOf st2)).toList = (arrOf st).toList.take sa ++ ((seg (arrOf st).toList sa na).take k ++ r.toList ++ (seg (arrOf st).toList (sa + na) nb).drop k') ++ (arrOf st).toList.drop (sa + (na + nb)):=by
   rw [el,q2',hrl]
   have e1:(arrOf st).toList.take (sa + k) = (arrOf st).toList.take sa ++ (seg (arrOf st).toList sa na).take k:=by
    unfold seg
    rw [List.take_add,List.take_take,Nat.min_eq_left hk1]
   have e2:(arrOf st).toList.drop (sa + k + (na - k + k')) = (seg (arrOf st).toList (sa + na) nb).drop k' ++ (arrOf st).toList.drop (sa + (na + nb)):=by
    unfold seg
    rw [List.drop_take,List.drop_drop,show sa + k + (na - k + k') = sa + na + k' by omega]
    conv=>lhs; rw [<-List.take_append_drop (nb - k') ((arrOf st).toList.drop (sa + na + k'))]
    rw [List.drop_drop,show sa + na + k' + (nb - k') = sa + (na + nb) by omega]
   rw [e1,e2]
   simp only [List.append_assoc]
  have hp:((seg (arrOf st).toList sa na).take k ++ r.toList ++ (seg (arrOf st).toList (sa + na) nb).drop k').Perm (seg (arrOf st).toList sa (na + nb)):=by
   rw [seg_add]
   have a1:((seg (arrOf st).toList sa na).take k ++ r.toList ++ (seg (arrOf st).toList (sa + na) nb).drop k').Perm ((seg (arrOf st).toList sa na).take k ++ ((seg (arrOf st).toList sa na).drop k ++ (seg (arrOf st).toList (sa + na) nb).take k') ++ (seg (arrOf st).toList (sa + na) nb).drop k') :=
    List.Perm.append_right _ (List.Perm.append_left _ r2)
   refine a1.trans (List.Perm.of_eq ?_)
   rw [<-List.append_assoc,List.take_append_drop,List.append_assoc,List.take_append_drop]
  obtain ⟨pa,ps⟩:=Part.of (κ:=κ) hp (by rw [hL]; omega)
  have hs:Sor κ ((seg (arrOf st).toList sa na).take k ++ r.toList ++ (seg (arrOf st).toList (sa + na) nb).drop k'):=by
   refine List.pairwise_append.mpr ⟨List.pairwise_append.mpr ⟨sx.sublist (List.take_sublist _ _),r1,fun x hx y hy=>?_⟩,sy.sublist (List.drop_sublist _ _),fun x hx y hy=>?_⟩
   ·rcases List.mem_append.mp (r2.mem_iff.mp hy) with hy | hy
    ·exact le_trans (xk x hx) (kx y hy)
    ·exact le_trans (xk x hx) (b0y y (List.mem_of_mem_take hy))
   ·rcases List.mem_append.mp hx with hx | hx
    ·exact le_trans (xal x (List.mem_of_mem_take hx)) (ky y hy)
    ·rcases List.mem_append.mp (r2.mem_iff.mp hx) with hx | hx
     ·exact le_trans (xal x (List.mem_of_mem_drop hx)) (ky y hy)
     ·exact le_trans (yk x hx) (ky y hy)
  refine h _ ⟨?_,q1.trans hS.kind,q4.trans hS.failed⟩ ?_ ?_ q3
  ·show (r.toList.zipIdx.foldl (fun a (z:Keyed × Nat)=>a.setIfInBounds (sa + k + z.2) z.1) (arrOf st2)).toList.Perm a₀.toList
   rw [eq]
   exact pa.perm.trans hS.perm
  ·show Part κ (arrOf st).toList (r.toList.zipIdx.foldl (fun a (z:Keyed × Nat)=>a.setIfInBounds (sa + k + z.2) z.1) (arrOf st2)).toList sa (na + nb)
   rw [eq]
   exact pa
  ·show Sor κ (seg (r.toList.zipIdx.foldl (fun a (z:Keyed × Nat)=>a.setIfInBounds (sa + k + z.2) z.1) (arrOf st2)).toList sa (na + nb))
   rw [eq,ps]
   exact hs
 by_cases hab:na - k<=k'
 ·rw [if_pos hab]
  refine wpS_bind (wpS_mergeLo C S1.kind P fun r st2 q r1=>?_)
  exact wpS_bind (wpS_modify (wpS_bind (wpS_get (wpS_pure (fin r st2 q r1)))))
 ·rw [if_neg hab]
  refine wpS_bind (wpS_mergeHi C S1.kind P fun r st2 q r1=>?_)
  exact wpS_bind (wpS_modify (wpS_bind (wpS_get (wpS_pure (fin r st2 q r1)))))
end
end TS
namespace TS
open PySem PyProof.Rows
section
variable {prog:Program} {w:World} {A:Around} {E:Value->Shared->Prop} {s:Shared} {κ:KeyKind} {kd:SortKind} {a₀:Array Keyed}
theorem KK_kk {xs:Array Keyed} {i:Nat} {p:Keyed} (h:xs[i]? = some p):KK κ xs i = kk κ p:=by unfold KK kk; rw [h]
noncomputable def SI (κ:KeyKind) (xs:Array Keyed) (lo m:Nat):Prop:=∀ i j,i<=j->j < m->κ.kle (KK κ xs (lo + i)) (KK κ xs (lo + j))
noncomputable def NI (κ:KeyKind) (xs:Array Keyed) (lo m:Nat):Prop:=∀ i j,i<=j->j < m->κ.kle (KK κ xs (lo + j)) (KK κ xs (lo + i))
theorem SI.sor {xs:Array Keyed} {lo m:Nat} (h:SI κ xs lo m):Sor κ (seg xs.toList lo m):=by
 refine List.pairwise_iff_getElem.mpr fun i j hi hj hij=>?_
 unfold seg at hi hj
 rw [List.length_take] at hi hj
 have e1:xs[lo + i]? = some (seg xs.toList lo m)[i]:=by
  rw [ar_get,<-seg_get (n:=m) (by omega)]
  exact List.getElem?_eq_getElem _
 have e2:xs[lo + j]? = some (seg xs.toList lo m)[j]:=by
  rw [ar_get,<-seg_get (n:=m) (by omega)]
  exact List.getElem?_eq_getElem _
 have:=h i j (by omega) (by omega)
 rw [KK_kk e1,KK_kk e2] at this
 exact this
structure Lo (κ:KeyKind) (kd:SortKind) (a₀:Array Keyed) (st0:SortSt) (lo n:Nat) (st:SortSt):Prop where
 S:St κ kd a₀ st
 pend:pendingOf st = pendingOf st0
 out:∀ t,t < lo\/lo + n<=t->(arrOf st)[t]? = (arrOf st0)[t]?
theorem Lo.part {st0 st:SortSt} {lo n:Nat} (h:Lo κ kd a₀ st0 lo n st) (h0:St κ kd a₀ st0):Part κ (arrOf st0).toList (arrOf st).toList lo n:=by
 refine ⟨h.S.perm.trans h0.perm.symm,List.ext_getElem? fun t=>?_,List.ext_getElem? fun t=>?_⟩
 ·by_cases ht:t < lo
  ·rw [List.getElem?_take_of_lt ht,List.getElem?_take_of_lt ht,Array.getElem?_toList,Array.getElem?_toList]
   exact h.out t (.inl ht)
  ·rw [List.getElem?_eq_none (by rw [List.length_take]; omega),List.getElem?_eq_none (by rw [List.length_take]; omega)]
 ·rw [List.getElem?_drop,List.getElem?_drop,Array.getElem?_toList,Array.getElem?_toList]
  exact h.out _ (.inr (by omega))
theorem Lo.mirror {st0 st:SortSt} {lo n i j:Nat} (h:Lo κ kd a₀ st0 lo n st) (hi:lo<=i) (hj:j<=lo + n) (hn:lo + n<=a₀.size):Lo κ kd a₀ st0 lo n (setArr st (mirror (arrOf st) i j ((j - i) / 2))):=by
 refine ⟨⟨(Array.perm_iff_toList_perm.mp (mirror_perm _ _ _ _)).trans h.S.perm,h.S.kind,h.S.failed⟩,h.pend,fun t ht=>?_⟩
 show (PyProof.Rows.mirror (arrOf st) i j ((j - i) / 2))[t]? = _
 have:=h.S.size
 rw [getElem?_mirror_all (by omega),if_neg (by omega)]
 exact h.out t ht
theorem wpS_ltI (C:Cmp prog w A s κ kd) (h0:KeysOf κ a₀) {st:SortSt} (hS:St κ kd a₀ st) {i j:Nat} {Q:Option Bool->SortSt->Prop} (hi:i < a₀.size) (hj:j < a₀.size)
  (h:Q (some (κ.blt (KK κ (arrOf st) i) (KK κ (arrOf st) j))) st):wpS (model prog w) A E s (ltAt' i j) Q st:=by
 have:=hS.size
 obtain ⟨p,hp⟩:=ar_at (a:=arrOf st) (i:=i) (by omega)
 obtain ⟨q,hq⟩:=ar_at (a:=arrOf st) (i:=j) (by omega)
 rw [ltAt'_eq]
 refine wpS_bind (wpS_get ?_)
 refine wpS_bind (wpS_elem hp (wpS_bind (wpS_elem hq (wpS_lt C hS.kind (hS.has h0 _ _ hp) (hS.has h0 _ _ hq) ?_))))
 rw [KK_kk hp,KK_kk hq] at h
 exact h
theorem ascL {st:SortSt} {lo a nrem:Nat} {f:Nat->(Option (Option Nat) × Nat)->StateT SortSt Sem (ForInStep (Option (Option Nat) × Nat))} {Q:(Option (Option Nat) × Nat)->SortSt->Prop}
  (hf:∀ x n,1<=n->n < nrem->wpS (model prog w) A E s (f x (none,n)) (fun r st'=>st' = st/\r = if κ.blt (KK κ (arrOf st) (lo + n)) (KK κ (arrOf st) (lo + n - 1)) = true then .done (none,n) else .yield (none,n + 1)) st)
  (ha:1<=a) (han:a<=nrem) (hs:SI κ (arrOf st) lo a)
  (h:∀ n,a<=n->n<=nrem->SI κ (arrOf st) lo n->(n = nrem\/κ.klt (KK κ (arrOf st) (lo + n)) (KK κ (arrOf st) (lo + n - 1)))->Q (none,n) st):wpS (model prog w) A E s (forIn [a:nrem] (none,a) f) Q st:=by
 refine wpS_forRange (I:=fun x c st'=>st' = st/\c = (none,x)/\SI κ (arrOf st) lo x) ?_ ?_ ⟨rfl,rfl,hs⟩
 ·rintro x c st' hax hxn ⟨rfl,rfl,hs'⟩
  refine wpS_mono (hf x x (by omega) hxn) fun r st2 ⟨e,er⟩=>?_
  subst e
  cases hless:κ.blt (KK κ (arrOf st2) (lo + x)) (KK κ (arrOf st2) (lo + x - 1))
  ·rw [hless,if_neg Bool.false_ne_true] at er
   subst er
   refine ⟨rfl,rfl,fun i j hij hj=>?_⟩
   by_cases hjx:j < x
   ·exact hs' i j hij hjx
   ·have hj':j = x:=by omega
    subst hj'
    by_cases hi':i = j
    ·subst hi'; exact KeyOrd.kle_refl _
    ·have:=hs' i (j - 1) (by omega) (by omega)
     rw [show lo + (j - 1) = lo + j - 1 by omega] at this
     exact KeyOrd.kle_trans this hless
  ·rw [hless,if_pos rfl] at er
   subst er
   exact h x hax (by omega) hs' (.inr hless)
 ·rintro c st' ⟨rfl,rfl,hs'⟩
  rw [show max a nrem = nrem by omega] at hs' ⊢
  exact h nrem han (Nat.le_refl _) hs' (.inl rfl)
theorem NI.step {xs ys:Array Keyed} {lo x:Nat} (hx:1<=x) (hk:∀ k,KK κ ys k = KK κ xs k) (hs:NI κ xs lo x) (hl:κ.kle (KK κ xs (lo + x)) (KK κ xs (lo + x - 1))):NI κ ys lo (x + 1):=by
 intro i j hij hj
 rw [hk,hk]
 by_cases hjx:j < x
 ·exact hs i j hij hjx
 ·have hj':j = x:=by omega
  subst hj'
  by_cases hi':i = j
  ·subst hi'; exact KeyOrd.kle_refl _
  ·have:=hs i (j - 1) (by omega) (by omega)
   rw [show lo + (j - 1) = lo + j - 1 by omega] at this
   exact KeyOrd.kle_trans hl this
noncomputable abbrev DS:=Option (Option Nat) × Nat × Nat
theorem descL {st0 st:SortSt} {lo n nrem:Nat} (hsz:lo + nrem<=a₀.size) {f:Nat->DS->StateT SortSt Sem (ForInStep DS)} {Q:DS->SortSt->Prop}
  (hf:∀ x n q st',1<=n->n < nrem->Lo κ kd a₀ st0 lo nrem st'->wpS (model prog w) A E s (f x (none,n,q)) (fun r st2 =>
   if κ.blt (KK κ (arrOf st') (lo + n)) (KK κ (arrOf st') (lo + n - 1)) = true then (st2 = if q > 0 then setArr st' (mirror (arrOf st') (lo + n - (q + 1)) (lo + n) ((lo + n - (lo + n - (q + 1))) / 2)) else st')/\r = .yield (none,n + 1,0)
   else st2 = st'/\r = if κ.blt (KK κ (arrOf st') (lo + n - 1)) (KK κ (arrOf st') (lo + n)) = true then .done (none,n,q) else .yield (none,n + 1,q + 1)) st')
  (h1:1<=n) (hnn:n<=nrem) (hB:Lo κ kd a₀ st0 lo nrem st) (hs:NI κ (arrOf st) lo n)
  (h:∀ m q st',Lo κ kd a₀ st0 lo nrem st'->n<=m->m<=nrem->NI κ (arrOf st') lo m->q + 1<=m->(∀ i,m - (q + 1)<=i->i < m->KK κ (arrOf st') (lo + i) = KK κ (arrOf st') (lo + m - 1))->Q (none,m,q) st') :
  wpS (model prog w) A E s (forIn [n:nrem] (none,n,0) f) Q st:=by
 refine wpS_forRange (I:=fun x c st'=>∃ q,c = (none,x,q)/\Lo κ kd a₀ st0 lo nrem st'/\NI κ (arrOf st') lo x/\q + 1<=x /\
   (∀ i,x - (q + 1)<=i->i < x->KK κ (arrOf st') (lo + i) = KK κ (arrOf st') (lo + x - 1))) ?_ ?_ ⟨0,rfl,hB,hs,by omega,fun i h1 h2=>by congr 1; omega⟩
 ·rintro x c st' hax hxn ⟨q,rfl,hB',hs',hq,he⟩
  have hs0:=hB'.S.size
  refine wpS_mono (hf x x q st' (by omega) hxn hB') fun r st2 hr=>?_
  cases hless:κ.blt (KK κ (arrOf st') (lo + x)) (KK κ (arrOf st') (lo + x - 1))
  ·rw [hless,if_neg Bool.false_ne_true] at hr
   obtain ⟨e,er⟩:=hr
   subst e
   cases hl:κ.blt (KK κ (arrOf st2) (lo + x - 1)) (KK κ (arrOf st2) (lo + x))
   ·rw [hl,if_neg Bool.false_ne_true] at er
    subst er
    have heqx:KK κ (arrOf st2) (lo + x) = KK κ (arrOf st2) (lo + x - 1):=KeyOrd.kle_antisymm hl hless
    refine ⟨q + 1,rfl,hB',NI.step (by omega) (fun _=>rfl) hs' hl,by omega,fun i g1 g2=>?_⟩
    rw [show lo + (x + 1) - 1 = lo + x by omega]
    by_cases hix:i = x
    ·subst hix; rfl
    ·rw [heqx]; exact he i (by omega) (by omega)
   ·rw [hl,if_pos rfl] at er
    subst er
    exact h x q st2 hB' hax (by omega) hs' hq he
  ·rw [hless,if_pos rfl] at hr
   obtain ⟨e,er⟩:=hr
   subst er
   have hl:κ.kle (KK κ (arrOf st') (lo + x)) (KK κ (arrOf st') (lo + x - 1)):=KeyOrd.kle_of_klt hless
   by_cases hq0:q > 0
   ·rw [if_pos hq0] at e
    subst e
    refine ⟨0,rfl,hB'.mirror (by omega) (by omega) hsz,NI.step (by omega) (KK_mirror_equal (by omega) fun k g1 g2=>?_) hs' hl,by omega,fun i g1 g2=>by congr 1; omega⟩
    have:=he (k - lo) (by omega) (by omega)
    rw [show lo + (k - lo) = k by omega] at this
    exact this
   ·rw [if_neg hq0] at e
    subst e
    exact ⟨0,rfl,hB',NI.step (by omega) (fun _=>rfl) hs' hl,by omega,fun i g1 g2=>by congr 1; omega⟩
 ·rintro c st' ⟨q,rfl,hB',hs',hq,he⟩
  rw [show max n nrem = nrem by omega] at hs' hq he ⊢
  exact h nrem q st' hB' hnn (Nat.le_refl _) hs' hq he
theorem NI.turn {xs:Array Keyed} {lo n:Nat} (hn:lo + n<=xs.size) (h:NI κ xs lo n):SI κ (mirror xs lo (lo + n) ((lo + n - lo) / 2)) lo n:=by
 intro i j hij hj
 rw [KK_mirror hn,KK_mirror hn,if_pos (by omega),if_pos (by omega)]
 have:=h (n - 1 - j) (n - 1 - i) (by omega) (by omega)
 rw [show lo + (n - 1 - i) = lo + (lo + n) - 1 - (lo + i) by omega,show lo + (n - 1 - j) = lo + (lo + n) - 1 - (lo + j) by omega] at this
 exact this
theorem wpS_countRun (C:Cmp prog w A s κ kd) (h0:KeysOf κ a₀) {st:SortSt} {lo nrem:Nat} {Q:Option Nat->SortSt->Prop} (hS:St κ kd a₀ st) (hsz:lo + nrem<=a₀.size) (h1:1<=nrem)
  (h:∀ m st',Lo κ kd a₀ st lo nrem st'->1<=m->m<=nrem->SI κ (arrOf st') lo m->Q (some m) st'):wpS (model prog w) A E s (countRun' lo nrem) Q st:=by
 have L0:Lo κ kd a₀ st lo nrem st:=⟨hS,rfl,fun _ _=>rfl⟩
 rw [countRun'_eq]
 dsimp only
 refine wpS_bind (ascL (κ:=κ) (lo:=lo) (fun x n g1 g2=>?_) (Nat.le_refl 1) h1 (fun i j hij hj=>by have:i = j:=(by omega); subst this; exact KeyOrd.kle_refl _) fun n hn1 hn2 hsn hor=>?_)
 ·dsimp only
  refine wpS_bind (wpS_ltI C h0 hS (by omega) (by omega) ?_)
  dsimp only
  cases κ.blt (KK κ (arrOf st) (lo + n)) (KK κ (arrOf st) (lo + n - 1))
  ·exact wpS_pure ⟨rfl,rfl⟩
  ·exact wpS_pure ⟨rfl,rfl⟩
 dsimp only
 by_cases hnn:n = nrem
 ·rw [if_pos (by simpa using hnn)]
  exact wpS_pure (h n st L0 hn1 hn2 hsn)
 rw [if_neg (by simpa using hnn)]
 have hlt:κ.klt (KK κ (arrOf st) (lo + n)) (KK κ (arrOf st) (lo + n - 1)):=hor.resolve_left hnn
 have hz:=hS.size
 by_cases hgt:n > 1
 ·rw [if_pos hgt]
  refine wpS_bind (wpS_ltI C h0 hS (by omega) (by omega) ?_)
  dsimp only
  cases hrose:κ.blt (KK κ (arrOf st) lo) (KK κ (arrOf st) (lo + n - 1)) with
  | true =>
   simp only [if_true]
   exact wpS_pure (h n st L0 hn1 hn2 hsn)
  | false =>
   simp only [Bool.false_eq_true,if_false]
   have hall:∀ k,lo<=k->k < lo + n->KK κ (arrOf st) k = KK κ (arrOf st) (lo + n - 1):=by
    intro k hk1 hk2
    have a1:=hsn 0 (k - lo) (by omega) (by omega)
    have a2:=hsn (k - lo) (n - 1) (by omega) (by omega)
    rw [Nat.add_zero,show lo + (k - lo) = k by omega] at a1
    rw [show lo + (k - lo) = k by omega,show lo + (n - 1) = lo + n - 1 by omega] at a2
    exact KeyOrd.kle_antisymm a2 (KeyOrd.kle_trans hrose a1)
   have hk:=KK_mirror_equal (κ:=κ) (xs:=arrOf st) (i:=lo) (j:=lo + n) (by omega) hall
   refine wpS_bind (wpS_reverse ?_)
   have hB2:=L0.mirror (i:=lo) (j:=lo + n) (by omega) (by omega) hsz
   have hN:NI κ (mirror (arrOf st) lo (lo + n) ((lo + n - lo) / 2)) lo (n + 1):=by
    refine NI.step (by omega) hk (fun i j hij hj=>?_) (KeyOrd.kle_of_klt hlt)
    rw [hall (lo + i) (by omega) (by omega),hall (lo + j) (by omega) (by omega)]
    exact KeyOrd.kle_refl _
   refine wpS_bind (wpS_lift (wpAny_rule ⟨rfl,?_⟩))
   refine wpS_bind (descL (κ:=κ) (kd:=kd) (a₀:=a₀) (st0:=st) (lo:=lo) hsz (fun x n' q st' g1 g2 hB'=>?_) (by omega) (by omega) hB2 hN fun m q st' hB3 hm1 hm2 hs3 hq he=>?_)
   ·dsimp only
    refine wpS_bind (wpS_ltI C h0 hB'.S (by omega) (by omega) ?_)
    dsimp only
    cases κ.blt (KK κ (arrOf st') (lo + n')) (KK κ (arrOf st') (lo + n' - 1))
    ·simp only [Bool.false_eq_true,if_false]
     refine wpS_bind (wpS_ltI C h0 hB'.S (by omega) (by omega) ?_)
     dsimp only
     cases κ.blt (KK κ (arrOf st') (lo + n' - 1)) (KK κ (arrOf st') (lo + n'))
     ·exact wpS_pure ⟨rfl,rfl⟩
     ·exact wpS_pure ⟨rfl,rfl⟩
    ·simp only [if_true]
     by_cases hq:q > 0
     ·rw [if_pos hq,if_pos hq]
      exact wpS_bind (wpS_reverse (wpS_pure ⟨rfl,rfl⟩))
     ·rw [if_neg hq,if_neg hq]
      exact wpS_pure ⟨rfl,rfl⟩
   ·dsimp only
    have hz3:=hB3.S.size
    by_cases hq0:q > 0
    ·rw [if_pos hq0]
     refine wpS_bind (wpS_reverse (wpS_bind (wpS_reverse ?_)))
     have hB4':=hB3.mirror (i:=lo + m - (q + 1)) (j:=lo + m) (by omega) (by omega) hsz
     have hB4:=hB4'.mirror (i:=lo) (j:=lo + m) (by omega) (by omega) hsz
     have hz4:=hB4'.S.size
     have hN4:NI κ (mirror (arrOf st') (lo + m - (q + 1)) (lo + m) ((lo + m - (lo + m - (q + 1))) / 2)) lo m:=by
      have hk:=KK_mirror_equal (κ:=κ) (xs:=arrOf st') (i:=lo + m - (q + 1)) (j:=lo + m) (by omega) (fun k g1 g2=>by
       have:=he (k - lo) (by omega) (by omega)
       rw [show lo + (k - lo) = k by omega] at this
       exact this)
      intro i j hij hj
      rw [hk,hk]
      exact hs3 i j hij hj
     have hT:=hN4.turn (κ:=κ) (lo:=lo) (n:=m) (by rw [mirror_size]; omega)
     refine wpS_bind (ascL (κ:=κ) (lo:=lo) (fun x n' g1 g2=>?_) (by omega) hm2 hT fun m' hm1' hm2' hsm _=>wpS_pure (h m' _ hB4 (by omega) hm2' hsm))
     dsimp only
     refine wpS_bind (wpS_ltI C h0 hB4.S (by omega) (by omega) ?_)
     dsimp only
     cases κ.blt (KK κ _ (lo + n')) (KK κ _ (lo + n' - 1))
     ·exact wpS_pure ⟨rfl,rfl⟩
     ·exact wpS_pure ⟨rfl,rfl⟩
    ·rw [if_neg hq0]
     refine wpS_bind (wpS_reverse ?_)
     have hB4:=hB3.mirror (i:=lo) (j:=lo + m) (by omega) (by omega) hsz
     have hT:=hs3.turn (κ:=κ) (lo:=lo) (n:=m) (by omega)
     refine wpS_bind (ascL (κ:=κ) (lo:=lo) (fun x n' g1 g2=>?_) (by omega) hm2 hT fun m' hm1' hm2' hsm _=>wpS_pure (h m' _ hB4 (by omega) hm2' hsm))
     dsimp only
     refine wpS_bind (wpS_ltI C h0 hB4.S (by omega) (by omega) ?_)
     dsimp only
     cases κ.blt (KK κ _ (lo + n')) (KK κ _ (lo + n' - 1))
     ·exact wpS_pure ⟨rfl,rfl⟩
     ·exact wpS_pure ⟨rfl,rfl⟩
 ·rw [if_neg hgt]
  have hn1':n = 1:=by omega
  have hB2:=L0
  have hN:NI κ (arrOf st) lo (n + 1):=by
   refine NI.step (by omega) (fun _=>rfl) (fun i j hij hj=>?_) (KeyOrd.kle_of_klt hlt)
   have:i = j:=by omega
   subst this; exact KeyOrd.kle_refl _
  refine wpS_bind (wpS_lift (wpAny_rule ⟨rfl,?_⟩))
  refine wpS_bind (descL (κ:=κ) (kd:=kd) (a₀:=a₀) (st0:=st) (lo:=lo) hsz (fun x n' q st' g1 g2 hB'=>?_) (by omega) (by omega) hB2 hN fun m q st' hB3 hm1 hm2 hs3 hq he=>?_)
  ·dsimp only
   refine wpS_bind (wpS_ltI C h0 hB'.S (by omega) (by omega) ?_)
   dsimp only
   cases κ.blt (KK κ (arrOf st') (lo + n')) (KK κ (arrOf st') (lo + n' - 1))
   ·simp only [Bool.false_eq_true,if_false]
    refine wpS_bind (wpS_ltI C h0 hB'.S (by omega) (by omega) ?_)
    dsimp only
    cases κ.blt (KK κ (arrOf st') (lo + n' - 1)) (KK κ (arrOf st') (lo + n'))
    ·exact wpS_pure ⟨rfl,rfl⟩
    ·exact wpS_pure ⟨rfl,rfl⟩
   ·simp only [if_true]
    by_cases hq:q > 0
    ·rw [if_pos hq,if_pos hq]
     exact wpS_bind (wpS_reverse (wpS_pure ⟨rfl,rfl⟩))
    ·rw [if_neg hq,if_neg hq]
     exact wpS_pure ⟨rfl,rfl⟩
  ·dsimp only
   have hz3:=hB3.S.size
   by_cases hq0:q > 0
   ·rw [if_pos hq0]
    refine wpS_bind (wpS_reverse (wpS_bind (wpS_reverse ?_)))
    have hB4':=hB3.mirror (i:=lo + m - (q + 1)) (j:=lo + m) (by omega) (by omega) hsz
    have hB4:=hB4'.mirror (i:=lo) (j:=lo + m) (by omega) (by omega) hsz
    have hz4:=hB4'.S.size
    have hN4:NI κ (mirror (arrOf st') (lo + m - (q + 1)) (lo + m) ((lo + m - (lo + m - (q + 1))) / 2)) lo m:=by
     have hk:=KK_mirror_equal (κ:=κ) (xs:=arrOf st') (i:=lo + m - (q + 1)) (j:=lo + m) (by omega) (fun k g1 g2=>by
      have:=he (k - lo) (by omega) (by omega)
      rw [show lo + (k - lo) = k by omega] at this
      exact this)
     intro i j hij hj
     rw [hk,hk]
     exact hs3 i j hij hj
    have hT:=hN4.turn (κ:=κ) (lo:=lo) (n:=m) (by rw [mirror_size]; omega)
    refine wpS_bind (ascL (κ:=κ) (lo:=lo) (fun x n' g1 g2=>?_) (by omega) hm2 hT fun m' hm1' hm2' hsm _=>wpS_pure (h m' _ hB4 (by omega) hm2' hsm))
    dsimp only
    refine wpS_bind (wpS_ltI C h0 hB4.S (by omega) (by omega) ?_)
    dsimp only
    cases κ.blt (KK κ _ (lo + n')) (KK κ _ (lo + n' - 1))
    ·exact wpS_pure ⟨rfl,rfl⟩
    ·exact wpS_pure ⟨rfl,rfl⟩
   ·rw [if_neg hq0]
    refine wpS_bind (wpS_reverse ?_)
    have hB4:=hB3.mirror (i:=lo) (j:=lo + m) (by omega) (by omega) hsz
    have hT:=hs3.turn (κ:=κ) (lo:=lo) (n:=m) (by omega)
    refine wpS_bind (ascL (κ:=κ) (lo:=lo) (fun x n' g1 g2=>?_) (by omega) hm2 hT fun m' hm1' hm2' hsm _=>wpS_pure (h m' _ hB4 (by omega) hm2' hsm))
    dsimp only
    refine wpS_bind (wpS_ltI C h0 hB4.S (by omega) (by omega) ?_)
    dsimp only
    cases κ.blt (KK κ _ (lo + n')) (KK κ _ (lo + n' - 1))
    ·exact wpS_pure ⟨rfl,rfl⟩
    ·exact wpS_pure ⟨rfl,rfl⟩
theorem Lo.bubble {st0 st:SortSt} {lo n src d:Nat} (h:Lo κ kd a₀ st0 lo n st) (h1:lo + d<=src) (h2:src < lo + n) (hn:lo + n<=a₀.size):Lo κ kd a₀ st0 lo n (setArr st (bubble (arrOf st) src d)):=by
 refine ⟨⟨(Array.perm_iff_toList_perm.mp (bubble_perm _ _ _)).trans h.S.perm,h.S.kind,h.S.failed⟩,h.pend,fun t ht=>?_⟩
 show (PyProof.Rows.bubble (arrOf st) src d)[t]? = _
 have:=h.S.size
 rw [getElem?_bubble (by omega) d (by omega),if_neg (by omega),if_neg (by omega)]
 exact h.out t ht
theorem wpS_binarySort (C:Cmp prog w A s κ kd) (h0:KeysOf κ a₀) {st0 st:SortSt} {lo nrem n ok:Nat} {Q:Bool->SortSt->Prop} (hB:Lo κ kd a₀ st0 lo nrem st) (hsz:lo + nrem<=a₀.size) (hn:n<=nrem) (hok:ok<=n) (hs:SI κ (arrOf st) lo ok)
  (h:∀ st',Lo κ kd a₀ st0 lo nrem st'->SI κ (arrOf st') lo n->Q true st'):wpS (model prog w) A E s (binarySort' lo n ok) Q st:=by
 rw [binarySort'_eq]
 refine wpS_bind (wpS_mono (wpS_forRange (I:=fun k c st'=>c = (none,())/\Lo κ kd a₀ st0 lo nrem st'/\SI κ (arrOf st') lo (min k n))
  (Q:=fun c st'=>c = (none,())/\Lo κ kd a₀ st0 lo nrem st'/\SI κ (arrOf st') lo n) ?step ?fin ?init) ?post)
 case post =>
  rintro c st' ⟨rfl,hB',hs'⟩
  exact wpS_pure (h st' hB' hs')
 case init =>
  refine ⟨rfl,hB,fun i j hij hj=>?_⟩
  by_cases h1:ok = 0
  ·have:i = j:=by omega
   subst this; exact KeyOrd.kle_refl _
  ·exact hs i j hij (by omega)
 case fin =>
  rintro c st' ⟨hc,hB',hs'⟩
  refine ⟨hc,hB',?_⟩
  rwa [show min (max (max ok 1) n) n = n by omega] at hs'
 case step =>
  rintro k c st' hak hkn ⟨rfl,hB',hs'⟩
  rw [show min k n = k by omega] at hs'
  dsimp only
  refine wpS_bind (wpS_mono (wpS_forRange (I:=fun x c st''=>st'' = st'/\∃ l r,c = (none,l,r)/\l<=r/\r<=k/\r - l<=k - x /\
    (∀ i,i < l->κ.kle (KK κ (arrOf st') (lo + i)) (KK κ (arrOf st') (lo + k)))/\(∀ i,r<=i->i < k->κ.klt (KK κ (arrOf st') (lo + k)) (KK κ (arrOf st') (lo + i))))
   (Q:=fun c st''=>st'' = st'/\∃ l r,c = (none,l,r)/\l<=k /\
    (∀ i,i < l->κ.kle (KK κ (arrOf st') (lo + i)) (KK κ (arrOf st') (lo + k)))/\(∀ i,l<=i->i < k->κ.klt (KK κ (arrOf st') (lo + k)) (KK κ (arrOf st') (lo + i)))) ?istep ?ifin ?iinit) ?ipost)
  case iinit=>exact ⟨rfl,0,k,rfl,by omega,by omega,by omega,fun i hi=>by omega,fun i h1 h2=>by omega⟩
  case ifin =>
   rintro c st'' ⟨rfl,l,r,rfl,hlr,hrk,hm,hlo,hhi⟩
   have:l = r:=by omega
   subst this
   exact ⟨rfl,l,l,rfl,hrk,hlo,hhi⟩
  case istep =>
   rintro x c st'' _ hxk ⟨rfl,l,r,rfl,hlr,hrk,hm,hlo,hhi⟩
   dsimp only
   by_cases hge:l ≥ r
   ·rw [if_pos hge]
    have:l = r:=by omega
    subst this
    exact wpS_pure ⟨rfl,l,l,rfl,hrk,hlo,hhi⟩
   ·rw [if_neg hge]
    refine wpS_bind (wpS_ltI C h0 hB'.S (by omega) (by omega) ?_)
    dsimp only
    cases hless:κ.blt (KK κ (arrOf st'') (lo + k)) (KK κ (arrOf st'') (lo + (l + r) / 2))
    case true =>
     simp only [if_true]
     refine wpS_pure ⟨rfl,l,(l + r) / 2,rfl,by omega,by omega,by omega,hlo,fun i h1 h2=>?_⟩
     exact KeyOrd.klt_of_klt_of_kle hless (hs' _ _ h1 h2)
    case false =>
     simp only [Bool.false_eq_true,if_false]
     refine wpS_pure ⟨rfl,(l + r) / 2 + 1,r,rfl,by omega,by omega,by omega,fun i h1=>?_,hhi⟩
     exact KeyOrd.kle_trans (hs' i ((l + r) / 2) (by omega) (by omega)) (show κ.kle _ _ from hless)
  case ipost =>
   rintro c st'' ⟨rfl,l,r,rfl,hlk,hlo,hhi⟩
   have hz:=hB'.S.size
   show wpS _ _ _ _ (do moveDown' (lo + k) (lo + l); pure (ForInStep.yield (none,()))) _ _
   rw [moveDown'_eq]
   refine wpS_bind (wpS_modify (wpS_pure ⟨rfl,hB'.bubble (by omega) (by omega) hsz,?_⟩))
   rw [show min (k + 1) n = k + 1 by omega]
   intro i j hij hj
   show κ.kle (KK κ (bubble (arrOf st'') (lo + k) (lo + k - (lo + l))) (lo + i)) (KK κ (bubble (arrOf st'') (lo + k) (lo + k - (lo + l))) (lo + j))
   rw [KK_bubble (by omega) (by omega),KK_bubble (by omega) (by omega),show lo + k - (lo + k - (lo + l)) = lo + l by omega]
   have shift:∀ z,1<=z->lo + z - 1 = lo + (z - 1):=fun z _=>by omega
   repeat' split
   all_goals first
    | (exfalso; omega)
    | exact KeyOrd.kle_refl _
    | exact hlo _ (by omega)
    | exact KeyOrd.kle_of_klt (hhi _ (by omega) (by omega))
    | exact hs' _ _ (by omega) (by omega)
    | (rw [shift j (by omega)]; exact KeyOrd.kle_of_klt (hhi _ (by omega) (by omega)))
    | (rw [shift i (by omega)]; exact hlo _ (by omega))
    | (rw [shift j (by omega)]; exact hs' _ _ (by omega) (by omega))
    | (rw [shift i (by omega),shift j (by omega)]; exact hs' _ _ (by omega) (by omega))
    | (rw [shift i (by omega)]; exact hs' _ _ (by omega) (by omega))
end
end TS
namespace TS
open PySem PyProof.Rows
noncomputable abbrev Run:=Nat × Nat × Nat
noncomputable def Cov:List Run->Nat->Nat->Prop
 | [],a,b=>a = b
 | x :: r,a,b=>x.1 = a/\1<=x.2.1/\Cov r (a + x.2.1) b
theorem Cov.app:∀ {l1 l2:List Run} {a b:Nat},Cov (l1 ++ l2) a b ↔ ∃ c,Cov l1 a c/\Cov l2 c b
 | [],l2,a,b=>⟨fun h=>⟨a,rfl,h⟩,fun ⟨c,h1,h2⟩=>by have:a = c:=h1; subst this; exact h2⟩
 | x :: r,l2,a,b=>by
  constructor
  ·rintro ⟨h1,h2,h3⟩
   obtain ⟨c,h4,h5⟩:=Cov.app.mp h3
   exact ⟨c,⟨h1,h2,h4⟩,h5⟩
  ·rintro ⟨c,⟨h1,h2,h4⟩,h5⟩
   exact ⟨h1,h2,Cov.app.mpr ⟨c,h4,h5⟩⟩
theorem Cov.le:∀ {l:List Run} {a b:Nat},Cov l a b->a + l.length<=b
 | [],a,b,h=>by have:a = b:=h; subst this; simp
 | x :: r,a,b,⟨h1,h2,h3⟩=>by have:=Cov.le h3; rw [List.length_cons]; omega
theorem Cov.mem:∀ {l:List Run} {a b:Nat} {x:Run},Cov l a b->x ∈ l->a<=x.1/\x.1 + x.2.1<=b
 | [],_,_,_,_,hx=>absurd hx (by simp)
 | y :: r,a,b,x,⟨h1,h2,h3⟩,hx=>by
  have hl:=Cov.le h3
  rcases List.mem_cons.mp hx with e | hx
  ·subst e; omega
  ·have:=Cov.mem h3 hx; omega
theorem cut2 {l:List Run} {i:Nat} {x y:Run} (hx:l[i]? = some x) (hy:l[i + 1]? = some y):l = l.take i ++ x :: y :: l.drop (i + 2):=by
 obtain ⟨h1,rfl⟩:=List.getElem?_eq_some_iff.mp hx
 obtain ⟨h2,rfl⟩:=List.getElem?_eq_some_iff.mp hy
 conv=>lhs; rw [<-List.take_append_drop i l]
 rw [List.drop_eq_getElem_cons h1,List.drop_eq_getElem_cons h2]
theorem join2 {l:List Run} {i:Nat} {x y:Run} (z:Run) (hx:l[i]? = some x) (hy:l[i + 1]? = some y):(l.set i z).eraseIdx (i + 1) = l.take i ++ z :: l.drop (i + 2):=by
 obtain ⟨h1,_⟩:=List.getElem?_eq_some_iff.mp hx
 obtain ⟨h2,_⟩:=List.getElem?_eq_some_iff.mp hy
 have e:=cut2 hx hy
 have hl:(l.take i).length = i:=by rw [List.length_take]; omega
 generalize l.take i = p at *
 generalize l.drop (i + 2) = q at *
 subst e
 rw [List.set_append_right _ _ (by omega),hl,Nat.sub_self,List.eraseIdx_append_of_length_le (by omega),hl,show i + 1 - i = 1 by omega]
 rfl
section
variable {prog:Program} {w:World} {A:Around} {E:Value->Shared->Prop} {s:Shared} {κ:KeyKind} {kd:SortKind} {a₀:Array Keyed}
structure RI (κ:KeyKind) (kd:SortKind) (a₀:Array Keyed) (lo:Nat) (st:SortSt):Prop where
 S:St κ kd a₀ st
 cov:Cov (pendingOf st).toList 0 lo
 sor:∀ x ∈ (pendingOf st).toList,Sor κ (seg (arrOf st).toList x.1 x.2.1)
theorem wpS_mrg (C:Cmp prog w A s κ kd) (h0:KeysOf κ a₀) {st:SortSt} {lo i:Nat} {Q:Bool->SortSt->Prop} (R:RI κ kd a₀ lo st) (hlo:lo<=a₀.size) (hi:i + 1 < (pendingOf st).size)
  (h:∀ st',RI κ kd a₀ lo st'->(pendingOf st').size + 1 = (pendingOf st).size->Part κ (arrOf st).toList (arrOf st').toList 0 lo->Q true st'):wpS (model prog w) A E s (mergeAt' i) Q st:=by
 obtain ⟨⟨sa,na,pw⟩,hx⟩:∃ x,(pendingOf st)[i]? = some x:=⟨_,getElem?_pos _ i (by omega)⟩
 obtain ⟨⟨sb,nb,pw2⟩,hy⟩:∃ x,(pendingOf st)[i + 1]? = some x:=⟨_,getElem?_pos _ (i + 1) hi⟩
 have hx':(pendingOf st).toList[i]? = some (sa,na,pw):=by rw [Array.getElem?_toList]; exact hx
 have hy':(pendingOf st).toList[i + 1]? = some (sb,nb,pw2):=by rw [Array.getElem?_toList]; exact hy
 have e:=cut2 hx' hy'
 have c:=R.cov
 rw [e] at c
 obtain ⟨c0,c1,c2⟩:=Cov.app.mp c
 obtain ⟨d1,d2,d3,d4,d5⟩:=c2
 dsimp only at d1 d2 d3 d4 d5
 have hl5:=Cov.le d5
 refine wpS_mergeAt C h0 R.S hx hy (by omega) (by omega) d2 d4 (R.sor _ (List.mem_of_getElem? hx')) (R.sor _ (List.mem_of_getElem? hy')) fun st' S' P' s' p'=>?_
 have ep:(pendingOf st').toList = (pendingOf st).toList.take i ++ (sa,na + nb,pw) :: (pendingOf st).toList.drop (i + 2):=by
  rw [p',<-join2 (sa,na + nb,pw) hx' hy']
  simp
 refine h st' ⟨S',?_,fun x hxm=>?_⟩ ?_ ?_
 ·rw [ep]
  exact Cov.app.mpr ⟨c0,c1,d1,(by show 1<=na + nb; omega),(by show Cov _ (c0 + (na + nb)) lo; rw [<-Nat.add_assoc]; exact d5)⟩
 ·rw [ep] at hxm
  have old:∀ y ∈ (pendingOf st).toList,(y.1 + y.2.1<=sa\/sa + (na + nb)<=y.1)->Sor κ (seg (arrOf st').toList y.1 y.2.1):=fun y hy ho=>by
   have:=R.sor y hy
   rcases ho with ho | ho
   ·rw [P'.seg_front ho]; exact this
   ·rw [P'.seg_back ho]; exact this
  rcases List.mem_append.mp hxm with hm | hm
  ·have:=Cov.mem c1 hm
   exact old x (List.mem_of_mem_take hm) (.inl (by omega))
  ·rcases List.mem_cons.mp hm with hm | hm
   ·subst hm
    exact s'
   ·have:=Cov.mem d5 hm
    exact old x (List.mem_of_mem_drop hm) (.inr (by omega))
 ·have:=congrArg List.length ep
  rw [Array.length_toList,List.length_append,List.length_cons,List.length_take,List.length_drop,Array.length_toList] at this
  omega
 ·have hb:∀ z:List Keyed,z.drop (0 + lo) = (z.drop (sa + (na + nb))).drop (lo - (sa + (na + nb))):=fun z=>by
   rw [List.drop_drop]; congr 1; omega
  exact ⟨P'.perm,rfl,by rw [hb,hb,P'.back]⟩
theorem modify_last {l:Array Run} {pw:Nat}:(l.modify (l.size - 1) fun x=>(x.1,x.2.1,pw)).toList.map (fun x:Run=>(x.1,x.2.1)) = l.toList.map fun x:Run=>(x.1,x.2.1):=by
 refine List.ext_getElem? fun t=>?_
 rw [List.getElem?_map,List.getElem?_map,Array.getElem?_toList,Array.getElem?_toList,Array.getElem?_modify]
 split
 ·cases l[t]? <;> rfl
 ·rfl
theorem Cov.congr:∀ {l l':List Run} {a b:Nat},l'.map (fun x:Run=>(x.1,x.2.1)) = l.map (fun x:Run=>(x.1,x.2.1))->Cov l a b->Cov l' a b
 | [],[],_,_,_,h=>h
 | [],_ :: _,_,_,e,_=>by simp at e
 | _ :: _,[],_,_,e,_=>by simp at e
 | x :: r,y :: r',a,b,e,⟨h1,h2,h3⟩=>by
  rw [List.map_cons,List.map_cons] at e
  obtain ⟨e1,e2⟩:=List.cons.inj e
  obtain ⟨e3,e4⟩:=Prod.mk.inj e1
  exact ⟨e3.trans h1,by rw [e4]; exact h2,by rw [e4]; exact Cov.congr e2 h3⟩
theorem RI.congr {lo:Nat} {st:SortSt} (R:RI κ kd a₀ lo st) {p:Array Run} (e:p.toList.map (fun x:Run=>(x.1,x.2.1)) = (pendingOf st).toList.map fun x:Run=>(x.1,x.2.1)):RI κ kd a₀ lo (setPending st p):=by
 refine ⟨⟨R.S.perm,R.S.kind,R.S.failed⟩,Cov.congr e R.cov,fun x hx=>?_⟩
 have:(x.1,x.2.1) ∈ (pendingOf st).toList.map fun x:Run=>(x.1,x.2.1):=by
  rw [<-e]
  exact List.mem_map.mpr ⟨x,hx,rfl⟩
 obtain ⟨y,hy,ey⟩:=List.mem_map.mp this
 obtain ⟨e1,e2⟩:=Prod.mk.inj ey
 have:=R.sor y hy
 rw [e1,e2] at this
 exact this
theorem wpS_sortRunsA (C:Cmp prog w A s κ kd) (h0:KeysOf κ a₀) {st:SortSt} {Q:Unit->SortSt->Prop} (hS:St κ kd a₀ st) (hp:pendingOf st = #[])
  (h:∀ st',St κ kd a₀ st'->Sor κ (arrOf st').toList->Q () st'):wpS (model prog w) A E s sortRuns' Q st:=by
 rw [sortRuns'_eq]
 refine wpS_bind (wpS_get ?_)
 dsimp only
 have hz:=hS.size
 rw [hz]
 generalize minRun' a₀.size a₀.size 0 = mr
 refine wpS_bind (wpS_mono (wpS_forRange (I:=fun x c st'=>∃ lo,c = (none,lo)/\RI κ kd a₀ lo st'/\lo<=a₀.size/\min x a₀.size<=lo)
  (Q:=fun c st'=>∃ lo,c = (none,lo)/\RI κ kd a₀ lo st'/\lo = a₀.size) ?st ?en ⟨0,rfl,⟨hS,by rw [hp]; rfl,fun x hx=>by rw [hp] at hx; exact absurd hx (by simp)⟩,Nat.zero_le _,by omega⟩) ?po)
 case en =>
  rintro c st' ⟨lo,rfl,R,h1,h2⟩
  exact ⟨lo,rfl,R,by omega⟩
 case po =>
  rintro c st' ⟨lo,rfl,R,rfl⟩
  dsimp only
  refine wpS_bind (wpS_mono (wpS_forRange (I:=fun x c st'=>c = (none,())/\RI κ kd a₀ a₀.size st'/\(pendingOf st').size + x<=a₀.size + 1)
   (Q:=fun c st'=>c = (none,())/\RI κ kd a₀ a₀.size st'/\(pendingOf st').size<=1) ?st3 ?en3 ⟨rfl,R,?in3⟩) ?po3)
  case in3 =>
   have:=Cov.le R.cov
   rw [Array.length_toList] at this
   omega
  case en3 =>
   rintro c st2 ⟨rfl,R2,g⟩
   exact ⟨rfl,R2,by omega⟩
  case po3 =>
   rintro c st2 ⟨rfl,R2,g⟩
   refine wpS_pure (h st2 R2.S ?_)
   have c:=R2.cov
   have so:=R2.sor
   have hz2:=R2.S.size
   have hl:(pendingOf st2).toList.length<=1:=by rw [Array.length_toList]; exact g
   generalize (pendingOf st2).toList = l at c so hl
   match l,c,so,hl with
   | [],c,_,_ =>
    have c':0 = a₀.size:=c
    have:(arrOf st2).toList = []:=List.eq_nil_of_length_eq_zero (by rw [Array.length_toList]; omega)
    rw [this]
    exact List.Pairwise.nil
   | [x],⟨c1,c2,c3⟩,so,_ =>
    have c3':0 + x.2.1 = a₀.size:=c3
    have:=so x (List.mem_singleton.mpr rfl)
    unfold seg at this
    rw [c1,List.drop_zero,List.take_of_length_le (by rw [Array.length_toList]; omega)] at this
    exact this
   | _ :: _ :: _,_,_,hl=>exact absurd hl (by simp)
  case st3 =>
   rintro x c st2 _ hx ⟨rfl,R2,g⟩
   try dsimp only
   refine wpS_bind (wpS_get ?_)
   by_cases hle:(pendingOf st2).size<=1
   ·rw [if_pos hle]
    exact wpS_pure ⟨rfl,R2,hle⟩
   rw [if_neg hle]
   refine wpS_bind (wpS_mrg C h0 R2 (Nat.le_refl _) ?_ fun st3 R3 e3 _=>?_)
   ·have hi2:∀ {c:Prop} [Decidable c] {n:Nat},(if c then n - 1 else n) + 1<=n + 1:=by intro c _ n; split <;> omega
    exact Nat.lt_of_le_of_lt hi2 (by omega)
   ·simp only [Bool.not_true,Bool.false_eq_true,if_false]
    exact wpS_pure ⟨rfl,R3,by omega⟩
 case st =>
  rintro x c st' _ hx ⟨lo,rfl,R,h1,h2⟩
  dsimp only
  by_cases hge:lo ≥ a₀.size
  ·rw [if_pos hge]
   exact wpS_pure ⟨lo,rfl,R,by omega⟩
  rw [if_neg hge]
  refine wpS_bind (wpS_countRun C h0 R.S (by omega) (by omega) fun m st2 L2 hm1 hm2 hs2=>?_)
  dsimp only
  by_cases hmr:m < mr
  ·rw [if_pos hmr]
   refine wpS_bind (wpS_lift (wpAny_rule ⟨rfl,?_⟩))
   refine wpS_bind (wpS_binarySort C h0 L2 (by omega) (show min (a₀.size - lo) mr<=a₀.size - lo by omega) (by omega) hs2 fun st5 L5 s5=>?_)
   simp only [Bool.not_true,Bool.false_eq_true,if_false]
   have hN:1<=min (a₀.size - lo) mr/\min (a₀.size - lo) mr<=a₀.size - lo:=by omega
   generalize min (a₀.size - lo) mr = N at hN s5 ⊢
   have R5:RI κ kd a₀ lo st5:=by
    refine ⟨L5.S,by rw [L5.pend]; exact R.cov,fun y hy=>?_⟩
    rw [L5.pend] at hy
    have hc:=Cov.mem R.cov hy
    rw [(L5.part R.S).seg_front (by omega)]
    exact R.sor y hy
   refine wpS_bind (wpS_get ?_)
   have push:∀ (st6:SortSt),RI κ kd a₀ lo st6->Sor κ (seg (arrOf st6).toList lo N)->RI κ kd a₀ (lo + N) (setPending st6 ((pendingOf st6).push (lo,N,0))):=fun st6 R6 s6=>by
    refine ⟨⟨R6.S.perm,R6.S.kind,R6.S.failed⟩,?_,fun y hy=>?_⟩
    ·show Cov ((pendingOf st6).push (lo,N,0)).toList 0 (lo + N)
     rw [Array.toList_push]
     exact Cov.app.mpr ⟨lo,R6.cov,rfl,(by show 1<=N; omega),rfl⟩
    ·have hy':y ∈ ((pendingOf st6).push (lo,N,0)).toList:=hy
     rw [Array.toList_push] at hy'
     rcases List.mem_append.mp hy' with hy' | hy'
     ·exact R6.sor y hy'
     ·rw [List.mem_singleton.mp hy']
      exact s6
   cases hbk:(pendingOf st5).back? with
   | none =>
    dsimp only
    refine wpS_bind (wpS_modify (wpS_pure ⟨_,rfl,push _ R5 s5.sor,by omega,by omega⟩))
   | some bk =>
    obtain ⟨s1,n1,pb⟩:=bk
    dsimp only
    generalize power' a₀.size (2 * s1 + n1) (2 * s1 + n1 + n1 + N) a₀.size = pw
    refine wpS_bind (wpS_mono (wpS_forRange (I:=fun x c st6=>c = (none,())/\RI κ kd a₀ lo st6/\Part κ (arrOf st5).toList (arrOf st6).toList 0 lo)
     (Q:=fun c st6=>c = (none,())/\RI κ kd a₀ lo st6/\Part κ (arrOf st5).toList (arrOf st6).toList 0 lo) ?stc1 (fun _ _ z=>z) ⟨rfl,R5,Part.refl _ _ _⟩) ?poc1)
    case stc1 =>
     rintro x' c st6 _ _ ⟨rfl,R6,P6⟩
     try dsimp only
     refine wpS_bind (wpS_get ?_)
     by_cases hp1:(pendingOf st6).size > 1
     ·rw [if_pos hp1]
      obtain ⟨⟨u1,u2,ol⟩,hu⟩:∃ y,(pendingOf st6)[(pendingOf st6).size - 2]? = some y:=⟨_,getElem?_pos _ _ (by omega)⟩
      rw [hu]
      dsimp only
      by_cases hol:ol<=pw
      ·rw [if_pos hol]
       exact wpS_pure ⟨rfl,R6,P6⟩
      rw [if_neg hol]
      refine wpS_bind (wpS_mrg C h0 R6 h1 (by omega) fun st7 R7 _ P7=>?_)
      simp only [Bool.not_true,Bool.false_eq_true,if_false]
      exact wpS_pure ⟨rfl,R7,⟨P7.perm.trans P6.perm,rfl,P7.back.trans P6.back⟩⟩
     ·rw [if_neg hp1]
      exact wpS_pure ⟨rfl,R6,P6⟩
    case poc1 =>
     rintro c st6 ⟨rfl,R6,P6⟩
     dsimp only
     refine wpS_bind (wpS_modify (wpS_bind (wpS_modify (wpS_pure ⟨_,rfl,push _ (R6.congr modify_last) ?_,by omega,by omega⟩))))
     show Sor κ (seg (arrOf st6).toList lo N)
     rw [P6.seg_back (by omega)]
     exact s5.sor
  ·rw [if_neg hmr]
   have R5:RI κ kd a₀ lo st2:=by
    refine ⟨L2.S,by rw [L2.pend]; exact R.cov,fun y hy=>?_⟩
    rw [L2.pend] at hy
    have hc:=Cov.mem R.cov hy
    rw [(L2.part R.S).seg_front (by omega)]
    exact R.sor y hy
   refine wpS_bind (wpS_get ?_)
   have push:∀ (st6:SortSt),RI κ kd a₀ lo st6->Sor κ (seg (arrOf st6).toList lo m)->RI κ kd a₀ (lo + m) (setPending st6 ((pendingOf st6).push (lo,m,0))):=fun st6 R6 s6=>by
    refine ⟨⟨R6.S.perm,R6.S.kind,R6.S.failed⟩,?_,fun y hy=>?_⟩
    ·show Cov ((pendingOf st6).push (lo,m,0)).toList 0 (lo + m)
     rw [Array.toList_push]
     exact Cov.app.mpr ⟨lo,R6.cov,rfl,(by show 1<=m; omega),rfl⟩
    ·have hy':y ∈ ((pendingOf st6).push (lo,m,0)).toList:=hy
     rw [Array.toList_push] at hy'
     rcases List.mem_append.mp hy' with hy' | hy'
     ·exact R6.sor y hy'
     ·rw [List.mem_singleton.mp hy']
      exact s6
   cases hbk:(pendingOf st2).back? with
   | none =>
    dsimp only
    refine wpS_bind (wpS_modify (wpS_pure ⟨_,rfl,push _ R5 hs2.sor,by omega,by omega⟩))
   | some bk =>
    obtain ⟨s1,n1,pb⟩:=bk
    dsimp only
    generalize power' a₀.size (2 * s1 + n1) (2 * s1 + n1 + n1 + m) a₀.size = pw
    refine wpS_bind (wpS_mono (wpS_forRange (I:=fun x c st6=>c = (none,())/\RI κ kd a₀ lo st6/\Part κ (arrOf st2).toList (arrOf st6).toList 0 lo)
     (Q:=fun c st6=>c = (none,())/\RI κ kd a₀ lo st6/\Part κ (arrOf st2).toList (arrOf st6).toList 0 lo) ?stc2 (fun _ _ z=>z) ⟨rfl,R5,Part.refl _ _ _⟩) ?poc2)
    case stc2 =>
     rintro x' c st6 _ _ ⟨rfl,R6,P6⟩
     try dsimp only
     refine wpS_bind (wpS_get ?_)
     by_cases hp1:(pendingOf st6).size > 1
     ·rw [if_pos hp1]
      obtain ⟨⟨u1,u2,ol⟩,hu⟩:∃ y,(pendingOf st6)[(pendingOf st6).size - 2]? = some y:=⟨_,getElem?_pos _ _ (by omega)⟩
      rw [hu]
      dsimp only
      by_cases hol:ol<=pw
      ·rw [if_pos hol]
       exact wpS_pure ⟨rfl,R6,P6⟩
      rw [if_neg hol]
      refine wpS_bind (wpS_mrg C h0 R6 h1 (by omega) fun st7 R7 _ P7=>?_)
      simp only [Bool.not_true,Bool.false_eq_true,if_false]
      exact wpS_pure ⟨rfl,R7,⟨P7.perm.trans P6.perm,rfl,P7.back.trans P6.back⟩⟩
     ·rw [if_neg hp1]
      exact wpS_pure ⟨rfl,R6,P6⟩
    case poc2 =>
     rintro c st6 ⟨rfl,R6,P6⟩
     dsimp only
     refine wpS_bind (wpS_modify (wpS_bind (wpS_modify (wpS_pure ⟨_,rfl,push _ (R6.congr modify_last) ?_,by omega,by omega⟩))))
     show Sor κ (seg (arrOf st6).toList lo m)
     rw [P6.seg_back (by omega)]
     exact hs2.sor
end
end TS
namespace TS
open PySem PyProof.Rows
noncomputable def kd1 (κ:KeyKind) (v:Value):κ.α:=(κ.keyOf v).getD κ.dflt
section
variable {prog:Program} {w:World} {A:Around} {E:Value->Shared->Prop} {s:Shared} {κ:KeyKind} {kd:SortKind}
noncomputable def Ext (a:Addr) (s s':Shared):Prop:=∀ b o,b ≠ a->s.heap.get? b = some o->s'.heap.get? b = some o
structure Keys (prog:Program) (w:World) (a:Addr) (s:Shared) (κ:KeyKind) (kd:SortKind) (vs:List Value):Prop where
 cmp:∀ (A:Around) (s':Shared),Ext a s s'->Cmp prog w A s' κ kd
 key:∀ v ∈ vs,∃ k,κ.keyOf v = some k
 kind:2<=vs.length->∀ (A:Around) (E:Value->Shared->Prop) (s':Shared) (Q:SortKind->Shared->Prop),Ext a s s'->Q kd s'->wpAny (model prog w) A (keyKind' vs.toArray) Q E s'
noncomputable def Out (κ:KeyKind) (vs:List Value) (out:Array Value):Prop:=out.toList.Perm vs/\out.toList.Pairwise fun u v=>κ.kle (kd1 κ u) (kd1 κ v)
theorem out_of {vs:List Value} {xs:Array Keyed} (hp:xs.toList.Perm (pairsOf vs).toList) (hs:Sor κ xs.toList):Out κ vs (xs.map (·.2)):=by
 rw [pairsOf_toList] at hp
 have hm:∀ p ∈ xs.toList,p.1 = p.2:=fun p h=>(mem_zip_self (hp.mem_iff.mp h)).1
 have e:(xs.map (·.2)).toList = xs.toList.map (·.1):=by
  rw [Array.toList_map]; exact List.map_congr_left fun p h=>(hm p h).symm
 refine ⟨?_,?_⟩
 ·rw [e]
  have:=hp.map Prod.fst
  rwa [List.map_fst_zip (Nat.le_refl _)] at this
 ·rw [e,List.pairwise_map]
  exact hs
theorem list_sort_gen {a:Addr} {vs:List Value} {n:Nat} {P:Fin->Shared->Prop} (ho:s.heap.get? a = some (seqObj "list" vs.toArray n)) (hz:vs.length<=sizeLine) (K:Keys prog w a s κ kd vs)
  (h:∀ out:Array Value,Out κ vs out->P (.done (.ret .none)) { s with heap:=sortedHeap s.heap a vs out }) :
  wpAny (model prog w) A (Builtin.«list.sort» ⟨[.ref a],[]⟩) P E s:=by
 rw [list_sort_plain]
 have ha:a < s.heap.objs.size:=Heap.lt_size ho
 have hsz:vs.toArray.size = vs.length:=by simp
 refine wpAny_bind (listItems_at ho rfl ?_)
 refine wpAny_bind (listUpdate_at ho rfl ?_ (by rw [hsz]; exact hz) (by simp))
 obtain ⟨e1,ho1⟩:∃ e1,(s.heap.update a (Obj.mapSeq fun _=>#[])).get? a = some (seqObj "list" #[] e1):=⟨_,get?_update_seq ho (fun _=>#[])⟩
 refine wpAny_bind (seqEpoch_at ho1 rfl ?_)
 refine wpAny_bind (wpAny_newTuple ?_ (by simpa using hz))
 refine wpAny_bind (wpAny_newList ?_)
 refine wpAny_holding ?_
 have ho6:(((s.heap.update a (Obj.mapSeq fun _=>#[])).push (seqObj "tuple" vs.toArray 0)).push (seqObj "list" #[] 0)).get? a = some (seqObj "list" #[] e1):=by
  rw [Heap.get?_push_ne _ _ _ (by rw [size_push',Heap.size_update]; exact Nat.ne_of_lt (Nat.lt_succ_of_lt ha)),Heap.get?_push_ne _ _ _ (by rw [Heap.size_update]; exact Nat.ne_of_lt ha)]
  exact ho1
 show wpAny (model prog w) A _ P E { s with heap:=((s.heap.update a (Obj.mapSeq fun _=>#[])).push (seqObj "tuple" vs.toArray 0)).push (seqObj "list" #[] 0) }
 dsimp only
 have hE:Ext a s { s with heap:=((s.heap.update a (Obj.mapSeq fun _=>#[])).push (seqObj "tuple" vs.toArray 0)).push (seqObj "list" #[] 0) }:=fun b o hb e =>
  Heap.get?_push_of_some _ (Heap.get?_push_of_some _ ((Heap.get?_update_other s.heap _ (Ne.symm hb)).trans e))
 by_cases h2:vs.toArray.size < 2
 ·rw [if_pos h2,if_pos h2]
  refine wpAny_bind (wpAny_pure ?_)
  rw [StateT.run_pure]
  refine wpAny_bind (wpAny_pure ?_)
  dsimp only
  refine wpAny_bind (seqEpoch_at ho6 rfl ?_)
  refine wpAny_bind (listUpdate_at ho6 rfl ?_ (by simp) (by rw [Array.size_map]; show (pairsOf vs).size<=_; rw [pairsOf_size]; omega))
  simp only [bne_self_eq_false,Bool.false_eq_true,if_false]
  refine wpAny_pure (h _ (out_of (κ:=κ) (xs:=pairsOf vs) (List.Perm.refl _) ?_))
  rw [pairsOf_toList]
  rw [hsz] at h2
  match vs,h2 with
  | [],_=>exact List.Pairwise.nil
  | [v],_=>exact List.pairwise_singleton _ _
  | _ :: _ :: _,h2=>simp at h2; omega
 ·rw [if_neg h2,if_neg h2]
  refine wpAny_bind (K.kind (by omega) A E _ _ hE ?_)
  refine wpAny_bind (wpAny_mono (wpS_sortRunsA (K.cmp A _ hE) (a₀:=pairsOf vs) (st:=SortSt.mk' kd (vs.toArray.zip vs.toArray) #[] 7 none)
   (Q:=fun _ st'=>St κ kd (pairsOf vs) st'/\Sor κ (arrOf st').toList)
   (fun p hp=>?_) ⟨List.Perm.refl _,rfl,rfl⟩ rfl fun st' a1 a2=>⟨a1,a2⟩) ?_ fun _ _ e=>e)
  ·rw [pairsOf_toList] at hp
   exact K.key _ (mem_zip_self hp).2
  rintro ⟨⟨⟩,st'⟩ s' ⟨rfl,hp,hs⟩
  dsimp only
  refine wpAny_bind (seqEpoch_at ho6 rfl ?_)
  refine wpAny_bind (listUpdate_at ho6 rfl ?_ (by simp) (by rw [Array.size_map]; show (arrOf st').size<=_; rw [hp.size,pairsOf_size]; omega))
  rw [show failedOf st' = none from hp.failed]
  simp only [bne_self_eq_false,Bool.false_eq_true,if_false]
  exact wpAny_pure (h _ (out_of hp.perm hs))
theorem sorted_gen {x:Value} {Q:Value->Shared->Prop}
  (hc:wpAny (model prog w) A.in1 (collect x) (fun vs s1=>s1.os = s.os/\vs.length<=sizeLine/\(∃ (κ:KeyKind) (kd:SortKind),(∀ s2:Shared,Ext s1.heap.objs.size s1 s2->Keys prog w s1.heap.objs.size s2 κ kd vs) /\
   ∀ (out:Array Value) (h':Heap) (e:Nat),Out κ vs out->(∀ b o,s1.heap.get? b = some o->h'.get? b = some o)->h'.get? s1.heap.objs.size = some (seqObj "list" out e)->Q (.ref s1.heap.objs.size) { s1 with heap:=h' })) E s) :
  wpAny (model prog w) A (call (.builtin "sorted") [x]) Q E s:=by
 refine Calls.call_function_entry kind_sorted plain_sorted entry_sorted (args_sorted1 _) ?_
 unfold Builtin.«sorted»
 refine wpAny_bind (m:=checkCount "sorted" 1 1 _) (wpAny_pure ?_)
 refine wpAny_bind (wpAny_mono hc (fun vs s1 ⟨eos,hz,κ,kd,K,q⟩=>?_) fun _ _ z=>z)
 refine wpAny_bind (wpAny_newList ?_)
 have hoL:(s1.heap.push (seqObj "list" vs.toArray 0)).get? s1.heap.objs.size = some (seqObj "list" vs.toArray 0):=Heap.get?_push_size _ rfl
 show wpAny _ _ _ _ _ { s1 with heap:=s1.heap.push (seqObj "list" vs.toArray 0) }
 have hE:Ext s1.heap.objs.size s1 { s1 with heap:=s1.heap.push (seqObj "list" vs.toArray 0) }:=fun b o _ e=>Heap.get?_push_of_some _ e
 refine wpAny_bind (wpAny_holding (wpAny_call_entry slot_list_sort ⟨_,hoL,rfl⟩ entry_list_sort (list_sort_gen (s:={ s1 with heap:=s1.heap.push (seqObj "list" vs.toArray 0) }) hoL hz (K _ hE) fun out ho=>⟨_,rfl,?_⟩) (args_list_sort _)))
 obtain ⟨e,he⟩:=sortedHeap_at (h:=s1.heap.push (seqObj "list" vs.toArray 0)) (out:=out) hoL
 refine wpAny_pure ⟨_,rfl,q out _ e ho (fun b o eb=>?_) he⟩
 have hlt:=Heap.lt_size eb
 rw [sortedHeap_old (Nat.ne_of_lt hlt) (by rw [size_push']; exact Nat.lt_succ_of_lt hlt)]
 exact Heap.get?_push_of_some _ eb
theorem keys_strs {a:Addr} {vs:List Value} {ss:List Str} (hS:StrsAre vs ss):Keys prog w a s strKind oneType' vs:=by
 refine ⟨fun A s' _=>⟨fun x y k l Q E hx hy q=>?_⟩,fun v hv=>?_,fun h2 A E s' Q _ q=>?_⟩
 ·rw [keyLt'_oneType]
  exact strKind_oneLt prog w A E s' x y k l hx hy q
 ·obtain ⟨x,t,rfl⟩:=hS.all v hv
  exact ⟨_,rfl⟩
 ·match vs,h2,hS with
  | v1 :: v2 :: r,_,hS =>
   rw [keyKind_strs hS]
   exact wpAny_pure q
noncomputable def pairLt (a b:List Nat × List Nat):Bool:=decide (a.1 < b.1) || (decide (a.1 = b.1) && decide (a.2 < b.2))
theorem pairLt_iff {a b:List Nat × List Nat}:pairLt a b = true ↔ a.1 < b.1\/(a.1 = b.1/\a.2 < b.2):=by
 unfold pairLt
 simp
theorem tri (a b:List Nat):a < b\/a = b\/b < a:=by
 by_cases h:a < b
 ·exact .inl h
 ·by_cases h':b < a
  ·exact .inr (.inr h')
  ·exact .inr (.inl (List.le_antisymm (List.not_lt.mp h') (List.not_lt.mp h)))
noncomputable def twoStr:List Value->Option (List Nat × List Nat)
 | [.str x _,.str y _]=>some (x.cps.toList,y.cps.toList)
 | _=>none
noncomputable def seqIf (c:Value):Data->Option (List Nat × List Nat)
 | .seq xs _=>if c = .type "tuple" then twoStr xs.toList else none
 | _=>none
noncomputable def pairOf (h:Heap):Value->Option (List Nat × List Nat)
 | .ref p=>(h.get? p).bind fun o=>seqIf o.cls o.data
 | _=>none
@[reducible] noncomputable def pairKind (h:Heap):KeyKind where
 α:=List Nat × List Nat
 blt:=pairLt
 irrefl a:=by
  rw [Bool.eq_false_iff]
  intro z
  rcases pairLt_iff.mp z with z | ⟨_,z⟩
  ·exact List.lt_irrefl _ z
  ·exact List.lt_irrefl _ z
 trans a b c h1 h2:=by
  rw [pairLt_iff] at *
  rcases h1 with h1 | ⟨h1,h1'⟩
  ·rcases h2 with h2 | ⟨h2,_⟩
   ·exact .inl (List.lt_trans h1 h2)
   ·exact .inl (h2 ▸ h1)
  ·rcases h2 with h2 | ⟨h2,h2'⟩
   ·exact .inl (h1 ▸ h2)
   ·exact .inr ⟨h1.trans h2,List.lt_trans h1' h2'⟩
 negTrans a b c h:=by
  rw [pairLt_iff] at h
  simp only [pairLt_iff]
  rcases h with h | ⟨h,h'⟩
  ·rcases tri a.1 b.1 with q | q | q
   ·exact .inl (.inl q)
   ·exact .inr (.inl (q ▸ h))
   ·exact .inr (.inl (List.lt_trans q h))
  ·rcases tri a.1 b.1 with q | q | q
   ·exact .inl (.inl q)
   ·rcases tri a.2 b.2 with r | r | r
    ·exact .inl (.inr ⟨q,r⟩)
    ·exact .inr (.inr ⟨q ▸ h,r ▸ h'⟩)
    ·exact .inr (.inr ⟨q ▸ h,List.lt_trans r h'⟩)
   ·exact .inr (.inl (h ▸ q))
 total a b h1 h2:=by
  rw [Bool.eq_false_iff] at h1 h2
  rcases tri a.1 b.1 with q | q | q
  ·exact absurd (pairLt_iff.mpr (.inl q)) h1
  ·rcases tri a.2 b.2 with r | r | r
   ·exact absurd (pairLt_iff.mpr (.inr ⟨q,r⟩)) h1
   ·exact Prod.ext q r
   ·exact absurd (pairLt_iff.mpr (.inr ⟨q.symm,r⟩)) h2
  ·exact absurd (pairLt_iff.mpr (.inl q)) h2
 keyOf:=pairOf h
 dflt:=([],[])
noncomputable def PairAt (h:Heap) (v:Value) (x y:Str):Prop:=∃ p o n t u,v = .ref p/\h.get? p = some o/\o.cls = .type "tuple"/\o.data = .seq #[.str x t,.str y u] n
theorem PairAt.key {h:Heap} {v:Value} {x y:Str} (z:PairAt h v x y):pairOf h v = some (x.cps.toList,y.cps.toList):=by
 obtain ⟨p,o,n,t,u,rfl,e,c,d⟩:=z
 show (h.get? p).bind (fun o=>seqIf o.cls o.data) = _
 rw [e]
 show seqIf o.cls o.data = _
 rw [d,c]
 unfold seqIf
 exact (if_pos rfl).trans rfl
theorem two_of {l:List Value} {k:List Nat × List Nat} (e:twoStr l = some k):∃ x t y u,l = [.str x t,.str y u]:=by
 match l,e with
 | [.str x t,.str y u],_=>exact ⟨x,t,y,u,rfl⟩
theorem pair_of {h:Heap} {v:Value} {k:List Nat × List Nat} (e:pairOf h v = some k):∃ x y,PairAt h v x y:=by
 match v,e with
 | .ref p,e =>
  have e':(h.get? p).bind (fun o=>seqIf o.cls o.data) = some k:=e
  obtain ⟨o,ho,es⟩:=Option.bind_eq_some_iff.mp e'
  cases d:o.data with
  | seq xs n =>
   rw [d] at es
   have es':(if o.cls = .type "tuple" then twoStr xs.toList else none) = some k:=es
   by_cases c:o.cls = .type "tuple"
   ·rw [if_pos c] at es'
    obtain ⟨x,t,y,u,el⟩:=two_of es'
    refine ⟨x,y,p,o,n,t,u,rfl,ho,c,?_⟩
    rw [d]
    have:xs = #[.str x t,.str y u]:=by rw [<-Array.toList_inj,el]
    rw [this]
   ·rw [if_neg c] at es'; cases es'
  | _=>rw [d] at es; cases es
theorem pair_inv {h:Heap} {v:Value} {k:List Nat × List Nat} {x y:Str} (z:PairAt h v x y) (e:pairOf h v = some k):k = (x.cps.toList,y.cps.toList):=by
 rw [z.key] at e
 exact (Option.some.inj e).symm
theorem keys_pairs {a:Addr} {vs:List Value} {h0:Heap} (hv:∀ v ∈ vs,∃ x y,PairAt h0 v x y) (hk:∀ b o,h0.get? b = some o->b ≠ a/\s.heap.get? b = some o) :
  Keys prog w a s (pairKind h0) (tuples' true) vs:=by
 refine ⟨fun A s' hE=>⟨fun x y k l Q E hx hy q=>?_⟩,fun v hvm=>?_,fun h2 A E s' Q hE q=>?_⟩
 ·obtain ⟨x1,x2,zx⟩:=pair_of hx
  obtain ⟨y1,y2,zy⟩:=pair_of hy
  have ek:=pair_inv zx hx
  have el:=pair_inv zy hy
  subst ek el
  obtain ⟨px,ox,nx,t1,u1,rfl,e1,_,d1⟩:=zx
  obtain ⟨py,oy,ny,t2,u2,rfl,e2,_,d2⟩:=zy
  have f1:=hE _ _ (hk _ _ e1).1 (hk _ _ e1).2
  have f2:=hE _ _ (hk _ _ e2).1 (hk _ _ e2).2
  refine PySem.W.kat_lt f1 d1 f2 d2 ?_
  show PySem.W.KatLex prog w A true _ Q [(.str x1 t1,.str y1 t2),(.str x2 u1,.str y2 u2)] 0 s'
  refine PySem.W.kat_cons (wpAny_eqBool_str (PySem.W.kat_go (fun he=>?_) fun he=>?_))
  ·have he:x1 = y1:=by simpa using he
   refine PySem.W.kat_yes (PySem.W.kat_cons (wpAny_eqBool_str (PySem.W.kat_go (fun he2=>?_) fun he2=>?_)))
   ·have he2:x2 = y2:=by simpa using he2
    refine PySem.W.kat_yes (PySem.W.kat_nil ?_)
    have:pairLt (x1.cps.toList,x2.cps.toList) (y1.cps.toList,y2.cps.toList) = decide (2 < 2):=by
     rw [he,he2]
     exact (pairKind h0).irrefl (y1.cps.toList,y2.cps.toList)
    show Q (decide (2 < 2)) s'
    rw [<-this]
    exact q
   ·refine PySem.W.kat_no (PySem.W.kat_one _ _ (lt_str ?_))
    have:pairLt (x1.cps.toList,x2.cps.toList) (y1.cps.toList,y2.cps.toList) = decide (x2.cps.toList < y2.cps.toList):=by
     rw [he]
     unfold pairLt
     simp [List.lt_irrefl]
    show Q (decide (x2.cps.toList < y2.cps.toList)) s'
    rw [<-this]
    exact q
  ·have he:¬ x1 = y1:=by simpa using he
   refine PySem.W.kat_no (oneLt_str ?_)
   have hne:¬ x1.cps.toList = y1.cps.toList:=fun z=>he (by cases x1; cases y1; simp at z; simp [z])
   have:pairLt (x1.cps.toList,x2.cps.toList) (y1.cps.toList,y2.cps.toList) = decide (x1.cps.toList < y1.cps.toList):=by
    unfold pairLt
    simp [hne]
   rw [<-this]
   exact q
 ·obtain ⟨x,y,z⟩:=hv v hvm
  exact ⟨_,z.key⟩
 ·have hT:∀ (us:List Value),(∀ v ∈ us,∃ x y,PairAt h0 v x y)->∃ fs,PySem.W.KatTups s'.heap us fs/\fs.length = us.length/\∀ v ∈ fs,∃ x t,v = .str x t:=by
   intro us
   induction us with
   | nil=>exact fun _=>⟨[],.nil,rfl,fun v hv=>by simp at hv⟩
   | cons v r ih =>
    intro hus
    obtain ⟨fs,g1,g2,g3⟩:=ih fun u hu=>hus u (List.mem_cons_of_mem _ hu)
    obtain ⟨x,y,p,o,n,t,u,rfl,e,c,d⟩:=hus v (List.mem_cons_self ..)
    refine ⟨.str x t :: fs,.cons (hE _ _ (hk _ _ e).1 (hk _ _ e).2) c d rfl g1,by simp [g2],fun z hz=>?_⟩
    rcases List.mem_cons.mp hz with rfl | hz
    ·exact ⟨x,t,rfl⟩
    ·exact g3 z hz
  obtain ⟨fs,g1,g2,g3⟩:=hT vs hv
  refine PySem.W.kat_kind (T:=.type "str") g1 (by omega) (fun v hv=>?_) (by rfl) q
  obtain ⟨x,t,rfl⟩:=g3 v hv
  exact .now
end
end TS
set_option Elab.async false
namespace L2
open PySem PySem.Spec PyProof.Rows
noncomputable abbrev Key:=Sum Int Str
noncomputable def keyIs:Key->Value->Bool
 | .inl k,v=>Value.isInt k v
 | .inr x,v=>Value.isStrOf x v
noncomputable def keyH (w:World):Key->Int
 | .inl k=>hashInt k
 | .inr x=>hashStr w x
theorem keyIs_shape:∀ {k:Key} {v:Value},keyIs k v = true->(∃ i t,k = Sum.inl i/\v = Value.int i t)\/(∃ x t,k = Sum.inr x/\v = Value.str x t)
 | .inl i,v,h=>by
  obtain ⟨t,e⟩:=Value.isInt_shape (k:=i) (v:=v) h
  exact .inl ⟨i,t,rfl,e⟩
 | .inr x,v,h=>by
  obtain ⟨t,e⟩:=Value.isStrOf_shape (x:=x) (v:=v) h
  exact .inr ⟨x,t,rfl,e⟩
theorem keyIs_int (i:Int) (t:Tok):keyIs (.inl i) (.int i t) = true:=by simp [keyIs,Value.isInt]
theorem keyIs_str (x:Str) (t:Tok):keyIs (.inr x) (.str x t) = true:=by simp [keyIs,Value.isStrOf]
theorem key_ll (a b:Int):decide ((Sum.inl a:Key) = Sum.inl b) = (a == b):=by
 by_cases e:a = b
 ·subst e; simp
 ·have h:¬ (Sum.inl a:Key) = Sum.inl b:=fun q=>e (Sum.inl.inj q)
  rw [decide_eq_false h]
  exact (beq_eq_false_iff_ne.mpr e).symm
theorem key_rr (a b:Str):decide ((Sum.inr a:Key) = Sum.inr b) = decide (a = b):=by
 by_cases e:a = b
 ·subst e; simp
 ·have h:¬ (Sum.inr a:Key) = Sum.inr b:=fun q=>e (Sum.inr.inj q)
  rw [decide_eq_false h,decide_eq_false e]
theorem key_lr (a:Int) (b:Str):decide ((Sum.inl a:Key) = Sum.inr b) = false:=decide_eq_false (fun q=>nomatch q)
theorem key_rl (a:Str) (b:Int):decide ((Sum.inr a:Key) = Sum.inl b) = false:=decide_eq_false (fun q=>nomatch q)
noncomputable def mixKind (prog:Program) (w:World):PySem.KeyKind prog w Key where
 is:=keyIs
 hash:=keyH w
 inj:=fun v a b ha hb=>by
  rcases keyIs_shape ha with ⟨i,t,rfl,rfl⟩ | ⟨x,t,rfl,rfl⟩
  ·rcases keyIs_shape hb with ⟨j,u,rfl,e⟩ | ⟨y,u,rfl,e⟩
   ·injection e with e1 _; rw [e1]
   ·exact nomatch e
  ·rcases keyIs_shape hb with ⟨j,u,rfl,e⟩ | ⟨y,u,rfl,e⟩
   ·exact nomatch e
   ·injection e with e1 _; rw [e1]
 byValue:=fun k v h=>by
  rcases keyIs_shape h with ⟨i,t,rfl,rfl⟩ | ⟨x,t,rfl,rfl⟩ <;> rfl
 pyHash:=fun hv h=>by
  rcases keyIs_shape hv with ⟨i,t,rfl,rfl⟩ | ⟨x,t,rfl,rfl⟩
  ·exact wpAny_pyHash_int h
  ·exact wpAny_pyHash_str h
 eqBool:=fun hu hv h=>by
  rcases keyIs_shape hu with ⟨i,t,rfl,rfl⟩ | ⟨x,t,rfl,rfl⟩
  ·rcases keyIs_shape hv with ⟨j,u,rfl,rfl⟩ | ⟨y,u,rfl,rfl⟩
   ·rw [key_ll] at h; exact wpAny_eqBool_int h
   ·rw [key_lr] at h; exact SeqAt.EqAt.int_str i t y u _ _ _ _ h
  ·rcases keyIs_shape hv with ⟨j,u,rfl,rfl⟩ | ⟨y,u,rfl,rfl⟩
   ·rw [key_rl] at h; exact SeqAt.EqAt.str_int x t j u _ _ _ _ h
   ·rw [key_rr] at h; exact wpAny_eqBool_str h
 «strs»:=fun k x t v h=>by
  rcases keyIs_shape h with ⟨i,u,rfl,e⟩ | ⟨y,u,rfl,e⟩
  ·exact nomatch e
  ·injection e with e1 _
   subst e1
   cases v <;> rfl
theorem mixKind_int (prog:Program) (w:World) (i:Int) (t:Tok):(mixKind prog w).is (.inl i) (.int i t) = true:=keyIs_int i t
theorem mixKind_str (prog:Program) (w:World) (x:Str) (t:Tok):(mixKind prog w).is (.inr x) (.str x t) = true:=keyIs_str x t
end L2
namespace L2
open PySem PySem.Spec PyProof.Rows
inductive V where
 | non | bl (b:Bool) | int (i:Int) | str (x:Str) | byt (b:Array UInt8) | flt (b:UInt64) | ref (a:Addr) | ty (n:String)
 deriving DecidableEq
noncomputable def RelV:V->Value->Prop
 | .non,u=>u = Value.none
 | .bl b,u=>u = Value.bool b
 | .int i,u=>∃ t,u = Value.int i t
 | .str x,u=>∃ t,u = Value.str x t
 | .byt b,u=>∃ t,u = Value.bytes b t
 | .flt b,u=>∃ t,u = Value.float b t
 | .ref a,u=>u = Value.ref a
 | .ty n,u=>u = Value.type n
noncomputable abbrev Vals:List V->List Value->Prop:=Paired RelV
theorem Vals.length {xs:List V} {us:List Value} (r:Vals xs us):xs.length = us.length:=Paired.length r
theorem Vals.get:∀ {xs:List V} {us:List Value} {i:Nat} {x:V},Vals xs us->xs[i]? = some x->∃ u,us[i]? = some u/\RelV x u
 | _,_,_,_,.nil,e=>by simp at e
 | _,_,0,_,.cons r _,e=>by simp at e; subst e; exact ⟨_,rfl,r⟩
 | _,_,i + 1,x,.cons _ t,e=>by
  obtain ⟨u,h1,h2⟩:=Vals.get (i:=i) (x:=x) t (by simpa using e)
  exact ⟨u,by simpa using h1,h2⟩
theorem Vals.set {x:V} {u:Value} (r:RelV x u):∀ {xs:List V} {us:List Value} (i:Nat),Vals xs us->Vals (xs.set i x) (us.set i u)
 | _,_,_,.nil=>.nil
 | _,_,0,.cons _ t=>.cons r t
 | _,_,i + 1,.cons q t=>.cons q (Vals.set r i t)
theorem Vals.append:∀ {xs ys:List V} {us ws:List Value},Vals xs us->Vals ys ws->Vals (xs ++ ys) (us ++ ws)
 | _,_,_,_,.nil,s=>s
 | _,_,_,_,.cons r t,s=>.cons r (Vals.append t s)
theorem Vals.take:∀ {xs:List V} {us:List Value} (n:Nat),Vals xs us->Vals (xs.take n) (us.take n)
 | _,_,0,_=>.nil
 | _,_,_ + 1,.nil=>.nil
 | _,_,n + 1,.cons r t=>.cons r (Vals.take n t)
theorem Vals.drop:∀ {xs:List V} {us:List Value} (n:Nat),Vals xs us->Vals (xs.drop n) (us.drop n)
 | _,_,0,r=>r
 | _,_,_ + 1,.nil=>.nil
 | _,_,n + 1,.cons _ t=>Vals.drop n t
theorem Vals.none_of:∀ {xs:List V} {us:List Value} {i:Nat},Vals xs us->xs[i]? = none->us[i]? = none:=fun {xs us i} r e=>by
 have h1:=r.length
 have h2:xs.length<=i:=List.getElem?_eq_none_iff.mp e
 exact List.getElem?_eq_none_iff.mpr (by omega)
noncomputable def RelO:Option V->Option Value->Prop
 | some v,some u=>RelV v u
 | none,none=>True
 | _,_=>False
noncomputable def KV {κ:Type}:List (κ × V)->List (κ × Value)->Prop:=Paired fun (p:κ × V) (q:κ × Value)=>p.1 = q.1/\RelV p.2 q.2
noncomputable def kV:Key->V
 | .inl i=>.int i
 | .inr x=>.str x
inductive HO where
 | lst (xs:List V)
 | tup (xs:List V)
 | dK (kvs:List (Key × V)) | dT (kvs:List (List Key × V))
 | set (S:Int->Bool) (n:Nat)
 | ins (C dx:Addr) (fs:List (Str × V))
 | own (x:Addr)
 | xd (fs:List (Str × V))
 | met (f x:Addr)
 | rng (lo hi:Int)
 | frz (o:Obj) (u:HO)
 | tbl (ps:Array Value)
 | ext (φ:Heap->Prop)
set_option genInjectivity false
noncomputable abbrev Hp:=Addr->Option HO
noncomputable def upd (H:Hp) (a:Addr) (o:HO):Hp:=fun b=>if b = a then some o else H b
theorem upd_same {H:Hp} {a:Addr} {o:HO}:upd H a o a = some o:=by unfold upd; rw [if_pos rfl]
theorem upd_ne {H:Hp} {a b:Addr} {o:HO} (h:b ≠ a):upd H a o b = H b:=by unfold upd; rw [if_neg h]
theorem ne_of {H:Hp} {a b:Addr} {o u:HO} (h:H a = some o) (h':H b = some u) (d:o ≠ u):a ≠ b:=by
 intro e; subst e; rw [h] at h'; exact d (Option.some.inj h')
theorem ne_of_none {H:Hp} {a b:Addr} {o:HO} (h:H a = some o) (h':H b = none):a ≠ b:=by
 intro e; subst e; rw [h] at h'; cases h'
section
variable (P:Program) (w:World)
noncomputable def ObjOk (H:Hp) (h:Heap) (a:Addr):HO->Prop
 | .lst xs=>xs.length<=sizeLine/\∃ (its:List Value) (n:Nat),Vals xs its/\h.get? a = some { cls:=.type "list",data:=.seq its.toArray n }
 | .tup xs=>xs.length<=sizeLine/\∃ its:List Value,Vals xs its/\IsTup h a its.toArray
 | .dK kvs=>kvs.length<=sizeLine/\(a == sysModules) = false/\∃ vs,KV kvs vs/\h.DictOf (mixKind P w) a vs
 | .dT kvs=>kvs.length<=sizeLine/\(a == sysModules) = false/\∃ xs:List (List Key × Addr × Value),
   Paired (fun (p:List Key × V) (q:List Key × Addr × Value)=>p.1 = q.1/\H q.2.1 = some (.tup (p.1.map kV))/\RelV p.2 q.2.2) kvs xs /\
   ∃ o es ep,h.get? a = some o/\o.ExactDict/\o.data = .dict es ep/\es.toList = xs.map (entryOfKey (tupleKind (mixKind P w)))/\(xs.map (·.1)).Nodup
 | .set S n=>h.SetOf (intKind P w) a S n
 | .ins C dx fs=>H dx = some (.own a)/\fs.length<=1000/\dx ≠ a/\h.get? a = some (PySem.W.instObj C dx) /\
   ∃ mA,h.Ns1 dx mA/\(∀ f,RelO (fs.lookup f) (mA f))/\PySem.Within mA (fs.map (·.1))
 | .own _=>∃ o,h.get? a = some o
 | .xd fs=>∃ mA,h.Ns1 a mA/\∀ f,RelO (fs.lookup f) (mA f)
 | .rng lo hi=>∃ t u v,h.get? a = some { cls:=.type "range",data:=.fields #[.int lo t,.int hi u,.int 1 v] }
 | .frz o u=>h.get? a = some o/\ObjOk H h a u
 | .tbl ps=>h.get? a = some { cls:=.none,data:=.fields ps }
 | .met f x=>h.get? a = some (PySem.W.methodObj (.ref f) (.ref x))
 | .ext φ=>φ h/\(∃ o,h.get? a = some o)/\∀ h1 h2:Heap,φ h1->(∀ o,h1.get? a = some o->h2.get? a = some o)->φ h2
noncomputable def HOk (H:Hp) (h:Heap):Prop:=∀ a o,H a = some o->ObjOk P w H h a o
end
section
variable {P:Program} {w:World} {H H':Hp} {h h':Heap} {a:Addr} {o:HO}
theorem ObjOk.lt (x:ObjOk P w H h a o):a < h.objs.size:=by
 cases o with
 | lst xs=>obtain ⟨_,_,_,_,e⟩:=x; exact Heap.lt_size e
 | tup xs=>obtain ⟨_,_,_,p⟩:=x; exact p.lt
 | dK kvs=>obtain ⟨_,_,_,_,o,_,_,e,_⟩:=x; exact Heap.lt_size e
 | dT kvs=>obtain ⟨_,_,_,_,o,_,_,e,_⟩:=x; exact Heap.lt_size e
 | set S n=>obtain ⟨o,_,_,_,e,_⟩:=x; exact Heap.lt_size e
 | ins C dx fs=>obtain ⟨_,_,_,e,_⟩:=x; exact Heap.lt_size e
 | own y=>obtain ⟨_,e⟩:=x; exact Heap.lt_size e
 | xd fs=>obtain ⟨_,⟨_,_,_,e,_⟩,_⟩:=x; exact Heap.lt_size e
 | rng lo hi=>obtain ⟨_,_,_,e⟩:=x; exact Heap.lt_size e
 | frz ob u=>obtain ⟨e,_⟩:=x; exact Heap.lt_size e
 | tbl ps=>exact Heap.lt_size (show h.get? a = some _ from x)
 | met f y=>exact Heap.lt_size (show h.get? a = some _ from x)
 | ext φ=>obtain ⟨_,⟨_,e⟩,_⟩:=x; exact Heap.lt_size e
theorem Paired.mapP {α β:Type} {F G:α->β->Prop}:∀ {l₁:List α} {l₂:List β},Paired F l₁ l₂->(∀ a b,F a b->G a b)->Paired G l₁ l₂
 | _,_,.nil,_=>.nil
 | _,_,.cons r t,f=>.cons (f _ _ r) (Paired.mapP t f)
theorem ObjOk.stay (x:ObjOk P w H h a o) (k:∀ b u,(b = a\/H b = some (.own a))->h.get? b = some u->h'.get? b = some u)
  (ho:∀ b,H b = some (.own a)->H' b = some (.own a)) (ht:∀ b xs,H b = some (.tup xs)->H' b = some (.tup xs)):ObjOk P w H' h' a o:=by
 induction o with
 | lst xs=>obtain ⟨z,its,n,r,e⟩:=x; exact ⟨z,its,n,r,k _ _ (.inl rfl) e⟩
 | tup xs=>obtain ⟨z,its,r,ob,e,c⟩:=x; exact ⟨z,its,r,ob,k _ _ (.inl rfl) e,c⟩
 | dK kvs=>obtain ⟨z,y,vs,r,ob,es,ep,e,c⟩:=x; exact ⟨z,y,vs,r,ob,es,ep,k _ _ (.inl rfl) e,c⟩
 | dT kvs =>
  obtain ⟨z,y,xs,r,ob,es,ep,e,c⟩:=x
  exact ⟨z,y,xs,Paired.mapP r fun p q z=>⟨z.1,ht _ _ z.2.1,z.2.2⟩,ob,es,ep,k _ _ (.inl rfl) e,c⟩
 | set S n=>obtain ⟨ob,es,ep,t,e,c⟩:=x; exact ⟨ob,es,ep,t,k _ _ (.inl rfl) e,c⟩
 | ins C dx fs =>
  obtain ⟨d,z,ne,e,mA,⟨od,es,ep,e2,c⟩,r⟩:=x
  exact ⟨ho _ d,z,ne,k _ _ (.inl rfl) e,mA,⟨od,es,ep,k _ _ (.inr d) e2,c⟩,r⟩
 | own y=>obtain ⟨ob,e⟩:=x; exact ⟨ob,k _ _ (.inl rfl) e⟩
 | xd fs=>obtain ⟨mA,⟨od,es,ep,e,c⟩,r⟩:=x; exact ⟨mA,⟨od,es,ep,k _ _ (.inl rfl) e,c⟩,r⟩
 | rng lo hi=>obtain ⟨t,u,v,e⟩:=x; exact ⟨t,u,v,k _ _ (.inl rfl) e⟩
 | frz ob u ih=>obtain ⟨e,q⟩:=x; exact ⟨k _ _ (.inl rfl) e,ih q⟩
 | tbl ps =>
  have e:h.get? a = some { cls:=.none,data:=.fields ps }:=x
  show h'.get? a = some { cls:=.none,data:=.fields ps }
  exact k a _ (.inl rfl) e
 | met f y =>
  have e:h.get? a = some (PySem.W.methodObj (.ref f) (.ref y)):=x
  show h'.get? a = some (PySem.W.methodObj (.ref f) (.ref y))
  exact k a _ (.inl rfl) e
 | ext φ=>obtain ⟨p,⟨o,e⟩,st⟩:=x; exact ⟨st _ _ p fun o q=>k _ _ (.inl rfl) q,⟨o,k _ _ (.inl rfl) e⟩,st⟩
theorem HOk.lt (x:HOk P w H h) (e:H a = some o):a < h.objs.size:=(x a o e).lt
theorem HOk.fresh (x:HOk P w H h) (e:h.objs.size<=a):H a = none:=by
 cases q:H a with
 | none=>rfl
 | some u=>exact absurd (Nat.lt_of_lt_of_le (x.lt q) e) (Nat.lt_irrefl _)
theorem HOk.kept (x:HOk P w H h) (k:∀ b u,h.get? b = some u->h'.get? b = some u):HOk P w H h':=fun a o e =>
 (x a o e).stay (fun b u _ q=>k b u q) (fun _ q=>q) fun _ _ q=>q
theorem HOk.laid (x:HOk P w H h) (k:∀ b u,h.get? b = some u->h'.get? b = some u) (hp:h.objs.size<=a) (new:ObjOk P w (upd H a o) h' a o):HOk P w (upd H a o) h':=fun b u e=>by
 have hn:=x.fresh hp
 by_cases hb:b = a
 ·subst hb; rw [upd_same] at e; cases e; exact new
 ·rw [upd_ne hb] at e
  exact (x b u e).stay (fun c v _ q=>k c v q) (fun c q=>by rw [upd_ne (ne_of_none q hn)]; exact q) fun c xs q=>by rw [upd_ne (ne_of_none q hn)]; exact q
end
noncomputable def Rd (H:Hp) (a:Addr) (u:HO):Prop:=H a = some u\/∃ o,H a = some (.frz o u)
theorem Rd.ok {P:Program} {w:World} {H:Hp} {h:Heap} {a:Addr} {u:HO} (r:Rd H a u) (x:HOk P w H h):ObjOk P w H h a u:=by
 rcases r with r | ⟨o,r⟩
 ·exact x a u r
 ·obtain ⟨_,q⟩:=x a _ r
  exact q
noncomputable def Mut:Option HO->Prop
 | some (.lst _)=>True
 | some (.dK _)=>True
 | some (.dT _)=>True
 | some (.set _ _)=>True
 | some (.ins _ _ _)=>True
 | some (.ext _)=>True
 | _=>False
section
variable {P:Program} {w:World} {H:Hp} {h h':Heap} {x e:Addr} {o':HO}
theorem HOk.write (ok:HOk P w H h) (mu:Mut (H x)) (he:e = x\/H e = some (.own x)) (k:∀ b u,b ≠ e->h.get? b = some u->h'.get? b = some u) (heo:∃ u,h'.get? e = some u)
  (new:ObjOk P w (upd H x o') h' x o'):HOk P w (upd H x o') h':=fun b u q=>by
 have nown:∀ c y,H c = some (.own y)->c ≠ x:=fun c y r z=>by subst z; rw [r] at mu; exact mu
 have ntup:∀ c xs,H c = some (.tup xs)->c ≠ x:=fun c xs r z=>by subst z; rw [r] at mu; exact mu
 by_cases hb:b = x
 ·subst hb; rw [upd_same] at q; cases q; exact new
 ·rw [upd_ne hb] at q
  by_cases hbe:b = e
  ·have q':H b = some (.own x):=by
    rcases he with z | z
    ·exact absurd (hbe.trans z) hb
    ·rw [hbe]; exact z
   rw [q] at q'; cases q'
   obtain ⟨v,hv⟩:=heo
   exact ⟨v,by rw [hbe]; exact hv⟩
  ·refine (ok b u q).stay (fun c v hc r=>k c v ?_ r) (fun c r=>by rw [upd_ne (nown c b r)]; exact r) fun c xs r=>by rw [upd_ne (ntup c xs r)]; exact r
   rcases hc with rfl | hc
   ·exact hbe
   ·rintro rfl
    rcases he with z | z
    ·exact nown c b hc z
    ·rw [hc] at z; cases z; exact hb rfl
end
structure Un (fs ex:List Addr) (H H':Hp) (h h':Heap):Prop where
 keep:∀ b o,h.get? b = some o->H b = none->b ∉ fs->b ∉ ex->h'.get? b = some o
 slot:∀ b o,h.get? b = some o->H b = none->b ∈ fs->b ∉ ex->∃ sl,h'.get? b = some { o with slots:=sl }
 free:∀ b o,h.get? b = some o->H b = none->b ∉ ex->H' b = none
 there:∀ b o,h.get? b = some o->b ∉ ex->∃ o',h'.get? b = some o'
 tups:∀ b xs,H b = some (.tup xs)->H' b = some (.tup xs)
 frzs:∀ b o u,H b = some (.frz o u)->H' b = some (.frz o u)
 tbls:∀ b ps,H b = some (.tbl ps)->∃ more,H' b = some (.tbl (ps ++ more))
section
variable {fs fs' ex ex':List Addr} {H H1 H2:Hp} {h h1 h2 h':Heap} {a x e:Addr} {o:HO}
theorem Un.any (u:Un fs ex H H1 h h1) {b:Addr} {ob:Obj} (q:h.get? b = some ob) (n:H b = none) (hx:b ∉ ex):∃ sl,h1.get? b = some { ob with slots:=sl }:=by
 by_cases hb:b ∈ fs
 ·exact u.slot b ob q n hb hx
 ·exact ⟨ob.slots,u.keep b ob q n hb hx⟩
theorem Un.kept (k:∀ b u,h.get? b = some u->h'.get? b = some u):Un fs ex H H h h' :=
 ⟨fun b ob q _ _ _=>k b ob q,fun b ob q _ _ _=>⟨ob.slots,k b ob q⟩,fun _ _ _ n _=>n,fun b ob q _=>⟨ob,k b ob q⟩,fun _ _ q=>q,fun _ _ _ q=>q,fun _ ps q=>⟨#[],by rw [q]; simp⟩⟩
theorem Un.refl:Un fs ex H H h h:=Un.kept fun _ _ q=>q
theorem Un.laid (k:∀ b u,h.get? b = some u->h'.get? b = some u) (hp:h.objs.size<=a) (hn:H a = none):Un fs ex H (upd H a o) h h' where
 keep:=fun b u q _ _ _=>k b u q
 slot:=fun b u q _ _ _=>⟨u.slots,k b u q⟩
 free:=fun b u q n _=>by rw [upd_ne (Nat.ne_of_lt (Nat.lt_of_lt_of_le (Heap.lt_size q) hp))]; exact n
 there:=fun b u q _=>⟨u,k b u q⟩
 tups:=fun b xs q=>by rw [upd_ne (ne_of_none q hn)]; exact q
 frzs:=fun b u xs q=>by rw [upd_ne (ne_of_none q hn)]; exact q
 tbls:=fun b ps q=>⟨#[],by rw [upd_ne (ne_of_none q hn),q]; simp⟩
theorem Un.write (mu:Mut (H x)) (he:e = x\/H e = some (.own x)) (k:∀ b u,b ≠ e->h.get? b = some u->h'.get? b = some u) (heo:∃ u,h'.get? e = some u):Un fs ex H (upd H x o) h h':=by
 have hx:∀ b,H b = none->b ≠ x:=fun b n z=>by subst z; rw [n] at mu; exact mu
 have hb:∀ b,H b = none->b ≠ e:=fun b n z=>by
  subst z
  rcases he with r | r
  ·exact hx b n r
  ·rw [n] at r; cases r
 have hm:∀ b u,H b = some u->¬ Mut (some u)->b ≠ x:=fun b u q nm z=>by subst z; rw [q] at mu; exact nm mu
 refine ⟨fun b u q n _ _=>k b u (hb b n) q,fun b u q n _ _=>⟨u.slots,k b u (hb b n) q⟩,fun b u q n _=>by rw [upd_ne (hx b n)]; exact n,fun b u q _=>?_,
  fun b xs q=>by rw [upd_ne (hm b _ q fun z=>z)]; exact q,fun b u xs q=>by rw [upd_ne (hm b _ q fun z=>z)]; exact q,fun b ps q=>⟨#[],by rw [upd_ne (hm b _ q fun z=>z),q]; simp⟩⟩
 by_cases hbe:b = e
 ·subst hbe; exact heo
 ·exact ⟨u,k b u hbe q⟩
end
noncomputable def trk (h:Heap) (H:Hp):List Addr:=(List.range h.objs.size).filter fun a=>(H a).isSome
noncomputable def hidT (h:Heap) (H:Hp):Heap:=PySem.W.hideAll h (trk h H)
theorem hidT_size (h:Heap) (H:Hp):(hidT h H).objs.size = h.objs.size:=PySem.W.hideAll_size _ _
theorem hidT_get {h:Heap} {H:Hp} {b:Addr} {o:Obj} (e:h.get? b = some o) (n:H b = none):(hidT h H).get? b = some o :=
 PySem.W.hideAll_get _ e fun hm=>by
  have q:(H b).isSome = true:=(List.mem_filter.mp hm).2
  rw [n] at q; simp at q
theorem of_hidT {h:Heap} {H:Hp} {b:Addr} {o:Obj} (e:(hidT h H).get? b = some o):h.get? b = some o/\H b = none:=by
 have e':h.get? b = some o:=PySem.W.of_hideAll (trk h H) e
 refine ⟨e',?_⟩
 cases q:H b with
 | none=>rfl
 | some x =>
  have hm:b ∈ trk h H:=List.mem_filter.mpr ⟨List.mem_range.mpr (Heap.lt_size e'),by simp [q]⟩
  have z:(hidT h H).get? b = none:=PySem.W.hideAll_none (trk h H) hm
  rw [z] at e; cases e
end L2
namespace L2
open PySem PySem.Spec PyProof.Rows
structure Mod (K:PySem.W.Frag) (mg:Str->Option Value) (base:Heap):Prop where
 kin:K.In base
 glob:base.Ns mainGlobals mg
 blt:∃ mb,base.Ns builtinsNs mb/\∀ x:Str,x ≠ "__name__"->mb x = bootBuiltins x
 nolimit:base.NoLimit
structure Cx where
 prog:Program
 w:World
 K:PySem.W.Frag
 mg:Str->Option Value
 base:Heap
 A:Around
 N:List Str
 s₀:Shared
 H₀:Hp
 env:Env
 outer:List Env
 stack:List Env
 ex:List Addr
 fn:Str->Bool
 calm:Bool
 pn:List (Addr × Obj)
 xe:Value->Shared->Prop
noncomputable def frs (l:List Env):List Addr:=l.filterMap (·.frame)
noncomputable abbrev Cx.fs (X:Cx):List Addr:=frs X.outer
noncomputable def Vis (sc:Scope) (x:Str):Prop:=sc.names.lookup x = some .local\/sc.names.lookup x = some .cell\/sc.names.lookup x = some .free
noncomputable def Loc (sc:Scope) (x:Str):Prop:=sc.names.lookup x = some .local\/sc.names.lookup x = some .cell
noncomputable def Look (env:Env) (h:Heap) (m:Str->Option Value) (x:Str) (u:Value):Prop :=
 (env.kindOf x = some .local/\m x = some u)\/((env.kindOf x = some .cell\/env.kindOf x = some .free)/\∃ c,env.cells.lookup x = some c/\h.IsCell c (some u))
structure Cx.Ok (X:Cx):Prop where
 mod:Mod X.K X.mg X.base
 kind:X.env.scope.kind = .function
 glob:X.env.globals = mainGlobals
 blt:X.env.builtins = builtinsNs
 above:X.s₀.heap.objs.size<=X.env.locals
 inj:∀ x y c,X.env.cells.lookup x = some c->X.env.cells.lookup y = some c->x = y
 has:∀ x,(X.env.kindOf x = some .cell\/X.env.kindOf x = some .free)->∃ c,X.env.cells.lookup x = some c
 cab:∀ x c,X.fn x = true->X.env.cells.lookup x = some c->X.s₀.heap.objs.size<=c
 hd:X.calm = true->X.A.handled = none
 frames:X.A.frames = some X.stack
 stk:X.stack = X.outer\/(X.stack = X.env :: X.outer/\X.env.frame = some X.env.locals)
 exf:∀ b ∈ X.ex,b ≠ X.env.locals/\∀ x c,X.env.cells.lookup x = some c->c ≠ b
 bs:∀ b o,X.base.get? b = some o->X.s₀.heap.get? b = some o/\X.H₀ b = none
 bsz:X.base.objs.size<=X.s₀.heap.objs.size
 noex:∀ b o,X.base.get? b = some o->b ∉ X.ex
 exfs:∀ b ∈ X.ex,b ∉ X.fs
 funs:X.s₀.heap.FunFrames X.base X.outer
 frf:∀ b ∈ X.fs,X.H₀ b = none
structure Inv (X:Cx) (pins:List (Addr × Obj)) (σ:List (Option V)) (H:Hp) (s:Shared):Prop where
 ok:X.Ok
 os:s.os = X.s₀.os
 bare:AllBare s.gens
 base:Un X.fs X.ex X.H₀ H X.s₀.heap s.heap
 loc:∃ m,s.heap.Ns X.env.locals m/\∀ (i:Nat) (x:Str) (v:V),X.N[i]? = some x->σ[i]? = some (some v)->Vis X.env.scope x->∃ u,RelV v u/\Look X.env s.heap m x u
 cell:∀ x c,X.env.cells.lookup x = some c->∃ v,s.heap.IsCell c v
 free:H X.env.locals = none
 freeC:∀ x c,X.env.cells.lookup x = some c->H c = none
 pin:∀ p ∈ X.pn ++ pins,s.heap.get? p.1 = some p.2/\H p.1 = none/\p.1 ≠ X.env.locals/\p.1 ∉ X.fs/\∀ v,p.2.data ≠ .cell v
 hok:HOk X.prog X.w H s.heap
 len:σ.length = X.N.length
section
variable {X:Cx} {pins:List (Addr × Obj)} {σ:List (Option V)} {H H':Hp} {s:Shared} {h':Heap}
theorem Cx.Ok.nofr (ok:X.Ok) {b:Addr} {o:Obj} (e:X.base.get? b = some o):b ∉ X.fs:=fun hb=>by
 have:=(ok.funs.mem hb).1
 rw [e] at this; cases this
theorem Inv.bs (I:Inv X pins σ H s):∀ b o,X.base.get? b = some o->s.heap.get? b = some o/\H b = none:=fun b o e =>
 ⟨I.base.keep b o (I.ok.bs b o e).1 (I.ok.bs b o e).2 (I.ok.nofr e) (I.ok.noex b o e),I.base.free b o (I.ok.bs b o e).1 (I.ok.bs b o e).2 (I.ok.noex b o e)⟩
theorem Inv.bk (I:Inv X pins σ H s):∀ b o,X.base.get? b = some o->s.heap.get? b = some o:=fun b o e=>(I.bs b o e).1
theorem Inv.mod (I:Inv X pins σ H s):Mod X.K X.mg X.base:=I.ok.mod
theorem Inv.kIn (I:Inv X pins σ H s):X.K.In s.heap:=I.ok.mod.kin.keeps I.bk
theorem Inv.lt (I:Inv X pins σ H s):X.env.locals < s.heap.objs.size:=let ⟨_,hn,_⟩:=I.loc; hn.lt
theorem Inv.sz (I:Inv X pins σ H s):X.s₀.heap.objs.size<=s.heap.objs.size:=Nat.le_trans I.ok.above (Nat.le_of_lt I.lt)
theorem Inv.nofs (I:Inv X pins σ H s) {a:Addr} (h:s.heap.objs.size<=a):a ∉ X.fs:=fun hb=>by
 obtain ⟨_,o,ho,_⟩:=I.ok.funs.mem hb
 exact absurd (Nat.lt_of_lt_of_le (Heap.lt_size ho) (Nat.le_trans I.sz h)) (Nat.lt_irrefl _)
theorem Inv.cne (I:Inv X pins σ H s):∀ x c,X.env.cells.lookup x = some c->c ≠ X.env.locals:=fun x c e z=>by
 obtain ⟨v,o,ho,hd⟩:=I.cell x c e
 obtain ⟨m,⟨o',es,ep,ho',hd',_⟩,_⟩:=I.loc
 rw [z,ho'] at ho; cases ho; rw [hd'] at hd; cases hd
theorem Inv.funs (I:Inv X pins σ H s):s.heap.FunFrames X.base X.outer:=by
 have all:∀ (l:List Env),(∀ b ∈ frs l,b ∈ X.fs)->X.s₀.heap.FunFrames X.base l->s.heap.FunFrames X.base l:=by
  intro l
  induction l with
  | nil=>intro _ _; trivial
  | cons env r ih =>
   intro hs hl
   obtain ⟨hk,⟨L,o,hf,hn,ho,hd⟩,hr⟩:=hl
   have hL:L ∈ X.fs:=hs L (by unfold frs; rw [List.filterMap_cons,hf]; exact List.mem_cons_self)
   obtain ⟨sl,e⟩:=I.base.slot L o ho (I.ok.frf L hL) hL fun z=>I.ok.exfs L z hL
   exact ⟨hk,⟨L,_,hf,hn,e,hd⟩,ih (fun b hb=>hs b (by unfold frs; rw [List.filterMap_cons,hf]; exact List.mem_cons_of_mem _ hb)) hr⟩
 exact all X.outer (fun _ hb=>hb) I.ok.funs
theorem Inv.stack (I:Inv X pins σ H s):s.heap.FunFrames X.base X.stack:=by
 rcases I.ok.stk with e | ⟨e,hf⟩
 ·rw [e]; exact I.funs
 ·rw [e]
  obtain ⟨m,hn,_⟩:=I.loc
  refine .cons (by rw [I.ok.kind]; decide) hf hn ?_ I.funs
  exact Heap.get?_none_of_le (Nat.le_trans I.ok.bsz I.ok.above)
theorem Inv.stkSub (I:Inv X pins σ H s):∀ b ∈ frs X.stack,b ∈ X.env.locals :: X.fs:=fun b hb=>by
 rcases I.ok.stk with e | ⟨e,hf⟩
 ·rw [e] at hb; exact List.mem_cons_of_mem _ hb
 ·rw [e] at hb
  unfold frs at hb
  rw [List.filterMap_cons,hf] at hb
  exact hb
theorem Inv.stkFree (I:Inv X pins σ H s):∀ b ∈ frs X.stack,H b = none:=fun b hb=>by
 rcases List.mem_cons.mp (I.stkSub b hb) with e | hb
 ·rw [e]; exact I.free
 ·obtain ⟨_,o,ho,_⟩:=I.ok.funs.mem hb
  exact I.base.free b o ho (I.ok.frf b hb) fun z=>I.ok.exfs b z hb
theorem Inv.step {g':Array GenState} {t':Nat} {d':Drawn} {ch:List Addr} (I:Inv X pins σ H s)
  (hch:∀ b ∈ ch,(b ∈ X.ex\/X.s₀.heap.objs.size<=b)/\b ≠ X.env.locals/\(∀ x c,X.env.cells.lookup x = some c->c ≠ b)/\∀ p ∈ X.pn ++ pins,p.1 ≠ b)
  (keep:∀ b o,b ≠ X.env.locals->b ∉ X.fs->b ∉ ch->s.heap.get? b = some o->H b = none->h'.get? b = some o)
  (slot:∀ b o,b ≠ X.env.locals->b ∈ X.fs->b ∉ ch->s.heap.get? b = some o->H b = none->∃ sl,h'.get? b = some { o with slots:=sl }) (free:∀ b o,b ∉ ch->s.heap.get? b = some o->H b = none->H' b = none)
  (there:∀ b o,b ∉ ch->s.heap.get? b = some o->∃ o',h'.get? b = some o')
  (tups:∀ b xs,H b = some (.tup xs)->H' b = some (.tup xs)) (frzs:∀ b o u,H b = some (.frz o u)->H' b = some (.frz o u)) (tbls:∀ b ps,H b = some (.tbl ps)->∃ more,H' b = some (.tbl (ps ++ more)))
  (ns:∀ m,s.heap.Ns X.env.locals m->h'.Ns X.env.locals m) (hok:HOk X.prog X.w H' h') (hg:AllBare g') :
  Inv X pins σ H' { s with heap:=h',gens:=g',drawn:=d',toks:=t' }:=by
 have neL:∀ b o,X.s₀.heap.get? b = some o->b ≠ X.env.locals:=fun b o e=>Nat.ne_of_lt (Nat.lt_of_lt_of_le (Heap.lt_size e) I.ok.above)
 have neC:∀ b o,X.s₀.heap.get? b = some o->b ∉ X.ex->b ∉ ch:=fun b o e hx hb=>by
  rcases (hch b hb).1 with z | z
  ·exact hx z
  ·exact absurd (Nat.lt_of_lt_of_le (Heap.lt_size e) z) (Nat.lt_irrefl _)
 have cellK:∀ x c,X.env.cells.lookup x = some c->∀ v,s.heap.IsCell c v->h'.IsCell c v:=fun x c e v ⟨o,ho,hd⟩=>by
  have nch:c ∉ ch:=fun z=>(hch c z).2.2.1 x c e rfl
  by_cases hc:c ∈ X.fs
  ·obtain ⟨sl,q⟩:=slot c o (I.cne x c e) hc nch ho (I.freeC x c e)
   exact ⟨_,q,hd⟩
  ·exact ⟨o,keep c o (I.cne x c e) hc nch ho (I.freeC x c e),hd⟩
 refine ⟨I.ok,I.os,hg,⟨fun b o e n hb hx=>?_,fun b o e n hb hx=>?_,fun b o e n hx=>?_,fun b o e hx=>?_,fun b xs e=>tups b xs (I.base.tups b xs e),fun b o xs e=>frzs b o xs (I.base.frzs b o xs e),fun b ps e=>?_⟩,?_,fun x c e=>?_,?_,fun x c e=>?_,fun p hp=>?_,hok,I.len⟩
 ·exact keep b o (neL b o e) hb (neC b o e hx) (I.base.keep b o e n hb hx) (I.base.free b o e n hx)
 ·obtain ⟨sl,e1⟩:=I.base.slot b o e n hb hx
  obtain ⟨sl',e2⟩:=slot b _ (neL b o e) hb (neC b o e hx) e1 (I.base.free b o e n hx)
  exact ⟨sl',e2⟩
 ·obtain ⟨o',e1⟩:=I.base.there b o e hx
  exact free b o' (neC b o e hx) e1 (I.base.free b o e n hx)
 ·obtain ⟨o',e1⟩:=I.base.there b o e hx
  exact there b o' (neC b o e hx) e1
 ·obtain ⟨m1,e1⟩:=I.base.tbls b ps e
  obtain ⟨m2,e2⟩:=tbls b _ e1
  exact ⟨m1 ++ m2,by rw [e2,Array.append_assoc]⟩
 ·obtain ⟨m,hn,hl⟩:=I.loc
  refine ⟨m,ns m hn,fun i x v e1 e2 e3=>?_⟩
  obtain ⟨u,r,l⟩:=hl i x v e1 e2 e3
  refine ⟨u,r,?_⟩
  rcases l with l | ⟨k,c,e,z⟩
  ·exact .inl l
  ·exact .inr ⟨k,c,e,cellK x c e _ z⟩
 ·obtain ⟨v,z⟩:=I.cell x c e
  exact ⟨v,cellK x c e v z⟩
 ·obtain ⟨m,⟨o,_,_,ho,_⟩,_⟩:=I.loc
  exact free _ o (fun z=>(hch _ z).2.1 rfl) ho I.free
 ·obtain ⟨v,o,ho,hd⟩:=I.cell x c e
  exact free c o (fun z=>(hch c z).2.2.1 x c e rfl) ho (I.freeC x c e)
 ·obtain ⟨e,n,ne,nf,d⟩:=I.pin p hp
  have nch:p.1 ∉ ch:=fun z=>(hch p.1 z).2.2.2 p hp rfl
  exact ⟨keep p.1 p.2 ne nf nch e n,free p.1 p.2 nch e n,ne,nf,d⟩
theorem Inv.un {t':Nat} (I:Inv X pins σ H s) (u:Un X.fs [] H H' s.heap h') (hok:HOk X.prog X.w H' h'):Inv X pins σ H' { s with heap:=h',toks:=t' }:=by
 obtain ⟨m,⟨o,es,ep,ho,r⟩,_⟩:=id I.loc
 obtain ⟨sl,hL⟩:=u.any ho I.free (by simp)
 exact I.step (g':=s.gens) (d':=s.drawn) (ch:=[]) (fun _ z=>nomatch z) (fun b o _ hb _ e n=>u.keep b o e n hb (by simp)) (fun b o _ hb _ e n=>u.slot b o e n hb (by simp)) (fun b o _ e n=>u.free b o e n (by simp)) (fun b o _ e=>u.there b o e (by simp)) u.tups u.frzs u.tbls (fun m' hm=>by
  obtain ⟨o',es',ep',ho',r'⟩:=hm
  rw [ho] at ho'; cases ho'
  exact ⟨_,es',ep',hL,r'⟩) hok I.bare
theorem Inv.call {g':Array GenState} {t':Nat} {d':Drawn} {ch:List Addr} (I:Inv X pins σ H s) (u:Un (frs X.stack) ch H H' s.heap h') (hok:HOk X.prog X.w H' h') (hg:AllBare g')
  (hch:∀ b ∈ ch,(b ∈ X.ex\/X.s₀.heap.objs.size<=b)/\b ≠ X.env.locals/\(∀ x c,X.env.cells.lookup x = some c->c ≠ b)/\∀ p ∈ X.pn ++ pins,p.1 ≠ b) :
  Inv X pins σ H' { s with heap:=h',gens:=g',drawn:=d',toks:=t' }:=by
 obtain ⟨m,⟨o,es,ep,ho,r⟩,_⟩:=id I.loc
 obtain ⟨sl,hL⟩:=u.any ho I.free fun z=>(hch _ z).2.1 rfl
 exact I.step (ch:=ch) hch (fun b o hL hb hc e n=>u.keep b o e n (fun z=>(List.mem_cons.mp (I.stkSub b z)).elim hL hb) hc) (fun b o _ _ hc e n=>u.any e n hc) (fun b o hc e n=>u.free b o e n hc) (fun b o hc e=>u.there b o e hc) u.tups u.frzs u.tbls (fun m' hm=>by
  obtain ⟨o',es',ep',ho',r'⟩:=hm
  rw [ho] at ho'; cases ho'
  exact ⟨_,es',ep',hL,r'⟩) hok hg
theorem Inv.turned {t':Nat} {it:Addr} (I:Inv X pins σ H s) (k:∀ b o,b ≠ it->s.heap.get? b = some o->h'.get? b = some o) (hn:H it = none) (hL:it ≠ X.env.locals)
  (h1:it ∈ X.ex\/X.s₀.heap.objs.size<=it) (h2:∀ x c,X.env.cells.lookup x = some c->c ≠ it) (h3:∀ p ∈ X.pn ++ pins,p.1 ≠ it):Inv X pins σ H { s with heap:=h',toks:=t' }:=by
 have nit:∀ b u,H b = some u->b ≠ it:=fun b u e z=>by rw [z,hn] at e; cases e
 refine I.step (g':=s.gens) (d':=s.drawn) (ch:=[it]) (fun b hb=>?_) (fun b o _ _ hc e _=>k b o (fun z=>hc (by simp [z])) e) (fun b o _ _ hc e _=>⟨o.slots,k b o (fun z=>hc (by simp [z])) e⟩) (fun _ _ _ _ n=>n)
  (fun b o hc e=>⟨o,k b o (fun z=>hc (by simp [z])) e⟩) (fun _ _ e=>e) (fun _ _ _ e=>e) (fun b ps e=>⟨#[],by rw [e]; simp⟩) (fun m hm=>?_) (fun b u e=>?_) I.bare
 ·have e:b = it:=by simpa using hb
  subst e
  exact ⟨h1,hL,h2,h3⟩
 ·obtain ⟨o,es,ep,ho,r⟩:=hm
  exact ⟨o,es,ep,k _ o (Ne.symm hL) ho,r⟩
 ·refine (I.hok b u e).stay (fun c v hc q=>k c v ?_ q) (fun _ q=>q) fun _ _ q=>q
  rcases hc with z | z
  ·rw [z]; exact nit b u e
  ·exact nit c _ z
theorem Inv.tok (I:Inv X pins σ H s) (t:Nat):Inv X pins σ H { s with toks:=t }:=I.un (h':=s.heap) (t':=t) Un.refl I.hok
theorem Inv.kept {t':Nat} (I:Inv X pins σ H s) (k:∀ b u,s.heap.get? b = some u->h'.get? b = some u):Inv X pins σ H { s with heap:=h',toks:=t' }:=I.un (Un.kept k) (I.hok.kept k)
theorem Inv.laid {a:Addr} {o:HO} {t':Nat} (I:Inv X pins σ H s) (k:∀ b u,s.heap.get? b = some u->h'.get? b = some u) (hp:s.heap.objs.size<=a) (new:ObjOk X.prog X.w (upd H a o) h' a o) :
  Inv X pins σ (upd H a o) { s with heap:=h',toks:=t' }:=I.un (Un.laid k hp (I.hok.fresh hp)) (I.hok.laid k hp new)
theorem Inv.write {x e:Addr} {o:HO} {t':Nat} (I:Inv X pins σ H s) (mu:Mut (H x)) (he:e = x\/H e = some (.own x)) (k:∀ b u,b ≠ e->s.heap.get? b = some u->h'.get? b = some u) (heo:∃ u,h'.get? e = some u)
  (new:ObjOk X.prog X.w (upd H x o) h' x o):Inv X pins σ (upd H x o) { s with heap:=h',toks:=t' }:=I.un (Un.write mu he k heo) (I.hok.write mu he k heo new)
theorem Inv.pins_of {pins':List (Addr × Obj)} (I:Inv X pins σ H s) (h:∀ p ∈ pins',s.heap.get? p.1 = some p.2/\H p.1 = none/\p.1 ≠ X.env.locals/\p.1 ∉ X.fs/\∀ v,p.2.data ≠ .cell v):Inv X pins' σ H s :=
 ⟨I.ok,I.os,I.bare,I.base,I.loc,I.cell,I.free,I.freeC,fun p hp=>(List.mem_append.mp hp).elim (fun z=>I.pin p (List.mem_append_left _ z)) (h p),I.hok,I.len⟩
theorem nodup_ix {N:List Str} (hN:N.Nodup) {i j:Nat} {x:Str} (a:N[i]? = some x) (b:N[j]? = some x):i = j:=by
 obtain ⟨h1,e1⟩:=List.getElem?_eq_some_iff.mp a
 obtain ⟨h2,e2⟩:=List.getElem?_eq_some_iff.mp b
 exact (List.getElem_inj hN).mp (e1.trans e2.symm)
theorem store_ok2 {M:Model} {A:Around} {E:Value->Shared->Prop} {i:Nat} {x:Str} {v:V} {u:Value} {Q:Unit->Shared->Prop} (I:Inv X pins σ H s) (hN:X.N.Nodup) (hi:X.N[i]? = some x) (hx:Loc X.env.scope x) (r:RelV v u)
  (h:∀ s',Inv X pins (σ.set i (some v)) H s'->(∃ a,Heap.SameBut a s.heap s'.heap/\(a = X.env.locals\/X.env.cells.lookup x = some a))->Q () s') (hf:X.fn x = true\/X.env.scope.names.lookup x = some .local:=by first | exact .inl rfl | exact .inr rfl | assumption):wpAny M A (storeName X.env x u) Q E s:=by
 obtain ⟨m,hn,hl⟩:=id I.loc
 have hcls:(X.env.scope.kind == .class || (X.env.scope.kind == .module && X.env.locals != X.env.globals)) = false:=by rw [I.ok.kind]; rfl
 have hiσ:i < σ.length:=by rw [I.len]; exact (List.getElem?_eq_some_iff.mp hi).1
 have cne:=I.cne
 have tracked:∀ {a:Addr} {h':Heap},(∃ o,s.heap.get? a = some o/\H a = none)->Heap.SameBut a s.heap h'->HOk X.prog X.w H h':=fun {a h'} ha hs b ob e=>by
  obtain ⟨_,_,hfree⟩:=ha
  refine (I.hok b ob e).stay (fun c w' hc q=>(hs.2 c ?_).trans q) (fun _ q=>q) fun _ _ q=>q
  rintro rfl
  rcases hc with rfl | hc
  ·rw [hfree] at e; cases e
  ·rw [hfree] at hc; cases hc
 rcases hx with hk | hk
 ·refine wpAny_storeName_local hk hn (fun h' hn' hs=>?_) hcls
  obtain ⟨oL,_,_,hoL,_⟩:=id hn
  refine h _ ⟨I.ok,I.os,I.bare,⟨fun b o e n hb hx=>?_,fun b o e n hb hx=>?_,I.base.free,fun b o e hx=>?_,I.base.tups,I.base.frzs,I.base.tbls⟩,⟨_,hn',fun j y v' e1 e2 e3=>?_⟩,fun y c e=>?_,I.free,I.freeC,fun p hp=>?_,tracked ⟨oL,hoL,I.free⟩ hs,by simpa using I.len⟩ ⟨_,hs,.inl rfl⟩
  ·exact (hs.2 b (Nat.ne_of_lt (Nat.lt_of_lt_of_le (Heap.lt_size e) I.ok.above))).trans (I.base.keep b o e n hb hx)
  ·obtain ⟨sl,e1⟩:=I.base.slot b o e n hb hx
   exact ⟨sl,(hs.2 b (Nat.ne_of_lt (Nat.lt_of_lt_of_le (Heap.lt_size e) I.ok.above))).trans e1⟩
  ·obtain ⟨o',e1⟩:=I.base.there b o e hx
   exact ⟨o',(hs.2 b (Nat.ne_of_lt (Nat.lt_of_lt_of_le (Heap.lt_size e) I.ok.above))).trans e1⟩
  ·by_cases hj:j = i
   ·subst hj
    rw [hi] at e1; cases e1
    rw [List.getElem?_set_self hiσ] at e2
    cases e2
    exact ⟨u,r,.inl ⟨hk,by simp⟩⟩
   ·rw [List.getElem?_set_ne (Ne.symm hj)] at e2
    obtain ⟨u',r',q⟩:=hl j y v' e1 e2 e3
    refine ⟨u',r',?_⟩
    rcases q with ⟨k,e⟩ | ⟨k,c,e,z⟩
    ·refine .inl ⟨k,?_⟩
     have:y ≠ x:=fun e=>hj (nodup_ix hN e1 (e ▸ hi))
     simp [this,e]
    ·exact .inr ⟨k,c,e,z.sameBut hs (cne y c e)⟩
  ·obtain ⟨w',z⟩:=I.cell y c e
   exact ⟨w',z.sameBut hs (cne y c e)⟩
  ·obtain ⟨e,n,ne,nf,d⟩:=I.pin p hp
   exact ⟨(hs.2 p.1 ne).trans e,n,ne,nf,d⟩
 ·have hfn:X.fn x = true:=by
   rcases hf with z | z
   ·exact z
   ·rw [z] at hk; cases hk
  obtain ⟨c,hc⟩:=I.ok.has x (.inl hk)
  obtain ⟨w',z⟩:=I.cell x c hc
  refine wpAny_storeName_cell I.ok.kind hk hc z (fun h' hc' hs=>?_)
  obtain ⟨oc,hoc,hocd⟩:=id z
  refine h { s with heap:=h' } ⟨I.ok,I.os,I.bare,⟨fun b o e n hb hx=>?_,fun b o e n hb hx=>?_,I.base.free,fun b o e hx=>?_,I.base.tups,I.base.frzs,I.base.tbls⟩,⟨m,hn.sameBut hs (Ne.symm (cne x c hc)),fun j y v' e1 e2 e3=>?_⟩,fun y c' e=>?_,I.free,I.freeC,fun p hp=>?_,tracked ⟨oc,hoc,I.freeC x c hc⟩ hs,by simpa using I.len⟩ ⟨c,hs,.inr hc⟩
  ·exact (hs.2 b (Nat.ne_of_lt (Nat.lt_of_lt_of_le (Heap.lt_size e) (I.ok.cab x c hfn hc)))).trans (I.base.keep b o e n hb hx)
  ·obtain ⟨sl,e1⟩:=I.base.slot b o e n hb hx
   exact ⟨sl,(hs.2 b (Nat.ne_of_lt (Nat.lt_of_lt_of_le (Heap.lt_size e) (I.ok.cab x c hfn hc)))).trans e1⟩
  ·obtain ⟨o',e1⟩:=I.base.there b o e hx
   exact ⟨o',(hs.2 b (Nat.ne_of_lt (Nat.lt_of_lt_of_le (Heap.lt_size e) (I.ok.cab x c hfn hc)))).trans e1⟩
  ·by_cases hj:j = i
   ·subst hj
    rw [hi] at e1; cases e1
    rw [List.getElem?_set_self hiσ] at e2
    cases e2
    exact ⟨u,r,.inr ⟨.inl hk,c,hc,hc'⟩⟩
   ·rw [List.getElem?_set_ne (Ne.symm hj)] at e2
    obtain ⟨u',r',q⟩:=hl j y v' e1 e2 e3
    refine ⟨u',r',?_⟩
    rcases q with q | ⟨k,c',e,z'⟩
    ·exact .inl q
    ·refine .inr ⟨k,c',e,z'.sameBut hs ?_⟩
     rintro rfl
     exact hj (nodup_ix hN e1 (I.ok.inj _ _ _ e hc ▸ hi))
  ·by_cases hcc:c' = c
   ·subst hcc; exact ⟨_,hc'⟩
   ·obtain ⟨w2,z2⟩:=I.cell y c' e
    exact ⟨w2,z2.sameBut hs hcc⟩
  ·obtain ⟨e,n,ne,nf,d⟩:=I.pin p hp
   refine ⟨(hs.2 p.1 ?_).trans e,n,ne,nf,d⟩
   intro q
   rw [q,hoc] at e
   have q':oc = p.2:=Option.some.inj e
   exact d w' (by rw [<-q']; exact hocd)
theorem store_ok {M:Model} {A:Around} {E:Value->Shared->Prop} {i:Nat} {x:Str} {v:V} {u:Value} {Q:Unit->Shared->Prop} (I:Inv X pins σ H s) (hN:X.N.Nodup) (hi:X.N[i]? = some x) (hx:Loc X.env.scope x) (r:RelV v u)
  (h:∀ s',Inv X pins (σ.set i (some v)) H s'->Q () s') (hf:X.fn x = true\/X.env.scope.names.lookup x = some .local:=by first | exact .inl rfl | exact .inr rfl | assumption):wpAny M A (storeName X.env x u) Q E s :=
 store_ok2 I hN hi hx r (fun s' I' _=>h s' I') hf
theorem Inv.call' {s':Shared} {ch:List Addr} (I:Inv X pins σ H s) (ho:s'.os = s.os) (u:Un (frs X.stack) ch H H' s.heap s'.heap) (hok:HOk X.prog X.w H' s'.heap) (hg:AllBare s'.gens)
  (hch:∀ b ∈ ch,(b ∈ X.ex\/X.s₀.heap.objs.size<=b)/\b ≠ X.env.locals/\(∀ x c,X.env.cells.lookup x = some c->c ≠ b)/\∀ p ∈ X.pn ++ pins,p.1 ≠ b):Inv X pins σ H' s':=by
 obtain ⟨h',g',d',t',o'⟩:=s'
 have e:o' = s.os:=ho
 subst e
 exact I.call (g':=g') (t':=t') (d':=d') u hok hg hch
end
noncomputable abbrev XK:=Value->Option Addr->Hp->Prop
noncomputable abbrev St:=List (Option V)
noncomputable abbrev VK:=V->Hp->Prop
noncomputable abbrev TE:=St->Hp->VK->Prop
noncomputable abbrev TT:=St->Hp->(Bool->Hp->Prop)->Prop
noncomputable abbrev TA:=St->Hp->(List V->Hp->Prop)->Prop
structure Ends where
 nx:St->Hp->Prop
 rt:VK
 bk:St->Hp->Prop:=fun _ _=>False
 ct:St->Hp->Prop:=fun _ _=>False
noncomputable abbrev TS:=Ends->St->Hp->Prop
noncomputable def EP (X:Cx) (pins:List (Addr × Obj)) (σ:St) (Q:VK) (u:Value) (s':Shared):Prop:=∃ v H',Inv X pins σ H' s'/\RelV v u/\Q v H'
noncomputable def TP (X:Cx) (pins:List (Addr × Obj)) (σ:St) (Q:Bool->Hp->Prop) (b:Bool) (s':Shared):Prop:=∃ H',Inv X pins σ H' s'/\Q b H'
noncomputable def AP (X:Cx) (pins:List (Addr × Obj)) (σ:St) (Q:List V->Hp->Prop) (us:List Value) (s':Shared):Prop:=∃ vs H',Inv X pins σ H' s'/\Vals vs us/\Q vs H'
noncomputable def SP (X:Cx) (pins:List (Addr × Obj)) (D:Ends) (f:Flow) (s':Shared):Prop :=
 match f with
 | .next=>∃ σ' H',Inv X pins σ' H' s'/\D.nx σ' H'
 | .brk=>∃ σ' H',Inv X pins σ' H' s'/\D.bk σ' H'
 | .cont=>∃ σ' H',Inv X pins σ' H' s'/\D.ct σ' H'
 | .ret u=>∃ v σ' H',Inv X pins σ' H' s'/\RelV v u/\D.rt v H'
noncomputable def PE (X:Cx) (e:Expr) (t:TE):Prop :=
 ∀ (pins:List (Addr × Obj)) (s:Shared) (σ:St) (H:Hp) (Q:VK),Inv X pins σ H s->t σ H Q->wpAny (model X.prog X.w) X.A (eval e X.env) (EP X pins σ Q) X.xe s
noncomputable def PT (X:Cx) (e:Expr) (t:TT):Prop :=
 ∀ (pins:List (Addr × Obj)) (s:Shared) (σ:St) (H:Hp) (Q:Bool->Hp->Prop),Inv X pins σ H s->t σ H Q->wpAny (model X.prog X.w) X.A (isTrue e X.env (eval e X.env)) (TP X pins σ Q) X.xe s
noncomputable def PW (X:Cx) (e:Expr) (t:TT):Prop :=
 ∀ (whole:Sem Value) (pins:List (Addr × Obj)) (s:Shared) (σ:St) (H:Hp) (Q:Bool->Hp->Prop),Inv X pins σ H s->t σ H Q->wpAny (model X.prog X.w) X.A (isTrue e X.env whole) (TP X pins σ Q) X.xe s
theorem PW.pt {X:Cx} {e:Expr} {t:TT} (h:PW X e t):PT X e t:=h _
noncomputable def PA (X:Cx) (es:List Expr) (t:TA):Prop :=
 ∀ (pos:Pos) (pins:List (Addr × Obj)) (s:Shared) (σ:St) (H:Hp) (Q:List V->Hp->Prop),Inv X pins σ H s->t σ H Q->wpAny (model X.prog X.w) X.A (spliced (backTo pos (starEach es X.env))) (AP X pins σ Q) X.xe s
noncomputable def PS (X:Cx) (st:Stmt) (t:TS):Prop :=
 ∀ (pins:List (Addr × Obj)) (s:Shared) (σ:St) (H:Hp) (D:Ends),Inv X pins σ H s->t D σ H->wpAny (model X.prog X.w) X.A (exec st X.env) (SP X pins D) X.xe s
noncomputable def PSs (X:Cx) (st:List Stmt) (t:TS):Prop :=
 ∀ (pins:List (Addr × Obj)) (s:Shared) (σ:St) (H:Hp) (D:Ends),Inv X pins σ H s->t D σ H->wpAny (model X.prog X.w) X.A (execs st X.env) (SP X pins D) X.xe s
theorem thn {α:Type} {t:Sem α} {Q Q':α->Shared->Prop} {M:Model} {A:Around} {E:Value->Shared->Prop} {s:Shared} (h:wpAny M A t Q E s) (hQ:∀ a s,Q a s->Q' a s):wpAny M A t Q' E s:=wpAny_mono h hQ fun _ _ x=>x
end L2
namespace L2
open PySem PySem.Spec PyProof.Rows
section
variable {X:Cx}
noncomputable def tVar (i:Nat):TE:=fun σ H Q=>∃ v,σ[i]? = some (some v)/\Q v H
noncomputable def tC (v:V):TE:=fun _ H Q=>Q v H
theorem pe_var {i:Nat} {x:Str} {pos:Pos} (hN:X.N[i]? = some x) (hv:Vis X.env.scope x) (hd:(x == ("__debug__":Str)) = false:=by decide) (hcd:(x == ("__classdict__":Str)) = false:=by decide):PE X (.Name x pos) (tVar i):=by
 intro pins s σ H Q I h
 obtain ⟨v,e,h⟩:=h
 obtain ⟨m,hn,hl⟩:=I.loc
 obtain ⟨u,r,l⟩:=hl i x v hN e hv
 have fin:EP X pins σ Q u s:=⟨v,H,I,r,h⟩
 rcases l with ⟨hk,hm⟩ | ⟨hk,c,hc,hcell⟩
 ·exact wpAny_Name (wpAny_loadName_local I.ok.kind hk hn hm fin) hd
 ·rcases hk with hk | hk
  ·exact wpAny_Name (wpAny_loadName_cell I.ok.kind hk hc hcell fin) hd
  ·exact wpAny_Name (wpAny_loadName_free I.ok.kind hk hc hcell fin hcd) hd
theorem pe_int {i j pos}:PE X (.Constant (.int i) j pos) (tC (.int i)):=fun _ _ _ H _ I h=>wpAny_Constant_int ⟨.int i,H,I.tok _,⟨_,rfl⟩,h⟩
theorem pe_bl {b j pos}:PE X (.Constant (.bool b) j pos) (tC (.bl b)):=fun _ _ _ H _ I h=>Constant_bool ⟨.bl b,H,I,rfl,h⟩
theorem pe_non {j pos}:PE X (.Constant .none j pos) (tC .non):=fun _ _ _ H _ I h=>Constant_none ⟨.non,H,I,rfl,h⟩
theorem pe_str {x j pos}:PE X (.Constant (.str x) j pos) (tC (.str x)):=fun _ _ _ H _ I h=>Calls.Constant_str ⟨.str x,H,I.tok _,⟨_,rfl⟩,h⟩
noncomputable def Gl (X:Cx) (x:Str):Prop:=X.env.kindOf x = some .globalImplicit
theorem ld_glob {E:Value->Shared->Prop} {pins:List (Addr × Obj)} {s:Shared} {σ:St} {H:Hp} {x:Str} {u:Value} {pos:Pos} {Q:Value->Shared->Prop} (I:Inv X pins σ H s) (hg:Gl X x) (hm:X.mg x = some u) (h:Q u s)
  (hd:(x == ("__debug__":Str)) = false:=by decide):wpAny (model X.prog X.w) X.A (eval (.Name x pos) X.env) Q E s :=
 Calls.Name_function_global I.ok.kind hg (Calls.loadGlobal_global (by rw [I.ok.glob]; exact I.mod.glob.keeps I.bk) hm h) hd
theorem ld_blt {E:Value->Shared->Prop} {pins:List (Addr × Obj)} {s:Shared} {σ:St} {H:Hp} {x:Str} {u:Value} {pos:Pos} {Q:Value->Shared->Prop} (I:Inv X pins σ H s) (hg:Gl X x) (hm:X.mg x = none) (hv:bootBuiltins x = some u) (h:Q u s)
  (hn:x ≠ "__name__":=by decide) (hd:(x == ("__debug__":Str)) = false:=by decide):wpAny (model X.prog X.w) X.A (eval (.Name x pos) X.env) Q E s:=by
 obtain ⟨mb,h1,h2⟩:=I.mod.blt
 exact Calls.Name_function_global I.ok.kind hg (Calls.loadGlobal_builtin (by rw [I.ok.glob]; exact I.mod.glob.keeps I.bk) hm (by rw [I.ok.blt]; exact h1.keeps I.bk) ((h2 x hn).trans hv) h) hd
theorem pe_glob {x:Str} {v:V} {u:Value} {pos:Pos} (hg:Gl X x) (hm:X.mg x = some u) (r:RelV v u) (hd:(x == ("__debug__":Str)) = false:=by decide):PE X (.Name x pos) (tC v) :=
 fun _ _ _ H _ I h=>ld_glob I hg hm ⟨v,H,I,r,h⟩ hd
theorem pe_bltn {x:Str} {v:V} {u:Value} {pos:Pos} (hg:Gl X x) (hm:X.mg x = none) (hv:bootBuiltins x = some u) (r:RelV v u) (hn:x ≠ "__name__":=by decide) (hd:(x == ("__debug__":Str)) = false:=by decide):PE X (.Name x pos) (tC v) :=
 fun _ _ _ H _ I h=>ld_blt I hg hm hv ⟨v,H,I,r,h⟩ hn hd
variable {a b:Expr} {ta tb:TE} {pos:Pos}
noncomputable def tB (t:TE):TT:=fun σ H Q=>t σ H fun x H1=>∃ c,x = .bl c/\Q c H1
theorem pt_val {e:Expr} {t:TE} (h:PE X e t) (he:∀ whole,isTrue e X.env whole = (do let v <-whole; standAt e.pos; holding [v] (truthy v)):=by intro _; rfl):PT X e (tB t):=by
 intro pins s σ H Q I hw
 refine isTrue_plain (thn (h pins s σ H _ I hw) fun v s1 ⟨x,H1,I1,r1,q1⟩=>?_) (he _)
 obtain ⟨d,rfl,q⟩:=q1
 cases r1
 exact wpAny_truthy_bool ⟨H1,I1,q⟩
variable {tA tB':TT} {rest:List Expr}
noncomputable def tAnd (t u:TT):TT:=fun σ H Q=>t σ H fun c H1=>if c = true then u σ H1 Q else Q false H1
noncomputable def tOr (t u:TT):TT:=fun σ H Q=>t σ H fun c H1=>if c = true then Q true H1 else u σ H1 Q
noncomputable def tNot (t:TT):TT:=fun σ H Q=>t σ H fun c H1=>Q (!c) H1
theorem pw_and1 (ha:PT X a tA):PW X (.BoolOp .And [a] pos) tA:=by
 intro wh pins s σ H Q I h
 refine isTrue_and (thn (ha pins s σ H Q I h) fun c s1 e=>?_)
 cases c with
 | true=>exact isTrue_and_nil e
 | false=>exact e
theorem pw_or1 (ha:PT X a tA):PW X (.BoolOp .Or [a] pos) tA:=by
 intro wh pins s σ H Q I h
 refine isTrue_or (thn (ha pins s σ H Q I h) fun c s1 e=>?_)
 cases c with
 | false=>exact isTrue_or_nil e
 | true=>exact e
theorem pw_and (ha:PT X a tA) (hb:PW X (.BoolOp .And (b :: rest) pos) tB'):PW X (.BoolOp .And (a :: b :: rest) pos) (tAnd tA tB'):=by
 intro wh pins s σ H Q I h
 refine isTrue_and (thn (ha pins s σ H _ I h) fun c s1 ⟨H1,I1,q1⟩=>?_)
 cases c with
 | true=>exact hb wh pins s1 σ H1 Q I1 q1
 | false=>exact ⟨H1,I1,q1⟩
theorem pw_or (ha:PT X a tA) (hb:PW X (.BoolOp .Or (b :: rest) pos) tB'):PW X (.BoolOp .Or (a :: b :: rest) pos) (tOr tA tB'):=by
 intro wh pins s σ H Q I h
 refine isTrue_or (thn (ha pins s σ H _ I h) fun c s1 ⟨H1,I1,q1⟩=>?_)
 cases c with
 | true=>exact ⟨H1,I1,q1⟩
 | false=>exact hb wh pins s1 σ H1 Q I1 q1
theorem pt_not (ha:PT X a tA):PT X (.UnaryOp .Not a pos) (tNot tA):=by
 intro pins s σ H Q I h
 exact isTrue_not (ha pins s σ H (fun c H1=>Q (!c) H1) I h)
noncomputable def tAndV (ta tb:TE):TE:=fun σ H Q=>ta σ H fun x H1=>∃ c,x = .bl c/\if c = true then tb σ H1 Q else Q (.bl false) H1
noncomputable def tNotV (ta:TE):TE:=fun σ H Q=>ta σ H fun x H1=>∃ c,x = .bl c/\Q (.bl (!c)) H1
theorem pe_one {op} {t:TE} (h:PE X a t):PE X (.BoolOp op [a] pos) t:=fun pins s σ H Q I hw=>BoolOp_one (h pins s σ H Q I hw)
theorem pe_and (ha:PE X a ta) (hb:PE X (.BoolOp .And (b :: rest) pos) tb):PE X (.BoolOp .And (a :: b :: rest) pos) (tAndV ta tb):=by
 intro pins s σ H Q I h
 refine BoolOp_and (thn (ha pins s σ H _ I h) fun v s1 ⟨x,H1,I1,r1,q1⟩=>?_)
 obtain ⟨c,rfl,q1⟩:=q1
 cases r1
 refine wpAny_truthy_bool ?_
 cases c with
 | true=>exact hb pins s1 σ H1 Q I1 q1
 | false=>exact ⟨.bl false,H1,I1,rfl,q1⟩
theorem pe_not (ha:PE X a ta):PE X (.UnaryOp .Not a pos) (tNotV ta):=by
 intro pins s σ H Q I h
 refine UnaryOp_ (thn (ha pins s σ H _ I h) fun v s1 ⟨x,H1,I1,r1,q1⟩=>?_)
 obtain ⟨c,rfl,q1⟩:=q1
 cases r1
 exact not_of (wpAny_truthy_bool ⟨.bl (!c),H1,I1,rfl,q1⟩)
noncomputable def tIf (t:TT) (ta tb:TE):TE:=fun σ H Q=>t σ H fun c H1=>if c = true then ta σ H1 Q else tb σ H1 Q
theorem pe_ifExp {c:Expr} (hc:PT X c tA) (ha:PE X a ta) (hb:PE X b tb):PE X (.IfExp c a b pos) (tIf tA ta tb):=by
 intro pins s σ H Q I h
 refine wpAny_IfExp (thn (hc pins s σ H _ I h) fun d s1 ⟨H1,I1,q1⟩=>?_)
 cases d with
 | true=>exact ha pins s1 σ H1 Q I1 q1
 | false=>exact hb pins s1 σ H1 Q I1 q1
end
end L2
namespace L2
open PySem PySem.Spec PyProof.Rows
noncomputable def SqL (K:PySem.W.Frag) (H:Hp) (a:Addr) (xs:List V):Prop :=
 Rd H a (.lst xs) \/
  ∃ (o:Obj) (its:Array Value) (n:Nat),K.lookup a = some o/\o.cls = .type "list"/\o.dict = none/\o.data = .seq its n/\its.size<=sizeLine/\Vals xs its.toList
noncomputable def SqT (K:PySem.W.Frag) (H:Hp) (a:Addr) (xs:List V):Prop :=
 Rd H a (.tup xs) \/
  ∃ (o:Obj) (its:Array Value) (n:Nat),K.lookup a = some o/\o.cls = .type "tuple"/\o.data = .seq its n/\its.size<=sizeLine/\Vals xs its.toList
noncomputable def absV:Value->Option V
 | .none=>some .non
 | .bool b=>some (.bl b)
 | .int i _=>some (.int i)
 | .str x _=>some (.str x)
 | .bytes b _=>some (.byt b)
 | .float b _=>some (.flt b)
 | .ref a=>some (.ref a)
 | .type n=>some (.ty n)
 | _=>none
theorem RelV.abs {x:V} {u:Value} (r:RelV x u):absV u = some x:=by
 cases x with
 | non=>cases r; rfl
 | bl _=>cases r; rfl
 | int _=>obtain ⟨t,rfl⟩:=r; rfl
 | str _=>obtain ⟨t,rfl⟩:=r; rfl
 | byt _=>obtain ⟨t,rfl⟩:=r; rfl
 | flt _=>obtain ⟨t,rfl⟩:=r; rfl
 | ref _=>cases r; rfl
 | ty _=>cases r; rfl
theorem RelV.inj {x y:V} {u:Value} (r:RelV x u) (q:RelV y u):x = y:=Option.some.inj (r.abs.symm.trans q.abs)
theorem Vals.inj:∀ {xs ys:List V} {us:List Value},Vals xs us->Vals ys us->xs = ys
 | _,_,_,.nil,.nil=>rfl
 | _,_,_,.cons r t,.cons r' t'=>by rw [r.inj r',Vals.inj t t']
section
variable {X:Cx} {pins:List (Addr × Obj)} {σ:St} {H:Hp} {s:Shared} {a:Addr} {xs ys:List V}
theorem SqL.of {K:PySem.W.Frag} (h:H a = some (.lst xs)):SqL K H a xs:=.inl (.inl h)
theorem SqT.of {K:PySem.W.Frag} (h:H a = some (.tup xs)):SqT K H a xs:=.inl (.inl h)
theorem Inv.list (I:Inv X pins σ H s) (h:SqL X.K H a xs):∃ its:List Value,Vals xs its/\PlainL s.heap a its.toArray/\xs.length<=sizeLine:=by
 rcases h with h | ⟨o,its,n,hk,hc,hd,hs,hz,r⟩
 ·obtain ⟨z,its,n,r,e⟩:=h.ok I.hok
  exact ⟨its,r,⟨_,n,e,rfl,rfl,rfl⟩,z⟩
 ·refine ⟨its.toList,r,⟨o,n,I.kIn a o hk,hc,hd,by simpa using hs⟩,?_⟩
  have e:=r.length
  simp only [Array.length_toList] at e
  omega
theorem Inv.tuple (I:Inv X pins σ H s) (h:SqT X.K H a xs):∃ its:List Value,Vals xs its/\IsTup s.heap a its.toArray/\xs.length<=sizeLine:=by
 rcases h with h | ⟨o,its,n,hk,hc,hs,hz,r⟩
 ·obtain ⟨z,its,r,p⟩:=h.ok I.hok
  exact ⟨its,r,p,z⟩
 ·refine ⟨its.toList,r,⟨o,I.kIn a o hk,hc,n,by simpa using hs⟩,?_⟩
  have e:=r.length
  simp only [Array.length_toList] at e
  omega
theorem Inv.list_inj (I:Inv X pins σ H s) (h:SqL X.K H a xs) (h':SqL X.K H a ys):xs = ys:=by
 obtain ⟨its,r,⟨o,n,e,_,_,d⟩,_⟩:=I.list h
 obtain ⟨its',r',⟨o',n',e',_,_,d'⟩,_⟩:=I.list h'
 rw [e] at e'; cases e'
 rw [d] at d'
 injection d' with d1 _
 have:its = its':=by simpa using congrArg Array.toList d1
 subst this
 exact r.inj r'
theorem Inv.tuple_inj (I:Inv X pins σ H s) (h:SqT X.K H a xs) (h':SqT X.K H a ys):xs = ys:=by
 obtain ⟨its,r,⟨o,e,_,n,d⟩,_⟩:=I.tuple h
 obtain ⟨its',r',⟨o',e',_,n',d'⟩,_⟩:=I.tuple h'
 rw [e] at e'; cases e'
 rw [d] at d'
 injection d' with d1 _
 have:its = its':=by simpa using congrArg Array.toList d1
 subst this
 exact r.inj r'
end
noncomputable abbrev Cx.wish (X:Cx) (E:Value->Shared->Prop):Cx:={ X with xe:=E }
noncomputable abbrev Cx.nox (X:Cx):Cx:=X.wish fun _ _=>False
theorem Cx.Ok.wish {X:Cx} (ok:X.Ok) (E:Value->Shared->Prop):(X.wish E).Ok :=
 ⟨ok.mod,ok.kind,ok.glob,ok.blt,ok.above,ok.inj,ok.has,ok.cab,ok.hd,ok.frames,ok.stk,ok.exf,ok.bs,ok.bsz,ok.noex,ok.exfs,ok.funs,ok.frf⟩
theorem Cx.Ok.unwish {X:Cx} {E:Value->Shared->Prop} (ok:(X.wish E).Ok):X.Ok :=
 ⟨ok.mod,ok.kind,ok.glob,ok.blt,ok.above,ok.inj,ok.has,ok.cab,ok.hd,ok.frames,ok.stk,ok.exf,ok.bs,ok.bsz,ok.noex,ok.exfs,ok.funs,ok.frf⟩
section
variable {X:Cx} {pins:List (Addr × Obj)} {σ:St} {H:Hp} {s:Shared} {E:Value->Shared->Prop}
theorem Inv.wish (I:Inv X pins σ H s) (E:Value->Shared->Prop):Inv (X.wish E) pins σ H s:=⟨I.ok.wish E,I.os,I.bare,I.base,I.loc,I.cell,I.free,I.freeC,I.pin,I.hok,I.len⟩
theorem Inv.unwish (I:Inv (X.wish E) pins σ H s):Inv X pins σ H s:=⟨I.ok.unwish,I.os,I.bare,I.base,I.loc,I.cell,I.free,I.freeC,I.pin,I.hok,I.len⟩
theorem SP.unwish {D:Ends} {f:Flow} {s':Shared} (h:SP (X.wish E) pins D f s'):SP X pins D f s':=by
 cases f with
 | next=>obtain ⟨σ',H',I,q⟩:=h; exact ⟨σ',H',I.unwish,q⟩
 | brk=>obtain ⟨σ',H',I,q⟩:=h; exact ⟨σ',H',I.unwish,q⟩
 | cont=>obtain ⟨σ',H',I,q⟩:=h; exact ⟨σ',H',I.unwish,q⟩
 | ret u=>obtain ⟨v,σ',H',I,r,q⟩:=h; exact ⟨v,σ',H',I.unwish,r,q⟩
theorem PSs.nox {st:List Stmt} {t:TS} (h:PSs X.nox st t):PSs X st t:=fun pins s σ H D I hw =>
 wpAny_mono (h pins s σ H D (I.wish _) hw) (fun _ _ q=>q.unwish) fun _ _ z=>False.elim z
end
section
variable {X:Cx} {st:Stmt} {rest:List Stmt} {t u:TS} {e:Expr} {te:TE} {pos:Pos}
noncomputable def tNext:TS:=fun D σ H=>D.nx σ H
noncomputable def tSeq (t u:TS):TS:=fun D σ H=>t { D with nx:=u D } σ H
theorem pss_nil:PSs X [] tNext:=fun _ _ σ H _ I h=>wpAny_execs_nil ⟨σ,H,I,h⟩
theorem pss_cons (h1:PS X st t) (h2:PSs X rest u):PSs X (st :: rest) (tSeq t u):=by
 intro pins s σ H D I h
 refine wpAny_execs_cons (thn (h1 pins s σ H { D with nx:=u D } I h) fun f s1 q=>?_)
 cases f with
 | next =>
  obtain ⟨σ',H',I',q⟩:=q
  exact h2 pins s1 σ' H' D I' q
 | ret v=>exact q
 | brk=>exact q
 | cont=>exact q
theorem pss_one (h1:PS X st t):PSs X [st] t:=by
 intro pins s σ H D I h
 refine wpAny_execs_cons (thn (h1 pins s σ H D I h) fun f s1 q=>?_)
 cases f with
 | next=>exact wpAny_execs_nil q
 | ret v=>exact q
 | brk=>exact q
 | cont=>exact q
theorem Inv.quiet {pins:List (Addr × Obj)} {σ:St} {H:Hp} {s:Shared} (I:Inv X pins σ H s):interactive X.env = false:=by simp [interactive,I.ok.kind]
noncomputable def tDrop (te:TE):TS:=fun D σ H=>te σ H fun _ H1=>D.nx σ H1
theorem ps_expr (he:PE X e te) (hs:swapsWith e none pos.line X.env = pure false:=by rfl):PS X (.Expr e pos) (tDrop te):=by
 intro pins s σ H D I h
 exact wpAny_Expr_any (thn (he pins s σ H _ I h) fun v s1 ⟨x,H1,I1,r1,q1⟩=>⟨σ,H1,I1,q1⟩) I.quiet hs
noncomputable def tRet (te:TE):TS:=fun D σ H=>te σ H D.rt
theorem ps_ret (he:PE X e te):PS X (.Return (some e) pos) (tRet te):=by
 intro pins s σ H D I h
 exact wpAny_Return_some (thn (he pins s σ H _ I h) fun v s1 ⟨x,H1,I1,r1,q1⟩=>⟨x,σ,H1,I1,r1,q1⟩)
noncomputable def tIfS (c:TT) (t u:TS):TS:=fun D σ H=>c σ H fun b H1=>if b = true then t D σ H1 else u D σ H1
theorem ps_if {c:Expr} {a b:List Stmt} {tc:TT} (hc:PT X c tc) (ha:PSs X a t) (hb:PSs X b u):PS X (.If c a b pos) (tIfS tc t u):=by
 intro pins s σ H D I h
 refine wpAny_If (thn (hc pins s σ H _ I h) fun d s1 ⟨H1,I1,q1⟩=>?_)
 cases d with
 | true=>exact ha pins s1 σ H1 D I1 q1
 | false=>exact hb pins s1 σ H1 D I1 q1
noncomputable def tNever:TS:=fun _ _ _=>False
theorem ps_never:PS X st tNever:=fun _ _ _ _ _ _ h=>h.elim
end
noncomputable abbrev TG:=V->St->Hp->(St->Hp->Prop)->Prop
noncomputable abbrev TGs:=List V->St->Hp->(St->Hp->Prop)->Prop
noncomputable def PG (X:Cx) (target:Expr) (t:TG):Prop :=
 ∀ (pins:List (Addr × Obj)) (s:Shared) (σ:St) (H:Hp) (v:V) (u:Value) (Q:St->Hp->Prop),Inv X pins σ H s->RelV v u->t v σ H Q ->
  wpAny (model X.prog X.w) X.A (assign target X.env u) (fun _ s'=>∃ σ' H',Inv X pins σ' H' s'/\Q σ' H') X.xe s
noncomputable def PGs (X:Cx) (ts:List Expr) (t:TGs):Prop :=
 ∀ (pins:List (Addr × Obj)) (s:Shared) (σ:St) (H:Hp) (vs:List V) (us:List Value) (Q:St->Hp->Prop),Inv X pins σ H s->Vals vs us->t vs σ H Q ->
  wpAny (model X.prog X.w) X.A (assignInOrder ((assignEach ts X.env).map (·.2)) us) (fun _ s'=>∃ σ' H',Inv X pins σ' H' s'/\Q σ' H') X.xe s
noncomputable abbrev TSet:=V->V->V->Hp->(Hp->Prop)->Prop
noncomputable def PSet (X:Cx) (t:TSet):Prop :=
 ∀ (pins:List (Addr × Obj)) (s:Shared) (σ:St) (H:Hp) (o i v:V) (ov iv u:Value) (Q:Hp->Prop),Inv X pins σ H s->RelV o ov->RelV i iv->RelV v u->t o i v H Q ->
  wpAny (model X.prog X.w) X.A (setItem ov iv u) (fun _ s'=>∃ H',Inv X pins σ H' s'/\Q H') X.xe s
section
variable {X:Cx} {pos:Pos}
noncomputable def gName (i:Nat):TG:=fun v σ H Q=>Q (σ.set i (some v)) H
theorem pg_name {i:Nat} {x:Str} (hN:X.N.Nodup) (hi:X.N[i]? = some x) (hx:Loc X.env.scope x) (hf:X.fn x = true\/X.env.scope.names.lookup x = some .local:=by first | exact .inl rfl | exact .inr rfl | assumption):PG X (.Name x pos) (gName i):=by
 intro pins s σ H v u Q I r h
 exact wpAny_assign_Name (store_ok I hN hi hx r (fun s' I'=>⟨_,H,I',h⟩) hf)
noncomputable def gNil:TGs:=fun vs σ H Q=>vs = []/\Q σ H
noncomputable def gCons (t:TG) (u:TGs):TGs:=fun vs σ H Q=>∃ v r,vs = v :: r/\t v σ H fun σ' H'=>u r σ' H' Q
theorem pgs_nil:PGs X [] gNil:=by
 intro pins s σ H vs us Q I r h
 obtain ⟨e,h⟩:=h
 subst e
 cases r
 exact assignInOrder_nil ⟨σ,H,I,h⟩
theorem pgs_cons {e:Expr} {es:List Expr} {t:TG} {u:TGs} (h1:PG X e t) (h2:PGs X es u)
  (hs:(assignEach (e :: es) X.env).map (·.2) = assign e X.env :: (assignEach es X.env).map (·.2):=by rfl):PGs X (e :: es) (gCons t u):=by
 intro pins s σ H vs us Q I r h
 obtain ⟨v,vr,e1,h⟩:=h
 subst e1
 cases r with
 | cons r rr =>
  rw [hs]
  refine assignInOrder_cons (thn (h1 pins s σ H _ _ _ I r h) fun _ s1 ⟨σ1,H1,I1,q1⟩=>?_)
  exact h2 pins s1 σ1 H1 _ _ Q I1 rr q1
noncomputable def gTup (K:PySem.W.Frag) (n:Nat) (t:TGs):TG:=fun v σ H Q=>∃ a xs,v = .ref a/\SqT K H a xs/\xs.length = n/\t xs σ H Q
theorem pg_tup {es:List Expr} {k:Nat} {t:TGs} {n:Nat} (hc:X.calm = true) (h:PGs X es t)
  (hn:(assignEach es X.env).length = n:=by rfl) (hst:(assignEach es X.env).findIdx? (·.1) = none:=by rfl):PG X (.Tuple es k pos) (gTup X.K n t):=by
 intro pins s σ H v u Q I r hw
 obtain ⟨a,xs,e1,hq,hl,hw⟩:=hw
 subst e1
 cases r
 obtain ⟨its,rv,ht,hz⟩:=I.tuple hq
 refine assign_Tuple_tuple (I.ok.hd hc) ht (by simp [hn,<-hl,rv.length]) hst fun h' hx=>?_
 have I1:Inv X pins σ H { s with heap:=h' }:=I.kept (t':=s.toks) fun b o e=>hx b o (Nat.ne_of_lt (Heap.lt_size e)) e
 exact h pins _ σ H xs _ Q I1 (by simpa using rv) hw
noncomputable def gSub (to ti:TE) (t:TSet):TG:=fun v σ H Q=>to σ H fun o H1=>ti σ H1 fun i H2=>t o i v H2 fun H3=>Q σ H3
theorem pg_sub {o i:Expr} {to ti:TE} {t:TSet} (ho:PE X o to) (hi:PE X i ti) (hs:PSet X t)
  (ha:∀ v,assign (.Subscript o i pos) X.env v = (do
   let ov <-holding [v] (eval o X.env)
   let iv <-holding [v,ov] (eval i X.env)
   standAt pos
   holding [v,ov,iv] (setItem ov iv v)
   release [v,ov,iv] []):=by intro _; rfl):PG X (.Subscript o i pos) (gSub to ti t):=by
 intro pins s σ H v u Q I r h
 rw [ha]
 refine wpAny_bind (wpAny_holding (thn (ho pins s σ H _ I h) fun ov s1 ⟨x,H1,I1,r1,q1⟩=>?_))
 refine wpAny_bind (wpAny_holding (thn (hi pins s1 σ H1 _ I1 q1) fun iv s2 ⟨y,H2,I2,r2,q2⟩=>?_))
 refine wpAny_bind (wpAny_standAt (wpAny_bind (wpAny_holding (thn (hs pins s2 σ H2 x y v ov iv u _ I2 r1 r2 r q2) fun _ s3 ⟨H3,I3,q3⟩=>?_))))
 exact wpAny_release ⟨σ,H3,I3,q3⟩
noncomputable def tAsg (te:TE) (g:TG):TS:=fun D σ H=>te σ H fun x H1=>g x σ H1 D.nx
theorem ps_asg {tg e:Expr} {te:TE} {g:TG} (he:PE X e te) (hg:PG X tg g) (hs:swapsWithSole [tg] e pos.line X.env = pure false:=by rfl) (hw:swappedStores [tg] e X.env = pure none:=by rfl)
  (h1:(assignEach [tg] X.env).map (·.2) = [assign tg X.env]:=by rfl):PS X (.Assign [tg] e pos) (tAsg te g):=by
 intro pins s σ H D I h
 refine wpAny_Assign_stores (thn (he pins s σ H _ I h) fun v s1 ⟨x,H1,I1,r1,q1⟩=>?_) hs hw
 rw [h1]
 exact thn (hg pins s1 σ H1 x v _ I1 r1 q1) fun _ s2 q=>q
theorem ps_set {i:Nat} {x:Str} {e:Expr} {te:TE} {pos':Pos} (hN:X.N.Nodup) (hi:X.N[i]? = some x) (hx:Loc X.env.scope x) (he:PE X e te) (hs:swapsWith e (some (.Name x pos')) pos.line X.env = pure false:=by rfl) (hf:X.fn x = true\/X.env.scope.names.lookup x = some .local:=by first | exact .inl rfl | exact .inr rfl | assumption) :
  PS X (.Assign [.Name x pos'] e pos) (tAsg te (gName i)):=by
 intro pins s σ H D I h
 refine wpAny_Assign_Name (thn (he pins s σ H _ I h) fun v s1 ⟨y,H1,I1,r1,q1⟩=>?_) hs
 exact store_ok I1 hN hi hx r1 (fun s2 I2=>⟨_,H1,I2,q1⟩) hf
noncomputable def tPar (i j:Nat) (ta:TA):TS:=fun D σ H=>ta σ H fun vs H1=>∃ v w,vs = [v,w]/\D.nx ((σ.set i (some v)).set j (some w)) H1
theorem ps_par {i j:Nat} {x y:Str} {a b:Expr} {ta:TA} {px py pt:Pos} {kt k2 pt2} (hc:X.calm = true) (hN:X.N.Nodup) (hi:X.N[i]? = some x) (hj:X.N[j]? = some y) (hij:i ≠ j)
  (hx:X.env.scope.names.lookup x = some .local) (hy:X.env.scope.names.lookup y = some .local) (ha:PA X [a,b] ta)
  (hw:swappedStores [.Tuple [.Name x px,.Name y py] kt pt] (.Tuple [a,b] k2 pt2) X.env = pure (some [x,y]))
  (hs:swapsWithSole [.Tuple [.Name x px,.Name y py] kt pt] (.Tuple [a,b] k2 pt2) pos.line X.env = pure false:=by rfl) :
  PS X (.Assign [.Tuple [.Name x px,.Name y py] kt pt] (.Tuple [a,b] k2 pt2) pos) (tPar i j ta):=by
 intro pins s σ H D I h
 rw [exec_Assign_arm]
 refine wpAny_bind (wpAny_standAt ?_)
 rw [hs]
 refine wpAny_bind (wpAny_pure ?_)
 rw [if_neg (by decide)]
 refine wpAny_bind (Tuple_ (thn (ha _ pins s σ H _ I h) fun us s1 ⟨vs,H1,I1,r1,q1⟩=>?_))
 obtain ⟨v,w,e1,q1⟩:=q1
 subst e1
 obtain ⟨u1,u2,rfl,rv,rw'⟩:∃ u1 u2,us = [u1,u2]/\RelV v u1/\RelV w u2:=by
  cases r1 with
  | cons p q =>
   cases q with
   | cons p' q' =>
    cases q'
    exact ⟨_,_,rfl,p,p'⟩
 refine wpAny_newObj_type ?_ (by show 2<=sizeLine; decide)
 have I2:Inv X pins σ H1 { s1 with heap:=s1.heap.push { cls:=.type "tuple",data:=.seq [u1,u2].toArray } }:=I1.kept (t':=s1.toks) fun b o e=>Heap.get?_push_of_some _ e
 rw [hw]
 refine wpAny_bind (wpAny_pure ?_)
 show wpAny (model X.prog X.w) X.A (do rule "assign.swapped-stores"; let items <-unpackItems (.ref s1.heap.objs.size) 2 none; assignInOrder [fun v=>bindName X.env y v,fun v=>bindName X.env x v] items.reverse; pure Flow.next) _ _ _
 refine wpAny_bind (wpAny_rule (wpAny_bind (unpackItems_tuple (items:=#[u1,u2]) (I.ok.hd hc) (IsTup.new s1.heap _) fun h' hx'=>?_)))
 have I3:=I2.kept (h':=h') (t':=s1.toks) fun b o e=>hx' b o (Nat.ne_of_lt (Heap.lt_size e)) e
 show wpAny _ _ (assignInOrder [fun v=>bindName X.env y v,fun v=>bindName X.env x v] [u2,u1] >>= fun _=>pure Flow.next) _ _ _
 refine wpAny_bind (assignInOrder_cons (wpAny_bindName (store_ok I3 hN hj (.inl hy) rw' (fun s2 I4=>?_) (.inr hy))))
 refine assignInOrder_cons (wpAny_bindName (store_ok I4 hN hi (.inl hx) rv (fun s3 I5=>assignInOrder_nil (wpAny_pure ?_)) (.inr hx)))
 rw [List.set_comm _ _ (Ne.symm hij)] at I5
 exact ⟨_,H1,I5,q1⟩
end
section
variable {X:Cx} {pos:Pos}
noncomputable def tWhile (c:TT) (tb:TS):TS:=fun D σ H=>∃ W:Nat->St->Hp->Prop,(∃ m,W m σ H)/\∀ m σ H,W m σ H ->
 c σ H fun b H1=>if b = true then ∃ N:St->Hp->Prop,(∀ σ' H',N σ' H'->∃ m',m' < m/\W m' σ' H')/\tb { D with nx:=N,ct:=N,bk:=D.nx } σ H1 else D.nx σ H1
theorem ps_while {c:Expr} {body:List Stmt} {tc:TT} {tb:TS} (hp:PassesOwn (model X.prog X.w) X.A X.env X.xe) (hc:PT X c tc) (hb:PSs X body tb):PS X (.While c body [] pos) (tWhile tc tb):=by
 intro pins s σ H D I h
 obtain ⟨W,⟨m0,w0⟩,turn⟩:=h
 refine wpAny_While (codeAny_whileLoop (fun n s'=>∃ σ' H',Inv X pins σ' H' s'/\W n σ' H') ?_ m0 ⟨σ,H,I,w0⟩)
 rintro n s1 ⟨σ1,H1,I1,w1⟩
 refine wpAny_passesOwn hp (thn (hc pins s1 σ1 H1 _ I1 (turn n σ1 H1 w1)) fun b s2 ⟨H2,I2,q2⟩=>?_)
 cases b with
 | true =>
  obtain ⟨N,hN,q2⟩:=q2
  rw [if_pos rfl]
  refine wpAny_passesOwn hp (thn (hb pins s2 σ1 H2 _ I2 q2) fun f s3 q3=>?_)
  cases f with
  | next =>
   obtain ⟨σ3,H3,I3,n3⟩:=q3
   obtain ⟨m',hm,w3⟩:=hN σ3 H3 n3
   exact ⟨m',hm,σ3,H3,I3,w3⟩
  | cont =>
   obtain ⟨σ3,H3,I3,n3⟩:=q3
   obtain ⟨m',hm,w3⟩:=hN σ3 H3 n3
   exact ⟨m',hm,σ3,H3,I3,w3⟩
  | brk=>exact q3
  | ret v=>exact q3
 | false =>
  rw [if_neg Bool.false_ne_true]
  exact wpAny_execs_nil ⟨σ1,H2,I2,q2⟩
end
structure It where
 go:Nat->Hp->Prop
 yld:Nat->Hp->V->Hp->Prop
 stop:Nat->Hp->Prop
noncomputable def FpOk (X:Cx) (pins:List (Addr × Obj)) (H:Hp) (b:Addr):Prop :=
 H b = none/\b ≠ X.env.locals/\b ∉ X.fs/\(b ∈ X.ex\/X.s₀.heap.objs.size<=b)/\(∀ x c,X.env.cells.lookup x = some c->c ≠ b)/\∀ p ∈ X.pn ++ pins,p.1 ≠ b
theorem Inv.fpOk {X:Cx} {pins:List (Addr × Obj)} {σ:St} {H H':Hp} {s:Shared} {b:Addr} (I:Inv X pins σ H s) (hb:s.heap.objs.size<=b) (hn:H' b = none):FpOk X pins H' b:=by
 refine ⟨hn,Nat.ne_of_gt (Nat.lt_of_lt_of_le I.lt hb),I.nofs hb,.inr (Nat.le_trans I.sz hb),fun x c e z=>?_,fun p hp z=>?_⟩
 ·obtain ⟨v,q⟩:=I.cell x c e
  exact absurd (Nat.lt_of_lt_of_le q.lt (by rw [z]; exact hb)) (Nat.lt_irrefl _)
 ·exact absurd (Nat.lt_of_lt_of_le (Heap.lt_size (I.pin p hp).1) (by rw [z]; exact hb)) (Nat.lt_irrefl _)
structure Turn (P:Program) (w:World) (K:PySem.W.Frag) (tg:Expr) (J:It) (fp:List Addr) (it:Addr) (tn:Nat->Heap->Prop):Prop where
 mem:it ∈ fp
 obj:∀ i h,tn i h->∀ b ∈ fp,∃ o,h.get? b = some o/\∀ v,o.data ≠ .cell v
 keep:∀ i h h',tn i h->(∀ b ∈ fp,∀ o,h.get? b = some o->h'.get? b = some o)->tn i h'
 item:∀ (X:Cx),X.prog = P->X.w = w->X.K = K->X.calm = true->∀ (i:Nat) (pins:List (Addr × Obj)) (s:Shared) (σ:St) (H:Hp) (E:Value->Shared->Prop),Inv X pins σ H s->(∀ b ∈ fp,FpOk X pins H b)->tn i s.heap->J.go i H ->
  wpAny (model P w) X.A (pyNext (.ref it)) (fun r s1=>∃ u,r = some u /\
   wpAny (model P w) X.A (letOwnedTupleGo tg (.ref it) u) (fun _ s2=>∃ x H',Inv X pins σ H' s2/\RelV x u/\J.yld i H x H'/\tn (i + 1) s2.heap/\∀ b ∈ fp,H' b = none) E s1) E s
 done:∀ (X:Cx),X.prog = P->X.w = w->X.K = K->X.calm = true->∀ (i:Nat) (pins:List (Addr × Obj)) (s:Shared) (σ:St) (H:Hp) (E:Value->Shared->Prop),Inv X pins σ H s->(∀ b ∈ fp,FpOk X pins H b)->tn i s.heap->J.stop i H ->
  wpAny (model P w) X.A (pyNext (.ref it)) (fun r s1=>r = none/\Inv X pins σ H s1) E s
 self:∀ (A:Around) (i:Nat) (s:Shared) (Q:Value->Shared->Prop) (E:Value->Shared->Prop),tn i s.heap->Q (.ref it) s->wpAny (model P w) A (pyIter (.ref it)) Q E s
noncomputable abbrev TI:=St->Hp->(It->Hp->Prop)->Prop
noncomputable def PIE (X:Cx) (pins:List (Addr × Obj)) (σ:St) (tg:Expr) (R:It->Hp->Prop) (itv:Value) (s2:Shared):Prop :=
 ∃ (it:Addr) (fp:List Addr) (tn:Nat->Heap->Prop) (J:It) (H':Hp),itv = .ref it/\Inv X pins σ H' s2/\Turn X.prog X.w X.K tg J fp it tn/\tn 0 s2.heap/\(∀ b ∈ fp,FpOk X pins H' b)/\R J H'
noncomputable def PI (X:Cx) (tg iter:Expr) (wi:TI):Prop :=
 ∀ (pins:List (Addr × Obj)) (s:Shared) (σ:St) (H:Hp) (R:It->Hp->Prop),Inv X pins σ H s->wi σ H R ->
  wpAny (model X.prog X.w) X.A (eval iter X.env) (fun v s1=>wpAny (model X.prog X.w) X.A (pyIter v) (PIE X pins σ tg R) X.xe s1) X.xe s
theorem go_of {M:Model} {A:Around} {E:Value->Shared->Prop} {s:Shared} {tg:Expr} {it:Addr} {u:Value} {o:Obj} {n:String} {vs:Array Value} {Q:Unit->Shared->Prop} (ho:s.heap.get? it = some o) (hc:o.cls = .type n) (hd:o.data = .fields vs)
    (hn:["enumerate", "zip", "dict_itemiterator", "dict_reverseitemiterator", "odict_iterator", "itertools.zip_longest", "itertools.pairwise"].contains n = false) (hQ:Q () s):wpAny M A (letOwnedTupleGo tg (.ref it) u) Q E s:=by
  unfold letOwnedTupleGo
  cases tg <;> first
    | exact wpAny_pure hQ
    | (cases u <;> first
        | exact wpAny_pure hQ
        | (refine wpAny_bind (wpAny_load ho ?_)
           rw [hc,hd]
           show wpAny M A (if (["enumerate", "zip", "dict_itemiterator", "dict_reverseitemiterator", "odict_iterator", "itertools.zip_longest", "itertools.pairwise"].contains n && vs[0]? == some (rawInt _)) = true then _ else _) Q E s
           rw [if_neg (by intro h; rw [hn,Bool.false_and] at h; cases h)]
           exact wpAny_pure hQ))
noncomputable def Itl (K:PySem.W.Frag) (a:Addr):It :=
 ⟨fun i H=>∃ xs x,SqL K H a xs/\xs[i]? = some x,fun i H x H'=>H' = H/\∀ xs,SqL K H a xs->xs[i]? = some x,fun i H=>∃ xs,SqL K H a xs/\xs.length<=i⟩
noncomputable def Itr (lo:Int) (n:Nat):It:=⟨fun i _=>i < n,fun i H x H'=>H' = H/\x = .int (lo + i),fun i _=>n<=i⟩
theorem turn_list {P:Program} {w:World} {K:PySem.W.Frag} {tg:Expr} (a it:Addr):Turn P w K tg (Itl K a) [it] it (fun i h=>h.IsListIter it a i) where
 mem:=by simp
 obj:=fun i h st b hb=>by
  have e:b = it:=by simpa using hb
  subst e
  obtain ⟨o,e,c,d⟩:=st
  exact ⟨o,e,fun v z=>by rw [d] at z; cases z⟩
 keep:=fun i h h' st k=>st.at fun o e=>k it (by simp) o e
 item:=by
  intro X hP hw hK hc i pins s σ H E I hf st hg
  subst hP hw hK
  obtain ⟨xs,x,hq,hx⟩:=hg
  obtain ⟨its,rv,p,hz⟩:=I.list hq
  obtain ⟨u,hu,ru⟩:=rv.get hx
  obtain ⟨f0,f1,f2,f3,f4,f5⟩:=hf it (by simp)
  refine wpAny_pyNext_list_item st p.isList (x:=u) (by simpa using hu) fun h' st' sb=>?_
  have I1:Inv X pins σ H { s with heap:=h' }:=I.turned (t':=s.toks) (fun b o hb e=>(sb.2 b hb).trans e) f0 f1 f3 f4 f5
  obtain ⟨o,e,c,d⟩:=id st'
  exact ⟨u,rfl,go_of (s:={ s with heap:=h' }) e c d (by decide) ⟨x,H,I1,ru,⟨rfl,fun ys hy=>by rw [I.list_inj hy hq]; exact hx⟩,st',fun b hb=>(hf b hb).1⟩⟩
 done:=by
  intro X hP hw hK hc i pins s σ H E I hf st hg
  subst hP hw hK
  obtain ⟨xs,hq,hx⟩:=hg
  obtain ⟨its,rv,p,hz⟩:=I.list hq
  obtain ⟨f0,f1,f2,f3,f4,f5⟩:=hf it (by simp)
  have hl:=rv.length
  exact wpAny_pyNext_list_end (I.ok.hd hc) st p.isList (by simp; omega) fun h' eb=>⟨rfl,I.turned (t':=s.toks) (fun b o hb e=>eb b o hb e) f0 f1 f3 f4 f5⟩
 self:=fun _ _ _ _ _ st h=>wpAny_pyIter_listiter st h
theorem turn_range {P:Program} {w:World} {K:PySem.W.Frag} {tg:Expr} (it:Addr) (lo:Int) (n:Nat):Turn P w K tg (Itr lo n) [it] it (fun i h=>IsRangeIter h it (lo + (i:Nat) * 1) ((n:Int) - (i:Nat)) 1) where
 mem:=by simp
 obj:=fun i h st b hb=>by
  have e:b = it:=by simpa using hb
  subst e
  exact ⟨_,st,fun v z=>by
   have z':Data.fields _ = Data.cell v:=z
   cases z'⟩
 keep:=fun i h h' st k=>k it (by simp) _ st
 item:=by
  intro X hP hw hK hc i pins s σ H E I hf st hg
  subst hP hw hK
  obtain ⟨f0,f1,f2,f3,f4,f5⟩:=hf it (by simp)
  have W:=Walks.range (prog:=X.prog) (w:=X.w) (I.ok.hd hc) it lo 1 n
  refine W.item i s _ _ hg st fun v h' tk hv st' kk=>?_
  obtain ⟨t,rfl⟩:=hv
  have I1:Inv X pins σ H { s with heap:=h',toks:=tk }:=I.turned (fun b o hb e=>kk b o (by simpa using hb) e) f0 f1 f3 f4 f5
  refine ⟨_,rfl,go_of (s:={ s with heap:=h',toks:=tk }) (n := "range_iterator") st' rfl rfl (by decide) ⟨.int (lo + i),H,I1,⟨t,?_⟩,⟨rfl,rfl⟩,st',fun b hb=>(hf b hb).1⟩⟩
  rw [Int.mul_one]
 done:=by
  intro X hP hw hK hc i pins s σ H E I hf st hg
  subst hP hw hK
  obtain ⟨f0,f1,f2,f3,f4,f5⟩:=hf it (by simp)
  exact wpAny_pyNext_range_end (I.ok.hd hc) st (by have:n<=i:=hg; omega) fun h' eb=>⟨rfl,I.turned (t':=s.toks) (fun b o hb e=>eb b o hb e) f0 f1 f3 f4 f5⟩
 self:=fun _ _ _ _ _ st h=>wpAny_pyIter_rangeiter st h
end L2
namespace L2
open PySem PySem.Spec PyProof.Rows
section
variable {X:Cx} {tg:Expr}
noncomputable def iList (K:PySem.W.Frag) (tl:TE):TI:=fun σ H R=>tl σ H fun x H1=>∃ a,x = .ref a/\(∃ xs,SqL K H1 a xs)/\R (Itl K a) H1
theorem pi_list {l:Expr} {tl:TE} (hl:PE X l tl):PI X tg l (iList X.K tl):=by
 intro pins s σ H R I h
 refine thn (hl pins s σ H _ I h) fun v s1 ⟨x,H1,I1,r1,q1⟩=>?_
 obtain ⟨a,e,⟨xs,hq⟩,q⟩:=q1
 subst e
 cases r1
 obtain ⟨its,rv,p,hz⟩:=I1.list hq
 refine wpAny_pyIter_list p.isList ?_
 refine ⟨s1.heap.objs.size,[s1.heap.objs.size],_,_,H1,rfl,I1.kept (t':=s1.toks) fun b o e=>Heap.get?_push_of_some _ e,turn_list a _,⟨_,Heap.get?_push_size _ rfl,rfl,rfl⟩,fun b hb=>?_,q⟩
 have e:b = s1.heap.objs.size:=by simpa using hb
 subst e
 exact I1.fpOk (Nat.le_refl _) (I1.hok.fresh (Nat.le_refl _))
theorem range_it {pins:List (Addr × Obj)} {σ:St} {H:Hp} {s:Shared} {R:It->Hp->Prop} {E:Value->Shared->Prop} {lo hi:Int} {t u v:Tok} {tk:Nat} (I:Inv X pins σ H s) (h1:-(2 ^ 62)<=lo) (h2:lo < 2 ^ 62) (h3:-(2 ^ 62)<=hi) (h4:hi < 2 ^ 62)
  (q:R (Itr lo (hi - lo).toNat) H):wpAny (model X.prog X.w) X.A (pyIter (.ref s.heap.objs.size)) (PIE X pins σ tg R) E { s with heap:=s.heap.push { cls:=.type "range",data:=.fields #[.int lo t,.int hi u,.int 1 v] },toks:=tk }:=by
 refine wpAny_pyIter_range (IsRange.new ..) (small_one h1 h2 h3 h4) ?_
 have I1:Inv X pins σ H { s with heap:=s.heap.push { cls:=.type "range",data:=.fields #[.int lo t,.int hi u,.int 1 v] },toks:=tk }:=I.kept fun b o e=>Heap.get?_push_of_some _ e
 refine ⟨(s.heap.push { cls:=.type "range",data:=.fields #[.int lo t,.int hi u,.int 1 v] }).objs.size,[(s.heap.push { cls:=.type "range",data:=.fields #[.int lo t,.int hi u,.int 1 v] }).objs.size],_,_,H,rfl,
  I1.kept (t':=tk) fun b o e=>Heap.get?_push_of_some _ e,turn_range _ lo (hi - lo).toNat,?_,fun b hb=>?_,q⟩
 ·have e1:lo + ((0:Nat):Int) * 1 = lo:=by simp
  have e2:(((hi - lo).toNat:Nat):Int) - ((0:Nat):Int) = Builtin.Range.rangeSize lo hi 1:=by rw [rangeSize_one]; split <;> omega
  show IsRangeIter _ _ (lo + ((0:Nat):Int) * 1) ((((hi - lo).toNat:Nat):Int) - ((0:Nat):Int)) 1
  rw [e1,e2]
  exact Heap.get?_push_size _ rfl
 ·have e:b = (s.heap.push { cls:=.type "range",data:=.fields #[.int lo t,.int hi u,.int 1 v] }).objs.size:=by simpa using hb
  subst e
  exact I1.fpOk (Nat.le_refl _) (I1.hok.fresh (Nat.le_refl _))
noncomputable def iRng1 (ta:TA):TI:=fun σ H R=>ta σ H fun vs H1=>∃ j:Int,vs = [.int j]/\-(2 ^ 62)<=j/\j < 2 ^ 62/\R (Itr 0 j.toNat) H1
theorem pi_range1 {a:Expr} {ta:TA} {p pos:Pos} (hg:Gl X "range") (hm:X.mg "range" = none) (ha:PA X [a] ta) (hs:starEach [a] X.env = [(false,eval a X.env)]:=by rfl):PI X tg (.Call (.Name "range" p) [a] [] pos) (iRng1 ta):=by
 intro pins s σ H R I h
 refine Call_ (ld_blt I hg hm boot_range (PyProof.Rows.callWith_type1 (thn (ha pos pins s σ H _ I h) fun us s1 ⟨vs,H1,I1,r1,q1⟩=>?_) hs rfl))
 obtain ⟨j,e,q1,q2,q⟩:=q1
 subst e
 cases r1 with
 | cons r rr =>
  cases rr
  obtain ⟨t,rfl⟩:=r
  exact call_range_1 (range_it I1 (by omega) (by omega) q1 q2 (by simpa using q))
noncomputable def tFor (wi:TI) (g:TG) (tb:TS):TS:=fun D σ H=>wi σ H fun J H1=>∃ W:Nat->Nat->St->Hp->Prop,(∃ m,W 0 m σ H1)/\∀ i m σ H,W i m σ H ->
 (J.stop i H/\D.nx σ H)\/(J.go i H/\∃ N:St->Hp->Prop,(∀ σ' H',N σ' H'->∃ m',m' < m/\W (i + 1) m' σ' H')/\∀ x H',J.yld i H x H'->g x σ H' fun σ2 H2=>tb { D with nx:=N,ct:=N,bk:=D.nx } σ2 H2)
noncomputable def pinsAt (fp:List Addr) (h:Heap):List (Addr × Obj):=fp.filterMap fun b=>(h.get? b).map fun o=>(b,o)
theorem mem_pinsAt {fp:List Addr} {h:Heap} {b:Addr} {o:Obj} (hb:b ∈ fp) (e:h.get? b = some o):(b,o) ∈ pinsAt fp h:=List.mem_filterMap.mpr ⟨b,hb,by rw [e]; rfl⟩
theorem of_pinsAt {fp:List Addr} {h:Heap} {p:Addr × Obj} (hp:p ∈ pinsAt fp h):p.1 ∈ fp/\h.get? p.1 = some p.2:=by
 obtain ⟨b,hb,e⟩:=List.mem_filterMap.mp hp
 cases q:h.get? b with
 | none=>rw [q] at e; cases e
 | some o =>
  rw [q] at e
  have e':(b,o) = p:=Option.some.inj e
  subst e'
  exact ⟨hb,q⟩
theorem Inv.pinned {pins:List (Addr × Obj)} {σ:St} {H:Hp} {s:Shared} {fp:List Addr} (I:Inv X pins σ H s) (hf:∀ b ∈ fp,FpOk X pins H b) (ho:∀ b ∈ fp,∃ o,s.heap.get? b = some o/\∀ v,o.data ≠ .cell v):Inv X (pins ++ pinsAt fp s.heap) σ H s :=
 I.pins_of fun p hp=>(List.mem_append.mp hp).elim (fun z=>I.pin p (List.mem_append_right _ z)) fun z=>by
  obtain ⟨hb,e⟩:=of_pinsAt z
  obtain ⟨f0,f1,f2,_⟩:=hf p.1 hb
  obtain ⟨o,e',d⟩:=ho p.1 hb
  rw [e] at e'; cases e'
  exact ⟨e,f0,f1,f2,d⟩
theorem Inv.unpinned {pins pl:List (Addr × Obj)} {σ:St} {H:Hp} {s:Shared} (I:Inv X (pins ++ pl) σ H s):Inv X pins σ H s:=I.pins_of fun p hp=>I.pin p (List.mem_append_right _ (List.mem_append_left _ hp))
theorem ps_for {iter:Expr} {body:List Stmt} {wi:TI} {g:TG} {tb:TS} {pos:Pos} (hp:PassesOwn (model X.prog X.w) X.A X.env X.xe) (hc:X.calm = true) (hi:PI X tg iter wi) (hg:PG X tg g) (hb:PSs X body tb)
  (hs:∀ x,foldedSetIterable iter X.env x = pure x:=by intro _; rfl):PS X (.For tg iter body [] pos) (tFor wi g tb):=by
 intro pins s σ H D I h
 refine wpAny_For (thn (hi pins s σ H _ I h) fun v s1 h1=>thn h1 fun itv s2 h2=>?_) hs
 obtain ⟨it,fp,tn,J,H2,e,I2,T,st2,f2,W,⟨m0,w0⟩,turn⟩:=h2
 subst e
 have stat:∀ {H':Hp},(∀ b ∈ fp,H' b = none)->∀ b ∈ fp,FpOk X pins H' b:=fun hn b hb=>⟨hn b hb,(f2 b hb).2⟩
 refine codeAny_forLoop_any (fun n s'=>∃ i σ' H',Inv X pins σ' H' s'/\tn i s'.heap/\(∀ b ∈ fp,H' b = none)/\W i n σ' H') ?_ m0 ⟨0,σ,H2,I2,st2,fun b hb=>(f2 b hb).1,w0⟩
 rintro n s3 ⟨i,σ3,H3,I3,st3,fr3,w3⟩
 rcases turn i n σ3 H3 w3 with ⟨stop,qn⟩ | ⟨go,N,hN,step⟩
 ·refine wpAny_passesOwn hp (thn (T.done X rfl rfl rfl hc i pins s3 σ3 H3 X.xe I3 (stat fr3) st3 stop) fun r s4 ⟨hr,I4⟩=>?_)
  subst hr
  exact wpAny_execs_nil ⟨σ3,H3,I4,qn⟩
 ·refine wpAny_passesOwn hp (thn (T.item X rfl rfl rfl hc i pins s3 σ3 H3 X.xe I3 (stat fr3) st3 go) fun r s4 ⟨u,hr,h4⟩=>?_)
  subst hr
  refine wpAny_passesOwn hp (thn h4 fun _ s5 ⟨x,H5,I5,r5,y5,st5,fr5⟩=>?_)
  have I5':=I5.pinned (stat fr5) (T.obj _ _ st5)
  refine wpAny_passesOwn hp (thn (hg _ s5 σ3 H5 x u _ I5' r5 (step x H5 y5)) fun _ s6 ⟨σ6,H6,I6,q6⟩=>?_)
  refine wpAny_passesOwn hp (thn (hb _ s6 σ6 H6 _ I6 q6) fun f s7 q7=>?_)
  have again:∀ {σ7:St} {H7:Hp},Inv X (pins ++ pinsAt fp s5.heap) σ7 H7 s7->N σ7 H7->∃ m,m < n/\∃ i σ' H',Inv X pins σ' H' s7/\tn i s7.heap/\(∀ b ∈ fp,H' b = none)/\W i m σ' H':=fun {σ7 H7} I7 n7=>by
   obtain ⟨m',hm,w7⟩:=hN σ7 H7 n7
   refine ⟨m',hm,i + 1,σ7,H7,I7.unpinned,T.keep _ _ _ st5 fun b hb o e=>(I7.pin (b,o) (List.mem_append_right _ (List.mem_append_right _ (mem_pinsAt hb e)))).1,fun b hb=>?_,w7⟩
   obtain ⟨o,e,d⟩:=T.obj _ _ st5 b hb
   exact (I7.pin (b,o) (List.mem_append_right _ (List.mem_append_right _ (mem_pinsAt hb e)))).2.1
  cases f with
  | next=>obtain ⟨σ7,H7,I7,n7⟩:=q7; exact again I7 n7
  | cont=>obtain ⟨σ7,H7,I7,n7⟩:=q7; exact again I7 n7
  | brk=>obtain ⟨σ7,H7,I7,q7⟩:=q7; exact ⟨σ7,H7,I7.unpinned,q7⟩
  | ret v=>obtain ⟨x7,σ7,H7,I7,r7,q7⟩:=q7; exact ⟨x7,σ7,H7,I7.unpinned,r7,q7⟩
end
theorem for_range {lo:Int} {n:Nat} {g:TG} {tb:TS} {D:Ends} {σ:St} {H:Hp} (Pv:Nat->St->Hp->Prop) (h0:Pv 0 σ H)
  (hs:∀ i σ H,i < n->Pv i σ H->g (.int (lo + i)) σ H fun σ2 H2=>tb { D with nx:=Pv (i + 1),ct:=Pv (i + 1),bk:=D.nx } σ2 H2) (hd:∀ σ H,Pv n σ H->D.nx σ H) :
  ∃ W:Nat->Nat->St->Hp->Prop,(∃ m,W 0 m σ H)/\∀ i m σ H,W i m σ H ->
   ((Itr lo n).stop i H/\D.nx σ H)\/((Itr lo n).go i H/\∃ N:St->Hp->Prop,(∀ σ' H',N σ' H'->∃ m',m' < m/\W (i + 1) m' σ' H')/\∀ x H',(Itr lo n).yld i H x H'->g x σ H' fun σ2 H2=>tb { D with nx:=N,ct:=N,bk:=D.nx } σ2 H2):=by
 refine ⟨fun i m σ H=>m = n - i/\i<=n/\Pv i σ H,⟨n,by simp,Nat.zero_le _,h0⟩,?_⟩
 rintro i m σ H ⟨rfl,hi,p⟩
 by_cases hlt:i < n
 ·refine .inr ⟨hlt,Pv (i + 1),fun σ' H' p'=>⟨n - (i + 1),by omega,rfl,hlt,p'⟩,fun x H' y=>?_⟩
  obtain ⟨e,y⟩:=y
  subst e y
  exact hs i σ _ hlt p
 ·have e:i = n:=by omega
  subst e
  exact .inl ⟨Nat.le_refl _,hd σ H p⟩
end L2
namespace L2
open PySem PySem.Spec PyProof.Rows
noncomputable abbrev R2:=V->V->Hp->VK->Prop
noncomputable def OpR (X:Cx) (f:Value->Value->Sem Value) (r:R2):Prop :=
 ∀ (pins:List (Addr × Obj)) (s:Shared) (σ:St) (H:Hp) (x y:V) (v u:Value) (Q:VK),Inv X pins σ H s->RelV x v->RelV y u->r x y H Q ->
  wpAny (model X.prog X.w) X.A (f v u) (EP X pins σ Q) X.xe s
noncomputable def CallR (X:Cx) (f:Value) (r:List V->Hp->VK->Prop):Prop :=
 ∀ (pins:List (Addr × Obj)) (s:Shared) (σ:St) (H:Hp) (xs:List V) (us:List Value) (Q:VK),Inv X pins σ H s->Vals xs us->r xs H Q ->
  wpAny (model X.prog X.w) X.A (call f us) (EP X pins σ Q) X.xe s
noncomputable def TruR (X:Cx) (r:V->Hp->(Bool->Hp->Prop)->Prop):Prop :=
 ∀ (pins:List (Addr × Obj)) (s:Shared) (σ:St) (H:Hp) (x:V) (v:Value) (Q:Bool->Hp->Prop),Inv X pins σ H s->RelV x v->r x H Q ->
  wpAny (model X.prog X.w) X.A (truthy v) (TP X pins σ Q) X.xe s
noncomputable def tOp (r:R2) (ta tb:TE):TE:=fun σ H Q=>ta σ H fun x H1=>tb σ H1 fun y H2=>r x y H2 Q
noncomputable def rI (C:Int->Int->Prop) (g:Int->Int->V):R2:=fun x y H Q=>∃ i j,x = .int i/\y = .int j/\C i j/\Q (g i j) H
noncomputable def rI0 (g:Int->Int->V):R2:=fun x y H Q=>∃ i j,x = .int i/\y = .int j/\Q (g i j) H
section
variable {X:Cx} {a b c:Expr} {ta tb tc:TE} {pos:Pos}
theorem binT (ha:PE X a ta) (hb:PE X b tb) {pins:List (Addr × Obj)} {s:Shared} {σ:St} {H:Hp} {R:V->V->Hp->Prop} (I:Inv X pins σ H s)
  (h:ta σ H fun x H1=>tb σ H1 fun y H2=>R x y H2) {Q:Value->Shared->Prop} {f:Value->Value->Sem Value}
  (hf:∀ v u s2 x y H2,Inv X pins σ H2 s2->RelV x v->RelV y u->R x y H2->wpAny (model X.prog X.w) X.A (f v u) Q X.xe s2) :
  wpAny (model X.prog X.w) X.A (eval a X.env) (fun v s₁=>wpAny (model X.prog X.w) X.A (eval b X.env) (fun u s₂=>wpAny (model X.prog X.w) X.A (f v u) Q X.xe s₂) X.xe s₁) X.xe s:=by
 refine thn (ha pins s σ H _ I h) fun v s1 ⟨x,H1,I1,r1,q1⟩=>?_
 refine thn (hb pins s1 σ H1 _ I1 q1) fun u s2 ⟨y,H2,I2,r2,q2⟩=>?_
 exact hf v u s2 x y H2 I2 r1 r2 q2
theorem pe_op {op:Operator} {r:R2} (ho:OpR X (binaryOp op) r) (ha:PE X a ta) (hb:PE X b tb):PE X (.BinOp a op b pos) (tOp r ta tb):=by
 intro pins s σ H Q I h
 exact wpAny_BinOp (binT ha hb I h fun v u s2 x y H2 I2 rx ry q=>ho pins s2 σ H2 x y v u Q I2 rx ry q)
theorem opI {f:Value->Value->Sem Value} {C:Int->Int->Prop} {g:Int->Int->Int}
  (rule:∀ (i j:Int) (t u:Tok) (s:Shared) (Q:Value->Shared->Prop) (E:Value->Shared->Prop),C i j->Q (.int (g i j) s.toks) { s with toks:=s.toks + 1 }->wpAny (model X.prog X.w) X.A (f (.int i t) (.int j u)) Q E s) :
  OpR X f (rI C fun i j=>.int (g i j)):=by
 intro pins s σ H x y v u Q I rx ry h
 obtain ⟨i,j,rfl,rfl,hc,q⟩:=h
 obtain ⟨t,rfl⟩:=rx
 obtain ⟨t',rfl⟩:=ry
 exact rule i j t t' s _ _ hc ⟨.int (g i j),H,I.tok _,⟨_,rfl⟩,q⟩
theorem opI0 {f:Value->Value->Sem Value} {g:Int->Int->Int}
  (rule:∀ (i j:Int) (t u:Tok) (s:Shared) (Q:Value->Shared->Prop) (E:Value->Shared->Prop),Q (.int (g i j) s.toks) { s with toks:=s.toks + 1 }->wpAny (model X.prog X.w) X.A (f (.int i t) (.int j u)) Q E s) :
  OpR X f (rI0 fun i j=>.int (g i j)):=by
 intro pins s σ H x y v u Q I rx ry h
 obtain ⟨i,j,rfl,rfl,q⟩:=h
 obtain ⟨t,rfl⟩:=rx
 obtain ⟨t',rfl⟩:=ry
 exact rule i j t t' s _ _ ⟨.int (g i j),H,I.tok _,⟨_,rfl⟩,q⟩
theorem opB0 {f:Value->Value->Sem Value} {g:Int->Int->Bool}
  (rule:∀ (i j:Int) (t u:Tok) (s:Shared) (Q:Value->Shared->Prop) (E:Value->Shared->Prop),Q (.bool (g i j)) s->wpAny (model X.prog X.w) X.A (f (.int i t) (.int j u)) Q E s) :
  OpR X f (rI0 fun i j=>.bl (g i j)):=by
 intro pins s σ H x y v u Q I rx ry h
 obtain ⟨i,j,rfl,rfl,q⟩:=h
 obtain ⟨t,rfl⟩:=rx
 obtain ⟨t',rfl⟩:=ry
 exact rule i j t t' s _ _ ⟨.bl (g i j),H,I,rfl,q⟩
noncomputable def CDiv (i j:Int):Prop:=0 < j/\j < 1073741824
noncomputable def CPow (i j:Int):Prop:=0<=j/\j<=1000000/\i.natAbs < 2 ^ 64
noncomputable def CMul (i j:Int):Prop:=(-(2 ^ 64) < i/\i < 2 ^ 64)\/(-(2 ^ 64) < j/\j < 2 ^ 64)
theorem CMul.ok {i j:Int} (h:CMul i j):IntMulOk i j:=by
 rcases h with ⟨h1,h2⟩ | ⟨h1,h2⟩
 ·exact .of_left (intBits_le_64 h1 h2)
 ·exact .of_right (intBits_le_64 h1 h2)
theorem op_add:OpR X (binaryOp .Add) (rI0 fun i j=>.int (i + j)):=opI0 fun _ _ _ _ _ _ _ q=>add_int q
theorem op_mul:OpR X (binaryOp .Mult) (rI CMul fun i j=>.int (i * j)):=opI fun _ _ _ _ _ _ _ hc q=>mul_int q hc.ok
theorem op_fdiv:OpR X (binaryOp .FloorDiv) (rI CDiv fun i j=>.int (i / j)):=opI fun i j _ _ _ _ _ hc q=>by
 have h1:(0:Int) < j:=hc.1
 have h2:j < 1073741824:=hc.2
 exact floordiv_int (by omega) (by rw [Int.fdiv_eq_ediv_of_nonneg i (by omega)]; exact q) (.inl (PyProof.noPylong_small (by omega)))
theorem op_mod:OpR X (binaryOp .Mod) (rI (fun _ j=>0 < j) fun i j=>.int (i % j)):=opI fun i j _ _ _ _ _ hc q=>by
 have h1:(0:Int) < j:=hc
 exact mod_int' (by omega) (by rw [Int.fmod_eq_emod_of_nonneg i (by omega)]; exact q)
theorem op_pow:OpR X (binaryOp .Pow) (rI CPow fun i j=>.int (i ^ j.toNat)):=opI fun _ _ _ _ _ _ _ hc q=>pow_int_small hc.1 hc.2.1 hc.2.2 q
end
noncomputable def scal:V->V->Bool
 | .non,.non=>true | .non,.int _=>true | .int _,.non=>true | .non,.bl _=>true | .bl _,.non=>true | .non,.str _=>true | .str _,.non=>true
 | .int _,.int _=>true | .bl _,.bl _=>true | .str _,.str _=>true | .byt _,.byt _=>true
 | .int _,.str _=>true | .str _,.int _=>true | .bl _,.str _=>true | .str _,.bl _=>true
 | _,_=>false
noncomputable def rEq:R2:=fun x y H Q=>scal x y = true/\Q (.bl (decide (x = y))) H
noncomputable def rNe:R2:=fun x y H Q=>scal x y = true/\Q (.bl (!decide (x = y))) H
theorem dec_int {i j:Int}:decide (V.int i = V.int j) = (i == j):=by
 rw [Bool.eq_iff_iff]
 simp
theorem dec_bl {i j:Bool}:decide (V.bl i = V.bl j) = (i == j):=by
 rw [Bool.eq_iff_iff]
 simp
theorem dec_str {i j:Str}:decide (V.str i = V.str j) = (i == j):=by
 rw [Bool.eq_iff_iff]
 simp
theorem dec_byt {i j:Array UInt8}:decide (V.byt i = V.byt j) = (i.toList == j.toList):=by
 rw [Bool.eq_iff_iff]
 cases i
 cases j
 simp
section
variable {X:Cx} {a b c:Expr} {ta tb tc:TE} {pos:Pos}
theorem fin_bl {pins:List (Addr × Obj)} {σ:St} {H:Hp} {s:Shared} {Q:VK} {k k':Bool} (I:Inv X pins σ H s) (q:Q (.bl k) H) (e:k = k'):EP X pins σ Q (.bool k') s:=by
 subst e
 exact ⟨.bl k,H,I,rfl,q⟩
theorem op_eq:OpR X (compareOp .Eq) rEq:=by
 intro pins s σ H x y v u Q I rx ry h
 obtain ⟨hs,q⟩:=h
 cases x with
 | non =>
  cases rx
  cases y with
  | non=>cases ry; exact PySem.EqNone.eq_none_none (fin_bl I q (by simp))
  | bl j=>cases ry; exact PySem.EqNone.eq_none_bool (fin_bl I q (by simp))
  | int j=>obtain ⟨t',rfl⟩:=ry; exact PySem.EqNone.eq_none_int (fin_bl I q (by simp))
  | str j=>obtain ⟨t',rfl⟩:=ry; exact PySem.EqNone.eq_none_str (fin_bl I q (by simp))
  | _=>exact absurd (show false = true from hs) Bool.false_ne_true
 | bl i =>
  cases rx
  cases y with
  | non=>cases ry; exact PySem.EqNone.eq_bool_none (fin_bl I q (by simp))
  | bl j=>cases ry; exact eq_bool (fin_bl I q dec_bl)
  | str j=>obtain ⟨t',rfl⟩:=ry; exact PySem.EqMixed.eq_bool_str (fin_bl I q (by simp))
  | _=>exact absurd (show false = true from hs) Bool.false_ne_true
 | int i =>
  obtain ⟨t,rfl⟩:=rx
  cases y with
  | non=>cases ry; exact PySem.EqNone.eq_int_none (fin_bl I q (by simp))
  | int j=>obtain ⟨t',rfl⟩:=ry; exact eq_int (fin_bl I q dec_int)
  | str j=>obtain ⟨t',rfl⟩:=ry; exact PySem.EqMixed.eq_int_str (fin_bl I q (by simp))
  | _=>exact absurd (show false = true from hs) Bool.false_ne_true
 | str i =>
  obtain ⟨t,rfl⟩:=rx
  cases y with
  | non=>cases ry; exact PySem.EqNone.eq_str_none (fin_bl I q (by simp))
  | bl j=>cases ry; exact PySem.EqMixed.eq_str_bool (fin_bl I q (by simp))
  | int j=>obtain ⟨t',rfl⟩:=ry; exact PySem.EqMixed.eq_str_int (fin_bl I q (by simp))
  | str j=>obtain ⟨t',rfl⟩:=ry; exact eq_str (fin_bl I q dec_str)
  | _=>exact absurd (show false = true from hs) Bool.false_ne_true
 | byt i =>
  obtain ⟨t,rfl⟩:=rx
  cases y with
  | byt j=>obtain ⟨t',rfl⟩:=ry; exact PySem.W.eq_bytes (fin_bl I q dec_byt)
  | _=>exact absurd (show false = true from hs) Bool.false_ne_true
 | _=>cases y <;> exact absurd (show false = true from hs) Bool.false_ne_true
theorem op_ne:OpR X (compareOp .NotEq) rNe:=by
 intro pins s σ H x y v u Q I rx ry h
 obtain ⟨hs,q⟩:=h
 cases x with
 | non =>
  cases rx
  cases y with
  | non=>cases ry; exact PySem.EqNone.ne_none_none (fin_bl I q (by simp))
  | bl j=>cases ry; exact PySem.EqNone.ne_none_bool (fin_bl I q (by simp))
  | int j=>obtain ⟨t',rfl⟩:=ry; exact PySem.EqNone.ne_none_int (fin_bl I q (by simp))
  | str j=>obtain ⟨t',rfl⟩:=ry; exact PySem.EqNone.ne_none_str (fin_bl I q (by simp))
  | _=>exact absurd (show false = true from hs) Bool.false_ne_true
 | bl i =>
  cases rx
  cases y with
  | non=>cases ry; exact PySem.EqNone.ne_bool_none (fin_bl I q (by simp))
  | bl j=>cases ry; exact ne_bool (fin_bl I q (congrArg not dec_bl))
  | str j=>obtain ⟨t',rfl⟩:=ry; exact PySem.EqMixed.ne_bool_str (fin_bl I q (by simp))
  | _=>exact absurd (show false = true from hs) Bool.false_ne_true
 | int i =>
  obtain ⟨t,rfl⟩:=rx
  cases y with
  | non=>cases ry; exact PySem.EqNone.ne_int_none (fin_bl I q (by simp))
  | int j=>obtain ⟨t',rfl⟩:=ry; exact ne_int (fin_bl I q (congrArg not dec_int))
  | str j=>obtain ⟨t',rfl⟩:=ry; exact PySem.EqMixed.ne_int_str (fin_bl I q (by simp))
  | _=>exact absurd (show false = true from hs) Bool.false_ne_true
 | str i =>
  obtain ⟨t,rfl⟩:=rx
  cases y with
  | non=>cases ry; exact PySem.EqNone.ne_str_none (fin_bl I q (by simp))
  | bl j=>cases ry; exact PySem.EqMixed.ne_str_bool (fin_bl I q (by simp))
  | int j=>obtain ⟨t',rfl⟩:=ry; exact PySem.EqMixed.ne_str_int (fin_bl I q (by simp))
  | str j=>obtain ⟨t',rfl⟩:=ry; exact ne_str (fin_bl I q (congrArg not dec_str))
  | _=>exact absurd (show false = true from hs) Bool.false_ne_true
 | byt i =>
  obtain ⟨t,rfl⟩:=rx
  cases y with
  | byt j=>obtain ⟨t',rfl⟩:=ry; exact PySem.W.ne_bytes (fin_bl I q (congrArg not dec_byt))
  | _=>exact absurd (show false = true from hs) Bool.false_ne_true
 | _=>cases y <;> exact absurd (show false = true from hs) Bool.false_ne_true
theorem op_lt:OpR X (compareOp .Lt) (rI0 fun i j=>.bl (decide (i < j))):=opB0 fun _ _ _ _ _ _ _ q=>lt_int q
theorem op_le:OpR X (compareOp .LtE) (rI0 fun i j=>.bl (decide (i<=j))):=opB0 fun _ _ _ _ _ _ _ q=>le_int q
theorem op_gt:OpR X (compareOp .Gt) (rI0 fun i j=>.bl (decide (j < i))):=opB0 fun _ _ _ _ _ _ _ q=>gt_int q
theorem op_ge:OpR X (compareOp .GtE) (rI0 fun i j=>.bl (decide (j<=i))):=opB0 fun _ _ _ _ _ _ _ q=>ge_int q
theorem op_in_str:OpR X (compareOp .In) (fun x y H Q=>∃ i j,x = .str i/\y = .str j/\Q (.bl (!(Builtin.Str.occurrences j i 0 j.length 1).isEmpty)) H):=by
 intro pins s σ H x y v u Q I rx ry h
 obtain ⟨i,j,rfl,rfl,q⟩:=h
 obtain ⟨t,rfl⟩:=rx
 obtain ⟨t',rfl⟩:=ry
 exact in_str (fin_bl I q rfl)
theorem op_isN:OpR X (compareOp .Is) (fun x y H Q=>y = .non/\Q (.bl (decide (x = .non))) H):=by
 intro pins s σ H x y v u Q I rx ry h
 obtain ⟨rfl,q⟩:=h
 cases ry
 refine is_none_gen (fin_bl I q ?_)
 cases x <;> first
  | (cases rx; rfl)
  | (obtain ⟨t,rfl⟩:=rx; rfl)
theorem nomark (b:Expr) {op:CmpOp} (h:op ≠ .In:=by decide) (h2:op ≠ .NotIn:=by decide):behindInMarks op b = false:=by
 have e1:(op == CmpOp.In) = false:=by cases op <;> first | rfl | exact absurd rfl h
 have e2:(op == CmpOp.NotIn) = false:=by cases op <;> first | rfl | exact absurd rfl h2
 cases b <;> simp [behindInMarks,e1,e2]
theorem pe_cmpR {op:CmpOp} {r:R2} (ho:OpR X (compareOp op) r) (ha:PE X a ta) (hb:PE X b tb) (hm:behindInMarks op b = false):PE X (.Compare a [op] [b] pos) (tOp r ta tb):=by
 intro pins s σ H Q I h
 exact wpAny_Compare1 (binT ha hb I h fun v u s2 x y H2 I2 rx ry q=>ho pins s2 σ H2 x y v u Q I2 rx ry q) hm
noncomputable def tTest (t:TE):TT:=fun σ H Q=>t σ H fun x H'=>∃ k,x = .bl k/\Q k H'
theorem pt_cmpR {op:CmpOp} {r:R2} (ho:OpR X (compareOp op) r) (ha:PE X a ta) (hb:PE X b tb) (hm:behindInMarks op b = false):PT X (.Compare a [op] [b] pos) (tTest (tOp r ta tb)):=by
 intro pins s σ H Q I h
 refine wpAny_isTrue_Compare1 (thn (ha pins s σ H _ I h) fun v s1 ⟨x,H1,I1,r1,q1⟩=>thn (hb pins s1 σ H1 _ I1 q1) fun u s2 ⟨y,H2,I2,r2,q2⟩ =>
  thn (ho pins s2 σ H2 x y v u _ I2 r1 r2 q2) fun c s3 ⟨z,H3,I3,r3,k,e,q3⟩=>?_) hm
 subst e
 cases r3
 exact wpAny_truthy_bool ⟨H3,I3,q3⟩
noncomputable def tChain (r r':R2) (ta tb tc:TE):TE:=fun σ H Q=>ta σ H fun x H1=>tb σ H1 fun y H2=>r x y H2 fun z H3=>∃ k,z = .bl k /\
 (if k = true then tc σ H3 fun w' H4=>r' y w' H4 Q else Q (.bl false) H3)
theorem pt_chain {op op':CmpOp} {r r':R2} (ho:OpR X (compareOp op) r) (ho':OpR X (compareOp op') r') (ha:PE X a ta) (hb:PE X b tb) (hc:PE X c tc)
  (hm:lastMarks [op,op'] [b,c] = false:=by with_unfolding_all rfl):PT X (.Compare a [op,op'] [b,c] pos) (tTest (tChain r r' ta tb tc)):=by
 intro pins s σ H Q I h
 refine isTrue_chain (thn (ha pins s σ H _ I h) fun v s1 ⟨x,H1,I1,r1,q1⟩=>test_link (thn (hb pins s1 σ H1 _ I1 q1) fun u s2 ⟨y,H2,I2,r2,q2⟩ =>
  thn (ho pins s2 σ H2 x y v u _ I2 r1 r2 q2) fun d s3 ⟨z,H3,I3,r3,k,e,q3⟩=>?_)) hm
 subst e
 cases r3
 refine wpAny_truthy_bool ?_
 cases k with
 | false =>
  obtain ⟨k',e',q'⟩:=q3
  cases e'
  exact ite_ff ⟨H3,I3,q'⟩
 | true =>
  refine ite_tt (test_last (thn (hc pins s3 σ H3 _ I3 q3) fun w' s4 ⟨z',H4,I4,r4,q4⟩=>thn (ho' pins s4 σ H4 y z' u w' _ I4 r2 r4 q4) fun d' s5 ⟨z2,H5,I5,r5,k2,e2,q5⟩=>?_))
  subst e2
  cases r5
  exact wpAny_truthy_bool ⟨H5,I5,q5⟩
noncomputable def TruV (K:PySem.W.Frag) (x:V) (H:Hp) (k:Bool):Prop :=
 match x with
 | .non=>k = false
 | .bl b=>k = b
 | .int i=>k = (i != 0)
 | .str y=>y.length<=sizeLine/\k = ((y.length:Int) != 0)
 | .byt y=>y.size<=sizeLine/\k = ((y.size:Int) != 0)
 | .ref p=>(∃ xs,SqL K H p xs/\k = !xs.isEmpty)\/(∃ xs,SqT K H p xs/\k = !xs.isEmpty)\/∃ kvs,H p = some (.dK kvs)/\k = !kvs.isEmpty
 | _=>False
theorem isEmpty_kv {κ:Type} {kvs:List (κ × V)} {vs:List (κ × Value)} (r:KV kvs vs):(!vs.isEmpty) = !kvs.isEmpty:=by
 cases r <;> rfl
theorem isEmpty_of {xs:List V} {its:List Value} (r:Vals xs its):(!its.toArray.isEmpty) = !xs.isEmpty:=by
 cases r <;> simp
theorem line63:(sizeLine:Nat) < 2 ^ 63:=by rw [sizeLine_eq]; decide
theorem tru_ok:TruR X (fun x H Q=>∃ k,TruV X.K x H k/\Q k H):=by
 intro pins s σ H x v Q I rx h
 obtain ⟨k,e,q⟩:=h
 have hl:=line63
 have hs:sizeLine = 16777216:=sizeLine_eq
 cases x with
 | non =>
  cases rx
  have e':k = false:=e
  subst e'
  exact truthy_none ⟨H,I,q⟩
 | bl b =>
  cases rx
  have e':k = b:=e
  subst e'
  exact wpAny_truthy_bool ⟨H,I,q⟩
 | int i =>
  obtain ⟨t,rfl⟩:=rx
  have e':k = (i != 0):=e
  subst e'
  exact PySem.P.truthy_int ⟨H,I,q⟩
 | str y =>
  obtain ⟨t,rfl⟩:=rx
  obtain ⟨hy,e'⟩:y.length<=sizeLine/\k = ((y.length:Int) != 0):=e
  subst e'
  exact PySem.P.truthy_str (by omega) ⟨H,I.tok _,q⟩
 | byt y =>
  obtain ⟨t,rfl⟩:=rx
  obtain ⟨hy,e'⟩:y.size<=sizeLine/\k = ((y.size:Int) != 0):=e
  subst e'
  exact PySem.W.truthy_bytes (by omega) ⟨H,I.tok _,q⟩
 | ref p =>
  cases rx
  have e':(∃ xs,SqL X.K H p xs/\k = !xs.isEmpty)\/(∃ xs,SqT X.K H p xs/\k = !xs.isEmpty)\/∃ kvs,H p = some (.dK kvs)/\k = !kvs.isEmpty:=e
  rcases e' with ⟨xs,hx,e'⟩ | ⟨xs,hx,e'⟩ | ⟨kvs,hx,e'⟩
  ·subst e'
   obtain ⟨its,r,pl,hz⟩:=I.list hx
   have hlen:=r.length
   exact wpAny_truthy_list pl.isList (by simp only [List.size_toArray]; omega) ⟨H,I.tok _,by rw [isEmpty_of r]; exact q⟩
  ·subst e'
   obtain ⟨its,r,pl,hz⟩:=I.tuple hx
   have hlen:=r.length
   exact truthy_tuple pl (by simp only [List.size_toArray]; omega) ⟨H,I.tok _,by rw [isEmpty_of r]; exact q⟩
  ·subst e'
   obtain ⟨hz,hS,vs,r,m⟩:kvs.length<=sizeLine/\(p == sysModules) = false/\∃ vs,KV kvs vs/\s.heap.DictOf (mixKind X.prog X.w) p vs:=I.hok p _ hx
   have hlen:kvs.length = vs.length:=Paired.length r
   exact wpAny_truthy_dict hS m (by omega) ⟨H,I.tok _,by rw [isEmpty_kv r]; exact q⟩
 | _=>exact (show False from e).elim
theorem pt_truth (ha:PE X a ta) (he:∀ whole,isTrue a X.env whole = (do let v <-whole; standAt a.pos; holding [v] (truthy v))) :
  PT X a (fun σ H Q=>ta σ H fun x H'=>∃ k,TruV X.K x H' k/\Q k H'):=by
 intro pins s σ H Q I h
 exact isTrue_plain (thn (ha pins s σ H _ I h) fun v s1 ⟨x,H1,I1,r1,q1⟩=>tru_ok pins s1 σ H1 x v Q I1 r1 q1) (he _)
theorem vals1 {x:V} {us:List Value} (r:Vals [x] us):∃ u,us = [u]/\RelV x u:=by
 cases r with
 | cons r1 r2=>cases r2; exact ⟨_,rfl,r1⟩
theorem vals2 {x y:V} {us:List Value} (r:Vals [x,y] us):∃ u w',us = [u,w']/\RelV x u/\RelV y w':=by
 cases r with
 | cons r1 r2 =>
  cases r2 with
  | cons r3 r4=>cases r4; exact ⟨_,_,rfl,r1,r3⟩
theorem call_abs:CallR X (.builtin "abs") (fun xs H Q=>∃ i,xs = [.int i]/\Q (.int (if i < 0 then -i else i)) H):=by
 intro pins s σ H xs us Q I r h
 obtain ⟨i,rfl,q⟩:=h
 obtain ⟨u,rfl,t,rfl⟩:=vals1 r
 exact call_abs_int fun u tk=>⟨.int (if i < 0 then -i else i),H,I.tok _,⟨_,rfl⟩,q⟩
theorem call_max2 (hc:X.calm = true):CallR X (.builtin "max") (fun xs H Q=>∃ i j,xs = [.int i,.int j]/\Q (.int (if j > i then j else i)) H):=by
 intro pins s σ H xs us Q I r h
 obtain ⟨i,j,rfl,q⟩:=h
 obtain ⟨u,w',rfl,⟨t,rfl⟩,⟨t',rfl⟩⟩:=vals2 r
 refine max_two_ints (I.ok.hd hc) fun h' tk k=>⟨_,H,I.kept k,?_,q⟩
 by_cases hj:j > i
 ·rw [if_pos hj,if_pos hj]; exact ⟨_,rfl⟩
 ·rw [if_neg hj,if_neg hj]; exact ⟨_,rfl⟩
theorem call_min2 (hc:X.calm = true):CallR X (.builtin "min") (fun xs H Q=>∃ i j,xs = [.int i,.int j]/\Q (.int (if j < i then j else i)) H):=by
 intro pins s σ H xs us Q I r h
 obtain ⟨i,j,rfl,q⟩:=h
 obtain ⟨u,w',rfl,⟨t,rfl⟩,⟨t',rfl⟩⟩:=vals2 r
 refine min_two_ints (I.ok.hd hc) fun h' tk k=>⟨_,H,I.kept k,?_,q⟩
 by_cases hj:j < i
 ·rw [if_pos hj,if_pos hj]; exact ⟨_,rfl⟩
 ·rw [if_neg hj,if_neg hj]; exact ⟨_,rfl⟩
theorem call_int1:CallR X (.type "int") (fun xs H Q=>(∃ i,xs = [.int i]/\Q (.int i) H)\/∃ k,xs = [.bl k]/\Q (.int (if k then 1 else 0)) H):=by
 intro pins s σ H xs us Q I r h
 rcases h with ⟨i,rfl,q⟩ | ⟨k,rfl,q⟩
 ·obtain ⟨u,rfl,t,rfl⟩:=vals1 r
  exact call_int_int ⟨.int i,H,I,⟨_,rfl⟩,q⟩
 ·obtain ⟨u,rfl,r1⟩:=vals1 r
  cases r1
  exact call_int_bool ⟨.int (if k then 1 else 0),H,I.tok _,⟨_,rfl⟩,q⟩
end
end L2
namespace L2
open PySem PySem.Spec PyProof.Rows
structure ObjM (h:Heap) (x dx C:Addr) (mA:Str->Option Value):Prop where
 obj:h.get? x = some (PySem.W.instObj C dx)
 ns:h.Ns1 dx mA
 ne:dx ≠ x
theorem lookIn_ns {h:Heap} {dx:Addr} {mA:Str->Option Value} (n:h.Ns1 dx mA):∃ od,h.get? dx = some od/\∀ name,PySem.W.lookIn name od = some (mA name):=by
 obtain ⟨o,es,ep,ho,hd,hk,_,hm⟩:=n
 refine ⟨o,ho,fun name=>?_⟩
 have e:=hm name
 unfold nsFind findBy at e
 rw [<-Array.find?_toList] at e
 unfold PySem.W.lookIn
 rw [hd]
 dsimp only
 split
 ·rename_i y q
  rw [q] at e
  exact congrArg some e
 ·rename_i q
  rw [q] at e
  have a:es.toList.any (·.refKey) = false:=by
   rw [List.any_eq_false]
   intro y hy
   obtain ⟨z,t,hkey⟩:=hk y (Array.mem_toList_iff.mp hy)
   simp [DictEntry.refKey,hkey]
  have a':¬ es.toList.any (·.refKey) = true:=by rw [a]; exact Bool.false_ne_true
  rw [if_neg a']
  exact congrArg some e
theorem ObjM.look {h:Heap} {x dx C:Addr} {mA:Str->Option Value} (I:ObjM h x dx C mA):∃ od,PySem.W.InstAt h x (PySem.W.instObj C dx) C (some od)/\∀ name,PySem.W.lookIn name od = some (mA name) :=
 let ⟨od,ho,hl⟩:=lookIn_ns I.ns
 ⟨od,⟨I.obj,rfl,rfl,ho⟩,hl⟩
section
variable {prog:Program} {w:World} {A:Around} {E:Value->Shared->Prop} {s:Shared} {K:PySem.W.Frag} {x dx C f:Addr} {mA:Str->Option Value} {name:Str} {v:Value}
theorem get_map {expr:Bool} {Q:Value->Shared->Prop} (X:K.In s.heap) (I:ObjM s.heap x dx C mA) (hg:PySem.W.plainGet K C name = true) (hh:PySem.W.hasDictIn K C = true)
  (ha:PySem.W.findIn K (.ref C) name = some none) (hv:mA name = some v) (hv':PySem.W.handedIn v = true) (h:Q v { s with toks:=s.toks + 1 }) :
  wpAny (model prog w) A (getAttr (.ref x) name expr) Q E s:=by
 obtain ⟨od,J,hl⟩:=I.look
 exact PySem.W.get_value X J (PySem.W.plainGet_of hg).1 (PySem.W.findObj_own hh ha rfl (by rw [hl,hv])) hv' h
theorem get_meth {pl:Sem Bool} {Q:Value × List Value->Shared->Prop} (X:K.In s.heap) (I:ObjM s.heap x dx C mA) (hg:PySem.W.plainGet K C name = true)
  (hf:PySem.W.findIn K (.ref C) name = some (some (.ref f))) (ht:PySem.W.isFn K (.ref f) = true) (hv:mA name = none) (h:Q (.ref f,[.ref x]) s) :
  wpAny (model prog w) A (getMethod (.ref x) name pl) Q E s:=by
 obtain ⟨od,J,hl⟩:=I.look
 exact PySem.W.method_fn X J (PySem.W.plainGet_of hg).1 (PySem.W.plainGet_of hg).2 hf (beq_iff_eq.mp ht) (by show (PySem.W.lookIn name od).map (·.isSome) = some false; rw [hl,hv]; rfl) h
theorem set_map {ns:List Str} {Q:Unit->Shared->Prop} (X:K.In s.heap) (I:ObjM s.heap x dx C mA)
  (hs:PySem.W.findIn K (.ref C) "__setattr__" = some (some (.builtin "object.__setattr__"))) (hp:PySem.W.plainOver K C = true) (ht:PySem.W.takerIn K C name = some none) (hh:PySem.W.hasDictIn K C = true)
  (hw:PySem.Within mA ns) (hsz:ns.length<=sizeLine)
  (h:∀ h',ObjM h' x dx C (fun y=>if y = name then some v else mA y)->Heap.SameBut dx s.heap h'->Q () { s with heap:=h',toks:=s.toks + 2 }) :
  wpAny (model prog w) A (setAttr (.ref x) name v) Q E s:=by
 obtain ⟨od,J,hl⟩:=I.look
 refine PySem.W.set_plain X J hs (PySem.W.osa_open (s:={ s with toks:=s.toks + 1 }) (r:=none) X J hp ht fun b=>?_)
 obtain ⟨cd,hc,hd'⟩:=PySem.W.any_some hh
 have hx:s.heap.get? x = some ⟨.ref C,some dx,.plain,#[]⟩:=I.obj
 refine wpAny_bind (wpAny_pure (wpAny_bind (wpAny_bind (wpAny_loadPart hx (wpAny_bind (PySem.W.Looks.here (s:={ s with toks:=s.toks + 1 }) (PySem.W.looks_clsIn X hc) ?_))))))
 rw [hd']
 refine wpAny_pure (a:=some dx) (wpAny_bind (wpAny_pure (wpAny_bind ?_)))
 refine wpAny_nsSet1 (s:={ s with toks:=s.toks + 1 }) I.ns fun h' hn2 hs2=>?_
 obtain ⟨oD,esD,epD,hoD,hdD,hcD⟩:=hn2.count (PySem.Within.cons name v hw)
 refine wpAny_bind (wpAny_lookBehind hoD (by rw [hdD]; exact pastItsLine_dict (Nat.le_trans hcD (by rw [List.length_cons]; omega))) ?_)
 exact wpAny_pure (h _ ⟨(hs2.2 _ (Ne.symm I.ne)).trans I.obj,hn2,I.ne⟩ hs2)
theorem make_map {R:Result->Shared->Prop} {vs:List Value} {kw:List (Str × Value)} (X:K.In s.heap) (hm:PySem.W.makesIn K C = true)
  (hi:PySem.W.findIn K (.ref C) "__init__" = some (some (.ref f))) (hf:PySem.W.typeIn K (.ref f) = some (.type "function"))
  (h:codeAny (model prog w) (A.under (.builtin "type.__call__" ⟨.ref C :: vs,kw⟩)) (.call (.ref f) ⟨.ref (s.heap.objs.size + 1) :: vs,kw⟩) (PySem.W.InitBack (s.heap.objs.size + 1) R)
   { s with heap:=(s.heap.push PySem.W.emptyDict).push (PySem.W.instObj C s.heap.objs.size) }) :
  codeAny (model prog w) A (.call (.ref C) ⟨vs,kw⟩) R s:=by
 obtain ⟨hh,g,d,t,os⟩:=s
 exact PySem.W.make_core (PySem.W.makes_of X hm) (PySem.W.looks_findIn X hi) (fun self=>PySem.W.bind_fn X self hf) (.inl rfl) h
end
noncomputable def putF (f:Str) (v:V):List (Str × V)->List (Str × V)
 | []=>[(f,v)]
 | (g,x) :: r=>if g = f then (g,v) :: r else (g,x) :: putF f v r
theorem lookup_putF (f g:Str) (v:V):∀ fs:List (Str × V),(putF f v fs).lookup g = if g = f then some v else fs.lookup g
 | []=>by
  show List.lookup g [(f,v)] = _
  by_cases h:g = f
  ·have hb:(g == f) = true:=beq_iff_eq.mpr h
   simp only [List.lookup,hb,if_pos h]
  ·have hb:(g == f) = false:=beq_eq_false_iff_ne.mpr h
   simp only [List.lookup,hb,if_neg h]
 | (k,x) :: r=>by
  have ih:=lookup_putF f g v r
  rw [show putF f v ((k,x) :: r) = (if k = f then (k,v) :: r else (k,x) :: putF f v r) from rfl]
  by_cases hk:k = f
  ·rw [if_pos hk]
   by_cases h:g = k
   ·have hb:(g == k) = true:=beq_iff_eq.mpr h
    simp only [List.lookup,hb,if_pos (h.trans hk)]
   ·have hb:(g == k) = false:=beq_eq_false_iff_ne.mpr h
    simp only [List.lookup,hb,if_neg (fun e:g = f=>h (e.trans hk.symm))]
  ·rw [if_neg hk]
   by_cases h:g = k
   ·have hb:(g == k) = true:=beq_iff_eq.mpr h
    simp only [List.lookup,hb,if_neg (fun e:g = f=>hk (h.symm.trans e))]
   ·have hb:(g == k) = false:=beq_eq_false_iff_ne.mpr h
    simp only [List.lookup,hb]
    exact ih
theorem keys_putF (f:Str) (v:V):∀ fs:List (Str × V),f ∈ (putF f v fs).map (·.1)/\∀ g,g ∈ fs.map (·.1)->g ∈ (putF f v fs).map (·.1)
 | []=>⟨by simp [putF],fun g h=>by simp at h⟩
 | (k,x) :: r=>by
  obtain ⟨i1,i2⟩:=keys_putF f v r
  rw [show putF f v ((k,x) :: r) = (if k = f then (k,v) :: r else (k,x) :: putF f v r) from rfl]
  by_cases hk:k = f
  ·rw [if_pos hk]
   subst hk
   exact ⟨by simp,fun g h=>by simpa using h⟩
  ·rw [if_neg hk]
   refine ⟨?_,fun g h=>?_⟩
   ·rw [List.map_cons]
    exact List.mem_cons_of_mem _ i1
   ·rw [List.map_cons] at h ⊢
    rcases List.mem_cons.mp h with e | e
    ·exact List.mem_cons.mpr (.inl e)
    ·exact List.mem_cons_of_mem _ (i2 g e)
theorem length_putF (f:Str) (v:V):∀ fs:List (Str × V),(putF f v fs).length<=fs.length + 1
 | []=>by simp [putF]
 | (k,x) :: r=>by
  have ih:=length_putF f v r
  rw [show putF f v ((k,x) :: r) = (if k = f then (k,v) :: r else (k,x) :: putF f v r) from rfl]
  by_cases hk:k = f
  ·rw [if_pos hk,List.length_cons,List.length_cons]; omega
  ·rw [if_neg hk,List.length_cons,List.length_cons]; omega
theorem RelO.some_of {v:V} {o:Option Value} (r:RelO (some v) o):∃ u,o = some u/\RelV v u:=by
 cases o with
 | none=>exact (show False from r).elim
 | some u=>exact ⟨u,rfl,r⟩
theorem RelO.none_of {o:Option Value} (r:RelO none o):o = none:=by
 cases o with
 | none=>rfl
 | some u=>exact (show False from r).elim
theorem handed_of {v:V} {u:Value} (r:RelV v u):PySem.W.handedIn u = true:=by
 cases v with
 | non=>cases (show u = Value.none from r); rfl
 | bl b=>cases (show u = Value.bool b from r); rfl
 | int i=>obtain ⟨t,e⟩:=(show ∃ t,u = Value.int i t from r); cases e; rfl
 | str x=>obtain ⟨t,e⟩:=(show ∃ t,u = Value.str x t from r); cases e; rfl
 | byt b=>obtain ⟨t,e⟩:=(show ∃ t,u = Value.bytes b t from r); cases e; rfl
 | flt b=>obtain ⟨t,e⟩:=(show ∃ t,u = Value.float b t from r); cases e; rfl
 | ref a=>cases (show u = Value.ref a from r); rfl
 | ty n=>cases (show u = Value.type n from r); rfl
section
variable {P:Program} {w:World} {H H':Hp} {h h':Heap} {a C dx:Addr} {fs fs':List (Str × V)}
theorem ins_get (hok:HOk P w H h) (e:H a = some (.ins C dx fs)):∃ mA,ObjM h a dx C mA/\(∀ f,RelO (fs.lookup f) (mA f))/\PySem.Within mA (fs.map (·.1))/\fs.length<=1000/\H dx = some (.own a):=by
 obtain ⟨d,z,ne,ob,mA,n,r,q⟩:=(show ObjOk P w H h a (.ins C dx fs) from hok a _ e)
 exact ⟨mA,⟨ob,n,ne⟩,r,q,z,d⟩
end
structure Cls (K:PySem.W.Frag) (C:Addr):Prop where
 pg:PySem.W.plainGet K C Str.empty = true
 hd:PySem.W.hasDictIn K C = true
 po:PySem.W.plainOver K C = true
 sa:PySem.W.findIn K (.ref C) "__setattr__" = some (some (.builtin "object.__setattr__"))
theorem Cls.get {K:PySem.W.Frag} {C:Addr} (c:Cls K C) (f:Str):PySem.W.plainGet K C f = true:=c.pg
noncomputable def NoAttr (K:PySem.W.Frag) (C:Addr) (f:Str):Prop:=PySem.W.findIn K (.ref C) f = some none
theorem NoAttr.taker {K:PySem.W.Frag} {C:Addr} {f:Str} (n:NoAttr K C f):PySem.W.takerIn K C f = some none:=by
 unfold PySem.W.takerIn
 rw [show PySem.W.findIn K (.ref C) f = some none from n]
 rfl
structure Meth (K:PySem.W.Frag) (C:Addr) (m:Str) (f:Addr):Prop where
 at_:PySem.W.findIn K (.ref C) m = some (some (.ref f))
 fn:PySem.W.isFn K (.ref f) = true
 kp:PySem.W.keepIn K (.ref f) = true
section
variable {X:Cx} {pins:List (Addr × Obj)} {σ:St} {H:Hp} {s:Shared} {a C dx:Addr} {fs:List (Str × V)} {f:Str} {v:V} {A:Around} {E:Value->Shared->Prop}
theorem getattr_ok {b:Bool} {Q:Value->Shared->Prop} (I:Inv X pins σ H s) (e:H a = some (.ins C dx fs)) (c:Cls X.K C) (n:NoAttr X.K C f) (l:fs.lookup f = some v)
  (h:∀ u s',Inv X pins σ H s'->RelV v u->Q u s'):wpAny (model X.prog X.w) A (getAttr (.ref a) f b) Q E s:=by
 obtain ⟨mA,O,r,_,_,_⟩:=ins_get I.hok e
 obtain ⟨u,hu,ru⟩:=RelO.some_of (v:=v) (o:=mA f) (by rw [<-l]; exact r f)
 exact get_map I.kIn O (c.get f) c.hd n hu (handed_of ru) (h u _ (I.tok _) ru)
theorem getmeth_ok {m:Str} {g:Addr} {pl:Sem Bool} {Q:Value × List Value->Shared->Prop} (I:Inv X pins σ H s) (e:H a = some (.ins C dx fs)) (c:Cls X.K C) (k:Meth X.K C m g) (l:fs.lookup m = none)
  (h:Q (.ref g,[.ref a]) s):wpAny (model X.prog X.w) A (getMethod (.ref a) m pl) Q E s:=by
 obtain ⟨mA,O,r,_,_,_⟩:=ins_get I.hok e
 have hn:mA m = none:=RelO.none_of (by rw [<-l]; exact r m)
 exact get_meth I.kIn O (c.get m) k.at_ k.fn hn h
theorem setattr_ok {y:V} {u:Value} {Q:Unit->Shared->Prop} (I:Inv X pins σ H s) (e:H a = some (.ins C dx fs)) (c:Cls X.K C) (n:NoAttr X.K C f) (hl:fs.length < 1000) (ry:RelV y u)
  (h:∀ s',Inv X pins σ (upd H a (.ins C dx (putF f y fs))) s'->Q () s'):wpAny (model X.prog X.w) A (setAttr (.ref a) f u) Q E s:=by
 obtain ⟨mA,O,r,wi,_,ho⟩:=ins_get I.hok e
 have hz:(fs.map (·.1)).length<=sizeLine:=by rw [List.length_map,sizeLine_eq]; omega
 refine set_map I.kIn O c.sa c.po n.taker c.hd wi hz fun h' O' sb=>h _ ?_
 have hd:∃ o,h'.get? dx = some o:=let ⟨o,_,_,e',_⟩:=O'.ns; ⟨o,e'⟩
 refine I.write (x:=a) (e:=dx) (by rw [e]; exact True.intro) (.inr ho) (fun b q hb z=>(sb.2 b hb).trans z) hd ?_
 refine ⟨by rw [upd_ne O.ne]; exact ho,?_,O.ne,O'.obj,_,O'.ns,fun g=>?_,fun g hg=>?_⟩
 ·have:=length_putF f y fs; omega
 ·show RelO ((putF f y fs).lookup g) (if g = f then some u else mA g)
  rw [lookup_putF]
  by_cases q:g = f
  ·rw [if_pos q,if_pos q]; exact ry
  ·rw [if_neg q,if_neg q]; exact r g
 ·by_cases q:g = f
  ·rw [q]; exact (keys_putF f y fs).1
  ·refine (keys_putF f y fs).2 g (wi g fun z=>hg ?_)
   show (if g = f then some u else mA g) = none
   rw [if_neg q]; exact z
theorem Inv.made (I:Inv X pins σ H s):Inv X pins σ (upd (upd H s.heap.objs.size (.own (s.heap.objs.size + 1))) (s.heap.objs.size + 1) (.ins C s.heap.objs.size []))
  { s with heap:=(s.heap.push PySem.W.emptyDict).push (PySem.W.instObj C s.heap.objs.size) }:=by
 have e1:(s.heap.push PySem.W.emptyDict).get? s.heap.objs.size = some PySem.W.emptyDict:=Heap.get?_push_size s.heap rfl
 have e2:((s.heap.push PySem.W.emptyDict).push (PySem.W.instObj C s.heap.objs.size)).get? (s.heap.objs.size + 1) = some (PySem.W.instObj C s.heap.objs.size):=by
  have:=Heap.get?_push_size (s.heap.push PySem.W.emptyDict) (o:=PySem.W.instObj C s.heap.objs.size) rfl
  rwa [Heap.size_push] at this
 have e3:(s.heap.push PySem.W.emptyDict).Ns s.heap.objs.size (fun _=>none):=⟨PySem.W.emptyDict,#[],_,e1,rfl,(fun e he=>absurd he (by simp)),fun _=>rfl⟩
 have I1:=I.laid (a:=s.heap.objs.size) (o:=.own (s.heap.objs.size + 1)) (h':=s.heap.push PySem.W.emptyDict) (t':=s.toks) (fun b u q=>Heap.get?_push_of_some _ q) (Nat.le_refl _) ⟨_,e1⟩
 refine I1.laid (a:=s.heap.objs.size + 1) (o:=.ins C s.heap.objs.size []) (t':=s.toks) (fun b u q=>Heap.get?_push_of_some _ q) (Nat.le_of_eq (Heap.size_push _ _)) ?_
 have ne:s.heap.objs.size ≠ s.heap.objs.size + 1:=Nat.ne_of_lt (Nat.lt_succ_self _)
 refine ⟨by rw [upd_ne ne,upd_same],Nat.zero_le _,ne,e2,fun _=>none,(Heap.Ns1.of_empty e3).at fun o q=>Heap.get?_push_of_some _ q,fun _=>True.intro,fun y hy=>absurd rfl hy⟩
theorem attr_of {prog:Program} {w:World} {env:Env} {e:Expr} {f:Str} {pos:Pos} {s:Shared} {Q:Value->Shared->Prop} (hb:attributeBase e f env (eval e env) = eval e env)
  (h:wpAny (model prog w) A (eval e env) (fun o s₁=>wpAny (model prog w) A (getAttr o f true) Q E s₁) E s):wpAny (model prog w) A (eval (.Attribute e f pos) env) Q E s :=
 Attribute_any_ h (by rw [arm_eval_Attribute,hb])
end
noncomputable def tFld (K:PySem.W.Frag) (ta:TE) (f:Str):TE:=fun σ H Q=>ta σ H fun x H1=>∃ a C dx fs v,x = .ref a/\H1 a = some (.ins C dx fs)/\Cls K C/\NoAttr K C f/\fs.lookup f = some v/\Q v H1
noncomputable def sFld (K:PySem.W.Frag) (ta tv:TE) (f:Str):TS:=fun D σ H=>tv σ H fun y H1=>ta σ H1 fun x H2=>∃ a C dx fs,x = .ref a/\H2 a = some (.ins C dx fs)/\Cls K C/\NoAttr K C f/\fs.length < 1000 /\
 D.nx σ (upd H2 a (.ins C dx (putF f y fs)))
section
variable {X:Cx} {o e value:Expr} {f:Str} {pos pos' tpos:Pos} {ta tv:TE}
theorem pe_fld (he:PE X e ta) (hb:attributeBase e f X.env (eval e X.env) = eval e X.env):PE X (.Attribute e f pos) (tFld X.K ta f):=by
 intro pins s σ H Q I h
 refine attr_of hb (thn (he pins s σ H _ I h) fun u s1 ⟨x,H1,I1,rx,a,C,dx,fs,v,ex,ea,c,n,l,q⟩=>?_)
 subst ex
 obtain rfl:u = Value.ref a:=rx
 exact getattr_ok I1 ea c n l fun u' s2 I2 ru=>⟨v,H1,I2,ru,q⟩
theorem ps_fld (ha:PE X o ta) (hv:PE X value tv) (hs:swapsWith value (some (.Attribute o f pos')) pos.line X.env = pure false):PS X (.Assign [.Attribute o f pos'] value pos) (sFld X.K ta tv f):=by
 intro pins s σ H D I h
 refine plainObj_wpAny_Assign_Attribute (thn (hv pins s σ H _ I h) fun u s1 ⟨y,H1,I1,ry,q⟩=>thn (ha pins s1 σ H1 _ I1 q) fun ov s2 ⟨x,H2,I2,rx,a,C,dx,fs,ex,ea,c,n,l,q2⟩=>?_) hs
 subst ex
 obtain rfl:ov = Value.ref a:=rx
 exact setattr_ok I2 ea c n l ry fun s3 I3=>⟨σ,_,I3,q2⟩
end
section
variable {X:Cx} {pins:List (Addr × Obj)} {σ:St} {H:Hp} {s:Shared} {A:Around} {E:Value->Shared->Prop} {Q:Value->Shared->Prop} {c:Value} {b:Bool}
inductive TyOf (K:PySem.W.Frag) (H:Hp):V->Value->Prop where
 | non:TyOf K H .non (.type "NoneType")
 | bl (x:Bool):TyOf K H (.bl x) (.type "bool")
 | int (i:Int):TyOf K H (.int i) (.type "int")
 | str (x:Str):TyOf K H (.str x) (.type "str")
 | flt (x:UInt64):TyOf K H (.flt x) (.type "float")
 | lst {a:Addr} {xs:List V} (e:H a = some (.lst xs)):TyOf K H (.ref a) (.type "list")
 | frz {a:Addr} {o:Obj} {xs:List V} (e:H a = some (.frz o (.lst xs))):TyOf K H (.ref a) (.type "list")
 | tup {a:Addr} {xs:List V} (e:H a = some (.tup xs)):TyOf K H (.ref a) (.type "tuple")
 | dK {a:Addr} {kvs:List (Key × V)} (e:H a = some (.dK kvs)):TyOf K H (.ref a) (.type "dict")
 | dT {a:Addr} {kvs:List (List Key × V)} (e:H a = some (.dT kvs)):TyOf K H (.ref a) (.type "dict")
 | ins {a C dx:Addr} {fs:List (Str × V)} (e:H a = some (.ins C dx fs)) (cl:Cls K C) (ha:PySem.W.findIn K (.ref C) "__class__" = some (some (.builtin "object.__class__")))
   (hn:PySem.W.specialIn K (.builtin "object.__class__") "__get__" = some (some (.builtin "getset_descriptor.__get__"))) (htk:PySem.W.takesIn K (.builtin "object.__class__") = some true)
   (hm:PySem.W.mroIn K C (.type "object") = some true):TyOf K H (.ref a) (.ref C)
theorem isinst_ok {x:V} {u t:Value} (I:Inv X pins σ H s) (rx:RelV x u) (ty:TyOf X.K H x t) (e:PySem.W.kitOne X.K t c = some b) (h:∀ tk,Q (.bool b) { s with toks:=tk }) :
  wpAny (model X.prog X.w) A (call (.builtin "isinstance") [u,c]) Q E s:=by
 cases ty with
 | non=>cases (show u = Value.none from rx); exact PySem.W.kia_one PySem.W.kitx_none I.kIn True.intro e (fun z=>nomatch z) h
 | bl y=>cases (show u = Value.bool y from rx); exact PySem.W.kia_one PySem.W.kitx_bool I.kIn True.intro e (fun z=>nomatch z) h
 | int i=>obtain ⟨t,q⟩:=(show ∃ t,u = Value.int i t from rx); cases q; exact PySem.W.kia_one PySem.W.kitx_int I.kIn True.intro e (fun z=>nomatch z) h
 | str y=>obtain ⟨t,q⟩:=(show ∃ t,u = Value.str y t from rx); cases q; exact PySem.W.kia_one PySem.W.kitx_str I.kIn True.intro e (fun z=>nomatch z) h
 | flt y=>obtain ⟨t,q⟩:=(show ∃ t,u = Value.float y t from rx); cases q; exact PySem.W.kia_one PySem.W.kitx_float I.kIn True.intro e (fun z=>nomatch z) h
 | @lst a xs ea =>
  cases (show u = Value.ref a from rx)
  obtain ⟨_,_,n,_,h1⟩:=(show ObjOk X.prog X.w H s.heap a (.lst xs) from I.hok a _ ea)
  exact PySem.W.kia_one PySem.W.kitx_list I.kIn ⟨_,h1,rfl⟩ e (fun z=>nomatch z) h
 | @frz a ob xs ea =>
  cases (show u = Value.ref a from rx)
  obtain ⟨_,_,_,n,_,h1⟩:=(show ObjOk X.prog X.w H s.heap a (.frz ob (.lst xs)) from I.hok a _ ea)
  exact PySem.W.kia_one PySem.W.kitx_list I.kIn ⟨_,h1,rfl⟩ e (fun z=>nomatch z) h
 | @tup a xs ea =>
  cases (show u = Value.ref a from rx)
  obtain ⟨_,_,_,p⟩:=(show ObjOk X.prog X.w H s.heap a (.tup xs) from I.hok a _ ea)
  obtain ⟨o,h1,h2,_⟩:=p
  exact PySem.W.kia_one PySem.W.kitx_tuple I.kIn ⟨o,h1,h2⟩ e (fun z=>nomatch z) h
 | @dK a kvs ea =>
  cases (show u = Value.ref a from rx)
  obtain ⟨_,_,vs,_,p⟩:=(show ObjOk X.prog X.w H s.heap a (.dK kvs) from I.hok a _ ea)
  obtain ⟨o,es,ep,h1,h2,_⟩:=p
  exact PySem.W.kia_one PySem.W.kitx_dict I.kIn ⟨o,h1,h2.1⟩ e (fun z=>nomatch z) h
 | @dT a kvs ea =>
  cases (show u = Value.ref a from rx)
  obtain ⟨_,_,xs,_,o,es,ep,h1,h2,_⟩:=(show ObjOk X.prog X.w H s.heap a (.dT kvs) from I.hok a _ ea)
  exact PySem.W.kia_one PySem.W.kitx_dict I.kIn ⟨o,h1,h2.1⟩ e (fun z=>nomatch z) h
 | @ins a C dx fs ea cl ha hn htk hm =>
  cases (show u = Value.ref a from rx)
  obtain ⟨mA,O,_⟩:=ins_get I.hok ea
  obtain ⟨od,J,_⟩:=O.look
  exact PySem.W.kia_one (PySem.W.kitx_own (cl.get _) cl.hd ha hn htk hm) I.kIn J e (fun z=>nomatch z) h
end
end L2
namespace L2
open PySem PySem.Spec PyProof.Rows
structure Room (k:Nat) (A:Around):Prop where
 hd:A.handled = none
 dp:A.depth + 3 * k + 5 < recursionLimit
 un:A.units + 16 * k + 200 < cLine
theorem Room.mono {j k:Nat} {A:Around} (r:Room k A) (h:j<=k):Room j A:=⟨r.hd,by have:=r.dp; omega,by have:=r.un; omega⟩
theorem Room.deeper {k:Nat} {A:Around} (r:Room (k + 1) A) (env:Env):Room k (A.deeper env) :=
 ⟨r.hd,by have:=r.dp; show A.depth + 1 + 3 * k + 5 < _; omega,by have:=r.un; show A.units + 3 + 16 * k + 200 < _; omega⟩
theorem make_depth {A:Around} {C:Addr} {us:List Value} {kw:List (Str × Value)}:(A.under (.builtin "type.__call__" ⟨.ref C :: us,kw⟩)).depth = A.depth + 1:=by
 first | rfl | simp [Around.under,Code.weight,Code.isCreation,Code.isGuard,Code.isCaller,Code.frames,Code.isFrame,guardIds]
theorem make_units {A:Around} {C:Addr} {us:List Value} {kw:List (Str × Value)}:(A.under (.builtin "type.__call__" ⟨.ref C :: us,kw⟩)).units = A.units + 1:=by
 first | rfl | simp [Around.under,Code.cUnits,Code.frames,Code.isFrame]
theorem Room.make {k:Nat} {A:Around} (r:Room (k + 1) A) (C:Addr) (us:List Value) (kw:List (Str × Value)):Room k (A.under (.builtin "type.__call__" ⟨.ref C :: us,kw⟩)) :=
 ⟨r.hd,by have:=r.dp; rw [make_depth]; omega,by have:=r.un; rw [make_units]; omega⟩
theorem Room.depth {k:Nat} {A:Around} (r:Room k A):A.depth < recursionLimit:=by have:=r.dp; omega
theorem Room.units {k:Nat} {A:Around} (r:Room k A):A.units + 64 < cLine:=by have:=r.un; omega
noncomputable def tNil:TA:=fun _ H Q=>Q [] H
noncomputable def tCons (ta:TE) (tr:TA):TA:=fun σ H Q=>ta σ H fun x H1=>tr σ H1 fun xs H2=>Q (x :: xs) H2
section
variable {X:Cx} {e:Expr} {es:List Expr} {te:TE} {t:TA} {pos:Pos}
theorem pa_nil:PA X [] tNil:=fun _ _ _ _ H Q I h=>Calls.spliced_nil ⟨[],H,I,.nil,h⟩
theorem pa_cons (ha:PE X e te) (hr:PA X es t) (hs:starEach (e :: es) X.env = (false,eval e X.env) :: starEach es X.env:=by rfl):PA X (e :: es) (tCons te t):=by
 intro pos pins s σ H Q I h
 rw [hs]
 show wpAny _ _ (spliced ((false,eval e X.env) :: backTo pos (starEach es X.env))) _ _ s
 refine Calls.spliced_cons (thn (ha pins s σ H _ I h) fun u s1 ⟨x,H1,I1,r1,q1⟩=>?_)
 exact thn (hr pos pins s1 σ H1 _ I1 q1) fun us s2 ⟨xs,H2,I2,r2,q2⟩=>⟨x :: xs,H2,I2,.cons r1 r2,q2⟩
noncomputable def tTup (t:TA):TE:=fun σ H Q=>t σ H fun xs H1=>xs.length<=sizeLine/\∀ p,H1 p = none->Q (.ref p) (upd H1 p (.tup xs))
noncomputable def tLst (t:TA):TE:=fun σ H Q=>t σ H fun xs H1=>xs.length<=sizeLine/\∀ p,H1 p = none->Q (.ref p) (upd H1 p (.lst xs))
theorem pe_tup {x1} (h:PA X es t):PE X (.Tuple es x1 pos) (tTup t):=by
 intro pins s σ H Q I hq
 refine wpAny_Tuple_spliced (thn (h pos pins s σ H _ I hq) fun us s1 ⟨xs,H1,I1,r,z,q⟩=>⟨by rw [<-r.length]; exact z,?_⟩)
 have hf:H1 s1.heap.objs.size = none:=I1.hok.fresh (Nat.le_refl _)
 refine ⟨.ref s1.heap.objs.size,upd H1 s1.heap.objs.size (.tup xs),I1.laid (t':=s1.toks) (fun b u e=>Heap.get?_push_of_some _ e) (Nat.le_refl _) ?_,rfl,q _ hf⟩
 exact ⟨z,us,r,⟨_,Heap.get?_push_size _ rfl,rfl,_,rfl⟩⟩
theorem pe_lst (h:PA X es t):PE X (.List es pos) (tLst t):=by
 intro pins s σ H Q I hq
 refine wpAny_List_spliced (thn (h pos pins s σ H _ I hq) fun us s1 ⟨xs,H1,I1,r,z,q⟩=>⟨by rw [<-r.length]; exact z,?_⟩)
 have hf:H1 s1.heap.objs.size = none:=I1.hok.fresh (Nat.le_refl _)
 refine ⟨.ref s1.heap.objs.size,upd H1 s1.heap.objs.size (.lst xs),I1.laid (t':=s1.toks) (fun b u e=>Heap.get?_push_of_some _ e) (Nat.le_refl _) ?_,rfl,q _ hf⟩
 exact ⟨z,us,0,r,Heap.get?_push_size _ rfl⟩
end
noncomputable abbrev Sp:=List V->Hp->VK->XK->Prop
noncomputable abbrev CXT:=List Env->Hp->Shared->XK->Value->Shared->Prop
structure Env0 (P:Program) (w:World) (K:PySem.W.Frag) (mg:Str->Option Value) (base:Heap) (A:Around) (outer:List Env) (s:Shared) (H:Hp):Prop where
 frames:A.frames = some outer
 mod:Mod K mg base
 bs:∀ b o,base.get? b = some o->s.heap.get? b = some o/\H b = none
 bsz:base.objs.size<=s.heap.objs.size
 funs:s.heap.FunFrames base outer
 frf:∀ b ∈ frs outer,H b = none
 hok:HOk P w H s.heap
 bare:AllBare s.gens
noncomputable def CE (outer:List Env) (P:Program) (w:World) (H:Hp) (s:Shared) (Q:VK) (u:Value) (s':Shared):Prop :=
 ∃ v H',s'.os = s.os/\AllBare s'.gens/\Un (frs outer) [] H H' s.heap s'.heap/\HOk P w H' s'.heap/\RelV v u/\Q v H'
noncomputable def CR (CX:CXT) (outer:List Env) (P:Program) (w:World) (H:Hp) (s:Shared) (Q:VK) (E:XK) (r:Result) (s':Shared):Prop :=
 match r with
 | .ok (.ret u)=>CE outer P w H s Q u s'
 | .ok _=>False
 | .error e=>CX outer H s E e s'
structure FnOk (P:Program) (w:World) (K:PySem.W.Frag) (mg:Str->Option Value) (base:Heap) (CX:CXT) (k:Nat) (f:Addr) (fd:FuncData) (ps:List Str) (sp:Sp):Prop where
 len:∀ vs H Q E,sp vs H Q E->vs.length = ps.length
 run:∀ (A:Around) (outer:List Env) (s:Shared) (H:Hp) (args:Args) (us:List Value) (vs:List V) (Q:VK) (E:XK),Room k A->Env0 P w K mg base A outer s H->BindsTo s fd args (ps.zip us)->Vals vs us->sp vs H Q E ->
  codeAny (model P w) A (.call (.ref f) args) (CR CX outer P w H s Q E) s
theorem Env0.make {P:Program} {w:World} {K:PySem.W.Frag} {mg:Str->Option Value} {base:Heap} {A:Around} {outer:List Env} {s:Shared} {H:Hp} (e:Env0 P w K mg base A outer s H) (C:Addr) (us:List Value) (kw:List (Str × Value)) :
  Env0 P w K mg base (A.under (.builtin "type.__call__" ⟨.ref C :: us,kw⟩)) outer s H:=⟨by first | exact e.frames | (simpa [Around.under,Code.envs,Code.isFrame,pushEnvs] using e.frames),e.mod,e.bs,e.bsz,e.funs,e.frf,e.hok,e.bare⟩
section
variable {X:Cx} {pins:List (Addr × Obj)} {σ:St} {H:Hp} {s s':Shared}
theorem Inv.env0 (I:Inv X pins σ H s):Env0 X.prog X.w X.K X.mg X.base X.A X.stack s H :=
 ⟨I.ok.frames,I.ok.mod,I.bs,Nat.le_trans I.ok.bsz I.sz,I.stack,I.stkFree,I.hok,I.bare⟩
theorem Inv.after {Q:VK} {u:Value} (I:Inv X pins σ H s) (h:CE X.stack X.prog X.w H s Q u s'):EP X pins σ Q u s':=by
 obtain ⟨v,H',os,bare,un,hok,r,q⟩:=h
 obtain ⟨hh,g,d,t,os'⟩:=s'
 obtain rfl:os' = s.os:=os
 exact ⟨v,H',I.call (h':=hh) (g':=g) (d':=d) (t':=t) (ch:=[]) un hok bare (fun b z=>absurd z (by simp)),r,q⟩
end
noncomputable def tCall (sp:Sp) (dvs:List V) (E:XK) (t:TA):TE:=fun σ H Q=>t σ H fun vs H1=>sp (vs ++ dvs) H1 Q E
noncomputable def tMeth (C:Addr) (m:Str) (sp:Sp) (dvs:List V) (E:XK) (ta:TE) (t:TA):TE:=fun σ H Q=>ta σ H fun x H1=>∃ a dx fs,x = .ref a/\H1 a = some (.ins C dx fs)/\fs.lookup m = none /\
 t σ H1 fun vs H2=>sp (x :: (vs ++ dvs)) H2 Q E
noncomputable def tMake (C:Addr) (sp:Sp) (dvs:List V) (E:XK) (t:TA):TE:=fun σ H Q=>t σ H fun vs H1=>∀ x dx,H1 x = none->H1 dx = none->dx ≠ x ->
 sp (.ref x :: (vs ++ dvs)) (upd (upd H1 dx (.own x)) x (.ins C dx [])) (fun v H2=>v = .non/\Q (.ref x) H2) E
noncomputable def Binds (K:PySem.W.Frag) (fd:FuncData) (ps:List Str) (ds:List Value):Prop :=
 ∀ (s:Shared) (us:List Value),K.In s.heap->(us ++ ds).length = ps.length->BindsTo s fd ⟨us,[]⟩ (ps.zip (us ++ ds))
theorem Binds.all {K:PySem.W.Frag} {fd:FuncData} {ps:List Str} (h:∀ us:List Value,us.length = ps.length->bindArgs fd ⟨us,[]⟩ = pure (ps.zip us)):Binds K fd ps []:=fun s us _ hl=>by
 rw [List.append_nil] at hl ⊢
 exact .of_eq (h us hl)
noncomputable def Passes (CX:CXT) (X:Cx) (E:XK):Prop:=∀ (pins:List (Addr × Obj)) (σ:St) (H:Hp) (s:Shared) (e:Value) (s':Shared),Inv X pins σ H s->CX X.stack H s E e s'->X.xe e s'
section
variable {X:Cx} {CX:CXT} {k:Nat} {f C:Addr} {fd:FuncData} {ps:List Str} {sp:Sp} {dvs:List V} {ds:List Value} {E:XK} {x m:Str} {p pos apos:Pos} {e o:Expr} {es:List Expr} {ta:TE} {t:TA}
theorem run_fn {pins:List (Addr × Obj)} {σ:St} {H:Hp} {s:Shared} {Q:VK} {us:List Value} {vs:List V} (F:FnOk X.prog X.w X.K X.mg X.base CX k f fd ps sp) (hr:Room k X.A) (hb:Binds X.K fd ps ds) (hd:Vals dvs ds) (hx:Passes CX X E)
  (I:Inv X pins σ H s) (r:Vals vs us) (h:sp (vs ++ dvs) H Q E):wpAny (model X.prog X.w) X.A (call (.ref f) us) (EP X pins σ Q) X.xe s:=by
 have r2:Vals (vs ++ dvs) (us ++ ds):=r.append hd
 have hl:(us ++ ds).length = ps.length:=by rw [<-r2.length]; exact F.len _ _ _ _ h
 refine wpAny_call (codeAny_mono (F.run X.A X.stack s H ⟨us,[]⟩ (us ++ ds) (vs ++ dvs) Q E hr I.env0 (hb s us I.kIn hl) r2 h) fun r s' hq=>?_)
 cases r with
 | error e=>exact hx pins σ H s e s' I hq
 | ok fl =>
  cases fl with
  | ret u=>exact I.after hq
  | next=>exact False.elim hq
  | brk=>exact False.elim hq
  | cont=>exact False.elim hq
theorem pe_call (F:FnOk X.prog X.w X.K X.mg X.base CX k f fd ps sp) (hr:Room k X.A) (hg:Gl X x) (hm:X.mg x = some (.ref f)) (hk:PySem.W.keepIn X.K (.ref f) = true) (hb:Binds X.K fd ps ds) (hd:Vals dvs ds) (hx:Passes CX X E)
  (ha:PA X (e :: es) t) (hdb:(x == ("__debug__":Str)) = false:=by decide) (he:starEach (e :: es) X.env = (false,eval e X.env) :: starEach es X.env:=by rfl) (hpl:(backTo pos (starEach es X.env)).any (·.1) = false:=by rfl) :
  PE X (.Call (.Name x p) (e :: es) [] pos) (tCall sp dvs E t):=by
 intro pins s σ H Q I h
 refine wpAny_Call_Name_kw (ld_glob I hg hm ?_ hdb)
 refine PySem.W.callWith_K (h₀:=X.base) I.ok.mod.kin hk (thn (ha pos pins s σ H _ I h) fun us s1 ⟨vs,H1,I1,r,q⟩=>⟨I1.kIn,?_⟩) he hpl
 exact run_fn F hr hb hd hx I1 r q
theorem pe_meth {pl:Sem Bool} (he:PE X o ta) (c:Cls X.K C) (hm:Meth X.K C m f) (F:FnOk X.prog X.w X.K X.mg X.base CX k f fd ps sp) (hr:Room k X.A) (hb:Binds X.K fd ps ds) (hd:Vals dvs ds) (hx:Passes CX X E) (ha:PA X (e :: es) t)
  (hst:starEach (e :: es) X.env = (false,eval e X.env) :: starEach es X.env:=by rfl) (hpl:(backTo pos (starEach es X.env)).any (·.1) = false:=by rfl)
  (ht:eval (.Call (.Attribute o m apos) (e :: es) [] pos) X.env = (do
   let ov <-eval o X.env
   standAt apos.atName
   let (f,first) <-holding [ov] (getMethod ov m pl)
   callWith pos f first (backTo pos (starEach (e :: es) X.env)) (backToKw pos (keywordEach [] X.env))):=by rfl) :
  PE X (.Call (.Attribute o m apos) (e :: es) [] pos) (tMeth C m sp dvs E ta t):=by
 intro pins s σ H Q I h
 refine PySem.W.methodCall_KW (pl:=pl) (thn (he pins s σ H _ I h) fun u s1 ⟨x,H1,I1,rx,a,dx,fs,ex,ea,l,q⟩=>?_) ht
 subst ex
 obtain rfl:u = Value.ref a:=rx
 refine getmeth_ok I1 ea c hm l ?_
 refine PySem.W.callWith_K (first:=[.ref a]) (h₀:=X.base) I.ok.mod.kin hm.kp (thn (ha pos pins s1 σ H1 _ I1 q) fun us s2 ⟨vs,H2,I2,r,q2⟩=>⟨I2.kIn,?_⟩) hst hpl
 exact run_fn (us:=.ref a :: us) (vs:=.ref a :: vs) F hr hb hd hx I2 (.cons rfl r) q2
theorem pe_meth0 {pl:Sem Bool} (he:PE X o ta) (c:Cls X.K C) (hm:Meth X.K C m f) (F:FnOk X.prog X.w X.K X.mg X.base CX k f fd ps sp) (hr:Room k X.A) (hb:Binds X.K fd ps ds) (hd:Vals dvs ds) (hx:Passes CX X E)
  (ht:eval (.Call (.Attribute o m apos) [] [] pos) X.env = (do
   let ov <-eval o X.env
   standAt apos.atName
   let (f,first) <-holding [ov] (getMethod ov m pl)
   callWith pos f first (backTo pos (starEach [] X.env)) (backToKw pos (keywordEach [] X.env))):=by rfl) :
  PE X (.Call (.Attribute o m apos) [] [] pos) (tMeth C m sp dvs E ta tNil):=by
 intro pins s σ H Q I h
 refine PySem.W.methodCall_KW (pl:=pl) (thn (he pins s σ H _ I h) fun u s1 ⟨x,H1,I1,rx,a,dx,fs,ex,ea,l,q⟩=>?_) ht
 subst ex
 obtain rfl:u = Value.ref a:=rx
 refine getmeth_ok I1 ea c hm l ?_
 exact PySem.W.callWith_K0 (first:=[.ref a]) I1.kIn hm.kp (run_fn (us:=[.ref a]) (vs:=[.ref a]) F hr hb hd hx I1 (.cons rfl .nil) q)
structure Mk (K:PySem.W.Frag) (C f:Addr):Prop where
 makes:PySem.W.makesIn K C = true
 init:PySem.W.findIn K (.ref C) "__init__" = some (some (.ref f))
 fn:PySem.W.isFn K (.ref f) = true
 kp:PySem.W.keepIn K (.ref C) = true
theorem run_make {pins:List (Addr × Obj)} {σ:St} {H:Hp} {s:Shared} {Q:VK} {us:List Value} {vs:List V} (M:Mk X.K C f) (F:FnOk X.prog X.w X.K X.mg X.base CX k f fd ps sp) (hr:Room (k + 1) X.A) (hb:Binds X.K fd ps ds) (hd:Vals dvs ds)
  (hx:Passes CX X E) (I:Inv X pins σ H s) (r:Vals vs us)
  (h:∀ x dx,H x = none->H dx = none->dx ≠ x->sp (.ref x :: (vs ++ dvs)) (upd (upd H dx (.own x)) x (.ins C dx [])) (fun v H2=>v = .non/\Q (.ref x) H2) E) :
  wpAny (model X.prog X.w) X.A (call (.ref C) us) (EP X pins σ Q) X.xe s:=by
 have hq:=h (s.heap.objs.size + 1) s.heap.objs.size (I.hok.fresh (Nat.le_succ _)) (I.hok.fresh (Nat.le_refl _)) (Nat.ne_of_lt (Nat.lt_succ_self _))
 have I2:=Inv.made (C:=C) I
 have r2:Vals (V.ref (s.heap.objs.size + 1) :: (vs ++ dvs)) (Value.ref (s.heap.objs.size + 1) :: (us ++ ds)):=.cons rfl (r.append hd)
 have hl:(Value.ref (s.heap.objs.size + 1) :: us ++ ds).length = ps.length:=by
  have e:=r2.length
  rw [F.len _ _ _ _ hq] at e
  exact e.symm
 refine wpAny_call (make_map (f:=f) I.kIn M.makes M.init (beq_iff_eq.mp M.fn) (codeAny_mono (F.run _ X.stack _ _ ⟨Value.ref (s.heap.objs.size + 1) :: us,[]⟩ (Value.ref (s.heap.objs.size + 1) :: (us ++ ds)) _ _ E (hr.make C us [])
  (I2.env0.make C us []) (hb _ (Value.ref (s.heap.objs.size + 1) :: us) I2.kIn hl) r2 hq) fun r s' hq'=>?_))
 cases r with
 | error e=>exact hx pins σ _ _ e s' I2 hq'
 | ok fl =>
  cases fl with
  | ret u =>
   obtain ⟨v,H',I3,rv,ev,q3⟩:=I2.after hq'
   subst ev
   exact ⟨rv,⟨V.ref (s.heap.objs.size + 1),H',I3,rfl,q3⟩⟩
  | next=>exact False.elim hq'
  | brk=>exact False.elim hq'
  | cont=>exact False.elim hq'
theorem pe_make (M:Mk X.K C f) (F:FnOk X.prog X.w X.K X.mg X.base CX k f fd ps sp) (hr:Room (k + 1) X.A) (hg:Gl X x) (hm:X.mg x = some (.ref C)) (hb:Binds X.K fd ps ds) (hd:Vals dvs ds) (hx:Passes CX X E)
  (ha:PA X (e :: es) t) (hdb:(x == ("__debug__":Str)) = false:=by decide) (he:starEach (e :: es) X.env = (false,eval e X.env) :: starEach es X.env:=by rfl) (hpl:(backTo pos (starEach es X.env)).any (·.1) = false:=by rfl) :
  PE X (.Call (.Name x p) (e :: es) [] pos) (tMake C sp dvs E t):=by
 intro pins s σ H Q I h
 refine wpAny_Call_Name_kw (ld_glob I hg hm ?_ hdb)
 refine PySem.W.callWith_K (h₀:=X.base) I.ok.mod.kin M.kp (thn (ha pos pins s σ H _ I h) fun us s1 ⟨vs,H1,I1,r,q⟩=>⟨I1.kIn,?_⟩) he hpl
 exact run_make M F hr hb hd hx I1 r q
end
structure FnScope (N P:List Str) (sc:Scope):Prop where
 kind:sc.kind = .function
 co:sc.isCoroutine = false
 gen:sc.isGenerator = false
 nd:N.Nodup
 pre:N.take P.length = P
 par:∀ x ∈ P,sc.names.lookup x = some .local\/sc.names.lookup x = some .cell
 nofree:∀ y ∈ sc.names,y.2 ≠ .free
theorem bindL_out {kindOf:Str->Option NameKind} {x:Str}:∀ {binds:List (Str × Value)} {m:Str->Option Value},(∀ v,(x,v) ∉ binds)->bindL kindOf binds m x = m x
 | [],_,_=>rfl
 | (n,v) :: r,m,h=>by
  unfold bindL
  rw [bindL_out fun w hw=>h w (List.mem_cons_of_mem _ hw)]
  split
  ·have:x ≠ n:=by rintro rfl; exact h v List.mem_cons_self
   simp [this]
  ·rfl
theorem bindC_out {kindOf:Str->Option NameKind} {x:Str}:∀ {binds:List (Str × Value)} {m:Str->Option Value},(∀ v,(x,v) ∉ binds)->bindC kindOf binds m x = m x
 | [],_,_=>rfl
 | (n,v) :: r,m,h=>by
  unfold bindC
  rw [bindC_out fun w hw=>h w (List.mem_cons_of_mem _ hw)]
  split
  ·rfl
  ·have:x ≠ n:=by rintro rfl; exact h v List.mem_cons_self
   simp [this]
theorem bindL_get {kindOf:Str->Option NameKind} {x:Str} {v:Value}:∀ {P:List Str} {vs:List Value} {i:Nat} {m:Str->Option Value},P.Nodup->P[i]? = some x->vs[i]? = some v->kindOf x = some .local ->
  bindL kindOf (P.zip vs) m x = some v
 | [],_,_,_,_,h,_,_=>by simp at h
 | _ :: _,[],_,_,_,_,h,_=>by simp at h
 | p :: P,w :: vs,0,m,nd,h1,h2,hk=>by
  simp at h1 h2; subst h1; subst h2
  show bindL kindOf ((p,w) :: P.zip vs) m p = _
  unfold bindL
  rw [bindL_out fun v hv=>(List.nodup_cons.mp nd).1 (List.of_mem_zip hv).1,if_pos hk]
  simp
 | p :: P,w :: vs,i + 1,m,nd,h1,h2,hk=>by
  show bindL kindOf ((p,w) :: P.zip vs) m x = _
  unfold bindL
  exact bindL_get (i:=i) (List.nodup_cons.mp nd).2 (by simpa using h1) (by simpa using h2) hk
theorem bindC_get {kindOf:Str->Option NameKind} {x:Str} {v:Value}:∀ {P:List Str} {vs:List Value} {i:Nat} {m:Str->Option Value},P.Nodup->P[i]? = some x->vs[i]? = some v->kindOf x ≠ some .local ->
  bindC kindOf (P.zip vs) m x = some v
 | [],_,_,_,_,h,_,_=>by simp at h
 | _ :: _,[],_,_,_,_,h,_=>by simp at h
 | p :: P,w :: vs,0,m,nd,h1,h2,hk=>by
  simp at h1 h2; subst h1; subst h2
  show bindC kindOf ((p,w) :: P.zip vs) m p = _
  unfold bindC
  rw [bindC_out fun v hv=>(List.nodup_cons.mp nd).1 (List.of_mem_zip hv).1,if_neg hk]
  simp
 | p :: P,w :: vs,i + 1,m,nd,h1,h2,hk=>by
  show bindC kindOf ((p,w) :: P.zip vs) m x = _
  unfold bindC
  exact bindC_get (i:=i) (List.nodup_cons.mp nd).2 (by simpa using h1) (by simpa using h2) hk
noncomputable def start (N:List Str) (vs:List V):St:=vs.map some ++ List.replicate (N.length - vs.length) none
noncomputable def cxOf (CX:CXT) (P:Program) (w:World) (K:PySem.W.Frag) (mg:Str->Option Value) (base:Heap) (N:List Str) (qual:Str) (scope:Scope) (f:Addr) (cd:Value) (A:Around) (outer:List Env) (s:Shared) (H:Hp) (E:XK):Cx where
 prog:=P
 w:=w
 K:=K
 mg:=mg
 base:=base
 A:=A.deeper (envOfC qual scope s.heap.objs.size f cd)
 N:=N
 s₀:=s
 H₀:=H
 env:=envOfC qual scope s.heap.objs.size f cd
 outer:=outer
 stack:=envOfC qual scope s.heap.objs.size f cd :: outer
 ex:=[]
 calm:=true
 fn:=fun _=>true
 pn:=[]
 xe:=fun e s'=>wpAny (model P w) (A.deeper (envOfC qual scope s.heap.objs.size f cd)) (leaving (envOfC qual scope s.heap.objs.size f cd) e) (fun _ s''=>CX outer H s E e s'') (fun e' s''=>CX outer H s E e' s'') s'
theorem cell_has {sc:Scope} {n:Nat} {x:Str} (h:sc.names.lookup x = some .cell):∃ c,(cellsFrom n sc.names []).lookup x = some c:=by
 have q:=PySem.W.cellsFrom_some sc.names n [] (.inl h)
 exact Option.isSome_iff_exists.mp q
theorem inv_start {CX:CXT} {P:Program} {w:World} {K:PySem.W.Frag} {mg:Str->Option Value} {base:Heap} {N ps:List Str} {qual:Str} {scope:Scope} {f:Addr} {cd:Value} {A:Around} {outer:List Env} {s s1:Shared} {H:Hp} {E:XK} {us:List Value} {vs:List V}
  (S:FnScope N ps scope) (hd:A.handled = none) (e0:Env0 P w K mg base A outer s H) (hl:vs.length = ps.length) (r:Vals vs us)
  (x:InCallC s s.heap.objs.size (bindL (envOfC qual scope s.heap.objs.size f cd).kindOf (ps.zip us) fun _=>none) (cellsFrom (s.heap.objs.size + 1) scope.names []) (bindC (envOfC qual scope s.heap.objs.size f cd).kindOf (ps.zip us) fun _=>none) s1) :
  Inv (cxOf CX P w K mg base N qual scope f cd A outer s H E) [] (start N vs) H s1:=by
 have hpl:ps.length<=N.length:=by have:=congrArg List.length S.pre; rw [List.length_take] at this; omega
 obtain ⟨h1,tk,rfl,hk⟩:=x.done
 have noA:∀ b:Addr,b ∉ (cxOf CX P w K mg base N qual scope f cd A outer s H E).ex:=fun b z=>absurd (show b ∈ ([]:List Addr) from z) (by simp)
 refine ⟨⟨e0.mod,S.kind,rfl,rfl,Nat.le_refl _,fun y z c h1 h2=>?_,fun y hy=>?_,fun y c _ h=>?_,fun _=>hd,Around.frames_deeper e0.frames,.inr ⟨rfl,rfl⟩,fun b z=>absurd z (noA b),e0.bs,e0.bsz,fun b _ _=>noA b,fun b z=>absurd z (noA b),e0.funs,e0.frf⟩,
  rfl,e0.bare,Un.kept hk,⟨_,x.toInCall.ns,fun i y v h1 h2 h3=>?_⟩,fun y c h=>⟨_,x.cell y c h⟩,e0.hok.fresh (Nat.le_refl _),fun y c h=>?_,fun p hp=>absurd (show p ∈ ([]:List (Addr × Obj)) from hp) (by simp),e0.hok.kept hk,?_⟩
 ·exact name_of_addr x.apart (PySem.mem_of_lookup h1) (PySem.mem_of_lookup h2)
 ·have hy:scope.names.lookup y = some .cell\/scope.names.lookup y = some .free:=hy
  rcases hy with hy | hy
  ·exact cell_has hy
  ·exact absurd rfl (S.nofree _ (PySem.mem_of_lookup hy))
 ·exact Nat.le_of_lt (x.above y c (PySem.mem_of_lookup h))
 ·have hi:i < vs.length:=by
   unfold start at h2
   by_cases hi:i < vs.length
   ·exact hi
   ·rw [List.getElem?_append_right (by simpa using hi)] at h2
    rw [List.getElem?_replicate] at h2
    split at h2 <;> cases h2
  have ha:vs[i]? = some v:=by
   unfold start at h2
   rw [List.getElem?_append_left (by simpa using hi),List.getElem?_map] at h2
   cases e:vs[i]? with
   | none=>rw [e] at h2; cases h2
   | some a=>rw [e] at h2; cases h2; rfl
  obtain ⟨u,hu,rv⟩:=r.get ha
  have hp:ps[i]? = some y:=by
   rw [<-S.pre,List.getElem?_take_of_lt (by omega)]; exact h1
  have ndP:ps.Nodup:=by rw [<-S.pre]; exact S.nd.sublist (List.take_sublist _ _)
  refine ⟨u,rv,?_⟩
  rcases S.par y (List.mem_of_getElem? hp) with k | k
  ·exact .inl ⟨k,bindL_get ndP hp hu k⟩
  ·obtain ⟨c,e⟩:=cell_has (n:=s.heap.objs.size + 1) k
   refine .inr ⟨.inl k,c,e,?_⟩
   have q:=x.cell y c e
   rw [bindC_get ndP hp hu (by show scope.names.lookup y ≠ _; rw [k]; decide)] at q
   exact q
 ·exact e0.hok.fresh (Nat.le_of_lt (x.above y c (PySem.mem_of_lookup h)))
 ·unfold start
  show _ = N.length
  rw [List.length_append,List.length_map,List.length_replicate]
  omega
theorem fn_of {CX:CXT} {P:Program} {w:World} {K:PySem.W.Frag} {mg:Str->Option Value} {base:Heap} {k:Nat} {f:Addr} {name qual:Str} {params:Arguments} {body:List Stmt} {scope:Scope} {dV kV doc pm cdv ct oc:Value} {an od:Option Addr}
  {osl:Array (Option Value)} {N ps:List Str} {sp:Sp} (lk:K.lookup f = some ⟨oc,od,.func (PySem.W.fnOf name qual params body scope dV kV doc pm an cdv ct),osl⟩) (hcd:PySem.W.codeIn K cdv qual = true) (S:FnScope N ps scope)
  (len:∀ vs H Q E,sp vs H Q E->vs.length = ps.length)
  (hbody:∀ (A:Around) (outer:List Env) (s:Shared) (H:Hp) (vs:List V) (Q:VK) (E:XK),Room k (A.deeper (envOfC qual scope s.heap.objs.size f cdv))->sp vs H Q E ->
   ∃ t,PSs (cxOf CX P w K mg base N qual scope f cdv A outer s H E) body t/\t { nx:=fun _ H'=>Q .non H',rt:=Q } (start N vs) H) :
  FnOk P w K mg base CX (k + 1) f (PySem.W.fnOf name qual params body scope dV kV doc pm an cdv ct) ps sp:=by
 refine ⟨len,fun A outer s H args us vs Q E hr e0 hb r hsp=>?_⟩
 have hl:=len _ _ _ _ hsp
 have KX:K.In s.heap:=e0.mod.kin.keeps fun b o e=>(e0.bs b o e).1
 have lim:s.heap.NoLimit:=e0.mod.nolimit.keeps fun b o e=>(e0.bs b o e).1
 have hkind:∀ y ∈ ps.zip us,scope.names.lookup y.1 = some .local\/(scope.names.lookup y.1 = some .cell/\((cellsFrom (s.heap.objs.size + 1) scope.names []).lookup y.1).isSome = true):=fun ⟨n,v⟩ hy=>by
  rcases S.par n (List.of_mem_zip hy).1 with q | q
  ·exact .inl q
  ·exact .inr ⟨q,PySem.W.cellsFrom_some _ _ _ (.inl q)⟩
 refine codeAny_call_function hr.depth (KX _ _ lk) rfl S.co S.gen rfl (PySem.W.codeRec_of KX hcd) (hb _ _ _ _ ?_)
 refine wpAny_newFunctionEnv_cells S.kind hkind fun env he s1 x=>?_
 subst he
 refine ⟨lim.keeps x.toInCall.keep,codeAny_func ?_⟩
 obtain ⟨t,ht,hq⟩:=hbody A outer s H vs Q E (hr.deeper _) hsp
 have I:Inv (cxOf CX P w K mg base N qual scope f cdv A outer s H E) [] (start N vs) H s1:=inv_start S hr.hd e0 hl r x
 refine wpAny_mono (ht [] s1 (start N vs) H _ I hq) (fun fl s' hs=>?_) fun e s' hs=>hs
 have fin:∀ {σ':St} {H':Hp} {v:V} {u:Value},Inv (cxOf CX P w K mg base N qual scope f cdv A outer s H E) [] σ' H' s'->RelV v u->Q v H'->CE outer P w H s Q u s' :=
  fun {σ' H' v u} J rv q=>⟨v,H',J.os,J.bare,J.base,J.hok,rv,q⟩
 cases fl with
 | ret u =>
  obtain ⟨v,σ',H',J,rv,q⟩:=hs
  exact fin J rv q
 | next =>
  obtain ⟨σ',H',J,q⟩:=hs
  exact fin (v:=V.non) (u:=Value.none) J rfl q
 | brk =>
  obtain ⟨_,_,_,q⟩:=hs
  exact False.elim q
 | cont =>
  obtain ⟨_,_,_,q⟩:=hs
  exact False.elim q
end L2
namespace L2
open PySem PySem.Spec PyProof.Rows
section
variable {X:Cx} {x:Str} {p pos:Pos} {e:Expr} {es:List Expr} {t:TA} {id T:String} {r:List V->Hp->VK->Prop}
noncomputable def tCB (r:List V->Hp->VK->Prop) (t:TA):TE:=fun σ H Q=>t σ H fun vs H1=>r vs H1 Q
theorem pe_callB (hc:CallR X (.builtin id) r) (hg:Gl X x) (hm:X.mg x = none) (hv:bootBuiltins x = some (.builtin id)) (ha:PA X (e :: es) t) (hn:x ≠ "__name__":=by decide) (hdb:(x == ("__debug__":Str)) = false:=by decide)
  (he:starEach (e :: es) X.env = (false,eval e X.env) :: starEach es X.env:=by rfl) (hpl:(backTo pos (starEach es X.env)).any (·.1) = false:=by rfl):PE X (.Call (.Name x p) (e :: es) [] pos) (tCB r t):=by
 intro pins s σ H Q I h
 refine wpAny_Call_Name_kw (ld_blt I hg hm hv ?_ hn hdb)
 exact PyProof.Rows.callWith_builtin1 (thn (ha pos pins s σ H _ I h) fun us s1 ⟨vs,H1,I1,r1,q1⟩=>hc pins s1 σ H1 vs us Q I1 r1 q1) he hpl
theorem pe_callTy (hc:CallR X (.type T) r) (hg:Gl X x) (hm:X.mg x = none) (hv:bootBuiltins x = some (.type T)) (ha:PA X (e :: es) t) (hn:x ≠ "__name__":=by decide) (hdb:(x == ("__debug__":Str)) = false:=by decide)
  (he:starEach (e :: es) X.env = (false,eval e X.env) :: starEach es X.env:=by rfl) (hpl:(backTo pos (starEach es X.env)).any (·.1) = false:=by rfl):PE X (.Call (.Name x p) (e :: es) [] pos) (tCB r t):=by
 intro pins s σ H Q I h
 refine wpAny_Call_Name_kw (ld_blt I hg hm hv ?_ hn hdb)
 exact PyProof.Rows.callWith_type1 (thn (ha pos pins s σ H _ I h) fun us s1 ⟨vs,H1,I1,r1,q1⟩=>hc pins s1 σ H1 vs us Q I1 r1 q1) he hpl
theorem pe_callTy0 (hc:CallR X (.type T) r) (hg:Gl X x) (hm:X.mg x = none) (hv:bootBuiltins x = some (.type T)) (hn:x ≠ "__name__":=by decide) (hdb:(x == ("__debug__":Str)) = false:=by decide) :
  PE X (.Call (.Name x p) [] [] pos) (tCB r tNil):=by
 intro pins s σ H Q I h
 refine wpAny_Call_Name_kw (ld_blt I hg hm hv ?_ hn hdb)
 exact PyProof.Rows.callWith_type0 (hc pins s σ H [] [] Q I .nil h)
end
end L2
namespace HT
open PySem PyProof.Rows
section
variable {prog:Program} {w:World} {A:Around} {E:Value->Shared->Prop} {s:Shared}
noncomputable def sIx (n d:Nat):Option Int->Nat
 | none=>d
 | some v=>if v < 0 then (v + (n:Int)).toNat else min v.toNat n
theorem sIx_none (n d:Nat):sIx n d none = d:=rfl
theorem sIx_nat (n d k:Nat):sIx n d (some (k:Int)) = min k n:=by
 show (if (k:Int) < 0 then ((k:Int) + (n:Int)).toNat else min (k:Int).toNat n) = min k n
 rw [if_neg (by omega),Int.toNat_natCast]
end
end HT
namespace L2
open PySem PySem.Spec PyProof.Rows
noncomputable abbrev TO:=St->Hp->(Option Int->Hp->Prop)->Prop
noncomputable def PO (X:Cx) (e:Option Expr) (t:TO):Prop :=
 ∀ (pins:List (Addr × Obj)) (s:Shared) (σ:St) (H:Hp) (Q:Option Int->Hp->Prop),Inv X pins σ H s->t σ H Q ->
  wpAny (model X.prog X.w) X.A (evalPart e X.env) (fun u s'=>∃ o H',Inv X pins σ H' s'/\IsPart u o/\Q o H') X.xe s
noncomputable def tNoPart:TO:=fun _ H Q=>Q none H
noncomputable def tPart (t:TE):TO:=fun σ H Q=>t σ H fun x H1=>∃ i,x = .int i/\Q (some i) H1
section
variable {X:Cx} {e:Expr} {te:TE} {lo hi:Option Expr} {tl th:TO} {pos p2:Pos}
theorem po_none:PO X none tNoPart:=by
 intro pins s σ H Q I h
 rw [evalPart_none]
 exact wpAny_pure ⟨none,H,I,.none,h⟩
theorem po_some (h:PE X e te):PO X (some e) (tPart te):=by
 intro pins s σ H Q I hw
 rw [evalPart_some]
 refine thn (h pins s σ H _ I hw) fun u s1 ⟨x,H1,I1,r1,q1⟩=>?_
 obtain ⟨i,rfl,q⟩:=q1
 obtain ⟨t,rfl⟩:=r1
 exact ⟨some i,H1,I1,.int i t,q⟩
noncomputable def SlR (X:Cx) (r:V->Option Int->Option Int->Hp->VK->Prop):Prop :=
 ∀ (pins:List (Addr × Obj)) (s:Shared) (σ:St) (H:Hp) (x:V) (v vl vu:Value) (lo hi:Option Int) (sl:Addr) (Q:VK),Inv X pins σ H s->RelV x v->s.heap.IsSliceOf sl vl vu .none->IsPart vl lo->IsPart vu hi->r x lo hi H Q ->
  ∃ T id,typeLookup (.type T) "__getitem__" = pure (some (.builtin id))/\s.TypeIs v T/\wpAny (model X.prog X.w) X.A (getItem v (.ref sl)) (EP X pins σ Q) X.xe s
noncomputable def tSl (r:V->Option Int->Option Int->Hp->VK->Prop) (te:TE) (tl th:TO):TE:=fun σ H Q=>te σ H fun x H1=>tl σ H1 fun l H2=>th σ H2 fun u H3=>r x l u H3 Q
theorem pe_slice {r:V->Option Int->Option Int->Hp->VK->Prop} (hr:SlR X r) (he:PE X e te) (hl:PO X lo tl) (hu:PO X hi th):PE X (.Subscript e (.Slice lo hi none p2) pos) (tSl r te tl th):=by
 intro pins s σ H Q I h
 refine Subscript_ (thn (he pins s σ H _ I h) fun v s1 ⟨x,H1,I1,r1,q1⟩=>?_)
 refine wpAny_Slice (thn (hl pins s1 σ H1 _ I1 q1) fun vl s2 ⟨l,H2,I2,pl,q2⟩=>thn (hu pins s2 σ H2 _ I2 q2) fun vu s3 ⟨u,H3,I3,pu,q3⟩=>?_)
 rw [evalPart_none]
 refine wpAny_pure ?_
 have I4:Inv X pins σ H3 { s3 with heap:=s3.heap.push { cls:=.type "slice",data:=.fields #[vl,vu,.none] } }:=I3.kept (t':=s3.toks) fun b ob q=>Heap.get?_push_of_some _ q
 obtain ⟨T,id,hT,ht,hg⟩:=hr pins { s3 with heap:=s3.heap.push { cls:=.type "slice",data:=.fields #[vl,vu,.none] } } σ H3 x v vl vu l u s3.heap.objs.size Q I4 r1 (Heap.IsSliceOf.new ..) pl pu q3
 show wpAny (model X.prog X.w) X.A (subscriptTail e (.Slice lo hi none p2) v (.ref s3.heap.objs.size)) (EP X pins σ Q) X.xe { s3 with heap:=s3.heap.push { cls:=.type "slice",data:=.fields #[vl,vu,.none] } }
 exact tail_any (ops:=[.ref s3.heap.objs.size,v]) ht hT hg (by with_unfolding_all rfl)
noncomputable def cutV (xs:List V) (lo hi:Option Int):List V:=(xs.drop (HT.sIx xs.length 0 lo)).take (HT.sIx xs.length xs.length hi - HT.sIx xs.length 0 lo)
theorem cutV_length (xs:List V) (lo hi:Option Int):(cutV xs lo hi).length<=xs.length:=by
 unfold cutV
 rw [List.length_take,List.length_drop]
 omega
end
end L2
namespace L2
open PySem PySem.Spec PyProof.Rows
noncomputable def ixN (n:Nat) (i:Int):Option Nat:=if 0<=i then (if i < n then some i.toNat else none) else if -(n:Int)<=i then some (i + n).toNat else none
noncomputable def atI {α:Type} (xs:List α) (i:Int):Option α:=(ixN xs.length i).bind fun j=>xs[j]?
theorem ixN_seq {n:Nat} {i:Int} {j:Nat} (h:ixN n i = some j):seqIndex? i n = some j/\j < n/\-(n:Int)<=i/\i < n:=by
 unfold ixN at h
 by_cases h0:0<=i
 ·rw [if_pos h0] at h
  by_cases h1:i < n
  ·rw [if_pos h1] at h
   have e:i.toNat = j:=Option.some.inj h
   exact ⟨by rw [seqIndex_of h0 h1,e],by omega,by omega,h1⟩
  ·rw [if_neg h1] at h; cases h
 ·rw [if_neg h0] at h
  by_cases h1:-(n:Int)<=i
  ·rw [if_pos h1] at h
   have e:(i + n).toNat = j:=Option.some.inj h
   exact ⟨by rw [seqIndex_neg (by omega) h1,e],by omega,h1,by omega⟩
  ·rw [if_neg h1] at h; cases h
theorem atI_get {α:Type} {xs:List α} {i:Int} {v:α} (h:atI xs i = some v):∃ j,seqIndex? i xs.length = some j/\xs[j]? = some v/\j < xs.length/\-(xs.length:Int)<=i/\i < xs.length:=by
 unfold atI at h
 cases e:ixN xs.length i with
 | none=>rw [e] at h; cases h
 | some j =>
  rw [e] at h
  obtain ⟨h1,h2,h3,h4⟩:=ixN_seq e
  exact ⟨j,h1,h,h2,h3,h4⟩
theorem atI_nat {α:Type} {xs:List α} {j:Nat} {v:α} (h:xs[j]? = some v):atI xs (j:Int) = some v:=by
 have hj:j < xs.length:=(List.getElem?_eq_some_iff.mp h).1
 have e:ixN xs.length (j:Int) = some j:=by
  unfold ixN
  rw [if_pos (by omega),if_pos (by omega)]; simp
 unfold atI; rw [e]; exact h
noncomputable def PlainIx (b:Expr):Prop:=∀ o i,subscripted b false o i = operate [o,i] (getItem o i)
noncomputable def IxR (X:Cx) (r:R2):Prop :=
 ∀ (value slice:Expr) (pins:List (Addr × Obj)) (s:Shared) (σ:St) (H:Hp) (x y:V) (v u:Value) (Q:VK),Inv X pins σ H s->RelV x v->RelV y u->r x y H Q ->
  subscripted slice false v u = operate [v,u] (getItem v u)->wpAny (model X.prog X.w) X.A (subscriptTail value slice v u) (EP X pins σ Q) X.xe s
noncomputable def MtR (X:Cx) (id:String) (r:V->List V->Hp->VK->Prop):Prop :=
 ∀ (pins:List (Addr × Obj)) (s:Shared) (σ:St) (H:Hp) (x:V) (xs:List V) (v:Value) (us:List Value) (Q:VK),Inv X pins σ H s->RelV x v->Vals xs us->r x xs H Q ->
  wpAny (model X.prog X.w) X.A (call (.builtin id) (v :: us)) (EP X pins σ Q) X.xe s
section
variable {X:Cx} {a b:Expr} {ta tb:TE} {pos:Pos}
theorem pe_ix {r:R2} (hr:IxR X r) (ha:PE X a ta) (hb:PE X b tb) (hs:PlainIx b):PE X (.Subscript a b pos) (tOp r ta tb):=by
 intro pins s σ H Q I h
 exact Subscript_ (binT ha hb I h fun v u s2 x y H2 I2 rx ry q=>hr a b pins s2 σ H2 x y v u Q I2 rx ry q (hs _ _))
noncomputable def rIxL (K:PySem.W.Frag):R2:=fun x y H Q=>∃ p xs i v,x = .ref p/\y = .int i/\SqL K H p xs/\atI xs i = some v/\Q v H
noncomputable def rIxT (K:PySem.W.Frag):R2:=fun x y H Q=>∃ p xs i v,x = .ref p/\y = .int i/\SqT K H p xs/\atI xs i = some v/\Q v H
theorem ix_list:IxR X (rIxL X.K):=by
 intro value slice pins s σ H x y v u Q I rx ry h hs
 obtain ⟨p,xs,i,z,rfl,rfl,hq,he,q⟩:=h
 cases rx
 obtain ⟨t,rfl⟩:=ry
 obtain ⟨its,r,pl,hz⟩:=I.list hq
 obtain ⟨j,h1,h2,h3,h4,h5⟩:=atI_get he
 obtain ⟨w,ew,rw'⟩:=r.get h2
 have hl:=r.length
 have hn:=line63
 have fin:EP X pins σ Q w s:=⟨z,H,I,rw',q⟩
 by_cases h0:0<=i
 ·have hj:i.toNat = j:=by
   rw [seqIndex_of h0 h5] at h1
   exact Option.some.inj h1
  exact item_listR pl.isList h0 (by omega) (by rw [hj]; simpa using ew) fin hs
 ·have hj:(i + (its.toArray.size:Int)).toNat = j:=by
   rw [seqIndex_neg (by omega) h4] at h1
   rw [List.size_toArray,<-hl]
   exact Option.some.inj h1
  exact subscriptTail_builtinR (x:=w) pl.isList.typeIs slot_list_getitem.lookup
   (wpAny_getItem_list_neg (Q:=fun r s'=>r = w/\EP X pins σ Q r s') pl.isList (by omega) (by rw [List.size_toArray] <;> omega) (by omega) (by rw [hj]; simpa using ew) ⟨rfl,fin⟩) hs
theorem ix_tup:IxR X (rIxT X.K):=by
 intro value slice pins s σ H x y v u Q I rx ry h hs
 obtain ⟨p,xs,i,z,rfl,rfl,hq,he,q⟩:=h
 cases rx
 obtain ⟨t,rfl⟩:=ry
 obtain ⟨its,r,pl,hz⟩:=I.tuple hq
 obtain ⟨j,h1,h2,h3,h4,h5⟩:=atI_get he
 obtain ⟨w,ew,rw'⟩:=r.get h2
 have hl:=r.length
 have hn:=line63
 have fin:EP X pins σ Q w s:=⟨z,H,I,rw',q⟩
 exact subscriptTail_builtinR (x:=w) pl.typeIs slot_tuple_getitem.lookup
  (getItem_tuple (j:=j) (Q:=fun r s'=>r = w/\EP X pins σ Q r s') pl (by omega) (by omega) (by rw [List.size_toArray,<-hl]; exact h1) (by simpa using ew) ⟨rfl,fin⟩) hs
theorem mapSeq_set (its:List Value) (n j:Nat) (u:Value):Obj.mapSeq (·.setIfInBounds j u) { cls:=.type "list",data:=.seq its.toArray n } = { cls:=.type "list",data:=.seq (its.set j u).toArray n }:=by
 simp [Obj.mapSeq]
theorem Inv.lst {pins:List (Addr × Obj)} {σ:St} {H:Hp} {s:Shared} {p:Addr} {xs:List V} (I:Inv X pins σ H s) (h:H p = some (.lst xs)) :
  ∃ (its:List Value) (n:Nat),Vals xs its/\s.heap.get? p = some { cls:=.type "list",data:=.seq its.toArray n }/\xs.length<=sizeLine:=by
 obtain ⟨z,its,n,r,e⟩:=I.hok p _ h
 exact ⟨its,n,r,e,z⟩
theorem Inv.lstUpd {pins:List (Addr × Obj)} {σ:St} {H:Hp} {s:Shared} {p:Addr} {xs ys:List V} {its its':List Value} {n n':Nat} {f:Obj->Obj} (I:Inv X pins σ H s) (h:H p = some (.lst xs))
  (ho:s.heap.get? p = some { cls:=.type "list",data:=.seq its.toArray n }) (hf:f { cls:=.type "list",data:=.seq its.toArray n } = { cls:=.type "list",data:=.seq its'.toArray n' }) (r:Vals ys its') (hz:ys.length<=sizeLine) (t:Nat) :
  Inv X pins σ (upd H p (.lst ys)) { s with heap:=s.heap.update p f,toks:=t }:=by
 have e:(s.heap.update p f).get? p = some { cls:=.type "list",data:=.seq its'.toArray n' }:=by
  rw [Heap.get?_update_self f ho (by rw [hf] <;> rfl),hf]
 refine I.write (x:=p) (e:=p) (by rw [h]; trivial) (.inl rfl) (fun b u hb q=>(Heap.get?_update_other _ _ (Ne.symm hb)).trans q) ⟨_,e⟩ ?_
 exact ⟨hz,its',n',r,e⟩
noncomputable def rSetL:V->V->V->Hp->(Hp->Prop)->Prop:=fun o i v H Q=>∃ p xs k j,o = .ref p/\i = .int k/\H p = some (.lst xs)/\ixN xs.length k = some j/\Q (upd H p (.lst (xs.set j v)))
theorem set_list:PSet X rSetL:=by
 intro pins s σ H o i v ov iv u Q I ro ri rv h
 obtain ⟨p,xs,k,j,rfl,rfl,hp,hj,q⟩:=h
 cases ro
 obtain ⟨t,rfl⟩:=ri
 obtain ⟨its,n,r,ho,hz⟩:=I.lst hp
 obtain ⟨h1,h2,h3,h4⟩:=ixN_seq hj
 have hl:=r.length
 have hn:=line63
 have I':Inv X pins σ (upd H p (.lst (xs.set j v))) { s with heap:=s.heap.update p (Obj.mapSeq (·.setIfInBounds j u)) } :=
  I.lstUpd hp ho (mapSeq_set its n j u) (r.set rv j) (by rw [List.length_set]; exact hz) s.toks
 by_cases h0:0<=k
 ·have hk:k.toNat = j:=by
   rw [seqIndex_of h0 h4] at h1
   exact Option.some.inj h1
  exact PySem.W.ki_setAt ho h0 (by omega) (by rw [List.size_toArray,<-hl]; exact h4) (by rw [hk]; exact ⟨_,I',q⟩)
 ·have hk:(k + (its.toArray.size:Int)).toNat = j:=by
   rw [seqIndex_neg (by omega) h3] at h1
   rw [List.size_toArray,<-hl]
   exact Option.some.inj h1
  exact PySem.W.ki_setBack ho (by omega) (by rw [List.size_toArray,<-hl]; exact h3) (by omega) (by rw [hk]; exact ⟨_,I',q⟩)
theorem slice_bounds (lo hi:Option Int) (n:Nat):(sliceBounds lo hi none n).1 = ((HT.sIx n 0 lo:Nat):Int)/\(sliceBounds lo hi none n).2.1 = ((HT.sIx n n hi:Nat):Int)/\(sliceBounds lo hi none n).2.2 = 1:=by
 refine ⟨?_,?_,rfl⟩
 ·cases lo with
  | none=>simp [sliceBounds,HT.sIx]
  | some i =>
   simp only [sliceBounds,HT.sIx,Option.getD_none,show (1:Int) > 0 by decide,if_true]
   by_cases h:i < 0
   ·simp only [h,if_true] <;> omega
   ·simp only [h,if_false] <;> omega
 ·cases hi with
  | none=>simp [sliceBounds,HT.sIx]
  | some i =>
   simp only [sliceBounds,HT.sIx,Option.getD_none,show (1:Int) > 0 by decide,if_true]
   by_cases h:i < 0
   ·simp only [h,if_true] <;> omega
   ·simp only [h,if_false] <;> omega
theorem slicePick_cut (its:List Value) (lo hi:Option Int):slicePick its.toArray lo hi none = ((its.drop (HT.sIx its.length 0 lo)).take (HT.sIx its.length its.length hi - HT.sIx its.length 0 lo)).toArray:=by
 obtain ⟨h1,h2,h3⟩:=slice_bounds lo hi its.toArray.size
 unfold slicePick
 rw [h1,h2,h3]
 simp only [sliceRange_one,pick_run,List.size_toArray] <;> rfl
noncomputable def rSlL (K:PySem.W.Frag):V->Option Int->Option Int->Hp->VK->Prop:=fun x lo hi H Q=>∃ a xs,x = .ref a/\SqL K H a xs/\∀ p,H p = none->Q (.ref p) (upd H p (.lst (cutV xs lo hi)))
theorem sl_list:SlR X (rSlL X.K):=by
 intro pins s σ H x v vl vu lo hi sl Q I rx hs pl pu h
 obtain ⟨a,xs,rfl,hx,q⟩:=h
 cases rx
 obtain ⟨its,r,ht,hz⟩:=I.list hx
 have hlen:=r.length
 refine ⟨"list",_,slot_list_getitem.lookup,ht.isList.typeIs,?_⟩
 refine wpAny_getItem_list_slice ht.isList hs pl pu .none (by simp) ?_ (by rw [List.size_toArray] <;> omega)
 rw [slicePick_cut,<-hlen]
 refine ⟨.ref s.heap.objs.size,_,I.laid (t':=s.toks) (o:=.lst (cutV xs lo hi)) (fun b ob q=>Heap.get?_push_of_some _ q) (Nat.le_refl _) ?_,rfl,q _ (I.hok.fresh (Nat.le_refl _))⟩
 exact ⟨Nat.le_trans (cutV_length xs lo hi) hz,_,0,(r.drop (HT.sIx xs.length 0 lo)).take (HT.sIx xs.length xs.length hi - HT.sIx xs.length 0 lo),Heap.get?_push_size _ rfl⟩
noncomputable def flatV:V->Bool
 | .non=>true
 | .bl _=>true
 | .int _=>true
 | .str _=>true
 | _=>false
noncomputable def eqV:V->V->Bool
 | .non,.non=>true
 | .bl a,.bl b=>a == b
 | .bl a,.int b=>(if a then 1 else 0) == b
 | .int a,.bl b=>a == (if b then 1 else 0)
 | .int a,.int b=>a == b
 | .str a,.str b=>a == b
 | _,_=>false
theorem eqAt_V {A:Around} {s:Shared} {y x:V} {u v:Value} (ry:RelV y u) (rx:RelV x v) (fy:flatV y = true) (fx:flatV x = true):SeqAt.EqAt A s u v (eqV y x):=by
 cases y with
 | non =>
  cases ry
  cases x with
  | non=>cases rx; exact SeqAt.EqAt.same _
  | bl b=>cases rx; exact SeqAt.EqAt.none_bool b
  | int b=>obtain ⟨t,rfl⟩:=rx; exact SeqAt.EqAt.none_int b t
  | str b=>obtain ⟨t,rfl⟩:=rx; exact SeqAt.EqAt.none_str b t
  | _=>exact absurd (show false = true from fx) Bool.false_ne_true
 | bl a =>
  cases ry
  cases x with
  | non=>cases rx; exact SeqAt.EqAt.bool_none a
  | bl b=>cases rx; exact SeqAt.EqAt.bool_bool a b
  | int b=>obtain ⟨t,rfl⟩:=rx; exact SeqAt.EqAt.bool_int a b t
  | str b=>obtain ⟨t,rfl⟩:=rx; exact SeqAt.EqAt.bool_str a b t
  | _=>exact absurd (show false = true from fx) Bool.false_ne_true
 | int a =>
  obtain ⟨t',rfl⟩:=ry
  cases x with
  | non=>cases rx; exact SeqAt.EqAt.int_none a t'
  | bl b=>cases rx; exact SeqAt.EqAt.int_bool a t' b
  | int b=>obtain ⟨t,rfl⟩:=rx; exact SeqAt.EqAt.int_int a t' b t
  | str b=>obtain ⟨t,rfl⟩:=rx; exact SeqAt.EqAt.int_str a t' b t
  | _=>exact absurd (show false = true from fx) Bool.false_ne_true
 | str a =>
  obtain ⟨t',rfl⟩:=ry
  cases x with
  | non=>cases rx; exact SeqAt.EqAt.str_none a t'
  | bl b=>cases rx; exact SeqAt.EqAt.str_bool a t' b
  | int b=>obtain ⟨t,rfl⟩:=rx; exact SeqAt.EqAt.str_int a t' b t
  | str b=>obtain ⟨t,rfl⟩:=rx; exact SeqAt.EqAt.str_str a t' b t
  | _=>exact absurd (show false = true from fx) Bool.false_ne_true
 | _=>exact absurd (show false = true from fy) Bool.false_ne_true
noncomputable def eqU (x:V) (u:Value):Bool:=match u with
 | .none=>eqV .non x
 | .bool b=>eqV (.bl b) x
 | .int i _=>eqV (.int i) x
 | .str z _=>eqV (.str z) x
 | _=>false
theorem eqU_of {x y:V} {u:Value} (r:RelV y u) (f:flatV y = true):eqU x u = eqV y x:=by
 cases y with
 | non=>cases r; rfl
 | bl b=>cases r; rfl
 | int i=>obtain ⟨t,rfl⟩:=r; rfl
 | str z=>obtain ⟨t,rfl⟩:=r; rfl
 | _=>exact absurd (show false = true from f) Bool.false_ne_true
theorem any_eqU {x:V}:∀ {xs:List V} {us:List Value},Vals xs us->xs.all flatV = true->us.any (eqU x) = xs.any fun y=>eqV y x
 | _,_,.nil,_=>rfl
 | y :: xs,u :: us,.cons r t,f=>by
  rw [List.all_cons,Bool.and_eq_true] at f
  rw [List.any_cons,List.any_cons,eqU_of r f.1,any_eqU t f.2]
theorem mem_eqAt {A:Around} {s:Shared} {x:V} {v:Value} (rx:RelV x v) (fx:flatV x = true):∀ {xs:List V} {us:List Value},Vals xs us->xs.all flatV = true->∀ u ∈ us,SeqAt.EqAt A s u v (eqU x u)
 | _,_,.nil,_=>fun u hu=>by cases hu
 | y :: xs,u :: us,.cons r t,f=>fun u' hu=>by
  rw [List.all_cons,Bool.and_eq_true] at f
  rcases List.mem_cons.mp hu with rfl | hu
  ·rw [eqU_of r f.1]; exact eqAt_V r rx f.1 fx
  ·exact mem_eqAt rx fx t f.2 u' hu
noncomputable def inV (x:V) (xs:List V):Bool:=xs.any fun y=>eqV y x
noncomputable def rIn (K:PySem.W.Frag) (neg:Bool):R2:=fun x y H Q=>∃ p xs,y = .ref p/\(SqL K H p xs\/SqT K H p xs)/\flatV x = true/\xs.all flatV = true/\Q (.bl (if neg then !inV x xs else inV x xs)) H
theorem op_in_seq:OpR X (compareOp .In) (rIn X.K false):=by
 intro pins s σ H x y v u Q I rx ry h
 obtain ⟨p,xs,rfl,hq,fx,fs,q⟩:=h
 cases ry
 rcases hq with hq | hq
 ·obtain ⟨its,r,pl,hz⟩:=I.list hq
  refine SeqAt.in_listAt (eqU x) pl.isList (fun w hw=>mem_eqAt rx fx r fs w (by simpa using hw)) ⟨.bl _,H,I,rfl,?_⟩
  rw [show its.toArray.any (eqU x) = its.any (eqU x) by simp,any_eqU r fs]
  exact q
 ·obtain ⟨its,r,pl,hz⟩:=I.tuple hq
  refine SeqAt.in_tupleAt (eqU x) pl (fun w hw=>mem_eqAt rx fx r fs w (by simpa using hw)) ⟨.bl _,H,I,rfl,?_⟩
  rw [show its.toArray.any (eqU x) = its.any (eqU x) by simp,any_eqU r fs]
  exact q
theorem op_notIn_seq:OpR X (compareOp .NotIn) (rIn X.K true):=by
 intro pins s σ H x y v u Q I rx ry h
 obtain ⟨p,xs,rfl,hq,fx,fs,q⟩:=h
 cases ry
 rcases hq with hq | hq
 ·obtain ⟨its,r,pl,hz⟩:=I.list hq
  refine SeqAt.notIn_listAt (eqU x) pl.isList (fun w hw=>mem_eqAt rx fx r fs w (by simpa using hw)) ⟨.bl _,H,I,rfl,?_⟩
  rw [show its.toArray.any (eqU x) = its.any (eqU x) by simp,any_eqU r fs]
  exact q
 ·obtain ⟨its,r,pl,hz⟩:=I.tuple hq
  refine SeqAt.notIn_tupleAt (eqU x) pl (fun w hw=>mem_eqAt rx fx r fs w (by simpa using hw)) ⟨.bl _,H,I,rfl,?_⟩
  rw [show its.toArray.any (eqU x) = its.any (eqU x) by simp,any_eqU r fs]
  exact q
theorem call_len_seq:CallR X (.builtin "len") (fun xs H Q=>∃ p ys,xs = [.ref p]/\(SqL X.K H p ys\/SqT X.K H p ys)/\Q (.int ys.length) H):=by
 intro pins s σ H xs us Q I r h
 obtain ⟨p,ys,rfl,hq,q⟩:=h
 obtain ⟨u,rfl,rx⟩:=vals1 r
 cases rx
 have hn:=line63
 rcases hq with hq | hq
 ·obtain ⟨its,r',pl,hz⟩:=I.list hq
  have hlen:=r'.length
  exact Calls.call_len_list pl.isList (by simp only [List.size_toArray] <;> omega) ⟨.int ys.length,H,I.tok _,⟨s.toks + 1,by rw [List.size_toArray,hlen]⟩,q⟩
 ·obtain ⟨its,r',pl,hz⟩:=I.tuple hq
  have hlen:=r'.length
  exact len_tuple pl (by simp only [List.size_toArray] <;> omega) ⟨.int ys.length,H,I.tok _,⟨s.toks + 1,by rw [List.size_toArray,hlen]⟩,q⟩
theorem call_len_str:CallR X (.builtin "len") (fun xs H Q=>∃ z,xs = [.str z]/\z.length<=sizeLine/\Q (.int z.length) H):=by
 intro pins s σ H xs us Q I r h
 obtain ⟨z,rfl,hz,q⟩:=h
 obtain ⟨u,rfl,t,rfl⟩:=vals1 r
 have hn:=line63
 exact len_str (by omega) ⟨.int z.length,H,I.tok _,⟨_,rfl⟩,q⟩
theorem call_list_of:CallR X (.type "list") (fun xs H Q=>∃ p ys,xs = [.ref p]/\(SqL X.K H p ys\/SqT X.K H p ys)/\∀ l,H l = none->Q (.ref l) (upd H l (.lst ys))):=by
 intro pins s σ H xs us Q I r h
 obtain ⟨p,ys,rfl,hq,q⟩:=h
 obtain ⟨u,rfl,rx⟩:=vals1 r
 cases rx
 have fin:∀ (its:List Value),Vals ys its->ys.length<=sizeLine->∀ (h':Heap) (c':Nat),(∀ b o',s.heap.get? b = some o'->h'.get? b = some o') ->
   h'.get? s.heap.objs.size = some { cls:=.type "list",dict:=none,data:=.seq its.toArray c',slots:=#[] }->EP X pins σ Q (.ref s.heap.objs.size) { s with heap:=h' }:=fun its r' hz h' c' kp e =>
  ⟨.ref s.heap.objs.size,_,I.laid (t':=s.toks) kp (Nat.le_refl _) (show ObjOk X.prog X.w _ h' _ (.lst ys) from ⟨hz,its,c',r',e⟩),rfl,q _ (I.hok.fresh (Nat.le_refl _))⟩
 rcases hq with hq | hq
 ·obtain ⟨its,r',pl,hz⟩:=I.list hq
  have hlen:=r'.length
  obtain ⟨o,ho,hc,n,hd⟩:=pl.isList
  exact call_list_seq p (.inl rfl) ho hc hd (fun h' c' kp e=>fin its r' hz h' c' kp e) (by simp only [List.size_toArray] <;> omega)
 ·obtain ⟨its,r',pl,hz⟩:=I.tuple hq
  have hlen:=r'.length
  obtain ⟨o,ho,hc,n,hd⟩:=pl
  exact call_list_seq p (.inr rfl) ho hc hd (fun h' c' kp e=>fin its r' hz h' c' kp e) (by simp only [List.size_toArray] <;> omega)
noncomputable def tyV (K:PySem.W.Frag) (T:String) (x:V) (H:Hp):Prop:=match x with
 | .str _=>T = "str"
 | .int _=>T = "int"
 | .ref p=>(T = "list"/\∃ xs,SqL K H p xs)\/(T = "tuple"/\∃ o,K.lookup p = some o/\o.cls = .type "tuple"/\o.dict = none) \/
   (T = "dict"/\((∃ kvs,H p = some (.dK kvs))\/∃ kvs,H p = some (.dT kvs)))\/(T = "set"/\∃ S n,H p = some (.set S n))
 | _=>False
theorem tyV_is {pins:List (Addr × Obj)} {σ:St} {H:Hp} {s:Shared} {T:String} {x:V} {v:Value} (I:Inv X pins σ H s) (r:RelV x v) (ty:tyV X.K T x H) :
  s.TypeIs v T/\∀ a,v = .ref a->∃ ob,s.heap.get? a = some ob/\ob.dict = none:=by
 cases x with
 | str z =>
  obtain ⟨t,rfl⟩:=r
  cases (show T = "str" from ty)
  exact ⟨typeIs_str s z t,fun _ e=>nomatch e⟩
 | int i =>
  obtain ⟨t,rfl⟩:=r
  cases (show T = "int" from ty)
  exact ⟨typeIs_int s i t,fun _ e=>nomatch e⟩
 | ref p =>
  cases r
  rcases ty with ⟨rfl,xs,hq⟩ | ⟨rfl,o,hk,hc,hd⟩ | ⟨rfl,hk⟩ | ⟨rfl,S,n,hk⟩
  ·obtain ⟨its,_,pl,_⟩:=I.list hq
   refine ⟨pl.isList.typeIs,fun a e=>?_⟩
   cases e
   obtain ⟨o,n,e,c,hd,_⟩:=pl
   exact ⟨o,e,hd⟩
  ·refine ⟨⟨o,I.kIn p o hk,hc⟩,fun a e=>?_⟩
   cases e
   exact ⟨o,I.kIn _ o hk,hd⟩
  ·have z:∃ o,s.heap.get? p = some o/\o.ExactDict:=by
    rcases hk with ⟨kvs,hk⟩ | ⟨kvs,hk⟩
    ·obtain ⟨_,_,_,_,o,_,_,e,ex,_⟩:=I.hok p _ hk
     exact ⟨o,e,ex⟩
    ·obtain ⟨_,_,_,_,o,_,_,e,ex,_⟩:=I.hok p _ hk
     exact ⟨o,e,ex⟩
   obtain ⟨o,e,ex⟩:=z
   refine ⟨⟨o,e,ex.1⟩,fun a e2=>?_⟩
   cases e2
   exact ⟨o,e,ex.2.1⟩
  ·obtain ⟨o,_,_,_,e,ex,_⟩:=I.hok p _ hk
   refine ⟨⟨o,e,ex.1⟩,fun a e2=>?_⟩
   cases e2
   exact ⟨o,e,ex.2.1⟩
 | _=>exact False.elim ty
noncomputable def tBM0 (K:PySem.W.Frag) (T:String) (r:V->List V->Hp->VK->Prop) (to:TE):TE:=fun σ H Q=>to σ H fun x H1=>tyV K T x H1/\r x [] H1 Q
noncomputable def tBM (K:PySem.W.Frag) (T:String) (r:V->List V->Hp->VK->Prop) (to:TE) (t:TA):TE:=fun σ H Q=>to σ H fun x H1=>tyV K T x H1/\t σ H1 fun xs H2=>r x xs H2 Q
variable {o e:Expr} {es:List Expr} {to:TE} {t:TA} {name:Str} {apos cpos:Pos} {T id:String} {r:V->List V->Hp->VK->Prop}
theorem pe_bm0 (pa:PlainAttrs T) (slot:Slot T name id) (hty:typeOf (.builtin id) = pure (.type "method_descriptor")) (hm:MtR X id r) (ho:PE X o to)
  (hbase:attributeBase o name X.env (eval o X.env) = eval o X.env:=by rfl) (hline:(apos.endLine == cpos.line) = true:=by rfl):PE X (.Call (.Attribute o name apos) [] [] cpos) (tBM0 X.K T r to):=by
 intro pins s σ H Q I h
 refine wpAny_Call_method0_late hbase hline (thn (ho pins s σ H _ I h) fun v s1 ⟨x,H1,I1,r1,ty,q1⟩=>?_)
 obtain ⟨h1,h2⟩:=tyV_is I1 r1 ty
 exact ⟨T,id,pa,slot,hty,h1,h2,Calls.callWith_builtin rfl (PySem.evalArgs_none (hm pins s1 σ H1 x [] v [] Q I1 r1 .nil q1))⟩
theorem pe_bm (pa:PlainAttrs T) (slot:Slot T name id) (hty:typeOf (.builtin id) = pure (.type "method_descriptor")) (hm:MtR X id r) (ho:PE X o to) (ha:PA X (e :: es) t)
  (hbase:attributeBase o name X.env (eval o X.env) = eval o X.env:=by rfl)
  (hfew:((backTo cpos (starEach (e :: es) X.env)).all (fun x=>!x.1) && (backToKw cpos (keywordEach [] X.env)).all (fun x=>x.1.isSome)
   && decide ((e :: es).length + ([]:List Keyword).length + (if ([]:List Keyword).isEmpty then 0 else 1) < 30)) = true:=by rfl)
  (hline:(apos.endLine == cpos.line) = true:=by rfl) (hs:starEach (e :: es) X.env = (false,eval e X.env) :: starEach es X.env:=by rfl) (hplain:(backTo cpos (starEach es X.env)).any (·.1) = false:=by rfl) :
  PE X (.Call (.Attribute o name apos) (e :: es) [] cpos) (tBM X.K T r to t):=by
 intro pins s σ H Q I h
 refine wpAny_Call_method_late hbase hfew hline rfl (thn (ho pins s σ H _ I h) fun v s1 ⟨x,H1,I1,r1,ty,q1⟩=>?_)
 obtain ⟨h1,h2⟩:=tyV_is I1 r1 ty
 refine ⟨T,id,pa,slot,hty,h1,h2,?_⟩
 have hA:=ha cpos pins s1 σ H1 _ I1 q1
 rw [hs] at hA ⊢
 refine Calls.callWith_builtin (by show (false || (backTo cpos (starEach es X.env)).any (·.1)) = false; rw [hplain] <;> rfl) (Calls.evalArgs_plain ?_)
 exact thn hA fun us s2 ⟨vs,H2,I2,r2,q2⟩=>hm pins s2 σ H2 x vs v us Q I2 r1 r2 q2
end
end L2
namespace L2
open PySem PySem.Spec PyProof.Rows
noncomputable def MtM (X:Cx) (id:String) (r:V->List V->Hp->VK->Prop):Prop :=
 ∀ (pins:List (Addr × Obj)) (s:Shared) (σ:St) (H:Hp) (x:V) (xs:List V) (v:Value) (us:List Value) (Q:VK),Inv X pins σ H s->RelV x v->Vals xs us->r x xs H Q ->
  wpAny (model X.prog X.w) X.A (call (.builtin id) (v :: us)) (EP X pins σ Q) X.xe s
theorem Vals.one:∀ {x:V} {us:List Value},Vals [x] us->∃ u,us = [u]/\RelV x u
 | _,_,.cons r .nil=>⟨_,rfl,r⟩
theorem Vals.two:∀ {x y:V} {us:List Value},Vals [x,y] us->∃ u v,us = [u,v]/\RelV x u/\RelV y v
 | _,_,_,.cons r (.cons q .nil)=>⟨_,_,rfl,r,q⟩
theorem Vals.zero:∀ {us:List Value},Vals [] us->us = []
 | _,.nil=>rfl
theorem Vals.dropLast {xs:List V} {us:List Value} (h:Vals xs us):Vals xs.dropLast us.dropLast:=by
 induction h with
 | nil=>exact .nil
 | cons r t ih =>
  cases t with
  | nil=>exact .nil
  | cons q t'=>exact .cons r ih
theorem Vals.eraseIdx:∀ {xs:List V} {us:List Value} (i:Nat),Vals xs us->Vals (xs.eraseIdx i) (us.eraseIdx i)
 | _,_,_,.nil=>.nil
 | _,_,0,.cons _ t=>t
 | _,_,i + 1,.cons r t=>.cons r (Vals.eraseIdx i t)
theorem Vals.reverse {xs:List V} {us:List Value} (h:Vals xs us):Vals xs.reverse us.reverse:=by
 induction h with
 | nil=>exact .nil
 | cons r t ih=>rw [List.reverse_cons,List.reverse_cons]; exact Vals.append ih (.cons r .nil)
theorem erase_last {α:Type} (l:List α):l.eraseIdx (l.length - 1) = l.dropLast:=by
 induction l with
 | nil=>rfl
 | cons a r ih =>
  cases r with
  | nil=>rfl
  | cons b r =>
   have e:(a :: b :: r).length - 1 = ((b :: r).length - 1) + 1:=by
    have h1:(a :: b :: r).length = r.length + 2:=rfl
    have h2:(b :: r).length = r.length + 1:=rfl
    omega
   rw [e,List.eraseIdx_cons_succ,ih]
   all_goals rfl
theorem len_erase {α:Type}:∀ (l:List α) (i:Nat),(l.eraseIdx i).length<=l.length
 | [],_=>Nat.le_refl _
 | _ :: _,0=>Nat.le_succ _
 | _ :: r,i + 1=>Nat.succ_le_succ (len_erase r i)
section
variable {X:Cx} {pins:List (Addr × Obj)} {σ:St} {H:Hp} {s:Shared} {l b:Addr} {xs ys zs:List V}
theorem Inv.lset {its its':List Value} {n:Nat} {f:Array Value->Array Value} {t':Nat} (I:Inv X pins σ H s) (hH:H l = some (.lst xs))
  (e:s.heap.get? l = some { cls:=.type "list",data:=.seq its.toArray n }) (hf:f its.toArray = its'.toArray) (hv:Vals ys its') (hz:ys.length<=sizeLine) :
  Inv X pins σ (upd H l (.lst ys)) { s with heap:=s.heap.update l (Obj.mapSeq f),toks:=t' }:=by
 have q:=PySem.IsL.update e f
 rw [hf] at q
 refine I.write (x:=l) (e:=l) (by rw [hH]; exact trivial) (.inl rfl) (fun b' u hb hu=>(Heap.get?_update_other s.heap (Obj.mapSeq f) (Ne.symm hb)).trans hu) ⟨_,q⟩ ?_
 exact ⟨hz,its',_,hv,q⟩
theorem Inv.lnew {its:List Value} {t':Nat} (I:Inv X pins σ H s) (hv:Vals ys its) (hz:ys.length<=sizeLine) :
  Inv X pins σ (upd H s.heap.objs.size (.lst ys)) { s with heap:=s.heap.push { cls:=.type "list",data:=.seq its.toArray },toks:=t' } :=
 I.laid (fun _ _ q=>Heap.get?_push_of_some _ q) (Nat.le_refl _) ⟨hz,its,0,hv,Heap.get?_push_size _ rfl⟩
theorem Inv.fresh (I:Inv X pins σ H s):H s.heap.objs.size = none:=I.hok.fresh (Nat.le_refl _)
theorem Inv.lstM (I:Inv X pins σ H s) (hH:H l = some (.lst xs)):xs.length<=sizeLine/\∃ (its:List Value) (n:Nat),Vals xs its/\xs.length = its.length/\s.heap.get? l = some { cls:=.type "list",data:=.seq its.toArray n }:=by
 obtain ⟨z,its,n,r,e⟩:=I.hok l _ hH
 exact ⟨z,its,n,r,r.length,e⟩
theorem notLongL {n:Nat} (h:n<=sizeLine):Builtin.List.listTooLong n = false:=by
 unfold Builtin.List.listTooLong
 exact decide_eq_false (by omega)
end
section
variable {X:Cx}
noncomputable def rAppend:V->List V->Hp->VK->Prop:=fun x vs H Q=>∃ l xs y,x = .ref l/\vs = [y]/\H l = some (.lst xs)/\xs.length < sizeLine/\Q .non (upd H l (.lst (xs ++ [y])))
theorem mt_append:MtM X "list.append" rAppend:=by
 intro pins s σ H x vs v us Q I rx rv h
 obtain ⟨l,xs,y,rfl,rfl,hH,hz,q⟩:=h
 cases rx
 obtain ⟨u,rfl,ru⟩:=rv.one
 obtain ⟨z,its,n,r,hl,e⟩:=I.lstM hH
 refine call_meets F.slot_list_append ⟨_,e,rfl⟩ F.entry_list_append (F.args_list_append_2 _ _) (PySem.list_append l its.toArray n u (by rw [List.size_toArray]; omega)) ⟨e,?_⟩
 refine ⟨.non,_,I.lset (its':=its ++ [u]) hH e (by simp) (r.append (.cons ru .nil)) ?_,rfl,q⟩
 rw [List.length_append,List.length_singleton]
 omega
noncomputable def rExtend:V->List V->Hp->VK->Prop:=fun x vs H Q=>∃ l b xs zs,x = .ref l/\vs = [.ref b]/\H l = some (.lst xs)/\H b = some (.lst zs)/\xs.length + zs.length<=sizeLine/\Q .non (upd H l (.lst (xs ++ zs)))
theorem mt_extend:MtM X "list.extend" rExtend:=by
 intro pins s σ H x vs v us Q I rx rv h
 obtain ⟨l,b,xs,zs,rfl,rfl,hH,hB,hz,q⟩:=h
 cases rx
 obtain ⟨u,rfl,ru⟩:=rv.one
 cases ru
 obtain ⟨z,its,n,r,hl,e⟩:=I.lstM hH
 obtain ⟨z2,its2,n2,r2,hl2,e2⟩:=I.lstM hB
 have hsz:its.toArray.size + its2.toArray.size<=sizeLine:=by rw [List.size_toArray,List.size_toArray]; omega
 have hlong:¬ (!its.toArray.isEmpty && Builtin.List.listTooLong (its.toArray.size + its2.toArray.size)) = true:=by
  rw [notLongL hsz,Bool.and_false]
  exact Bool.false_ne_true
 refine call_meets F.slot_list_extend ⟨_,e,rfl⟩ F.entry_list_extend (F.args_list_extend_2 _ _)
  (AutoSeq1.list_extend_list_list_0 l its.toArray n b its2.toArray n2 hlong (by rw [List.size_toArray]; omega) (by omega)) ⟨e,e2,?_⟩
 refine ⟨.non,_,I.lset (its':=its ++ its2) hH e (by simp) (r.append r2) ?_,rfl,q⟩
 rw [List.length_append]
 omega
noncomputable def rPop:V->List V->Hp->VK->Prop:=fun x vs H Q=>∃ l xs y,x = .ref l/\vs = []/\H l = some (.lst xs)/\xs[xs.length - 1]? = some y/\Q y (upd H l (.lst xs.dropLast))
theorem mt_pop:MtM X "list.pop" rPop:=by
 intro pins s σ H x vs v us Q I rx rv h
 obtain ⟨l,xs,y,rfl,rfl,hH,hy,q⟩:=h
 cases rx
 have hus:=rv.zero
 subst hus
 obtain ⟨z,its,n,r,hl,e⟩:=I.lstM hH
 obtain ⟨u,hu,ru⟩:=r.get hy
 have hy':its.toArray[its.toArray.size - 1]? = some u:=by
  show its.toArray[its.length - 1]? = some u
  rw [<-Array.getElem?_toList,<-hl]
  exact hu
 refine call_meets F.slot_list_pop ⟨_,e,rfl⟩ F.entry_list_pop (F.args_list_pop_1 _) (MeetsSeq.list_pop_last l its.toArray n u hy' (by rw [List.size_toArray]; omega)) ⟨e,?_⟩
 refine ⟨y,_,I.lset (its':=its.dropLast) hH e ?_ r.dropLast ?_,ru,q⟩
 ·show its.toArray.eraseIdxIfInBounds (its.toArray.size - 1) = its.dropLast.toArray
  rw [List.size_toArray,List.eraseIdxIfInBounds_toArray,erase_last]
 ·rw [List.length_dropLast]
  omega
noncomputable def rPopAt:V->List V->Hp->VK->Prop:=fun x vs H Q=>∃ l xs i k y,x = .ref l/\vs = [.int i]/\H l = some (.lst xs)/\-(2 ^ 63)<=i/\i < 2 ^ 63/\seqIndex? i xs.length = some k/\xs[k]? = some y/\Q y (upd H l (.lst (xs.eraseIdx k)))
theorem mt_popAt:MtM X "list.pop" rPopAt:=by
 intro pins s σ H x vs v us Q I rx rv h
 obtain ⟨l,xs,i,k,y,rfl,rfl,hH,h1,h2,hk,hy,q⟩:=h
 cases rx
 obtain ⟨u,rfl,ru⟩:=rv.one
 obtain ⟨t,rfl⟩:=ru
 obtain ⟨z,its,n,r,hl,e⟩:=I.lstM hH
 obtain ⟨w,hw,rw'⟩:=r.get hy
 refine call_meets F.slot_list_pop ⟨_,e,rfl⟩ F.entry_list_pop (F.args_list_pop_2 _ _)
  (MeetsSeq.list_pop_at l its.toArray n i t k w (fitsIndex_both h1 h2) (by rw [List.size_toArray,<-hl]; exact hk) (by rw [<-Array.getElem?_toList]; exact hw) (by rw [List.size_toArray]; omega)) ⟨e,?_⟩
 refine ⟨y,_,I.lset (its':=its.eraseIdx k) hH e ?_ (r.eraseIdx k) ?_,rw',q⟩
 ·show its.toArray.eraseIdxIfInBounds k = (its.eraseIdx k).toArray
  rw [List.eraseIdxIfInBounds_toArray]
 ·have:=len_erase xs k
  omega
noncomputable def rCat:R2:=fun x y H Q=>∃ l b xs zs,x = .ref l/\y = .ref b/\H l = some (.lst xs)/\H b = some (.lst zs)/\xs.length + zs.length<=sizeLine/\∀ p,H p = none->Q (.ref p) (upd H p (.lst (xs ++ zs)))
theorem op_cat:OpR X (binaryOp .Add) rCat:=by
 intro pins s σ H x y v u Q I rx ry h
 obtain ⟨l,b,xs,zs,rfl,rfl,hH,hB,hz,q⟩:=h
 cases rx
 cases ry
 obtain ⟨z,its,n,r,hl,e⟩:=I.lstM hH
 obtain ⟨z2,its2,n2,r2,hl2,e2⟩:=I.lstM hB
 refine PySem.P.add_list e e2 ?_ (by rw [List.size_toArray,List.size_toArray]; omega)
 have ea:its.toArray ++ its2.toArray = (its ++ its2).toArray:=by simp
 rw [ea]
 exact ⟨.ref _,_,I.lnew (t':=s.toks) (r.append r2) (by rw [List.length_append]; omega),rfl,q _ I.fresh⟩
end
end L2
namespace L2
open PySem PySem.Spec PyProof.Rows
section
variable {κ:Type} [DecidableEq κ]
noncomputable def valV (kvs:List (κ × V)) (k:κ):Option V:=(kvs.find? fun kv=>decide (kv.1 = k)).map (·.2)
noncomputable def putK (kvs:List (κ × V)) (k:κ) (v:V):List (κ × V) :=
 if (kvs.any fun kv=>decide (kv.1 = k)) = true then kvs.map (fun kv=>if kv.1 = k then (kv.1,v) else kv) else kvs ++ [(k,v)]
theorem valV_pos {p:κ × V} {r:List (κ × V)} {k:κ} (e:p.1 = k):valV (p :: r) k = some p.2:=by simp [valV,List.find?_cons,e]
theorem valV_neg {p:κ × V} {r:List (κ × V)} {k:κ} (e:¬ p.1 = k):valV (p :: r) k = valV r k:=by simp [valV,List.find?_cons,e]
theorem valV_any (k:κ):∀ kvs:List (κ × V),(kvs.any fun kv=>decide (kv.1 = k)) = (valV kvs k).isSome
 | []=>rfl
 | p :: r=>by
  rw [List.any_cons]
  by_cases e:p.1 = k
  ·simp only [valV_pos e,decide_eq_true e,Bool.true_or,Option.isSome_some]
  ·rw [valV_neg e,decide_eq_false e,Bool.false_or]; exact valV_any k r
theorem valV_map (k j:κ) (y:V):∀ kvs:List (κ × V),valV (kvs.map fun kv=>if kv.1 = k then (kv.1,y) else kv) j = (valV kvs j).map fun x=>if j = k then y else x
 | []=>rfl
 | p :: r=>by
  have ih:=valV_map k j y r
  rw [List.map_cons]
  by_cases h:p.1 = k
  ·rw [if_pos h]
   by_cases e:p.1 = j
   ·rw [valV_pos (p:=(p.1,y)) e,valV_pos e,Option.map_some,if_pos (e.symm.trans h)]
   ·rw [valV_neg (p:=(p.1,y)) e,valV_neg e,ih]
  ·rw [if_neg h]
   by_cases e:p.1 = j
   ·rw [valV_pos (p:=p) e,valV_pos e,Option.map_some,if_neg (fun z=>h (e.trans z))]
   ·rw [valV_neg (p:=p) e,valV_neg e,ih]
theorem valV_snoc (k j:κ) (y:V):∀ kvs:List (κ × V),valV kvs k = none->valV (kvs ++ [(k,y)]) j = if j = k then some y else valV kvs j
 | [],_=>by
  by_cases e:k = j
  ·rw [if_pos e.symm]; exact valV_pos (p:=(k,y)) e
  ·rw [if_neg (fun z=>e z.symm)]; exact valV_neg (p:=(k,y)) e
 | p :: r,hn=>by
  rw [List.cons_append]
  have hk:¬ p.1 = k:=fun z=>by rw [valV_pos z] at hn; cases hn
  rw [valV_neg hk] at hn
  have ih:=valV_snoc k j y r hn
  by_cases e:p.1 = j
  ·rw [valV_pos e,valV_pos e,if_neg (fun z=>hk (e.trans z))]
  ·rw [valV_neg e,valV_neg e,ih]
theorem valV_put (kvs:List (κ × V)) (k j:κ) (y:V):valV (putK kvs k y) j = if j = k then some y else valV kvs j:=by
 unfold putK
 by_cases a:(kvs.any fun kv=>decide (kv.1 = k)) = true
 ·rw [if_pos a,valV_map]
  rw [valV_any] at a
  by_cases e:j = k
  ·obtain ⟨x,hx⟩:=Option.isSome_iff_exists.mp a
   rw [if_pos e,e,hx,Option.map_some,if_pos rfl]
  ·rw [if_neg e]
   cases valV kvs j with
   | none=>rfl
   | some x=>rw [Option.map_some,if_neg e]
 ·rw [if_neg a]
  refine valV_snoc k j y kvs ?_
  rw [valV_any] at a
  cases q:valV kvs k with
  | none=>rfl
  | some x=>rw [q] at a; exact (a rfl).elim
theorem length_putK (kvs:List (κ × V)) (k:κ) (v:V):(putK kvs k v).length<=kvs.length + 1:=by
 unfold putK
 split
 ·rw [List.length_map]; omega
 ·rw [List.length_append,List.length_cons,List.length_nil]; omega
theorem RelO.getD {o:Option V} {u:Option Value} {d:V} {d':Value} (r:RelO o u) (rd:RelV d d'):RelV (o.getD d) (u.getD d'):=by
 cases o with
 | none=>cases u with
  | none=>exact rd
  | some _=>exact (show False from r).elim
 | some _=>cases u with
  | none=>exact (show False from r).elim
  | some _=>exact r
theorem KV.val {kvs:List (κ × V)} {vs:List (κ × Value)} (r:KV kvs vs) (k:κ):RelO (valV kvs k) (valueAt vs k):=by
 unfold KV at r
 induction r with
 | nil=>exact True.intro
 | @cons p q ps qs h t ih =>
  obtain ⟨h1,h2⟩:=h
  by_cases e:p.1 = k
  ·have e':q.1 = k:=h1.symm.trans e
   have b:valueAt (q :: qs) k = some q.2:=by simp [valueAt,List.find?_cons,e']
   rw [valV_pos e,b]; exact h2
  ·have e':¬ q.1 = k:=fun z=>e (h1.trans z)
   have b:valueAt (q :: qs) k = valueAt qs k:=by simp [valueAt,List.find?_cons,e']
   rw [valV_neg e,b]; exact ih
theorem KV.any {kvs:List (κ × V)} {vs:List (κ × Value)} (r:KV kvs vs) (k:κ):(kvs.any fun kv=>decide (kv.1 = k)) = vs.any fun kv=>decide (kv.1 = k):=by
 unfold KV at r
 induction r with
 | nil=>rfl
 | cons h t ih=>rw [List.any_cons,List.any_cons,ih,h.1]
theorem KV.repl {kvs:List (κ × V)} {vs:List (κ × Value)} (r:KV kvs vs) (k:κ) {y:V} {u:Value} (ry:RelV y u) :
  KV (kvs.map fun kv=>if kv.1 = k then (kv.1,y) else kv) (vs.map fun kv=>if kv.1 = k then (kv.1,u) else kv):=by
 unfold KV at r ⊢
 induction r with
 | nil=>exact .nil
 | @cons p q ps qs h t ih =>
  rw [List.map_cons,List.map_cons]
  refine .cons ?_ ih
  obtain ⟨h1,h2⟩:=h
  by_cases e:p.1 = k
  ·rw [if_pos e,if_pos (h1.symm.trans e)]; exact ⟨h1,ry⟩
  ·rw [if_neg e,if_neg (fun z=>e (h1.trans z))]; exact ⟨h1,h2⟩
theorem KV.put {kvs:List (κ × V)} {vs:List (κ × Value)} (r:KV kvs vs) (k:κ) {y:V} {u:Value} (ry:RelV y u):KV (putK kvs k y) (stored vs k u):=by
 unfold putK stored
 rw [r.any k]
 by_cases e:(vs.any fun kv=>decide (kv.1 = k)) = true
 ·rw [if_pos e,if_pos e]; exact r.repl k ry
 ·rw [if_neg e,if_neg e]; exact Paired.snoc r ⟨rfl,ry⟩
theorem KV.length {kvs:List (κ × V)} {vs:List (κ × Value)} (r:KV kvs vs):kvs.length = vs.length:=Paired.length r
end
theorem kV_is {P:Program} {w:World} {k:Key} {u:Value} (r:RelV (kV k) u):(mixKind P w).is k u = true:=by
 cases k with
 | inl i=>obtain ⟨t,e⟩:=(show ∃ t,u = Value.int i t from r); subst e; exact mixKind_int P w i t
 | inr x=>obtain ⟨t,e⟩:=(show ∃ t,u = Value.str x t from r); subst e; exact mixKind_str P w x t
theorem items_are {P:Program} {w:World}:∀ {ks:List Key} {us:List Value},Vals (ks.map kV) us->ItemsAre (mixKind P w) ks us
 | [],_,r=>by rw [List.map_nil] at r; cases r; exact .nil
 | k :: ks,_,r=>by
  rw [List.map_cons] at r
  cases r with
  | cons h t=>exact .cons (kV_is h) (items_are t)
noncomputable abbrev KT (H:Hp):List (List Key × V)->List (List Key × Addr × Value)->Prop:=Paired fun p q=>p.1 = q.1/\H q.2.1 = some (.tup (p.1.map kV))/\RelV p.2 q.2.2
theorem KT.val {H:Hp} {kvs:List (List Key × V)} {xs:List (List Key × Addr × Value)} (r:KT H kvs xs) (k:List Key):RelO (valV kvs k) ((atKey xs k).map (·.2)):=by
 induction r with
 | nil=>exact True.intro
 | @cons p q ps qs h t ih =>
  obtain ⟨h1,_,h2⟩:=h
  by_cases e:p.1 = k
  ·have e':q.1 = k:=h1.symm.trans e
   have b:atKey (q :: qs) k = some q.2:=by simp [atKey,List.find?_cons,e']
   rw [valV_pos e,b]; exact h2
  ·have e':¬ q.1 = k:=fun z=>e (h1.trans z)
   have b:atKey (q :: qs) k = atKey qs k:=by simp [atKey,List.find?_cons,e']
   rw [valV_neg e,b]; exact ih
section
variable {P:Program} {w:World} {H:Hp} {h:Heap} {a:Addr}
theorem rd_of {u:HO} (ok:HOk P w H h) (e:Rd H a u):ObjOk P w H h a u:=e.ok ok
theorem dk_rd {kvs:List (Key × V)} (ok:HOk P w H h) (e:Rd H a (.dK kvs)):kvs.length<=sizeLine/\(a == sysModules) = false/\∃ vs,KV kvs vs/\h.DictOf (mixKind P w) a vs :=
 show ObjOk P w H h a (.dK kvs) from rd_of ok e
theorem dk_of {kvs:List (Key × V)} (ok:HOk P w H h) (e:H a = some (.dK kvs)):kvs.length<=sizeLine/\(a == sysModules) = false/\∃ vs,KV kvs vs/\h.DictOf (mixKind P w) a vs:=dk_rd ok (.inl e)
theorem key_of {ks:List Key} (ok:HOk P w H h) (e:H a = some (.tup (ks.map kV))):(tupleKind (mixKind P w)).is h ks a:=by
 obtain ⟨_,its,r,o,h1,h2,n,h3⟩:=(show ObjOk P w H h a (.tup (ks.map kV)) from ok a _ e)
 exact ⟨o,its.toArray,n,h1,h2,h3,by simpa using items_are r⟩
theorem dt_rd {kvs:List (List Key × V)} (ok:HOk P w H h) (e:Rd H a (.dT kvs)):kvs.length<=sizeLine/\(a == sysModules) = false /\
  ∃ xs,KT H kvs xs/\h.DictOfH (tupleKind (mixKind P w)) a xs:=by
 obtain ⟨z,y,xs,r,o,es,ep,h1,h2,h3,h4,h5⟩:=(show ObjOk P w H h a (.dT kvs) from rd_of ok e)
 refine ⟨z,y,xs,r,o,es,ep,h1,h2,h3,h4,fun x hx=>?_,h5⟩
 have all:∀ {l:List (List Key × V)} {m:List (List Key × Addr × Value)},KT H l m->∀ x ∈ m,(tupleKind (mixKind P w)).is h x.1 x.2.1:=by
  intro l m q
  induction q with
  | nil=>intro x hx; exact nomatch hx
  | @cons p q ps qs hq t ih =>
   intro x hx
   rcases List.mem_cons.mp hx with e | hx
   ·subst e
    exact key_of ok (by rw [<-hq.1]; exact hq.2.1)
   ·exact ih x hx
 exact all r x hx
end
noncomputable def DGet (H:Hp) (a:Addr) (y:V) (r:Option V):Prop :=
 (∃ kvs k,Rd H a (.dK kvs)/\y = kV k/\r = valV kvs k)\/∃ kvs k b,Rd H a (.dT kvs)/\y = .ref b/\H b = some (.tup (k.map kV))/\r = valV kvs k
theorem DGet.k {H:Hp} {a:Addr} {kvs:List (Key × V)} {k:Key} (e:H a = some (.dK kvs)):DGet H a (kV k) (valV kvs k):=.inl ⟨kvs,k,.inl e,rfl,rfl⟩
section
variable {X:Cx} {pins:List (Addr × Obj)} {σ:St} {H:Hp} {s:Shared} {a:Addr} {y v:V} {u r:Value} {o:Option V} {A:Around} {E:Value->Shared->Prop}
theorem Inv.big (I:Inv X pins σ H s):sysModules < s.heap.objs.size:=by
 have h:mainGlobals < s.heap.objs.size:=(I.mod.glob.keeps I.bk).lt
 exact Nat.lt_trans (by decide) h
theorem d_getItem {Q:Value->Shared->Prop} (hu:A.units + 1 < cLine) (I:Inv X pins σ H s) (g:DGet H a y (some v)) (ry:RelV y u) (h:∀ w' s',Inv X pins σ H s'->RelV v w'->Q w' s') :
  wpAny (model X.prog X.w) A (getItem (.ref a) u) Q E s:=by
 rcases g with ⟨kvs,k,e,ey,l⟩ | ⟨kvs,k,b,e,ey,eb,l⟩
 ·subst ey
  obtain ⟨z,hd,vs,rel,dd⟩:=dk_rd I.hok e
  obtain ⟨w',hw,rw'⟩:=RelO.some_of (v:=v) (o:=valueAt vs k) (by rw [l]; exact rel.val k)
  exact wpAny_getItem_of (kV_is ry) dd.mapOf hw (h w' _ (I.tok _) rw')
 ·subst ey
  cases (show u = Value.ref b from ry)
  obtain ⟨z,hd,xs,rel,dd⟩:=dt_rd I.hok e
  obtain ⟨w',hw,rw'⟩:=RelO.some_of (v:=v) (o:=(atKey xs k).map (·.2)) (by rw [l]; exact rel.val k)
  obtain ⟨p,hp,hp2⟩:=Option.map_eq_some_iff.mp hw
  refine wpAny_getItem_heap (tupleKind_room_in1 hu) (key_of I.hok eb) dd hp ?_
  rw [hp2]
  exact h w' _ (I.tok _) rw'
theorem d_write {h':Heap} {t':Nat} {ob:HO} (I:Inv X pins σ H s) (mu:Mut (H a)) (hs:Heap.SameBut a s.heap h') (he:∃ q,h'.get? a = some q) (new:ObjOk X.prog X.w (upd H a ob) h' a ob) :
  Inv X pins σ (upd H a ob) { s with heap:=h',toks:=t' } :=
 I.write (x:=a) (e:=a) mu (.inl rfl) (fun b q hb z=>(hs.2 b hb).trans z) he new
theorem dk_new {P:Program} {w:World} {H':Hp} {h':Heap} {kvs:List (Key × V)} {vs:List (Key × Value)} (z:kvs.length<=sizeLine) (hd:(a == sysModules) = false) (rel:KV kvs vs) (dd:h'.DictOf (mixKind P w) a vs) :
  ObjOk P w H' h' a (.dK kvs):=⟨z,hd,vs,rel,dd⟩
end
noncomputable def NoSl (i:Expr):Prop:=∀ ov iv,subscripted i false ov iv = operate [ov,iv] (getItem ov iv)
theorem subD_of {prog:Program} {w:World} {A:Around} {E:Value->Shared->Prop} {s:Shared} {env:Env} {value slice:Expr} {pos:Pos} {T id:String} {Q:Value->Shared->Prop}
  (hl:typeLookup (.type T) "__getitem__" = pure (some (.builtin id))) (hs:NoSl slice)
  (h:wpAny (model prog w) A (eval value env) (fun o s₁=>wpAny (model prog w) A (eval slice env) (fun i s₂=>s₂.TypeIs o T/\wpAny (model prog w) A (getItem o i) Q E s₂) E s₁) E s) :
  wpAny (model prog w) A (eval (.Subscript value slice pos) env) Q E s:=by
 refine Subscript_ (wpAny_mono h (fun o s₁ h₁=>wpAny_mono h₁ (fun i s₂ h₂=>?_) fun _ _ x=>x) fun _ _ x=>x)
 obtain ⟨hT,h₂⟩:=h₂
 unfold subscriptTail
 refine wpAny_bind ?_
 rw [getitemInPython_of_ne hT.not_modules]
 refine wpAny_bind (wpAny_specialOf hT hl ?_)
 have fin:wpAny (model prog w) A (subscripted slice false o i) (fun r s₃=>wpAny (model prog w) A (letTemporaryGo value o r >>= fun _=>pure r) Q E s₃) E s₂:=by
  rw [hs o i]
  exact wpAny_operating (wpAny_mono h₂ (fun r s₃ h₃=>wpAny_bind (wpAny_letTemporaryGo (wpAny_pure h₃))) fun _ _ x=>x)
 first
  | exact wpAny_pure (wpAny_bind fin)
  | exact wpAny_bind (wpAny_pure (wpAny_bind fin))
  | exact wpAny_bind fin
theorem dict_typeIs {X:Cx} {pins:List (Addr × Obj)} {σ:St} {H:Hp} {s:Shared} {a:Addr} {y:V} {o:Option V} (I:Inv X pins σ H s) (g:DGet H a y o):s.TypeIs (.ref a) "dict":=by
 rcases g with ⟨kvs,k,e,_,_⟩ | ⟨kvs,k,b,e,_,_,_⟩
 ·obtain ⟨_,_,vs,_,dd⟩:=dk_rd I.hok e
  exact dd.typeIs
 ·obtain ⟨_,_,xs,_,dd⟩:=dt_rd I.hok e
  exact dd.typeIs
noncomputable def tDGet (td ty:TE):TE:=fun σ H Q=>td σ H fun x H1=>ty σ H1 fun y H2=>∃ a v,x = .ref a/\DGet H2 a y (some v)/\Q v H2
section
variable {X:Cx} {o i e value:Expr} {pos pos' tpos:Pos} {td ty tv:TE}
theorem pe_dget (hu:X.A.units + 1 < cLine) (ho:PE X o td) (hi:PE X i ty) (hs:NoSl i):PE X (.Subscript o i pos) (tDGet td ty):=by
 intro pins s σ H Q I h
 refine subD_of PySem.F.slot_dict_getitem.lookup hs (thn (ho pins s σ H _ I h) fun u s1 ⟨x,H1,I1,rx,q1⟩=>thn (hi pins s1 σ H1 _ I1 q1) fun iv s2 ⟨y,H2,I2,ry,a,v,ex,g,q2⟩=>?_)
 subst ex
 obtain rfl:u = Value.ref a:=rx
 exact ⟨dict_typeIs I2 g,d_getItem hu I2 g ry fun w' s3 I3 rw'=>⟨v,H2,I3,rw',q2⟩⟩
end
theorem dk_empty {P:Program} {w:World} {H:Hp} (h:Heap) (hb:sysModules < h.objs.size):ObjOk P w H (h.push { cls:=.type "dict",data:=.dict #[] }) h.objs.size (.dK []) :=
 ⟨Nat.zero_le _,beq_eq_false_iff_ne.mpr (Ne.symm (Nat.ne_of_lt hb)),[],.nil,Heap.DictOf.new h⟩
noncomputable def tDNewK:TE:=fun _ H Q=>∀ p,H p = none->Q (.ref p) (upd H p (.dK []))
section
variable {X:Cx} {pos:Pos}
theorem pe_dnewK:PE X (.Dict [] [] pos) tDNewK:=fun pins s σ H Q I h =>
 wpAny_Dict_empty ⟨.ref s.heap.objs.size,_,I.laid (a:=s.heap.objs.size) (o:=.dK []) (t':=s.toks) (fun _ _ q=>Heap.get?_push_of_some _ q) (Nat.le_refl _) (dk_empty s.heap I.big),rfl,h _ (I.hok.fresh (Nat.le_refl _))⟩
end
structure M2 (X:Cx) (o:Expr) (m:Str) (apos:Pos) (e f:Expr) (cpos:Pos):Prop where
 base:attributeBase o m X.env (eval o X.env) = eval o X.env
 few:((backTo cpos (starEach [e,f] X.env)).all (fun x=>!x.1) && (backToKw cpos (keywordEach [] X.env)).all (fun x=>x.1.isSome)
  && decide (([e,f]:List Expr).length + ([]:List Keyword).length + (if ([]:List Keyword).isEmpty then 0 else 1) < 30)) = true
 line:(apos.endLine == cpos.line) = true
 trees:backTo cpos (starEach [e,f] X.env) = [(false,eval e X.env),(false,eval f X.env)]
noncomputable def IsD (H:Hp) (a:Addr):Prop:=(∃ kvs,Rd H a (.dK kvs))\/∃ kvs,Rd H a (.dT kvs)
theorem isD_at {X:Cx} {pins:List (Addr × Obj)} {σ:St} {H:Hp} {s:Shared} {a:Addr} (I:Inv X pins σ H s) (d:IsD H a) :
  s.TypeIs (.ref a) "dict"/\(∀ b,Value.ref a = .ref b->∃ ob,s.heap.get? b = some ob/\ob.dict = none)/\(a == sysModules) = false:=by
 rcases d with ⟨kvs,e⟩ | ⟨kvs,e⟩
 ·obtain ⟨_,hd,vs,_,dd⟩:=dk_rd I.hok e
  refine ⟨dd.typeIs,fun b q=>?_,hd⟩
  cases q
  obtain ⟨ob,_,_,h1,h2,_⟩:=dd
  exact ⟨ob,h1,h2.2.1⟩
 ·obtain ⟨_,hd,xs,_,dd⟩:=dt_rd I.hok e
  refine ⟨dd.typeIs,fun b q=>?_,hd⟩
  cases q
  obtain ⟨ob,_,_,h1,h2,_⟩:=dd
  exact ⟨ob,h1,h2.2.1⟩
section
variable {X:Cx} {pins:List (Addr × Obj)} {σ:St} {H:Hp} {s:Shared} {a:Addr} {y d:V} {u r:Value} {o:Option V} {A:Around} {E:Value->Shared->Prop}
theorem d_get2 {Q:Value->Shared->Prop} (hu:A.units + 1 < cLine) (I:Inv X pins σ H s) (g:DGet H a y o) (ry:RelV y u) (rd:RelV d r) (h:∀ w' s',Inv X pins σ H s'->RelV (o.getD d) w'->Q w' s') :
  wpAny (model X.prog X.w) A (call (.builtin "dict.get") [.ref a,u,r]) Q E s:=by
 rcases g with ⟨kvs,k,e,ey,l⟩ | ⟨kvs,k,b,e,ey,eb,l⟩
 ·subst ey
  obtain ⟨z,hd,vs,rel,dd⟩:=dk_rd I.hok e
  refine call_meetsIn PySem.F.slot_dict_get dd.typeIs PySem.F.entry_dict_get (PySem.F.args_dict_get_3 _ _ _) (meets_dict_get_default (mixKind X.prog X.w) a (kV_is ry) hd r) ⟨_,dd.mapOf,h _ _ (I.tok _) ?_⟩
  rw [l]
  exact (rel.val k).getD rd
 ·subst ey
  cases (show u = Value.ref b from ry)
  obtain ⟨z,hd,xs,rel,dd⟩:=dt_rd I.hok e
  refine call_meetsIn PySem.F.slot_dict_get dd.typeIs PySem.F.entry_dict_get (PySem.F.args_dict_get_3 _ _ _) (meetsH_dict_get_default (tupleKind (mixKind X.prog X.w)) a b hd r) ⟨tupleKind_room_in1 hu,k,xs,key_of I.hok eb,dd,h _ _ (I.tok _) ?_⟩
  rw [l]
  exact (rel.val k).getD rd
end
noncomputable def tDGet2 (td ty tx:TE):TE:=fun σ H Q=>td σ H fun x H1=>∃ a,x = .ref a/\IsD H1 a/\ty σ H1 fun y H2=>tx σ H2 fun z H3=>∃ o,DGet H3 a y o/\Q (o.getD z) H3
section
variable {X:Cx} {o e f:Expr} {apos cpos:Pos} {td ty tx:TE}
theorem pe_dget2 (hu:X.A.units + 1 < cLine) (ho:PE X o td) (he:PE X e ty) (hf:PE X f tx) (m:M2 X o "get" apos e f cpos):PE X (.Call (.Attribute o "get" apos) [e,f] [] cpos) (tDGet2 td ty tx):=by
 intro pins s σ H Q I h
 refine wpAny_Call_method m.base m.few m.line PySem.F.plainAttrs_dict PySem.F.slot_dict_get PySem.F.type_dict_get (thn (ho pins s σ H _ I h) fun u s1 ⟨x,H1,I1,rx,a,ex,d,q1⟩=>?_)
 subst ex
 obtain rfl:u = Value.ref a:=rx
 obtain ⟨t1,t2,_⟩:=isD_at I1 d
 refine ⟨t1,t2,?_⟩
 rw [m.trees]
 refine Calls.callWith_builtin rfl (Calls.evalArgs_plain (Calls.spliced_cons (thn (he pins s1 σ H1 _ I1 q1) fun iv s2 ⟨y,H2,I2,ry,q2⟩ =>
  Calls.spliced_cons (thn (hf pins s2 σ H2 _ I2 q2) fun fv s3 ⟨z,H3,I3,rz,ov,g,q3⟩=>Calls.spliced_nil ?_))))
 exact d_get2 hu I3 g ry rz fun w' s4 I4 rw'=>⟨_,H3,I4,rw',q3⟩
end
end L2
namespace Att
open PySem PySem.W PySem.Calls PyProof.Rows
theorem ints_of_wellAll {P:Params} {h:Heap}:∀ (ns:List Int) (vs:List Value),WellAll P h vs (ns.map WData.int)->IntsAre vs ns:=by
 intro ns
 induction ns with
 | nil =>
  intro vs w
  rw [List.map_nil] at w
  cases w
  exact .nil
 | cons n ns ih =>
  intro vs w
  rw [List.map_cons] at w
  cases w with
  | cons a b =>
   cases a
   exact .cons _ _ (ih _ b)
theorem script_of {l:OpenLaw} {n:Nat} (hn:l.most = some n) {P:Params} {h:Heap} {args:List WData} {vals:List Value}
  (hpre:l.row.toRowW.claim.pre args = true) (hwl:WellAll P h vals args) :
  ∃ a vs ns,vals = [Value.ref a]/\args = [WData.list (ns.map WData.int)]/\h.get? a = some { cls:=.type "list",data:=.seq vs.toArray }/\IntsAre vs ns/\ns.length<=n:=by
 have hsh:WShape.hasAll [] args [.list .int] = true:=(pre_splitW hpre).1
 have hc:l.pre.holds [] { args:=args } = true:=(pre_splitW hpre).2
 obtain ⟨d,r,rfl,h1,h2⟩:=hasAllW_cons hsh
 obtain rfl:=hasAllW_nil h2
 obtain ⟨xs,rfl,h3⟩:=hasW_list h1
 obtain ⟨ns,rfl⟩:=items_int h3
 have hlen:ns.length<=n:=by
  unfold OpenLaw.pre at hc
  have h4:(WTm.not (.lt (.lit (.int (n:Int))) (.len (.arg 0)))).holds [] { args:=[.list (ns.map .int)] } = true:=by
   have h4:=(holds_andW hc).1
   rw [hn] at h4
   exact h4
  have h5:=condW_of h4 (w_not (w_lt w_lit (w_len_list (w_arg rfl))))
  rw [List.length_map] at h5
  refine Nat.le_of_not_lt fun q=>?_
  have q':(n:Int) < ((ns.length:Nat):Int):=by omega
  first
   | (rw [decide_eq_true q'] at h5; exact absurd h5 (by decide))
   | (simp at h5; omega)
 cases hwl with
 | cons w1 w2 =>
  cases w2
  cases w1 with
  | list ho hall=>exact ⟨_,_,ns,rfl,rfl,ho,ints_of_wellAll ns _ hall,hlen⟩
theorem post_true (l:OpenLaw) (args:List WData):l.row.toRowW.claim.post args (.bool true) args = true :=
 postW_of (r:=l.row.toRowW) (X:=(true == true))
  (show WShape.has [] (.bool true) .bool = true by first | rfl | decide | simp [WShape.has,WShape.arms,WShape.armsAll])
  (show (WTm.eq .res (.lit (.bool true))).value [] { args:=args,res:=some (.bool true),after:=args } = some (.bool (true == true)) from w_eq_bool (w_res rfl) w_lit) rfl
theorem attach_call {l:OpenLaw} {n:Nat} {q:Program} {loose:List Str} {XP:(Str->Option Value)->Heap->Prop} {YP:World->Heap->Prop} {d:DefRec}
  (hn:l.most = some n) (hdf:d.params.defaults = [])
  (call:∀ (w:World) (s₀ s₁:Shared) (mg mb:Str->Option Value) (fa:Addr) (o:Obj) (pm cd doc:Value) (a:Addr) (vs:List Value) (ns:List Int),
   Ground q loose [] XP w s₀ mg mb s₁.heap->YP w s₁.heap ->
   s₁.heap.get? fa = some o->o.data = .func (docDef d.name d.params d.body d.scope pm cd doc)->s₁.heap.CodeRec cd d.name->mg d.name = some (.ref fa) ->
   s₁.heap.get? a = some { cls:=.type "list",data:=.seq vs.toArray }->IntsAre vs ns->ns.length<=n->s₁.gens = #[] ->
   codeAny (model l.prog w) callerA (.call (.ref fa) ⟨[.ref a],[]⟩) (fun r s'=>r = .ok (.ret (.bool true))/\OldK s₁.heap s'.heap/\s'.os = s₁.os/\AllBare s'.gens) s₁) :
  WalkO q loose XP YP l.row.toRowW d [] (fun f vs=>PySem.call f vs):=by
 intro w s₀ s₁ mg mb G Y fa o pm cd doc dV kV ho hd hcd hD hmg hg args vals as hpre hlay hrd hwl hlo
 obtain rfl:dV = .none:=Dflts.none hD hdf
 obtain rfl:kV = .none:=Dflts.noKw hD
 obtain ⟨a,vs,ns,rfl,rfl,hobj,hints,hlen⟩:=script_of hn hpre hwl
 refine enter_call (codeAny_mono (call w s₀ s₁ mg mb fa o pm cd doc a vs ns G Y ho (fd_plain hd) hcd hmg hobj hints hlen hg) fun r s' hq=>?_)
 obtain ⟨rfl,h2,h3,h4⟩:=hq
 exact ⟨.inl ⟨.bool true,.bool true,[],rfl,fun _=>rfl,.bool true,post_true l _,fun _=>⟨List.Pairwise.nil,fun _ hm=>(nomatch hm)⟩⟩,h2,h3,h4⟩
end Att
namespace L2
open PySem PySem.Spec PyProof.Rows
theorem vals_ints:∀ {vs:List Value} {ns:List Int},IntsAre vs ns->Vals (ns.map V.int) vs
 | _,_,.nil=>.nil
 | _,_,.cons n t h=>.cons ⟨t,rfl⟩ (vals_ints h)
noncomputable def Only (H:Hp):Prop:=∀ b,H b = none\/∃ o xs,H b = some (.frz o (.lst xs))
theorem law_call {P:Program} {w:World} {K:PySem.W.Frag} {mg mb:Str->Option Value} {CX:CXT} {k:Nat} {fa a:Addr} {fd:FuncData} {x:Str} {sp:Sp} {s₁:Shared} {vs:List Value} {ns:List Int}
  (KX:K.In s₁.heap) (hns:s₁.heap.Ns mainGlobals mg) (hb:s₁.heap.Ns builtinsNs mb) (hbb:∀ x:Str,x ≠ "__name__"->mb x = bootBuiltins x) (hlim:s₁.heap.NoLimit) (hg:s₁.gens = #[])
  (ha:s₁.heap.get? a = some { cls:=.type "list",data:=.seq vs.toArray }) (hi:IntsAre vs ns) (hl:ns.length<=sizeLine) (hr:Room k callerA)
  (F:∀ base:Heap,K.In base->base.Ns mainGlobals mg->FnOk P w K mg base CX k fa fd [x] sp) (hbind:∀ (s:Shared) (u:Value),BindsTo s fd ⟨[u],[]⟩ [(x,u)])
  (hsp:∀ H:Hp,Only H->SqL K H a (ns.map V.int)->sp [.ref a] H (fun v _=>v = .bl true) fun _ _ _=>False)
  (hCX:∀ H e s',CX [] H s₁ (fun _ _ _=>False) e s'->False) :
  codeAny (model P w) callerA (.call (.ref fa) ⟨[.ref a],[]⟩) (fun r s'=>r = .ok (.ret (.bool true))/\OldK s₁.heap s'.heap/\s'.os = s₁.os/\AllBare s'.gens) s₁:=by
 have rv:=vals_ints hi
 have lenV:=hi.length
 have core:∀ H:Hp,Only H->SqL K H a (ns.map V.int)->HOk P w H s₁.heap->(∀ b,H b ≠ none->b = a)->(H a ≠ none->K.lookup a = none) ->
   codeAny (model P w) callerA (.call (.ref fa) ⟨[.ref a],[]⟩) (fun r s'=>r = .ok (.ret (.bool true))/\OldK s₁.heap s'.heap/\s'.os = s₁.os/\AllBare s'.gens) s₁:=by
  intro H hO hS hok hA hK
  have base_of:∀ {b:Addr} {o:Obj},s₁.heap.get? b = some o->H b = none->(hidT s₁.heap H).get? b = some o:=fun e n=>hidT_get e n
  have noA:∀ {b:Addr} {o:Obj} {es:Array DictEntry} {ep:Nat},s₁.heap.get? b = some o->o.data = .dict es ep->H b = none:=fun {b o es ep} e d=>by
   cases q:H b with
   | none=>rfl
   | some u =>
    have e':b = a:=hA b (by rw [q]; simp)
    subst e'
    rw [ha] at e; cases e
    have d':Data.seq vs.toArray _ = Data.dict es ep:=d
    cases d'
  have nsK:∀ {b:Addr} {m:Str->Option Value},s₁.heap.Ns b m->(hidT s₁.heap H).Ns b m:=fun {b m} ⟨o,es,ep,e,d,r⟩=>⟨o,es,ep,base_of e (noA e d),d,r⟩
  have hKb:K.In (hidT s₁.heap H):=fun b o e=>base_of (KX b o e) (by
   cases q:H b with
   | none=>rfl
   | some u =>
    have e':b = a:=hA b (by rw [q]; simp)
    subst e'
    rw [hK (by rw [q]; simp)] at e; cases e)
  have hM:Mod K mg (hidT s₁.heap H):=⟨hKb,nsK hns,⟨mb,nsK hb,hbb⟩,let ⟨mc,h1,h2⟩:=hlim; ⟨mc,nsK h1,h2⟩⟩
  have e0:Env0 P w K mg (hidT s₁.heap H) callerA [] s₁ H:=⟨rfl,hM,fun b o e=>of_hidT e,Nat.le_of_eq (hidT_size _ _),trivial,fun b hb=>absurd (show b ∈ ([]:List Addr) from hb) (by simp),hok,.of_eq hg⟩
  refine codeAny_mono ((F _ hKb (nsK hns)).run callerA [] s₁ H ⟨[.ref a],[]⟩ [.ref a] [.ref a] _ _ hr e0 (hbind s₁ (.ref a)) (.cons rfl .nil) (hsp H hO hS)) fun r s' h=>?_
  cases r with
  | error e=>exact (hCX H e s' h).elim
  | ok fl =>
   cases fl with
   | next=>exact False.elim h
   | brk=>exact False.elim h
   | cont=>exact False.elim h
   | ret u =>
    obtain ⟨v,H',os,bare,un,hok',r',q⟩:=h
    have q':v = .bl true:=q
    subst q'
    obtain rfl:u = Value.bool true:=r'
    refine ⟨rfl,OldK.of_keep fun b o e=>?_,os,bare⟩
    cases q:H b with
    | none=>exact un.keep b o e q (by intro z; exact absurd (show b ∈ ([]:List Addr) from z) (by simp)) (by simp)
    | some u =>
     rcases hO b with z | ⟨ob,xs,z⟩
     ·rw [q] at z; cases z
     ·have z2:=un.frzs b ob _ z
      obtain ⟨e1,_⟩:=hok b _ z
      obtain ⟨e2,_⟩:=hok' b _ z2
      rw [e] at e1; cases e1
      exact e2
 cases hk:K.lookup a with
 | some o =>
  have e:=KX a o hk
  rw [ha] at e
  cases e
  refine core (fun _=>none) (fun _=>.inl rfl) (.inr ⟨_,vs.toArray,_,hk,rfl,rfl,rfl,by rw [List.size_toArray,lenV]; exact hl,by simpa using rv⟩) (fun b u z=>by have z':(none:Option HO) = some u:=z; cases z') (fun b z=>absurd rfl z) fun z=>absurd rfl z
 | none =>
  refine core (fun b=>if b = a then some (.frz { cls:=.type "list",data:=.seq vs.toArray } (.lst (ns.map V.int))) else none) (fun b=>?_) (.inl (.inr ⟨{ cls:=.type "list",data:=.seq vs.toArray },if_pos rfl⟩)) (fun b u z=>?_) (fun b z=>?_) fun _=>hk
  ·by_cases hb:b = a
   ·exact .inr ⟨_,_,if_pos hb⟩
   ·exact .inl (if_neg hb)
  ·by_cases hb:b = a
   ·have z':=(if_pos hb).symm.trans z
    cases z'
    subst hb
    exact ⟨ha,by rw [List.length_map]; exact hl,vs,_,rv,ha⟩
   ·have z':=(if_neg hb).symm.trans z
    cases z'
  ·by_cases hb:b = a
   ·exact hb
   ·exact absurd (if_neg hb) z
end L2
namespace L2
open PySem PySem.Spec PyProof.Rows
theorem walk_of {l:PySem.W.OpenLaw} {n k:Nat} {q:Program} {loose:List Str} {XP:(Str->Option Value)->Heap->Prop} {YP:World->Heap->Prop} {d:DefRec} {K:Params->PySem.W.Frag} {CX:World->CXT} {sp:World->Sp} {x:Str}
  (hn:l.most = some n) (hn2:n<=sizeLine) (hdf:d.params.defaults = []) (hr:Room k callerA)
  (hY:∀ (w:World) (h:Heap),YP w h->(K w.params).In h)
  (F:∀ (w:World) (mg:Str->Option Value) (fa:Addr) (h:Heap),(K w.params).In h->h.Ns mainGlobals mg->mg d.name = some (.ref fa) ->
   ∃ fd:FuncData,(∀ (s:Shared) (u:Value),BindsTo s fd ⟨[u],[]⟩ [(x,u)]) /\
    ∀ base:Heap,(K w.params).In base->base.Ns mainGlobals mg->FnOk l.prog w (K w.params) mg base (CX w) k fa fd [x] (sp w))
  (hsp:∀ (w:World) (H:Hp) (a:Addr) (ns:List Int),ns.length<=n->Only H->SqL (K w.params) H a (ns.map V.int)->sp w [.ref a] H (fun v _=>v = .bl true) fun _ _ _=>False)
  (hCX:∀ (w:World) (H:Hp) (s:Shared) (e:Value) (s':Shared),CX w [] H s (fun _ _ _=>False) e s'->False) :
  PySem.W.WalkO q loose XP YP l.row.toRowW d [] (fun f vs=>PySem.call f vs):=by
 refine Att.attach_call hn hdf fun w s₀ s₁ mg mb fa o pm cd doc a vs ns G Y ho hd hcd hmg hobj hints hlen hg=>?_
 have KX:=hY w _ Y
 obtain ⟨fd,hb,hF⟩:=F w mg fa _ KX G.T.g hmg
 exact law_call KX G.T.g G.T.b G.T.builtins G.T.nolimit hg hobj hints (Nat.le_trans hlen hn2) hr hF hb (fun H hO hS=>hsp w H a ns hlen hO hS) fun H e s'=>hCX w H s₁ e s'
end L2
namespace L2
open PySem PySem.Spec PyProof.Rows
noncomputable def inClass (s:Stmt) (j:Nat):Stmt:=match s with
 | .ClassDef _ _ _ body _ _ _ _ _ _ _=>body.getD j (.Pass ⟨0,0,0,0⟩)
 | _=>.Pass ⟨0,0,0,0⟩
noncomputable def defArgs (s:Stmt):Arguments:=match s with
 | .FunctionDef _ a _ _ _ _ _ _ _ _=>a
 | _=>{ posonlyargs:=[],args:=[],vararg:=none,kwonlyargs:=[],kw_defaults:=[],kwarg:=none,defaults:=[] }
noncomputable def defBody (s:Stmt):List Stmt:=match s with
 | .FunctionDef _ _ b _ _ _ _ _ _ _=>b
 | _=>[]
noncomputable def defScope (s:Stmt):Scope:=match s with
 | .FunctionDef _ _ _ _ _ _ sc _ _ _=>sc
 | _=>{ kind:=.function,names:=[],isGenerator:=false,isCoroutine:=false }
noncomputable abbrev CX0:CXT:=fun _ _ _ _ _ _=>False
noncomputable abbrev E0:XK:=fun _ _ _=>False
theorem pass0 {X:Cx}:Passes CX0 X E0:=fun _ _ _ _ _ _ _ h=>h.elim
structure Fun (K:PySem.W.Frag) (x qual:Str) (st:Stmt) (f:Addr) (fd:FuncData):Prop where
 ex:∃ (oc:Value) (od:Option Addr) (kV doc pm:Value) (an:Option Addr) (cdv ct:Value) (osl:Array (Option Value)),
  fd = PySem.W.fnOf x qual (defArgs st) (defBody st) (defScope st) .none kV doc pm an cdv ct/\K.lookup f = some ⟨oc,od,.func fd,osl⟩/\PySem.W.codeIn K cdv qual = true
 kp:PySem.W.keepIn K (.ref f) = true
section
variable {P:Program} {w:World} {K:PySem.W.Frag} {mg:Str->Option Value} {base:Heap}
theorem Fun.ok {x qual:Str} {st:Stmt} {f:Addr} {fd:FuncData} {N ps:List Str} {k:Nat} {sp:Sp} (F:Fun K x qual st f fd) (S:FnScope N ps (defScope st)) (len:∀ vs H Q E,sp vs H Q E->vs.length = ps.length)
  (hbody:∀ (cdv:Value) (A:Around) (outer:List Env) (s:Shared) (H:Hp) (vs:List V) (Q:VK) (E:XK),Room k (A.deeper (envOfC qual (defScope st) s.heap.objs.size f cdv))->sp vs H Q E ->
   ∃ t,PSs (cxOf CX0 P w K mg base N qual (defScope st) f cdv A outer s H E).nox (defBody st) t/\t { nx:=fun _ H'=>Q .non H',rt:=Q } (start N vs) H):FnOk P w K mg base CX0 (k + 1) f fd ps sp:=by
 obtain ⟨oc,od,kV,doc,pm,an,cdv,ct,osl,rfl,lk,hcd⟩:=F.ex
 refine fn_of lk hcd S len fun A outer s H vs Q E hr hsp=>?_
 obtain ⟨t,h,q⟩:=hbody cdv A outer s H vs Q E hr hsp
 exact ⟨t,h.nox,q⟩
theorem Fun.binds {x qual:Str} {st:Stmt} {f:Addr} {fd:FuncData} {ps:List Str} (F:Fun K x qual st f fd)
  (h:∀ (kV doc pm:Value) (an:Option Addr) (cdv ct:Value) (us:List Value),us.length = ps.length->bindArgs (PySem.W.fnOf x qual (defArgs st) (defBody st) (defScope st) .none kV doc pm an cdv ct) ⟨us,[]⟩ = pure (ps.zip us)):Binds K fd ps []:=by
 obtain ⟨oc,od,kV,doc,pm,an,cdv,ct,osl,rfl,lk,hcd⟩:=F.ex
 exact .all (h kV doc pm an cdv ct)
theorem fun_mk {x qual:Str} {st:Stmt} {f:Addr} {oc:Value} {od an:Option Addr} {osl:Array (Option Value)} {kV doc pm cdv ct:Value} (l:K.lookup f = some ⟨oc,od,.func (PySem.W.fnOf x qual (defArgs st) (defBody st) (defScope st) .none kV doc pm an cdv ct),osl⟩)
  (c:PySem.W.codeIn K cdv qual = true) (k:PySem.W.keepIn K (.ref f) = true):Fun K x qual st f (PySem.W.fnOf x qual (defArgs st) (defBody st) (defScope st) .none kV doc pm an cdv ct):=⟨⟨oc,od,kV,doc,pm,an,cdv,ct,osl,rfl,l,c⟩,k⟩
end
theorem hu_of {A:Around} {k:Nat} (hr:Room k A):A.units + 1 < cLine:=Nat.lt_of_le_of_lt (Nat.add_le_add_left (by decide:1<=64) _) hr.units
section
variable {X:Cx}
theorem pv (i:Nat) {x:Str} {pos:Pos} (hN:X.N[i]? = some x:=by rfl) (hv:Vis X.env.scope x:=by first | exact Or.inl rfl | exact Or.inr (Or.inl rfl) | exact Or.inr (Or.inr rfl)) (hd:(x == ("__debug__":Str)) = false:=by decide)
  (hcd:(x == ("__classdict__":Str)) = false:=by decide):PE X (.Name x pos) (tVar i):=pe_var hN hv hd hcd
end
theorem iteF {A B:Prop} (h:B):if false = true then A else B:=by
 rw [if_neg Bool.false_ne_true]
 exact h
theorem iteT {A B:Prop} (h:A):if true = true then A else B:=by
 rw [if_pos rfl]
 exact h
theorem ite2 {c A B:Prop} [Decidable c] (h1:c->A) (h2:¬ c->B):if c then A else B:=by
 by_cases h:c
 ·rw [if_pos h]
  exact h1 h
 ·rw [if_neg h]
  exact h2 h
noncomputable def Same (H H':Hp):Prop:=∀ b o,H b = some o->H' b = some o
theorem Same.refl (H:Hp):Same H H:=fun _ _ h=>h
theorem Same.trans {H H1 H2:Hp} (a:Same H H1) (b:Same H1 H2):Same H H2:=fun c o h=>b c o (a c o h)
theorem Same.free {H H':Hp} (e:Same H H') {l:Addr} (h:H' l = Option.none):H l = Option.none:=by
 cases q:H l with
 | none=>rfl
 | some o =>
  rw [e l o q] at h
  cases h
end L2
namespace L2
open PySem PySem.Spec PyProof.Rows
noncomputable def cxC (X:Cx) (scope:Scope) (cl:List (Str × Addr)) (N':List Str) (pins:List (Addr × Obj)) (ex:List Addr) (s3:Shared) (H3:Hp):Cx where
 prog:=X.prog
 w:=X.w
 K:=X.K
 mg:=X.mg
 base:=X.base
 A:=X.A
 N:=N'
 s₀:=s3
 H₀:=H3
 env:=compEnvC scope cl s3.heap.objs.size X.env
 outer:=X.stack
 stack:=X.stack
 ex:=ex
 fn:=fun _=>false
 calm:=X.calm
 pn:=X.pn ++ pins
 xe:=fun _ _=>False
noncomputable def Caps (X:Cx) (scope:Scope) (cl:List (Str × Addr)):List Str->List (Option Nat)->Prop
 | [],[]=>True
 | _ :: N,none :: c=>Caps X scope cl N c
 | x :: N,some j :: c=>(X.N[j]? = some x/\X.env.scope.names.lookup x = some .cell/\(relabel scope X.env).names.lookup x = some .cell/\cl.lookup x = X.env.cells.lookup x)/\Caps X scope cl N c
 | _,_=>False
noncomputable def ClIn (X:Cx):List (Str × Addr)->Prop
 | []=>True
 | p :: r=>X.env.cells.lookup p.1 = some p.2/\ClIn X r
structure CScope (X:Cx) (scope:Scope) (cl:List (Str × Addr)) (N':List Str) (cap:List (Option Nat)):Prop where
 kind:scope.kind = .function
 nocell:∀ y ∈ scope.names,y.2 ≠ .cell
 loc:∀ y ∈ scope.names,y.2 = .local->scope.names.lookup y.1 = some .local
 clos:closureFor scope X.env = pure cl
 cin:ClIn X cl
 has:((relabel scope X.env).names.all fun y=>!(y.2 == .cell || y.2 == .free) || (cl.lookup y.1).isSome) = true
 caps:Caps X scope cl N' cap
noncomputable def capS (cap:List (Option Nat)) (σ:St):St:=cap.map fun o=>o.bind fun j=>(σ[j]?).join
theorem ClIn.get {X:Cx}:∀ {cl:List (Str × Addr)} {x:Str} {c:Addr},ClIn X cl->cl.lookup x = some c->X.env.cells.lookup x = some c
 | [],_,_,_,h=>by simp at h
 | (y,d) :: r,x,c,⟨h1,h2⟩,h=>by
  rw [List.lookup_cons] at h
  cases e:x == y with
  | true =>
   rw [e] at h
   cases h
   rw [beq_iff_eq.mp e]
   exact h1
  | false =>
   rw [e] at h
   exact ClIn.get h2 h
theorem Caps.len {X:Cx} {scope:Scope} {cl:List (Str × Addr)}:∀ {N:List Str} {cap:List (Option Nat)},Caps X scope cl N cap->cap.length = N.length
 | [],[],_=>rfl
 | _ :: N,none :: c,h=>by rw [List.length_cons,List.length_cons,Caps.len (N:=N) (cap:=c) h]
 | _ :: N,some j :: c,h=>by rw [List.length_cons,List.length_cons,Caps.len h.2]
 | [],_ :: _,h=>h.elim
 | _ :: _,[],h=>h.elim
theorem Caps.get {X:Cx} {scope:Scope} {cl:List (Str × Addr)} {j:Nat} {x:Str}:∀ {N:List Str} {cap:List (Option Nat)} {i:Nat},Caps X scope cl N cap->N[i]? = some x->cap[i]? = some (some j) ->
  X.N[j]? = some x/\X.env.scope.names.lookup x = some .cell/\(relabel scope X.env).names.lookup x = some .cell/\cl.lookup x = X.env.cells.lookup x
 | [],_,_,_,h,_=>by simp at h
 | _ :: _,[],_,_,_,h=>by simp at h
 | y :: N,none :: c,0,_,_,h=>by simp at h
 | y :: N,none :: c,i + 1,h,h1,h2=>Caps.get (N:=N) (cap:=c) (i:=i) h (by simpa using h1) (by simpa using h2)
 | y :: N,some k :: c,0,h,h1,h2=>by
  simp at h1 h2
  subst h1; subst h2
  exact h.1
 | y :: N,some k :: c,i + 1,h,h1,h2=>Caps.get (N:=N) (cap:=c) (i:=i) h.2 (by simpa using h1) (by simpa using h2)
section
variable {X:Cx} {scope:Scope} {cl:List (Str × Addr)} {N':List Str} {cap:List (Option Nat)} {pins:List (Addr × Obj)} {σ:St} {H3:Hp} {s3:Shared} {ex:List Addr}
theorem lookup_all {p:NameKind->Bool}:∀ {names:List (Str × NameKind)} {q:Str->NameKind->Bool} {x:Str} {k:NameKind},(names.all fun y=>q y.1 y.2) = true->names.lookup x = some k->q x k = true
 | [],_,_,_,_,h=>by simp at h
 | (y,d) :: r,q,x,k,ha,h=>by
  rw [List.all_cons,Bool.and_eq_true] at ha
  rw [List.lookup_cons] at h
  cases e:x == y with
  | true =>
   rw [e] at h
   cases h
   rw [beq_iff_eq.mp e]
   exact ha.1
  | false =>
   rw [e] at h
   exact lookup_all (p:=p) (names:=r) (q:=q) ha.2 h
theorem Inv.block (I:Inv X pins σ H3 s3) (S:CScope X scope cl N' cap) (hc:X.calm = true) (hex:∀ b ∈ ex,FpOk X pins H3 b/\∃ o,s3.heap.get? b = some o) {h1:Heap} {tk:Nat}
  (hns:h1.Ns s3.heap.objs.size (fun _=>none)) (hk:∀ b o,s3.heap.get? b = some o->h1.get? b = some o) :
  Inv (cxC X scope cl N' pins ex s3 H3) [] (capS cap σ) H3 { s3 with heap:=h1,toks:=tk }:=by
 have lt3:∀ b o,s3.heap.get? b = some o->b ≠ s3.heap.objs.size:=fun b o e=>Nat.ne_of_lt (Heap.lt_size e)
 have hcell:∀ x c,cl.lookup x = some c->∃ v,s3.heap.IsCell c v:=fun x c e=>I.cell x c (S.cin.get e)
 have hfree:H3 s3.heap.objs.size = none:=I.hok.fresh (Nat.le_refl _)
 refine ⟨⟨I.ok.mod,?_,I.ok.glob,I.ok.blt,Nat.le_refl _,fun x y c e1 e2=>I.ok.inj x y c (S.cin.get e1) (S.cin.get e2),fun x hx=>?_,fun x c h _=>absurd h Bool.false_ne_true,I.ok.hd,I.ok.frames,.inl rfl,fun b hb=>?_,I.bs,Nat.le_trans I.ok.bsz I.sz,fun b o e hb=>?_,fun b hb=>?_,I.stack,I.stkFree⟩,
  rfl,I.bare,Un.kept hk,⟨_,hns,fun i x v e1 e2 e3=>?_⟩,fun x c e=>?_,hfree,fun x c e=>I.freeC x c (S.cin.get e),fun p hp=>?_,I.hok.kept hk,?_⟩
 ·exact S.kind
 ·have q:∀ k,(relabel scope X.env).names.lookup x = some k->(!(k == .cell || k == .free) || (cl.lookup x).isSome) = true:=fun k e=>lookup_all (p:=fun _=>true) (q:=fun a k=>!(k == .cell || k == .free) || (cl.lookup a).isSome) S.has e
  have hx':(relabel scope X.env).names.lookup x = some .cell\/(relabel scope X.env).names.lookup x = some .free:=hx
  have:(cl.lookup x).isSome = true:=by
   rcases hx' with e | e
   ·exact q _ e
   ·exact q _ e
  exact Option.isSome_iff_exists.mp this
 ·obtain ⟨⟨_,_,_,_,f4,_⟩,o,e⟩:=hex b hb
  exact ⟨lt3 b o e,fun x c ec=>f4 x c (S.cin.get ec)⟩
 ·obtain ⟨⟨f0,f1,f2,f3,_⟩,_⟩:=hex b hb
  rcases f3 with f3 | f3
  ·exact I.ok.noex b o e f3
  ·have:=(I.ok.bs b o e).1
   exact absurd (Nat.lt_of_lt_of_le (Heap.lt_size this) f3) (Nat.lt_irrefl _)
 ·intro hf
  obtain ⟨⟨_,f1,f2,_⟩,_⟩:=hex b hb
  rcases List.mem_cons.mp (I.stkSub b hf) with z | z
  ·exact f1 z
  ·exact f2 z
 ·unfold capS at e2
  rw [List.getElem?_map] at e2
  cases ec:cap[i]? with
  | none=>rw [ec] at e2; cases e2
  | some o =>
   rw [ec] at e2
   cases o with
   | none=>cases e2
   | some j =>
    have e2':(σ[j]?).join = some v:=Option.some.inj e2
    obtain ⟨c1,c2,c3,c4⟩:=S.caps.get e1 ec
    have ej:σ[j]? = some (some v):=by
     cases ej:σ[j]? with
     | none=>rw [ej] at e2'; cases e2'
     | some z=>rw [ej] at e2'; cases z with
      | none=>cases e2'
      | some z=>cases e2'; rfl
    obtain ⟨m,hn,hl⟩:=I.loc
    obtain ⟨u,r,l⟩:=hl j x v c1 ej (.inr (.inl c2))
    refine ⟨u,r,?_⟩
    rcases l with ⟨k,_⟩ | ⟨_,c,hc',hcell'⟩
    ·have:X.env.scope.names.lookup x = some .local:=k
     rw [c2] at this; cases this
    ·exact .inr ⟨.inl c3,c,c4.trans hc',let ⟨o,ho,hd⟩:=hcell'; ⟨o,hk _ _ ho,hd⟩⟩
 ·obtain ⟨v,o,ho,hd⟩:=hcell x c e
  exact ⟨v,o,hk _ _ ho,hd⟩
 ·have hp':p ∈ X.pn ++ pins:=by simpa [cxC] using hp
  obtain ⟨e,n,ne,nf,d⟩:=I.pin p hp'
  refine ⟨hk _ _ e,n,lt3 _ _ e,fun hf=>?_,d⟩
  rcases List.mem_cons.mp (I.stkSub p.1 hf) with z | z
  ·exact ne z
  ·exact nf z
 ·unfold capS
  rw [List.length_map]
  exact S.caps.len
theorem Inv.unblock {σ':St} {H':Hp} {s':Shared} {h':Heap} (I:Inv X pins σ H3 s3) (hex:∀ b ∈ ex,FpOk X pins H3 b) (J:Inv (cxC X scope cl N' pins ex s3 H3) [] σ' H' s') (hb:Heap.SameBut s3.heap.objs.size s'.heap h') :
  Inv X pins σ H' { s' with heap:=h' }:=by
 have hfr:H' s3.heap.objs.size = none:=J.free
 refine I.call' (ch:=ex) J.os ⟨fun b o e n h1 h2=>?_,fun b o e n h1 h2=>?_,fun b o e n h2=>?_,fun b o e h2=>?_,J.base.tups,J.base.frzs,J.base.tbls⟩ (fun b ob e=>?_) J.bare fun b hbx=>?_
 ·exact (hb.2 b (Nat.ne_of_lt (Heap.lt_size e))).trans (J.base.keep b o e n h1 h2)
 ·obtain ⟨sl,q⟩:=J.base.slot b o e n h1 h2
  exact ⟨sl,(hb.2 b (Nat.ne_of_lt (Heap.lt_size e))).trans q⟩
 ·exact J.base.free b o e n h2
 ·obtain ⟨o',q⟩:=J.base.there b o e h2
  exact ⟨o',(hb.2 b (Nat.ne_of_lt (Heap.lt_size e))).trans q⟩
 ·refine (J.hok b ob e).stay (fun c w' hc q=>(hb.2 c ?_).trans q) (fun _ q=>q) fun _ _ q=>q
  rintro rfl
  rcases hc with z | z
  ·rw [<-z,hfr] at e; cases e
  ·rw [hfr] at z; cases z
 ·obtain ⟨_,f1,_,f3,f4,f5⟩:=hex b hbx
  exact ⟨f3,f1,f4,f5⟩
end
end L2
namespace L2
open PySem PySem.Spec PyProof.Rows
noncomputable def turnOf (e:Expr) (d:Nat) (iter tg:Expr) (ifs:List Expr) (emit:Sem Fin->Sem Fin) (it acc:Value) (env:Env):Sem Fin:=do
 standAt iter.pos
 match <-pyNext it with
 | none=>pure (.done .next)
 | some v =>
  letOwnedTupleGo tg it v
  assign tg env v
  let mut ok:=true
  for c in ifs do
   if ok then ok <-isTrue c env (eval c env)
  if ok then emit (again (.compLoop e d it acc env)) else again (.compLoop e d it acc env)
noncomputable def emL (elt:Expr) (acc:Value) (env:Env) (k:Sem Fin):Sem Fin:=(do let _ <-call (.builtin "list.append") [acc,<-eval elt env]:Sem Unit) >>= fun _=>k
noncomputable def emD (a b:Expr) (D:Addr) (env:Env) (k:Sem Fin):Sem Fin:=(do
   let kv <-eval a env
   let vv <-holding [kv] (eval b env)
   standAt { a.pos with endLine:=b.pos.endLine,endCol:=b.pos.endCol }
   holding [kv,vv] (dictSet D kv vv):Sem Unit) >>= fun _=>k
theorem turnE_list (elt tg iter:Expr) (ifs:List Expr) (scope:Scope) (pos:Pos) (it acc:Value) (env:Env) :
  compTurn (.ListComp elt [⟨tg,iter,ifs,0⟩] scope pos) 0 it acc env = turnOf (.ListComp elt [⟨tg,iter,ifs,0⟩] scope pos) 0 iter tg ifs (emL elt acc env) it acc env:=rfl
theorem turnE_dict (k v tg iter:Expr) (ifs:List Expr) (scope:Scope) (pos:Pos) (it:Value) (D:Addr) (env:Env) :
  compTurn (.DictComp k v [⟨tg,iter,ifs,0⟩] scope pos) 0 it (.ref D) env = turnOf (.DictComp k v [⟨tg,iter,ifs,0⟩] scope pos) 0 iter tg ifs (emD k v D env) it (.ref D) env:=rfl
noncomputable abbrev TEm:=St->Hp->(St->Hp->Prop)->Prop
noncomputable def PEm (X:Cx) (emit:Sem Fin->Sem Fin) (t:TEm):Prop :=
 ∀ (pins:List (Addr × Obj)) (s:Shared) (σ:St) (H:Hp) (Q:St->Hp->Prop) (k:Sem Fin) (F:Fin->Shared->Prop) (E:Value->Shared->Prop),Inv X pins σ H s->t σ H Q ->
  (∀ s' σ' H',Inv X pins σ' H' s'->Q σ' H'->wpAny (model X.prog X.w) X.A k F E s')->wpAny (model X.prog X.w) X.A (emit k) F E s
noncomputable def PTs (X:Cx) (ifs:List Expr) (t:TT):Prop :=
 ∀ (pins:List (Addr × Obj)) (s:Shared) (σ:St) (H:Hp) (Q:Bool->Hp->Prop),Inv X pins σ H s->t σ H Q ->
  wpAny (model X.prog X.w) X.A (forIn ifs true fun c r=>if r = true then do let ok <-isTrue c X.env (eval c X.env); pure (ForInStep.yield ok) else pure (ForInStep.yield r)) (TP X pins σ Q) X.xe s
noncomputable def tTrue:TT:=fun _ H Q=>Q true H
theorem pts_nil {X:Cx}:PTs X [] tTrue:=fun _ _ _ H _ I h=>wpAny_tests_nil ⟨H,I,h⟩
theorem pts_one {X:Cx} {c:Expr} {t:TT} (h:PT X c t):PTs X [c] t:=fun pins s σ H Q I q=>wpAny_tests_one (h pins s σ H Q I q)
noncomputable def Loop (g:TG) (tc:TT) (em:TEm) (J:It) (σ:St) (H:Hp) (Q:St->Hp->Prop):Prop :=
 ∃ W:Nat->Nat->St->Hp->Prop,(∃ m,W 0 m σ H)/\∀ i m σ H,W i m σ H->(J.stop i H/\Q σ H)\/(J.go i H/\∀ x H',J.yld i H x H'->g x σ H' fun σ2 H2=>tc σ2 H2 fun b H3 =>
  if b = true then em σ2 H3 fun σ3 H4=>∃ m',m' < m/\W (i + 1) m' σ3 H4 else ∃ m',m' < m/\W (i + 1) m' σ2 H3)
section
variable {X:Cx} {e tg iter:Expr} {d:Nat} {ifs:List Expr} {emit:Sem Fin->Sem Fin} {it:Addr} {acc:Value} {g:TG} {tc:TT} {em:TEm} {J:It} {fp:List Addr} {tn:Nat->Heap->Prop} {R:Result->Shared->Prop}
theorem comp_loop (hun:X.A.under (.compLoop e d (.ref it) acc X.env) = X.A) (hden:(model X.prog X.w).den (.compLoop e d (.ref it) acc X.env) = (compTurn e d (.ref it) acc X.env).onRaise (fun x=>do noteFrame x X.env; theTreesLotGoes x)) (hc:X.calm = true) (hxe:X.xe = fun _ _=>False) (hct:compTurn e d (.ref it) acc X.env = turnOf e d iter tg ifs emit (.ref it) acc X.env) (hg:PG X tg g) (ht:PTs X ifs tc) (hem:PEm X emit em)
  (T:Turn X.prog X.w X.K tg J fp it tn) {pins:List (Addr × Obj)} {s:Shared} {σ:St} {H:Hp} {Q:St->Hp->Prop} (I:Inv X pins σ H s) (st:tn 0 s.heap) (hf:∀ b ∈ fp,FpOk X pins H b) (h:Loop g tc em J σ H Q)
  (hR:∀ s' σ' H',Inv X pins σ' H' s'->Q σ' H'->R (.ok .next) s'):codeAny (model X.prog X.w) X.A (.compLoop e d (.ref it) acc X.env) R s:=by
 obtain ⟨W,⟨m0,w0⟩,turn⟩:=h
 have stat:∀ {H':Hp},(∀ b ∈ fp,H' b = none)->∀ b ∈ fp,FpOk X pins H' b:=fun hn b hb=>⟨hn b hb,(hf b hb).2⟩
 have no:∀ {α:Type} {m:Sem α} {P:α->Shared->Prop} {E:Value->Shared->Prop} {s:Shared},wpAny (model X.prog X.w) X.A m P X.xe s->wpAny (model X.prog X.w) X.A m P E s:=fun q=>by
  rw [hxe] at q
  exact wpAny_mono q (fun _ _ z=>z) fun _ _ z=>z.elim
 refine codeAny_loop rfl (fun n s'=>∃ i σ' H',Inv X pins σ' H' s'/\tn i s'.heap/\(∀ b ∈ fp,H' b = none)/\W i n σ' H') (fun n s3 hI=>?_) m0 ⟨0,σ,H,I,st,fun b hb=>(hf b hb).1,w0⟩
 obtain ⟨i,σ3,H3,I3,st3,fr3,w3⟩:=hI
 rw [hun,hden]
 refine wpAny_noted ?_
 rw [hct]
 unfold turnOf
 refine wpAny_bind (wpAny_standAt (wpAny_bind ?_))
 rcases turn i n σ3 H3 w3 with ⟨stop,qn⟩ | ⟨go,step⟩
 ·refine wpAny_mono (T.done X rfl rfl rfl hc i pins s3 σ3 H3 _ I3 (stat fr3) st3 stop) (fun r s4 ⟨hr,I4⟩=>?_) fun _ _ z=>z
  subst hr
  exact wpAny_pure (hR s4 σ3 H3 I4 qn)
 ·refine wpAny_mono (T.item X rfl rfl rfl hc i pins s3 σ3 H3 _ I3 (stat fr3) st3 go) (fun r s4 ⟨u,hr,h4⟩=>?_) fun _ _ z=>z
  subst hr
  refine wpAny_bind (wpAny_mono h4 (fun _ s5 ⟨x,H5,I5,r5,y5,st5,fr5⟩=>?_) fun _ _ z=>z)
  have I5':=I5.pinned (stat fr5) (T.obj _ _ st5)
  have again:∀ {σ7:St} {H7:Hp} {s7:Shared},Inv X (pins ++ pinsAt fp s5.heap) σ7 H7 s7->(∃ m',m' < n/\W (i + 1) m' σ7 H7)->∃ m,m < n/\∃ i σ' H',Inv X pins σ' H' s7/\tn i s7.heap/\(∀ b ∈ fp,H' b = none)/\W i m σ' H':=fun {σ7 H7 s7} I7 n7=>by
   obtain ⟨m',hm,w7⟩:=n7
   refine ⟨m',hm,i + 1,σ7,H7,I7.unpinned,T.keep _ _ _ st5 fun b hb o e=>(I7.pin (b,o) (List.mem_append_right _ (List.mem_append_right _ (mem_pinsAt hb e)))).1,fun b hb=>?_,w7⟩
   obtain ⟨o,e,d⟩:=T.obj _ _ st5 b hb
   exact (I7.pin (b,o) (List.mem_append_right _ (List.mem_append_right _ (mem_pinsAt hb e)))).2.1
  refine wpAny_bind (wpAny_mono (no (hg _ s5 σ3 H5 x u _ I5' r5 (step x H5 y5))) (fun _ s6 ⟨σ6,H6,I6,q6⟩=>?_) fun _ _ z=>z)
  refine wpAny_bind (wpAny_mono (no (ht _ s6 σ6 H6 _ I6 q6)) (fun ok s7 ⟨H7,I7,q7⟩=>?_) fun _ _ z=>z)
  cases ok with
  | false=>exact wpAny_pure ⟨rfl,again I7 q7⟩
  | true =>
   exact hem _ s7 σ6 H7 _ _ _ _ I7 q7 fun s8 σ8 H8 I8 q8=>wpAny_pure ⟨rfl,again I8 q8⟩
theorem comp_start (hun:X.A.under (.compStart e d (.ref it) acc X.env) = X.A) (hden:(model X.prog X.w).den (.compStart e d (.ref it) acc X.env) = (compStart e d (.ref it) acc X.env).onRaise (fun x=>do noteFrame x X.env; standAt theWindowsPlace)) {gs:List Comprehension} (hgs:clausesOf e = gs) (hd:gs[d]? = some ⟨tg,iter,ifs,0⟩) {s:Shared} (T:Turn X.prog X.w X.K tg J fp it tn) (st:tn 0 s.heap)
  (h:codeAny (model X.prog X.w) X.A (.compLoop e d (.ref it) acc X.env) R s):codeAny (model X.prog X.w) X.A (.compStart e d (.ref it) acc X.env) R s:=by
 refine codeAny_of_tree ?_
 rw [hun,hden]
 refine wpAny_notedAt ?_
 unfold compStart
 rw [hgs,hd]
 show wpAny _ X.A (ask >>= _) _ _ s
 refine wpAny_bind (wpAny_askSetting (wpAny_ite ?_))
 have h1:=T.self X.A 0 s (fun it' s'=>codeAny (model X.prog X.w) X.A (.compLoop e d it' acc X.env) R s') (notedBy (model X.prog X.w) X.A X.env fun x s'=>R (.error x) s') st h
 split
 ·first
   | exact wpAny_bind (wpAny_pure (wpAny_pure (And.intro rfl h)))
   | exact wpAny_pure (And.intro rfl h)
 ·first
   | exact wpAny_bind (wpAny_rule (wpAny_bind (wpAny_standAt (wpAny_bind (wpAny_mono h1 (fun it' s' h'=>wpAny_pure (And.intro rfl h')) fun _ _ x=>x)))))
   | (refine wpAny_bind (wpAny_rule ?_); show wpAny _ _ (standAt iter.pos >>= _) _ _ s; exact wpAny_bind (wpAny_standAt (wpAny_bind (wpAny_mono h1 (fun it' s' h'=>wpAny_pure (And.intro rfl h')) fun _ _ x=>x))))
end
section
variable {X:Cx} {tg iter:Expr} {ifs:List Expr} {g:TG} {tc:TT} {em:TEm} {scope:Scope} {cl:List (Str × Addr)} {N':List Str} {cap:List (Option Nat)} {pos:Pos} {wi:TI}
noncomputable def tComp (wi:TI) (o:Addr->HO) (cap:List (Option Nat)) (lp:Addr->It->St->Hp->(St->Hp->Prop)->Prop):TE:=fun σ H Q=>wi σ H fun J H1=>∀ D,H1 D = none->lp D J (capS cap σ) (upd H1 D (o D)) fun _ H2=>Q (.ref D) H2
theorem comp_all {e:Expr} {gs:List Comprehension} {newAcc:Sem Value} {p2:Pos} (hcl:clausesOf e = ⟨tg,iter,ifs,0⟩ :: gs) (o:Addr->HO) (hs:∀ x,foldedSetIterable iter X.env x = pure x) (S:CScope X scope cl N' cap) (hc:X.calm = true) (hi:PI X tg iter wi)
  {lp:Addr->It->St->Hp->(St->Hp->Prop)->Prop}
  (hnew:∀ (pins:List (Addr × Obj)) (s:Shared) (σ:St) (H:Hp) (Q:Value->Shared->Prop) (E:Value->Shared->Prop),Inv X pins σ H s->(∀ s',Inv X pins σ (upd H s.heap.objs.size (o s.heap.objs.size)) s'->(∀ b ob,s.heap.get? b = some ob->s'.heap.get? b = some ob)->Q (.ref s.heap.objs.size) s')->wpAny (model X.prog X.w) X.A newAcc Q E s)
  (hlp:∀ (pins:List (Addr × Obj)) (ex:List Addr) (s3:Shared) (H3:Hp) (D it:Addr) (fp:List Addr) (tn:Nat->Heap->Prop) (J:It) (σ:St) (s:Shared) (H:Hp) (Q:St->Hp->Prop) (R:Result->Shared->Prop),
   Turn X.prog X.w X.K tg J fp it tn->Inv (cxC X scope cl N' pins ex s3 H3) [] σ H s->tn 0 s.heap->(∀ b ∈ fp,FpOk (cxC X scope cl N' pins ex s3 H3) [] H b)->lp D J σ H Q ->
   (∀ s' σ' H',Inv (cxC X scope cl N' pins ex s3 H3) [] σ' H' s'->Q σ' H'->R (.ok .next) s') ->
   codeAny (model X.prog X.w) X.A (.compLoop e 0 (.ref it) (.ref D) (compEnvC scope cl s3.heap.objs.size X.env)) R s)
  (hun:∀ it D env,X.A.under (.compStart e 0 (.ref it) (.ref D) env) = X.A) (hden:∀ it D env,(model X.prog X.w).den (.compStart e 0 (.ref it) (.ref D) env) = (compStart e 0 (.ref it) (.ref D) env).onRaise (fun x=>do noteFrame x env; standAt theWindowsPlace))
  (hev:∀ E Q s,wpAny (model X.prog X.w) X.A (comprehension e scope X.env p2 newAcc false (eval iter X.env)) Q E s->wpAny (model X.prog X.w) X.A (eval e X.env) Q E s) :
  PE X e (tComp wi o cap lp):=by
 intro pins s σ H Q I h
 refine hev _ _ _ (wpAny_comprehension_free (use:=none) hcl hs S.clos S.kind S.loc (thn (hi pins s σ H _ I h) fun v s1 h1=>thn h1 fun itv s2 h2=>?_))
 obtain ⟨it,fp,tn,J,H2,eit,I2,T,st2,f2,R2⟩:=h2
 subst eit
 refine hnew pins s2 σ H2 _ _ I2 fun s3 I3 k3=>?_
 have hD:H2 s2.heap.objs.size = none:=I2.hok.fresh (Nat.le_refl _)
 have fok:∀ b ∈ fp,FpOk X pins (upd H2 s2.heap.objs.size (o s2.heap.objs.size)) b/\∃ ob,s3.heap.get? b = some ob:=fun b hb=>by
  obtain ⟨ob,e,_⟩:=T.obj _ _ st2 b hb
  obtain ⟨f0,fr⟩:=f2 b hb
  exact ⟨⟨by rw [upd_ne (Nat.ne_of_lt (Heap.lt_size e))]; exact f0,fr⟩,ob,k3 b ob e⟩
 refine wpAny_newFunctionEnv S.nocell (by intro y hy; simp at hy) (fun h1 hns hsb=>?_) S.kind
 have hk:∀ b ob,s3.heap.get? b = some ob->h1.get? b = some ob:=fun b ob e=>(hsb.2 b (Nat.ne_of_lt (Heap.lt_size e))).trans (Heap.get?_push_of_some _ e)
 have I4:Inv (cxC X scope cl N' pins fp s3 (upd H2 s2.heap.objs.size (o s2.heap.objs.size))) [] (capS cap σ) (upd H2 s2.heap.objs.size (o s2.heap.objs.size)) { s3 with heap:=h1,toks:=s3.toks + ([]:List (Str × Value)).length } :=
  I3.block S hc fok hns hk
 have st4:tn 0 h1:=T.keep 0 _ _ st2 fun b hb ob e=>hk b ob (k3 b ob e)
 refine comp_start (X:=cxC X scope cl N' pins fp s3 (upd H2 s2.heap.objs.size (o s2.heap.objs.size))) (gs:=⟨tg,iter,ifs,0⟩ :: gs) (e:=e) (d:=0) (tg:=tg) (iter:=iter) (ifs:=ifs) (hun _ _ _) (hden _ _ _) hcl rfl T st4 ?_
 refine hlp pins fp s3 _ s2.heap.objs.size it fp tn J (capS cap σ) _ _ _ _ T I4 st4 (fun b hb=>?_) (R2 _ hD) fun s' σ' H' I' q'=>?_
 ·obtain ⟨⟨f0,f1,f2',f3,f4,f5⟩,ob,eo⟩:=fok b hb
  refine ⟨f0,Nat.ne_of_lt (Heap.lt_size eo),fun hf=>?_,.inl hb,fun x c e=>f4 x c (S.cin.get e),fun p hp=>f5 p (by simpa [cxC] using hp)⟩
  rcases List.mem_cons.mp (I3.stkSub b hf) with z | z
  ·exact f1 z
  ·exact f2' z
 ·obtain ⟨m,hn,_⟩:=I'.loc
  exact ⟨m,hn,fun h' hb=>⟨.ref _,H',I3.unblock (fun b hb=>(fok b hb).1) I' hb,rfl,q'⟩⟩
end
end L2
namespace L2
open PySem PySem.Spec PyProof.Rows
section
variable {X:Cx} {tg iter elt:Expr} {ifs:List Expr} {g:TG} {tc:TT} {te:TE} {scope:Scope} {cl:List (Str × Addr)} {N':List Str} {cap:List (Option Nat)} {pos:Pos} {wi:TI}
noncomputable def emLst (D:Addr) (te:TE):TEm:=fun σ H Q=>te σ H fun y H1=>∃ ys,H1 D = some (.lst ys)/\ys.length < sizeLine/\Q σ (upd H1 D (.lst (ys ++ [y])))
theorem no_exc {α:Type} {X:Cx} (hxe:X.xe = fun _ _=>False) {m:Sem α} {P:α->Shared->Prop} {E:Value->Shared->Prop} {s:Shared} (q:wpAny (model X.prog X.w) X.A m P X.xe s):wpAny (model X.prog X.w) X.A m P E s:=by
 rw [hxe] at q
 exact wpAny_mono q (fun _ _ z=>z) fun _ _ z=>z.elim
theorem pem_list {D:Addr} (hxe:X.xe = fun _ _=>False) (he:PE X elt te):PEm X (emL elt (.ref D) X.env) (emLst D te):=by
 intro pins s σ H Q k F E I h hk
 unfold emL
 refine wpAny_bind (wpAny_bind (wpAny_mono (no_exc hxe (he pins s σ H _ I h)) (fun u s1 ⟨y,H1,I1,r1,ys,e1,z1,q1⟩=>?_) fun _ _ z=>z))
 refine wpAny_bind (wpAny_mono (no_exc hxe (mt_append pins s1 σ H1 (.ref D) [y] (.ref D) [u] (fun v H2=>v = .non/\Q σ H2) I1 rfl (.cons r1 .nil) ⟨D,ys,y,rfl,rfl,e1,z1,rfl,q1⟩)) (fun v s2 ⟨y2,H2,I2,r2,_,q2⟩=>?_) fun _ _ z=>z)
 exact wpAny_pure (hk s2 σ H2 I2 q2)
theorem pe_lc (S:CScope X scope cl N' cap) (hc:X.calm = true) (hi:PI X tg iter wi)
  (hb:∀ (pins:List (Addr × Obj)) (ex:List Addr) (s3:Shared) (H3:Hp),PG (cxC X scope cl N' pins ex s3 H3) tg g/\PTs (cxC X scope cl N' pins ex s3 H3) ifs tc/\PE (cxC X scope cl N' pins ex s3 H3) elt te)
  (hs:∀ x,foldedSetIterable iter X.env x = pure x:=by intro _; rfl) :
  PE X (.ListComp elt [⟨tg,iter,ifs,0⟩] scope pos) (tComp wi (fun _=>.lst []) cap fun D J σ H Q=>Loop g tc (emLst D te) J σ H Q):=by
 refine comp_all (newAcc:=newList []) (p2:=firstIterPos [⟨tg,iter,ifs,0⟩] pos) rfl (fun _=>.lst []) hs S hc hi (fun pins s σ H Q E I h=>?_) (fun pins ex s3 H3 D it fp tn J σ s H Q R T I st hf h hR=>?_) (fun _ _ _=>rfl) (fun _ _ _=>rfl) (fun E Q s h=>h)
 ·refine wpAny_newList ?_
  exact h _ (I.lnew (t':=s.toks) (its:=[]) .nil (Nat.zero_le _)) fun b ob e=>Heap.get?_push_of_some _ e
 ·obtain ⟨b1,b2,b3⟩:=hb pins ex s3 H3
  exact comp_loop (X:=cxC X scope cl N' pins ex s3 H3) rfl rfl hc rfl (turnE_list elt tg iter ifs scope pos _ _ _) b1 b2 (pem_list rfl b3) T I st hf h hR
noncomputable def emDct (D:Addr) (tk tv:TE):TEm:=fun σ H Q=>tk σ H fun y H1=>tv σ H1 fun v H2=>∃ kvs k,H2 D = some (.dK kvs)/\y = kV k/\kvs.length < sizeLine/\Q σ (upd H2 D (.dK (putK kvs k v)))
theorem pem_dict {D:Addr} {a b:Expr} {ta tb:TE} (hxe:X.xe = fun _ _=>False) (ha:PE X a ta) (hb:PE X b tb):PEm X (emD a b D X.env) (emDct D ta tb):=by
 intro pins s σ H Q k F E I h hk
 unfold emD
 refine wpAny_bind (wpAny_bind (wpAny_mono (no_exc hxe (ha pins s σ H _ I h)) (fun u s1 ⟨y,H1,I1,r1,q1⟩=>?_) fun _ _ z=>z))
 refine wpAny_bind (wpAny_holding (wpAny_mono (no_exc hxe (hb pins s1 σ H1 _ I1 q1)) (fun r s2 ⟨v,H2,I2,rv,kvs,kk,e,ey,l,q2⟩=>?_) fun _ _ z=>z))
 refine wpAny_bind (wpAny_standAt (wpAny_holding ?_))
 subst ey
 obtain ⟨z,hd,vs,rel,dd⟩:=dk_of I2.hok e
 have hz:vs.length<=sizeLine:=by rw [<-rel.length]; exact z
 have hl:(putK kvs kk v).length<=sizeLine:=by have:=length_putK kvs kk v; omega
 refine wpAny_dictSet_pairs (hsz:=hz) (kV_is r1) dd fun h' dd' hs=>?_
 have he:∃ q,h'.get? D = some q:=let ⟨q,_,_,hq,_⟩:=dd'; ⟨q,hq⟩
 exact hk _ σ _ (d_write (t':=s2.toks + 1) I2 (by rw [e]; exact True.intro) hs he (dk_new hl hd (rel.put kk rv) dd')) q2
theorem pe_dc {a b:Expr} {ta tb:TE} (S:CScope X scope cl N' cap) (hc:X.calm = true) (hi:PI X tg iter wi)
  (hb:∀ (pins:List (Addr × Obj)) (ex:List Addr) (s3:Shared) (H3:Hp),PG (cxC X scope cl N' pins ex s3 H3) tg g/\PTs (cxC X scope cl N' pins ex s3 H3) ifs tc/\PE (cxC X scope cl N' pins ex s3 H3) a ta/\PE (cxC X scope cl N' pins ex s3 H3) b tb)
  (hs:∀ x,foldedSetIterable iter X.env x = pure x:=by intro _; rfl) :
  PE X (.DictComp a b [⟨tg,iter,ifs,0⟩] scope pos) (tComp wi (fun _=>.dK []) cap fun D J σ H Q=>Loop g tc (emDct D ta tb) J σ H Q):=by
 refine comp_all (newAcc:=newDict) (p2:=firstIterPos [⟨tg,iter,ifs,0⟩] pos) rfl (fun _=>.dK []) hs S hc hi (fun pins s σ H Q E I h=>?_) (fun pins ex s3 H3 D it fp tn J σ s H Q R T I st hf h hR=>?_) (fun _ _ _=>rfl) (fun _ _ _=>rfl) (fun E Q s h=>h)
 ·refine wpAny_newObj_type ?_
  exact h _ (I.laid (a:=s.heap.objs.size) (o:=.dK []) (t':=s.toks) (fun _ _ q=>Heap.get?_push_of_some _ q) (Nat.le_refl _) (dk_empty s.heap I.big)) fun b ob e=>Heap.get?_push_of_some _ e
 ·obtain ⟨b1,b2,b3,b4⟩:=hb pins ex s3 H3
  exact comp_loop (X:=cxC X scope cl N' pins ex s3 H3) rfl rfl hc rfl (turnE_dict a b tg iter ifs scope pos _ _ _) b1 b2 (pem_dict rfl b3 b4) T I st hf h hR
end
instance:LawfulBEq Key where
 rfl {a}:=by cases a with
  | inl i=>show (i == i) = true; simp
  | inr x=>show (x == x) = true; simp
 eq_of_beq {a b} h:=by
  cases a with
  | inl i=>cases b with
   | inl j=>exact congrArg Sum.inl (eq_of_beq (show (i == j) = true from h))
   | inr j=>exact absurd h (by intro z; cases z)
  | inr i=>cases b with
   | inl j=>exact absurd h (by intro z; cases z)
   | inr j=>exact congrArg Sum.inr (eq_of_beq (show (i == j) = true from h))
noncomputable def SetS (P:Program) (w:World) (a:Addr) (l:List Key):HO:=.ext fun h=>h.SetOf (mixKind P w) a (fun k=>decide (k ∈ l)) l.length
section
variable {X:Cx} {pins:List (Addr × Obj)} {σ:St} {H:Hp} {s:Shared} {a:Addr} {l:List Key}
theorem setOk {P:Program} {w:World} {H:Hp} {h:Heap} (z:h.SetOf (mixKind P w) a (fun k=>decide (k ∈ l)) l.length):ObjOk P w H h a (SetS P w a l) :=
 ⟨z,let ⟨o,_,_,_,e,_⟩:=z; ⟨o,e⟩,fun h1 h2 ⟨o,es,ep,t,e,r⟩ k=>⟨o,es,ep,t,k o e,r⟩⟩
theorem Inv.set (I:Inv X pins σ H s) (e:H a = some (SetS X.prog X.w a l)):s.heap.SetOf (mixKind X.prog X.w) a (fun k=>decide (k ∈ l)) l.length:=by
 obtain ⟨z,_⟩:=(show ObjOk X.prog X.w H s.heap a (SetS X.prog X.w a l) from I.hok a _ e)
 exact z
theorem key_scan {k:Key} {u:Value} (r:RelV (kV k) u):u.scannable = true:=by
 cases k with
 | inl i=>obtain ⟨t,rfl⟩:=r; rfl
 | inr x=>obtain ⟨t,rfl⟩:=r; rfl
noncomputable def addK (l:List Key) (k:Key):List Key:=if k ∈ l then l else l ++ [k]
theorem setOf_congr {P:Program} {w:World} {h:Heap} {S S':Key->Bool} {n n':Nat} (z:h.SetOf (mixKind P w) a S n) (e:∀ k,S' k = S k) (en:n' = n):h.SetOf (mixKind P w) a S' n':=by
 have:S' = S:=funext e
 subst this; subst en; exact z
theorem call_set0:CallR X (.type "set") (fun xs H Q=>xs = []/\∀ p,H p = none->Q (.ref p) (upd H p (SetS X.prog X.w p []))):=by
 intro pins s σ H xs us Q I r h
 obtain ⟨rfl,q⟩:=h
 cases r
 refine call_set_0 fun led=>⟨.ref s.heap.objs.size,_,I.laid (t':=s.toks) (fun b o e=>Heap.get?_push_of_some _ e) (Nat.le_refl _) (setOk ?_),rfl,q _ (I.hok.fresh (Nat.le_refl _))⟩
 exact (setObjOf_fresh led).setOf (Heap.get?_push_size _ rfl) (by decide)
noncomputable def rAddS (P:Program) (w:World):V->List V->Hp->VK->Prop:=fun x vs H Q=>∃ a l k,x = .ref a/\vs = [kV k]/\H a = some (SetS P w a l)/\l.length + 1 < 4096/\Q .non (upd H a (SetS P w a (addK l k)))
theorem mt_add:MtM X "set.add" (rAddS X.prog X.w):=by
 intro pins s σ H x vs v us Q I rx rv h
 obtain ⟨a,l,k,rfl,rfl,hH,hz,q⟩:=h
 cases rx
 obtain ⟨u,rfl,ru⟩:=rv.one
 refine call_set_add (kV_is ru) (key_scan ru) (I.set hH) hz fun h' hs z=>?_
 refine ⟨.non,_,I.write (x:=a) (e:=a) (t':=s.toks + 1) (by rw [hH]; exact True.intro) (.inl rfl) (fun b q hb e=>(hs.2 b hb).trans e) (let ⟨o,_,_,_,e,_⟩:=z; ⟨o,e⟩) (setOk (setOf_congr z (fun k'=>?_) ?_)),rfl,q⟩
 ·unfold addK
  by_cases e:k ∈ l
  ·rw [if_pos e]
   by_cases ek:k' = k
   ·subst ek; simp [e]
   ·simp [ek]
  ·rw [if_neg e]
   simp
 ·unfold addK
  by_cases e:k ∈ l
  ·rw [if_pos e]; simp [e]
  ·rw [if_neg e]; simp [e]
noncomputable def rInS (P:Program) (w:World) (neg:Bool):R2:=fun x y H Q=>∃ a l k,y = .ref a/\x = kV k/\H a = some (SetS P w a l)/\Q (.bl (if neg then !decide (k ∈ l) else decide (k ∈ l))) H
theorem op_in_set:OpR X (compareOp .In) (rInS X.prog X.w false):=by
 intro pins s σ H x y v u Q I rx ry h
 obtain ⟨a,l,k,rfl,rfl,hH,q⟩:=h
 cases ry
 exact wpAny_inSet_of (kV_is rx) (key_scan rx) (I.set hH) ⟨.bl (decide (k ∈ l)),H,I.tok _,rfl,q⟩
end
end L2
namespace L2
open PySem PySem.Spec PyProof.Rows
noncomputable def Its (x:Str):It:=⟨fun i _=>i < x.cps.size,fun i H v H'=>H' = H/\∃ c,x.cps[i]? = some c/\v = .str ⟨#[c]⟩,fun i _=>i = x.cps.size⟩
theorem turn_str {P:Program} {w:World} {K:PySem.W.Frag} {tg:Expr} (it:Addr) (x:Str) (t:Tok) (ty:String) (hty:["enumerate", "zip", "dict_itemiterator", "dict_reverseitemiterator", "odict_iterator", "itertools.zip_longest", "itertools.pairwise"].contains ty = false)
  (W:∀ A':Around,A'.handled = none->Walks P w A' it [it] [it] x.cps.size (SignAt x) (fun i h=>h.IsStrIter it ty x t i))
  (hself:∀ (A:Around) (i:Nat) (s:Shared) (Q:Value->Shared->Prop) (E:Value->Shared->Prop),s.heap.IsStrIter it ty x t i->Q (.ref it) s->wpAny (model P w) A (pyIter (.ref it)) Q E s):Turn P w K tg (Its x) [it] it (fun i h=>h.IsStrIter it ty x t i) where
 mem:=by simp
 obj:=fun i h st b hb=>by
  have e:b = it:=by simpa using hb
  subst e
  obtain ⟨o,e,c,d⟩:=st
  exact ⟨o,e,fun v z=>by rw [d] at z; cases z⟩
 keep:=fun i h h' st k=>let ⟨o,e,r⟩:=st; ⟨o,k it (by simp) o e,r⟩
 item:=by
  intro X hP hw hK hc i pins s σ H E I hf st hg
  subst hP hw hK
  obtain ⟨f0,f1,f2,f3,f4,f5⟩:=hf it (by simp)
  refine (W X.A (I.ok.hd hc)).item i s _ _ hg st fun v h' tk hv st' k=>?_
  obtain ⟨c,u,ec,ev⟩:=hv
  have I1:Inv X pins σ H { s with heap:=h',toks:=tk }:=I.turned (fun b o hb e=>k b o (by simpa using hb) e) f0 f1 f3 f4 f5
  obtain ⟨o,e,c',d⟩:=id st'
  exact ⟨v,rfl,go_of (s:={ s with heap:=h',toks:=tk }) e c' d hty ⟨.str ⟨#[c]⟩,H,I1,⟨u,ev⟩,⟨rfl,c,ec,rfl⟩,st',fun b hb=>(hf b hb).1⟩⟩
 done:=by
  intro X hP hw hK hc i pins s σ H E I hf st hg
  subst hP hw hK
  obtain ⟨f0,f1,f2,f3,f4,f5⟩:=hf it (by simp)
  have hg':i = x.cps.size:=hg
  subst hg'
  exact (W X.A (I.ok.hd hc)).done s _ _ st fun h' tk k=>⟨rfl,I.turned (fun b o hb e=>k b o (by simpa using hb) e) f0 f1 f3 f4 f5⟩
 self:=fun A i s Q E st h=>hself A i s Q E st h
section
variable {X:Cx} {tg:Expr}
noncomputable def iStr (te:TE):TI:=fun σ H R=>te σ H fun x H1=>∃ z,x = .str z/\R (Its z) H1
theorem pi_str {l:Expr} {tl:TE} (hl:PE X l tl):PI X tg l (iStr tl):=by
 intro pins s σ H R I h
 refine thn (hl pins s σ H _ I h) fun v s1 ⟨x,H1,I1,r1,q1⟩=>?_
 obtain ⟨z,e,q⟩:=q1
 subst e
 obtain ⟨t,rfl⟩:=r1
 have fin:∀ (o:Obj) (ty:String),o.cls = .type ty->o.data = .fields #[.str z t,.int (0:Nat) 0]->o.isFreed = false->Turn X.prog X.w X.K tg (Its z) [s1.heap.objs.size] s1.heap.objs.size (fun i h=>h.IsStrIter s1.heap.objs.size ty z t i) ->
   PIE X pins σ tg R (.ref s1.heap.objs.size) { s1 with heap:=s1.heap.push o }:=fun o ty c d hf T=>by
  refine ⟨s1.heap.objs.size,[s1.heap.objs.size],_,_,H1,rfl,I1.kept (t':=s1.toks) fun b o e=>Heap.get?_push_of_some _ e,T,⟨o,Heap.get?_push_size _ hf,c,d⟩,fun b hb=>?_,q⟩
  have e:b = s1.heap.objs.size:=by simpa using hb
  subst e
  exact I1.fpOk (Nat.le_refl _) (I1.hok.fresh (Nat.le_refl _))
 cases ha:z.cps.all (· < 128)
 ·exact wpAny_pyIter_wide ha (fin _ _ rfl rfl rfl (turn_str _ z t "str_iterator" (by decide) (fun A' hA=>Walks.strWide hA _ z t) fun A i s Q E st h=>wpAny_pyIter_striter_wide st h))
 ·exact wpAny_pyIter_ascii ha (fin _ _ rfl rfl rfl (turn_str _ z t "str_ascii_iterator" (by decide) (fun A' hA=>Walks.strAscii hA _ z t) fun A i s Q E st h=>wpAny_pyIter_striter_ascii st h))
end
section
variable {X:Cx}
theorem call_all (hc:X.calm = true):CallR X (.builtin "all") (fun xs H Q=>∃ (p:Addr) (bs:List Bool),xs = [.ref p]/\SqL X.K H p (bs.map V.bl)/\Q (.bl (bs.all id)) H):=by
 intro pins s σ H xs us Q I r h
 obtain ⟨p,bs,rfl,hq,q⟩:=h
 obtain ⟨u,rfl,ru⟩:=vals1 r
 cases ru
 obtain ⟨its,rv,pl,hz⟩:=I.list hq
 refine call_all_walk (wpAny_pyIter_list pl.isList ?_)
 have hne:p ≠ s.heap.objs.size:=by
  obtain ⟨o,n,e,_⟩:=pl
  exact Nat.ne_of_lt (Heap.lt_size e)
 refine ⟨s.heap.objs.size,_,_,_,_,_,fun i=>bs.getD i true,rfl,Walks.list (A:=X.A.in1) (show X.A.in1.handled = none from I.ok.hd hc) _ p hne its.toArray,⟨⟨_,Heap.get?_push_size _ rfl,rfl,rfl⟩,?_⟩,fun i v s' Q' E' hv q'=>?_,fun h' tk k=>?_⟩
 ·obtain ⟨o,n,e,c,d,e2⟩:=pl
  exact ⟨o,Heap.get?_push_of_some _ e,c,n,e2⟩
 ·have hb:(bs.map V.bl)[i]? = some (V.bl (bs.getD i true))/\RelV (V.bl (bs.getD i true)) v:=by
   have hv':its[i]? = some v:=by simpa using hv
   have hi:i < its.length:=(List.getElem?_eq_some_iff.mp hv').1
   have hl:=rv.length
   rw [List.length_map] at hl
   have e:(bs.map V.bl)[i]? = some (V.bl (bs.getD i true)):=by
    rw [List.getElem?_map,List.getElem?_eq_getElem (by omega)]
    simp [List.getD_eq_getElem?_getD,List.getElem?_eq_getElem (show i < bs.length by omega)]
   obtain ⟨u,hu,ru⟩:=rv.get e
   rw [hv'] at hu
   cases hu
   exact ⟨e,ru⟩
  cases hb.2
  exact wpAny_truthy_bool q'
 ·have hl:=rv.length
  rw [List.length_map] at hl
  have e:(List.range its.toArray.size).all (fun i=>bs.getD i true) = bs.all id:=by
   rw [List.size_toArray,<-hl]
   rw [Bool.eq_iff_iff,List.all_eq_true,List.all_eq_true]
   constructor
   ·intro z b hb
    obtain ⟨i,hi,rfl⟩:=List.mem_iff_getElem.mp hb
    have:=z i (List.mem_range.mpr hi)
    simpa [List.getD_eq_getElem?_getD,List.getElem?_eq_getElem hi] using this
   ·intro z i hi
    have hi':=List.mem_range.mp hi
    have:=z bs[i] (List.getElem_mem hi')
    simpa [List.getD_eq_getElem?_getD,List.getElem?_eq_getElem hi'] using this
  rw [e]
  exact ⟨.bl (bs.all id),H,I.kept fun b o eb=>k b o (by
   intro hb
   have:b = s.heap.objs.size:=by simpa using hb
   exact absurd (Heap.lt_size eb) (by rw [this]; exact Nat.lt_irrefl _)) (Heap.get?_push_of_some _ eb),rfl,q⟩
theorem strsAre_of:∀ {ss:List Str} {us:List Value},Vals (ss.map V.str) us->StrsAre us ss
 | [],_,.nil=>.nil
 | _ :: _,_,.cons ⟨t,e⟩ r=>by subst e; exact .cons _ _ (strsAre_of r)
noncomputable def leS (a b:Str):Prop:=¬ b.cps.toList < a.cps.toList
theorem call_sortedS:CallR X (.builtin "sorted") (fun xs H Q=>∃ (p:Addr) (ss:List Str),xs = [.ref p]/\SqL X.K H p (ss.map V.str)/\∀ (l:Addr) (ss':List Str),H l = none->ss'.Perm ss->ss'.Pairwise leS->Q (.ref l) (upd H l (.lst (ss'.map V.str)))):=by
 intro pins s σ H xs us Q I r h
 obtain ⟨p,ss,rfl,hq,q⟩:=h
 obtain ⟨u,rfl,ru⟩:=vals1 r
 cases ru
 obtain ⟨its,rv,pl,hz⟩:=I.list hq
 have hS:=strsAre_of rv
 have hl:=rv.length
 refine TS.sorted_gen (collect_list (vs:=its) pl.isList ?_ (by omega))
 refine ⟨rfl,by omega,strKind,oneType',fun s2 _=>TS.keys_strs hS,fun out h' e ho k hg=>?_⟩
 have hsz:((s.heap.push (seqObj "list" #[] 0)).update s.heap.objs.size (Obj.mapSeq (· ++ its.toArray))).objs.size = s.heap.objs.size + 1:=by rw [Heap.size_update,size_push']
 obtain ⟨hp,hs⟩:=ho
 have hm:∀ v ∈ out.toList,∃ x t,v = .str x t:=fun v hv=>hS.all v (hp.mem_iff.mp hv)
 have hv:Vals ((out.toList.map strOf).map V.str) out.toList:=by
  have:∀ us:List Value,(∀ v ∈ us,∃ x t,v = .str x t)->Vals ((us.map strOf).map V.str) us:=by
   intro us
   induction us with
   | nil=>exact fun _=>.nil
   | cons v r ih =>
    intro h
    obtain ⟨x,t,rfl⟩:=h v (List.mem_cons_self ..)
    exact .cons ⟨t,rfl⟩ (ih fun u hu=>h u (List.mem_cons_of_mem _ hu))
  exact this _ hm
 have hperm:(out.toList.map strOf).Perm ss:=by
  have:=hp.map strOf
  rwa [hS.strs] at this
 have hpw:(out.toList.map strOf).Pairwise leS:=by
  rw [List.pairwise_map]
  refine (List.Pairwise.and_mem.mp hs).imp fun {u v} ⟨hu,hv',q⟩=>?_
  obtain ⟨x,t,rfl⟩:=hm u hu
  obtain ⟨y,t',rfl⟩:=hm v hv'
  have q':decide (y.cps.toList < x.cps.toList) = false:=q
  exact of_decide_eq_false q'
 have hk0:∀ b o,s.heap.get? b = some o->h'.get? b = some o:=fun b o eb=>k b o (by
  rw [Heap.get?_update_ne _ _ _ _ (Nat.ne_of_lt (Heap.lt_size eb))]
  exact Heap.get?_push_of_some _ eb)
 have hn:H (s.heap.objs.size + 1) = none:=I.hok.fresh (Nat.le_succ _)
 have hg':h'.get? (s.heap.objs.size + 1) = some (seqObj "list" out e):=by rw [<-hsz]; exact hg
 refine ⟨.ref (s.heap.objs.size + 1),upd H (s.heap.objs.size + 1) (.lst ((out.toList.map strOf).map V.str)),?_,by show Value.ref _ = _; rw [<-hsz],q _ _ hn hperm hpw⟩
 refine I.laid (t':=s.toks) hk0 (Nat.le_succ _) ⟨?_,out.toList,e,hv,by simpa using hg'⟩
 rw [List.length_map,List.length_map,hp.length_eq]
 omega
end
end L2
namespace L2
open PySem PySem.Spec PyProof.Rows
theorem perm_map_inv {α β:Type} (f:α->β) {l m:List β} (h:l.Perm m):∀ ps:List α,m = ps.map f->∃ ps':List α,ps'.Perm ps/\l = ps'.map f:=by
 induction h with
 | nil=>intro ps e; exact ⟨ps,.refl _,e⟩
 | cons x _ ih =>
  intro ps e
  cases ps with
  | nil=>cases e
  | cons p ps =>
   rw [List.map_cons] at e
   obtain ⟨rfl,e2⟩:=List.cons.inj e
   obtain ⟨ps',h1,h2⟩:=ih ps e2
   exact ⟨p :: ps',.cons _ h1,by rw [List.map_cons,h2]⟩
 | swap x y l =>
  intro ps e
  match ps,e with
  | p :: q :: ps,e =>
   rw [List.map_cons,List.map_cons] at e
   obtain ⟨rfl,e2⟩:=List.cons.inj e
   obtain ⟨rfl,e3⟩:=List.cons.inj e2
   exact ⟨q :: p :: ps,.swap _ _ _,by rw [List.map_cons,List.map_cons,e3]⟩
 | trans _ _ ih1 ih2 =>
  intro ps e
  obtain ⟨ps1,h1,h2⟩:=ih2 ps e
  obtain ⟨ps2,h3,h4⟩:=ih1 ps1 h2
  exact ⟨ps2,h3.trans h1,h4⟩
noncomputable abbrev PA2:=Addr × Str × Str
noncomputable def pkey (q:PA2):List Nat × List Nat:=(q.2.1.cps.toList,q.2.2.cps.toList)
noncomputable def leP (q r:PA2):Prop:=TS.pairLt (pkey r) (pkey q) = false
noncomputable def PairIn (H:Hp) (q:PA2):Prop:=H q.1 = some (.tup [.str q.2.1,.str q.2.2])
theorem vals_refs:∀ {ps:List PA2} {us:List Value},Vals (ps.map fun q=>V.ref q.1) us->us = ps.map fun q=>Value.ref q.1
 | [],_,.nil=>rfl
 | _ :: _,_,.cons r t=>by rw [List.map_cons,vals_refs t]; cases r; rfl
theorem refs_vals:∀ (ps:List PA2),Vals (ps.map fun q=>V.ref q.1) (ps.map fun q=>Value.ref q.1)
 | []=>.nil
 | _ :: ps=>.cons rfl (refs_vals ps)
section
variable {X:Cx}
theorem Inv.pairAt {pins:List (Addr × Obj)} {σ:St} {H:Hp} {s:Shared} {q:PA2} (I:Inv X pins σ H s) (h:PairIn H q):TS.PairAt s.heap (.ref q.1) q.2.1 q.2.2:=by
 obtain ⟨its,rv,⟨o,e,c,n,d⟩,_⟩:=I.tuple (SqT.of h)
 obtain ⟨u1,u2,rfl,⟨t,rfl⟩,⟨t',rfl⟩⟩:=rv.two
 exact ⟨q.1,o,n,t,t',rfl,e,c,d⟩
theorem call_sortedP:CallR X (.builtin "sorted") (fun xs H Q=>∃ (p:Addr) (ps:List PA2),xs = [.ref p]/\SqL X.K H p (ps.map fun q=>V.ref q.1)/\(∀ q ∈ ps,PairIn H q) /\
  ∀ (l:Addr) (ps':List PA2),H l = none->ps'.Perm ps->ps'.Pairwise leP->Q (.ref l) (upd H l (.lst (ps'.map fun q=>V.ref q.1)))):=by
 intro pins s σ H xs us Q I r h
 obtain ⟨p,ps,rfl,hq,hpi,q⟩:=h
 obtain ⟨u,rfl,ru⟩:=vals1 r
 cases ru
 obtain ⟨its,rv,pl,hz⟩:=I.list hq
 have ei:=vals_refs rv
 have hl:=rv.length
 refine TS.sorted_gen (collect_list (vs:=its) pl.isList ?_ (by omega))
 have hsz:((s.heap.push (seqObj "list" #[] 0)).update s.heap.objs.size (Obj.mapSeq (· ++ its.toArray))).objs.size = s.heap.objs.size + 1:=by rw [Heap.size_update,size_push']
 have hk1:∀ b o,s.heap.get? b = some o->((s.heap.push (seqObj "list" #[] 0)).update s.heap.objs.size (Obj.mapSeq (· ++ its.toArray))).get? b = some o:=fun b o eb=>by
  rw [Heap.get?_update_ne _ _ _ _ (Nat.ne_of_lt (Heap.lt_size eb))]
  exact Heap.get?_push_of_some _ eb
 have hpa:∀ q ∈ ps,TS.PairAt s.heap (.ref q.1) q.2.1 q.2.2:=fun q hq=>I.pairAt (hpi q hq)
 refine ⟨rfl,by omega,TS.pairKind s.heap,tuples' true,fun s2 hE=>TS.keys_pairs (fun v hv=>?_) (fun b o eb=>?_),fun out h' e ho k hg=>?_⟩
 ·rw [ei] at hv
  obtain ⟨q,hq,rfl⟩:=List.mem_map.mp hv
  exact ⟨_,_,hpa q hq⟩
 ·have hne:b ≠ ((s.heap.push (seqObj "list" #[] 0)).update s.heap.objs.size (Obj.mapSeq (· ++ its.toArray))).objs.size:=by
   rw [hsz]
   exact Nat.ne_of_lt (Nat.lt_succ_of_lt (Heap.lt_size eb))
  exact ⟨hne,hE b o hne (hk1 b o eb)⟩
 ·obtain ⟨hp,hs⟩:=ho
  rw [ei] at hp
  obtain ⟨ps',h1,h2⟩:=perm_map_inv (fun q:PA2=>Value.ref q.1) hp ps rfl
  have hpw:ps'.Pairwise leP:=by
   rw [h2,List.pairwise_map] at hs
   refine (List.Pairwise.and_mem.mp hs).imp fun {a b} ⟨ha,hb,z⟩=>?_
   have ka:=(hpa a (h1.mem_iff.mp ha)).key
   have kb:=(hpa b (h1.mem_iff.mp hb)).key
   have z':TS.pairLt ((TS.pairOf s.heap (.ref b.1)).getD ([],[])) ((TS.pairOf s.heap (.ref a.1)).getD ([],[])) = false:=z
   rw [ka,kb] at z'
   exact z'
  have hn:H (s.heap.objs.size + 1) = none:=I.hok.fresh (Nat.le_succ _)
  have hg':h'.get? (s.heap.objs.size + 1) = some (seqObj "list" out e):=by rw [<-hsz]; exact hg
  refine ⟨.ref (s.heap.objs.size + 1),upd H (s.heap.objs.size + 1) (.lst (ps'.map fun q=>V.ref q.1)),?_,by show Value.ref _ = _; rw [<-hsz],q _ _ hn h1 hpw⟩
  refine I.laid (t':=s.toks) (fun b o eb=>k b o (hk1 b o eb)) (Nat.le_succ _) ⟨?_,out.toList,e,by rw [h2]; exact refs_vals ps',by simpa using hg'⟩
  rw [List.length_map,h1.length_eq]
  rw [List.length_map] at hz
  exact hz
end
theorem Inv.turnLaid {X:Cx} {pins:List (Addr × Obj)} {σ:St} {H:Hp} {s:Shared} {h':Heap} {t':Nat} {fp:List Addr} {T:Addr} {o:HO} (I:Inv X pins σ H s) (k:∀ b ob,b ∉ fp->s.heap.get? b = some ob->h'.get? b = some ob)
  (hf:∀ b ∈ fp,FpOk X pins H b) (hfo:∀ b ∈ fp,∃ ob,s.heap.get? b = some ob) (hT:s.heap.objs.size<=T) (new:ObjOk X.prog X.w (upd H T o) h' T o):Inv X pins σ (upd H T o) { s with heap:=h',toks:=t' }:=by
 have hn:=I.hok.fresh hT
 have nT:∀ b ob,s.heap.get? b = some ob->b ≠ T:=fun b ob e=>Nat.ne_of_lt (Nat.lt_of_lt_of_le (Heap.lt_size e) hT)
 have nf:∀ b u,H b = some u->b ∉ fp:=fun b u e hb=>by rw [(hf b hb).1] at e; cases e
 refine I.step (g':=s.gens) (d':=s.drawn) (ch:=fp) (fun b hb=>let ⟨_,f1,_,f3,f4,f5⟩:=hf b hb; ⟨f3,f1,f4,f5⟩) (fun b ob _ _ hc e _=>k b ob hc e) (fun b ob _ _ hc e _=>⟨ob.slots,k b ob hc e⟩) (fun b ob _ e n=>by rw [upd_ne (nT b ob e)]; exact n)
  (fun b ob hc e=>⟨ob,k b ob hc e⟩) (fun b xs e=>by rw [upd_ne (ne_of_none e hn)]; exact e) (fun b u xs e=>by rw [upd_ne (ne_of_none e hn)]; exact e) (fun b ps e=>⟨#[],by rw [upd_ne (ne_of_none e hn),e]; simp⟩) (fun m hm=>?_) (fun b u e=>?_) I.bare
 ·obtain ⟨ob,es,ep,ho,r⟩:=hm
  exact ⟨ob,es,ep,k _ ob (fun hb=>(hf _ hb).2.1 rfl) ho,r⟩
 ·by_cases hb:b = T
  ·subst hb; rw [upd_same] at e; cases e; exact new
  ·rw [upd_ne hb] at e
   refine (I.hok b u e).stay (fun c v hc q=>k c v ?_ q) (fun c q=>by rw [upd_ne (ne_of_none q hn)]; exact q) fun c xs q=>by rw [upd_ne (ne_of_none q hn)]; exact q
   rcases hc with z | z
   ·rw [z]; exact nf b u e
   ·exact nf c _ z
end L2
namespace ST
open PySem
noncomputable def stp (mask i:Nat):Nat:=(5 * i + 1) % (mask + 1)
noncomputable def itr (mask:Nat):Nat->Nat->Nat
 | 0,i=>i
 | t + 1,i=>itr mask t (stp mask i)
noncomputable def orb (mask:Nat):Nat->Nat->List Nat
 | 0,_=>[]
 | n + 1,i=>i :: orb mask n (stp mask i)
theorem itr_add (mask a b i:Nat):itr mask (a + b) i = itr mask b (itr mask a i):=by
 induction a generalizing i with
 | zero=>rw [Nat.zero_add]; rfl
 | succ a ih=>rw [Nat.succ_add]; exact ih (stp mask i)
theorem mem_orb {mask j:Nat}:∀ {n i:Nat},j ∈ orb mask n i->∃ t,t < n/\itr mask t i = j
 | 0,_,h=>by simp [orb] at h
 | n + 1,i,h=>by
  rcases List.mem_cons.mp h with rfl | h
  ·exact ⟨0,by omega,rfl⟩
  ·obtain ⟨t,h1,h2⟩:=mem_orb h
   exact ⟨t + 1,by omega,h2⟩
noncomputable def Msk (mask:Nat):Prop:=mask = 7\/mask = 31\/mask = 127\/mask = 511
noncomputable def full (mask:Nat):Bool:=(List.range (mask + 1)).all (fun j=>(orb mask (mask + 1) 0).contains j) && itr mask (mask + 1) 0 == 0
theorem full7:full 7 = true:=by decide +kernel
theorem full31:full 31 = true:=by decide +kernel
theorem full127:full 127 = true:=by decide +kernel
theorem full511:full 511 = true:=by decide +kernel
theorem Msk.full {mask:Nat} (h:Msk mask):full mask = true:=by
 rcases h with rfl | rfl | rfl | rfl
 ·exact full7
 ·exact full31
 ·exact full127
 ·exact full511
theorem cyc {mask:Nat} (h:Msk mask) {i j:Nat} (hi:i<=mask) (hj:j<=mask):∃ t,t<=mask/\itr mask t i = j:=by
 have f:=h.full
 unfold ST.full at f
 rw [Bool.and_eq_true,List.all_eq_true] at f
 obtain ⟨f1,f2⟩:=f
 have f2:itr mask (mask + 1) 0 = 0:=by simpa using f2
 have at_:∀ k,k<=mask->∃ t,t < mask + 1/\itr mask t 0 = k:=fun k hk=>mem_orb (by simpa using f1 k (List.mem_range.mpr (by omega)))
 obtain ⟨a,ha,ea⟩:=at_ i hi
 obtain ⟨b,hb,eb⟩:=at_ j hj
 by_cases hab:a<=b
 ·refine ⟨b - a,by omega,?_⟩
  rw [<-ea,<-itr_add,show a + (b - a) = b by omega,eb]
 ·refine ⟨mask + 1 - a + b,by omega,?_⟩
  rw [<-ea,<-itr_add,show a + (mask + 1 - a + b) = (mask + 1) + b by omega,itr_add,f2,eb]
noncomputable def lps (mask:Nat):Nat->Nat × Nat->Nat × Nat
 | 0,x=>x
 | t + 1,x=>lps mask t (SetTable.leap mask x.1 x.2)
theorem lps_add (mask a b:Nat) (x:Nat × Nat):lps mask (a + b) x = lps mask b (lps mask a x):=by
 induction a generalizing x with
 | zero=>rw [Nat.zero_add]; rfl
 | succ a ih=>rw [Nat.succ_add]; exact ih _
theorem lps_pert (mask:Nat):∀ (t:Nat) (x:Nat × Nat),(lps mask t x).2 = x.2 / 32 ^ t
 | 0,x=>by simp [lps]
 | t + 1,x=>by
  show (lps mask t (SetTable.leap mask x.1 x.2)).2 = _
  rw [lps_pert mask t]
  show x.2 / 32 / 32 ^ t = _
  rw [Nat.div_div_eq_div_mul,Nat.pow_succ,Nat.mul_comm]
theorem lps_le (mask:Nat):∀ (t:Nat) (x:Nat × Nat),x.1<=mask->(lps mask t x).1<=mask
 | 0,_,h=>h
 | t + 1,x,_=>lps_le mask t _ (Nat.lt_succ_iff.mp (Nat.mod_lt _ (Nat.succ_pos _)))
theorem lps_zero (mask:Nat):∀ (t i:Nat),lps mask t (i,0) = (itr mask t i,0)
 | 0,_=>rfl
 | t + 1,i=>by
  show lps mask t ((i * 5 + 1 + 0 / 32) % (mask + 1),0 / 32) = _
  rw [Nat.zero_div,Nat.add_zero,lps_zero mask t,Nat.mul_comm]
  rfl
theorem lps_all {mask:Nat} (h:Msk mask) {i j p:Nat} (hi:i<=mask) (hj:j<=mask) (hp:p < 2 ^ 64):∃ t,t<=mask + 13/\(lps mask t (i,p)).1 = j:=by
 have e2:(lps mask 13 (i,p)).2 = 0:=by
  rw [lps_pert]
  exact Nat.div_eq_of_lt (Nat.lt_of_lt_of_le hp (by decide))
 obtain ⟨t,ht,et⟩:=cyc h (lps_le mask 13 (i,p) hi) hj
 refine ⟨13 + t,by omega,?_⟩
 rw [lps_add]
 have:lps mask 13 (i,p) = ((lps mask 13 (i,p)).1,0):=Prod.ext rfl e2
 rw [this,lps_zero]
 exact et
noncomputable def adv (t:SetTable):Nat->SetTable.Probe->SetTable.Probe
 | 0,p=>p
 | n + 1,p=>adv t n (t.advance p)
theorem adv_add (t:SetTable) (a b:Nat) (p:SetTable.Probe):adv t (a + b) p = adv t b (adv t a p):=by
 induction a generalizing p with
 | zero=>rw [Nat.zero_add]; rfl
 | succ a ih=>rw [Nat.succ_add]; exact ih _
theorem adv_run (t:SetTable):∀ (m:Nat) (p:SetTable.Probe),p.more = m->∃ p',adv t (m + 1) p = p'/\p'.i = (SetTable.leap t.mask p.i p.perturb).1/\p'.perturb = (SetTable.leap t.mask p.i p.perturb).2/\p'.j = p'.i/\p'.more = SetTable.runEnd t.mask p'.i - p'.i/\p'.dummy = p.dummy
 | 0,p,h=>by
  have ea:t.advance p = { p with j:=(SetTable.leap t.mask p.i p.perturb).1,more:=SetTable.runEnd t.mask (SetTable.leap t.mask p.i p.perturb).1 - (SetTable.leap t.mask p.i p.perturb).1,i:=(SetTable.leap t.mask p.i p.perturb).1,perturb:=(SetTable.leap t.mask p.i p.perturb).2 }:=by
   unfold SetTable.advance
   rw [if_neg (by omega)]
  refine ⟨t.advance p,rfl,?_⟩
  rw [ea]
  exact ⟨rfl,rfl,rfl,rfl,rfl⟩
 | m + 1,p,h=>by
  have ea:t.advance p = { p with j:=p.j + 1,more:=p.more - 1 }:=by unfold SetTable.advance; rw [if_pos (by omega)]
  obtain ⟨p',h1,h2⟩:=adv_run t m (t.advance p) (by rw [ea]; show p.more - 1 = m; omega)
  rw [ea] at h2
  exact ⟨p',h1,h2⟩
theorem run_le (mask i:Nat):SetTable.runEnd mask i - i<=9:=by unfold SetTable.runEnd; split <;> omega
theorem adv_lps (t:SetTable):∀ (n:Nat) (p:SetTable.Probe),p.j = p.i->p.more = SetTable.runEnd t.mask p.i - p.i->∃ k,k<=10 * n/\(adv t k p).j = (lps t.mask n (p.i,p.perturb)).1
 | 0,p,h1,_=>⟨0,by omega,h1⟩
 | n + 1,p,h1,h2=>by
  obtain ⟨p',e,a1,a2,a3,a4,_⟩:=adv_run t p.more p rfl
  obtain ⟨k,hk,ek⟩:=adv_lps t n p' a3 a4
  have:=run_le t.mask p.i
  refine ⟨p.more + 1 + k,by omega,?_⟩
  rw [adv_add,e,ek,a1,a2]
  rfl
theorem adv_dummy (t:SetTable):∀ (n:Nat) (p:SetTable.Probe),(adv t n p).dummy = p.dummy
 | 0,_=>rfl
 | n + 1,p=>by
  show (adv t n (t.advance p)).dummy = _
  rw [adv_dummy t n]
  unfold SetTable.advance
  split <;> rfl
theorem probe_all {t:SetTable} (hm:Msk t.mask) (h:Int) {j:Nat} (hj:j<=t.mask):∃ n,n < 10 * SetTable.turns t.mask/\(adv t n (t.probeStart h)).j = j:=by
 have hb:SetTable.bits h < 2 ^ 64:=by
  unfold SetTable.bits
  have h1:0<=h % (2 ^ 64:Int):=Int.emod_nonneg _ (by decide)
  have h2:h % (2 ^ 64:Int) < 2 ^ 64:=Int.emod_lt_of_pos _ (by decide)
  omega
 have hi:SetTable.bits h % (t.mask + 1)<=t.mask:=Nat.lt_succ_iff.mp (Nat.mod_lt _ (Nat.succ_pos _))
 obtain ⟨n,hn,en⟩:=lps_all hm hi hj hb
 obtain ⟨k,hk,ek⟩:=adv_lps t n (t.probeStart h) rfl rfl
 refine ⟨k,by unfold SetTable.turns; omega,ek.trans en⟩
theorem slot_cases {t:SetTable} (hd:t.dummies = #[]) (j:Nat):t.slot j = .empty\/∃ i,t.slot j = .live i/\t.place[i]? = some j:=by
 unfold SetTable.slot
 dsimp only
 by_cases h:(t.place[SetTable.below t.place j]? == some j) = true
 ·rw [if_pos h]
  exact .inr ⟨_,rfl,by simpa using h⟩
 ·rw [if_neg h]
  have:SetTable.has t.dummies j = false:=by
   rw [hd]
   unfold SetTable.has
   simp
  rw [this]
  exact .inl rfl
theorem some_empty {t:SetTable} (hd:t.dummies = #[]) (hs:t.place.size<=t.mask):∃ j,j<=t.mask/\t.slot j = .empty:=by
 by_cases h:∃ j,j<=t.mask/\t.slot j = .empty
 ·exact h
 ·exfalso
  have all:∀ j ∈ List.range (t.mask + 1),j ∈ t.place.toList:=fun j hj=>by
   have hj':j<=t.mask:=by have:=List.mem_range.mp hj; omega
   rcases slot_cases hd j with e | ⟨i,_,e⟩
   ·exact absurd ⟨j,hj',e⟩ h
   ·exact List.mem_of_getElem? (by rw [Array.getElem?_toList]; exact e)
  have:=(List.nodup_range (n:=t.mask + 1)).length_le_of_subset all
  rw [List.length_range,Array.length_toList] at this
  omega
theorem go_met {t:SetTable} (hd:t.dummies = #[]) (hashAt:Nat->Int) (h:Int) (p:SetTable.Probe) (hpd:p.dummy = none):∀ (k m n fuel:Nat),m + k = n->t.slot (adv t n p).j = .empty->k < fuel ->
  (∃ j,SetTable.probe.go t hashAt h fuel (adv t m p) = some (.empty j none)/\t.slot j = .empty) \/
   ∃ l i,m<=l/\l < n/\t.slot (adv t l p).j = .live i/\hashAt i = h/\SetTable.probe.go t hashAt h fuel (adv t m p) = some (.candidate (adv t l p).j i (adv t (l + 1) p))
 | k,m,n,0,_,_,hf=>absurd hf (Nat.not_lt_zero _)
 | k,m,n,fuel + 1,e,he,hf=>by
  have hdm:(adv t m p).dummy = none:=(adv_dummy t m p).trans hpd
  have nx:adv t (m + 1) p = t.advance (adv t m p):=adv_add t m 1 p
  rcases slot_cases hd (adv t m p).j with es | ⟨i,es,ep⟩
  ·refine .inl ⟨(adv t m p).j,?_,es⟩
   unfold SetTable.probe.go
   rw [es,hdm]
  ·have hk:k ≠ 0:=by
    rintro rfl
    have:m = n:=by omega
    subst this
    rw [he] at es; cases es
   by_cases hh:hashAt i = h
   ·refine .inr ⟨m,i,Nat.le_refl _,by omega,es,hh,?_⟩
    unfold SetTable.probe.go
    rw [es]
    dsimp only
    rw [if_pos (by simpa using hh),nx]
   ·have eg:SetTable.probe.go t hashAt h (fuel + 1) (adv t m p) = SetTable.probe.go t hashAt h fuel (adv t (m + 1) p):=by
     conv=>lhs; unfold SetTable.probe.go
     rw [es]
     dsimp only
     rw [if_neg (by simpa using hh),nx]
    rcases go_met hd hashAt h p hpd (k - 1) (m + 1) n fuel (by omega) he (by omega) with ⟨j,h1,h2⟩ | ⟨l,i',h1,h2,h3,h4,h5⟩
    ·exact .inl ⟨j,eg.trans h1,h2⟩
    ·exact .inr ⟨l,i',by omega,h2,h3,h4,eg.trans h5⟩
end ST
namespace ST
open PySem
theorem fm_congr {α β:Type} {f g:α->Option β}:∀ {l:List α},(∀ x ∈ l,f x = g x)->l.filterMap f = l.filterMap g
 | [],_=>rfl
 | a :: r,h=>by
  have h1:=h a (List.mem_cons_self ..)
  have h2:=fm_congr (l:=r) fun x hx=>h x (List.mem_cons_of_mem _ hx)
  rw [List.filterMap_cons,List.filterMap_cons,h1,h2]
theorem fm_one {α:Type} {f g:Nat->Option α} {j:Nat} {k:α} (hg:g j = some k) (hf:f j = none):∀ {l:List Nat},l.Nodup->j ∈ l->(∀ i,i ≠ j->g i = f i)->(l.filterMap g).Perm (k :: l.filterMap f)
 | [],_,h,_=>by simp at h
 | i :: r,nd,h,he=>by
  obtain ⟨n1,n2⟩:=List.nodup_cons.mp nd
  by_cases e:i = j
  ·subst e
   have er:r.filterMap g = r.filterMap f:=fm_congr fun x hx=>he x fun z=>n1 (z ▸ hx)
   rw [List.filterMap_cons_some hg,List.filterMap_cons_none hf,er]
  ·have hr:=fm_one hg hf n2 ((List.mem_cons.mp h).resolve_left fun z=>e z.symm) he
   cases ef:f i with
   | none=>rw [List.filterMap_cons_none ((he i e).trans ef),List.filterMap_cons_none ef]; exact hr
   | some b =>
    rw [List.filterMap_cons_some ((he i e).trans ef),List.filterMap_cons_some ef]
    exact (List.Perm.cons b hr).trans (List.Perm.swap _ _ _)
noncomputable def ocs (mask:Nat) (ow:Array (Option Nat)):List Nat:=(List.range (mask + 1)).filterMap fun j=>ow.getD j none
structure LI (mask:Nat) (ow:Array (Option Nat)) (k:Nat):Prop where
 sz:ow.size = mask + 1
 pm:(ocs mask ow).Perm (List.range k)
theorem free_ok {mask:Nat} {ow:Array (Option Nat)} {j:Nat} (hj:ow[j]? = some none):∀ (t fuel i p:Nat),(lps mask t (i,p)).1 = j->t < fuel->∃ j',SetTable.layClean.free mask ow fuel i p = some j'/\ow[j']? = some none
 | t,0,_,_,_,h=>absurd h (Nat.not_lt_zero _)
 | t,fuel + 1,i,p,e,h=>by
  unfold SetTable.layClean.free
  cases q:(List.range (SetTable.runEnd mask i + 1 - i)).find? fun k=>(ow.getD (i + k) (some 0)).isNone with
  | some k =>
   refine ⟨i + k,rfl,?_⟩
   have:=List.find?_some q
   rw [Array.getD_eq_getD_getElem?] at this
   cases g:ow[i + k]? with
   | none=>rw [g] at this; simp at this
   | some z=>rw [g] at this; simp at this; rw [this]
  | none =>
   dsimp only
   cases t with
   | zero =>
    exfalso
    have e':i = j:=e
    subst e'
    have hr:0 ∈ List.range (SetTable.runEnd mask i + 1 - i):=List.mem_range.mpr (by unfold SetTable.runEnd; split <;> omega)
    have:=List.find?_eq_none.mp q 0 hr
    rw [Array.getD_eq_getD_getElem?,Nat.add_zero,hj] at this
    simp at this
   | succ t=>exact free_ok hj t fuel _ _ e (by omega)
theorem LI.room {mask:Nat} {ow:Array (Option Nat)} {k:Nat} (h:LI mask ow k) (hk:k<=mask):∃ j,j<=mask/\ow[j]? = some none:=by
 by_cases q:∃ j,j<=mask/\ow[j]? = some none
 ·exact q
 ·exfalso
  have all:∀ j ∈ List.range (mask + 1),∃ v,ow.getD j none = some v:=fun j hj=>by
   have hj':j < ow.size:=by rw [h.sz]; exact List.mem_range.mp hj
   cases e:ow[j]? with
   | none=>rw [Array.getElem?_eq_none_iff] at e; omega
   | some v =>
    cases v with
    | none=>exact absurd ⟨j,by have:=List.mem_range.mp hj; omega,e⟩ q
    | some v=>exact ⟨v,by rw [Array.getD_eq_getD_getElem?,e]; rfl⟩
  have hl:∀ l:List Nat,(∀ j ∈ l,∃ v,ow.getD j none = some v)->(l.filterMap fun j=>ow.getD j none).length = l.length:=by
   intro l
   induction l with
   | nil=>intro _; rfl
   | cons j r ih =>
    intro ha
    obtain ⟨v,hv⟩:=ha j (List.mem_cons_self ..)
    rw [List.filterMap_cons_some (f:=fun j=>ow.getD j none) hv,List.length_cons,List.length_cons,ih fun x hx=>ha x (List.mem_cons_of_mem _ hx)]
  have:=h.pm.length_eq
  unfold ocs at this
  rw [hl _ all,List.length_range,List.length_range] at this
  omega
theorem LI.put {mask:Nat} {ow:Array (Option Nat)} {k j:Nat} (h:LI mask ow k) (hj:ow[j]? = some none):LI mask (ow.setIfInBounds j (some k)) (k + 1):=by
 have hlt:j < ow.size:=by
  obtain ⟨h1,_⟩:=Array.getElem?_eq_some_iff.mp hj
  exact h1
 refine ⟨by rw [Array.size_setIfInBounds]; exact h.sz,?_⟩
 have p:=fm_one (f:=fun j=>ow.getD j none) (g:=fun i=>(ow.setIfInBounds j (some k)).getD i none) (j:=j) (k:=k) (by rw [Array.getD_eq_getD_getElem?,Array.getElem?_setIfInBounds_self_of_lt hlt]; rfl) (by rw [Array.getD_eq_getD_getElem?,hj]; rfl)
  (l:=List.range (mask + 1)) List.nodup_range (List.mem_range.mpr (by rw [<-h.sz]; exact hlt)) fun i hi=>by
   rw [Array.getD_eq_getD_getElem?,Array.getElem?_setIfInBounds_ne (Ne.symm hi),<-Array.getD_eq_getD_getElem?]
 have e:List.range (k + 1) = List.range k ++ [k]:=List.range_succ
 refine p.trans ?_
 rw [e]
 exact (List.Perm.cons k h.pm).trans (List.perm_append_comm (l₁:=[k]))
theorem bits_lt (h:Int):SetTable.bits h < 2 ^ 64:=by
 unfold SetTable.bits
 have h1:0<=h % (2 ^ 64:Int):=Int.emod_nonneg _ (by decide)
 have h2:h % (2 ^ 64:Int) < 2 ^ 64:=Int.emod_lt_of_pos _ (by decide)
 omega
theorem lay_ok {mask:Nat} (hm:Msk mask):∀ (hs:List Int) (ow:Array (Option Nat)) (k:Nat),LI mask ow k->k + hs.length<=mask->∃ ow',(hs.foldl (init:=some (ow,k)) fun acc h=>do
   let (owner,k) <-acc
   let j <-SetTable.layClean.free mask owner (SetTable.turns mask) (SetTable.bits h % (mask + 1)) (SetTable.bits h)
   pure (owner.setIfInBounds j (some k),k + 1)) = some (ow',k + hs.length)/\LI mask ow' (k + hs.length)
 | [],ow,k,h,_=>⟨ow,rfl,h⟩
 | x :: r,ow,k,h,hk=>by
  rw [List.length_cons] at hk
  obtain ⟨j,hj,ej⟩:=h.room (by omega)
  obtain ⟨t,ht,et⟩:=lps_all hm (i:=SetTable.bits x % (mask + 1)) (j:=j) (Nat.lt_succ_iff.mp (Nat.mod_lt _ (Nat.succ_pos _))) hj (bits_lt x)
  obtain ⟨j',h1,h2⟩:=free_ok ej t (SetTable.turns mask) _ _ et (by unfold SetTable.turns; omega)
  obtain ⟨ow',h3,h4⟩:=lay_ok hm r (ow.setIfInBounds j' (some k)) (k + 1) (h.put h2) (by omega)
  refine ⟨ow',?_,by rw [List.length_cons,show k + (r.length + 1) = k + 1 + r.length by omega]; exact h4⟩
  rw [List.foldl_cons]
  show List.foldl _ ((SetTable.layClean.free mask ow (SetTable.turns mask) (SetTable.bits x % (mask + 1)) (SetTable.bits x)).bind fun j=>some (ow.setIfInBounds j (some k),k + 1)) r = _
  rw [h1]
  show List.foldl _ (some (ow.setIfInBounds j' (some k),k + 1)) r = _
  rw [List.length_cons,show k + (r.length + 1) = k + 1 + r.length by omega]
  exact h3
theorem laid_ok {mask:Nat} (hm:Msk mask) (finger moves:Nat) (led plain:Bool) (hs:Array Int) (hn:hs.size<=mask) :
  ∃ place order,SetTable.laid mask finger moves led plain hs = some ({ mask,place,dummies:=#[],finger,led,moves,plain },order)/\place.size = hs.size/\order.toList.Perm (List.range hs.size):=by
 have h0:LI mask (Array.replicate (mask + 1) none) 0:=by
  refine ⟨Array.size_replicate,?_⟩
  have:ocs mask (Array.replicate (mask + 1) none) = []:=by
   unfold ocs
   rw [List.filterMap_eq_nil_iff]
   intro j hj
   rw [Array.getD_eq_getD_getElem?,Array.getElem?_replicate]
   split <;> rfl
  rw [this]
  exact List.Perm.refl _
 obtain ⟨ow,h1,h2⟩:=lay_ok hm hs.toList _ 0 h0 (by rw [Array.length_toList]; omega)
 rw [Nat.zero_add,Array.length_toList] at h1 h2
 have hc:SetTable.layClean mask hs = some ow:=by
  unfold SetTable.layClean
  rw [<-Array.foldl_toList,h1]
  rfl
 have e2:((List.range (mask + 1)).filterMap fun j=>(ow.getD j none).map (j,·)).map (·.2) = ocs mask ow:=by
  unfold ocs
  rw [List.map_filterMap]
  refine fm_congr fun j _=>?_
  cases ow.getD j none <;> rfl
 refine ⟨(((List.range (mask + 1)).filterMap fun j=>(ow.getD j none).map (j,·)).map (·.1)).toArray,(((List.range (mask + 1)).filterMap fun j=>(ow.getD j none).map (j,·)).map (·.2)).toArray,?_,?_,?_⟩
 ·unfold SetTable.laid
  rw [hc]
  rfl
 ·rw [List.size_toArray,List.length_map,<-List.length_map (f:=(·.2)),e2,h2.pm.length_eq,List.length_range]
 ·show (((List.range (mask + 1)).filterMap fun j=>(ow.getD j none).map (j,·)).map (·.2)).Perm _
  rw [e2]
  exact h2.pm
theorem order_es {es:Array (Int × Value)} {order:Array Nat} (h:order.toList.Perm (List.range es.size)):(order.filterMap (es[·]?)).toList.Perm es.toList:=by
 rw [Array.toList_filterMap]
 refine (h.filterMap _).trans (List.Perm.of_eq ?_)
 refine List.ext_getElem? fun t=>?_
 have:(List.range es.size).filterMap (fun x=>es[x]?) = es.toList:=by
  have:∀ (l:List (Int × Value)),(List.range l.length).filterMap (fun x=>l[x]?) = l:=by
   intro l
   induction l with
   | nil=>rfl
   | cons a r ih =>
    rw [List.length_cons,List.range_succ_eq_map,List.filterMap_cons_some (by rfl:(a :: r)[0]? = some a),List.filterMap_map]
    congr 1
  have q:=this es.toList
  rw [Array.length_toList] at q
  simpa using q
 rw [this]
end ST
namespace ST
open PySem
section
variable {prog:Program} {w:World} {K:Type} [DecidableEq K] {knd:KeyKind prog w K} {A:Around} {E:Value->Shared->Prop} {s:Shared}
structure Tab (t:SetTable) (n:Nat):Prop where
 dm:t.dummies = #[]
 pl:t.place.size = n
 mm:Msk t.mask
 rm:n * 5 < t.mask * 3
theorem Tab.fits {t:SetTable} {n:Nat} (h:Tab t n):t.fits n = true:=by
 have:=h.rm
 have:=h.pl
 unfold SetTable.fits SetTable.fill
 rw [h.dm]
 simp
 omega
theorem Tab.odd {t:SetTable} {n:Nat} (h:Tab t n):t.gaveWay = false:=by
 unfold SetTable.gaveWay
 rcases h.mm with e | e | e | e <;> rw [e] <;> rfl
noncomputable def Els (knd:KeyKind prog w K) (es:Array (Int × Value)) (ks:List (List K × Addr)):Prop:=es.toList.Perm (ks.map fun q=>((tupleKind knd).hash q.1,Value.ref q.2))
noncomputable def TSet (knd:KeyKind prog w K) (h:Heap) (a:Addr) (ks:List (List K × Addr)):Prop:=∃ o es ep t,h.get? a = some o/\o.ExactSet/\o.data = .set es ep t/\Els knd es ks/\Tab t es.size
theorem Els.get {es:Array (Int × Value)} {ks:List (List K × Addr)} (h:Els knd es ks) {i:Nat} {e:Int × Value} (he:es[i]? = some e):∃ k p,(k,p) ∈ ks/\e = ((tupleKind knd).hash k,.ref p):=by
 have:e ∈ es.toList:=List.mem_of_getElem? (by rw [Array.getElem?_toList]; exact he)
 obtain ⟨q,hq,rfl⟩:=List.mem_map.mp (h.mem_iff.mp this)
 exact ⟨q.1,q.2,hq,rfl⟩
theorem forIn_still {β:Type} {c:β} {f:Value->β->Sem (ForInStep β)}:∀ {l:List Value},(∀ y ∈ l,f y c = pure (.yield c))->forIn l c f = pure c
 | [],_=>List.forIn_nil
 | a :: r,h=>by
  rw [List.forIn_cons,h a (List.mem_cons_self ..),pure_bind]
  exact forIn_still fun y hy=>h y (List.mem_cons_of_mem _ hy)
theorem items_key {ks:List K} {vs:List Value} (h:ItemsAre knd ks vs):∀ v ∈ vs,∃ x,knd.is x v = true:=by
 induction h with
 | nil=>intro v hv; simp at hv
 | cons h1 _ ih =>
  intro v hv
  rcases List.mem_cons.mp hv with rfl | hv
  ·exact ⟨_,h1⟩
  ·exact ih v hv
noncomputable def Flat (knd:KeyKind prog w K):Prop:=∀ v,(∃ x,knd.is x v = true)->carriedByValue v = true
theorem Flat.no {v:Value} (hF:Flat knd) (h:∃ x,knd.is x v = true) (d:Nat):ofAClassStatement d v = pure false:=by
 have:=hF v h
 cases v <;> first
  | (cases d <;> rfl)
  | (exact absurd this (by intro z; cases z))
theorem own_no {k:List K} {p:Addr} {Q:Bool->Shared->Prop} (hF:Flat knd) (hk:(tupleKind knd).is s.heap k p) (h:Q false s):wpAny (model prog w) A (ofAClassStatement 8 (.ref p)) Q E s:=by
 obtain ⟨o,items,n,ho,hc,hd,hi⟩:=hk
 have hT:s.TypeIs (.ref p) "tuple":=⟨o,ho,hc⟩
 unfold ofAClassStatement
 refine wpAny_bind (wpAny_typeOf hT ?_)
 dsimp only
 rw [if_pos (by rfl)]
 refine wpAny_bind (wpAny_pure ?_)
 simp only [Bool.not_true,Bool.false_eq_true,if_false]
 refine wpAny_bind (wpAny_seqItems ho hd ?_)
 dsimp only
 rw [<-Array.forIn_toList,forIn_still fun y hy=>by rw [hF.no (items_key hi y hy)]; rfl]
 exact wpAny_bind (wpAny_pure (wpAny_pure h))
theorem unseen {kx:List K} {px:Addr} {Q:Bool->Shared->Prop} (hF:Flat knd) (hx:(tupleKind knd).is s.heap kx px) (h:Q false s) {l:List Value} (hl:∀ v ∈ l,∃ k p,v = .ref p/\(tupleKind knd).is s.heap k p) :
  wpAny (model prog w) A (searchCouldBeSeen (.ref px) l) Q E s:=by
 unfold searchCouldBeSeen
 refine wpAny_bind (wpAny_forIn_list _ (fun rest c s'=>s' = s/\c = (none,())/\∀ v ∈ rest,v ∈ l) _ ?_ ?_ l _ ⟨rfl,rfl,fun _ h=>h⟩)
 ·rintro v rest c s' ⟨rfl,rfl,hr⟩
  obtain ⟨k,p,rfl,hk⟩:=hl v (hr v (List.mem_cons_self ..))
  dsimp only
  have hc:carriedByValue (Value.ref px) = false:=rfl
  rw [hc,Bool.false_and,Bool.or_false]
  split
  ·exact wpAny_pure ⟨rfl,rfl,fun u hu=>hr u (List.mem_cons_of_mem _ hu)⟩
  ·refine wpAny_bind ((tupleKind knd).quiet hx ?_)
   simp only [Bool.not_true,Bool.false_eq_true,if_false]
   refine wpAny_bind ((tupleKind knd).quiet hk ?_)
   simp only [Bool.not_true,Bool.false_eq_true,if_false]
   refine wpAny_bind (own_no hF hx ?_)
   simp only [Bool.false_eq_true,if_false]
   refine wpAny_bind (own_no hF hk ?_)
   simp only [Bool.false_eq_true,if_false]
   exact wpAny_pure ⟨rfl,rfl,fun u hu=>hr u (List.mem_cons_of_mem _ hu)⟩
 ·rintro c s' ⟨rfl,rfl,_⟩
  exact wpAny_pure h
end
end ST
namespace ST
open PySem
section
variable {prog:Program} {w:World} {K:Type} [DecidableEq K] {knd:KeyKind prog w K} {A:Around} {E:Value->Shared->Prop} {s:Shared}
theorem same_mem (t:SetTable):t.sameMemory t.moves t.mask = some true:=by
 unfold SetTable.sameMemory
 simp
theorem search_from {a:Addr} {o:Obj} {es:Array (Int × Value)} {ep:Nat} {t:SetTable} {ks:List (List K × Addr)} {kx:List K} {px:Addr} {adding:Bool} {Q:SetFound->Shared->Prop} {n:Nat}
  (hr:(tupleKind knd).room A) (hF:Flat knd) (ho:s.heap.get? a = some o) (hd:o.data = .set es ep t) (hE:Els knd es ks) (hT:Tab t es.size)
  (hks:∀ q ∈ ks,(tupleKind knd).is s.heap q.1 q.2) (hx:(tupleKind knd).is s.heap kx px) (hne:∀ q ∈ ks,q.1 ≠ kx) (hn:n < 10 * SetTable.turns t.mask)
  (he:t.slot (adv t n (t.probeStart ((tupleKind knd).hash kx))).j = .empty) (h:∀ j,t.slot j = .empty->Q (.free j false) s) :
  ∀ (k m fuel:Nat) (stand:Option SetTable.Probe),stand.getD (t.probeStart ((tupleKind knd).hash kx)) = adv t m (t.probeStart ((tupleKind knd).hash kx))->m + k = n->k < fuel ->
   wpAny (model prog w) A (setSearchFrom a (.ref px) ((tupleKind knd).hash kx) adding fuel stand) Q E s:=by
 intro k
 induction k using Nat.strongRecOn with
 | _ k ih =>
  intro m fuel stand hst hmk hf
  cases fuel with
  | zero=>omega
  | succ fuel =>
   unfold setSearchFrom
   refine wpAny_bind (wpAny_setState_of ho hd hT.fits ?_)
   dsimp only
   rw [hT.odd]
   simp only [Bool.false_eq_true,if_false]
   rw [hst]
   unfold SetTable.probe
   rcases go_met hT.dm _ ((tupleKind knd).hash kx) (t.probeStart ((tupleKind knd).hash kx)) rfl k m n (10 * SetTable.turns t.mask) hmk he (by omega) with ⟨j,e1,e2⟩ | ⟨l,i,h1,h2,e1,e2,e3⟩
   ·rw [e1]
    dsimp only
    exact wpAny_pure (h j e2)
   ·rw [e3]
    dsimp only
    obtain ⟨i',hi',hpl⟩:∃ i',t.slot (adv t l (t.probeStart ((tupleKind knd).hash kx))).j = .live i'/\t.place[i']? = some (adv t l (t.probeStart ((tupleKind knd).hash kx))).j:=by
     rcases slot_cases hT.dm (adv t l (t.probeStart ((tupleKind knd).hash kx))).j with z | z
     ·rw [z] at e1; cases e1
     ·exact z
    rw [e1] at hi'; cases hi'
    have hlt:i < es.size:=by
     have:=(Array.getElem?_eq_some_iff.mp hpl).1
     rw [hT.pl] at this; exact this
    obtain ⟨ent,hent⟩:∃ ent,es[i]? = some ent:=⟨es[i],Array.getElem?_eq_some_iff.mpr ⟨hlt,rfl⟩⟩
    obtain ⟨k',p',hm',rfl⟩:=hE.get hent
    have hseen:∀ v ∈ (es.filter (·.1 == (tupleKind knd).hash kx)).toList.map (·.2),∃ k p,v = .ref p/\(tupleKind knd).is s.heap k p:=by
     intro v hv
     obtain ⟨z,hz,rfl⟩:=List.mem_map.mp hv
     have hz':z ∈ es.toList:=by
      rw [Array.toList_filter] at hz
      exact (List.mem_filter.mp hz).1
     obtain ⟨q,hq,rfl⟩:=List.mem_map.mp (hE.mem_iff.mp hz')
     exact ⟨q.1,q.2,rfl,hks q hq⟩
    have rest:wpAny (model prog w) A (do
      let some (_,y):=es[i]? | unsupported "internal:set-entry"
      let equal <-holding [y] (eqBool y (.ref px))
      let (es',_,t') <-setState a
      if adding && equal then return .there none
      let some same:=t'.sameMemory t.moves t.mask | unsupported "set.changed-during-lookup:is-the-new-block-at-the-old-address"
      let still <-match (if same then t'.slot (adv t l (t.probeStart ((tupleKind knd).hash kx))).j else .empty) with
       | .live i'=>match es'[i']? with
        | some (_,y')=>do pure (if <-isSame y' y then some i' else none)
        | none=>pure none
       | _=>pure none
      match still with
      | none=>rule "set.search.anew"; setSearchFrom a (.ref px) ((tupleKind knd).hash kx) adding fuel none
      | some i'=>if equal then return .there (some i') else setSearchFrom a (.ref px) ((tupleKind knd).hash kx) adding fuel (some (adv t (l + 1) (t.probeStart ((tupleKind knd).hash kx))))) Q E s:=by
     rw [hent]
     dsimp only
     refine wpAny_bind (wpAny_holding ((tupleKind knd).eqBool hr (hks _ hm') hx ?_))
     rw [decide_eq_false (hne _ hm')]
     refine wpAny_bind (wpAny_setState_of ho hd hT.fits ?_)
     dsimp only
     rw [same_mem,Bool.and_false]
     simp only [Bool.false_eq_true,if_false,if_true]
     rw [e1]
     dsimp only
     rw [hent]
     dsimp only
     refine wpAny_bind (wpAny_isSame_ref_self (wpAny_bind (wpAny_pure ?_)))
     simp only [if_true]
     exact ih (n - (l + 1)) (by omega) (l + 1) fuel _ rfl (by omega) (by omega)
    cases hled:t.led with
    | true =>
     simp only [Bool.not_true,Bool.false_eq_true,if_false]
     exact rest
    | false =>
     simp only [Bool.not_false,if_true]
     refine wpAny_bind (unseen hF hx ?_ hseen)
     simp only [Bool.false_eq_true,if_false]
     exact rest
theorem search_free {a:Addr} {o:Obj} {es:Array (Int × Value)} {ep:Nat} {t:SetTable} {ks:List (List K × Addr)} {kx:List K} {px:Addr} {adding:Bool} {Q:SetFound->Shared->Prop}
  (hr:(tupleKind knd).room A) (hF:Flat knd) (ho:s.heap.get? a = some o) (hd:o.data = .set es ep t) (hE:Els knd es ks) (hT:Tab t es.size)
  (hks:∀ q ∈ ks,(tupleKind knd).is s.heap q.1 q.2) (hx:(tupleKind knd).is s.heap kx px) (hne:∀ q ∈ ks,q.1 ≠ kx) (h:∀ j,t.slot j = .empty->Q (.free j false) s) :
  wpAny (model prog w) A (setSearch a (.ref px) ((tupleKind knd).hash kx) adding) Q E s:=by
 obtain ⟨j,hj,hs⟩:=some_empty hT.dm (by rw [hT.pl]; have:=hT.rm; omega)
 obtain ⟨n,hn,e⟩:=probe_all hT.mm ((tupleKind knd).hash kx) hj
 unfold setSearch
 refine search_from hr hF ho hd hE hT hks hx hne hn (by rw [e]; exact hs) h n 0 100000 none rfl (by omega) ?_
 have:SetTable.turns t.mask<=526:=by
  unfold SetTable.turns
  rcases hT.mm with e | e | e | e <;> omega
 omega
theorem TSet.typeIs {a:Addr} {ks:List (List K × Addr)} (h:TSet knd s.heap a ks):s.TypeIs (.ref a) "set":=let ⟨o,_,_,_,ho,hc,_⟩:=h; ⟨o,ho,hc.1⟩
theorem no_scan {px:Addr} {es:Array (Int × Value)}:byScan (.ref px) es = false:=rfl
theorem find_free {a:Addr} {ks:List (List K × Addr)} {kx:List K} {px:Addr} {Q:Option Nat->Shared->Prop} (hr:(tupleKind knd).room A) (hF:Flat knd) (hS:TSet knd s.heap a ks)
  (hks:∀ q ∈ ks,(tupleKind knd).is s.heap q.1 q.2) (hx:(tupleKind knd).is s.heap kx px) (hne:∀ q ∈ ks,q.1 ≠ kx) (h:Q none s):wpAny (model prog w) A (setFind a (.ref px) ((tupleKind knd).hash kx)) Q E s:=by
 obtain ⟨o,es,ep,t,ho,_,hd,hE,hT⟩:=hS
 unfold setFind setFindIn
 refine wpAny_bind (wpAny_setState_of ho hd hT.fits ?_)
 dsimp only
 rw [no_scan]
 simp only [Bool.false_eq_true,if_false]
 refine wpAny_bind (search_free hr hF ho hd hE hT hks hx hne fun j _=>?_)
 dsimp only
 exact wpAny_pure h
theorem in_free {neg:Bool} {a:Addr} {ks:List (List K × Addr)} {kx:List K} {px:Addr} {Q:Value->Shared->Prop} (hr:A.units + 1 < cLine) (hF:Flat knd) (hS:TSet knd s.heap a ks)
  (hks:∀ q ∈ ks,(tupleKind knd).is s.heap q.1 q.2) (hx:(tupleKind knd).is s.heap kx px) (hne:∀ q ∈ ks,q.1 ≠ kx) (h:Q (.bool false) { s with toks:=s.toks + (tupleKind knd).draws kx }) :
  wpAny (model prog w) A (compareOp .In (.ref px) (.ref a)) Q E s:=by
 show wpAny _ _ (do return .bool (<-contains (.ref a) (.ref px))) Q E s
 refine wpAny_bind ?_
 unfold contains
 try with_reducible refine wpAny_holding ?_
 refine wpAny_bind (wpAny_specialOf hS.typeIs F.slot_set_contains.lookup ?_)
 show wpAny _ _ (if (some (Value.builtin "set.__contains__") == some Value.none) = true then _ else _) _ E s
 rw [if_neg (by rw [beq_builtin_none]; exact Bool.false_ne_true)]
 refine wpAny_bind (wpAny_callSpecialUnlessNone?_slot (name:=Str.ofString "__contains__") hS.typeIs F.slot_set_contains
  (wpAny_call_entry F.slot_set_contains hS.typeIs entry_set_contains ?_ (F.args_set_contains_2 _ _)))
 unfold Builtin.«frozenset.__contains__» Builtin.Frozenset.oneOther
 simp only [List.isEmpty_nil,bind_assoc]
 unfold Builtin.Frozenset.addrOf Builtin.Frozenset.withSetAsKey setContains
 refine wpAny_bind (wpAny_pure ?_)
 try dsimp only
 refine wpAny_bind (wpAny_pure ?_)
 try dsimp only
 refine wpAny_bind (wpAny_tryCatch ?_)
 refine wpAny_holding ?_
 refine wpAny_bind ((tupleKind knd).pyHash ?hroom hx ?_)
 case hroom=>exact hr
 refine wpAny_bind (find_free (s:={ s with toks:=s.toks + (tupleKind knd).draws kx }) ?hroom hF hS hks hx hne ?_)
 case hroom=>exact hr
 refine wpAny_pure ?_
 show wpAny _ _ (ret (Value.bool false)) _ _ _
 exact wpAny_pure ⟨_,rfl,wpAny_truthy_bool (wpAny_pure h)⟩
end
end ST
namespace ST
open PySem
section
variable {prog:Program} {w:World} {K:Type} [DecidableEq K] {knd:KeyKind prog w K} {A:Around} {E:Value->Shared->Prop} {s:Shared}
noncomputable def Scan (knd:KeyKind prog w K):Prop:=∀ v,(∃ x,knd.is x v = true)->v.scannable = true
theorem hbv {kx:List K} {px:Addr} {Q:Bool->Shared->Prop} (hB:Scan knd) (hx:(tupleKind knd).is s.heap kx px) (h:∀ b,Q b s):wpAny (model prog w) A (hashByValue 8 (.ref px)) Q E s:=by
 obtain ⟨o,items,n,ho,hc,hd,hi⟩:=hx
 have hT:s.TypeIs (.ref px) "tuple":=⟨o,ho,hc⟩
 unfold hashByValue
 refine wpAny_bind (wpAny_specialOf hT F.slot_tuple_hash.lookup ?_)
 dsimp only
 refine wpAny_bind (wpAny_seqItems ho hd ?_)
 dsimp only [Option.getD_some]
 rw [<-Array.forIn_toList]
 refine wpAny_bind (wpAny_mono (wpAny_forIn_list _ (fun rest c s'=>s' = s/\c = (none,())/\∀ v ∈ rest,v ∈ items.toList) (fun c s'=>s' = s/\(c = (none,())\/c = (some false,()))) ?_ ?_ _ _ ⟨rfl,rfl,fun _ z=>z⟩) ?_ fun _ _ q=>q)
 ·rintro v rest c s' ⟨rfl,rfl,hr⟩
  rw [hashByValue_scannable _ (hB v (items_key hi v (hr v (List.mem_cons_self ..))))]
  refine wpAny_bind (wpAny_pure ?_)
  cases plainKind v with
  | true =>
   simp only [Bool.not_true,Bool.false_eq_true,if_false]
   exact wpAny_pure ⟨rfl,rfl,fun u hu=>hr u (List.mem_cons_of_mem _ hu)⟩
  | false =>
   simp only [Bool.not_false,if_true]
   exact wpAny_pure ⟨rfl,.inr rfl⟩
 ·rintro c s' ⟨rfl,rfl,_⟩
  exact ⟨rfl,.inl rfl⟩
 ·rintro c s' ⟨rfl,rfl | rfl⟩
  ·exact wpAny_pure (h _)
  ·exact wpAny_pure (h _)
theorem insertAt_size {α:Type} (xs:Array α) (p:Nat) (x:α) (hp:p<=xs.size):(SetTable.insertAt xs p x).size = xs.size + 1:=by
 unfold SetTable.insertAt
 rw [Array.size_append,Array.size_push,Array.size_extract,Array.size_extract]
 omega
theorem insertAt_perm {α:Type} (xs:Array α) (p:Nat) (x:α) (hp:p<=xs.size):(SetTable.insertAt xs p x).toList.Perm (xs.toList ++ [x]):=by
 unfold SetTable.insertAt
 rw [Array.toList_append,Array.toList_push,Array.toList_extract,Array.toList_extract]
 simp only [List.extract_eq_take_drop,List.drop_zero,Nat.sub_zero]
 have e:List.take (xs.size - p) (List.drop p xs.toList) = List.drop p xs.toList:=by
  rw [List.take_of_length_le]
  rw [List.length_drop,Array.length_toList]
  omega
 rw [e]
 have e2:xs.toList = xs.toList.take p ++ xs.toList.drop p:=(List.take_append_drop ..).symm
 conv=>rhs; rw [e2]
 rw [List.append_assoc,List.append_assoc]
 exact List.Perm.append_left _ List.perm_append_comm
theorem below_go_le (xs:Array Nat) (j:Nat):∀ (f lo hi:Nat),lo<=hi->SetTable.below.go xs j f lo hi<=hi
 | 0,lo,hi,h=>h
 | f + 1,lo,hi,h=>by
  unfold SetTable.below.go
  split
  ·rename_i h'
   dsimp only
   split
   ·exact below_go_le xs j f _ _ (by omega)
   ·exact Nat.le_trans (below_go_le xs j f _ _ (by omega)) (by omega)
  ·exact h
theorem below_le (xs:Array Nat) (j:Nat):SetTable.below xs j<=xs.size:=below_go_le xs j _ _ _ (Nat.zero_le _)
theorem put_eq {t:SetTable} (hd:t.dummies = #[]) (j:Nat):t.put j = ({ t with place:=SetTable.insertAt t.place (SetTable.below t.place j) j },SetTable.below t.place j):=by
 unfold SetTable.put
 have:SetTable.has t.dummies j = false:=by
  rw [hd]; unfold SetTable.has; simp
 rw [this]
 rfl
theorem sz20:SetTable.sizeAbove 20 = 32:=by decide
theorem sz76:SetTable.sizeAbove 76 = 128:=by decide
theorem sz308:SetTable.sizeAbove 308 = 512:=by decide
theorem relay_ok {f:Array (Int × Value)->Option (SetTable × Array Nat)->Sem (Array (Int × Value) × SetTable)} (hf:∀ es laid,f es laid = (do
  let some (t,order):=laid | unsupported "internal:set-table-without-room"
  let es':=order.filterMap (es[·]?)
  if es'.size != es.size then unsupported "internal:set-table-lost-an-element"
  pure (es',t)))
  {a:Addr} {o:Obj} {es:Array (Int × Value)} {ep:Nat} {t:SetTable} {n m:Nat} {Q:Unit->Shared->Prop} (ho:s.heap.get? a = some o) (hd:o.data = .set es ep t) (hdm:t.dummies = #[]) (hfit:t.fits es.size = true)
  (hm:SetTable.sizeAbove n = m + 1) (hmm:Msk m) (hsz:es.size * 5 < m * 3)
  (h:∀ (es':Array (Int × Value)) (t':SetTable),es'.toList.Perm es.toList->Tab t' es'.size->Q () { s with heap:=s.heap.update a (Obj.putSet es' t') }) :
  wpAny (model prog w) A (do
   let (es,_,t) <-setState a
   if SetTable.sizeAbove n > sizeLine then unsupported "set:memory"
   let (es,t) <-f es (t.relaid (es.map (·.1)) n)
   storeSet a es t) Q E s:=by
 refine wpAny_bind (wpAny_setState_of ho hd hfit ?_)
 dsimp only
 have hm512:m<=511:=by rcases hmm with e | e | e | e <;> omega
 rw [hm,if_neg (by rw [sizeLine_eq]; omega)]
 rw [hf]
 have hs:(es.map (·.1)).size<=m:=by rw [Array.size_map]; omega
 obtain ⟨place,order,e1,e2,e3⟩:=laid_ok hmm t.finger (t.movedTo (SetTable.sizeAbove n - 1)) t.led t.plain (es.map (·.1)) hs
 have e0:t.relaid (es.map (·.1)) n = some ({ mask:=m,place,dummies:=#[],finger:=t.finger,led:=t.led,moves:=t.movedTo (SetTable.sizeAbove n - 1),plain:=t.plain },order):=by
  unfold SetTable.relaid
  rw [hm]
  rw [hm] at e1
  exact e1
 rw [e0]
 dsimp only
 have hp:(order.filterMap (es[·]?)).toList.Perm es.toList:=order_es (by rw [Array.size_map] at e3; exact e3)
 have hz:(order.filterMap (es[·]?)).size = es.size:=by rw [<-Array.length_toList,hp.length_eq,Array.length_toList]
 rw [if_neg (by rw [hz]; simp)]
 refine wpAny_bind (wpAny_pure ?_)
 dsimp only
 refine wpAny_storeSet_of ho hd (h _ _ hp ⟨rfl,?_,hmm,?_⟩) (by rw [hz,sizeLine_eq]; omega)
 ·rw [hz,e2,Array.size_map]
 ·rw [hz]; exact hsz
theorem set_get {h:Heap} {a:Addr} {o:Obj} {es:Array (Int × Value)} {ep:Nat} {t:SetTable} (ho:h.get? a = some o) (hd:o.data = .set es ep t) (es':Array (Int × Value)) (t':SetTable) :
  (h.update a (Obj.putSet es' t')).get? a = some { o with data:=.set es' (ep + 1) t' }:=by
 have:=Heap.get?_update_self (Obj.putSet es' t') ho (by rw [putSet_of es' t' hd]; rfl)
 rw [putSet_of es' t' hd] at this; exact this
theorem add_hashed {a:Addr} {ks:List (List K × Addr)} {kx:List K} {px:Addr} {Q:Bool->Shared->Prop} (hr:(tupleKind knd).room A) (hF:Flat knd) (hB:Scan knd) (hS:TSet knd s.heap a ks)
  (hks:∀ q ∈ ks,(tupleKind knd).is s.heap q.1 q.2) (hx:(tupleKind knd).is s.heap kx px) (hne:∀ q ∈ ks,q.1 ≠ kx) (hl:ks.length + 1<=300)
  (h:∀ h',Heap.SameBut a s.heap h'->TSet knd h' a (ks ++ [(kx,px)])->Q true { s with heap:=h' }) :
  wpAny (model prog w) A (setAddHashed a (.ref px) ((tupleKind knd).hash kx)) Q E s:=by
 obtain ⟨o,es,ep,t,ho,hex,hd,hE,hT⟩:=hS
 have hsz:es.size = ks.length:=by
  have:=hE.length_eq
  rw [Array.length_toList,List.length_map] at this; exact this
 unfold setAddHashed setAddHashedIn
 refine wpAny_holding ?_
 refine wpAny_bind (wpAny_setState_of ho hd hT.fits ?_)
 dsimp only
 rw [no_scan]
 simp only [Bool.false_eq_true,if_false]
 refine wpAny_bind (search_free hr hF ho hd hE hT hks hx hne fun j hj=>?_)
 dsimp only
 refine wpAny_bind (wpAny_setState_of ho hd hT.fits ?_)
 dsimp only
 rw [put_eq hT.dm]
 dsimp only
 have hb:=below_le t.place j
 have hb':SetTable.below t.place j<=es.size:=by rw [hT.pl] at hb; exact hb
 have hrm:=hT.rm
 have hmm:=hT.mm
 have hsz1:=insertAt_size es (SetTable.below t.place j) ((tupleKind knd).hash kx,Value.ref px) hb'
 have hpm:=insertAt_perm es (SetTable.below t.place j) ((tupleKind knd).hash kx,Value.ref px) hb'
 have hE1:∀ es':Array (Int × Value),es'.toList.Perm (SetTable.insertAt es (SetTable.below t.place j) ((tupleKind knd).hash kx,Value.ref px)).toList->Els knd es' (ks ++ [(kx,px)]):=fun es' hp=>by
  unfold Els
  rw [List.map_append]
  exact hp.trans (hpm.trans (hE.append_right _))
 have key:∀ t1:SetTable,t1.dummies = #[]->t1.mask = t.mask->t1.place.size = es.size + 1->wpAny (model prog w) A (do
   storeSet a (SetTable.insertAt es (SetTable.below t.place j) ((tupleKind knd).hash kx,Value.ref px)) t1
   if (!false && t1.tooFull) = true then do
    setRelay a (SetTable.grown (es.size + 1))
    pure true
   else pure true) Q E s:=by
  intro t1 d1 m1 p1
  refine wpAny_bind (wpAny_storeSet_of ho hd ?_ (by rw [hsz1,sizeLine_eq]; omega))
  have ho1:=set_get ho hd (SetTable.insertAt es (SetTable.below t.place j) ((tupleKind knd).hash kx,Value.ref px)) t1
  have sb1:=Heap.SameBut.update s.heap a (Obj.putSet (SetTable.insertAt es (SetTable.below t.place j) ((tupleKind knd).hash kx,Value.ref px)) t1)
  have htf:t1.tooFull = decide ((es.size + 1) * 5 ≥ t.mask * 3):=by
   unfold SetTable.tooFull SetTable.fill
   rw [d1,m1,p1]
   rfl
  rw [htf,Bool.not_false,Bool.true_and]
  by_cases hfull:(es.size + 1) * 5 ≥ t.mask * 3
  ·rw [decide_eq_true hfull,if_pos rfl]
   have hcase:∃ m,SetTable.sizeAbove (SetTable.grown (es.size + 1)) = m + 1/\Msk m/\(es.size + 1) * 5 < m * 3:=by
    have hg:SetTable.grown (es.size + 1) = (es.size + 1) * 4:=by
     unfold SetTable.grown
     rw [if_neg (by omega)]
    rw [hg]
    rcases hmm with e | e | e | e
    ·have:es.size + 1 = 5:=by omega
     rw [this]
     exact ⟨31,sz20,.inr (.inl rfl),by decide⟩
    ·have:es.size + 1 = 19:=by omega
     rw [this]
     exact ⟨127,sz76,.inr (.inr (.inl rfl)),by decide⟩
    ·have:es.size + 1 = 77:=by omega
     rw [this]
     exact ⟨511,sz308,.inr (.inr (.inr rfl)),by decide⟩
    ·omega
   obtain ⟨m,c1,c2,c3⟩:=hcase
   refine wpAny_bind ?_
   unfold setRelay
   refine relay_ok (fun _ _=>rfl) (s:={ s with heap:=_ }) ho1 rfl d1 ?_ c1 c2 (by rw [hsz1]; exact c3) fun es' t' hp ht=>?_
   ·unfold SetTable.fits SetTable.fill
    rw [hsz1,p1,d1,m1]
    have h300:es.size + 1 + 0<=t.mask:=by rcases hmm with e | e | e | e <;> omega
    simp
    omega
   ·refine wpAny_pure (h _ (sb1.trans (Heap.SameBut.update _ a _)) ?_)
    exact ⟨_,es',_,t',set_get ho1 rfl es' t',hex,rfl,hE1 es' hp,ht⟩
  ·rw [decide_eq_false hfull,if_neg (by decide)]
   refine wpAny_pure (h _ sb1 ⟨_,_,_,t1,ho1,hex,rfl,hE1 _ (.refl _),⟨d1,?_,?_,?_⟩⟩)
   ·rw [p1,hsz1]
   ·rw [m1]; exact hmm
   ·rw [m1,hsz1]; omega
 have hps:(SetTable.insertAt t.place (SetTable.below t.place j) j).size = es.size + 1:=by rw [insertAt_size _ _ _ hb,hT.pl]
 cases hpl:t.plain with
 | true =>
  simp only [if_true]
  refine wpAny_bind (hbv hB hx fun b=>?_)
  cases b with
  | true =>
   simp only [if_true]
   exact key _ hT.dm rfl hps
  | false =>
   simp only [Bool.false_eq_true,if_false]
   exact key _ hT.dm rfl hps
 | false =>
  simp only [Bool.false_eq_true,if_false]
  refine wpAny_bind (wpAny_pure ?_)
  simp only [if_true]
  exact key _ hT.dm rfl hps
theorem call_add {a:Addr} {ks:List (List K × Addr)} {kx:List K} {px:Addr} {Q:Value->Shared->Prop} (hr:A.units + 1 < cLine) (hF:Flat knd) (hB:Scan knd) (hS:TSet knd s.heap a ks)
  (hks:∀ q ∈ ks,(tupleKind knd).is s.heap q.1 q.2) (hx:(tupleKind knd).is s.heap kx px) (hne:∀ q ∈ ks,q.1 ≠ kx) (hl:ks.length + 1<=300)
  (h:∀ h',Heap.SameBut a s.heap h'->TSet knd h' a (ks ++ [(kx,px)])->Q .none { s with heap:=h',toks:=s.toks + (tupleKind knd).draws kx }) :
  wpAny (model prog w) A (call (.builtin "set.add") [.ref a,.ref px]) Q E s:=by
 refine wpAny_call_entry F.slot_set_add hS.typeIs F.entry_set_add ?_ (F.args_set_add_2 _ _)
 unfold Builtin.«set.add» Builtin.Frozenset.oneOther
 simp only [List.isEmpty_nil,bind_assoc]
 unfold Builtin.Frozenset.addrOf setAdd
 refine wpAny_bind (wpAny_pure ?_)
 try dsimp only
 refine wpAny_bind (wpAny_pure ?_)
 try dsimp only
 refine wpAny_bind ?_
 refine wpAny_holding ?_
 refine wpAny_bind ((tupleKind knd).pyHash ?hroom hx ?_)
 case hroom=>exact hr
 refine add_hashed (s:={ s with toks:=s.toks + (tupleKind knd).draws kx }) ?hroom hF hB hS hks hx hne hl fun h' hsb hS'=>?_
 case hroom=>exact hr
 show wpAny _ _ (ret Value.none) _ _ _
 exact wpAny_pure ⟨_,rfl,h h' hsb hS'⟩
end
end ST
namespace ST
open PySem
theorem owner_si:Manifest.owners.lookup (String.ofList ['r','o','t','a','r','e','t','i','_','t','e','s'].reverse) = some Manifest.sig_set_iterator:=by kernel_rfl
theorem slot_si_next:Slot "set_iterator" "__next__" "set_iterator.__next__" :=
 .of (owner := "set_iterator") (n := "__next__") (by rw [typeLookup_type,builtinLookup_eq_fast]; kernel_rfl) (by decide +kernel) (by decide +kernel) (by decide +kernel) (by first | exact .inl (by decide +kernel) | exact .inr (by decide +kernel)) (by rw [isSubtype_type]; kernel_rfl)
theorem entry_si_next:entryFor table "set_iterator.__next__" = some Builtin.«set_iterator.__next__»:=entryFor_of_tree (by kernel_rfl)
theorem args_si_next (a:Value):argsOk "set_iterator.__next__" ⟨[a],[]⟩:=by
 unfold argsOk; rw [signature?_of (id := "set_iterator.__next__") (n:=['_','_','t','x','e','n','_','_']) (o:=['r','o','t','a','r','e','t','i','_','t','e','s']) (by kernel_rfl) owner_si]; kernel_rfl
theorem slot_si_iter:Slot "set_iterator" "__iter__" "set_iterator.__iter__" :=
 .of (owner := "set_iterator") (n := "__iter__") (by rw [typeLookup_type,builtinLookup_eq_fast]; kernel_rfl) (by decide +kernel) (by decide +kernel) (by decide +kernel) (by first | exact .inl (by decide +kernel) | exact .inr (by decide +kernel)) (by rw [isSubtype_type]; kernel_rfl)
theorem args_si_iter (a:Value):argsOk "set_iterator.__iter__" ⟨[a],[]⟩:=by
 unfold argsOk; rw [signature?_of (id := "set_iterator.__iter__") (n:=['_','_','r','e','t','i','_','_']) (o:=['r','o','t','a','r','e','t','i','_','t','e','s']) (by kernel_rfl) owner_si]; kernel_rfl
theorem entry_si_iter:entryFor table "set_iterator.__iter__" = some Builtin.«dict_keyiterator.__iter__» :=
 entryFor_alias (id' := "dict_keyiterator.__iter__") (by kernel_rfl) (by first | rfl | decide +kernel | (unfold String.splitOn; simp +decide [String.splitOnAux])) (by decide +kernel) (by kernel_rfl)
theorem entry_s_iter:entryFor table "set.__iter__" = some Builtin.«frozenset.__iter__» :=
 entryFor_alias (id' := "frozenset.__iter__") (by kernel_rfl) rfl (by decide +kernel) (by kernel_rfl)
theorem s_len:typeLookup (.type "set") "__len__" = pure (some (.builtin "set.__len__")):=by rw [typeLookup_type,builtinLookup_eq_fast]; kernel_rfl
section
variable {prog:Program} {w:World} {A:Around} {E:Value->Shared->Prop} {s:Shared}
theorem choose_ok {n:Nat} {Q:Nat->Shared->Prop} (hn:n ≠ 0) (h:∀ i d,i < n->Q i { s with drawn:=d }):wpAny (model prog w) A (choose .order n) Q E s:=fun Γ p hΓ=>by
 unfold choose
 rw [Sem.wp_choose]
 exact ⟨hn,h _ _ (Nat.mod_lt _ (Nat.pos_of_ne_zero hn))⟩
theorem erase_perm {α:Type}:∀ {l:List α} {i:Nat} {x:α},l[i]? = some x->(x :: l.eraseIdx i).Perm l
 | [],i,x,h=>by simp at h
 | y :: l,0,x,h=>by
  have:y = x:=by simpa using h
  subst this
  exact .refl _
 | y :: l,i + 1,x,h=>by
  have h':l[i]? = some x:=by simpa using h
  exact (List.Perm.swap y x _).trans ((erase_perm h').cons y)
theorem erase_len {α:Type} {l:List α} {i:Nat} {x:α} (h:l[i]? = some x):(l.eraseIdx i).length + 1 = l.length:=(erase_perm h).length_eq
theorem draw_ok {α:Type}:∀ (n:Nat) (l:List α) (s:Shared) (Q:List α->Shared->Prop),l.length = n->(∀ l' d,l'.Perm l->Q l' { s with drawn:=d })->wpAny (model prog w) A (drawOrder n l) Q E s
 | 0,l,s,Q,hl,h=>by
  unfold drawOrder
  obtain rfl:=List.length_eq_zero_iff.mp hl
  exact wpAny_pure (h [] s.drawn (.refl _))
 | n + 1,[],s,Q,hl,h=>by simp at hl
 | n + 1,x :: xs,s,Q,hl,h=>by
  unfold drawOrder
  refine wpAny_bind (choose_ok (by simp) fun i d hi=>?_)
  have e:(x :: xs)[i]? = some ((x :: xs)[i]):=List.getElem?_eq_getElem hi
  rw [e]
  dsimp only
  have hp:=erase_perm e
  refine wpAny_bind (draw_ok n _ _ _ (by have:=erase_len e; omega) fun l' d' hp'=>?_)
  exact wpAny_pure (h _ d' ((hp'.cons _).trans hp))
theorem pick_go {α:Type} (nx:Nat->Nat):∀ (f k:Nat) (left:List α) (out:Array α),left.length = f->(pickOrder.go nx f k left out).toList.Perm (out.toList ++ left)
 | 0,k,left,out,h=>by
  obtain rfl:=List.length_eq_zero_iff.mp h
  unfold pickOrder.go
  simp
 | f + 1,k,left,out,h=>by
  have hlt:nx k % left.length < left.length:=Nat.mod_lt _ (by omega)
  have e:left[nx k % left.length]? = some left[nx k % left.length]:=List.getElem?_eq_getElem hlt
  unfold pickOrder.go
  rw [e]
  dsimp only
  have hp:=erase_perm e
  refine (pick_go nx f (k + 1) _ _ (by have:=erase_len e; omega)).trans ?_
  rw [Array.toList_push,List.append_assoc]
  exact hp.append_left _
theorem pick_perm {α:Type} (nx:Nat->Nat) (xs:Array α):(pickOrder nx xs).toList.Perm xs.toList:=by
 unfold pickOrder
 have:=pick_go nx xs.size 0 xs.toList #[] (Array.length_toList ..)
 simpa using this
structure SAt (w:World) (h:Heap) (a:Addr) (o:Obj) (es:Array (Int × Value)) (ep:Nat) (t:SetTable):Prop where
 ho:h.get? a = some o
 ex:o.ExactSet
 hd:o.data = .set es ep t
 ft:t.fits es.size = true
 led:t.led = !(w.params.followText "set-order")
 pln:t.plain = true->es.size = 0
 few:es.size < 4096
noncomputable def sIt (first:Value) (i n ep:Nat) (a:Addr):Obj:={ cls:=.type "set_iterator",data:=.fields #[first,rawInt i,.ref a,rawInt n,rawInt ep] }
theorem byText_ok {Q:Bool->Shared->Prop} (h:Q (w.params.followText "set-order") s):wpAny (model prog w) A setsByText Q E s:=by
 unfold setsByText
 exact wpAny_bind (wpAny_askSetting (wpAny_pure h))
variable {a it:Addr} {o:Obj} {es:Array (Int × Value)} {ep:Nat} {t:SetTable}
theorem next_int {i sl:Nat} {r:Option (Value × Nat)} {Q:Option Value->Shared->Prop} (hh:A.handled = none) (S:SAt w s.heap a o es ep t) (hne:it ≠ a) (hi:s.heap.get? it = some (sIt (rawInt sl) i es.size ep a))
  (hin:∀ (Q':Option (Value × Nat)->Shared->Prop) (A':Around) (E':Value->Shared->Prop),Q' r s->wpAny (model prog w) A' (setNext a sl i ep) Q' E' s)
  (hQ1:∀ x nx h',r = some (x,nx)->h'.get? it = some (sIt (rawInt nx) (i + 1) es.size ep a)->Heap.SameBut it s.heap h'->Q (some x) { s with heap:=h' })
  (hQ0:r = none->∀ h',Heap.ExtBut it s.heap h'->Q none { s with heap:=h' }):wpAny (model prog w) A (pyNext (.ref it)) Q E s:=by
 have hT:s.TypeIs (.ref it) "set_iterator":=⟨_,hi,rfl⟩
 unfold pyNext
 refine wpAny_bind (wpAny_attempt (wpAny_callSpecial?_slot (name:=Str.ofString "__next__") hT slot_si_next (wpAny_call_entry slot_si_next hT entry_si_next ?_ (args_si_next _))))
 unfold Builtin.«set_iterator.__next__»
 refine wpAny_bind (wpAny_of_eq (a:=(Value.ref it,[])) rfl ?_)
 dsimp only
 refine wpAny_bind (wpAny_fieldsOf hi rfl ?_)
 dsimp only [rawInt]
 refine wpAny_bind (wpAny_setEntries_of S.ho S.hd S.ft ?_)
 rw [if_neg (by simp)]
 simp only [Int.toNat_natCast]
 refine wpAny_bind (hin _ _ _ ?_)
 cases r with
 | some p =>
  obtain ⟨x,nx⟩:=p
  dsimp only
  refine wpAny_bind (wpAny_setField hi rfl (by simp) ?_)
  have h1:=Heap.get?_update_self (Obj.mapFields (·.setIfInBounds 0 (rawInt (nx:Nat)))) hi rfl
  refine wpAny_bind (wpAny_setField h1 rfl (by simp) ?_)
  have h2:=Heap.get?_update_self (Obj.mapFields (·.setIfInBounds 1 (rawInt ((i:Int) + 1)))) h1 rfl
  refine wpAny_pure ⟨x,rfl,wpAny_pure (hQ1 x nx _ rfl ?_ ((Heap.SameBut.update ..).trans (Heap.SameBut.update ..)))⟩
  exact h2
 | none =>
  dsimp only
  refine wpAny_bind (wpAny_setField hi rfl (by simp) ?_)
  refine wpAny_bind ?_
  simp only [newExc,newTuple]
  refine wpAny_bind (wpAny_newObj_type ?_ (by size_fits))
  refine wpAny_bind (m:=firstArgMember _ _) (wpAny_of_eq (a:=Value.none) (by first | rfl | (simp only [firstArgMember]; rfl)) ?_)
  refine wpAny_newObj_type ?_ (by size_fits)
  simp only [raiseNew]
  refine wpAny_bind (wpAny_handled ?_)
  first | rw [show A.in1.handled = none from hh] | rw [hh]
  refine wpAny_bind (wpAny_pure (wpAny_throw ?_))
  refine wpAny_bind (wpAny_isInstance (T := "StopIteration") (b:=true) ⟨_,Heap.get?_push_size _ rfl,rfl⟩ isSubtype_stop ?_)
  exact wpAny_pure (hQ0 rfl _ ((Heap.ExtBut.push (Heap.ExtBut.push (fun b o hb e=>(Heap.get?_update_other _ _ (Ne.symm hb)).trans e) _)) _))
end
end ST
namespace ST
open PySem
noncomputable def tObj (ps:List Nat):Obj:={ cls:=.type "tuple",data:=.seq (ps.map fun (i:Nat)=>rawInt i).toArray }
section
variable {prog:Program} {w:World} {A:Around} {E:Value->Shared->Prop} {s:Shared} {a it T:Addr} {o:Obj} {es:Array (Int × Value)} {ep:Nat} {t:SetTable}
theorem next_tup {i:Nat} {ps:List Nat} {Q:Option Value->Shared->Prop} (hh:A.handled = none) (S:SAt w s.heap a o es ep t) (hi:s.heap.get? it = some (sIt (.ref T) i es.size ep a)) (hT:s.heap.get? T = some (tObj ps))
  (hQ1:∀ p x h',ps[i]? = some p->es[p]? = some x->h'.get? it = some (sIt (.ref T) (i + 1) es.size ep a)->Heap.SameBut it s.heap h'->Q (some x.2) { s with heap:=h' }) (hps:∀ p ∈ ps,p < es.size)
  (hQ0:ps.length<=i->∀ h',Heap.ExtBut it s.heap h'->Q none { s with heap:=h' }):wpAny (model prog w) A (pyNext (.ref it)) Q E s:=by
 have hTy:s.TypeIs (.ref it) "set_iterator":=⟨_,hi,rfl⟩
 unfold pyNext
 refine wpAny_bind (wpAny_attempt (wpAny_callSpecial?_slot (name:=Str.ofString "__next__") hTy slot_si_next (wpAny_call_entry slot_si_next hTy entry_si_next ?_ (args_si_next _))))
 unfold Builtin.«set_iterator.__next__»
 refine wpAny_bind (wpAny_of_eq (a:=(Value.ref it,[])) rfl ?_)
 dsimp only
 refine wpAny_bind (wpAny_fieldsOf hi rfl ?_)
 dsimp only [rawInt]
 refine wpAny_bind (wpAny_setEntries_of S.ho S.hd S.ft ?_)
 rw [if_neg (by simp)]
 simp only [Int.toNat_natCast]
 refine wpAny_bind (wpAny_seqItems hT rfl ?_)
 dsimp only
 cases e:ps[i]? with
 | some p =>
  have e':(ps.map fun (i:Nat)=>Value.int (i:Int) 0).toArray[i]? = some (.int (p:Int) 0):=by
   rw [List.getElem?_toArray,List.getElem?_map,e]; rfl
  have e'':(ps.map fun (i:Nat)=>rawInt i).toArray[i]? = some (.int (p:Int) 0):=e'
  rw [e'']
  have hp:p < es.size:=hps p (List.mem_of_getElem? e)
  obtain ⟨x,hx⟩:∃ x,es[p]? = some x:=⟨es[p],Array.getElem?_eq_some_iff.mpr ⟨hp,rfl⟩⟩
  dsimp only
  simp only [Int.toNat_natCast]
  unfold setNextDrawn
  refine wpAny_bind (wpAny_bind (wpAny_setState_of S.ho S.hd S.ft ?_))
  dsimp only
  rw [if_neg (by simp),hx]
  dsimp only
  refine wpAny_pure ?_
  refine wpAny_bind (wpAny_setField hi rfl (by simp) ?_)
  have h2:=Heap.get?_update_self (Obj.mapFields (·.setIfInBounds 1 (rawInt ((i:Int) + 1)))) hi rfl
  exact wpAny_pure ⟨x.2,rfl,wpAny_pure (hQ1 p x _ e hx h2 (Heap.SameBut.update ..))⟩
 | none =>
  have e'':(ps.map fun (i:Nat)=>rawInt i).toArray[i]? = none:=by
   rw [List.getElem?_toArray,List.getElem?_map,e]; rfl
  rw [e'']
  dsimp only
  refine wpAny_bind (wpAny_setField hi rfl (by simp) ?_)
  have h1:=Heap.get?_update_self (Obj.mapFields (·.setIfInBounds 0 (rawInt 0))) hi rfl
  refine wpAny_bind (wpAny_setField h1 rfl (by simp) ?_)
  refine wpAny_bind ?_
  simp only [newExc,newTuple]
  refine wpAny_bind (wpAny_newObj_type ?_ (by size_fits))
  refine wpAny_bind (m:=firstArgMember _ _) (wpAny_of_eq (a:=Value.none) (by first | rfl | (simp only [firstArgMember]; rfl)) ?_)
  refine wpAny_newObj_type ?_ (by size_fits)
  simp only [raiseNew]
  refine wpAny_bind (wpAny_handled ?_)
  rw [show A.in1.handled = none from hh]
  refine wpAny_bind (wpAny_pure (wpAny_throw ?_))
  refine wpAny_bind (wpAny_isInstance (T := "StopIteration") (b:=true) ⟨_,Heap.get?_push_size _ rfl,rfl⟩ isSubtype_stop ?_)
  refine wpAny_pure (hQ0 (List.getElem?_eq_none_iff.mp e) _ (Heap.ExtBut.push (Heap.ExtBut.push (fun b ob hb eb=>?_) _) _))
  exact (Heap.get?_update_other _ _ (Ne.symm hb)).trans ((Heap.get?_update_other _ _ (Ne.symm hb)).trans eb)
noncomputable def Mode (w:World) (a T:Addr) (es:Array (Int × Value)) (ep:Nat) (t:SetTable) (order:List Value) (i:Nat) (h:Heap) (first:Value):Prop :=
 (w.params.followText "set-order" = true/\first = rawInt (0:Nat)/\order = (pickOrder (w.params.setOrder a ep) es).toList.map (·.2)) \/
 (w.params.followText "set-order" = false/\∃ ps:List Nat,first = .ref T/\h.get? T = some (tObj ps)/\ps.Perm (List.range es.size)/\order = ps.filterMap fun p=>es[p]?.map (·.2)) \/
 (w.params.followText "set-order" = false/\es.size<=1/\order = es.toList.map (·.2)/\∃ sl:Nat,first = rawInt sl/\(i = 0->sl = 0)/\(i = 1->∃ j,t.place = #[j]/\sl = j + 1))
noncomputable def SSt (w:World) (a it T:Addr) (o:Obj) (es:Array (Int × Value)) (ep:Nat) (t:SetTable) (order:List Value) (i:Nat) (h:Heap):Prop :=
 SAt w h a o es ep t/\∃ first,h.get? it = some (sIt first i es.size ep a)/\Mode w a T es ep t order i h first
theorem SAt.at {h h':Heap} (S:SAt w h a o es ep t) (e:h'.get? a = some o):SAt w h' a o es ep t:=⟨e,S.ex,S.hd,S.ft,S.led,S.pln,S.few⟩
theorem below0 (j:Nat):SetTable.below #[j] 0 = 0:=by simp [SetTable.below,SetTable.below.go]
theorem below1 (j:Nat):SetTable.below #[j] (j + 1) = 1:=by simp [SetTable.below,SetTable.below.go]
theorem place_of (S:SAt w s.heap a o es ep t):t.place.size = es.size:=by
 have:=S.ft
 unfold SetTable.fits at this
 rw [Bool.and_eq_true] at this
 simpa using this.1
theorem set_walks (hh:A.handled = none) {order:List Value} (hia:it ≠ a) (hiT:it ≠ T):Walks prog w A it [it,a,T] [it] es.size (fun i v=>order[i]? = some v) (SSt w a it T o es ep t order) where
 sub:=fun b hb=>by simp at hb; simp [hb]
 frame:=fun i h h' ⟨S,first,hi,hm⟩ k=>by
  refine ⟨S.at (k a (by simp) _ S.ho),first,k it (by simp) _ hi,?_⟩
  rcases hm with z | ⟨z1,ps,z2,z3,z4,z5⟩ | z
  ·exact .inl z
  ·exact .inr (.inl ⟨z1,ps,z2,k T (by simp) _ z3,z4,z5⟩)
  ·exact .inr (.inr z)
 item:=fun i s Q E hlt ⟨S,first,hi,hm⟩ hQ=>by
  have keep:∀ h',Heap.SameBut it s.heap h'->∀ b ob,b ∉ [it]->s.heap.get? b = some ob->h'.get? b = some ob:=fun h' hs b ob hb e=>(hs.2 b (by simpa using hb)).trans e
  rcases hm with ⟨z1,rfl,z3⟩ | ⟨z1,ps,rfl,z3,z4,z5⟩ | ⟨z1,z2,z3,sl,rfl,z5,z6⟩
  ·have hpk:=pick_perm (w.params.setOrder a ep) es
   have hlen:(pickOrder (w.params.setOrder a ep) es).size = es.size:=by rw [<-Array.length_toList,hpk.length_eq,Array.length_toList]
   obtain ⟨x,hx⟩:∃ x,(pickOrder (w.params.setOrder a ep) es)[i]? = some x:=⟨_,Array.getElem?_eq_some_iff.mpr ⟨by rw [hlen]; exact hlt,rfl⟩⟩
   refine next_int (r:=some (x.2,0)) hh S hia hi (fun Q' A' E' q=>?_) (fun y nx h' e1 e2 hs=>?_) (fun e=>nomatch e)
   ·unfold setNext setWalk
    refine wpAny_bind (wpAny_setState_of S.ho S.hd S.ft ?_)
    dsimp only
    refine wpAny_bind (byText_ok ?_)
    rw [z1,if_pos rfl,if_neg (by simp)]
    refine wpAny_bind (wpAny_bind (wpAny_setState_of S.ho S.hd S.ft ?_))
    dsimp only
    refine wpAny_bind (byText_ok ?_)
    rw [z1,if_pos rfl]
    refine wpAny_bind (wpAny_askSetting (wpAny_pure (wpAny_pure ?_)))
    show Q' (((pickOrder (w.params.setOrder a ep) es)[i]?).map fun e=>(e.2,0)) s
    rw [hx]
    exact q
   ·cases e1
    have:=hQ x.2 h' s.toks (by rw [z3,List.getElem?_map,Array.getElem?_toList,hx]; rfl) ⟨S.at ((hs.2 a (Ne.symm hia)).trans S.ho),_,e2,.inl ⟨z1,rfl,z3⟩⟩ (keep h' hs)
    exact this
  ·refine next_tup hh S hi z3 (fun p x h' e1 e2 e3 hs=>?_) (fun p hp=>List.mem_range.mp (z4.mem_iff.mp hp)) (fun hle=>?_)
   ·have hall:∀ q ∈ ps,(es[q]?.map (·.2)).isSome = true:=fun q hq=>by
     have:q < es.size:=List.mem_range.mp (z4.mem_iff.mp hq)
     rw [Array.getElem?_eq_some_iff.mpr ⟨this,rfl⟩]; rfl
    refine hQ x.2 h' s.toks ?_ ⟨S.at ((hs.2 a (Ne.symm hia)).trans S.ho),_,e3,.inr (.inl ⟨z1,ps,rfl,(hs.2 T (Ne.symm hiT)).trans z3,z4,z5⟩)⟩ (keep h' hs)
    have gen:∀ (l:List Nat) (i p:Nat),(∀ q ∈ l,(es[q]?.map (·.2)).isSome = true)->l[i]? = some p->(l.filterMap fun p=>es[p]?.map (·.2))[i]? = es[p]?.map (·.2):=by
     intro l
     induction l with
     | nil=>intro i p _ e; simp at e
     | cons q r ih =>
      intro i p hl e
      obtain ⟨v,hv⟩:=Option.isSome_iff_exists.mp (hl q (List.mem_cons_self ..))
      rw [List.filterMap_cons,hv]
      dsimp only
      cases i with
      | zero =>
       have:q = p:=by simpa using e
       subst this
       simpa using hv.symm
      | succ i=>simpa using ih i p (fun q hq=>hl q (List.mem_cons_of_mem _ hq)) (by simpa using e)
    rw [z5,gen ps i p hall e1,e2]
    rfl
   ·have:=z4.length_eq
    rw [List.length_range] at this
    omega
  ·have h0:i = 0:=by omega
   have h1:es.size = 1:=by omega
   obtain ⟨j,hj⟩:∃ j,t.place = #[j]:=Array.size_eq_one_iff.mp ((place_of S).trans h1)
   obtain ⟨x,hx⟩:∃ x,es = #[x]:=Array.size_eq_one_iff.mp h1
   have hs0:=z5 h0
   subst hs0
   have hx0:es[0]? = some x:=by rw [hx]; rfl
   refine next_int (r:=some (x.2,j + 1)) hh S hia hi (fun Q' A' E' q=>?_) (fun y nx h' e1 e2 hs=>?_) (fun e=>nomatch e)
   ·unfold setNext
    refine wpAny_bind (wpAny_setState_of S.ho S.hd S.ft ?_)
    dsimp only
    refine wpAny_bind (byText_ok ?_)
    rw [z1,if_neg (by decide)]
    show wpAny _ _ (if (!t.plain && decide (es.size > 1)) = true then _ else _) _ _ _
    rw [if_neg (by rw [h1]; simp)]
    show wpAny _ _ (do (if (!t.led && !es.isEmpty) = true then unsupported "set:maker-not-led" else pure ()); _) _ _ _
    rw [S.led,z1,if_neg (by simp)]
    refine wpAny_bind (wpAny_pure ?_)
    rw [hj,below0,hx0]
    exact wpAny_pure q
   ·cases e1
    refine hQ x.2 h' s.toks (by rw [z3,h0,hx]; rfl) ⟨S.at ((hs.2 a (Ne.symm hia)).trans S.ho),_,e2,.inr (.inr ⟨z1,z2,z3,j + 1,rfl,fun e=>by omega,fun _=>⟨j,hj,rfl⟩⟩)⟩ (keep h' hs)
 done:=fun s Q E ⟨S,first,hi,hm⟩ hQ=>by
  have keep:∀ h',Heap.ExtBut it s.heap h'->∀ b ob,b ∉ [it]->s.heap.get? b = some ob->h'.get? b = some ob:=fun h' hs b ob hb e=>hs b ob (by simpa using hb) e
  rcases hm with ⟨z1,rfl,z3⟩ | ⟨z1,ps,rfl,z3,z4,z5⟩ | ⟨z1,z2,z3,sl,rfl,z5,z6⟩
  ·have hpk:=pick_perm (w.params.setOrder a ep) es
   have hlen:(pickOrder (w.params.setOrder a ep) es).size = es.size:=by rw [<-Array.length_toList,hpk.length_eq,Array.length_toList]
   refine next_int (r:=none) hh S hia hi (fun Q' A' E' q=>?_) (fun y nx h' e1=>nomatch e1) (fun _ h' hs=>hQ h' s.toks (keep h' hs))
   unfold setNext setWalk
   refine wpAny_bind (wpAny_setState_of S.ho S.hd S.ft ?_)
   dsimp only
   refine wpAny_bind (byText_ok ?_)
   rw [z1,if_pos rfl,if_neg (by simp)]
   refine wpAny_bind (wpAny_bind (wpAny_setState_of S.ho S.hd S.ft ?_))
   dsimp only
   refine wpAny_bind (byText_ok ?_)
   rw [z1,if_pos rfl]
   refine wpAny_bind (wpAny_askSetting (wpAny_pure (wpAny_pure ?_)))
   show Q' (((pickOrder (w.params.setOrder a ep) es)[es.size]?).map fun e=>(e.2,0)) s
   rw [Array.getElem?_eq_none (by rw [hlen]; exact Nat.le_refl _)]
   exact q
  ·have hl:=z4.length_eq
   rw [List.length_range] at hl
   refine next_tup hh S hi z3 (fun p x h' e1 e2 e3 hs=>?_) (fun p hp=>List.mem_range.mp (z4.mem_iff.mp hp)) (fun _ h' hs=>hQ h' s.toks (keep h' hs))
   have:=(List.getElem?_eq_some_iff.mp e1).1
   omega
  ·refine next_int (r:=none) hh S hia hi (fun Q' A' E' q=>?_) (fun y nx h' e1=>nomatch e1) (fun _ h' hs=>hQ h' s.toks (keep h' hs))
   unfold setNext
   refine wpAny_bind (wpAny_setState_of S.ho S.hd S.ft ?_)
   dsimp only
   refine wpAny_bind (byText_ok ?_)
   rw [z1,if_neg (by decide)]
   show wpAny _ _ (if (!t.plain && decide (es.size > 1)) = true then _ else _) _ _ _
   rw [if_neg (by simp; intro _; omega)]
   show wpAny _ _ (do (if (!t.led && !es.isEmpty) = true then unsupported "set:maker-not-led" else pure ()); _) _ _ _
   rw [S.led,z1,if_neg (by simp)]
   refine wpAny_bind (wpAny_pure ?_)
   have hnone:es[SetTable.below t.place sl]? = none:=by
    by_cases h0:es.size = 0
    ·exact Array.getElem?_eq_none (by rw [h0]; exact Nat.zero_le _)
    ·obtain ⟨j,hj,rfl⟩:=z6 (by omega)
     rw [hj,below1]
     exact Array.getElem?_eq_none (by omega)
   rw [hnone]
   exact wpAny_pure q
 self:=fun i s Q E ⟨S,first,hi,hm⟩ h=>by
  have hT:s.TypeIs (.ref it) "set_iterator":=⟨_,hi,rfl⟩
  refine wpAny_pyIter_slot hT slot_si_iter (wpAny_call_entry slot_si_iter hT entry_si_iter ?_ (args_si_iter _))
  show wpAny _ _ (ret (.ref it)) _ _ s
  exact wpAny_pure ⟨_,rfl, "set_iterator",_,hT,slot_si_next.lookup,h⟩
theorem iter_set {Q:Value->Shared->Prop} (S:SAt w s.heap a o es ep t)
  (h:∀ (it T:Addr) (order:List Value) (h':Heap) (d:Drawn),it ≠ a->it ≠ T->(T = a\/s.heap.objs.size<=T)->s.heap.objs.size<=it->(∀ b ob,s.heap.get? b = some ob->h'.get? b = some ob)->order.Perm (es.toList.map (·.2))->SSt w a it T o es ep t order 0 h'->(∀ b ∈ [it,a,T],b < h'.objs.size) ->
   (∀ A':Around,A'.handled = none->Walks prog w A' it [it,a,T] [it] es.size (fun i v=>order[i]? = some v) (SSt w a it T o es ep t order))->Q (.ref it) { s with heap:=h',drawn:=d }):wpAny (model prog w) A (pyIter (.ref a)) Q E s:=by
 have hT:s.TypeIs (.ref a) "set":=⟨_,S.ho,S.ex.1⟩
 have ha:=Heap.lt_size S.ho
 refine wpAny_pyIter_slot hT F.slot_set_iter (wpAny_call_entry F.slot_set_iter hT entry_s_iter ?_ (F.args_set_iter_1 _))
 unfold Builtin.«frozenset.__iter__» Builtin.Frozenset.slot0 Builtin.Frozenset.sizeOf
 refine wpAny_bind (wpAny_bind (wpAny_of_eq (a:=(Value.ref a,[])) rfl ?_))
 dsimp only
 refine wpAny_of_eq (a:=a) rfl ?_
 refine wpAny_bind (wpAny_bind (wpAny_setEntries_of S.ho S.hd S.ft (wpAny_pure ?_)))
 have fin:∀ (first:Value) (T:Addr) (order:List Value) (h1:Heap) (d:Drawn),(∀ b ob,s.heap.get? b = some ob->h1.get? b = some ob)->s.heap.objs.size<=h1.objs.size->order.Perm (es.toList.map (·.2))->T < h1.objs.size->(T = a\/s.heap.objs.size<=T) ->
   (∀ h2:Heap,(∀ b ob,h1.get? b = some ob->h2.get? b = some ob)->Mode w a T es ep t order 0 h2 first) ->
   wpAny (model prog w) A.in1 (do let e <-setEpoch a; let x <-newFields "set_iterator" [first,rawInt 0,.ref a,rawInt (es.size:Nat),rawInt (e:Nat)]; ret x) (fun r s'=>∃ v,r = Fin.done (Flow.ret v)/\∃ T' r,s'.TypeIs v T'/\typeLookup (Value.type T') (Str.ofString "__next__") = pure (some r)/\Q v s') E { s with heap:=h1,drawn:=d }:=by
  intro first T order h1 d k hsz hp hTl hTa hm
  refine wpAny_bind (wpAny_setEpoch_of (s:={ s with heap:=h1,drawn:=d }) (k a o S.ho) S.hd S.ft ?_)
  refine wpAny_bind (wpAny_newObj_type ?_)
  have hg:(h1.push (sIt first 0 es.size ep a)).get? h1.objs.size = some (sIt first 0 es.size ep a):=Heap.get?_push_size _ rfl
  have k2:∀ b ob,h1.get? b = some ob->(h1.push (sIt first 0 es.size ep a)).get? b = some ob:=fun b ob e=>Heap.get?_push_of_some _ e
  have hia:h1.objs.size ≠ a:=fun e=>absurd (Nat.lt_of_lt_of_le ha hsz) (by rw [<-e]; exact Nat.lt_irrefl _)
  have hiT:h1.objs.size ≠ T:=fun e=>absurd hTl (by rw [<-e]; exact Nat.lt_irrefl _)
  refine wpAny_pure ⟨.ref h1.objs.size,rfl, "set_iterator",_,⟨_,hg,rfl⟩,slot_si_next.lookup,?_⟩
  refine h h1.objs.size T order (h1.push (sIt first 0 es.size ep a)) d hia hiT hTa hsz (fun b ob e=>k2 b ob (k b ob e)) hp ⟨S.at (k2 a o (k a o S.ho)),first,hg,hm _ k2⟩ (fun b hb=>?_) fun A' hh=>set_walks hh hia hiT
  rw [Heap.size_push]
  simp only [List.mem_cons,List.not_mem_nil,or_false] at hb
  rcases hb with rfl | rfl | rfl
  ·exact Nat.lt_succ_self _
  ·exact Nat.lt_succ_of_lt (Nat.lt_of_lt_of_le ha hsz)
  ·exact Nat.lt_succ_of_lt hTl
 unfold setDrawn
 refine wpAny_bind (wpAny_bind (wpAny_setState_of S.ho S.hd S.ft ?_))
 dsimp only
 refine wpAny_bind (byText_ok (wpAny_pure ?_))
 cases hb:w.params.followText "set-order" with
 | true =>
  show wpAny _ _ (if (!true && (!t.plain && decide (es.size > 1))) = true then _ else _) _ _ _
  rw [Bool.not_true,Bool.false_and,if_neg (by decide)]
  refine wpAny_bind (wpAny_pure ?_)
  exact fin _ a _ s.heap s.drawn (fun _ _ e=>e) (Nat.le_refl _) ((pick_perm _ es).map _) ha (.inl rfl) fun h2 _=>.inl ⟨hb,rfl,rfl⟩
 | false =>
  show wpAny _ _ (if (!false && (!t.plain && decide (es.size > 1))) = true then _ else _) _ _ _
  by_cases hdr:(!t.plain && decide (es.size > 1)) = true
  ·rw [Bool.not_false,Bool.true_and,if_pos hdr]
   refine wpAny_bind (draw_ok es.size (List.range es.size) s _ (List.length_range ..) fun ps d hp=>wpAny_bind ?_)
   unfold newTuple
   refine wpAny_newObj_type ?_ ?_
   ·have hg:(s.heap.push (tObj ps)).get? s.heap.objs.size = some (tObj ps):=Heap.get?_push_size _ rfl
    refine fin _ s.heap.objs.size (ps.filterMap fun p=>es[p]?.map (·.2)) (s.heap.push (tObj ps)) d (fun b ob e=>Heap.get?_push_of_some _ e) (by rw [Heap.size_push]; exact Nat.le_succ _) ?_ (by rw [Heap.size_push]; exact Nat.lt_succ_self _) (.inr (Nat.le_refl _)) fun h2 k2=>.inr (.inl ⟨hb,ps,rfl,k2 _ _ hg,hp,rfl⟩)
    refine (hp.filterMap _).trans (List.Perm.of_eq ?_)
    have:=filterMap_getElem?_range es
    rw [<-this,List.map_filterMap]
   ·have h1:=hp.length_eq
    have h2:=S.few
    rw [List.length_range] at h1
    show (List.map _ ps).toArray.size<=sizeLine
    rw [List.size_toArray,List.length_map,sizeLine_eq]
    omega
  ·rw [Bool.not_false,Bool.true_and,if_neg hdr]
   refine wpAny_bind (wpAny_pure ?_)
   have hle:es.size<=1:=by
    by_cases hp:t.plain = true
    ·have:=S.pln hp; omega
    ·have hp':t.plain = false:=by simpa using hp
     rw [hp'] at hdr
     simp at hdr
     omega
   exact fin _ a _ s.heap s.drawn (fun _ _ e=>e) (Nat.le_refl _) (.refl _) ha (.inl rfl) fun h2 _=>.inr (.inr ⟨hb,hle,rfl,0,rfl,fun _=>rfl,fun e=>absurd e (by decide)⟩)
end
end ST
namespace ST
open PySem
section
variable {prog:Program} {w:World} {A:Around} {E:Value->Shared->Prop} {s:Shared} {a:Addr} {o:Obj} {es:Array (Int × Value)} {ep:Nat} {t:SetTable}
theorem items_eq {order:List Value} {acc:Array Value} (h:ItemsOf (fun i v=>order[i]? = some v) acc order.length):acc.toList = order:=by
 refine List.ext_getElem? fun i=>?_
 rw [Array.getElem?_toList]
 by_cases hi:i < acc.size
 ·have e:acc[i]? = some acc[i]:=Array.getElem?_eq_some_iff.mpr ⟨hi,rfl⟩
  rw [e,h.2 i _ e]
 ·rw [Array.getElem?_eq_none (by omega),List.getElem?_eq_none (by have:=h.1; omega)]
theorem collect_set {Q:List Value->Shared->Prop} (hh:A.handled = none) (S:SAt w s.heap a o es ep t)
  (hQ:∀ s' acc,(∀ b ob,s.heap.get? b = some ob->s'.heap.get? b = some ob)->s'.gens = s.gens->s'.os = s.os->s.heap.objs.size < s'.heap.objs.size->acc.Perm (es.toList.map (·.2))->Q acc s'):wpAny (model prog w) A (collect (.ref a)) Q E s:=by
 have ha:=Heap.lt_size S.ho
 unfold collect
 refine wpAny_bind (wpAny_runValue (codeAny_builtin F.entry_proto_collect ?_))
 rw [Around.under_plainId F.plain_proto_collect _]
 show wpAny _ A.in1 (newList [] >>= fun l=>again (.builtin "list.__iadd__" ⟨[l,.ref a],[]⟩)) _ _ s
 refine wpAny_bind (wpAny_newObj_type ?_)
 refine wpAny_pure ⟨plainId_quiet F.plain_list_iadd _,codeAny_builtin F.entry_list_iadd ?_⟩
 rw [Around.under_plainId F.plain_list_iadd _]
 show wpAny _ A.in1 (Builtin.List.listExtendWith (.ref s.heap.objs.size) (.ref a) (.ref s.heap.objs.size)) _ _ _
 unfold Builtin.List.listExtendWith
 have hne:s.heap.objs.size ≠ a:=fun e=>absurd ha (by rw [<-e]; exact Nat.lt_irrefl _)
 generalize hH:s.heap.push { cls:=.type "list",data:=.seq ([]:List Value).toArray } = H
 have kH:∀ b ob,s.heap.get? b = some ob->H.get? b = some ob:=fun b ob e=>by rw [<-hH]; exact Heap.get?_push_of_some _ e
 have hHs:H.objs.size = s.heap.objs.size + 1:=by rw [<-hH,Heap.size_push]
 have hS:H.get? s.heap.objs.size = some { cls:=.type "list",data:=.seq ([]:List Value).toArray }:=by rw [<-hH]; exact Heap.get?_push_size _ rfl
 have hT:Shared.TypeIs { s with heap:=H } (.ref a) "set":=⟨o,kH a o S.ho,S.ex.1⟩
 refine wpAny_bind (wpAny_typeOf hT ?_)
 have h1:Builtin.List.listSameRef (.ref s.heap.objs.size) (.ref a) = false:=by simp [Builtin.List.listSameRef,hne]
 have h2:(Value.type "set" == Value.type "list") = false:=by decide
 have h3:(Value.type "set" == Value.type "tuple") = false:=by decide
 simp only [h1,h2,h3,Bool.or_false,Bool.false_eq_true,if_false]
 refine wpAny_bind (iter_set (s:={ s with heap:=H }) (S.at (kH a o S.ho)) fun it T order h' d hia hiT hTa hsz k hp st hlt W=>?_)
 have hT':Shared.TypeIs { s with heap:=h',drawn:=d } (.ref a) "set":=⟨o,k a o (kH a o S.ho),S.ex.1⟩
 refine wpAny_bind (wpAny_holding ?_)
 unfold Builtin.List.listLengthHint
 refine wpAny_bind (wpAny_specialOf hT' s_len ?_)
 wp_delta
 refine wpAny_bind (wpAny_isInstance hT' (b:=true) (by rw [isSubtype_type]; kernel_rfl) ?_)
 show wpAny _ A.in1 (typeOf (Value.ref a) >>= _) _ _ _
 refine wpAny_bind (wpAny_typeOf hT' ?_)
 refine wpAny_pure ?_
 rw [if_pos (by decide)]
 refine wpAny_bind (wpAny_rule ?_)
 have hS1:h'.get? s.heap.objs.size = some { cls:=.type "list",data:=.seq ([]:List Value).toArray }:=k _ _ hS
 refine wpAny_bind ?_
 show wpAny _ A.in1 (updateSeq s.heap.objs.size (·.push .none) >>= fun _=>updateSeq s.heap.objs.size (·.pop)) _ _ _
 refine wpAny_bind (wpAny_updateSeq hS1 rfl ?_)
 have hS2:=Heap.get?_update_self (Obj.mapSeq (·.push Value.none)) hS1 rfl
 refine wpAny_updateSeq hS2 rfl ?_
 have hS3:=Heap.get?_update_self (Obj.mapSeq (·.pop)) hS2 rfl
 have oth:∀ b ob,b ≠ s.heap.objs.size->h'.get? b = some ob->((h'.update s.heap.objs.size (Obj.mapSeq (·.push Value.none))).update s.heap.objs.size (Obj.mapSeq (·.pop))).get? b = some ob :=
  fun b ob hb e=>(Heap.get?_update_other _ _ (Ne.symm hb)).trans ((Heap.get?_update_other _ _ (Ne.symm hb)).trans e)
 have hSf:s.heap.objs.size ∉ [it,a,T]:=by
  have e1:s.heap.objs.size ≠ it:=fun e=>absurd hsz (by
   show ¬ H.objs.size<=it
   rw [hHs,<-e]; exact Nat.not_succ_le_self _)
  have e2:s.heap.objs.size ≠ T:=fun e=>by
   rcases hTa with z | z
   ·exact hne (e.trans z)
   ·exact absurd z (by
     show ¬ H.objs.size<=T
     rw [hHs,<-e]; exact Nat.not_succ_le_self _)
  simp only [List.mem_cons,List.not_mem_nil,or_false,not_or]
  exact ⟨e1,hne,e2⟩
 have hle:es.size = order.length:=by
  have:=hp.length_eq
  rw [List.length_map,Array.length_toList] at this
  exact this.symm
 have hfew:=S.few
 refine wpAny_pure ⟨plainId_quiet F.plain_extend_loop _,codeAny_extend_loopS (W A.in1 hh).toS (by rw [sizeLine_eq]; omega) _ hSf _ es.size 0 _ _ _ rfl (Nat.zero_le _)
  ((W A.in1 hh).frame 0 h' _ st fun b hb ob e=>oth b ob (fun z=>hSf (z ▸ hb)) e) hS3 (ItemsOf.nil _) fun s' acc' c' hm hS' hacc=>?_⟩
 show wpAny _ A (load s.heap.objs.size >>= _) _ _ s'
 refine wpAny_bind (wpAny_load hS' ?_)
 rw [hle] at hacc
 refine wpAny_pure (hQ s' acc'.toList (fun b ob e=>hm.heap b ob (fun hb=>?_) (oth b ob (fun z=>?_) (k b ob (kH b ob e)))) hm.gens hm.os (Heap.lt_size hS') (by rw [items_eq hacc]; exact hp))
 ·have hbl:=Heap.lt_size e
  rcases List.mem_cons.mp hb with z | z
  ·exact absurd hbl (by rw [z]; exact Nat.lt_irrefl _)
  ·rw [List.mem_singleton.mp z] at hbl
   have:H.objs.size<=it:=hsz
   rw [hHs] at this
   exact absurd (Nat.lt_of_lt_of_le hbl (Nat.le_of_succ_le this)) (Nat.lt_irrefl _)
 ·exact absurd (Heap.lt_size e) (by rw [z]; exact Nat.lt_irrefl _)
end
end ST
namespace ST
open PySem L2
theorem or_led (t:SetTable) (n:Nat):(t.orStandIn n).led = t.led:=by
 unfold SetTable.orStandIn
 split <;> rfl
theorem lay_led (t:SetTable) (es:Array (Int × Value)) (h:Int) (x:Value):(layNew t es h x).2.1.led = t.led:=by
 unfold layNew
 split
 ·rename_i sl wd e
  show ((t.put sl).1.orStandIn _).led = _
  rw [or_led]
  rfl
 ·rfl
theorem relaid_led {t t':SetTable} {hs:Array Int} {n:Nat} {ord:Array Nat} (h:t.relaid hs n = some (t',ord)):t'.led = t.led/\t'.plain = t.plain:=by
 unfold SetTable.relaid SetTable.laid at h
 cases e:SetTable.layClean (SetTable.sizeAbove n - 1) hs with
 | none=>rw [e] at h; cases h
 | some ow =>
  rw [e] at h
  cases h
  exact ⟨rfl,rfl⟩
theorem relay_led (t:SetTable) (es:Array (Int × Value)) (n:Nat) (hp:t.plain = false):(relayAll t es n).2.1.led = t.led/\(relayAll t es n).2.1.plain = false:=by
 unfold relayAll
 split
 ·rename_i t' ord e
  obtain ⟨e1,e2⟩:=relaid_led e
  dsimp only
  split
  ·exact ⟨e1,e2.trans hp⟩
  ·exact ⟨rfl,rfl⟩
 ·exact ⟨rfl,rfl⟩
noncomputable def keyS:Value->Str
 | .str x _=>x
 | _=>Str.empty
section
variable {prog:Program} {w:World} {A:Around} {E:Value->Shared->Prop} {s:Shared} {a:Addr}
structure TxtEs (w:World) (es:Array (Int × Value)) (ss:List Str):Prop where
 el:∀ e ∈ es.toList,∃ x tk,e = (hashStr w x,Value.str x tk)
 pm:(es.toList.map fun e=>keyS e.2).Perm ss
 nd:ss.Nodup
noncomputable def WS (w:World) (h:Heap) (a:Addr) (ss:List Str):Prop:=∃ o es ep t,SAt w h a o es ep t/\TxtEs w es ss
theorem TxtEs.elems {es:Array (Int × Value)} {ss:List Str} (h:TxtEs w es ss):ElemsOf (mixKind prog w) es.toList:=fun e he=>by
 obtain ⟨x,tk,rfl⟩:=h.el e he
 exact ⟨⟨.inr x,keyIs_str x tk,rfl⟩,rfl⟩
theorem TxtEs.mem {es:Array (Int × Value)} {ss:List Str} (h:TxtEs w es ss) (x:Str):x ∈ ss ↔ ∃ e ∈ es.toList,(mixKind prog w).is (.inr x) e.2 = true:=by
 rw [<-h.pm.mem_iff]
 constructor
 ·intro hm
  obtain ⟨e,he,rfl⟩:=List.mem_map.mp hm
  obtain ⟨y,tk,rfl⟩:=h.el e he
  exact ⟨_,he,keyIs_str y tk⟩
 ·rintro ⟨e,he,hk⟩
  obtain ⟨y,tk,rfl⟩:=h.el e he
  have:y = x:=by
   rcases keyIs_shape (show keyIs (.inr x) (.str y tk) = true from hk) with ⟨i,t,e1,e2⟩ | ⟨z,t,e1,e2⟩
   ·cases e2
   ·cases e1; cases e2; rfl
  subst this
  exact List.mem_map.mpr ⟨_,he,rfl⟩
theorem TxtEs.int {es:Array (Int × Value)} {ss:List Str} (h:TxtEs w es ss) (i:Int):¬ ∃ e ∈ es.toList,(mixKind prog w).is (.inl i) e.2 = true:=by
 rintro ⟨e,he,hk⟩
 obtain ⟨y,tk,rfl⟩:=h.el e he
 rcases keyIs_shape (show keyIs (.inl i) (.str y tk) = true from hk) with ⟨i,t,e1,e2⟩ | ⟨z,t,e1,e2⟩
 ·cases e2
 ·cases e1
theorem TxtEs.len {es:Array (Int × Value)} {ss:List Str} (h:TxtEs w es ss):es.size = ss.length:=by
 have:=h.pm.length_eq
 rw [List.length_map,Array.length_toList] at this; exact this
noncomputable def inS (ss:List Str):Key->Bool
 | .inl _=>false
 | .inr x=>decide (x ∈ ss)
theorem WS.setOf {h:Heap} {ss:List Str} (S:WS w h a ss):h.SetOf (mixKind prog w) a (inS ss) ss.length:=by
 obtain ⟨o,es,ep,t,S,T⟩:=S
 refine ⟨o,es,ep,t,S.ho,S.ex,S.hd,T.elems,fun k=>?_,S.few,S.ft,T.len⟩
 cases k with
 | inl i=>exact ⟨fun z=>Bool.noConfusion (show false = true from z),fun z=>absurd z (T.int i)⟩
 | inr x =>
  show decide (x ∈ ss) = true ↔ _
  rw [decide_eq_true_eq]
  exact T.mem x
theorem add_txt {ss:List Str} {x:Str} {tk:Tok} {Q:Bool->Shared->Prop} (S:WS w s.heap a ss) (hl:ss.length + 1 < 4096)
  (h:∀ h' b,Heap.SameBut a s.heap h'->WS w h' a (if x ∈ ss then ss else ss ++ [x])->Q b { s with heap:=h' }) :
  wpAny (model prog w) A (setAddHashed a (.str x tk) (hashStr w x)) Q E s:=by
 obtain ⟨o,es,ep,t,S,T⟩:=id S
 have hkey:(mixKind prog w).is (.inr x) (.str x tk) = true:=keyIs_str x tk
 have hsz:=T.len
 unfold setAddHashed setAddHashedIn
 refine wpAny_holding (wpAny_bind (wpAny_setState_of S.ho S.hd S.ft ?_))
 dsimp only
 rw [byScan_of (knd:=mixKind prog w) rfl S.few T.elems,if_pos rfl]
 unfold setAddByScan
 refine wpAny_bind (wpAny_bind (wpAny_rule ?_))
 refine wpAny_bind (wpAny_setScan_of hkey S.ho S.hd S.ft T.elems ?_)
 cases hr:List.findIdx? (fun e=>(mixKind prog w).is (.inr x) e.2) es.toList with
 | some j =>
  dsimp only
  obtain ⟨hj,hpj,_⟩:=List.findIdx?_eq_some_iff_getElem.mp hr
  have hx:x ∈ ss:=(T.mem (prog:=prog) x).mpr ⟨es.toList[j],List.getElem_mem hj,hpj⟩
  refine wpAny_pure (wpAny_pure ?_)
  have:=h s.heap false (Heap.SameBut.refl a s.heap) (by rw [if_pos hx]; exact ⟨o,es,ep,t,S,T⟩)
  exact this
 | none =>
  dsimp only
  have hx:¬ x ∈ ss:=fun hx=>by
   obtain ⟨e,he,hp⟩:=(T.mem (prog:=prog) x).mp hx
   have:=List.findIdx?_eq_none_iff.mp hr e he
   rw [hp] at this; exact Bool.noConfusion this
  have hgw:∀ (b:Bool) {s1:Shared} {Q':Unit->Shared->Prop},Q' () s1->wpAny (model prog w) A (match b with | true=>rule "set.scan.the-table-gave-way" | false=>pure ()) Q' E s1 :=
   fun b s1 Q' hq=>by cases b <;> first | exact wpAny_pure hq | exact wpAny_rule hq
  have hperm:=layNew_perm t es (hashStr w x) (.str x tk)
  have hfits:=layNew_fits t es (hashStr w x) (.str x tk)
  have hled:=lay_led t es (hashStr w x) (.str x tk)
  show wpAny _ _ (match layNew t es (hashStr w x) (.str x tk) with | (es,t,wasDummy,gave)=>_) _ _ _
  generalize layNew t es (hashStr w x) (.str x tk) = L at hperm hfits hled ⊢
  obtain ⟨es1,t1,wasDummy,gave⟩:=L
  dsimp only at hperm hfits hled ⊢
  rw [Array.toList_push] at hperm
  have hT1:∀ es2:Array (Int × Value),es2.toList.Perm es1.toList->TxtEs w es2 (ss ++ [x]):=fun es2 hp2=>by
   refine ⟨fun e he=>?_,?_,?_⟩
   ·rcases List.mem_append.mp (hperm.mem_iff.mp (hp2.mem_iff.mp he)) with z | z
    ·exact T.el e z
    ·exact ⟨x,tk,List.mem_singleton.mp z⟩
   ·refine ((hp2.trans hperm).map _).trans ?_
    rw [List.map_append]
    exact T.pm.append (.refl _)
   ·rw [List.nodup_append]
    refine ⟨T.nd,by simp,fun y hy z hz=>?_⟩
    rw [List.mem_singleton.mp hz]
    rintro rfl
    exact hx hy
  have hsz1:es1.size = ss.length + 1:=by
   have:=(hT1 es1 (.refl _)).len
   rw [List.length_append] at this; exact this
  refine wpAny_bind (hgw _ ?_)
  have key:∀ t2:SetTable,t2.led = t.led->t2.plain = false->t2.fits es1.size = true->wpAny (model prog w) A (do
    storeSet a es1 t2
    if (!wasDummy && t2.tooFull) = true then do
      (match (relayAll t2 es1 (SetTable.grown es1.size)).2.2 with | true=>rule "set.scan.the-table-gave-way" | false=>pure ())
      storeSet a (relayAll t2 es1 (SetTable.grown es1.size)).1 (relayAll t2 es1 (SetTable.grown es1.size)).2.1
      pure (some true)
     else pure (some true)) (fun r s'=>wpAny (model prog w) A (match r with | some added=>pure added | none=>setAddHashedIn a (.str x tk) (hashStr w x) 99999) Q E s') E s:=by
   intro t2 l2 p2 f2
   refine wpAny_bind (wpAny_storeSet_of S.ho S.hd ?_ (by rw [hsz1,sizeLine_eq]; omega))
   have ho1:=set_get S.ho S.hd es1 t2
   have sb1:=Heap.SameBut.update s.heap a (Obj.putSet es1 t2)
   split
   ·have hp:=relayAll_perm t2 es1 (SetTable.grown es1.size)
    have hf:=relayAll_fits t2 es1 (SetTable.grown es1.size)
    obtain ⟨hl3,hp3⟩:=relay_led t2 es1 (SetTable.grown es1.size) p2
    have hz2:(relayAll t2 es1 (SetTable.grown es1.size)).1.size = es1.size:=by rw [<-Array.length_toList,hp.length_eq,Array.length_toList]
    refine wpAny_bind (hgw _ ?_)
    refine wpAny_bind (wpAny_storeSet_of ho1 rfl ?_ (by rw [hz2,hsz1,sizeLine_eq]; omega))
    refine wpAny_pure (wpAny_pure (h _ true (sb1.trans (Heap.SameBut.update _ a _)) ?_))
    rw [if_neg hx]
    exact ⟨_,_,_,_,⟨set_get ho1 rfl _ _,S.ex,rfl,hf,hl3.trans (l2.trans S.led),(fun z=>by rw [hp3] at z; cases z),by rw [hz2,hsz1]; omega⟩,hT1 _ hp⟩
   ·refine wpAny_pure (wpAny_pure (h _ true sb1 ?_))
    rw [if_neg hx]
    exact ⟨_,es1,_,t2,⟨ho1,S.ex,rfl,f2,l2.trans S.led,(fun z=>by rw [p2] at z; cases z),by rw [hsz1]; omega⟩,hT1 _ (.refl _)⟩
  cases hpl:t1.plain with
  | true =>
   rw [if_pos rfl,hashByValue_scannable 8 (x:=Value.str x tk) rfl]
   refine wpAny_bind (wpAny_pure ?_)
   exact key { t1 with plain:=false } hled rfl (SetTable.fits_plain_off hfits)
  | false =>
   rw [if_neg (by decide)]
   refine wpAny_bind (wpAny_pure ?_)
   exact key t1 hled hpl hfits
end
end ST
namespace L2
open PySem PySem.Spec PyProof.Rows
noncomputable def SetW (w:World) (a:Addr) (ss:List Str):HO:=.ext fun h=>ST.WS w h a ss
section
variable {X:Cx} {pins:List (Addr × Obj)} {σ:St} {H:Hp} {s:Shared} {a:Addr} {ss:List Str}
theorem setwOk {P:Program} {w:World} {H:Hp} {h:Heap} (z:ST.WS w h a ss):ObjOk P w H h a (SetW w a ss) :=
 ⟨z,let ⟨o,_,_,_,S,_⟩:=z; ⟨o,S.ho⟩,fun h1 h2 ⟨o,es,ep,t,S,r⟩ k=>⟨o,es,ep,t,S.at (k o S.ho),r⟩⟩
theorem Inv.setw (I:Inv X pins σ H s) (e:H a = some (SetW X.w a ss)):ST.WS X.w s.heap a ss:=by
 obtain ⟨z,_⟩:=(show ObjOk X.prog X.w H s.heap a (SetW X.w a ss) from I.hok a _ e)
 exact z
noncomputable def addS (l:List Str) (x:Str):List Str:=if x ∈ l then l else l ++ [x]
noncomputable def rAddW (w:World):V->List V->Hp->VK->Prop:=fun x vs H Q=>∃ a l k,x = .ref a/\vs = [.str k]/\H a = some (SetW w a l)/\l.length + 1 < 4096/\Q .non (upd H a (SetW w a (addS l k)))
theorem WS.typeIs {ss:List Str} (z:ST.WS X.w s.heap a ss):s.TypeIs (.ref a) "set":=let ⟨o,_,_,_,S,_⟩:=z; ⟨o,S.ho,S.ex.1⟩
theorem mt_addW:MtM X "set.add" (rAddW X.w):=by
 intro pins s σ H x vs v us Q I rx rv h
 obtain ⟨a,l,k,rfl,rfl,hH,hz,q⟩:=h
 cases rx
 obtain ⟨u,rfl,⟨tk,rfl⟩⟩:=rv.one
 have z:=I.setw hH
 refine wpAny_call_entry F.slot_set_add (WS.typeIs z) F.entry_set_add ?_ (F.args_set_add_2 _ _)
 unfold Builtin.«set.add» Builtin.Frozenset.oneOther
 simp only [List.isEmpty_nil,bind_assoc]
 unfold Builtin.Frozenset.addrOf setAdd
 refine wpAny_bind (wpAny_pure ?_)
 try dsimp only
 refine wpAny_bind (wpAny_pure ?_)
 try dsimp only
 refine wpAny_bind ?_
 refine wpAny_holding ?_
 refine wpAny_bind (wpAny_pyHash_str ?_)
 refine ST.add_txt (s:={ s with toks:=s.toks + 1 }) z hz fun h' b hsb z'=>?_
 show wpAny _ _ (ret Value.none) _ _ _
 refine wpAny_pure ⟨_,rfl,.non,_,I.write (x:=a) (e:=a) (t':=s.toks + 1) (by rw [hH]; exact True.intro) (.inl rfl) (fun b q hb e=>(hsb.2 b hb).trans e) (let ⟨o,_,_,_,S,_⟩:=z'; ⟨o,S.ho⟩) (setwOk z'),rfl,q⟩
noncomputable def rInW (w:World) (neg:Bool):R2:=fun x y H Q=>∃ a l k,y = .ref a/\x = .str k/\H a = some (SetW w a l)/\Q (.bl (if neg then !decide (k ∈ l) else decide (k ∈ l))) H
theorem op_notIn_setw:OpR X (compareOp .NotIn) (rInW X.w true):=by
 intro pins s σ H x y v u Q I rx ry h
 obtain ⟨a,l,k,rfl,rfl,hH,q⟩:=h
 cases ry
 obtain ⟨tk,rfl⟩:=rx
 exact wpAny_notInSet_of (knd:=mixKind X.prog X.w) (k:=.inr k) (keyIs_str k tk) rfl (I.setw hH).setOf ⟨.bl (!decide (k ∈ l)),H,I.tok _,rfl,q⟩
end
theorem Inv.drawn {X:Cx} {pins:List (Addr × Obj)} {σ:St} {H:Hp} {s:Shared} (I:Inv X pins σ H s) (d:Drawn):Inv X pins σ H { s with drawn:=d } :=
 ⟨I.ok,I.os,I.bare,I.base,I.loc,I.cell,I.free,I.freeC,I.pin,I.hok,I.len⟩
section
variable {X:Cx}
theorem call_sortedW (hc:X.calm = true):CallR X (.builtin "sorted") (fun xs H Q=>∃ (p:Addr) (ss:List Str),xs = [.ref p]/\H p = some (SetW X.w p ss)/\∀ (l:Addr) (ss':List Str),H l = none->ss'.Perm ss->ss'.Pairwise leS->Q (.ref l) (upd H l (.lst (ss'.map V.str)))):=by
 intro pins s σ H xs us Q I r h
 obtain ⟨p,ss,rfl,hq,q⟩:=h
 obtain ⟨u,rfl,ru⟩:=vals1 r
 cases ru
 obtain ⟨o,es,ep,t,S,T⟩:=I.setw hq
 refine TS.sorted_gen (ST.collect_set (show X.A.in1.handled = none from I.ok.hd hc) S fun s1 its k1 g1 o1 tk1 hpi=>?_)
 have hS:∀ v ∈ its,∃ x tk,v = Value.str x tk:=fun v hv=>by
  obtain ⟨e,he,rfl⟩:=List.mem_map.mp (hpi.mem_iff.mp hv)
  obtain ⟨x,tk,rfl⟩:=T.el e he
  exact ⟨x,tk,rfl⟩
 have hstr:StrsAre its (its.map strOf):=by
  have:∀ l:List Value,(∀ v ∈ l,∃ x tk,v = Value.str x tk)->StrsAre l (l.map strOf):=by
   intro l
   induction l with
   | nil=>exact fun _=>.nil
   | cons v r ih =>
    intro h
    obtain ⟨x,tk,rfl⟩:=h v (List.mem_cons_self ..)
    exact .cons _ _ (ih fun u hu=>h u (List.mem_cons_of_mem _ hu))
  exact this its hS
 have hlen:its.length = es.size:=by rw [hpi.length_eq,List.length_map,Array.length_toList]
 have hfew:=S.few
 have hss:(its.map strOf).Perm ss:=by
  refine (hpi.map strOf).trans ?_
  rw [List.map_map]
  refine List.Perm.trans (List.Perm.of_eq ?_) T.pm
  refine List.map_congr_left fun e he=>?_
  obtain ⟨x,tk,rfl⟩:=T.el e he
  rfl
 refine ⟨o1,by rw [sizeLine_eq]; omega,strKind,oneType',fun s2 _=>TS.keys_strs hstr,fun out h' e ho k hg=>?_⟩
 obtain ⟨hp,hs⟩:=ho
 have hm:∀ v ∈ out.toList,∃ x t,v = .str x t:=fun v hv=>hS v (hp.mem_iff.mp hv)
 have hv:Vals ((out.toList.map strOf).map V.str) out.toList:=by
  have:∀ us:List Value,(∀ v ∈ us,∃ x t,v = .str x t)->Vals ((us.map strOf).map V.str) us:=by
   intro us
   induction us with
   | nil=>exact fun _=>.nil
   | cons v r ih =>
    intro h
    obtain ⟨x,t,rfl⟩:=h v (List.mem_cons_self ..)
    exact .cons ⟨t,rfl⟩ (ih fun u hu=>h u (List.mem_cons_of_mem _ hu))
  exact this _ hm
 have hperm:(out.toList.map strOf).Perm ss:=(hp.map strOf).trans hss
 have hpw:(out.toList.map strOf).Pairwise leS:=by
  rw [List.pairwise_map]
  refine (List.Pairwise.and_mem.mp hs).imp fun {u v} ⟨hu,hv',q⟩=>?_
  obtain ⟨x,t,rfl⟩:=hm u hu
  obtain ⟨y,t',rfl⟩:=hm v hv'
  have q':decide (y.cps.toList < x.cps.toList) = false:=q
  exact of_decide_eq_false q'
 have k0:∀ b o,s.heap.get? b = some o->h'.get? b = some o:=fun b o eb=>k b o (k1 b o eb)
 have hge:s.heap.objs.size<=s1.heap.objs.size:=Nat.le_of_lt tk1
 have hn:H s1.heap.objs.size = none:=I.hok.fresh hge
 obtain ⟨h1,g',d',t',o'⟩:=s1
 have eo:o' = s.os:=o1
 have eg:g' = s.gens:=g1
 subst eo; subst eg
 refine ⟨.ref h1.objs.size,upd H h1.objs.size (.lst ((out.toList.map strOf).map V.str)),?_,rfl,q _ _ hn hperm hpw⟩
 exact (I.laid (a:=h1.objs.size) (o:=.lst ((out.toList.map strOf).map V.str)) (t':=t') k0 hge ⟨by rw [List.length_map,List.length_map,hp.length_eq,sizeLine_eq]; omega,out.toList,e,hv,by simpa using hg⟩).drawn d'
end
end L2
namespace L2
open PySem PySem.Spec PyProof.Rows
noncomputable def SetT (P:Program) (w:World) (a:Addr) (ks:List (List Key × Addr)):HO:=.ext fun h=>ST.TSet (mixKind P w) h a ks
noncomputable def TupsIn (H:Hp) (ks:List (List Key × Addr)):Prop:=∀ q ∈ ks,H q.2 = some (.tup (q.1.map kV))
section
variable {X:Cx} {pins:List (Addr × Obj)} {σ:St} {H:Hp} {s:Shared} {a:Addr} {ks:List (List Key × Addr)}
theorem mix_flat (P:Program) (w:World):ST.Flat (mixKind P w):=fun v ⟨x,h⟩=>(mixKind P w).byValue x v h
theorem mix_scan (P:Program) (w:World):ST.Scan (mixKind P w):=fun v ⟨x,h⟩=>by
 rcases keyIs_shape (show keyIs x v = true from h) with ⟨i,t,_,rfl⟩ | ⟨y,t,_,rfl⟩ <;> rfl
theorem settOk {P:Program} {w:World} {H:Hp} {h:Heap} (z:ST.TSet (mixKind P w) h a ks):ObjOk P w H h a (SetT P w a ks) :=
 ⟨z,let ⟨o,_,_,_,e,_⟩:=z; ⟨o,e⟩,fun h1 h2 ⟨o,es,ep,t,e,r⟩ k=>⟨o,es,ep,t,k o e,r⟩⟩
theorem Inv.sett (I:Inv X pins σ H s) (e:H a = some (SetT X.prog X.w a ks)):ST.TSet (mixKind X.prog X.w) s.heap a ks:=by
 obtain ⟨z,_⟩:=(show ObjOk X.prog X.w H s.heap a (SetT X.prog X.w a ks) from I.hok a _ e)
 exact z
theorem call_set0T:CallR X (.type "set") (fun xs H Q=>xs = []/\∀ p,H p = none->Q (.ref p) (upd H p (SetT X.prog X.w p []))):=by
 intro pins s σ H xs us Q I r h
 obtain ⟨rfl,q⟩:=h
 cases r
 refine call_set_0 fun led=>⟨.ref s.heap.objs.size,_,I.laid (t':=s.toks) (fun b o e=>Heap.get?_push_of_some _ e) (Nat.le_refl _) (settOk ?_),rfl,q _ (I.hok.fresh (Nat.le_refl _))⟩
 exact ⟨_,#[],0,_,Heap.get?_push_size _ rfl,⟨rfl,rfl,rfl⟩,rfl,.refl _,⟨rfl,rfl,.inl rfl,by show 0 * 5 < 7 * 3; decide⟩⟩
noncomputable def rInT (P:Program) (w:World):R2:=fun x y H Q=>∃ a p ks k,y = .ref a/\x = .ref p/\H a = some (SetT P w a ks)/\H p = some (.tup (k.map kV))/\TupsIn H ks/\(∀ q ∈ ks,q.1 ≠ k)/\Q (.bl false) H
theorem op_in_sett (hu:X.A.units + 1 < cLine):OpR X (compareOp .In) (rInT X.prog X.w):=by
 intro pins s σ H x y v u Q I rx ry h
 obtain ⟨a,p,ks,k,rfl,rfl,hH,hp,ht,hn,q⟩:=h
 cases ry
 cases rx
 exact ST.in_free (neg:=false) hu (mix_flat _ _) (I.sett hH) (fun z hz=>key_of I.hok (ht z hz)) (key_of I.hok hp) hn ⟨.bl false,H,I.tok _,rfl,q⟩
noncomputable def rAddT (P:Program) (w:World):V->List V->Hp->VK->Prop:=fun x vs H Q=>∃ a p ks k,x = .ref a/\vs = [.ref p]/\H a = some (SetT P w a ks)/\H p = some (.tup (k.map kV))/\TupsIn H ks/\(∀ q ∈ ks,q.1 ≠ k)/\ks.length + 1<=300/\Q .non (upd H a (SetT P w a (ks ++ [(k,p)])))
theorem mt_addT (hu:X.A.units + 1 < cLine):MtM X "set.add" (rAddT X.prog X.w):=by
 intro pins s σ H x vs v us Q I rx rv h
 obtain ⟨a,p,ks,k,rfl,rfl,hH,hp,ht,hn,hl,q⟩:=h
 cases rx
 obtain ⟨u,rfl,ru⟩:=rv.one
 cases ru
 refine ST.call_add hu (mix_flat _ _) (mix_scan _ _) (I.sett hH) (fun z hz=>key_of I.hok (ht z hz)) (key_of I.hok hp) hn hl fun h' hs z=>?_
 exact ⟨.non,_,I.write (x:=a) (e:=a) (by rw [hH]; exact True.intro) (.inl rfl) (fun b q hb e=>(hs.2 b hb).trans e) (let ⟨o,_,_,_,e,_⟩:=z; ⟨o,e⟩) (settOk z),rfl,q⟩
end
section
variable {X:Cx}
theorem call_isin:CallR X (.builtin "isinstance") (fun xs H Q=>∃ x n t b,xs = [x,.ty n]/\TyOf X.K H x t/\PySem.W.kitOne X.K t (.type n) = some b/\Q (.bl b) H):=by
 intro pins s σ H xs us Q I r h
 obtain ⟨x,n,t,b,rfl,ht,he,q⟩:=h
 obtain ⟨u,v,rfl,ru,rv⟩:=r.two
 cases rv
 exact isinst_ok I ru ht he fun tk=>⟨.bl b,H,I.tok _,rfl,q⟩
end
end L2
namespace L2
open PySem PySem.Spec PyProof.Rows
mutual
noncomputable def Rp (K:PySem.W.Frag) (H:Hp):PyData->V->Prop
 | .none,v=>v = .non
 | .bool b,v=>v = .bl b
 | .int i,v=>v = .int i
 | .str x,v=>v = .str x
 | .list ds,v=>∃ a xs,v = .ref a/\SqL K H a xs/\Rps K H ds xs
 | .tuple ds,v=>∃ a xs,v = .ref a/\SqT K H a xs/\Rps K H ds xs
 | .dict _,_=>False
noncomputable def Rps (K:PySem.W.Frag) (H:Hp):List PyData->List V->Prop
 | [],vs=>vs = []
 | d :: ds,vs=>∃ v r,vs = v :: r/\Rp K H d v/\Rps K H ds r
end
section
variable {X:Cx} {pins:List (Addr × Obj)} {σ:St} {H:Hp} {s:Shared}
mutual
theorem Inv.reads (I:Inv X pins σ H s):∀ (d:PyData) (v:V) (u:Value),Rp X.K H d v->RelV v u->∃ as,Reads s.heap u d as
 | .none,v,u,h,r=>by
  cases (show v = .non by simpa [Rp] using h)
  cases r
  exact ⟨_,.none⟩
 | .bool b,v,u,h,r=>by
  cases (show v = .bl b by simpa [Rp] using h)
  cases r
  exact ⟨_,.bool b⟩
 | .int i,v,u,h,r=>by
  cases (show v = .int i by simpa [Rp] using h)
  obtain ⟨t,rfl⟩:=r
  exact ⟨_,.int i t⟩
 | .str x,v,u,h,r=>by
  cases (show v = .str x by simpa [Rp] using h)
  obtain ⟨t,rfl⟩:=r
  exact ⟨_,.str x t⟩
 | .list ds,v,u,h,r=>by
  obtain ⟨a,xs,e,hq,hs⟩:=(show ∃ a xs,v = V.ref a/\SqL X.K H a xs/\Rps X.K H ds xs by simpa [Rp] using h)
  subst e
  cases r
  obtain ⟨its,rv,⟨o,n,e,hc,hd,hda⟩,_⟩:=I.list hq
  obtain ⟨as,z⟩:=I.readsAll ds xs its hs rv
  exact ⟨_,.list e hc hda (by simpa using z)⟩
 | .tuple ds,v,u,h,r=>by
  obtain ⟨a,xs,e,hq,hs⟩:=(show ∃ a xs,v = V.ref a/\SqT X.K H a xs/\Rps X.K H ds xs by simpa [Rp] using h)
  subst e
  cases r
  obtain ⟨its,rv,⟨o,e,hc,n,hda⟩,_⟩:=I.tuple hq
  obtain ⟨as,z⟩:=I.readsAll ds xs its hs rv
  exact ⟨_,.tuple e hc hda (by simpa using z)⟩
 | .dict _,v,u,h,r=>by simp [Rp] at h
theorem Inv.readsAll (I:Inv X pins σ H s):∀ (ds:List PyData) (vs:List V) (us:List Value),Rps X.K H ds vs->Vals vs us->∃ as,ReadsAll s.heap us ds as
 | [],vs,us,h,r=>by
  cases (show vs = [] by simpa [Rps] using h)
  cases r
  exact ⟨_,.nil⟩
 | d :: ds,vs,us,h,r=>by
  obtain ⟨v,vr,e,h1,h2⟩:=(show ∃ v r,vs = v :: r/\Rp X.K H d v/\Rps X.K H ds r by simpa [Rps] using h)
  subst e
  cases r with
  | cons r1 r2 =>
   obtain ⟨as,z⟩:=I.reads d v _ h1 r1
   obtain ⟨bs,z'⟩:=I.readsAll ds vr _ h2 r2
   exact ⟨_,.cons z z'⟩
end
noncomputable def Pl (d:PyData):Prop:=d.canLay0 = true/\d.depth<=50
noncomputable def rEqD (K:PySem.W.Frag):R2:=fun x y H Q=>∃ d e,Rp K H d x/\Rp K H e y/\Pl d/\Pl e/\Q (.bl (PyData.eqv d e)) H
theorem op_eqD (hu:X.A.units + 64 < cLine):OpR X (compareOp .Eq) (rEqD X.K):=by
 intro pins s σ H x y v u Q I rx ry h
 obtain ⟨d,e,h1,h2,p1,p2,q⟩:=h
 obtain ⟨as,z1⟩:=I.reads d x v h1 rx
 obtain ⟨bs,z2⟩:=I.reads e y u h2 ry
 exact PySem.SeqAt.compareEq_reads z1 z2 p1.1 p2.1 (by have:=p1.2; have:=p2.2; omega) ⟨.bl (PyData.eqv d e),H,I,rfl,q⟩
noncomputable def rInD (K:PySem.W.Frag) (neg:Bool):R2:=fun x y H Q=>∃ d ds,Rp K H d x/\(Rp K H (.list ds) y\/Rp K H (.tuple ds) y)/\Pl d/\PyData.canLayAll0 ds = true/\Q (.bl (if neg then !(ds.any fun z=>PyData.eqv z d) else ds.any fun z=>PyData.eqv z d)) H
theorem op_inD (hu:X.A.units + 64 < cLine):OpR X (compareOp .In) (rInD X.K false):=by
 intro pins s σ H x y v u Q I rx ry h
 obtain ⟨d,ds,h1,h2,p1,p2,q⟩:=h
 obtain ⟨as,z1⟩:=I.reads d x v h1 rx
 have hu':X.A.units + 1 + min (PyData.depthAll ds) d.depth < cLine:=by have:=p1.2; omega
 rcases h2 with h2 | h2
 ·obtain ⟨bs,z2⟩:=I.reads (.list ds) y u h2 ry
  exact PySem.SeqAt.in_list_reads z2 z1 p2 p1.1 hu' ⟨.bl _,H,I,rfl,q⟩
 ·obtain ⟨bs,z2⟩:=I.reads (.tuple ds) y u h2 ry
  exact PySem.SeqAt.in_tuple_reads z2 z1 p2 p1.1 hu' ⟨.bl _,H,I,rfl,q⟩
theorem op_notInD (hu:X.A.units + 64 < cLine):OpR X (compareOp .NotIn) (rInD X.K true):=by
 intro pins s σ H x y v u Q I rx ry h
 obtain ⟨d,ds,h1,h2,p1,p2,q⟩:=h
 obtain ⟨as,z1⟩:=I.reads d x v h1 rx
 have hu':X.A.units + 1 + min (PyData.depthAll ds) d.depth < cLine:=by have:=p1.2; omega
 rcases h2 with h2 | h2
 ·obtain ⟨bs,z2⟩:=I.reads (.list ds) y u h2 ry
  exact PySem.SeqAt.notIn_list_reads z2 z1 p2 p1.1 hu' ⟨.bl _,H,I,rfl,q⟩
 ·obtain ⟨bs,z2⟩:=I.reads (.tuple ds) y u h2 ry
  exact PySem.SeqAt.notIn_tuple_reads z2 z1 p2 p1.1 hu' ⟨.bl _,H,I,rfl,q⟩
end
section
variable {X:Cx}
noncomputable def rSplit:V->List V->Hp->VK->Prop:=fun x vs H Q=>∃ z y ps,x = .str z/\vs = [.str y]/\(decide (z.length < y.length) || decide (Builtin.Str.strKind z < Builtin.Str.strKind y)) = false/\(y.length == 0) = false /\
 (Builtin.Str.occurrences z y 0 z.length (z.length + 1)).isEmpty = false/\z.length<=4000/\Builtin.Str.partsBetween z (Builtin.Str.occurrences z y 0 z.length (z.length + 1)) y.length = ps/\ps.length<=4000/\∀ l,H l = none->Q (.ref l) (upd H l (.lst (ps.map V.str)))
theorem vals_from:∀ (ps:List Str) (tk:Nat),Vals (ps.map V.str) (strsFrom tk ps)
 | [],_=>.nil
 | _ :: r,tk=>.cons ⟨tk,rfl⟩ (vals_from r (tk + 1))
theorem mt_split:MtM X "str.split" rSplit:=by
 intro pins s σ H x vs v us Q I rx rv h
 obtain ⟨z,y,ps,rfl,rfl,h1,h2,h3,h4,rfl,h6,q⟩:=h
 obtain ⟨t,rfl⟩:=rx
 obtain ⟨u,rfl,⟨tk,rfl⟩⟩:=rv.one
 have hz:z.length<=sizeLine:=by rw [sizeLine_eq]; omega
 have hp:(Builtin.Str.partsBetween z (Builtin.Str.occurrences z y 0 z.length (z.length + 1)) y.length).length<=sizeLine:=by rw [sizeLine_eq]; omega
 refine call_meets F.slot_str_split (typeIs_str _ _ _) F.entry_str_split (F.args_str_split_2 _ _) (PySem.meets_str_split_sep z y t tk h1 h2 h3 hz hp) ?_
 exact ⟨.ref s.heap.objs.size,_,I.lnew (vals_from _ _) (by rw [List.length_map]; exact hp),rfl,q _ I.fresh⟩
end
end L2
namespace L2
open PySem PySem.Spec PyProof.Rows
structure Fn (K:PySem.W.Frag) (mg:Str->Option Value) (x:Str) (st:Stmt) (ps:List Str) where
 f:Addr
 fd:FuncData
 F:Fun K x x st f fd
 b:Binds K fd ps []
 m:mg x = some (.ref f)
structure Mt (K:PySem.W.Frag) (C:Addr) (m qual:Str) (st:Stmt) (ps:List Str) where
 f:Addr
 fd:FuncData
 F:Fun K m qual st f fd
 b:Binds K fd ps []
 m:Meth K C m f
section
variable {X:Cx}
theorem pe_fn {x:Str} {st:Stmt} {ps:List Str} {k:Nat} {sp:Sp} {e:Expr} {es:List Expr} {t:TA} {p pos:Pos} (D:Fn X.K X.mg x st ps) (G:FnOk X.prog X.w X.K X.mg X.base CX0 k D.f D.fd ps sp) (hr:Room k X.A) (ha:PA X (e :: es) t)
  (hg:Gl X x:=by rfl) (hdb:(x == ("__debug__":Str)) = false:=by decide) (hs:starEach (e :: es) X.env = (false,eval e X.env) :: starEach es X.env:=by rfl) (hpl:(backTo pos (starEach es X.env)).any (·.1) = false:=by rfl) :
  PE X (.Call (.Name x p) (e :: es) [] pos) (tCall sp [] E0 t):=pe_call G hr hg D.m D.F.kp D.b .nil pass0 ha hdb hs hpl
noncomputable def SetLike (P:Program) (w:World) (x:V) (H:Hp):Prop:=∃ p,x = .ref p/\((∃ l,H p = some (SetS P w p l))\/(∃ l,H p = some (SetW w p l))\/∃ ks,H p = some (SetT P w p ks))
theorem set_is {pins:List (Addr × Obj)} {σ:St} {H:Hp} {s:Shared} {x:V} {v:Value} (I:Inv X pins σ H s) (r:RelV x v) (ty:SetLike X.prog X.w x H):s.TypeIs v "set"/\∀ a,v = .ref a->∃ ob,s.heap.get? a = some ob/\ob.dict = none:=by
 obtain ⟨p,rfl,h⟩:=ty
 cases r
 have z:∃ o,s.heap.get? p = some o/\o.ExactSet:=by
  rcases h with ⟨l,h⟩ | ⟨l,h⟩ | ⟨l,h⟩
  ·obtain ⟨o,_,_,_,e,ex,_⟩:=I.set h
   exact ⟨o,e,ex⟩
  ·obtain ⟨o,_,_,_,S,_⟩:=I.setw h
   exact ⟨o,S.ho,S.ex⟩
  ·obtain ⟨o,_,_,_,e,ex,_⟩:=I.sett h
   exact ⟨o,e,ex⟩
 obtain ⟨o,e,ex⟩:=z
 refine ⟨⟨o,e,ex.1⟩,fun a e2=>?_⟩
 cases e2
 exact ⟨o,e,ex.2.1⟩
noncomputable def tBMS (P:Program) (w:World) (r:V->List V->Hp->VK->Prop) (to:TE) (t:TA):TE:=fun σ H Q=>to σ H fun x H1=>SetLike P w x H1/\t σ H1 fun xs H2=>r x xs H2 Q
theorem pe_sadd {o e:Expr} {to:TE} {t:TA} {apos cpos:Pos} {r:V->List V->Hp->VK->Prop} (hm:MtM X "set.add" r) (ho:PE X o to) (ha:PA X [e] t)
  (hbase:attributeBase o "add" X.env (eval o X.env) = eval o X.env:=by rfl)
  (hfew:((backTo cpos (starEach [e] X.env)).all (fun x=>!x.1) && (backToKw cpos (keywordEach [] X.env)).all (fun x=>x.1.isSome)
   && decide ([e].length + ([]:List Keyword).length + (if ([]:List Keyword).isEmpty then 0 else 1) < 30)) = true:=by rfl)
  (hline:(apos.endLine == cpos.line) = true:=by rfl) (hs:starEach [e] X.env = [(false,eval e X.env)]:=by rfl) :
  PE X (.Call (.Attribute o "add" apos) [e] [] cpos) (tBMS X.prog X.w r to t):=by
 intro pins s σ H Q I h
 refine wpAny_Call_method_late hbase hfew hline rfl (thn (ho pins s σ H _ I h) fun v s1 ⟨x,H1,I1,r1,ty,q1⟩=>?_)
 obtain ⟨h1,h2⟩:=set_is I1 r1 ty
 refine ⟨"set", "set.add",F.plainAttrs_set,F.slot_set_add,F.type_set_add,h1,h2,?_⟩
 have hA:=ha cpos pins s1 σ H1 _ I1 q1
 rw [hs] at hA ⊢
 refine Calls.callWith_builtin rfl (Calls.evalArgs_plain ?_)
 exact thn hA fun us s2 ⟨vs,H2,I2,r2,q2⟩=>hm pins s2 σ H2 x vs v us Q I2 r1 r2 q2
theorem pe_gi {x:Str} {i:Int} {pos:Pos} (h:∃ t,X.mg x = some (.int i t)) (hg:Gl X x:=by rfl) (hd:(x == ("__debug__":Str)) = false:=by decide):PE X (.Name x pos) (tC (.int i)):=by
 obtain ⟨t,e⟩:=h
 exact pe_glob hg e ⟨t,rfl⟩ hd
theorem pe_gs {x y:Str} {pos:Pos} (h:∃ t,X.mg x = some (.str y t)) (hg:Gl X x:=by rfl) (hd:(x == ("__debug__":Str)) = false:=by decide):PE X (.Name x pos) (tC (.str y)):=by
 obtain ⟨t,e⟩:=h
 exact pe_glob hg e ⟨t,rfl⟩ hd
theorem pe_ty {x:Str} {n:String} {pos:Pos} (hm:X.mg x = none) (hv:bootBuiltins x = some (.type n)) (hg:Gl X x:=by rfl) (hn:x ≠ "__name__":=by decide) (hd:(x == ("__debug__":Str)) = false:=by decide):PE X (.Name x pos) (tC (.ty n)) :=
 pe_bltn hg hm hv rfl hn hd
theorem pe_bf {x:Str} {id:String} {r:List V->Hp->VK->Prop} {e:Expr} {es:List Expr} {t:TA} {p pos:Pos} (hc:CallR X (.builtin id) r) (hm:X.mg x = none) (hv:bootBuiltins x = some (.builtin id)) (ha:PA X (e :: es) t) (hg:Gl X x:=by rfl) (hn:x ≠ "__name__":=by decide) (hdb:(x == ("__debug__":Str)) = false:=by decide)
  (hs:starEach (e :: es) X.env = (false,eval e X.env) :: starEach es X.env:=by rfl) (hpl:(backTo pos (starEach es X.env)).any (·.1) = false:=by rfl):PE X (.Call (.Name x p) (e :: es) [] pos) (tCB r t):=pe_callB hc hg hm hv ha hn hdb hs hpl
theorem pe_bt {x:Str} {T:String} {r:List V->Hp->VK->Prop} {e:Expr} {es:List Expr} {t:TA} {p pos:Pos} (hc:CallR X (.type T) r) (hm:X.mg x = none) (hv:bootBuiltins x = some (.type T)) (ha:PA X (e :: es) t) (hg:Gl X x:=by rfl) (hn:x ≠ "__name__":=by decide) (hdb:(x == ("__debug__":Str)) = false:=by decide)
  (hs:starEach (e :: es) X.env = (false,eval e X.env) :: starEach es X.env:=by rfl) (hpl:(backTo pos (starEach es X.env)).any (·.1) = false:=by rfl):PE X (.Call (.Name x p) (e :: es) [] pos) (tCB r t):=pe_callTy hc hg hm hv ha hn hdb hs hpl
theorem cs_mk {scope:Scope} {cl:List (Str × Addr)} {N':List Str} {cap:List (Option Nat)} (caps:Caps X scope cl N' cap) (cin:ClIn X cl) (clos:closureFor scope X.env = pure cl:=by rfl) (kind:scope.kind = .function:=by rfl) (nocell:∀ y ∈ scope.names,y.2 ≠ .cell:=by decide +kernel)
  (loc:∀ y ∈ scope.names,y.2 = .local->scope.names.lookup y.1 = some .local:=by decide +kernel) (has:((relabel scope X.env).names.all fun y=>!(y.2 == .cell || y.2 == .free) || (cl.lookup y.1).isSome) = true:=by rfl):CScope X scope cl N' cap:=⟨kind,nocell,loc,clos,cin,has,caps⟩
theorem pgC {scope:Scope} {cl:List (Str × Addr)} {N':List Str} {pins:List (Addr × Obj)} {ex:List Addr} {s3:Shared} {H3:Hp} {x:Str} {pos:Pos} (i:Nat) (hN:N'.Nodup:=by decide +kernel) (hi:N'[i]? = some x:=by rfl) (hx:Loc (cxC X scope cl N' pins ex s3 H3).env.scope x:=by exact Or.inl rfl)
  (hf:(cxC X scope cl N' pins ex s3 H3).env.scope.names.lookup x = some .local:=by rfl):PG (cxC X scope cl N' pins ex s3 H3) (.Name x pos) (gName i):=pg_name (X:=cxC X scope cl N' pins ex s3 H3) hN hi hx (.inr hf)
end
theorem bt_len:bootBuiltins "len" = some (.builtin "len"):=by decide +kernel
theorem bt_enumerate:bootBuiltins "enumerate" = some (.type "enumerate"):=by decide +kernel
theorem bt_min:bootBuiltins "min" = some (.builtin "min"):=by decide +kernel
theorem bt_max:bootBuiltins "max" = some (.builtin "max"):=by decide +kernel
theorem bt_abs:bootBuiltins "abs" = some (.builtin "abs"):=by decide +kernel
theorem bt_sorted:bootBuiltins "sorted" = some (.builtin "sorted"):=by decide +kernel
theorem bt_int:bootBuiltins "int" = some (.type "int"):=by decide +kernel
theorem bt_str:bootBuiltins "str" = some (.type "str"):=by decide +kernel
theorem bt_bool:bootBuiltins "bool" = some (.type "bool"):=by decide +kernel
theorem bt_list:bootBuiltins "list" = some (.type "list"):=by decide +kernel
theorem bt_tuple:bootBuiltins "tuple" = some (.type "tuple"):=by decide +kernel
theorem bt_set:bootBuiltins "set" = some (.type "set"):=by decide +kernel
theorem bt_isinstance:bootBuiltins "isinstance" = some (.builtin "isinstance"):=by decide +kernel
theorem bt_all:bootBuiltins "all" = some (.builtin "all"):=by decide +kernel
end L2
namespace L2
open PySem PySem.Spec PyProof.Rows
noncomputable def KeepAt (a:Addr) (H0 H:Hp):Prop:=∀ o,H0 a = some o->H a = some o
noncomputable def Sm (D:List Addr) (H H':Hp):Prop:=∀ b o,H b = some o->b ∉ D->H' b = some o
theorem Same.at {H0 H:Hp} (h:Same H0 H) (a:Addr):KeepAt a H0 H:=fun o e=>h a o e
theorem Same.new {H:Hp} {p:Addr} {o:HO} (h:H p = none):Same H (upd H p o):=fun b u e=>by rw [upd_ne (ne_of_none e h)]; exact e
theorem Same.upd {H0 H:Hp} {p:Addr} {o:HO} (s:Same H0 H) (h:H0 p = none):Same H0 (upd H p o):=fun b u e=>by rw [upd_ne (ne_of_none e h)]; exact s b u e
theorem Same.sm {D:List Addr} {H H':Hp} (h:Same H H'):Sm D H H':=fun b o e _=>h b o e
theorem Sm.refl (D:List Addr) (H:Hp):Sm D H H:=fun _ _ e _=>e
theorem Sm.trans {D:List Addr} {H H1 H2:Hp} (a:Sm D H H1) (b:Sm D H1 H2):Sm D H H2:=fun c o h n=>b c o (a c o h n) n
theorem Sm.new {D:List Addr} {H H1:Hp} {p:Addr} {o:HO} (a:Sm D H H1) (h:H1 p = none):Sm D H (L2.upd H1 p o):=fun b u e n=>by
 have:=a b u e n
 rw [upd_ne (ne_of_none this h)]; exact this
theorem Sm.upd {D:List Addr} {H H1:Hp} {p:Addr} {o:HO} (a:Sm D H H1) (h:p ∈ D):Sm D H (L2.upd H1 p o):=fun b u e n=>by
 rw [upd_ne (show b ≠ p from fun z=>n (by rw [z]; exact h))]; exact a b u e n
theorem Sm.updN {D:List Addr} {H H1:Hp} {p:Addr} {o:HO} (a:Sm D H H1) (h:H p = none):Sm D H (L2.upd H1 p o):=fun b u e n=>by rw [upd_ne (ne_of_none e h)]; exact a b u e n
theorem Sm.at {D:List Addr} {H H':Hp} (h:Sm D H H') {a:Addr} (n:a ∉ D):KeepAt a H H':=fun o e=>h a o e n
theorem KeepAt.seqL {K:PySem.W.Frag} {H H':Hp} {a:Addr} {xs:List V} (e:KeepAt a H H') (h:SqL K H a xs):SqL K H' a xs:=by
 rcases h with (h | ⟨o,h⟩) | h
 ·exact .inl (.inl (e _ h))
 ·exact .inl (.inr ⟨o,e _ h⟩)
 ·exact .inr h
theorem KeepAt.seqT {K:PySem.W.Frag} {H H':Hp} {a:Addr} {xs:List V} (e:KeepAt a H H') (h:SqT K H a xs):SqT K H' a xs:=by
 rcases h with (h | ⟨o,h⟩) | h
 ·exact .inl (.inl (e _ h))
 ·exact .inl (.inr ⟨o,e _ h⟩)
 ·exact .inr h
noncomputable def Sqs (K:PySem.W.Frag) (H:Hp) (a:Addr) (xs:List V):Prop:=SqL K H a xs\/SqT K H a xs
theorem KeepAt.seq {K:PySem.W.Frag} {H H':Hp} {a:Addr} {xs:List V} (e:KeepAt a H H') (h:Sqs K H a xs):Sqs K H' a xs:=h.imp e.seqL e.seqT
structure AsSeq (J:It) (xs:List V) (a:Addr) (H0:Hp):Prop where
 go:∀ H i,KeepAt a H0 H->i < xs.length->J.go i H
 stop:∀ H,KeepAt a H0 H->J.stop xs.length H
 yld:∀ H i x H',KeepAt a H0 H->i < xs.length->J.yld i H x H'->H' = H/\xs[i]? = some x
theorem asL {K:PySem.W.Frag} {H0:Hp} {a:Addr} {xs:List V} (h:SqL K H0 a xs):AsSeq (Itl K a) xs a H0 :=
 ⟨fun H i k hi=>⟨xs,xs[i],k.seqL h,List.getElem?_eq_getElem hi⟩,fun H k=>⟨xs,k.seqL h,Nat.le_refl _⟩,fun H i x H' k hi ⟨e,y⟩=>⟨e,y xs (k.seqL h)⟩⟩
theorem for_J {J:It} {n:Nat} {g:TG} {tb:TS} {D:Ends} {σ:St} {H:Hp} (Pv:Nat->St->Hp->Prop) (h0:Pv 0 σ H) (hgo:∀ i σ H,i < n->Pv i σ H->J.go i H) (hst:∀ σ H,Pv n σ H->J.stop n H)
  (hs:∀ i σ H x H',i < n->Pv i σ H->J.yld i H x H'->g x σ H' fun σ2 H2=>tb { D with nx:=Pv (i + 1),ct:=Pv (i + 1),bk:=D.nx } σ2 H2) (hd:∀ σ H,Pv n σ H->D.nx σ H) :
  ∃ W:Nat->Nat->St->Hp->Prop,(∃ m,W 0 m σ H)/\∀ i m σ H,W i m σ H ->
   (J.stop i H/\D.nx σ H)\/(J.go i H/\∃ N:St->Hp->Prop,(∀ σ' H',N σ' H'->∃ m',m' < m/\W (i + 1) m' σ' H')/\∀ x H',J.yld i H x H'->g x σ H' fun σ2 H2=>tb { D with nx:=N,ct:=N,bk:=D.nx } σ2 H2):=by
 refine ⟨fun i m σ H=>m = n - i/\i<=n/\Pv i σ H,⟨n,by simp,Nat.zero_le _,h0⟩,?_⟩
 rintro i m σ H ⟨rfl,hi,p⟩
 by_cases hlt:i < n
 ·exact .inr ⟨hgo i σ H hlt p,Pv (i + 1),fun σ' H' p'=>⟨n - (i + 1),by omega,rfl,hlt,p'⟩,fun x H' y=>hs i σ H x H' hlt p y⟩
 ·have e:i = n:=by omega
  subst e
  exact .inl ⟨hst σ H p,hd σ H p⟩
theorem for_as {J:It} {xs:List V} {a:Addr} {H0:Hp} (as:AsSeq J xs a H0) {g:TG} {tb:TS} {D:Ends} {σ:St} {H:Hp} (Pv:Nat->St->Hp->Prop) (h0:Pv 0 σ H) (hk:∀ i σ H,i<=xs.length->Pv i σ H->KeepAt a H0 H)
  (hs:∀ i σ H x,xs[i]? = some x->Pv i σ H->g x σ H fun σ2 H2=>tb { D with nx:=Pv (i + 1),ct:=Pv (i + 1),bk:=D.nx } σ2 H2) (hd:∀ σ H,Pv xs.length σ H->D.nx σ H) :
  ∃ W:Nat->Nat->St->Hp->Prop,(∃ m,W 0 m σ H)/\∀ i m σ H,W i m σ H ->
   (J.stop i H/\D.nx σ H)\/(J.go i H/\∃ N:St->Hp->Prop,(∀ σ' H',N σ' H'->∃ m',m' < m/\W (i + 1) m' σ' H')/\∀ x H',J.yld i H x H'->g x σ H' fun σ2 H2=>tb { D with nx:=N,ct:=N,bk:=D.nx } σ2 H2) :=
 for_J (n:=xs.length) Pv h0 (fun i σ H hi p=>as.go H i (hk i σ H (Nat.le_of_lt hi) p) hi) (fun σ H p=>as.stop H (hk _ σ H (Nat.le_refl _) p)) (fun i σ H x H' hi p y=>by
  obtain ⟨rfl,e⟩:=as.yld H i x H' (hk i σ H (Nat.le_of_lt hi) p) hi y
  exact hs i σ _ x e p) hd
theorem loop_J {J:It} {n:Nat} {g:TG} {tc:TT} {em:TEm} {σ:St} {H:Hp} {Q:St->Hp->Prop} (Pv:Nat->St->Hp->Prop) (h0:Pv 0 σ H) (hgo:∀ i σ H,i < n->Pv i σ H->J.go i H) (hst:∀ σ H,Pv n σ H->J.stop n H)
  (hs:∀ i σ H x H' (N:St->Hp->Prop),i < n->Pv i σ H->J.yld i H x H'->(∀ σ' H',Pv (i + 1) σ' H'->N σ' H')->g x σ H' fun σ2 H2=>tc σ2 H2 fun b H3=>if b = true then em σ2 H3 N else N σ2 H3)
  (hd:∀ σ H,Pv n σ H->Q σ H):Loop g tc em J σ H Q:=by
 refine ⟨fun i m σ H=>m = n - i/\i<=n/\Pv i σ H,⟨n,by simp,Nat.zero_le _,h0⟩,?_⟩
 rintro i m σ H ⟨rfl,hi,p⟩
 by_cases hlt:i < n
 ·exact .inr ⟨hgo i σ H hlt p,fun x H' y=>hs i σ H x H' _ hlt p y fun σ3 H4 p'=>⟨n - (i + 1),by omega,rfl,hlt,p'⟩⟩
 ·have e:i = n:=by omega
  subst e
  exact .inl ⟨hst σ H p,hd σ H p⟩
theorem loop_as {J:It} {xs:List V} {a:Addr} {H0:Hp} (as:AsSeq J xs a H0) {g:TG} {tc:TT} {em:TEm} {σ:St} {H:Hp} {Q:St->Hp->Prop} (Pv:Nat->St->Hp->Prop) (h0:Pv 0 σ H) (hk:∀ i σ H,i<=xs.length->Pv i σ H->KeepAt a H0 H)
  (hs:∀ i σ H x (N:St->Hp->Prop),xs[i]? = some x->Pv i σ H->(∀ σ' H',Pv (i + 1) σ' H'->N σ' H')->g x σ H fun σ2 H2=>tc σ2 H2 fun b H3=>if b = true then em σ2 H3 N else N σ2 H3)
  (hd:∀ σ H,Pv xs.length σ H->Q σ H):Loop g tc em J σ H Q :=
 loop_J (n:=xs.length) Pv h0 (fun i σ H hi p=>as.go H i (hk i σ H (Nat.le_of_lt hi) p) hi) (fun σ H p=>as.stop H (hk _ σ H (Nat.le_refl _) p)) (fun i σ H x H' N hi p y hN=>by
  obtain ⟨rfl,e⟩:=as.yld H i x H' (hk i σ H (Nat.le_of_lt hi) p) hi y
  exact hs i σ _ x N e p hN) hd
theorem g_true {em:TEm} {N:St->Hp->Prop} {σ:St} {H:Hp} {i:Nat} {x:V} (h:em (σ.set i (some x)) H N):gName i x σ H fun σ2 H2=>tTrue σ2 H2 fun b H3=>if b = true then em σ2 H3 N else N σ2 H3:=by
 show if true = true then em (σ.set i (some x)) H N else N (σ.set i (some x)) H
 rw [if_pos rfl]
 exact h
end L2
namespace L2
open PySem PySem.Spec PyProof.Rows
section
variable {X:Cx} (K:PySem.W.Frag) (P:Program) (w:World) {tg:Expr}
theorem piL {l:Expr} {tl:TE} (hl:PE X l tl) (hK:X.K = K:=by rfl):PI X tg l (iList K tl):=by subst hK; exact pi_list hl
theorem piR1 {a:Expr} {ta:TA} {p pos:Pos} (hm:X.mg "range" = none) (ha:PA X [a] ta) (hg:Gl X "range":=by rfl) (hs:starEach [a] X.env = [(false,eval a X.env)]:=by rfl):PI X tg (.Call (.Name "range" p) [a] [] pos) (iRng1 ta):=pi_range1 hg hm ha hs
theorem pgT {es:List Expr} {k:Nat} {t:TGs} {n:Nat} {pos:Pos} (h:PGs X es t) (hc:X.calm = true:=by rfl) (hn:(assignEach es X.env).length = n:=by rfl) (hst:(assignEach es X.env).findIdx? (·.1) = none:=by rfl) (hK:X.K = K:=by rfl):PG X (.Tuple es k pos) (gTup K n t):=by subst hK; exact pg_tup hc h hn hst
theorem peF {e:Expr} {ta:TE} {f:Str} {pos:Pos} (he:PE X e ta) (hb:attributeBase e f X.env (eval e X.env) = eval e X.env:=by rfl) (hK:X.K = K:=by rfl):PE X (.Attribute e f pos) (tFld K ta f):=by subst hK; exact pe_fld he hb
theorem psF {o value:Expr} {ta tv:TE} {f:Str} {pos pos':Pos} (ha:PE X o ta) (hv:PE X value tv) (hs:swapsWith value (some (.Attribute o f pos')) pos.line X.env = pure false:=by rfl) (hK:X.K = K:=by rfl):PS X (.Assign [.Attribute o f pos'] value pos) (sFld K ta tv f):=by subst hK; exact ps_fld ha hv hs
theorem cl_len (hK:X.K = K:=by rfl):CallR X (.builtin "len") (fun xs H Q=>∃ p ys,xs = [.ref p]/\(SqL K H p ys\/SqT K H p ys)/\Q (.int ys.length) H):=by subst hK; exact call_len_seq
theorem cl_list (hK:X.K = K:=by rfl):CallR X (.type "list") (fun xs H Q=>∃ p ys,xs = [.ref p]/\(SqL K H p ys\/SqT K H p ys)/\∀ l,H l = none->Q (.ref l) (upd H l (.lst ys))):=by subst hK; exact call_list_of
theorem cl_all (hc:X.calm = true:=by rfl) (hK:X.K = K:=by rfl):CallR X (.builtin "all") (fun xs H Q=>∃ (p:Addr) (bs:List Bool),xs = [.ref p]/\SqL K H p (bs.map V.bl)/\Q (.bl (bs.all id)) H):=by subst hK; exact call_all hc
theorem cl_sortS (hK:X.K = K:=by rfl):CallR X (.builtin "sorted") (fun xs H Q=>∃ (p:Addr) (ss:List Str),xs = [.ref p]/\SqL K H p (ss.map V.str)/\∀ (l:Addr) (ss':List Str),H l = none->ss'.Perm ss->ss'.Pairwise leS->Q (.ref l) (upd H l (.lst (ss'.map V.str)))):=by subst hK; exact call_sortedS
theorem cl_sortP (hK:X.K = K:=by rfl):CallR X (.builtin "sorted") (fun xs H Q=>∃ (p:Addr) (ps:List PA2),xs = [.ref p]/\SqL K H p (ps.map fun q=>V.ref q.1)/\(∀ q ∈ ps,PairIn H q)/\∀ (l:Addr) (ps':List PA2),H l = none->ps'.Perm ps->ps'.Pairwise leP->Q (.ref l) (upd H l (.lst (ps'.map fun q=>V.ref q.1)))):=by subst hK; exact call_sortedP
theorem cl_sortW (hc:X.calm = true:=by rfl) (hw:X.w = w:=by rfl):CallR X (.builtin "sorted") (fun xs H Q=>∃ (p:Addr) (ss:List Str),xs = [.ref p]/\H p = some (SetW w p ss)/\∀ (l:Addr) (ss':List Str),H l = none->ss'.Perm ss->ss'.Pairwise leS->Q (.ref l) (upd H l (.lst (ss'.map V.str)))):=by subst hw; exact call_sortedW hc
theorem cl_isin (hK:X.K = K:=by rfl):CallR X (.builtin "isinstance") (fun xs H Q=>∃ x n t b,xs = [x,.ty n]/\TyOf K H x t/\PySem.W.kitOne K t (.type n) = some b/\Q (.bl b) H):=by subst hK; exact call_isin
theorem cl_set0 (hP:X.prog = P:=by rfl) (hw:X.w = w:=by rfl):CallR X (.type "set") (fun xs H Q=>xs = []/\∀ p,H p = none->Q (.ref p) (upd H p (SetS P w p []))):=by subst hP; subst hw; exact call_set0
theorem cl_set0T (hP:X.prog = P:=by rfl) (hw:X.w = w:=by rfl):CallR X (.type "set") (fun xs H Q=>xs = []/\∀ p,H p = none->Q (.ref p) (upd H p (SetT P w p []))):=by subst hP; subst hw; exact call_set0T
theorem o_inD (hu:X.A.units + 64 < cLine) (hK:X.K = K:=by rfl):OpR X (compareOp .In) (rInD K false):=by subst hK; exact op_inD hu
theorem o_notInD (hu:X.A.units + 64 < cLine) (hK:X.K = K:=by rfl):OpR X (compareOp .NotIn) (rInD K true):=by subst hK; exact op_notInD hu
theorem o_eqD (hu:X.A.units + 64 < cLine) (hK:X.K = K:=by rfl):OpR X (compareOp .Eq) (rEqD K):=by subst hK; exact op_eqD hu
theorem o_inL (hK:X.K = K:=by rfl):OpR X (compareOp .In) (rIn K false):=by subst hK; exact op_in_seq
theorem o_notInL (hK:X.K = K:=by rfl):OpR X (compareOp .NotIn) (rIn K true):=by subst hK; exact op_notIn_seq
theorem o_inS (hP:X.prog = P:=by rfl) (hw:X.w = w:=by rfl):OpR X (compareOp .In) (rInS P w false):=by subst hP; subst hw; exact op_in_set
theorem o_inT (hu:X.A.units + 1 < cLine) (hP:X.prog = P:=by rfl) (hw:X.w = w:=by rfl):OpR X (compareOp .In) (rInT P w):=by subst hP; subst hw; exact op_in_sett hu
theorem m_addS (hP:X.prog = P:=by rfl) (hw:X.w = w:=by rfl):MtM X "set.add" (rAddS P w):=by subst hP; subst hw; exact mt_add
theorem m_addT (hu:X.A.units + 1 < cLine) (hP:X.prog = P:=by rfl) (hw:X.w = w:=by rfl):MtM X "set.add" (rAddT P w):=by subst hP; subst hw; exact mt_addT hu
theorem peSadd {o e:Expr} {to:TE} {t:TA} {apos cpos:Pos} {r:V->List V->Hp->VK->Prop} (hm:MtM X "set.add" r) (ho:PE X o to) (ha:PA X [e] t)
  (hbase:attributeBase o "add" X.env (eval o X.env) = eval o X.env:=by rfl)
  (hfew:((backTo cpos (starEach [e] X.env)).all (fun x=>!x.1) && (backToKw cpos (keywordEach [] X.env)).all (fun x=>x.1.isSome)
   && decide ([e].length + ([]:List Keyword).length + (if ([]:List Keyword).isEmpty then 0 else 1) < 30)) = true:=by rfl)
  (hline:(apos.endLine == cpos.line) = true:=by rfl) (hs:starEach [e] X.env = [(false,eval e X.env)]:=by rfl) (hP:X.prog = P:=by rfl) (hw:X.w = w:=by rfl) :
  PE X (.Call (.Attribute o "add" apos) [e] [] cpos) (tBMS P w r to t):=by subst hP; subst hw; exact pe_sadd hm ho ha hbase hfew hline hs
theorem ixL (hK:X.K = K:=by rfl):IxR X (rIxL K):=by subst hK; exact ix_list
theorem ixT (hK:X.K = K:=by rfl):IxR X (rIxT K):=by subst hK; exact ix_tup
theorem slL (hK:X.K = K:=by rfl):SlR X (rSlL K):=by subst hK; exact sl_list
theorem ptV {a:Expr} {ta:TE} (ha:PE X a ta) (he:∀ whole,isTrue a X.env whole = (do let v <-whole; standAt a.pos; holding [v] (truthy v)):=by intro _; rfl) (hK:X.K = K:=by rfl):PT X a (fun σ H Q=>ta σ H fun x H'=>∃ k,TruV K x H' k/\Q k H'):=by subst hK; exact pt_truth ha he
theorem peBM {T id:String} {name:Str} {o e:Expr} {es:List Expr} {to:TE} {t:TA} {apos cpos:Pos} {r:V->List V->Hp->VK->Prop} (pa:PlainAttrs T) (slot:Slot T name id) (hty:typeOf (.builtin id) = pure (.type "method_descriptor")) (hm:MtM X id r) (ho:PE X o to) (ha:PA X (e :: es) t)
  (hbase:attributeBase o name X.env (eval o X.env) = eval o X.env:=by rfl)
  (hfew:((backTo cpos (starEach (e :: es) X.env)).all (fun x=>!x.1) && (backToKw cpos (keywordEach [] X.env)).all (fun x=>x.1.isSome)
   && decide ((e :: es).length + ([]:List Keyword).length + (if ([]:List Keyword).isEmpty then 0 else 1) < 30)) = true:=by rfl)
  (hline:(apos.endLine == cpos.line) = true:=by rfl) (hs:starEach (e :: es) X.env = (false,eval e X.env) :: starEach es X.env:=by rfl) (hplain:(backTo cpos (starEach es X.env)).any (·.1) = false:=by rfl) (hK:X.K = K:=by rfl) :
  PE X (.Call (.Attribute o name apos) (e :: es) [] cpos) (tBM K T r to t):=by subst hK; exact pe_bm pa slot hty hm ho ha hbase hfew hline hs hplain
theorem peBM0 {T id:String} {name:Str} {o:Expr} {to:TE} {apos cpos:Pos} {r:V->List V->Hp->VK->Prop} (pa:PlainAttrs T) (slot:Slot T name id) (hty:typeOf (.builtin id) = pure (.type "method_descriptor")) (hm:MtM X id r) (ho:PE X o to)
  (hbase:attributeBase o name X.env (eval o X.env) = eval o X.env:=by rfl) (hline:(apos.endLine == cpos.line) = true:=by rfl) (hK:X.K = K:=by rfl):PE X (.Call (.Attribute o name apos) [] [] cpos) (tBM0 K T r to):=by subst hK; exact pe_bm0 pa slot hty hm ho hbase hline
end
end L2
namespace L2
open PySem PySem.Spec PyProof.Rows
section
variable {prog:Program} {w:World} {A:Around} {E:Value->Shared->Prop} {s:Shared}
theorem collect_tup {t:Addr} {vs:List Value} {Q:List Value->Shared->Prop} (ht:IsTup s.heap t vs.toArray) (hsz:vs.length<=sizeLine) (h:∀ h',(∀ b u,s.heap.get? b = some u->h'.get? b = some u)->s.heap.objs.size<=h'.objs.size->Q vs { s with heap:=h' }):wpAny (model prog w) A (collect (.ref t)) Q E s:=by
 obtain ⟨o,ho,hc,n,hd⟩:=ht
 unfold collect
 refine wpAny_bind (wpAny_runValue (codeAny_builtin F.entry_proto_collect ?_))
 rw [show A.under _ = A.in1 from Around.under_plainId F.plain_proto_collect _]
 show wpAny _ A.in1 (newList [] >>= fun l=>again (.builtin "list.__iadd__" ⟨[l,.ref t],[]⟩)) _ _ s
 refine wpAny_bind (wpAny_newObj_type (wpAny_pure ⟨plainId_quiet F.plain_list_iadd _,codeAny_builtin F.entry_list_iadd ?_⟩))
 rw [show A.under _ = A.in1 from Around.under_plainId F.plain_list_iadd _]
 show wpAny _ A.in1 (Builtin.List.listExtendWith (.ref s.heap.objs.size) (.ref t) (.ref s.heap.objs.size)) _ _ _
 have g1:(s.heap.push { cls:=.type "list",data:=.seq ([]:List Value).toArray }).get? s.heap.objs.size = some { cls:=.type "list",data:=.seq #[] 0 }:=Heap.get?_push_size _ rfl
 have g2:=Heap.get?_update_self (Obj.mapSeq (· ++ vs.toArray)) g1 rfl
 have fin:wpAny (model prog w) A (match Value.ref s.heap.objs.size with
   | Value.ref a=>do
    match (<-load a).data with
     | Data.seq xs _=>pure xs.toList
     | _=>unsupported "internal:collect"
   | _=>unsupported "internal:collect") Q E { s with heap:=(s.heap.push { cls:=.type "list",data:=.seq ([]:List Value).toArray }).update s.heap.objs.size (Obj.mapSeq (· ++ vs.toArray)) }:=by
  show wpAny _ A (load s.heap.objs.size >>= _) _ _ _
  refine wpAny_bind (wpAny_load g2 (wpAny_pure ?_))
  show Q ((#[]:Array Value) ++ vs.toArray).toList _
  rw [show ((#[]:Array Value) ++ vs.toArray).toList = vs from by simp]
  exact h _ (fun b u hb=>(Heap.get?_update_other _ _ (Nat.ne_of_gt (Heap.lt_size hb))).trans (Heap.get?_push_of_some _ hb)) (by rw [Heap.size_update,Heap.size_push]; omega)
 refine wpAny_mono (wpAny_extend_seq (A:=A) (hsz:=by rw [List.size_toArray]; exact hsz) (R:=fun r s'=>r = .ok (.ret (.ref s.heap.objs.size))/\s' = { s with heap:=(s.heap.push { cls:=.type "list",data:=.seq ([]:List Value).toArray }).update s.heap.objs.size (Obj.mapSeq (· ++ vs.toArray)) })
  (s:={ s with heap:=s.heap.push { cls:=.type "list",data:=.seq ([]:List Value).toArray } }) _ t _ 0 (.inr rfl) g1 (Heap.get?_push_of_some _ ho) hc hd ⟨rfl,rfl⟩) (fun f s' z=>?_) (fun e s' z=>absurd z.1 (by simp))
 match f,z with
 | .done f,⟨e1,e2⟩=>subst e2; cases e1; exact fin
 | .again c,z=>exact ⟨z.1,codeAny_mono z.2 fun r s2 hr=>by obtain ⟨rfl,rfl⟩:=hr; exact fin⟩
end
section
variable {X:Cx}
theorem call_sortedQ:CallR X (.builtin "sorted") (fun xs H Q=>∃ (p:Addr) (ss:List Str),xs = [.ref p]/\Sqs X.K H p (ss.map V.str)/\∀ (l:Addr) (ss':List Str),H l = none->ss'.Perm ss->ss'.Pairwise leS->Q (.ref l) (upd H l (.lst (ss'.map V.str)))):=by
 intro pins s σ H xs us Q I r h
 obtain ⟨p,ss,rfl,hq,q⟩:=h
 rcases hq with hq | hq
 ·exact call_sortedS pins s σ H _ us Q I r ⟨p,ss,rfl,hq,q⟩
 obtain ⟨u,rfl,ru⟩:=vals1 r
 cases ru
 obtain ⟨its,rv,⟨o,ho,hc,n,hd⟩,hz⟩:=I.tuple hq
 have hS:=strsAre_of rv
 have hl:=rv.length
 refine TS.sorted_gen (collect_tup ⟨o,ho,hc,n,hd⟩ (by omega) fun h0 k0 hsz=>?_)
 refine ⟨rfl,by omega,strKind,oneType',fun s2 _=>TS.keys_strs hS,fun out h' e ho k hg=>?_⟩
 obtain ⟨hp,hs⟩:=ho
 have hm:∀ v ∈ out.toList,∃ x t,v = .str x t:=fun v hv=>hS.all v (hp.mem_iff.mp hv)
 have hv:Vals ((out.toList.map strOf).map V.str) out.toList:=by
  have:∀ us:List Value,(∀ v ∈ us,∃ x t,v = .str x t)->Vals ((us.map strOf).map V.str) us:=by
   intro us
   induction us with
   | nil=>exact fun _=>.nil
   | cons v r ih =>
    intro h
    obtain ⟨x,t,rfl⟩:=h v (List.mem_cons_self ..)
    exact .cons ⟨t,rfl⟩ (ih fun u hu=>h u (List.mem_cons_of_mem _ hu))
  exact this _ hm
 have hperm:(out.toList.map strOf).Perm ss:=by
  have:=hp.map strOf
  rwa [hS.strs] at this
 have hpw:(out.toList.map strOf).Pairwise leS:=by
  rw [List.pairwise_map]
  refine (List.Pairwise.and_mem.mp hs).imp fun {u v} ⟨hu,hv',q⟩=>?_
  obtain ⟨x,t,rfl⟩:=hm u hu
  obtain ⟨y,t',rfl⟩:=hm v hv'
  have q':decide (y.cps.toList < x.cps.toList) = false:=q
  exact of_decide_eq_false q'
 have hk0:∀ b o,s.heap.get? b = some o->h'.get? b = some o:=fun b o eb=>k b o (k0 b o eb)
 refine ⟨.ref h0.objs.size,upd H h0.objs.size (.lst ((out.toList.map strOf).map V.str)),?_,rfl,q _ _ (I.hok.fresh hsz) hperm hpw⟩
 refine I.laid (t':=s.toks) hk0 hsz ⟨?_,out.toList,e,hv,by simpa using hg⟩
 rw [List.length_map,List.length_map,hp.length_eq]
 omega
theorem isinst_tup {pins:List (Addr × Obj)} {σ:St} {H:Hp} {s:Shared} {A:Around} {E:Value->Shared->Prop} {Q:Value->Shared->Prop} {b:Bool} {x:V} {u t:Value} {tp:Addr} {its:List Value} (I:Inv X pins σ H s) (rx:RelV x u) (ty:TyOf X.K H x t) (htp:IsTup s.heap tp its.toArray) (e:PySem.W.kitAny X.K t its = some b) (hv:(∃ y,x = .str y)\/(∃ a xs,x = .ref a/\(H a = some (.lst xs)\/H a = some (.tup xs)))) (h:∀ tk,Q (.bool b) { s with toks:=tk }) :
  wpAny (model X.prog X.w) A (call (.builtin "isinstance") [u,.ref tp]) Q E s:=by
 obtain ⟨⟨oc,od,odt,osl⟩,ho,hc,n,hd⟩:=htp
 cases hc
 cases hd
 rcases hv with ⟨y,rfl⟩ | ⟨a,xs,rfl,ea | ea⟩
 ·cases ty
  obtain ⟨t,q⟩:=(show ∃ t,u = Value.str y t from rx)
  cases q
  exact PySem.W.kia_tup PySem.W.kitx_str I.kIn True.intro ho e (fun z=>nomatch z) h
 ·cases (show u = Value.ref a from rx)
  have hty:t = .type "list":=by cases ty with
   | lst=>rfl
   | frz=>rfl
   | tup ea'=>rw [ea] at ea'; cases ea'
   | dK ea'=>rw [ea] at ea'; cases ea'
   | dT ea'=>rw [ea] at ea'; cases ea'
   | ins ea'=>rw [ea] at ea'; cases ea'
  subst hty
  obtain ⟨_,_,n,_,h1⟩:=(show ObjOk X.prog X.w H s.heap a (.lst xs) from I.hok a _ ea)
  exact PySem.W.kia_tup PySem.W.kitx_list I.kIn ⟨_,h1,rfl⟩ ho e (fun z=>nomatch z) h
 ·cases (show u = Value.ref a from rx)
  have hty:t = .type "tuple":=by cases ty with
   | tup=>rfl
   | frz ea'=>rw [ea] at ea'; cases ea'
   | lst ea'=>rw [ea] at ea'; cases ea'
   | dK ea'=>rw [ea] at ea'; cases ea'
   | dT ea'=>rw [ea] at ea'; cases ea'
   | ins ea'=>rw [ea] at ea'; cases ea'
  subst hty
  obtain ⟨_,_,_,p⟩:=(show ObjOk X.prog X.w H s.heap a (.tup xs) from I.hok a _ ea)
  obtain ⟨o,h1,h2,_⟩:=p
  exact PySem.W.kia_tup PySem.W.kitx_tuple I.kIn ⟨o,h1,h2⟩ ho e (fun z=>nomatch z) h
noncomputable def isinT (K:PySem.W.Frag):List V->Hp->VK->Prop:=fun xs H Q=>∃ (x:V) (p:Addr) (ns:List String) (t:Value) (b:Bool),xs = [x,.ref p]/\H p = some (.tup (ns.map V.ty))/\TyOf K H x t/\((∃ y,x = .str y)\/(∃ a xs,x = .ref a/\(H a = some (.lst xs)\/H a = some (.tup xs))))/\PySem.W.kitAny K t (ns.map Value.type) = some b/\Q (.bl b) H
theorem vals_ty:∀ {ns:List String} {us:List Value},Vals (ns.map V.ty) us->us = ns.map Value.type
 | [],_,.nil=>rfl
 | _ :: _,_,.cons r t=>by rw [List.map_cons,vals_ty t]; cases r; rfl
theorem call_isinT:CallR X (.builtin "isinstance") (isinT X.K):=by
 intro pins s σ H xs us Q I r h
 obtain ⟨x,p,ns,t,b,rfl,hp,ht,hv,he,q⟩:=h
 obtain ⟨u,v,rfl,ru,rv⟩:=r.two
 cases rv
 obtain ⟨its,rv,pl,hz⟩:=I.tuple (SqT.of hp)
 rw [vals_ty rv] at pl
 exact isinst_tup I ru ht pl he hv fun tk=>⟨.bl b,H,I.tok _,rfl,q⟩
variable (K:PySem.W.Frag)
theorem cl_sortQ (hK:X.K = K:=by rfl):CallR X (.builtin "sorted") (fun xs H Q=>∃ (p:Addr) (ss:List Str),xs = [.ref p]/\Sqs K H p (ss.map V.str)/\∀ (l:Addr) (ss':List Str),H l = none->ss'.Perm ss->ss'.Pairwise leS->Q (.ref l) (upd H l (.lst (ss'.map V.str)))):=by subst hK; exact call_sortedQ
theorem cl_isinT (hK:X.K = K:=by rfl):CallR X (.builtin "isinstance") (isinT K):=by subst hK; exact call_isinT
end
end L2
namespace L2
open PySem PySem.Spec PyProof.Rows
section
variable {prog:Program} {w:World} {A:Around} {E:Value->Shared->Prop} {s:Shared} {it l:Addr} {i:Nat} {items:Array Value} {x:Value} {Q:Value->Shared->Prop}
theorem wp_stop {α:Type} {Q:α->Shared->Prop} (hA:A.handled = none) (h:∀ h' e,(∀ b o,s.heap.get? b = some o->h'.get? b = some o)->(∃ o,h'.get? e = some o/\o.cls = .type "StopIteration")->E (.ref e) { s with heap:=h' }):wpAny (model prog w) A (Builtin.SmallTypes.stopIteration (α:=α)) Q E s:=by
 refine wpAny_bind (wpAny_bind (wpAny_newTuple (wpAny_bind (wpAny_pure (wpAny_newObj_type ?_ (sizeOk_excFields ..)))) (by show 0<=sizeLine; decide)))
 refine wpAny_bind (wpAny_handled ?_)
 rw [hA]
 exact wpAny_throw (h _ _ (fun b o e=>Heap.get?_push_of_some _ (Heap.get?_push_of_some _ e)) ⟨_,Heap.get?_push_size _ rfl,rfl⟩)
theorem nextOf_tup_item (hit:s.heap.IsTupleIter it l i) (hl:s.heap.IsTuple l items) (hx:items[i]? = some x)
  (hQ:∀ h',h'.IsTupleIter it l (i + 1)->Heap.SameBut it s.heap h'->Q x { s with heap:=h' }):wpAny (model prog w) A (Builtin.SmallTypes.nextOf (.ref it)) Q E s:=by
 obtain ⟨o,ho,hc,hd⟩:=id hit
 obtain ⟨ol,hol,_,nl,hdl⟩:=hl
 refine wpAny_bind (wpAny_callSpecial?_slot hit.typeIs F.slot_tuple_iterator_next (wpAny_call_entry F.slot_tuple_iterator_next hit.typeIs F.entry_tuple_iterator_next ?_ (F.args_tuple_iterator_next_1 _)))
 refine wpAny_bind (wpAny_pure (wpAny_bind (wpAny_field ho hd rfl ?_)))
 refine wpAny_ite_false (c:=(Value.ref l == Value.none) = true) rfl ?_
 refine wpAny_bind (wpAny_field ho hd rfl (wpAny_bind (wpAny_seqItems hol hdl ?_)))
 dsimp only
 rw [show items[(i:Int).toNat]? = some x from hx]
 refine wpAny_bind (wpAny_setField ho hd (Nat.lt_succ_self 1) (wpAny_pure ⟨x,rfl,wpAny_pure (hQ _ ⟨_,Heap.get?_update_self _ ho (Obj.isFreed_of_fields (Obj.data_mapFields hd _)),(Obj.cls_mapFields o _).trans hc,(Obj.data_mapFields hd _).trans ?_⟩ (Heap.SameBut.update _ _ _))⟩))
 rfl
theorem nextOf_tup_end (hA:A.handled = none) (hit:s.heap.IsTupleIter it l i) (hl:s.heap.IsTuple l items) (hx:items[i]? = none)
  (hE:∀ h' e,Heap.ExtBut it s.heap h'->(∃ o,h'.get? e = some o/\o.cls = .type "StopIteration")->E (.ref e) { s with heap:=h' }):wpAny (model prog w) A (Builtin.SmallTypes.nextOf (.ref it)) Q E s:=by
 obtain ⟨o,ho,hc,hd⟩:=id hit
 obtain ⟨ol,hol,_,nl,hdl⟩:=hl
 refine wpAny_bind (wpAny_callSpecial?_slot hit.typeIs F.slot_tuple_iterator_next (wpAny_call_entry F.slot_tuple_iterator_next hit.typeIs F.entry_tuple_iterator_next ?_ (F.args_tuple_iterator_next_1 _)))
 refine wpAny_bind (wpAny_pure (wpAny_bind (wpAny_field ho hd rfl ?_)))
 refine wpAny_ite_false (c:=(Value.ref l == Value.none) = true) rfl ?_
 refine wpAny_bind (wpAny_field ho hd rfl (wpAny_bind (wpAny_seqItems hol hdl ?_)))
 dsimp only
 rw [show items[(i:Int).toNat]? = none from hx]
 refine wpAny_bind (wpAny_rule (wpAny_bind (wpAny_setField ho hd (Nat.zero_lt_succ 1) ?_)))
 exact wp_stop hA fun h' e k ho=>hE h' e (fun b o hb e=>k b o (((Heap.SameBut.update _ _ _).2 b hb).trans e)) ho
theorem wp_for2 {M:Model} {α β:Type} {a b:α} {i u v:β} {f:α->β->Sem (ForInStep β)} {Q:β->Shared->Prop} (h:wpAny M A (f a i) (fun r s'=>r = .yield u/\wpAny M A (f b u) (fun r s'=>r = .yield v/\Q v s') E s') E s):wpAny M A (forIn [a,b] i f) Q E s:=by
 rw [List.forIn_cons]
 refine wpAny_bind (wpAny_mono h (fun r s' z=>?_) fun e s' z=>z)
 obtain ⟨rfl,z⟩:=z
 show wpAny M A (forIn [b] u f) Q E s'
 rw [List.forIn_cons]
 refine wpAny_bind (wpAny_mono z (fun r s' z=>?_) fun e s' z=>z)
 obtain ⟨rfl,z⟩:=z
 exact wpAny_pure z
theorem zipT_next_item {z TI TO i1 i2 l1 l2:Addr} {k1 k2:Nat} {xs ys:Array Value} {x y a b:Value} (D:ZipApart z TI TO i1 i2 l1 l2) (hz:IsZip s.heap z TI TO .none) (hti:IsPair s.heap TI (.ref i1) (.ref i2)) (hto:IsPair s.heap TO a b)
  (h1:s.heap.IsTupleIter i1 l1 k1) (h2:s.heap.IsTupleIter i2 l2 k2) (g1:s.heap.IsTuple l1 xs) (g2:s.heap.IsTuple l2 ys) (hx:xs[k1]? = some x) (hy:ys[k2]? = some y)
  (hQ:∀ h',IsZip h' z TI TO (rawInt s.heap.objs.size)->IsPair h' TO x y->h'.IsTupleIter i1 l1 (k1 + 1)->h'.IsTupleIter i2 l2 (k2 + 1)->IsPair h' s.heap.objs.size x y->h'.objs.size = s.heap.objs.size + 1->(∀ c o,c ≠ z->c ≠ TO->c ≠ i1->c ≠ i2->s.heap.get? c = some o->h'.get? c = some o)->Q (.ref s.heap.objs.size) { s with heap:=h' }) :
  wpAny (model prog w) A (Builtin.«zip.__next__» ⟨[.ref z],[]⟩) (fun fin s'=>∃ v,fin = .done (.ret v)/\Q v s') E s:=by
 obtain ⟨h0,gg,dd,tt,oo⟩:=s
 refine wpAny_bind (wpAny_pure (wpAny_bind (wpAny_field hz rfl rfl (wpAny_bind (wpAny_field hz rfl rfl (wpAny_bind (wpAny_seqItems hti rfl ?_)))))))
 refine wpAny_ite_false rfl (wpAny_bind (wpAny_bind (wpAny_field hz rfl rfl (wpAny_pure (wpAny_ite_true rfl ?_)))))
 refine wpAny_bind (wpAny_rule (wpAny_bind (wpAny_field hz rfl rfl (wpAny_bind (wpAny_setField_rec hz (Nat.zero_lt_succ 4) fun h3 z3 s3=>?_)))))
 have a3:=h1.extBut s3.extBut D.i1z
 have b3:=h2.extBut s3.extBut D.i2z
 have c3:=g1.extBut s3.extBut D.l1z
 have d3:=g2.extBut s3.extBut D.l2z
 have e3:=(s3.2 TO D.TOz).trans hto
 refine wpAny_bind ?_
 rw [show (#[Value.ref i1,Value.ref i2].toList.zipIdx) = [(Value.ref i1,0),(Value.ref i2,1)] from rfl]
 refine wp_for2 (u:=(none,())) (v:=(none,())) ?_
 refine wpAny_bind (wpAny_onRaise (wpAny_ite_false rfl (wpAny_bind (nextOf_tup_item a3 c3 hx fun h4 a4 s4=>wpAny_pure ?_))))
 have e4:=(s4.2 TO D.TOi1).trans e3
 refine wpAny_bind (wpAny_seqItems e4 rfl (wpAny_bind (wpAny_updateSeq_pair e4 fun h5 e5 s5=>wpAny_bind (wpAny_letGo (wpAny_pure ⟨rfl,?_⟩)))))
 have b5:=(b3.extBut s4.extBut D.i12.symm).extBut s5.extBut D.TOi2.symm
 have d5:=(d3.extBut s4.extBut D.l2i1).extBut s5.extBut D.l2TO
 refine wpAny_bind (wpAny_onRaise (wpAny_ite_false rfl (wpAny_bind (nextOf_tup_item b5 d5 hy fun h6 b6 s6=>wpAny_pure ?_))))
 have e6:=(s6.2 TO D.TOi2).trans e5
 refine wpAny_bind (wpAny_seqItems e6 rfl (wpAny_bind (wpAny_updateSeq_pair e6 fun h7 e7 s7=>wpAny_bind (wpAny_letGo (wpAny_pure ⟨rfl,?_⟩)))))
 have z7:=(s7.2 z D.TOz.symm).trans ((s6.2 z D.i2z.symm).trans ((s5.2 z D.TOz.symm).trans ((s4.2 z D.i1z.symm).trans z3)))
 have hs:h7.objs.size = h0.objs.size:=s7.1.trans (s6.1.trans (s5.1.trans (s4.1.trans s3.1)))
 have n0:∀ {c:Addr} {o:Obj},h0.get? c = some o->c ≠ h7.objs.size:=fun e=>by rw [hs]; exact Nat.ne_of_lt (Heap.lt_size e)
 refine wpAny_bind (wpAny_seqItems e7 rfl (wpAny_bind (wpAny_newTuple (wpAny_bind (wpAny_bind (wpAny_setField_rec (Heap.get?_push_of_some _ z7) (Nat.zero_lt_succ 4) fun h8 z8 s8=>wpAny_setField_rec z8 (Nat.succ_lt_succ (Nat.zero_lt_succ 3)) fun h9 z9 s9=>wpAny_pure ⟨_,rfl,?_⟩))) (by show 2<=sizeLine; decide))))
 have k9:∀ {c:Addr} {o:Obj},c ≠ z->h7.get? c = some o->h9.get? c = some o:=fun nz e=>(s9.2 _ nz).trans ((s8.2 _ nz).trans (Heap.get?_push_of_some _ e))
 have sz9:h9.objs.size = h0.objs.size + 1:=s9.1.trans (s8.1.trans ((Heap.size_push ..).trans (congrArg (· + 1) hs)))
 have tk:h9.get? h7.objs.size = some ⟨.type "tuple",none,.seq #[x,y],#[]⟩:=(s9.2 _ (n0 hz).symm).trans ((s8.2 _ (n0 hz).symm).trans (Heap.get?_push_size _ rfl))
 rw [hs] at z9 tk ⊢
 refine hQ h9 z9 (k9 D.TOz e7) (a4.at fun o e=>?_) (b6.at fun o e=>?_) tk sz9 fun c o nz nt n1 n2 e=>k9 nz ?_
 ·exact k9 D.i1z ((s7.2 _ D.TOi1.symm).trans ((s6.2 _ D.i12).trans ((s5.2 _ D.TOi1.symm).trans e)))
 ·exact k9 D.i2z ((s7.2 _ D.TOi2.symm).trans e)
 ·exact (s7.2 _ nt).trans ((s6.2 _ n2).trans ((s5.2 _ nt).trans ((s4.2 _ n1).trans ((s3.2 _ nz).trans e))))
theorem zipT_next_end {z TI TO i1 i2 l1 l2:Addr} {k1:Nat} {xs:Array Value} {Q:PySem.Fin->Shared->Prop} (hA:A.handled = none) (D:ZipApart z TI TO i1 i2 l1 l2) (hz:IsZip s.heap z TI TO .none) (hti:IsPair s.heap TI (.ref i1) (.ref i2))
  (h1:s.heap.IsTupleIter i1 l1 k1) (g1:s.heap.IsTuple l1 xs) (hx:xs[k1]? = none)
  (hE:∀ h' e,(∀ c o,c ≠ z->c ≠ TO->c ≠ i1->c ≠ i2->s.heap.get? c = some o->h'.get? c = some o)->(∃ o,h'.get? e = some o/\o.cls = .type "StopIteration")->E (.ref e) { s with heap:=h' }) :
  wpAny (model prog w) A (Builtin.«zip.__next__» ⟨[.ref z],[]⟩) Q E s:=by
 obtain ⟨h0,gg,dd,tt,oo⟩:=s
 refine wpAny_bind (wpAny_pure (wpAny_bind (wpAny_field hz rfl rfl (wpAny_bind (wpAny_field hz rfl rfl (wpAny_bind (wpAny_seqItems hti rfl ?_)))))))
 refine wpAny_ite_false rfl (wpAny_bind (wpAny_bind (wpAny_field hz rfl rfl (wpAny_pure (wpAny_ite_true rfl ?_)))))
 refine wpAny_bind (wpAny_rule (wpAny_bind (wpAny_field hz rfl rfl (wpAny_bind (wpAny_setField_rec hz (Nat.zero_lt_succ 4) fun h3 z3 s3=>?_)))))
 refine wpAny_bind ?_
 rw [show (#[Value.ref i1,Value.ref i2].toList.zipIdx) = [(Value.ref i1,0),(Value.ref i2,1)] from rfl,List.forIn_cons]
 refine wpAny_bind (wpAny_bind (wpAny_onRaise (wpAny_ite_false rfl (wpAny_bind (nextOf_tup_end hA (h1.extBut s3.extBut D.i1z) (g1.extBut s3.extBut D.l1z) hx fun h4 e k4 ho=>?_)))))
 refine wpAny_setField_rec (k4 z _ D.i1z.symm z3) (Nat.zero_lt_succ 4) fun h5 z5 s5=>hE h5 e (fun c o nz _ n1 _ e=>(s5.2 _ nz).trans (k4 c o n1 ((s3.2 _ nz).trans e))) ?_
 obtain ⟨o,ho,hc⟩:=ho
 have ne:e ≠ z:=fun q=>by
  subst q
  rw [k4 e _ D.i1z.symm z3] at ho
  cases ho
  exact absurd (show Value.type "zip" = .type "StopIteration" from hc) (by decide)
 exact ⟨o,(s5.2 _ ne).trans ho,hc⟩
theorem zip_ty {z TI TO:Addr} {f0:Value} (hz:IsZip s.heap z TI TO f0):s.TypeIs (.ref z) "zip":=⟨_,hz,rfl⟩
theorem walksZT (hA:A.handled = none) (z TI TO i1 i2 l1 l2:Addr) (D:ZipApart z TI TO i1 i2 l1 l2) (xs ys:Array Value) (hl:xs.size<=ys.size) :
  WalksT prog w A z [z,TI,TO,i1,i2,l1,l2] [z,TO,i1,i2] xs.size (fun i vals=>∃ x y,xs[i]? = some x/\ys[i]? = some y/\vals = #[x,y])
   (fun i h=>IsZip h z TI TO .none/\IsPair h TI (.ref i1) (.ref i2)/\(∃ a b,IsPair h TO a b)/\h.IsTupleIter i1 l1 i/\h.IsTupleIter i2 l2 i/\h.IsTuple l1 xs/\h.IsTuple l2 ys)
   (fun i T h=>IsZip h z TI TO (rawInt T)/\IsPair h TI (.ref i1) (.ref i2)/\(∃ a b,IsPair h TO a b)/\h.IsTupleIter i1 l1 (i + 1)/\h.IsTupleIter i2 l2 (i + 1)/\h.IsTuple l1 xs/\h.IsTuple l2 ys/\T ≠ z/\T ≠ TO/\T ≠ i1/\T ≠ i2) where
 sub:=by simp
 frame:=fun i h h' ⟨h1,h2,⟨a,b,h3⟩,h4,h5,h6,h7⟩ k=>⟨k z (by simp) _ h1,k TI (by simp) _ h2,⟨a,b,k TO (by simp) _ h3⟩,h4.at (k i1 (by simp)),h5.at (k i2 (by simp)),h6.at (k l1 (by simp)),h7.at (k l2 (by simp))⟩
 item:=fun i s Q E hi ⟨h1,h2,⟨a,b,h3⟩,h4,h5,h6,h7⟩ hQ=>by
  have hx:xs[i]? = some xs[i]:=Array.getElem?_eq_getElem hi
  have hy:ys[i]? = some (ys[i]'(Nat.lt_of_lt_of_le hi hl)):=Array.getElem?_eq_getElem _
  refine wpAny_bind (wpAny_attempt (wpAny_callSpecial?_slot (zip_ty h1) F.slot_zip_next (wpAny_call_entry F.slot_zip_next (zip_ty h1) F.entry_zip_next (zipT_next_item D h1 h2 h3 h4 h5 h6 h7 hx hy fun h' z' o' a' b' t' sz k=>wpAny_pure ?_) (F.args_zip_next_1 _))))
  refine hQ _ _ h' s.toks ⟨_,_,hx,hy,rfl⟩ (Nat.le_refl _) ⟨_,t',rfl,_,rfl⟩ ⟨z',k TI _ D.TIz D.TITO D.TIi1 D.TIi2 h2,⟨_,_,o'⟩,a',b',h6.at fun o e=>k l1 o D.l1z D.l1TO D.l1i1 D.l1i2 e,h7.at fun o e=>k l2 o D.l2z D.l2TO D.l2i1 D.l2i2 e,?_,?_,?_,?_⟩ fun b o hb e=>?_
  ·exact (Nat.ne_of_lt (Heap.lt_size h1)).symm
  ·exact (Nat.ne_of_lt (Heap.lt_size h3)).symm
  ·obtain ⟨o,e,_⟩:=h4
   exact (Nat.ne_of_lt (Heap.lt_size e)).symm
  ·obtain ⟨o,e,_⟩:=h5
   exact (Nat.ne_of_lt (Heap.lt_size e)).symm
  ·simp only [List.mem_cons,List.not_mem_nil,or_false,not_or] at hb
   exact k b o hb.1 hb.2.1 hb.2.2.1 hb.2.2.2 e
 go:=fun elts k pos i T s Q E ⟨h1,h2,⟨a,b,h3⟩,h4,h5,h6,h7,_⟩ hQ=>wpAny_letOwnedTupleGo_zip h1 fun h' z' k'=>hQ h' ⟨z',(k'.2 _ D.TIz).trans h2,⟨a,b,(k'.2 _ D.TOz).trans h3⟩,h4.extBut k'.extBut D.i1z,h5.extBut k'.extBut D.i2z,h6.extBut k'.extBut D.l1z,h7.extBut k'.extBut D.l2z⟩ fun b o hb e=>(k'.2 b fun q=>hb (by rw [q]; exact List.mem_cons_self ..)).trans e
 apart:=fun i T h ⟨_,_,_,_,_,_,_,n1,n2,n3,n4⟩ hm=>by
  simp only [List.mem_cons,List.not_mem_nil,or_false] at hm
  rcases hm with e | e | e | e
  ·exact n1 e
  ·exact n2 e
  ·exact n3 e
  ·exact n4 e
 done:=fun s Q E ⟨h1,h2,⟨a,b,h3⟩,h4,h5,h6,h7⟩ hQ=>by
  have hx:xs[xs.size]? = none:=Array.getElem?_eq_none (Nat.le_refl _)
  refine wpAny_bind (wpAny_attempt (wpAny_callSpecial?_slot (zip_ty h1) F.slot_zip_next (wpAny_call_entry F.slot_zip_next (zip_ty h1) F.entry_zip_next (zipT_next_end hA D h1 h2 h4 h6 hx fun h' e k ho=>?_) (F.args_zip_next_1 _))))
  obtain ⟨o,ho,hc⟩:=ho
  refine wpAny_bind (wpAny_isInstance ⟨o,ho,hc⟩ isSubtype_stop (wpAny_pure (hQ h' s.toks fun b o hb e=>?_)))
  simp only [List.mem_cons,List.not_mem_nil,or_false,not_or] at hb
  exact k b o hb.1 hb.2.1 hb.2.2.1 hb.2.2.2 e
 self:=fun i s Q E ⟨h1,_⟩ q=>wpAny_pyIter_zip h1 q
end
end L2
namespace L2
open PySem PySem.Spec PyProof.Rows
section
variable {prog:Program} {w:World} {A:Around} {E:Value->Shared->Prop} {s:Shared}
theorem wp_newRecord {M:Model} {T:String} {vs:List Value} {Q:Value->Shared->Prop} (h:Q (.ref s.heap.objs.size) { s with heap:=s.heap.push { cls:=.type T,data:=.fields vs.toArray } }) (hs:sizeOk (.fields vs.toArray)):wpAny M A (Builtin.SmallTypes.newRecord (.type T) vs) Q E s:=wpAny_newObj_type h hs
theorem call_zipT {l1 l2:Addr} {xs ys:Array Value} {Q:Value->Shared->Prop} (g1:s.heap.IsTuple l1 xs) (g2:s.heap.IsTuple l2 ys)
  (hQ:∀ h',IsZip h' (s.heap.objs.size + 4) (s.heap.objs.size + 2) (s.heap.objs.size + 3) .none->IsPair h' (s.heap.objs.size + 2) (.ref s.heap.objs.size) (.ref (s.heap.objs.size + 1))->IsPair h' (s.heap.objs.size + 3) .none .none ->
   h'.IsTupleIter s.heap.objs.size l1 0->h'.IsTupleIter (s.heap.objs.size + 1) l2 0->(∀ c o,s.heap.get? c = some o->h'.get? c = some o)->Q (.ref (s.heap.objs.size + 4)) { s with heap:=h' }) :
  wpAny (model prog w) A (call (.type "zip") [.ref l1,.ref l2]) Q E s:=by
 refine callType_new (S:=fun A R s'=>s' = s/\∀ h',IsZip h' (s.heap.objs.size + 4) (s.heap.objs.size + 2) (s.heap.objs.size + 3) .none->IsPair h' (s.heap.objs.size + 2) (.ref s.heap.objs.size) (.ref (s.heap.objs.size + 1))->IsPair h' (s.heap.objs.size + 3) .none .none ->
   h'.IsTupleIter s.heap.objs.size l1 0->h'.IsTupleIter (s.heap.objs.size + 1) l2 0->(∀ c o,s.heap.get? c = some o->h'.get? c = some o)->R (.ok (.ret (.ref (s.heap.objs.size + 4)))) { s with heap:=h' }) F.called_zip rfl (F.typeCall_zip_2 _ _) (F.newCall_zip_2 _ _) (fun _=>F.args_object_init_3 _ _ _) F.entry_zip_new (.of_wp fun prog w A R s' hR=>?_) ⟨rfl,fun h' z1 z2 z3 z4 z5 k=>⟨⟨_,z1,rfl⟩,hQ h' z1 z2 z3 z4 z5 k⟩⟩
 obtain ⟨rfl,hR⟩:=hR
 obtain ⟨h0,gg,dd,tt,oo⟩:=s'
 refine wpAny_bind (wpAny_bind (wpAny_pure (wpAny_ite_false rfl (wpAny_bind (wpAny_of_eq sub_zip (wpAny_ite_false rfl (wpAny_pure ?_)))))))
 let h1:=h0.push { cls:=.type "tuple_iterator",data:=.fields #[.ref l1,.int 0 0] }
 let h2:=h1.push { cls:=.type "tuple_iterator",data:=.fields #[.ref l2,.int 0 0] }
 let h3:=h2.push { cls:=.type "tuple",data:=.seq #[.ref h0.objs.size,.ref h1.objs.size] }
 let h4:=h3.push { cls:=.type "tuple",data:=.seq #[.none,.none] }
 have e1:h1.objs.size = h0.objs.size + 1:=Heap.size_push ..
 have e2:h2.objs.size = h0.objs.size + 2:=(Heap.size_push ..).trans (congrArg (· + 1) e1)
 have e3:h3.objs.size = h0.objs.size + 3:=(Heap.size_push ..).trans (congrArg (· + 1) e2)
 have e4:h4.objs.size = h0.objs.size + 4:=(Heap.size_push ..).trans (congrArg (· + 1) e3)
 have g2':h1.IsTuple l2 ys:=g2.at fun o e=>Heap.get?_push_of_some _ e
 have p0:h1.get? h0.objs.size = some { cls:=.type "tuple_iterator",data:=.fields #[.ref l1,.int 0 0] }:=Heap.get?_push_size _ rfl
 have p1:h2.get? h1.objs.size = some { cls:=.type "tuple_iterator",data:=.fields #[.ref l2,.int 0 0] }:=Heap.get?_push_size _ rfl
 have p2:h3.get? h2.objs.size = some { cls:=.type "tuple",data:=.seq #[.ref h0.objs.size,.ref h1.objs.size] }:=Heap.get?_push_size _ rfl
 have p3:h4.get? h3.objs.size = some { cls:=.type "tuple",data:=.seq #[.none,.none] }:=Heap.get?_push_size _ rfl
 have u:∀ {h:Heap} {o:Obj} {c:Addr} {q:Obj},h.get? c = some q->(h.push o).get? c = some q:=fun e=>Heap.get?_push_of_some _ e
 refine wpAny_ite_false rfl (wpAny_bind (wpAny_bind (wp_for2 (u:=#[.ref h0.objs.size]) (v:=#[.ref h0.objs.size,.ref h1.objs.size]) (wpAny_bind (wpAny_holding (wpAny_pyIter_tuple g1 (wpAny_pure ⟨rfl,wpAny_bind (wpAny_holding (wpAny_pyIter_tuple g2' (wpAny_pure ⟨rfl,wpAny_pure ?_⟩)))⟩)))))))
 refine wpAny_bind (wpAny_newTuple (wpAny_bind (wpAny_newTuple (wpAny_bind (wp_newRecord (wpAny_pure ⟨_,rfl,?_⟩) ?_)) (by show 2<=sizeLine; decide))) (by show 2<=sizeLine; decide))
 ·have hz:=Heap.get?_push_size h4 (o:={ cls:=.type "zip",data:=.fields #[.none,.bool false,.bool false,.ref h2.objs.size,.ref h3.objs.size] }) rfl
  have q:=hR (h4.push { cls:=.type "zip",data:=.fields #[.none,.bool false,.bool false,.ref h2.objs.size,.ref h3.objs.size] })
  rw [show (Shared.mk h0 gg dd tt oo).heap.objs.size = h0.objs.size from rfl,<-e1,<-e2,<-e3,<-e4] at q
  exact q hz (u (u p2)) (u p3) ⟨_,u (u (u (u p0))),rfl,rfl⟩ ⟨_,u (u (u p1)),rfl,rfl⟩ fun c o e=>u (u (u (u (u e))))
 ·show 5<=sizeLine + 2
  decide
end
end L2
namespace L2
open PySem PySem.Spec PyProof.Rows
noncomputable def Itz2 (sq:Hp->Addr->List V->Prop) (a b:Addr):It :=
  ⟨fun i H=>∃ xs ys x y,sq H a xs/\sq H b ys/\xs.length<=ys.length/\xs[i]? = some x/\ys[i]? = some y,fun i H v H'=>∃ T x y,v = .ref T/\H T = none/\H' = upd H T (.tup [x,y])/\(∀ xs,sq H a xs->xs[i]? = some x)/\∀ ys,sq H b ys->ys[i]? = some y,
   fun i H=>∃ xs ys,sq H a xs/\sq H b ys/\xs.length<=ys.length/\xs.length = i⟩
noncomputable def ZipOn2 (isIt:Heap->Addr->Addr->Nat->Prop) (z TI TO i1 i2 a b:Addr) (i:Nat) (h:Heap):Prop:=IsZip h z TI TO .none/\IsPair h TI (.ref i1) (.ref i2)/\(∃ u v,IsPair h TO u v)/\isIt h i1 a i/\isIt h i2 b i
section
variable {P:Program} {w:World} {K:PySem.W.Frag} {elts:List Expr} {kk:Nat} {tp:Pos} {isIt:Heap->Addr->Addr->Nat->Prop} {isq:Heap->Addr->Array Value->Prop} {sq:Hp->Addr->List V->Prop}
theorem turn_zip2 (oI:∀ h c l i,isIt h c l i->∃ o,h.get? c = some o/\∀ v,o.data ≠ .cell v) (kI:∀ h h' c l i,isIt h c l i->(∀ o,h.get? c = some o->h'.get? c = some o)->isIt h' c l i)
  (gI:∀ (X:Cx) pins σ H s c xs,X.K = K->Inv X pins σ H s->sq H c xs->∃ its,Vals xs its/\isq s.heap c its.toArray) (uI:∀ (X:Cx) pins σ H s c xs ys,X.K = K->Inv X pins σ H s->sq H c xs->sq H c ys->xs = ys)
  (z TI TO i1 i2 a b:Addr) (WI:∀ (A:Around),A.handled = none->∀ xs ys:Array Value,xs.size<=ys.size->WalksT P w A z [z,TI,TO,i1,i2,a,b] [z,TO,i1,i2] xs.size (fun i vals=>∃ x y,xs[i]? = some x/\ys[i]? = some y/\vals = #[x,y])
   (fun i h=>IsZip h z TI TO .none/\IsPair h TI (.ref i1) (.ref i2)/\(∃ a b,IsPair h TO a b)/\isIt h i1 a i/\isIt h i2 b i/\isq h a xs/\isq h b ys)
   (fun i T h=>IsZip h z TI TO (rawInt T)/\IsPair h TI (.ref i1) (.ref i2)/\(∃ a b,IsPair h TO a b)/\isIt h i1 a (i + 1)/\isIt h i2 b (i + 1)/\isq h a xs/\isq h b ys/\T ≠ z/\T ≠ TO/\T ≠ i1/\T ≠ i2)) :
  Turn P w K (.Tuple elts kk tp) (Itz2 sq a b) [z,TI,TO,i1,i2] z (ZipOn2 isIt z TI TO i1 i2 a b) where
 mem:=List.mem_cons_self ..
 obj:=fun i h st c hc=>by
  obtain ⟨h1,h2,⟨u,v,h3⟩,h4,h5⟩:=st
  simp only [List.mem_cons,List.not_mem_nil,or_false] at hc
  rcases hc with rfl | rfl | rfl | rfl | rfl
  ·exact ⟨_,h1,fun v z=>by cases z⟩
  ·exact ⟨_,h2,fun v z=>by cases z⟩
  ·exact ⟨_,h3,fun v z=>by cases z⟩
  ·exact oI _ _ _ _ h4
  ·exact oI _ _ _ _ h5
 keep:=fun i h h' st k=>by
  obtain ⟨h1,h2,⟨u,v,h3⟩,h4,h5⟩:=st
  exact ⟨k z (by simp) _ h1,k TI (by simp) _ h2,⟨u,v,k TO (by simp) _ h3⟩,kI _ _ _ _ _ h4 (k i1 (by simp)),kI _ _ _ _ _ h5 (k i2 (by simp))⟩
 item:=by
  intro X hP hw hK hc i pins s σ H E I hf st hg
  subst hP hw
  obtain ⟨xs,ys,x,y,hq,hr,hle,hx,hy⟩:=hg
  obtain ⟨its,rv,p⟩:=gI _ _ _ _ _ _ _ hK I hq
  obtain ⟨jts,rw_,p'⟩:=gI _ _ _ _ _ _ _ hK I hr
  obtain ⟨u,hu,ru⟩:=rv.get hx
  obtain ⟨v,hv,rv'⟩:=rw_.get hy
  have hl:=rv.length
  have hl':=rw_.length
  have W:=WI X.A (I.ok.hd hc) its.toArray jts.toArray (by rw [List.size_toArray,List.size_toArray,<-hl,<-hl']; exact hle)
  have hi:i < its.toArray.size:=by rw [List.size_toArray]; exact (List.getElem?_eq_some_iff.mp hu).1
  obtain ⟨s1,s2,s3,s4,s5⟩:=id st
  refine W.item i s _ _ hi ⟨s1,s2,s3,s4,s5,p,p'⟩ fun T vals h' tk hvs hT ht hm k=>?_
  obtain ⟨x',y',hx',hy',rfl⟩:=hvs
  have ex:x' = u:=Option.some.inj (hx'.symm.trans ((List.getElem?_toArray ..).trans hu))
  have ey:y' = v:=Option.some.inj (hy'.symm.trans ((List.getElem?_toArray ..).trans hv))
  subst ex ey
  refine ⟨.ref T,rfl,W.go elts kk tp i T _ _ _ hm fun h2 st2 k2=>?_⟩
  have kk2:∀ b o,b ∉ [z,TI,TO,i1,i2]->s.heap.get? b = some o->h2.get? b = some o:=fun c o hc' ec=>by
   have n4:c ∉ [z,TO,i1,i2]:=fun m=>hc' (by
    simp only [List.mem_cons,List.not_mem_nil,or_false] at m ⊢
    exact m.imp_right .inr)
   exact k2 c o n4 (k c o n4 ec)
  have hT2:h2.IsTuple T #[x',y']:=ht.at fun o e=>k2 T o (W.apart i T h' hm) e
  have gone:∀ c ∈ [z,TI,TO,i1,i2],∃ ob,s.heap.get? c = some ob:=fun c hc'=>by
   obtain ⟨u3,v3,h3⟩:=s3
   obtain ⟨o4,h4,_⟩:=oI _ _ _ _ s4
   obtain ⟨o5,h5,_⟩:=oI _ _ _ _ s5
   simp only [List.mem_cons,List.not_mem_nil,or_false] at hc'
   rcases hc' with rfl | rfl | rfl | rfl | rfl
   ·exact ⟨_,s1⟩
   ·exact ⟨_,s2⟩
   ·exact ⟨_,h3⟩
   ·exact ⟨_,h4⟩
   ·exact ⟨_,h5⟩
  refine ⟨.ref T,upd H T (.tup [x,y]),I.turnLaid (fp:=[z,TI,TO,i1,i2]) kk2 hf gone hT ⟨?_,[x',y'],.cons ru (.cons rv' .nil),hT2⟩,rfl,⟨T,x,y,rfl,I.hok.fresh hT,rfl,fun zs hz=>by rw [uI _ _ _ _ _ _ _ _ hK I hz hq]; exact hx,fun zs hz=>by rw [uI _ _ _ _ _ _ _ _ hK I hz hr]; exact hy⟩,⟨st2.1,st2.2.1,st2.2.2.1,st2.2.2.2.1,st2.2.2.2.2.1⟩,fun c hc'=>?_⟩
  ·show 2<=sizeLine
   decide
  ·obtain ⟨ob,eb⟩:=gone c hc'
   rw [upd_ne (Nat.ne_of_lt (Nat.lt_of_lt_of_le (Heap.lt_size eb) hT))]
   exact (hf c hc').1
 done:=by
  intro X hP hw hK hc i pins s σ H E I hf st hg
  subst hP hw
  obtain ⟨xs,ys,hq,hr,hle,hx⟩:=hg
  obtain ⟨its,rv,p⟩:=gI _ _ _ _ _ _ _ hK I hq
  obtain ⟨jts,rw_,p'⟩:=gI _ _ _ _ _ _ _ hK I hr
  have hl:=rv.length
  have hl':=rw_.length
  have W:=WI X.A (I.ok.hd hc) its.toArray jts.toArray (by rw [List.size_toArray,List.size_toArray,<-hl,<-hl']; exact hle)
  have hi:i = its.toArray.size:=by rw [List.size_toArray,<-hl,hx]
  obtain ⟨s1,s2,s3,s4,s5⟩:=id st
  rw [hi] at s4 s5
  refine W.done s _ _ ⟨s1,s2,s3,s4,s5,p,p'⟩ fun h' tk k=>⟨rfl,?_⟩
  have nf:∀ b u,H b = some u->b ∉ [z,TI,TO,i1,i2]:=fun b u e hb=>by rw [(hf b hb).1] at e; cases e
  have k':∀ c o,c ∉ [z,TI,TO,i1,i2]->s.heap.get? c = some o->h'.get? c = some o:=fun c o hc' ec=>k c o (fun m=>hc' (by
    simp only [List.mem_cons,List.not_mem_nil,or_false] at m ⊢
    exact m.imp_right .inr)) ec
  refine I.step (h':=h') (H':=H) (t':=tk) (g':=s.gens) (d':=s.drawn) (ch:=[z,TI,TO,i1,i2]) (fun b hb=>let ⟨_,f1,_,f3,f4,f5⟩:=hf b hb; ⟨f3,f1,f4,f5⟩) (fun b ob _ _ hc e _=>k' b ob hc e) (fun b ob _ _ hc e _=>⟨ob.slots,k' b ob hc e⟩) (fun _ _ _ _ n=>n)
   (fun b ob hc e=>⟨ob,k' b ob hc e⟩) (fun _ _ e=>e) (fun _ _ _ e=>e) (fun b ps e=>⟨#[],by rw [e]; simp⟩) (fun m hm=>?_) (fun b u eb=>?_) I.bare
  ·obtain ⟨ob,es,ep,ho,r⟩:=hm
   exact ⟨ob,es,ep,k' _ ob (fun hb=>(hf _ hb).2.1 rfl) ho,r⟩
  ·refine (I.hok b u eb).stay (fun c v hc q=>k' c v ?_ q) (fun _ q=>q) fun _ _ q=>q
   rcases hc with z | z
   ·rw [z]; exact nf b u eb
   ·exact nf c _ z
 self:=fun A i s Q E st h=>wpAny_pyIter_zip st.1 h
theorem turn_zipL (z TI TO i1 i2 a b:Addr) (D:ZipApart z TI TO i1 i2 a b):Turn P w K (.Tuple elts kk tp) (Itz2 (SqL K) a b) [z,TI,TO,i1,i2] z (ZipOn2 Heap.IsListIter z TI TO i1 i2 a b) :=
 turn_zip2 (isq:=Heap.IsList) (fun h c l i ⟨o,e,_,d⟩=>⟨o,e,fun v z=>by rw [d] at z; cases z⟩) (fun h h' c l i z k=>z.at k) (fun X pins σ H s c xs hK I hq=>by subst hK; obtain ⟨its,rv,p,_⟩:=I.list hq; exact ⟨its,rv,p.isList⟩) (fun X pins σ H s c xs ys hK I hq hr=>by subst hK; exact I.list_inj hq hr)
  z TI TO i1 i2 a b fun A hA xs ys hl=>by
   have W:=WalksT.zip2 (prog:=P) (w:=w) hA z TI TO i1 i2 a b D xs ys
   rwa [Nat.min_eq_left hl] at W
theorem turn_zipT (z TI TO i1 i2 a b:Addr) (D:ZipApart z TI TO i1 i2 a b):Turn P w K (.Tuple elts kk tp) (Itz2 (SqT K) a b) [z,TI,TO,i1,i2] z (ZipOn2 Heap.IsTupleIter z TI TO i1 i2 a b) :=
 turn_zip2 (isq:=Heap.IsTuple) (fun h c l i ⟨o,e,_,d⟩=>⟨o,e,fun v z=>by rw [d] at z; cases z⟩) (fun h h' c l i z k=>z.at k) (fun X pins σ H s c xs hK I hq=>by subst hK; obtain ⟨its,rv,p,_⟩:=I.tuple hq; exact ⟨its,rv,p⟩) (fun X pins σ H s c xs ys hK I hq hr=>by subst hK; exact I.tuple_inj hq hr)
  z TI TO i1 i2 a b fun A hA xs ys hl=>walksZT hA z TI TO i1 i2 a b D xs ys hl
end
section
variable {X:Cx} {elts:List Expr} {kk:Nat} {tp:Pos}
noncomputable def zipR (K:PySem.W.Frag) (R:It->Hp->Prop) (a b:Addr) (xs ys:List V) (H:Hp):Prop:=SqL K H a xs/\SqL K H b ys/\R (Itz2 (SqL K) a b) H\/SqT K H a xs/\SqT K H b ys/\R (Itz2 (SqT K) a b) H
noncomputable def iZip2 (K:PySem.W.Frag) (ta:TA):TI:=fun σ H R=>ta σ H fun vs H1=>∃ a b xs ys,vs = [.ref a,.ref b]/\zipR K R a b xs ys H1
theorem bt_zip2:bootBuiltins "zip" = some (.type "zip"):=by decide +kernel
theorem pi_zip2 {a b:Expr} {ta:TA} {p pos:Pos} (hg:Gl X "zip") (hm:X.mg "zip" = none) (ha:PA X [a,b] ta) (hs:starEach [a,b] X.env = (false,eval a X.env) :: starEach [b] X.env:=by rfl) (hpl:(backTo pos (starEach [b] X.env)).any (·.1) = false:=by rfl):PI X (.Tuple elts kk tp) (.Call (.Name "zip" p) [a,b] [] pos) (iZip2 X.K ta):=by
 intro pins s σ H R I h
 refine Call_ (ld_blt I hg hm bt_zip2 (PyProof.Rows.callWith_type1 (thn (ha pos pins s σ H _ I h) fun us s1 ⟨vs,H1,I1,r1,q1⟩=>?_) hs hpl))
 obtain ⟨l,m,xs,ys,e,q⟩:=q1
 subst e
 obtain ⟨u,v,rfl,ru,rv⟩:=r1.two
 cases ru
 cases rv
 have fpk:∀ c ∈ [s1.heap.objs.size + 4,s1.heap.objs.size + 2,s1.heap.objs.size + 3,s1.heap.objs.size,s1.heap.objs.size + 1],FpOk X pins H1 c:=fun c hc=>by
  have hc':s1.heap.objs.size<=c:=by
   simp only [List.mem_cons,List.not_mem_nil,or_false] at hc
   rcases hc with rfl | rfl | rfl | rfl | rfl
   ·exact Nat.le_add_right ..
   ·exact Nat.le_add_right ..
   ·exact Nat.le_add_right ..
   ·exact Nat.le_refl _
   ·exact Nat.le_add_right ..
  exact I1.fpOk hc' (I1.hok.fresh hc')
 rcases q with ⟨hq,hr,q⟩ | ⟨hq,hr,q⟩
 ·obtain ⟨its,rx,pl,hz⟩:=I1.list hq
  obtain ⟨jts,ry,pm,hz'⟩:=I1.list hr
  have a1:l < s1.heap.objs.size:=by obtain ⟨_,e,_⟩:=pl.isList; exact Heap.lt_size e
  have a2:m < s1.heap.objs.size:=by obtain ⟨_,e,_⟩:=pm.isList; exact Heap.lt_size e
  refine call_zip_2 pl.isList pm.isList fun h' g1 g2 g3 g4 g5 hsz k=>wpAny_pyIter_zip g1 ?_
  exact ⟨s1.heap.objs.size + 4,_,_,_,H1,rfl,I1.kept (t':=s1.toks) k,turn_zipL _ _ _ _ _ l m (zipApart_new a1 a2),⟨g1,g2,⟨_,_,g3⟩,g4,g5⟩,fpk,q⟩
 ·obtain ⟨its,rx,pl,hz⟩:=I1.tuple hq
  obtain ⟨jts,ry,pm,hz'⟩:=I1.tuple hr
  have a1:l < s1.heap.objs.size:=by obtain ⟨_,e,_⟩:=id pl; exact Heap.lt_size e
  have a2:m < s1.heap.objs.size:=by obtain ⟨_,e,_⟩:=id pm; exact Heap.lt_size e
  refine call_zipT pl pm fun h' g1 g2 g3 g4 g5 k=>wpAny_pyIter_zip g1 ?_
  exact ⟨s1.heap.objs.size + 4,_,_,_,H1,rfl,I1.kept (t':=s1.toks) k,turn_zipT _ _ _ _ _ l m (zipApart_new a1 a2),⟨g1,g2,⟨_,_,g3⟩,g4,g5⟩,fpk,q⟩
variable (K:PySem.W.Frag)
theorem piZ2 {a b:Expr} {ta:TA} {p pos:Pos} (hm:X.mg "zip" = none) (ha:PA X [a,b] ta) (hg:Gl X "zip":=by rfl) (hs:starEach [a,b] X.env = (false,eval a X.env) :: starEach [b] X.env:=by rfl) (hpl:(backTo pos (starEach [b] X.env)).any (·.1) = false:=by rfl) (hK:X.K = K:=by rfl):PI X (.Tuple elts kk tp) (.Call (.Name "zip" p) [a,b] [] pos) (iZip2 K ta):=by subst hK; exact pi_zip2 hg hm ha hs hpl
end
end L2
namespace L2
open PySem PySem.Spec PyProof.Rows
section
variable {prog:Program} {w:World} {A:Around} {E:Value->Shared->Prop} {s:Shared} {e it l:Addr} {i:Nat} {items:Array Value} {x old:Value} {Q:Value->Shared->Prop}
theorem enumT_next_item (he:IsEnum s.heap e it (i:Int) old) (h1:s.heap.IsTupleIter it l i) (g1:s.heap.IsTuple l items) (hx:items[i]? = some x) (hei:e ≠ it)
  (hQ:∀ h',IsEnumOut h' e it ((i:Int) + 1) x s.heap.objs.size->h'.IsTupleIter it l (i + 1)->h'.get? s.heap.objs.size = some { cls:=.type "tuple",data:=.seq #[.int (i:Int) s.toks,x] }->(∀ b o,b ≠ e->b ≠ it->s.heap.get? b = some o->h'.get? b = some o)->Q (.ref s.heap.objs.size) { s with heap:=h',toks:=s.toks + 1 }) :
  wpAny (model prog w) A (Builtin.«enumerate.__next__» ⟨[.ref e],[]⟩) (fun fin s'=>∃ v,fin = .done (.ret v)/\Q v s') E s:=by
 obtain ⟨h0,gg,dd,tt,oo⟩:=s
 refine wpAny_bind (wpAny_pure (wpAny_bind (wpAny_field he rfl rfl (wpAny_bind (nextOf_tup_item h1 g1 hx fun h2 a2 s2=>?_)))))
 have e2:=(s2.2 e hei).trans he
 refine wpAny_bind (wpAny_field e2 rfl rfl (wpAny_bind (wpAny_field e2 rfl rfl (wpAny_ite_true rfl ?_))))
 refine wpAny_bind (wpAny_mkInt (wpAny_bind (wpAny_setField_rec e2 (Nat.le_of_ble_eq_true rfl) fun h3 e3 s3=>wpAny_bind (wpAny_setField_rec e3 (Nat.le_of_ble_eq_true rfl) fun h4 e4 s4=>?_))))
 have hs:h4.objs.size = h0.objs.size:=s4.1.trans (s3.1.trans s2.1)
 have n0:∀ {c:Addr} {o:Obj},h0.get? c = some o->c ≠ h4.objs.size:=fun e=>by rw [hs]; exact Nat.ne_of_lt (Heap.lt_size e)
 refine wpAny_bind (wpAny_newTuple ?_ (by show 2<=sizeLine; decide))
 have e5:=Heap.get?_push_of_some { cls:=.type "tuple",data:=.seq [.int (i:Int) tt,x].toArray } e4
 refine wpAny_bind (wpAny_bind (wpAny_field e5 rfl rfl (wpAny_pure (wpAny_ite_true rfl ?_))))
 refine wpAny_bind (wpAny_rule (wpAny_bind (wpAny_field e5 rfl rfl (wpAny_bind (wpAny_setField_rec e5 (Nat.le_of_ble_eq_true rfl) fun h6 e6 s6=>?_)))))
 refine wpAny_bind (wpAny_bind (wpAny_setField_rec e6 (Nat.le_of_ble_eq_true rfl) fun h7 e7 s7=>wpAny_setField_rec e7 (Nat.le_of_ble_eq_true rfl) fun h8 e8 s8=>wpAny_bind (wpAny_letGo (wpAny_pure ⟨_,rfl,?_⟩))))
 have k8:∀ {c:Addr} {o:Obj},c ≠ e->h4.get? c = some o->h8.get? c = some o:=fun nz z=>(s8.2 _ nz).trans ((s7.2 _ nz).trans ((s6.2 _ nz).trans (Heap.get?_push_of_some _ z)))
 have k4:∀ {c:Addr} {o:Obj},c ≠ e->h2.get? c = some o->h8.get? c = some o:=fun nz z=>k8 nz ((s4.2 _ nz).trans ((s3.2 _ nz).trans z))
 have tk:h8.get? h4.objs.size = some { cls:=.type "tuple",data:=.seq #[.int (i:Int) tt,x] }:=(s8.2 _ (n0 he).symm).trans ((s7.2 _ (n0 he).symm).trans ((s6.2 _ (n0 he).symm).trans (Heap.get?_push_size _ rfl)))
 rw [hs] at e8 tk ⊢
 exact hQ h8 e8 (a2.at fun o z=>k4 hei.symm z) tk fun b o nb ni z=>k4 nb ((s2.2 _ ni).trans z)
theorem enumT_next_end {Q:PySem.Fin->Shared->Prop} (hA:A.handled = none) (he:IsEnum s.heap e it (i:Int) old) (h1:s.heap.IsTupleIter it l i) (g1:s.heap.IsTuple l items) (hx:items[i]? = none)
  (hE:∀ h' z,Heap.ExtBut it s.heap h'->(∃ o,h'.get? z = some o/\o.cls = .type "StopIteration")->E (.ref z) { s with heap:=h' }) :
  wpAny (model prog w) A (Builtin.«enumerate.__next__» ⟨[.ref e],[]⟩) Q E s :=
 wpAny_bind (wpAny_pure (wpAny_bind (wpAny_field he rfl rfl (wpAny_bind (nextOf_tup_end hA h1 g1 hx hE)))))
theorem enum_ty (he:IsEnum s.heap e it (i:Int) old):s.TypeIs (.ref e) "enumerate":=⟨_,he,rfl⟩
theorem walksET (hA:A.handled = none) (e it l:Addr) (hei:e ≠ it) (hle:l ≠ e) (hli:l ≠ it) (items:Array Value) :
  WalksT prog w A e [e,it,l] [e,it] items.size (fun i vals=>∃ t x,items[i]? = some x/\vals = #[.int (i:Int) t,x])
   (fun i h=>(∃ old,IsEnum h e it (i:Int) old)/\h.IsTupleIter it l i/\h.IsTuple l items)
   (fun i T h=>(∃ x,IsEnumOut h e it ((i:Int) + 1) x T)/\h.IsTupleIter it l (i + 1)/\h.IsTuple l items/\T ≠ e/\T ≠ it) where
 sub:=by simp
 frame:=fun i h h' ⟨⟨old,h1⟩,h2,h3⟩ k=>⟨⟨old,k e (by simp) _ h1⟩,h2.at (k it (by simp)),h3.at (k l (by simp))⟩
 item:=fun i s Q E hi ⟨⟨old,h1⟩,h2,h3⟩ hQ=>by
  have hx:items[i]? = some items[i]:=Array.getElem?_eq_getElem hi
  refine wpAny_bind (wpAny_attempt (wpAny_callSpecial?_slot (enum_ty h1) F.slot_enumerate_next (wpAny_call_entry F.slot_enumerate_next (enum_ty h1) F.entry_enumerate_next (enumT_next_item h1 h2 h3 hx hei fun h' z' a' t' k=>wpAny_pure ?_) (F.args_enumerate_next_1 _))))
  refine hQ _ _ h' (s.toks + 1) ⟨_,_,hx,rfl⟩ (Nat.le_refl _) ⟨_,t',rfl,_,rfl⟩ ⟨⟨_,z'⟩,a',h3.at fun o z=>k l o hle hli z,?_,?_⟩ fun b o hb z=>?_
  ·exact (Nat.ne_of_lt (Heap.lt_size h1)).symm
  ·obtain ⟨o,z,_⟩:=h2
   exact (Nat.ne_of_lt (Heap.lt_size z)).symm
  ·simp only [List.mem_cons,List.not_mem_nil,or_false,not_or] at hb
   exact k b o hb.1 hb.2 z
 go:=fun elts k pos i T s Q E ⟨⟨x,h1⟩,h2,h3,_⟩ hQ=>wpAny_letOwnedTupleGo_enum h1 fun h' z' k'=>hQ h' ⟨⟨_,z'⟩,h2.extBut k'.extBut hei.symm,h3.extBut k'.extBut hle⟩ fun b o hb z=>(k'.2 b fun q=>hb (by rw [q]; exact List.mem_cons_self ..)).trans z
 apart:=fun i T h ⟨_,_,_,n1,n2⟩ hm=>by
  simp only [List.mem_cons,List.not_mem_nil,or_false] at hm
  rcases hm with z | z
  ·exact n1 z
  ·exact n2 z
 done:=fun s Q E ⟨⟨old,h1⟩,h2,h3⟩ hQ=>by
  have hx:items[items.size]? = none:=Array.getElem?_eq_none (Nat.le_refl _)
  refine wpAny_bind (wpAny_attempt (wpAny_callSpecial?_slot (enum_ty h1) F.slot_enumerate_next (wpAny_call_entry F.slot_enumerate_next (enum_ty h1) F.entry_enumerate_next (enumT_next_end hA h1 h2 h3 hx fun h' z k ho=>?_) (F.args_enumerate_next_1 _))))
  obtain ⟨o,ho,hc⟩:=ho
  refine wpAny_bind (wpAny_isInstance ⟨o,ho,hc⟩ isSubtype_stop (wpAny_pure (hQ h' s.toks fun b o hb z=>?_)))
  simp only [List.mem_cons,List.not_mem_nil,or_false,not_or] at hb
  exact k b o hb.2 z
 self:=fun i s Q E ⟨⟨_,h1⟩,_⟩ q=>wpAny_pyIter_enum h1 q
theorem wp_ite {M:Model} {α:Type} {c:Prop} [Decidable c] {a b:Sem α} {Q:α->Shared->Prop} (h1:wpAny M A a Q E s) (h2:wpAny M A b Q E s):wpAny M A (if c then a else b) Q E s:=by
 by_cases h:c
 ·rw [if_pos h]; exact h1
 ·rw [if_neg h]; exact h2
theorem call_enumT (g1:s.heap.IsTuple l items)
  (hQ:∀ h',IsEnum h' (s.heap.objs.size + 1) s.heap.objs.size 0 .none->h'.IsTupleIter s.heap.objs.size l 0->(∀ b o,s.heap.get? b = some o->h'.get? b = some o)->Q (.ref (s.heap.objs.size + 1)) { s with heap:=h' }) :
  wpAny (model prog w) A (call (.type "enumerate") [.ref l]) Q E s:=by
 refine callType_new (S:=fun A R s'=>s' = s/\∀ h',IsEnum h' (s.heap.objs.size + 1) s.heap.objs.size 0 .none->h'.IsTupleIter s.heap.objs.size l 0->(∀ b o,s.heap.get? b = some o->h'.get? b = some o)->R (.ok (.ret (.ref (s.heap.objs.size + 1)))) { s with heap:=h' })
  F.called_enumerate rfl (F.typeCall_enumerate_1 _) (F.newCall_enumerate_1 _) (fun _=>F.args_object_init_2 _ _) F.entry_enumerate_new (.of_wp fun prog w A R s' hR=>?_) ⟨rfl,fun h' z1 z2 k=>⟨⟨_,z1,rfl⟩,hQ h' z1 z2 k⟩⟩
 obtain ⟨rfl,hR⟩:=hR
 obtain ⟨h0,gg,dd,tt,oo⟩:=s'
 have e1:(h0.push { cls:=.type "tuple_iterator",data:=.fields #[.ref l,.int 0 0] }).objs.size = h0.objs.size + 1:=Heap.size_push ..
 refine wpAny_bind (wpAny_bind (wpAny_pure (wpAny_ite_false rfl (wpAny_bind (wpAny_of_eq sub_enumerate (wpAny_ite_false rfl (wpAny_pure ?_)))))))
 refine wpAny_ite_true rfl (wpAny_bind (wpAny_bind (wpAny_stack_any fun st=>wpAny_pure ?_)))
 have fin:wpAny (model prog w) A.in1 (pyIter (.ref l) >>= fun v=>Builtin.SmallTypes.newRecord (.type "enumerate") (Builtin.SmallTypes.ownedTupleFields ++ [v,rawInt 0,.none,.none]) >>= fun r=>ret r) (fun fin s'=>∃ v,fin = .done (.ret v)/\R (.ok (.ret v)) s') (fun e s'=>R (.error e) s') ⟨h0,gg,dd,tt,oo⟩:=by
  refine wpAny_bind (wpAny_pyIter_tuple g1 (wpAny_bind (wp_newRecord (wpAny_pure ⟨_,rfl,?_⟩) (by show 6<=sizeLine + 2; decide))))
  have he:=Heap.get?_push_size (h0.push { cls:=.type "tuple_iterator",data:=.fields #[.ref l,.int 0 0] }) (o:={ cls:=.type "enumerate",data:=.fields #[.none,.bool false,.ref h0.objs.size,rawInt 0,.none,.none] }) rfl
  have q:=hR ((h0.push { cls:=.type "tuple_iterator",data:=.fields #[.ref l,.int 0 0] }).push { cls:=.type "enumerate",data:=.fields #[.none,.bool false,.ref h0.objs.size,rawInt 0,.none,.none] })
  rw [show (Shared.mk h0 gg dd tt oo).heap.objs.size = h0.objs.size from rfl,<-e1] at q
  exact q he ⟨_,Heap.get?_push_of_some _ (Heap.get?_push_size _ rfl),rfl,rfl⟩ fun b o z=>Heap.get?_push_of_some _ (Heap.get?_push_of_some _ z)
 exact wp_ite (wpAny_bind (wpAny_of_eq (a:=(Value.ref l,none)) rfl fin)) (wpAny_bind (wpAny_of_eq (a:=(Value.ref l,none)) rfl fin))
end
end L2
namespace L2
open PySem PySem.Spec PyProof.Rows
noncomputable def Ite2 (sq:Hp->Addr->List V->Prop) (a:Addr):It :=
 ⟨fun i H=>∃ xs x,sq H a xs/\xs[i]? = some x,fun i H v H'=>∃ T x,v = .ref T/\H T = none/\H' = upd H T (.tup [.int i,x])/\∀ xs,sq H a xs->xs[i]? = some x,fun i H=>∃ xs,sq H a xs/\xs.length = i⟩
section
variable {P:Program} {w:World} {K:PySem.W.Frag} {elts:List Expr} {kk:Nat} {tp:Pos} {isIt:Heap->Addr->Addr->Nat->Prop} {isq:Heap->Addr->Array Value->Prop} {sq:Hp->Addr->List V->Prop}
theorem turn_enum2 (oI:∀ h c l i,isIt h c l i->∃ o,h.get? c = some o/\∀ v,o.data ≠ .cell v) (kI:∀ h h' c l i,isIt h c l i->(∀ o,h.get? c = some o->h'.get? c = some o)->isIt h' c l i)
  (gI:∀ (X:Cx) pins σ H s c xs,X.K = K->Inv X pins σ H s->sq H c xs->∃ its,Vals xs its/\isq s.heap c its.toArray) (uI:∀ (X:Cx) pins σ H s c xs ys,X.K = K->Inv X pins σ H s->sq H c xs->sq H c ys->xs = ys)
  (nE:∀ h c e it i old its,IsEnum h e it i old->isq h c its->c ≠ e) (nI:∀ h c l i its e,isIt h e l i->isq h c its->c ≠ e)
  (a it e:Addr) (hei:e ≠ it) (WI:∀ (A:Around),A.handled = none->a ≠ e->a ≠ it->∀ items:Array Value,WalksT P w A e [e,it,a] [e,it] items.size (fun i vals=>∃ t x,items[i]? = some x/\vals = #[.int (i:Int) t,x])
   (fun i h=>(∃ old,IsEnum h e it (i:Int) old)/\isIt h it a i/\isq h a items)
   (fun i T h=>(∃ x,IsEnumOut h e it ((i:Int) + 1) x T)/\isIt h it a (i + 1)/\isq h a items/\T ≠ e/\T ≠ it)) :
  Turn P w K (.Tuple elts kk tp) (Ite2 sq a) [e,it] e (fun i h=>(∃ old,IsEnum h e it (i:Int) old)/\isIt h it a i) where
 mem:=List.mem_cons_self ..
 obj:=fun i h st b hb=>by
  obtain ⟨⟨old,h1⟩,h2⟩:=st
  rcases List.mem_cons.mp hb with rfl | hb
  ·exact ⟨_,h1,fun v z=>by cases z⟩
  ·rw [List.mem_singleton.mp hb]
   exact oI _ _ _ _ h2
 keep:=fun i h h' st k=>⟨let ⟨old,h1⟩:=st.1; ⟨old,k e (by simp) _ h1⟩,kI _ _ _ _ _ st.2 (k it (by simp))⟩
 item:=by
  intro X hP hw hK hc i pins s σ H E I hf st hg
  subst hP hw
  obtain ⟨xs,x,hq,hx⟩:=hg
  obtain ⟨its,rv,p⟩:=gI _ _ _ _ _ _ _ hK I hq
  obtain ⟨u,hu,ru⟩:=rv.get hx
  obtain ⟨⟨old,s1⟩,s2⟩:=id st
  have W:=WI X.A (I.ok.hd hc) (nE _ _ _ _ _ _ _ s1 p) (nI _ _ _ _ _ _ s2 p) its.toArray
  have hi:i < its.toArray.size:=by rw [List.size_toArray]; exact (List.getElem?_eq_some_iff.mp hu).1
  refine W.item i s _ _ hi ⟨st.1,st.2,p⟩ fun T vals h' tk hv hT ht hm k=>?_
  obtain ⟨t,x',hx',rfl⟩:=hv
  have ex:x' = u:=Option.some.inj (hx'.symm.trans ((List.getElem?_toArray ..).trans hu))
  subst ex
  refine ⟨.ref T,rfl,W.go elts kk tp i T _ _ _ hm fun h2 st2 k2=>?_⟩
  have hT2:h2.IsTuple T #[.int i t,x']:=ht.at fun o z=>k2 T o (W.apart i T h' hm) z
  have gone:∀ c ∈ [e,it],∃ ob,s.heap.get? c = some ob:=fun c hc'=>by
   rcases List.mem_cons.mp hc' with rfl | hb
   ·exact ⟨_,s1⟩
   ·rw [List.mem_singleton.mp hb]
    obtain ⟨o,h4,_⟩:=oI _ _ _ _ s2
    exact ⟨o,h4⟩
  refine ⟨.ref T,upd H T (.tup [.int i,x]),I.turnLaid (fp:=[e,it]) (fun b o hb eb=>k2 b o hb (k b o hb eb)) hf gone hT ⟨?_,[.int i t,x'],.cons ⟨t,rfl⟩ (.cons ru .nil),hT2⟩,rfl,⟨T,x,rfl,I.hok.fresh hT,rfl,fun zs hz=>by rw [uI _ _ _ _ _ _ _ _ hK I hz hq]; exact hx⟩,⟨st2.1,st2.2.1⟩,fun c hc'=>?_⟩
  ·show 2<=sizeLine
   decide
  ·obtain ⟨ob,eb⟩:=gone c hc'
   rw [upd_ne (Nat.ne_of_lt (Nat.lt_of_lt_of_le (Heap.lt_size eb) hT))]
   exact (hf c hc').1
 done:=by
  intro X hP hw hK hc i pins s σ H E I hf st hg
  subst hP hw
  obtain ⟨xs,hq,hx⟩:=hg
  obtain ⟨its,rv,p⟩:=gI _ _ _ _ _ _ _ hK I hq
  obtain ⟨⟨old,s1⟩,s2⟩:=id st
  have W:=WI X.A (I.ok.hd hc) (nE _ _ _ _ _ _ _ s1 p) (nI _ _ _ _ _ _ s2 p) its.toArray
  have hi:i = its.toArray.size:=by rw [List.size_toArray,<-rv.length,hx]
  rw [hi] at st
  refine W.done s _ _ ⟨st.1,st.2,p⟩ fun h' tk k=>⟨rfl,?_⟩
  refine I.step (h':=h') (H':=H) (t':=tk) (g':=s.gens) (d':=s.drawn) (ch:=[e,it]) (fun b hb=>let ⟨_,f1,_,f3,f4,f5⟩:=hf b hb; ⟨f3,f1,f4,f5⟩) (fun b ob _ _ hc e _=>k b ob hc e) (fun b ob _ _ hc e _=>⟨ob.slots,k b ob hc e⟩) (fun _ _ _ _ n=>n)
   (fun b ob hc e=>⟨ob,k b ob hc e⟩) (fun _ _ e=>e) (fun _ _ _ e=>e) (fun b ps e=>⟨#[],by rw [e]; simp⟩) (fun m hm=>?_) (fun b u eb=>?_) I.bare
  ·obtain ⟨ob,es,ep,ho,r⟩:=hm
   exact ⟨ob,es,ep,k _ ob (fun hb=>(hf _ hb).2.1 rfl) ho,r⟩
  ·have nf:∀ b u,H b = some u->b ∉ [e,it]:=fun b u e hb=>by rw [(hf b hb).1] at e; cases e
   refine (I.hok b u eb).stay (fun c v hc q=>k c v ?_ q) (fun _ q=>q) fun _ _ q=>q
   rcases hc with z | z
   ·rw [z]; exact nf b u eb
   ·exact nf c _ z
 self:=fun A i s Q E st h=>let ⟨_,he⟩:=st.1; wpAny_pyIter_enum he h
theorem turn_enumL (a it e:Addr) (hei:e ≠ it):Turn P w K (.Tuple elts kk tp) (Ite2 (SqL K) a) [e,it] e (fun i h=>(∃ old,IsEnum h e it (i:Int) old)/\h.IsListIter it a i) :=
 turn_enum2 (isIt:=Heap.IsListIter) (isq:=Heap.IsList) (fun h c l i ⟨o,e,_,d⟩=>⟨o,e,fun v z=>by rw [d] at z; cases z⟩) (fun h h' c l i z k=>z.at k) (fun X pins σ H s c xs hK I hq=>by subst hK; obtain ⟨its,rv,p,_⟩:=I.list hq; exact ⟨its,rv,p.isList⟩) (fun X pins σ H s c xs ys hK I hq hr=>by subst hK; exact I.list_inj hq hr)
  (fun h c e it i old its he ⟨o,ho,hc,_⟩ z=>by
   rw [z,he] at ho
   cases ho
   exact absurd (show Value.type "enumerate" = .type "list" from hc) (by decide))
  (fun h c l i its e ⟨o',ho',hc',_⟩ ⟨o,ho,hc,_⟩ z=>by
   rw [z,ho'] at ho
   cases ho
   rw [hc'] at hc
   exact absurd hc (by decide)) a it e hei fun A hA h1 h2 items=>WalksT.enumerate hA e it a hei h1 h2 items
theorem turn_enumT (a it e:Addr) (hei:e ≠ it):Turn P w K (.Tuple elts kk tp) (Ite2 (SqT K) a) [e,it] e (fun i h=>(∃ old,IsEnum h e it (i:Int) old)/\h.IsTupleIter it a i) :=
 turn_enum2 (isIt:=Heap.IsTupleIter) (isq:=Heap.IsTuple) (fun h c l i ⟨o,e,_,d⟩=>⟨o,e,fun v z=>by rw [d] at z; cases z⟩) (fun h h' c l i z k=>z.at k) (fun X pins σ H s c xs hK I hq=>by subst hK; obtain ⟨its,rv,p,_⟩:=I.tuple hq; exact ⟨its,rv,p⟩) (fun X pins σ H s c xs ys hK I hq hr=>by subst hK; exact I.tuple_inj hq hr)
  (fun h c e it i old its he ⟨o,ho,hc,_⟩ z=>by
   rw [z,he] at ho
   cases ho
   exact absurd (show Value.type "enumerate" = .type "tuple" from hc) (by decide))
  (fun h c l i its e ⟨o',ho',hc',_⟩ ⟨o,ho,hc,_⟩ z=>by
   rw [z,ho'] at ho
   cases ho
   rw [hc'] at hc
   exact absurd hc (by decide)) a it e hei fun A hA h1 h2 items=>walksET hA e it a hei h1 h2 items
end
section
variable {X:Cx} {elts:List Expr} {kk:Nat} {tp:Pos}
noncomputable def enumR (K:PySem.W.Frag) (R:It->Hp->Prop) (a:Addr) (xs:List V) (H:Hp):Prop:=SqL K H a xs/\R (Ite2 (SqL K) a) H\/SqT K H a xs/\R (Ite2 (SqT K) a) H
noncomputable def iEnum2 (K:PySem.W.Frag) (ta:TA):TI:=fun σ H R=>ta σ H fun vs H1=>∃ a xs,vs = [.ref a]/\enumR K R a xs H1
theorem pi_enum2 {a:Expr} {ta:TA} {p pos:Pos} (hg:Gl X "enumerate") (hm:X.mg "enumerate" = none) (hv:bootBuiltins "enumerate" = some (.type "enumerate")) (ha:PA X [a] ta) (hs:starEach [a] X.env = [(false,eval a X.env)]:=by rfl):PI X (.Tuple elts kk tp) (.Call (.Name "enumerate" p) [a] [] pos) (iEnum2 X.K ta):=by
 intro pins s σ H R I h
 refine Call_ (ld_blt I hg hm hv (PyProof.Rows.callWith_type1 (thn (ha pos pins s σ H _ I h) fun us s1 ⟨vs,H1,I1,r1,q1⟩=>?_) hs rfl))
 obtain ⟨l,xs,e,q⟩:=q1
 subst e
 obtain ⟨u,rfl,ru⟩:=vals1 r1
 cases ru
 have fpk:∀ b ∈ [s1.heap.objs.size + 1,s1.heap.objs.size],FpOk X pins H1 b:=fun b hb=>by
  rcases List.mem_cons.mp hb with z | hb
  ·rw [z]
   exact I1.fpOk (Nat.le_succ _) (I1.hok.fresh (Nat.le_succ _))
  ·rw [List.mem_singleton.mp hb]
   exact I1.fpOk (Nat.le_refl _) (I1.hok.fresh (Nat.le_refl _))
 rcases q with ⟨hq,q⟩ | ⟨hq,q⟩
 ·obtain ⟨its,rv,pl,hz⟩:=I1.list hq
  exact call_enumerate_list pl.isList fun h' he hit hsz k=>wpAny_pyIter_enum he ⟨s1.heap.objs.size + 1,_,_,_,H1,rfl,I1.kept (t':=s1.toks) k,turn_enumL l s1.heap.objs.size (s1.heap.objs.size + 1) (Nat.succ_ne_self _),⟨⟨_,he⟩,hit⟩,fpk,q⟩
 ·obtain ⟨its,rv,pl,hz⟩:=I1.tuple hq
  exact call_enumT pl fun h' he hit k=>wpAny_pyIter_enum he ⟨s1.heap.objs.size + 1,_,_,_,H1,rfl,I1.kept (t':=s1.toks) k,turn_enumT l s1.heap.objs.size (s1.heap.objs.size + 1) (Nat.succ_ne_self _),⟨⟨_,he⟩,hit⟩,fpk,q⟩
end
end L2
namespace L2
open PySem PySem.Spec PyProof.Rows
theorem enum_sqs {K:PySem.W.Frag} {R:It->Hp->Prop} {a:Addr} {xs:List V} {H H':Hp} (h:Sqs K H a xs) (k:KeepAt a H H') (q:∀ sq:Hp->Addr->List V->Prop,(∀ H1,KeepAt a H H1->sq H1 a xs)->R (Ite2 sq a) H'):enumR K R a xs H':=by
 rcases h with h | h
 ·exact .inl ⟨k.seqL h,q _ fun H1 k=>k.seqL h⟩
 ·exact .inr ⟨k.seqT h,q _ fun H1 k=>k.seqT h⟩
section
variable {X:Cx} (K:PySem.W.Frag)
theorem piE2 {elts:List Expr} {kk:Nat} {tp:Pos} {a:Expr} {ta:TA} {p pos:Pos} (hm:X.mg "enumerate" = none) (ha:PA X [a] ta) (hg:Gl X "enumerate":=by rfl) (hs:starEach [a] X.env = [(false,eval a X.env)]:=by rfl) (hK:X.K = K:=by rfl) :
  PI X (.Tuple elts kk tp) (.Call (.Name "enumerate" p) [a] [] pos) (iEnum2 K ta):=by subst hK; exact pi_enum2 hg hm bt_enumerate ha hs
end
end L2
namespace L2
open PySem PySem.Spec PyProof.Rows
section
variable {X:Cx} {tg iter elt:Expr} {ifs:List Expr} {scope:Scope} {cl:List (Str × Addr)} {N':List Str} {cap:List (Option Nat)} {wi:TI} {pos:Pos}
theorem comp_core {e:Expr} {gs:List Comprehension} {newAcc:Sem Value} {p2:Pos} {use:Option (Value->Sem Unit)} {Qv:Value->Shared->Prop} (hcl:clausesOf e = ⟨tg,iter,ifs,0⟩ :: gs) (o:Addr->HO) (hs:∀ x,foldedSetIterable iter X.env x = pure x) (S:CScope X scope cl N' cap) (hc:X.calm = true) (hi:PI X tg iter wi)
  {lp:Addr->It->St->Hp->(St->Hp->Prop)->Prop}
  (hnew:∀ (pins:List (Addr × Obj)) (s:Shared) (σ:St) (H:Hp) (Q:Value->Shared->Prop) (E:Value->Shared->Prop),Inv X pins σ H s->(∀ s',Inv X pins σ (upd H s.heap.objs.size (o s.heap.objs.size)) s'->(∀ b ob,s.heap.get? b = some ob->s'.heap.get? b = some ob)->Q (.ref s.heap.objs.size) s')->wpAny (model X.prog X.w) X.A newAcc Q E s)
  (hlp:∀ (pins:List (Addr × Obj)) (ex:List Addr) (s3:Shared) (H3:Hp) (D it:Addr) (fp:List Addr) (tn:Nat->Heap->Prop) (J:It) (σ:St) (s:Shared) (H:Hp) (Q:St->Hp->Prop) (R:Result->Shared->Prop),
   Turn X.prog X.w X.K tg J fp it tn->Inv (cxC X scope cl N' pins ex s3 H3) [] σ H s->tn 0 s.heap->(∀ b ∈ fp,FpOk (cxC X scope cl N' pins ex s3 H3) [] H b)->lp D J σ H Q ->
   (∀ s' σ' H',Inv (cxC X scope cl N' pins ex s3 H3) [] σ' H' s'->Q σ' H'->R (.ok .next) s') ->
   codeAny (model X.prog X.w) X.A (.compLoop e 0 (.ref it) (.ref D) (compEnvC scope cl s3.heap.objs.size X.env)) R s)
  (hun:∀ it D env,X.A.under (.compStart e 0 (.ref it) (.ref D) env) = X.A) (hden:∀ it D env,(model X.prog X.w).den (.compStart e 0 (.ref it) (.ref D) env) = (compStart e 0 (.ref it) (.ref D) env).onRaise (fun x=>do noteFrame x env; standAt theWindowsPlace))
  {pins:List (Addr × Obj)} {s:Shared} {σ:St} {H:Hp} {Q:V->Hp->Prop} (I:Inv X pins σ H s) (h:tComp wi o cap lp σ H Q)
  (hend:∀ (D:Addr) (fp:List Addr) (H2:Hp) (s3 s':Shared) (σ':St) (H':Hp),Inv X pins σ H2 s3->(∀ b ∈ fp,FpOk X pins H2 b)->Inv (cxC X scope cl N' pins fp s3 H2) [] σ' H' s'->Q (.ref D) H'->compPost (model X.prog X.w) X.A X.xe use Qv (.ref D) s3.heap.objs.size (.ok .next) s') :
  wpAny (model X.prog X.w) X.A (comprehension e scope X.env p2 newAcc false (eval iter X.env) use) Qv X.xe s:=by
 refine wpAny_comprehension_free hcl hs S.clos S.kind S.loc (thn (hi pins s σ H _ I h) fun v s1 h1=>thn h1 fun itv s2 h2=>?_)
 obtain ⟨it,fp,tn,J,H2,eit,I2,T,st2,f2,R2⟩:=h2
 subst eit
 refine hnew pins s2 σ H2 _ _ I2 fun s3 I3 k3=>?_
 have hD:H2 s2.heap.objs.size = none:=I2.hok.fresh (Nat.le_refl _)
 have fok:∀ b ∈ fp,FpOk X pins (upd H2 s2.heap.objs.size (o s2.heap.objs.size)) b/\∃ ob,s3.heap.get? b = some ob:=fun b hb=>by
  obtain ⟨ob,e,_⟩:=T.obj _ _ st2 b hb
  obtain ⟨f0,fr⟩:=f2 b hb
  exact ⟨⟨by rw [upd_ne (Nat.ne_of_lt (Heap.lt_size e))]; exact f0,fr⟩,ob,k3 b ob e⟩
 refine wpAny_newFunctionEnv S.nocell (by intro y hy; simp at hy) (fun h1 hns hsb=>?_) S.kind
 have hk:∀ b ob,s3.heap.get? b = some ob->h1.get? b = some ob:=fun b ob e=>(hsb.2 b (Nat.ne_of_lt (Heap.lt_size e))).trans (Heap.get?_push_of_some _ e)
 have I4:Inv (cxC X scope cl N' pins fp s3 (upd H2 s2.heap.objs.size (o s2.heap.objs.size))) [] (capS cap σ) (upd H2 s2.heap.objs.size (o s2.heap.objs.size)) { s3 with heap:=h1,toks:=s3.toks + ([]:List (Str × Value)).length } :=
  I3.block S hc fok hns hk
 have st4:tn 0 h1:=T.keep 0 _ _ st2 fun b hb ob e=>hk b ob (k3 b ob e)
 refine comp_start (X:=cxC X scope cl N' pins fp s3 (upd H2 s2.heap.objs.size (o s2.heap.objs.size))) (gs:=⟨tg,iter,ifs,0⟩ :: gs) (e:=e) (d:=0) (tg:=tg) (iter:=iter) (ifs:=ifs) (hun _ _ _) (hden _ _ _) hcl rfl T st4 ?_
 refine hlp pins fp s3 _ s2.heap.objs.size it fp tn J (capS cap σ) _ _ _ _ T I4 st4 (fun b hb=>?_) (R2 _ hD) fun s' σ' H' I' q'=>?_
 ·obtain ⟨⟨f0,f1,f2',f3,f4,f5⟩,ob,eo⟩:=fok b hb
  refine ⟨f0,Nat.ne_of_lt (Heap.lt_size eo),fun hf=>?_,.inl hb,fun x c e=>f4 x c (S.cin.get e),fun p hp=>f5 p (by simpa [cxC] using hp)⟩
  rcases List.mem_cons.mp (I3.stkSub b hf) with z | z
  ·exact f1 z
  ·exact f2' z
 ·exact hend _ fp _ s3 s' σ' H' I3 (fun b hb=>(fok b hb).1) I' q'
theorem ps_setLC {i:Nat} {x:Str} {pos' cpos:Pos} {g:TG} {tc:TT} {te:TE} (hN:X.N.Nodup) (hi:X.N[i]? = some x) (hx:Loc X.env.scope x) (S:CScope X scope cl N' cap) (hc:X.calm = true) (hI:PI X tg iter wi)
  (hb:∀ (pins:List (Addr × Obj)) (ex:List Addr) (s3:Shared) (H3:Hp),PG (cxC X scope cl N' pins ex s3 H3) tg g/\PTs (cxC X scope cl N' pins ex s3 H3) ifs tc/\PE (cxC X scope cl N' pins ex s3 H3) elt te)
  (hs:∀ x,foldedSetIterable iter X.env x = pure x:=by intro _; rfl)
  (hsw:swapsWith (.ListComp elt [⟨tg,iter,ifs,0⟩] scope cpos) (some (.Name x pos')) pos.line X.env = pure true:=by rfl)
  (hf:X.fn x = true\/X.env.scope.names.lookup x = some .local:=by first | exact .inl rfl | exact .inr rfl | assumption) :
  PS X (.Assign [.Name x pos'] (.ListComp elt [⟨tg,iter,ifs,0⟩] scope cpos) pos) (tAsg (tComp wi (fun _=>.lst []) cap fun D J σ H Q=>Loop g tc (emLst D te) J σ H Q) (gName i)):=by
 intro pins s σ H D I h
 rw [exec_Assign]
 refine wpAny_bind (wpAny_standAt (wpAny_bind (wpAny_of_eq hsw (wpAny_ite_true rfl (wpAny_bind (wpAny_bind ?_))))))
 refine comp_core (newAcc:=newList []) (p2:=firstIterPos [⟨tg,iter,ifs,0⟩] cpos) rfl (fun _=>.lst []) hs S hc hI (fun pins s σ H Q E I h=>?_) (fun pins ex s3 H3 D it fp tn J σ s H Q R T I st hf h hR=>?_) (fun _ _ _=>rfl) (fun _ _ _=>rfl) I h fun E fp H2 s3 s' σ' H' I3 fok I' q=>?_
 ·refine wpAny_newList ?_
  exact h _ (I.lnew (t':=s.toks) (its:=[]) .nil (Nat.zero_le _)) fun b ob e=>Heap.get?_push_of_some _ e
 ·obtain ⟨b1,b2,b3⟩:=hb pins ex s3 H3
  exact comp_loop (X:=cxC X scope cl N' pins ex s3 H3) rfl rfl hc rfl (turnE_list elt tg iter ifs scope cpos _ _ _) b1 b2 (pem_list rfl b3) T I st hf h hR
 ·have IX:Inv X pins σ H' s':=I3.unblock fok I' ⟨rfl,fun _ _=>rfl⟩
  have fC:FpOk X pins H' s3.heap.objs.size:=I3.fpOk (Nat.le_refl _) I'.free
  obtain ⟨m,hn,_⟩:=I'.loc
  show wpAny _ _ (assign (.Name x pos') X.env (.ref E)) _ _ _
  refine wpAny_assign_Name (store_ok2 (v:=.ref E) IX hN hi hx rfl (fun s2 I2 ⟨a,hsb,ha⟩=>?_) hf)
  have nC:s3.heap.objs.size ≠ a:=by
   rcases ha with rfl | ha
   ·exact fC.2.1
   ·exact (fC.2.2.2.2.1 _ _ ha).symm
  refine ⟨m,?_,fun h' hsb'=>wpAny_pure (wpAny_pure ?_)⟩
  ·obtain ⟨ob,es,ep,e1,r⟩:=hn
   exact ⟨ob,es,ep,(hsb.2 _ nC).trans e1,r⟩
  refine ⟨_,H',?_,q⟩
  have k:∀ b ob,b ∉ [s3.heap.objs.size]->s2.heap.get? b = some ob->h'.get? b = some ob:=fun b ob hb e=>(hsb'.2 b fun z=>hb (List.mem_singleton.mpr z)).trans e
  refine I2.step (h':=h') (H':=H') (t':=s2.toks) (g':=s2.gens) (d':=s2.drawn) (ch:=[s3.heap.objs.size]) (fun b hb=>by rw [List.mem_singleton.mp hb]; exact ⟨fC.2.2.2.1,fC.2.1,fC.2.2.2.2⟩) (fun b ob _ _ hc e _=>k b ob hc e) (fun b ob _ _ hc e _=>⟨ob.slots,k b ob hc e⟩) (fun _ _ _ _ n=>n)
   (fun b ob hc e=>⟨ob,k b ob hc e⟩) (fun _ _ e=>e) (fun _ _ _ e=>e) (fun b ps e=>⟨#[],by rw [e]; simp⟩) (fun m hm=>?_) (fun b u eb=>?_) I2.bare
  ·obtain ⟨ob,es,ep,ho,r⟩:=hm
   exact ⟨ob,es,ep,k _ ob (fun hb=>fC.2.1 (List.mem_singleton.mp hb).symm) ho,r⟩
  ·have nf:∀ b u,H' b = some u->b ∉ [s3.heap.objs.size]:=fun b u e hb=>by rw [List.mem_singleton.mp hb,fC.1] at e; cases e
   refine (I2.hok b u eb).stay (fun c v hc q=>k c v ?_ q) (fun _ q=>q) fun _ _ q=>q
   rcases hc with z | z
   ·rw [z]; exact nf b u eb
   ·exact nf c _ z
end
end L2
namespace L2
open PySem PySem.Spec PyProof.Rows
noncomputable def addAll (l xs:List Str):List Str:=xs.foldl addS l
theorem addS_len (l:List Str) (x:Str):(addS l x).length<=l.length + 1:=by
 unfold addS
 split
 ·omega
 ·rw [List.length_append]; exact Nat.le_refl _
theorem ws_at {w:World} {h h':Heap} {a:Addr} {ss:List Str} (z:ST.WS w h a ss) (k:∀ o,h.get? a = some o->h'.get? a = some o):ST.WS w h' a ss:=by
 obtain ⟨o,es,ep,t,S,r⟩:=z
 exact ⟨o,es,ep,t,S.at (k o S.ho),r⟩
section
variable {prog:Program} {w:World} {A:Around} {R:Result->Shared->Prop} {I:Addr} {fp wr:List Addr} {G:Array GenState->Array GenState->Prop} {n:Nat} {P:Nat->Value->Prop} {St:Nat->Shared->Prop}
theorem setw_loop (W:WalksS prog w A.in1 I fp wr G n P St) (S:Addr) (hSf:S ∉ fp) (xs:List Str) (hn:xs.length = n) (hval:∀ i v,P i v->∃ x t,xs[i]? = some x/\v = .str x t) :
  ∀ (k i:Nat) (s:Shared) (ss:List Str),n - i = k->i<=n->St i s->ST.WS w s.heap S ss->ss.length + k < 4096 ->
   (∀ s',Moved (S :: wr) G s s'->ST.WS w s'.heap S (addAll ss (xs.drop i))->R (.ok (.ret .none)) s') ->
   codeAny (model prog w) A (.builtin "set.update.loop" ⟨[.ref S,.ref I],[]⟩) R s:=by
 have hSw:S ∉ wr:=fun h=>hSf (W.sub _ h)
 have hsub:∀ b ∈ wr,b ∈ S :: wr:=fun b hb=>List.mem_cons_of_mem _ hb
 intro k
 induction k with
 | zero =>
  intro i s ss hk hi hst hS _ hR
  have hin:i = n:=by omega
  subst hin
  refine codeAny_builtin F.entry_set_update_loop ?_
  rw [Around.under_plainId F.plain_set_update_loop _]
  refine wpAny_bind (W.done s _ _ hst fun s' hm=>?_)
  have q:=hR s' (hm.mono hsub)
  rw [<-hn,List.drop_length] at q
  exact wpAny_pure (q (ws_at hS fun o=>hm.heap S o hSw))
 | succ k ih =>
  intro i s ss hk hi hst hS hz hR
  refine codeAny_builtin F.entry_set_update_loop ?_
  rw [Around.under_plainId F.plain_set_update_loop _]
  refine wpAny_bind (W.item i s _ _ (by omega) hst fun v s' hP hst' hm=>?_)
  obtain ⟨x,t,hx,rfl⟩:=hval i v hP
  show wpAny _ A.in1 (holding [Value.str x t] (setAdd S (.str x t)) >>= _) _ _ s'
  refine wpAny_bind (wpAny_holding ?_)
  unfold setAdd
  refine wpAny_holding (wpAny_bind (wpAny_pyHash_str ?_))
  refine ST.add_txt (s:={ s' with toks:=s'.toks + 1 }) (ws_at hS fun o=>hm.heap S o hSw) (by omega) fun h' b hsb z'=>?_
  refine wpAny_pure ⟨plainId_quiet F.plain_set_update_loop _,ih (i + 1) _ (addS ss x) (by omega) (by omega) (W.frame _ s' _ _ hst' (Nat.le_succ _) fun b hb o e=>?_) z' (by have:=addS_len ss x; omega) fun s'' hm'' hS''=>?_⟩
  ·rw [hsb.2 b (fun h:b = S=>hSf (by rw [<-h]; exact hb))]; exact e
  ·refine hR s'' (Moved.trans W.gtrans ((hm.mono hsub).then_heap (Nat.le_succ _) fun b o hb e=>?_) hm'') ?_
   ·rw [hsb.2 b (fun h:b = S=>hb (by rw [h]; exact List.mem_cons_self))]; exact e
   ·have hd:xs.drop i = x :: xs.drop (i + 1):=by
     obtain ⟨hi',ex⟩:=List.getElem?_eq_some_iff.mp hx
     rw [<-ex]
     exact List.drop_eq_getElem_cons hi'
    rw [hd]
    exact hS''
end
section
variable {prog:Program} {w:World} {A:Around} {E:Value->Shared->Prop} {s:Shared}
noncomputable abbrev freshW (w:World):Obj:={ cls:=.type "set",dict:=none,data:=.set #[] 0 (.fresh 0 0 (!(w.params.followText "set-order"))) }
theorem ws_fresh {h:Heap} {a:Addr} (e:h.get? a = some (freshW w)):ST.WS w h a [] :=
 ⟨_,#[],0,_,⟨e,⟨rfl,rfl,rfl⟩,rfl,by rfl,rfl,fun _=>rfl,by decide⟩,⟨fun e he=>by simp at he,by simp,List.nodup_nil⟩⟩
theorem set_newW (a:Value) {Q₁:Value->Shared->Prop} (h:Q₁ (.ref s.heap.objs.size) { s with heap:=s.heap.push (freshW w) }) :
  codeAny (model prog w) A (.call (.builtin "set.__new__") ⟨[.type "set",a],[]⟩) (wants Q₁ E) s:=by
 refine codeAny_of_tree ?_
 show wpAny _ A.in1 (do checkBuiltinCall "set.__new__" ⟨[.type "set",a],[]⟩; again (.builtin "set.__new__" ⟨[.type "set",a],[]⟩)) _ _ s
 refine wpAny_bind (wpAny_of_eq (F.newCall_set_1 a) (wpAny_pure ⟨plainId_quiet F.plain_set_new _,codeAny_builtin F.entry_set_new ?_⟩))
 rw [Around.under_plainId F.plain_set_new _]
 unfold Builtin.«set.__new__» Builtin.Frozenset.newClass
 have hsub:=sub_set_self
 obtain ⟨hp,g,d,tk,os⟩:=s
 dsimp only
 wp_walk
 refine wpAny_askSetting (wpAny_pure ?_)
 dsimp only
 simp only [newObj]
 refine wpAny_bind (wpAny_alloc (wpAny_pure ?_))
 exact wpAny_pure h
set_option maxHeartbeats 3200000 in
theorem call_setOf {l:Addr} {ol it:Obj} {nm:String} {xs:List Str} {n:Nat} {P:Nat->Value->Prop} {St:Addr->Nat->Heap->Prop} {Q:Value->Shared->Prop} (hh:A.handled = none) (hol:s.heap.get? l = some ol) (hcl:ol.cls = .type nm)
  (hs1:isSubtype (.type nm) (.type "set") = pure false) (hs2:isSubtype (.type nm) (.type "frozenset") = pure false) (hne:(Value.type nm == Value.type "dict") = false)
  (hit:∀ {A:Around} {E:Value->Shared->Prop} {Q:Value->Shared->Prop} (s1:Shared),s1.heap.get? l = some ol->Q (.ref s1.heap.objs.size) { s1 with heap:=s1.heap.push it }->wpAny (model prog w) A (pyIter (.ref l)) Q E s1)
  (hW:∀ (A:Around) (I:Addr),A.handled = none->l ≠ I->Walks prog w A I [I,l] [I] n P (St I)) (hSt:∀ (h:Heap) (I:Addr),h.get? I = some it->h.get? l = some ol->St I 0 h) (hiti:it.isFreed = false)
  (hn:xs.length = n) (hval:∀ i v,P i v->∃ x t,xs[i]? = some x/\v = .str x t) (hb:n < 4096)
  (h:∀ (h':Heap) (tk:Nat),ST.WS w h' s.heap.objs.size (addAll [] xs)->(∀ b o,s.heap.get? b = some o->h'.get? b = some o)->Q (.ref s.heap.objs.size) { s with heap:=h',toks:=tk }) :
  wpAny (model prog w) A (call (.type "set") [.ref l]) Q E s:=by
 obtain ⟨c,tl,hmro⟩:=F.called_set.mro
 have hmade:=F.called_set.made
 have hsub:=F.called_set.sub
 refine wpAny_call (codeAny_of_tree ?_)
 show wpAny _ _ (callAny (.type "set") _) _ _ _
 refine wpAny_pure ⟨Code.quiet_builtin _ (by decide +kernel),codeAny_builtin F.entry_type_call ?_⟩
 rw [Around.under_plain (weight_type_call_type "set" [.ref l] []) rfl]
 have h1:=F.called_set.notType
 have h2:=F.called_set.canCreate
 have hct:=F.typeCall_set_1 (.ref l)
 repeat (any_goals (first | assumption | wp_step))
 refine codeAny_mono (set_newW (.ref l) (E:=E) (Q₁:=fun obj s₁=>obj = .ref s.heap.objs.size/\s₁ = { s with heap:=s.heap.push (freshW w) }) ⟨rfl,rfl⟩) fun r s₁ hr=>?_
 cases r with
 | error e=>exact hr
 | ok fl =>
  cases fl with
  | ret obj =>
   obtain ⟨rfl,rfl⟩:=hr
   have hS:(s.heap.push (freshW w)).get? s.heap.objs.size = some (freshW w):=Heap.get?_push_size _ rfl
   have hT:Shared.TypeIs { s with heap:=s.heap.push (freshW w) } (.ref s.heap.objs.size) "set":=⟨_,hS,rfl⟩
   have hli:=F.called_set.init.lookup
   have hbi:=F.called_set.init.bind (.ref s.heap.objs.size)
   repeat (any_goals (first | assumption | wp_step))
   refine codeAny_mono (codeAny_call_builtin (R:=wants (fun r s₂=>r = .none/\∃ h' tk,s₂ = { s with heap:=h',toks:=tk }/\ST.WS w h' s.heap.objs.size (addAll [] xs) /\
     (∀ b o,s.heap.get? b = some o->h'.get? b = some o)) E) F.called_set.init.plain F.entry_set_init (check_set_init_1 hT ?_)) fun r₂ s₂ hr₂=>?_
   ·have hol':(s.heap.push (freshW w)).get? l = some ol:=Heap.get?_push_of_some _ hol
    obtain ⟨ocls,odict,odata,oslots⟩:=ol
    simp only at hcl
    subst hcl
    unfold Builtin.«set.__init__» noKeywords Builtin.Frozenset.updateFrom
    generalize hPI:pyIter = PI
    wp_walk
    subst hPI
    refine hit _ hol' ?_
    refine wpAny_bind (wpAny_runValue ?_)
    have hlS:l < s.heap.objs.size:=Heap.lt_size hol
    have hh3:A.in1.in1.in1.handled = none:=by simp [hh]
    have hneI:l ≠ (s.heap.push (freshW w)).objs.size:=by
     rw [Heap.size_push]; exact Nat.ne_of_lt (Nat.lt_succ_of_lt hlS)
    have hSf:s.heap.objs.size ∉ [(s.heap.push (freshW w)).objs.size,l]:=by
     rw [Heap.size_push]; simp only [List.mem_cons,List.not_mem_nil,or_false,not_or]
     exact ⟨Nat.ne_of_lt (Nat.lt_succ_self _),Nat.ne_of_gt hlS⟩
    refine setw_loop ((hW _ _ hh3 hneI).toS) s.heap.objs.size hSf xs hn hval (n - 0) 0 _ [] rfl (Nat.zero_le _) (hSt _ _ (Heap.get?_push_size _ hiti) (Heap.get?_push_of_some _ hol')) (ws_fresh (Heap.get?_push_of_some _ hS)) (by simpa using hb) fun s' hm hS'=>?_
    obtain ⟨h',g',d',tk',os'⟩:=s'
    have eg:g' = s.gens:=hm.gens
    have ed:d' = s.drawn:=hm.drawn
    have eo:os' = s.os:=hm.os
    subst eg; subst ed; subst eo
    show wpAny _ _ _ _ _ _
    refine wpAny_pure ?_
    show wpAny _ _ (ret Value.none) _ _ _
    refine wpAny_pure ⟨rfl,h',tk',rfl,hS',fun b o e=>?_⟩
    have hb:=Heap.lt_size e
    have hb1:b ≠ s.heap.objs.size:=Nat.ne_of_lt hb
    have hb2:b ≠ (s.heap.push (freshW w)).objs.size:=by
     rw [Heap.size_push]; exact Nat.ne_of_lt (Nat.lt_succ_of_lt hb)
    exact hm.heap b o (by simp only [List.mem_cons,List.not_mem_nil,or_false,not_or]; exact ⟨hb1,hb2⟩) (Heap.get?_push_of_some _ (Heap.get?_push_of_some _ e))
   ·cases r₂ with
    | error e=>exact hr₂
    | ok fl₂ =>
     cases fl₂ with
     | ret r =>
      obtain ⟨rfl,h',tk,rfl,hS',hk'⟩:=hr₂
      repeat (any_goals (first | assumption | wp_step))
      exact h _ _ hS' hk'
     | _=>exact hr₂.elim
  | _=>exact hr.elim
end
theorem sub_tuple_set:isSubtype (.type "tuple") (.type "set") = pure false:=by rw [isSubtype_type]; kernel_rfl
theorem sub_tuple_frozenset:isSubtype (.type "tuple") (.type "frozenset") = pure false:=by rw [isSubtype_type]; kernel_rfl
theorem addAll_nd:∀ {xs l:List Str},xs.Nodup->(∀ x ∈ xs,x ∉ l)->addAll l xs = l ++ xs
 | [],l,_,_=>(List.append_nil l).symm
 | x :: xs,l,nd,ni=>by
  obtain ⟨n1,n2⟩:=List.nodup_cons.mp nd
  show addAll (addS l x) xs = _
  have e:addS l x = l ++ [x]:=if_neg (ni x (List.mem_cons_self ..))
  rw [e,addAll_nd n2 fun y hy hm=>?_,List.append_assoc]
  ·rfl
  ·rcases List.mem_append.mp hm with hm | hm
   ·exact ni y (List.mem_cons_of_mem _ hy) hm
   ·exact n1 (List.mem_singleton.mp hm ▸ hy)
theorem strs_at {ss:List Str} {its:List Value} (r:Vals (ss.map V.str) its) (i:Nat) (v:Value) (e:its.toArray[i]? = some v):∃ x t,ss[i]? = some x/\v = .str x t:=by
 rw [List.getElem?_toArray] at e
 cases h:ss[i]? with
 | none =>
  have:=r.none_of (i:=i) (by rw [List.getElem?_map,h]; rfl)
  rw [this] at e; cases e
 | some x =>
  obtain ⟨u,e1,t,e2⟩:=r.get (i:=i) (x:=.str x) (by rw [List.getElem?_map,h]; rfl)
  rw [e1] at e
  cases e
  exact ⟨x,t,rfl,e2⟩
section
variable {X:Cx}
theorem cl_setW (K:PySem.W.Frag) (w:World) (hc:X.calm = true:=by rfl) (hK:X.K = K:=by rfl) (hw:X.w = w:=by rfl):CallR X (.type "set") (fun xs H Q=>∃ (p:Addr) (ss:List Str),xs = [.ref p]/\(SqL K H p (ss.map V.str)\/SqT K H p (ss.map V.str))/\ss.Nodup/\ss.length < 4096/\∀ l,H l = none->Q (.ref l) (upd H l (SetW w l ss))):=by
 subst hK; subst hw
 intro pins s σ H xs us Q I r h
 obtain ⟨p,ss,rfl,hq,nd,hb,q⟩:=h
 obtain ⟨u,rfl,rx⟩:=vals1 r
 cases rx
 have en:addAll [] ss = ss:=addAll_nd nd fun _ _ h=>nomatch h
 have fin:∀ (h':Heap) (tk:Nat),ST.WS X.w h' s.heap.objs.size (addAll [] ss)->(∀ b o,s.heap.get? b = some o->h'.get? b = some o)->EP X pins σ Q (.ref s.heap.objs.size) { s with heap:=h',toks:=tk }:=fun h' tk z k=>by
  rw [en] at z
  exact ⟨.ref s.heap.objs.size,_,I.laid (t':=tk) k (Nat.le_refl _) (setwOk z),rfl,q _ (I.hok.fresh (Nat.le_refl _))⟩
 rcases hq with hq | hq
 ·obtain ⟨its,r',pl,hz⟩:=I.list hq
  have hlen:=r'.length
  rw [List.length_map] at hlen
  obtain ⟨o,ho,hc',n,hd⟩:=pl.isList
  exact call_setOf (I.ok.hd hc) ho hc' F.sub_list_set F.sub_list_frozenset (by decide) (fun s1 e q=>wpAny_pyIter_list ⟨_,e,hc',n,hd⟩ q) (fun A I hA hne=>Walks.list hA I p hne its.toArray) (fun h I e1 e2=>⟨⟨_,e1,rfl,rfl⟩,⟨_,e2,hc',n,hd⟩⟩) rfl (by simp [hlen]) (strs_at r') (by simpa [<-hlen] using hb) fin
 ·obtain ⟨its,r',pl,hz⟩:=I.tuple hq
  have hlen:=r'.length
  rw [List.length_map] at hlen
  obtain ⟨o,ho,hc',n,hd⟩:=pl
  exact call_setOf (I.ok.hd hc) ho hc' sub_tuple_set sub_tuple_frozenset (by decide) (fun s1 e q=>wpAny_pyIter_tuple ⟨_,e,hc',n,hd⟩ q) (fun A I hA hne=>Walks.tuple hA I p hne its.toArray) (fun h I e1 e2=>⟨⟨_,e1,rfl,rfl⟩,⟨_,e2,hc',n,hd⟩⟩) rfl (by simp [hlen]) (strs_at r') (by simpa [<-hlen] using hb) fin
theorem m_addW (w:World) (hw:X.w = w:=by rfl):MtM X "set.add" (rAddW w):=by subst hw; exact mt_addW
end
end L2
namespace L2
open PySem PySem.Spec PyProof.Rows
section
variable {prog:Program} {w:World} {A:Around} {E:Value->Shared->Prop} {s:Shared} {K:Type} [DecidableEq K] {knd:KeyKind prog w K}
theorem valueAt_none {kvs:List (K × Value)} {k:K} (h:valueAt kvs k = none):¬ (kvs.any fun kv=>decide (kv.1 = k)) = true:=by
 rw [List.any_eq_true]
 rintro ⟨kv,hkv,he⟩
 have:=Option.map_eq_none_iff.mp h
 exact List.find?_eq_none.mp this kv hkv he
theorem setDef_new {d:Addr} {kvs:List (K × Value)} {k:K} {key v:Value} {Q:Value->Shared->Prop} (hkey:knd.is k key = true) (hm:s.heap.DictOf knd d kvs) (hv:valueAt kvs k = none)
  (hQ:∀ h',h'.DictOf knd d (stored kvs k v)->Heap.SameBut d s.heap h'->Q v { s with heap:=h',toks:=s.toks + 1 }) (hsz:kvs.length<=sizeLine) :
  wpAny (model prog w) A (dictSetDefault d key v) Q E s:=by
 obtain ⟨o,es,ep,ho,hc,hd,hk,hp,hn⟩:=hm
 have hany:=valueAt_none hv
 have hes:es.size<=sizeLine:=by
  have e1:=hp.length
  rw [Array.length_toList] at e1
  omega
 unfold dictSetDefault
 refine wpAny_holding (wpAny_bind (knd.pyHash hkey (wpAny_bind (wpAny_dictFind_of (s:={ s with toks:=s.toks + 1 }) hkey ho hd hk ?_))))
 have hidx:(es.findIdx? fun e=>knd.is k e.key) = kvs.findIdx? fun kv=>decide (kv.1 = k):=by
  rw [<-hp.findIdx k]; obtain ⟨l⟩:=es; simp
 cases hi:es.findIdx? fun e=>knd.is k e.key with
 | some i=>exact absurd (any_of_findIdx_some (hidx ▸ hi)) hany
 | none =>
  refine wpAny_bind (wpAny_rule (wpAny_bind (wpAny_updateDictKeys (hz:=hes) (s:={ s with toks:=s.toks + 1 }) ho hd (wpAny_pure (hQ _ ⟨_,_,ep + 1,Heap.get?_update_self _ ho (Obj.isFreed_of_dict (Obj.data_mapDictKeys hd _)),
   hc.mapDictKeys _,Obj.data_mapDictKeys hd _,hk.push hkey _,?_,?_⟩ (Heap.SameBut.update ..))))))
  ·rw [stored,if_neg hany]
   have:=hp.append hkey (knd.hash k) v
   obtain ⟨l⟩:=es
   simpa using this
  ·rw [stored,if_neg hany,List.map_append,List.nodup_append]
   refine ⟨hn,by simp,fun a ha b hb e=>?_⟩
   simp only [List.map_cons,List.map_nil,List.mem_singleton] at hb
   exact not_mem_of_findIdx_none (hidx ▸ hi) (hb ▸ e ▸ ha)
end
section
variable {X:Cx} {pins:List (Addr × Obj)} {σ:St} {H:Hp} {s:Shared} {a:Addr} {d:V} {u r:Value} {kvs:List (Key × V)} {k:Key} {A:Around} {E:Value->Shared->Prop}
theorem d_setDef {Q:Value->Shared->Prop} (I:Inv X pins σ H s) (e:H a = some (.dK kvs)) (hl:kvs.length < sizeLine) (ry:RelV (kV k) u) (rd:RelV d r)
  (h1:∀ v,valV kvs k = some v->∀ w' s',Inv X pins σ H s'->RelV v w'->Q w' s') (h2:valV kvs k = none->∀ s',Inv X pins σ (upd H a (.dK (putK kvs k d))) s'->Q r s') :
  wpAny (model X.prog X.w) A (call (.builtin "dict.setdefault") [.ref a,u,r]) Q E s:=by
 obtain ⟨z,hd,vs,rel,dd⟩:=dk_of I.hok e
 refine wpAny_call_entry PySem.F.slot_dict_setdefault dd.typeIs PySem.F.entry_dict_setdefault ?_ (PySem.F.args_dict_setdefault_3 _ _ _)
 unfold Builtin.«dict.setdefault» Builtin.Dict.keyAndDefault
 refine wpAny_bind (wpAny_bind (wpAny_notOrdered_dict dd.typeIs (wpAny_pure ?_)))
 show wpAny _ _ (if (a == sysModules) = true then _ else (dictSetDefault a u r >>= _)) _ _ s
 rw [if_neg (by rw [hd]; exact Bool.false_ne_true)]
 have hr:=rel.val k
 have hz:vs.length<=sizeLine:=by rw [<-rel.length]; exact z
 cases hv:valV kvs k with
 | some v =>
  obtain ⟨w',hw,rw'⟩:=RelO.some_of (v:=v) (o:=valueAt vs k) (by rw [<-hv]; exact hr)
  refine wpAny_bind (wpAny_dictSetDefault_of (hz:=?_) (kV_is ry) dd.mapOf (fun v' ev=>wpAny_pure ⟨_,rfl,?_⟩) fun hn=>?_)
  ·rw [hw] at ev
   cases ev
   exact h1 v hv _ _ (I.tok _) rw'
  ·rw [hw] at hn; cases hn
  ·obtain ⟨o,es,ep,ho,_,hd',_,hp,_⟩:=dd
   intro o' es' ep' ho' hd''
   rw [ho] at ho'
   cases ho'
   rw [hd'] at hd''
   cases hd''
   have e1:=hp.length
   rw [Array.length_toList] at e1
   omega
 | none =>
  have hn:valueAt vs k = none:=by
   rw [hv] at hr
   cases hq:valueAt vs k with
   | none=>rfl
   | some q=>rw [hq] at hr; exact hr.elim
  have hl':(putK kvs k d).length<=sizeLine:=by have:=length_putK kvs k d; omega
  refine wpAny_bind (setDef_new (kV_is ry) dd hn (fun h' dd' hs=>wpAny_pure ⟨_,rfl,h2 hv _ ?_⟩) hz)
  have he:∃ q,h'.get? a = some q:=let ⟨q,_,_,hq,_⟩:=dd'; ⟨q,hq⟩
  exact d_write I (by rw [e]; exact True.intro) hs he (dk_new hl' hd (rel.put k rd) dd')
end
noncomputable def tDSet (td ty tx:TE):TE:=fun σ H Q=>td σ H fun x H1=>∃ a,x = .ref a/\IsD H1 a/\ty σ H1 fun y H2=>tx σ H2 fun z H3=>∃ kvs k,y = kV k/\H3 a = some (.dK kvs)/\kvs.length < sizeLine/\(∀ v,valV kvs k = some v->Q v H3)/\(valV kvs k = none->Q z (upd H3 a (.dK (putK kvs k z))))
section
variable {X:Cx} {o e f:Expr} {apos cpos:Pos} {td ty tx:TE}
theorem pe_dset (ho:PE X o td) (he:PE X e ty) (hf:PE X f tx) (m:M2 X o "setdefault" apos e f cpos):PE X (.Call (.Attribute o "setdefault" apos) [e,f] [] cpos) (tDSet td ty tx):=by
 intro pins s σ H Q I h
 refine wpAny_Call_method m.base m.few m.line PySem.F.plainAttrs_dict PySem.F.slot_dict_setdefault PySem.F.type_dict_setdefault (thn (ho pins s σ H _ I h) fun u s1 ⟨x,H1,I1,rx,a,ex,d,q1⟩=>?_)
 subst ex
 obtain rfl:u = Value.ref a:=rx
 obtain ⟨t1,t2,_⟩:=isD_at I1 d
 refine ⟨t1,t2,?_⟩
 rw [m.trees]
 refine Calls.callWith_builtin rfl (Calls.evalArgs_plain (Calls.spliced_cons (thn (he pins s1 σ H1 _ I1 q1) fun iv s2 ⟨y,H2,I2,ry,q2⟩ =>
  Calls.spliced_cons (thn (hf pins s2 σ H2 _ I2 q2) fun fv s3 ⟨z,H3,I3,rz,kvs,k,ey,ea,hl,q3,q4⟩=>Calls.spliced_nil ?_))))
 subst ey
 exact d_setDef I3 ea hl ry rz (fun v hv w' s4 I4 rw'=>⟨_,H3,I4,rw',q3 v hv⟩) fun hv s4 I4=>⟨z,_,I4,rz,q4 hv⟩
end
end L2
namespace L2
open PySem PySem.Spec PyProof.Rows
section
variable {X:Cx} {tg iter elt:Expr} {ifs:List Expr} {scope:Scope} {cl:List (Str × Addr)} {N':List Str} {cap:List (Option Nat)} {wi:TI} {pos:Pos}
theorem ps_setDC {i:Nat} {x:Str} {pos' cpos:Pos} {g:TG} {tc:TT} {a b:Expr} {ta tb:TE} (hN:X.N.Nodup) (hi:X.N[i]? = some x) (hx:Loc X.env.scope x) (S:CScope X scope cl N' cap) (hc:X.calm = true) (hI:PI X tg iter wi)
  (hb:∀ (pins:List (Addr × Obj)) (ex:List Addr) (s3:Shared) (H3:Hp),PG (cxC X scope cl N' pins ex s3 H3) tg g/\PTs (cxC X scope cl N' pins ex s3 H3) ifs tc/\PE (cxC X scope cl N' pins ex s3 H3) a ta/\PE (cxC X scope cl N' pins ex s3 H3) b tb)
  (hs:∀ x,foldedSetIterable iter X.env x = pure x:=by intro _; rfl)
  (hsw:swapsWith (.DictComp a b [⟨tg,iter,ifs,0⟩] scope cpos) (some (.Name x pos')) pos.line X.env = pure true:=by rfl)
  (hf:X.fn x = true\/X.env.scope.names.lookup x = some .local:=by first | exact .inl rfl | exact .inr rfl | assumption) :
  PS X (.Assign [.Name x pos'] (.DictComp a b [⟨tg,iter,ifs,0⟩] scope cpos) pos) (tAsg (tComp wi (fun _=>.dK []) cap fun D J σ H Q=>Loop g tc (emDct D ta tb) J σ H Q) (gName i)):=by
 intro pins s σ H D I h
 rw [exec_Assign]
 refine wpAny_bind (wpAny_standAt (wpAny_bind (wpAny_of_eq hsw (wpAny_ite_true rfl (wpAny_bind (wpAny_bind ?_))))))
 refine comp_core (newAcc:=newDict) (p2:=firstIterPos [⟨tg,iter,ifs,0⟩] cpos) rfl (fun _=>.dK []) hs S hc hI (fun pins s σ H Q E I h=>?_) (fun pins ex s3 H3 D it fp tn J σ s H Q R T I st hf h hR=>?_) (fun _ _ _=>rfl) (fun _ _ _=>rfl) I h fun E fp H2 s3 s' σ' H' I3 fok I' q=>?_
 ·refine wpAny_newObj_type ?_
  exact h _ (I.laid (a:=s.heap.objs.size) (o:=.dK []) (t':=s.toks) (fun _ _ q=>Heap.get?_push_of_some _ q) (Nat.le_refl _) (dk_empty s.heap I.big)) fun b ob e=>Heap.get?_push_of_some _ e
 ·obtain ⟨b1,b2,b3,b4⟩:=hb pins ex s3 H3
  exact comp_loop (X:=cxC X scope cl N' pins ex s3 H3) rfl rfl hc rfl (turnE_dict a b tg iter ifs scope cpos _ _ _) b1 b2 (pem_dict rfl b3 b4) T I st hf h hR
 ·have IX:Inv X pins σ H' s':=I3.unblock fok I' ⟨rfl,fun _ _=>rfl⟩
  have fC:FpOk X pins H' s3.heap.objs.size:=I3.fpOk (Nat.le_refl _) I'.free
  obtain ⟨m,hn,_⟩:=I'.loc
  show wpAny _ _ (assign (.Name x pos') X.env (.ref E)) _ _ _
  refine wpAny_assign_Name (store_ok2 (v:=.ref E) IX hN hi hx rfl (fun s2 I2 ⟨a,hsb,ha⟩=>?_) hf)
  have nC:s3.heap.objs.size ≠ a:=by
   rcases ha with rfl | ha
   ·exact fC.2.1
   ·exact (fC.2.2.2.2.1 _ _ ha).symm
  refine ⟨m,?_,fun h' hsb'=>wpAny_pure (wpAny_pure ?_)⟩
  ·obtain ⟨ob,es,ep,e1,r⟩:=hn
   exact ⟨ob,es,ep,(hsb.2 _ nC).trans e1,r⟩
  refine ⟨_,H',?_,q⟩
  have k:∀ b ob,b ∉ [s3.heap.objs.size]->s2.heap.get? b = some ob->h'.get? b = some ob:=fun b ob hb e=>(hsb'.2 b fun z=>hb (List.mem_singleton.mpr z)).trans e
  refine I2.step (h':=h') (H':=H') (t':=s2.toks) (g':=s2.gens) (d':=s2.drawn) (ch:=[s3.heap.objs.size]) (fun b hb=>by rw [List.mem_singleton.mp hb]; exact ⟨fC.2.2.2.1,fC.2.1,fC.2.2.2.2⟩) (fun b ob _ _ hc e _=>k b ob hc e) (fun b ob _ _ hc e _=>⟨ob.slots,k b ob hc e⟩) (fun _ _ _ _ n=>n)
   (fun b ob hc e=>⟨ob,k b ob hc e⟩) (fun _ _ e=>e) (fun _ _ _ e=>e) (fun b ps e=>⟨#[],by rw [e]; simp⟩) (fun m hm=>?_) (fun b u eb=>?_) I2.bare
  ·obtain ⟨ob,es,ep,ho,r⟩:=hm
   exact ⟨ob,es,ep,k _ ob (fun hb=>fC.2.1 (List.mem_singleton.mp hb).symm) ho,r⟩
  ·have nf:∀ b u,H' b = some u->b ∉ [s3.heap.objs.size]:=fun b u e hb=>by rw [List.mem_singleton.mp hb,fC.1] at e; cases e
   refine (I2.hok b u eb).stay (fun c v hc q=>k c v ?_ q) (fun _ q=>q) fun _ _ q=>q
   rcases hc with z | z
   ·rw [z]; exact nf b u eb
   ·exact nf c _ z
end
end L2
namespace L2
open PySem PySem.Spec PyProof.Rows
theorem bt_reversed:bootBuiltins "reversed" = some (.type "reversed"):=by decide +kernel
theorem lri_no_len:typeLookup (.type "list_reverseiterator") "__len__" = pure none:=by rw [typeLookup_type,builtinLookup_eq_fast]; kernel_rfl
theorem lri_hint_at:typeLookup (.type "list_reverseiterator") "__length_hint__" = pure (some (.builtin "list_reverseiterator.__length_hint__")):=by rw [typeLookup_type,builtinLookup_eq_fast]; kernel_rfl
theorem lri_self:isSubtype (.type "list_reverseiterator") (.type "list_reverseiterator") = pure true:=by rw [isSubtype_type]; kernel_rfl
section
variable {P:Program} {w:World} {A:Around} {E:Value->Shared->Prop} {s:Shared}
theorem lri_hint {r:Addr} {Q:Bool->Shared->Prop} (t:s.TypeIs (.ref r) "list_reverseiterator") (q:Q false s):wpAny (model P w) A (Builtin.List.listLengthHint (.ref r)) Q E s:=by
 unfold Builtin.List.listLengthHint
 refine wpAny_bind (wpAny_specialOf t lri_no_len ?_)
 show wpAny _ _ (specialOf (Value.ref r) (Str.ofString "__length_hint__") >>= _) _ _ _
 refine wpAny_bind (wpAny_specialOf t lri_hint_at ?_)
 generalize hi:("list_reverseiterator.__length_hint__":String) = i0
 wp_delta
 rw [show splitId i0 = some ("list_reverseiterator", "__length_hint__") from by subst hi; decide +kernel]
 subst hi
 refine wpAny_bind (wpAny_isInstance (T := "list_reverseiterator") (b:=true) t lri_self ?_)
 refine wpAny_ite_split (fun c=>absurd c (by decide)) fun _=>?_
 refine wpAny_ite_split (fun _=>?_) fun c=>absurd (by decide +kernel) c
 refine wpAny_ite_split (fun c=>absurd c (by decide +kernel)) fun _=>?_
 exact wpAny_pure q
theorem lri_extend {it l S:Addr} {items:Array Value} {res:Value} {c0:Nat} {R:Result->Shared->Prop} (hh:A.handled = none) (n1:S ≠ it) (n2:S ≠ l) (n3:l ≠ it) (hi:s.heap.IsRevIter it l ((items.size:Int) - 1)) (hl:s.heap.IsList l items)
  (hS:s.heap.get? S = some { cls:=.type "list",data:=.seq #[] c0 }) (hn:items.size<=sizeLine)
  (k:∀ h' tk acc c,(∀ b o,b ≠ S->b ≠ it->s.heap.get? b = some o->h'.get? b = some o)->h'.get? S = some { cls:=.type "list",dict:=none,data:=.seq acc c,slots:=#[] }->ItemsOf (fun i v=>items[items.size - 1 - i]? = some v) acc items.size->R (.ok (.ret res)) { s with heap:=h',toks:=tk }) :
  wpAny (model P w) A.in1 (Builtin.List.listExtendWith (.ref S) (.ref it) res) (fun fin s'=>match fin with | .done f=>R (.ok f) s' | .again c'=>c'.quiet = true/\codeAny (model P w) A c' R s') (fun e s'=>R (.error e) s') s:=by
 have fp:S ∉ [it,l]:=fun z=>(List.mem_cons.mp z).elim n1 fun z=>n2 (List.mem_singleton.mp z)
 have e1:Builtin.List.listSameRef (.ref S) (.ref it) = false:=beq_eq_false_iff_ne.mpr n1
 unfold Builtin.List.listExtendWith
 refine wpAny_bind (wpAny_typeOf hi.typeIs ?_)
 refine wpAny_ite_split (fun c=>absurd c (by rw [e1]; decide)) fun _=>?_
 refine wpAny_bind (wpAny_pyIter_revIter hi (wpAny_bind (wpAny_holding (lri_hint hi.typeIs ?_))))
 refine wpAny_ite_split (fun c=>absurd c (by decide +kernel)) fun _=>?_
 refine wpAny_pure ⟨plainId_quiet F.plain_extend_loop _,codeAny_extend_loopS ((Walks.listRev (A:=A.in1) hh it l n3 items).toS) hn S fp res items.size 0 s #[] c0 rfl (Nat.zero_le _) ⟨Nat.zero_le _,?_,hl⟩ hS (ItemsOf.nil _) fun s' acc c hm hS' ha=>?_⟩
 ·rw [show ((0:Nat):Int) = 0 from rfl,Int.sub_zero]; exact hi
 ·rw [Moved.eq_with hm]
  exact k s'.heap s'.toks acc c (fun b o h1 h2 e=>hm.heap b o (fun z=>(List.mem_cons.mp z).elim h1 fun z=>h2 (List.mem_singleton.mp z)) e) hS' ha
theorem lri_init {it l S:Addr} {items:Array Value} {R:Result->Shared->Prop} (hh:A.handled = none) (n1:S ≠ it) (n2:S ≠ l) (n3:l ≠ it) (hi:s.heap.IsRevIter it l ((items.size:Int) - 1)) (hl:s.heap.IsList l items)
  (hS:s.heap.get? S = some { cls:=.type "list",data:=.seq #[] }) (hn:items.size<=sizeLine)
  (k:∀ h' tk acc c,(∀ b o,b ≠ S->b ≠ it->s.heap.get? b = some o->h'.get? b = some o)->h'.get? S = some { cls:=.type "list",dict:=none,data:=.seq acc c,slots:=#[] }->ItemsOf (fun i v=>items[items.size - 1 - i]? = some v) acc items.size->R (.ok (.ret .none)) { s with heap:=h',toks:=tk }) :
  wpAny (model P w) A.in1 (Builtin.«list.__init__» ⟨[.ref S,.ref it],[]⟩) (fun fin s'=>match fin with | .done f=>R (.ok f) s' | .again c'=>c'.quiet = true/\codeAny (model P w) A c' R s') (fun e s'=>R (.error e) s') s:=by
 have oth:∀ b o,b ≠ S->s.heap.get? b = some o->(s.heap.update S (Obj.mapSeq fun _=>(#[]:Array Value))).get? b = some o:=fun b o hb e=>(Heap.get?_update_other _ _ (Ne.symm hb)).trans e
 show wpAny _ A.in1 (Builtin.List.listItems (.ref S) >>= fun old=>updateSeq S (fun _=>#[]) >>= fun _=>letGo old.toList.reverse >>= fun _=>Builtin.List.listExtendWith (.ref S) (.ref it) .none) _ _ s
 unfold Builtin.List.listItems
 refine wpAny_bind (wpAny_bind (wpAny_seqItems hS rfl (wpAny_pure (wpAny_bind (wpAny_updateSeq hS rfl (wpAny_bind (wpAny_letGo ?_)))))))
 exact lri_extend hh n1 n2 n3 (hi.at fun o e=>oth it o (Ne.symm n1) e) (hl.at fun o e=>oth l o (Ne.symm n2) e) (Heap.get?_update_self _ hS rfl) hn fun h' tk acc c kp e ha=>k h' tk acc c (fun b o h1 h2 e'=>kp b o h1 h2 (oth b o h1 e')) e ha
theorem call_list_lri {it l:Addr} {items:Array Value} {Q:Value->Shared->Prop} (hh:A.handled = none) (n3:l ≠ it) (hi:s.heap.IsRevIter it l ((items.size:Int) - 1)) (hl:s.heap.IsList l items) (hn:items.size<=sizeLine)
  (k:∀ h' tk acc c,(∀ b o,b ≠ it->s.heap.get? b = some o->h'.get? b = some o)->h'.get? s.heap.objs.size = some { cls:=.type "list",dict:=none,data:=.seq acc c,slots:=#[] }->ItemsOf (fun i v=>items[items.size - 1 - i]? = some v) acc items.size->Q (.ref s.heap.objs.size) { s with heap:=h',toks:=tk }):wpAny (model P w) A (call (.type "list") [.ref it]) Q E s:=by
 refine callType_codes (Q₁:=fun v s1=>v = .ref s.heap.objs.size/\s1 = { s with heap:=s.heap.push { cls:=.type "list",data:=.seq #[] } }) F.called_list (F.typeCall_list_1 _) F.entry_list_init (code_list_new _ ⟨rfl,rfl⟩) fun v s1 z=>?_
 obtain ⟨rfl,rfl⟩:=z
 have up:∀ b o,s.heap.get? b = some o->(s.heap.push { cls:=.type "list",data:=.seq #[] }).get? b = some o:=fun b o e=>Heap.get?_push_of_some _ e
 obtain ⟨oi,ei,ri⟩:=id hi
 obtain ⟨ol,el,rl⟩:=id hl
 refine ⟨⟨_,Heap.get?_push_size _ rfl,rfl⟩,F.args_list_init_2 _ _,lri_init (A:=A.in1) hh (Nat.ne_of_gt (Heap.lt_size ei)) (Nat.ne_of_gt (Heap.lt_size el)) n3 ⟨oi,up _ _ ei,ri⟩ ⟨ol,up _ _ el,rl⟩ (Heap.get?_push_size _ rfl) hn fun h' tk acc c kp e ha=>?_⟩
 exact ⟨rfl,k h' tk acc c (fun b o hb e'=>kp b o (Nat.ne_of_lt (Heap.lt_size e')) hb (up _ _ e')) e ha⟩
end
section
variable {X:Cx}
noncomputable def tLRev (te:TE):TE:=fun σ H Q=>te σ H fun x H1=>∃ a ys,x = .ref a/\H1 a = some (.lst ys)/\∀ l,H1 l = none->Q (.ref l) (upd H1 l (.lst ys.reverse))
theorem items_rev {us:List Value} {acc:Array Value} (h:ItemsOf (fun i v=>us.toArray[us.toArray.size - 1 - i]? = some v) acc us.toArray.size):acc.toList = us.reverse:=by
 refine List.ext_getElem? fun i=>?_
 obtain ⟨h1,h2⟩:=h
 have h1:acc.toList.length = us.length:=by simpa using h1
 by_cases c:i < us.length
 ·have:us.toArray[us.toArray.size - 1 - i]? = some _:=h2 i _ (Array.getElem?_eq_getElem (by rw [<-Array.length_toList,h1]; exact c))
  rw [List.getElem?_toArray,List.size_toArray] at this
  rw [List.getElem?_reverse c,this,Array.getElem?_toList]
  exact Array.getElem?_eq_getElem _
 ·rw [List.getElem?_eq_none (by omega),List.getElem?_eq_none (by rw [List.length_reverse]; omega)]
theorem pe_lrev {e:Expr} {te:TE} {p p' pos pos':Pos} (hm:X.mg "list" = none) (hm':X.mg "reversed" = none) (he:PE X e te) (hc:X.calm = true:=by rfl) (hg:Gl X "list":=by rfl) (hg':Gl X "reversed":=by rfl)
  (hs:starEach [e] X.env = (false,eval e X.env) :: starEach [] X.env:=by rfl) (hs':starEach [Expr.Call (.Name "reversed" p') [e] [] pos'] X.env = (false,eval (.Call (.Name "reversed" p') [e] [] pos') X.env) :: starEach [] X.env:=by rfl):PE X (.Call (.Name "list" p) [.Call (.Name "reversed" p') [e] [] pos'] [] pos) (tLRev te):=by
 intro pins s σ H Q I h
 refine wpAny_Call_Name_kw (ld_blt I hg hm bt_list ?_ (by decide) (by decide))
 refine callWith_type1 ?_ hs' rfl
 rw [hs']
 refine Calls.spliced_cons ?_
 refine wpAny_Call_Name_kw (ld_blt I hg' hm' bt_reversed ?_ (by decide) (by decide))
 refine callWith_type1 ?_ hs rfl
 rw [hs]
 refine Calls.spliced_cons (thn (he pins s σ H _ I h) fun u s1 ⟨x,H1,I1,rx,a,ys,ex,ea,q⟩=>Calls.spliced_nil ?_)
 subst ex
 obtain rfl:u = Value.ref a:=rx
 obtain ⟨its,n,rv,ho,hz⟩:=I1.lst ea
 have hL:s1.heap.IsList a its.toArray:=⟨_,ho,rfl,n,rfl⟩
 refine call_reversed_list hL (Calls.spliced_nil ?_)
 have na:a ≠ s1.heap.objs.size:=Nat.ne_of_lt (Heap.lt_size ho)
 refine call_list_lri (I1.ok.hd hc) na ⟨_,Heap.get?_push_size _ rfl,rfl,rfl⟩ (hL.at fun o e=>Heap.get?_push_of_some _ e) (by rw [List.size_toArray,<-rv.length]; exact hz) fun h' tk acc c kp e' ha=>?_
 have sz:s1.heap.objs.size<=(s1.heap.push (revObj a ((its.toArray.size:Int) - 1))).objs.size:=by show _<=(Array.push _ _).size; rw [Array.size_push]; exact Nat.le_succ _
 refine ⟨.ref _,_,I1.laid (t':=tk) (fun b o e=>kp b o (Nat.ne_of_lt (Heap.lt_size e)) (Heap.get?_push_of_some _ e)) sz (show ObjOk X.prog X.w _ h' _ (.lst ys.reverse) from ⟨by rw [List.length_reverse]; exact hz,acc.toList,c,by rw [items_rev ha]; exact rv.reverse,by simpa using e'⟩),rfl,q _ (I1.hok.fresh sz)⟩
end
end L2
namespace L2
open PySem PySem.Spec PyProof.Rows
noncomputable def tabKey (tab:List (Addr × List Nat)):Value->Option (List Nat)
 | .ref p=>(tab.find? fun q=>decide (q.1 = p)).map fun q=>q.2
 | _=>none
theorem tabKey_mem {tab:List (Addr × List Nat)} {v:Value} {k:List Nat} (h:tabKey tab v = some k):∃ q ∈ tab,v = .ref q.1/\q.2 = k:=by
 match v,h with
 | .ref p,h =>
  obtain ⟨q,h1,h2⟩:=Option.map_eq_some_iff.mp h
  have e:q.1 = p:=of_decide_eq_true (List.find?_some (p:=fun q:Addr × List Nat=>decide (q.1 = p)) h1)
  exact ⟨q,List.mem_of_find?_eq_some h1,by rw [e],h2⟩
theorem tabKey_some {tab:List (Addr × List Nat)} {q:Addr × List Nat} (h:q ∈ tab):∃ k,tabKey tab (.ref q.1) = some k:=by
 show ∃ k,(tab.find? fun r=>decide (r.1 = q.1)).map (fun r=>r.2) = some k
 cases e:tab.find? fun r=>decide (r.1 = q.1) with
 | none=>exact absurd (decide_eq_true rfl) (List.find?_eq_none.mp e _ h)
 | some r=>exact ⟨_,rfl⟩
@[reducible] noncomputable def tabKind (tab:List (Addr × List Nat)):PyProof.Rows.KeyKind:={ PyProof.Rows.strKind with keyOf:=tabKey tab,dflt:=[] }
theorem refsV {α:Type}:∀ {ps:List (Addr × α)} {us:List Value},Vals (ps.map fun q=>V.ref q.1) us->us = ps.map fun q=>Value.ref q.1
 | [],_,.nil=>rfl
 | _ :: _,_,.cons r t=>by rw [List.map_cons,refsV t]; cases r; rfl
theorem Vrefs {α:Type}:∀ (ps:List (Addr × α)),Vals (ps.map fun q=>V.ref q.1) (ps.map fun q=>Value.ref q.1)
 | []=>.nil
 | _ :: ps=>.cons rfl (Vrefs ps)
end L2
namespace TS
open PySem PyProof.Rows
section
variable {prog:Program} {w:World} {A:Around} {E:Value->Shared->Prop} {s:Shared} {κ:KeyKind} {kd:SortKind}
structure Keys2 (prog:Program) (w:World) (a:Addr) (s:Shared) (κ:KeyKind) (kd:SortKind) (vs:List Value):Prop where
 cmp:∀ (A:Around) (s':Shared),A.units + 4 < cLine->Ext a s s'->Cmp prog w A s' κ kd
 key:∀ v ∈ vs,∃ k,κ.keyOf v = some k
 kind:2<=vs.length->∀ (A:Around) (E:Value->Shared->Prop) (s':Shared) (Q:SortKind->Shared->Prop),Ext a s s'->Q kd s'->wpAny (model prog w) A (keyKind' vs.toArray) Q E s'
theorem list_sort_gen2 {a:Addr} {vs:List Value} {n:Nat} {P:Fin->Shared->Prop} (hu:A.units + 4 < cLine) (ho:s.heap.get? a = some (seqObj "list" vs.toArray n)) (hz:vs.length<=sizeLine) (K:Keys2 prog w a s κ kd vs)
  (h:∀ out:Array Value,Out κ vs out->P (.done (.ret .none)) { s with heap:=sortedHeap s.heap a vs out }) :
  wpAny (model prog w) A (Builtin.«list.sort» ⟨[.ref a],[]⟩) P E s:=by
 rw [list_sort_plain]
 have ha:a < s.heap.objs.size:=Heap.lt_size ho
 have hsz:vs.toArray.size = vs.length:=by simp
 refine wpAny_bind (listItems_at ho rfl ?_)
 refine wpAny_bind (listUpdate_at ho rfl ?_ (by rw [hsz]; exact hz) (by simp))
 obtain ⟨e1,ho1⟩:∃ e1,(s.heap.update a (Obj.mapSeq fun _=>#[])).get? a = some (seqObj "list" #[] e1):=⟨_,get?_update_seq ho (fun _=>#[])⟩
 refine wpAny_bind (seqEpoch_at ho1 rfl ?_)
 refine wpAny_bind (wpAny_newTuple ?_ (by simpa using hz))
 refine wpAny_bind (wpAny_newList ?_)
 refine wpAny_holding ?_
 have ho6:(((s.heap.update a (Obj.mapSeq fun _=>#[])).push (seqObj "tuple" vs.toArray 0)).push (seqObj "list" #[] 0)).get? a = some (seqObj "list" #[] e1):=by
  rw [Heap.get?_push_ne _ _ _ (by rw [size_push',Heap.size_update]; exact Nat.ne_of_lt (Nat.lt_succ_of_lt ha)),Heap.get?_push_ne _ _ _ (by rw [Heap.size_update]; exact Nat.ne_of_lt ha)]
  exact ho1
 show wpAny (model prog w) A _ P E { s with heap:=((s.heap.update a (Obj.mapSeq fun _=>#[])).push (seqObj "tuple" vs.toArray 0)).push (seqObj "list" #[] 0) }
 dsimp only
 have hE:Ext a s { s with heap:=((s.heap.update a (Obj.mapSeq fun _=>#[])).push (seqObj "tuple" vs.toArray 0)).push (seqObj "list" #[] 0) }:=fun b o hb e =>
  Heap.get?_push_of_some _ (Heap.get?_push_of_some _ ((Heap.get?_update_other s.heap _ (Ne.symm hb)).trans e))
 by_cases h2:vs.toArray.size < 2
 ·rw [if_pos h2,if_pos h2]
  refine wpAny_bind (wpAny_pure ?_)
  rw [StateT.run_pure]
  refine wpAny_bind (wpAny_pure ?_)
  dsimp only
  refine wpAny_bind (seqEpoch_at ho6 rfl ?_)
  refine wpAny_bind (listUpdate_at ho6 rfl ?_ (by simp) (by rw [Array.size_map]; show (pairsOf vs).size<=_; rw [pairsOf_size]; omega))
  simp only [bne_self_eq_false,Bool.false_eq_true,if_false]
  refine wpAny_pure (h _ (out_of (κ:=κ) (xs:=pairsOf vs) (List.Perm.refl _) ?_))
  rw [pairsOf_toList]
  rw [hsz] at h2
  match vs,h2 with
  | [],_=>exact List.Pairwise.nil
  | [v],_=>exact List.pairwise_singleton _ _
  | _ :: _ :: _,h2=>simp at h2; omega
 ·rw [if_neg h2,if_neg h2]
  refine wpAny_bind (K.kind (by omega) A E _ _ hE ?_)
  refine wpAny_bind (wpAny_mono (wpS_sortRunsA (K.cmp A _ hu hE) (a₀:=pairsOf vs) (st:=SortSt.mk' kd (vs.toArray.zip vs.toArray) #[] 7 none)
   (Q:=fun _ st'=>St κ kd (pairsOf vs) st'/\Sor κ (arrOf st').toList)
   (fun p hp=>?_) ⟨List.Perm.refl _,rfl,rfl⟩ rfl fun st' a1 a2=>⟨a1,a2⟩) ?_ fun _ _ e=>e)
  ·rw [pairsOf_toList] at hp
   exact K.key _ (mem_zip_self hp).2
  rintro ⟨⟨⟩,st'⟩ s' ⟨rfl,hp,hs⟩
  dsimp only
  refine wpAny_bind (seqEpoch_at ho6 rfl ?_)
  refine wpAny_bind (listUpdate_at ho6 rfl ?_ (by simp) (by rw [Array.size_map]; show (arrOf st').size<=_; rw [hp.size,pairsOf_size]; omega))
  rw [show failedOf st' = none from hp.failed]
  simp only [bne_self_eq_false,Bool.false_eq_true,if_false]
  exact wpAny_pure (h _ (out_of hp.perm hs))
theorem sorted_gen2 {x:Value} {Q:Value->Shared->Prop} (hu:A.units + 6 < cLine)
  (hc:wpAny (model prog w) A.in1 (collect x) (fun vs s1=>s1.os = s.os/\vs.length<=sizeLine/\(∃ (κ:KeyKind) (kd:SortKind),(∀ s2:Shared,Ext s1.heap.objs.size s1 s2->Keys2 prog w s1.heap.objs.size s2 κ kd vs) /\
   ∀ (out:Array Value) (h':Heap) (e:Nat),Out κ vs out->(∀ b o,s1.heap.get? b = some o->h'.get? b = some o)->h'.get? s1.heap.objs.size = some (seqObj "list" out e)->Q (.ref s1.heap.objs.size) { s1 with heap:=h' })) E s) :
  wpAny (model prog w) A (call (.builtin "sorted") [x]) Q E s:=by
 refine Calls.call_function_entry kind_sorted plain_sorted entry_sorted (args_sorted1 _) ?_
 unfold Builtin.«sorted»
 refine wpAny_bind (m:=checkCount "sorted" 1 1 _) (wpAny_pure ?_)
 refine wpAny_bind (wpAny_mono hc (fun vs s1 ⟨eos,hz,κ,kd,K,q⟩=>?_) fun _ _ z=>z)
 refine wpAny_bind (wpAny_newList ?_)
 have hoL:(s1.heap.push (seqObj "list" vs.toArray 0)).get? s1.heap.objs.size = some (seqObj "list" vs.toArray 0):=Heap.get?_push_size _ rfl
 show wpAny _ _ _ _ _ { s1 with heap:=s1.heap.push (seqObj "list" vs.toArray 0) }
 have hE:Ext s1.heap.objs.size s1 { s1 with heap:=s1.heap.push (seqObj "list" vs.toArray 0) }:=fun b o _ e=>Heap.get?_push_of_some _ e
 refine wpAny_bind (wpAny_holding (wpAny_call_entry slot_list_sort ⟨_,hoL,rfl⟩ entry_list_sort (list_sort_gen2 (s:={ s1 with heap:=s1.heap.push (seqObj "list" vs.toArray 0) }) (by simp only [Around.in1_units]; omega) hoL hz (K _ hE) fun out ho=>⟨_,rfl,?_⟩) (args_list_sort _)))
 obtain ⟨e,he⟩:=sortedHeap_at (h:=s1.heap.push (seqObj "list" vs.toArray 0)) (out:=out) hoL
 refine wpAny_pure ⟨_,rfl,q out _ e ho (fun b o eb=>?_) he⟩
 have hlt:=Heap.lt_size eb
 rw [sortedHeap_old (Nat.ne_of_lt hlt) (by rw [size_push']; exact Nat.lt_succ_of_lt hlt)]
 exact Heap.get?_push_of_some _ eb
open PySem.SeqAt PySem.MeetsSeq PySem.MeetsSeq3
open AutoSeq1 (wpAny_loadPart')
theorem lt_loop_same (l b:Addr) (items:Array Value) (n n2:Nat) (hs:∀ v ∈ items,∃ x t,v = Value.str x t) (items2:Array Value) (hz:items2.size = items.size) (h2:∀ (j:Nat) (x:Str) (t:Tok),items[j]? = some (.str x t)->∃ u,items2[j]? = some (.str x u)) (k:Nat) :
  ∀ i:Nat,items.size - i = k->Meets (Builtin.«list.__eq__.loop» ⟨[.ref l,.ref b,rawInt i,rawInt 0],[]⟩)
   (fun A R s=>s.heap.get? l = some (seqObj "list" items n)/\s.heap.get? b = some (seqObj "list" items2 n2)/\R (.ok (.ret (.bool false))) s):=by
 induction k with
 | zero =>
  intro i hk prog w A R s h
  obtain ⟨hp,g,d,tk,os⟩:=s; obtain ⟨hl,hb,h⟩:=h
  wp_walk using wpAny_loadPart' hl,wpAny_loadPart' hb
  have hi1:items[((i:Nat):Int).toNat]? = none:=by simp; omega
  have hi2:items2[((i:Nat):Int).toNat]? = none:=by simp; omega
  rw [hi1,hi2]
  wp_walk using wpAny_loadPart' hl,wpAny_loadPart' hb
  show R (.ok (.ret (.bool (decide (items.size < items2.size))))) _
  rw [hz]
  simpa using h
 | succ k ih =>
  intro i hk prog w A R s h
  obtain ⟨hp,g,d,tk,os⟩:=s; obtain ⟨hl,hb,h⟩:=h
  wp_walk using wpAny_loadPart' hl,wpAny_loadPart' hb
  have hlt:i < items.size:=by omega
  have hi1:items[((i:Nat):Int).toNat]? = some items[i]:=by simp [hlt]
  obtain ⟨x,t,ex⟩:=hs items[i] (Array.getElem_mem hlt)
  obtain ⟨u,eu⟩:=h2 i x t (by rw [Array.getElem?_eq_getElem hlt,ex])
  have hi2:items2[((i:Nat):Int).toNat]? = some (.str x u):=by simpa using eu
  have hc:((i:Int) + 1) = ((i + 1:Nat):Int):=by push_cast; rfl
  rw [hi1,hi2,ex]
  refine wpAny_bind (wpAny_eqBool_str ?_)
  rw [decide_eq_true rfl]
  wp_walk
  rw [hc]
  exact ⟨plainId_quiet plain_eq_loop _,codeAny_builtin entry_eq_loop (by
   rw [Around.under_plainId plain_eq_loop _]
   exact ih (i + 1) (by omega) prog w A R _ ⟨hl,hb,h⟩)⟩
theorem lt_loop_first (l b:Addr) (items items2:Array Value) (n n2:Nat) (x y:Str) (t u:Tok) (hx:items[0]? = some (.str x t)) (hy:items2[0]? = some (.str y u)) (ne:x ≠ y) :
  Meets (Builtin.«list.__eq__.loop» ⟨[.ref l,.ref b,rawInt (0:Nat),rawInt 0],[]⟩)
   (fun A R s=>s.heap.get? l = some (seqObj "list" items n)/\s.heap.get? b = some (seqObj "list" items2 n2)/\R (.ok (.ret (.bool (decide (x.cps.toList < y.cps.toList))))) s):=by
 intro prog w A R s h
 obtain ⟨hp,g,d,tk,os⟩:=s; obtain ⟨hl,hb,h⟩:=h
 wp_walk using wpAny_loadPart' hl,wpAny_loadPart' hb
 have hx':items[((0:Nat):Int).toNat]? = some (.str x t):=hx
 have hy':items2[((0:Nat):Int).toNat]? = some (.str y u):=hy
 rw [hx',hy']
 refine wpAny_bind (wpAny_eqBool_str ?_)
 rw [decide_eq_false ne]
 wp_walk using wpAny_loadPart' hl,wpAny_loadPart' hb
 rw [hx',hy']
 show wpAny _ _ (richCompare CmpOp.Lt (.str x t) (.str y u) >>= fun r=>ret r) _ _ _
 refine wpAny_bind (wpAny_richCompare_same (typeIs_str _ _ _) (typeIs_str _ _ _) slot_str_lt (call_str_lt ⟨(by intro z; cases z),wpAny_pure h⟩) rfl)
theorem list_lt_same (l b:Addr) (items items2:Array Value) (n n2:Nat) (hs:∀ v ∈ items,∃ x t,v = Value.str x t) (hz:items2.size = items.size) (h2:∀ (j:Nat) (x:Str) (t:Tok),items[j]? = some (.str x t)->∃ u,items2[j]? = some (.str x u)) :
  Meets (Builtin.«list.__lt__» ⟨[.ref l,.ref b],[]⟩)
   (fun A R s=>s.heap.get? l = some (seqObj "list" items n)/\s.heap.get? b = some (seqObj "list" items2 n2)/\R (.ok (.ret (.bool false))) s):=by
 intro prog w A R s h
 obtain ⟨hp,g,d,tk,os⟩:=s; obtain ⟨hl,hb,h⟩:=h
 have f3:=AutoSeq1.sub_list_list
 wp_walk using wpAny_loadPart' hl,wpAny_loadPart' hb
 exact ⟨plainId_quiet plain_eq_loop _,codeAny_builtin entry_eq_loop (by
  rw [Around.under_plainId plain_eq_loop _]
  exact lt_loop_same l b items n n2 hs items2 hz h2 _ 0 rfl prog w A R _ ⟨hl,hb,h⟩)⟩
theorem list_lt_first (l b:Addr) (items items2:Array Value) (n n2:Nat) (x y:Str) (t u:Tok) (hx:items[0]? = some (.str x t)) (hy:items2[0]? = some (.str y u)) (ne:x ≠ y) :
  Meets (Builtin.«list.__lt__» ⟨[.ref l,.ref b],[]⟩)
   (fun A R s=>s.heap.get? l = some (seqObj "list" items n)/\s.heap.get? b = some (seqObj "list" items2 n2)/\R (.ok (.ret (.bool (decide (x.cps.toList < y.cps.toList))))) s):=by
 intro prog w A R s h
 obtain ⟨hp,g,d,tk,os⟩:=s; obtain ⟨hl,hb,h⟩:=h
 have f3:=AutoSeq1.sub_list_list
 wp_walk using wpAny_loadPart' hl,wpAny_loadPart' hb
 exact ⟨plainId_quiet plain_eq_loop _,codeAny_builtin entry_eq_loop (by
  rw [Around.under_plainId plain_eq_loop _]
  exact lt_loop_first l b items items2 n n2 x y t u hx hy ne prog w A R _ ⟨hl,hb,h⟩)⟩
theorem oneLt_lists {l b:Addr} {items items2:Array Value} {n n2:Nat} {r:Bool} {Q:Bool->Shared->Prop} (hu:A.units < cLine) (hl:s.heap.get? l = some (seqObj "list" items n)) (hb:s.heap.get? b = some (seqObj "list" items2 n2))
  (hm:Meets (Builtin.«list.__lt__» ⟨[.ref l,.ref b],[]⟩) (fun A R s=>s.heap.get? l = some (seqObj "list" items n)/\s.heap.get? b = some (seqObj "list" items2 n2)/\R (.ok (.ret (.bool r))) s)) (h:Q r s) :
  wpAny (model prog w) A (oneLt' true (.ref l) (.ref b)) Q E s:=by
 rw [oneLt'_eq]
 simp only [if_true]
 refine wpAny_bind (wpAny_cRoomFor hu ?_)
 refine wpAny_bind (wpAny_callSpecialIfBound?_slot (T := "list") ⟨_,hl,rfl⟩ F.slot_list_lt (call_meets F.slot_list_lt ⟨_,hl,rfl⟩ F.entry_list_lt (F.args_list_lt_2 _ _) hm ⟨hl,hb,?_⟩))
 exact wpAny_truthy_bool h
end
end TS
namespace L2
open PySem PySem.Spec PyProof.Rows
noncomputable def hdS (l:List Str):List Nat:=(l.head?.map fun x=>x.cps.toList).getD []
noncomputable def tabL (ts:List (Addr × List Str)):List (Addr × List Nat):=ts.map fun q=>(q.1,hdS q.2)
structure LLs (ts:List (List Str)):Prop where
 ne:∀ q ∈ ts,q ≠ []
 one:∀ q ∈ ts,∀ r ∈ ts,q.head? = r.head?->q = r
noncomputable def LAt (h:Heap) (p:Addr) (us:List Value):Prop:=∃ n,h.get? p = some (seqObj "list" us.toArray n)
theorem strs_inj:∀ {a b:List Str},a.map V.str = b.map V.str->a = b
 | [],[],_=>rfl
 | [],_ :: _,h=>(by cases h)
 | _ :: _,[],h=>(by cases h)
 | x :: r,y :: t,h=>by
  rw [List.map_cons,List.map_cons] at h
  injection h with h1 h2
  injection h1 with h1
  rw [h1,strs_inj h2]
theorem hd_at {l:List Str} (h:l ≠ []) {us:List Value} (r:Vals (l.map V.str) us):∃ x t,l.head? = some x/\us.toArray[0]? = some (.str x t):=by
 cases l with
 | nil=>exact absurd rfl h
 | cons x r' =>
  cases r with
  | cons r1 r2 =>
   obtain ⟨t,rfl⟩:=r1
   exact ⟨x,t,rfl,rfl⟩
theorem vals_at {l:List Str} {us:List Value} (r:Vals (l.map V.str) us):(∀ v ∈ us.toArray,∃ x t,v = Value.str x t)/\∀ us':List Value,Vals (l.map V.str) us'->us'.toArray.size = us.toArray.size/\∀ (j:Nat) (x:Str) (t:Tok),us.toArray[j]? = some (.str x t)->∃ u,us'.toArray[j]? = some (.str x u):=by
 induction l generalizing us with
 | nil =>
  cases r
  refine ⟨fun v hv=>(by simp at hv),fun us' r'=>?_⟩
  cases r'
  exact ⟨rfl,fun j x t h=>(by simp at h)⟩
 | cons y l ih =>
  cases r with
  | cons r1 r2 =>
   obtain ⟨t0,rfl⟩:=r1
   obtain ⟨h1,h2⟩:=ih r2
   refine ⟨fun v hv=>?_,fun us' r'=>?_⟩
   ·rw [List.mem_toArray] at hv
    rcases List.mem_cons.mp hv with rfl | hv
    ·exact ⟨y,t0,rfl⟩
    ·exact h1 v (List.mem_toArray.mpr hv)
   ·cases r' with
    | cons r1' r2' =>
     obtain ⟨t1,rfl⟩:=r1'
     obtain ⟨e1,e2⟩:=h2 _ r2'
     simp only [List.size_toArray] at e1
     refine ⟨by simp only [List.size_toArray,List.length_cons,e1],fun j x t h=>?_⟩
     cases j with
     | zero =>
      simp only [List.getElem?_toArray,List.getElem?_cons_zero,Option.some.injEq,Value.str.injEq] at h
      exact ⟨t1,by simp [h.1]⟩
     | succ j =>
      simp only [List.getElem?_toArray,List.getElem?_cons_succ] at h ⊢
      exact by simpa using e2 j x t (by simpa using h)
theorem keys_lists {P:Program} {w:World} {s:Shared} {a:Addr} {ts:List (Addr × List Str)} {h0:Heap} (ll:LLs (ts.map fun q=>q.2)) (hv:∀ q ∈ ts,∃ us,Vals (q.2.map V.str) us/\LAt h0 q.1 us) (hk:∀ b o,h0.get? b = some o->b ≠ a/\s.heap.get? b = some o) :
  TS.Keys2 P w a s (tabKind (tabL ts)) oneType' (ts.map fun q=>Value.ref q.1):=by
 refine ⟨fun A s' hu hE=>⟨fun x y k l Q E hx hy q=>?_⟩,fun v hvm=>?_,fun h2 A E s' Q hE q=>?_⟩
 ·obtain ⟨_,m1,rfl,rfl⟩:=tabKey_mem hx
  obtain ⟨_,m2,rfl,rfl⟩:=tabKey_mem hy
  obtain ⟨x,mx,rfl⟩:=List.mem_map.mp m1
  obtain ⟨y,my,rfl⟩:=List.mem_map.mp m2
  obtain ⟨us,v1,n1,e1⟩:=hv x mx
  obtain ⟨vs,v2,n2,e2⟩:=hv y my
  have nx:x.2 ≠ []:=ll.ne _ (List.mem_map.mpr ⟨x,mx,rfl⟩)
  have ny:y.2 ≠ []:=ll.ne _ (List.mem_map.mpr ⟨y,my,rfl⟩)
  obtain ⟨a,t,ha,ia⟩:=hd_at nx v1
  obtain ⟨b,u,hb,ib⟩:=hd_at ny v2
  have q:Q (decide (a.cps.toList < b.cps.toList)) s':=by
   have q:Q (decide (hdS x.2 < hdS y.2)) s':=q
   unfold hdS at q
   rw [ha,hb] at q
   exact q
  have e1':=hE _ _ (hk _ _ e1).1 (hk _ _ e1).2
  have e2':=hE _ _ (hk _ _ e2).1 (hk _ _ e2).2
  rw [keyLt'_oneType]
  by_cases c:a = b
  ·subst c
   have exy:x.2 = y.2:=ll.one _ (List.mem_map.mpr ⟨x,mx,rfl⟩) _ (List.mem_map.mpr ⟨y,my,rfl⟩) (ha.trans hb.symm)
   rw [<-exy] at v2
   obtain ⟨w1,w2⟩:=vals_at v1
   obtain ⟨z1,z2⟩:=w2 _ v2
   rw [decide_eq_false (List.lt_irrefl _)] at q
   exact TS.oneLt_lists (by omega) e1' e2' (TS.list_lt_same _ _ _ _ _ _ w1 z1 z2) q
  ·exact TS.oneLt_lists (by omega) e1' e2' (TS.list_lt_first _ _ _ _ _ _ a b t u ia ib c) q
 ·obtain ⟨q,hq,rfl⟩:=List.mem_map.mp hvm
  exact tabKey_some (q:=(q.1,hdS q.2)) (List.mem_map.mpr ⟨q,hq,rfl⟩)
 ·refine PySem.W.kas_kind (T:=.type "list") h2 (fun v hvm=>?_) (by decide) (by decide) q
  obtain ⟨q,hq,rfl⟩:=List.mem_map.mp hvm
  obtain ⟨us,v1,n1,e1⟩:=hv q hq
  exact (PySem.W.Looks.ld (hE _ _ (hk _ _ e1).1 (hk _ _ e1).2)).andThen .now
section
variable {X:Cx}
noncomputable def rSortLL (K:PySem.W.Frag):List V->Hp->VK->Prop:=fun xs H Q=>∃ (p:Addr) (ts:List (Addr × List Str)),xs = [.ref p]/\SqL K H p (ts.map fun q=>V.ref q.1)/\(∀ q ∈ ts,H q.1 = some (.lst (q.2.map V.str)))/\LLs (ts.map fun q=>q.2) /\
  ∀ (l:Addr) (ts':List (Addr × List Str)),H l = none->ts'.Perm ts->ts'.Pairwise (fun a b=>¬ hdS b.2 < hdS a.2)->Q (.ref l) (upd H l (.lst (ts'.map fun q=>V.ref q.1)))
theorem call_sortedLL (hu:X.A.units + 64 < cLine):CallR X (.builtin "sorted") (rSortLL X.K):=by
 intro pins s σ H xs us Q I r h
 obtain ⟨p,ts,rfl,hq,hpi,ll,q⟩:=h
 obtain ⟨u,rfl,ru⟩:=vals1 r
 cases ru
 obtain ⟨its,rv,pl,hz⟩:=I.list hq
 have ei:=refsV rv
 have hl:=rv.length
 refine TS.sorted_gen2 (by omega) (collect_list (vs:=its) pl.isList ?_ (by omega))
 have hsz:((s.heap.push (seqObj "list" #[] 0)).update s.heap.objs.size (Obj.mapSeq (· ++ its.toArray))).objs.size = s.heap.objs.size + 1:=by rw [Heap.size_update,size_push']
 have hk1:∀ b o,s.heap.get? b = some o->((s.heap.push (seqObj "list" #[] 0)).update s.heap.objs.size (Obj.mapSeq (· ++ its.toArray))).get? b = some o:=fun b o eb=>by
  rw [Heap.get?_update_ne _ _ _ _ (Nat.ne_of_lt (Heap.lt_size eb))]
  exact Heap.get?_push_of_some _ eb
 have hpa:∀ q ∈ ts,∃ us,Vals (q.2.map V.str) us/\LAt s.heap q.1 us:=fun q hq=>by
  obtain ⟨z,its,n,rv,e⟩:=I.hok _ _ (hpi q hq)
  exact ⟨its,rv,n,e⟩
 refine ⟨rfl,by omega,tabKind (tabL ts),oneType',fun s2 hE=>?_,fun out h' e ho k hg=>?_⟩
 ·rw [ei]
  refine keys_lists ll hpa fun b o eb=>?_
  rw [<-ei]
  have hne:b ≠ ((s.heap.push (seqObj "list" #[] 0)).update s.heap.objs.size (Obj.mapSeq (· ++ its.toArray))).objs.size:=by
   rw [hsz]
   exact Nat.ne_of_lt (Nat.lt_succ_of_lt (Heap.lt_size eb))
  exact ⟨hne,hE b o hne (hk1 b o eb)⟩
 ·obtain ⟨hp,hs⟩:=ho
  rw [ei] at hp
  obtain ⟨ts',h1,h2⟩:=perm_map_inv (fun q:Addr × List Str=>Value.ref q.1) hp ts rfl
  have ky:∀ q ∈ ts,tabKey (tabL ts) (.ref q.1) = some (hdS q.2):=fun q hq=>by
   obtain ⟨k,e⟩:=tabKey_some (tab:=tabL ts) (q:=(q.1,hdS q.2)) (List.mem_map.mpr ⟨q,hq,rfl⟩)
   obtain ⟨_,m,e1,e2⟩:=tabKey_mem e
   obtain ⟨r,mr,rfl⟩:=List.mem_map.mp m
   have e1:q.1 = r.1:=Value.ref.inj e1
   have e3:=(hpi q hq).symm.trans ((congrArg H e1).trans (hpi r mr))
   have e4:q.2 = r.2:=strs_inj (HO.lst.inj (Option.some.inj e3))
   rw [e,<-e2,e4]
  have hpw:ts'.Pairwise (fun a b=>¬ hdS b.2 < hdS a.2):=by
   rw [h2,List.pairwise_map] at hs
   refine (List.Pairwise.and_mem.mp hs).imp fun {a b} ⟨ha,hb,z⟩=>?_
   have z':decide (((tabKey (tabL ts) (.ref b.1)).getD []) < ((tabKey (tabL ts) (.ref a.1)).getD [])) = false:=z
   rw [ky a (h1.mem_iff.mp ha),ky b (h1.mem_iff.mp hb)] at z'
   exact of_decide_eq_false z'
  have hn:H (s.heap.objs.size + 1) = none:=I.hok.fresh (Nat.le_succ _)
  have hg':h'.get? (s.heap.objs.size + 1) = some (seqObj "list" out e):=by rw [<-hsz]; exact hg
  refine ⟨.ref (s.heap.objs.size + 1),upd H (s.heap.objs.size + 1) (.lst (ts'.map fun q=>V.ref q.1)),?_,by show Value.ref _ = _; rw [<-hsz],q _ _ hn h1 hpw⟩
  refine I.laid (t':=s.toks) (fun b o eb=>k b o (hk1 b o eb)) (Nat.le_succ _) ⟨?_,out.toList,e,by rw [h2]; exact Vrefs ts',by simpa using hg'⟩
  rw [List.length_map,h1.length_eq]
  rw [List.length_map] at hz
  exact hz
theorem cl_sortLL (K:PySem.W.Frag) (hu:X.A.units + 64 < cLine) (hK:X.K = K:=by rfl):CallR X (.builtin "sorted") (rSortLL K):=by subst hK; exact call_sortedLL hu
end
end L2
namespace Sw
open PySem L2
noncomputable def top (i:Nat):Stmt:=PySem.Challenge.pw_strikeweave_k08_rings_lead_on.main.body.getD i (.Pass ⟨0,0,0,0⟩)
noncomputable abbrev s_is_name:Stmt:=top 9
noncomputable abbrev s_check_names:Stmt:=top 10
noncomputable abbrev s_check_strikes:Stmt:=top 11
noncomputable abbrev s_is_strike:Stmt:=top 12
noncomputable abbrev s_part_of:Stmt:=top 13
noncomputable abbrev s_behind:Stmt:=top 14
noncomputable abbrev s_ahead_of:Stmt:=top 15
noncomputable abbrev s_reached:Stmt:=top 16
noncomputable abbrev s_parts:Stmt:=top 17
noncomputable abbrev s_rings:Stmt:=top 18
noncomputable abbrev s_to_and_from:Stmt:=top 19
noncomputable abbrev s_law_mix:Stmt:=top 21
noncomputable abbrev s_law_left:Stmt:=top 22
noncomputable abbrev s_law_pick:Stmt:=top 23
noncomputable abbrev s_law_same:Stmt:=top 24
noncomputable abbrev s_law_closed:Stmt:=top 25
noncomputable abbrev s_law_drawn:Stmt:=top 26
noncomputable abbrev s_law:Stmt:=top 27
noncomputable abbrev s_Web___init__:Stmt:=inClass (top 8) 0
noncomputable abbrev s_Web_all_names:Stmt:=inClass (top 8) 1
noncomputable abbrev s_Web_all_strikes:Stmt:=inClass (top 8) 2
noncomputable abbrev s_Web_strikers:Stmt:=inClass (top 8) 3
noncomputable abbrev s_Web_struck:Stmt:=inClass (top 8) 4
noncomputable abbrev s_Web_check_has:Stmt:=inClass (top 8) 5
structure Tx (K:PySem.W.Frag) (mg:Str->Option Value) where
 is_name:Fn K mg "is_name" s_is_name ["thing"]
 check_names:Fn K mg "check_names" s_check_names ["names"]
 check_strikes:Fn K mg "check_strikes" s_check_strikes ["names", "strikes"]
 is_strike:Fn K mg "is_strike" s_is_strike ["names", "thing"]
 part_of:Fn K mg "part_of" s_part_of ["web", "some"]
 behind:Fn K mg "behind" s_behind ["web", "some"]
 ahead_of:Fn K mg "ahead_of" s_ahead_of ["web", "some"]
 reached:Fn K mg "reached" s_reached ["steps", "some"]
 parts:Fn K mg "parts" s_parts ["web"]
 rings:Fn K mg "rings" s_rings ["web"]
 to_and_from:Fn K mg "to_and_from" s_to_and_from ["web", "name"]
 law_mix:Fn K mg "_law_mix" s_law_mix ["_law_cell", "_law_k"]
 law_left:Fn K mg "_law_left" s_law_left ["_law_script", "_law_k"]
 law_pick:Fn K mg "_law_pick" s_law_pick ["_law_left_here", "_law_many"]
 law_same:Fn K mg "_law_same" s_law_same ["_law_found", "_law_due"]
 law_closed:Fn K mg "_law_closed" s_law_closed ["_law_some", "_law_strikes", "_law_turned"]
 law_drawn:Fn K mg "_law_drawn" s_law_drawn ["_law_left_here"]
 CWeb:Addr
 clWeb:Cls K CWeb
 mgWeb:mg "Web" = some (.ref CWeb)
 nWeb_names:NoAttr K CWeb "names"
 nWeb_strikes:NoAttr K CWeb "strikes"
 nWeb_strikers_by_name:NoAttr K CWeb "strikers_by_name"
 nWeb_struck_by_name:NoAttr K CWeb "struck_by_name"
 fWeb___init__:Addr
 fdWeb___init__:FuncData
 FWeb___init__:Fun K "__init__" "Web.__init__" s_Web___init__ fWeb___init__ fdWeb___init__
 bWeb___init__:Binds K fdWeb___init__ ["self", "names", "strikes"] []
 mkWeb:Mk K CWeb fWeb___init__
 mWeb_all_names:Mt K CWeb "all_names" "Web.all_names" s_Web_all_names ["self"]
 mWeb_all_strikes:Mt K CWeb "all_strikes" "Web.all_strikes" s_Web_all_strikes ["self"]
 mWeb_strikers:Mt K CWeb "strikers" "Web.strikers" s_Web_strikers ["self", "name"]
 mWeb_struck:Mt K CWeb "struck" "Web.struck" s_Web_struck ["self", "name"]
 mWeb_check_has:Mt K CWeb "check_has" "Web.check_has" s_Web_check_has ["self", "name"]
 gLETTERS:∃ t,mg "LETTERS" = some (.str "abcdefghijklmnopqrstuvwxyz" t)
 gLONGEST_NAME:∃ t,mg "LONGEST_NAME" = some (.int 8 t)
 b_len:mg "len" = none
 b_range:mg "range" = none
 b_enumerate:mg "enumerate" = none
 b_zip:mg "zip" = none
 b_min:mg "min" = none
 b_max:mg "max" = none
 b_abs:mg "abs" = none
 b_sorted:mg "sorted" = none
 b_reversed:mg "reversed" = none
 b_int:mg "int" = none
 b_str:mg "str" = none
 b_bool:mg "bool" = none
 b_list:mg "list" = none
 b_tuple:mg "tuple" = none
 b_set:mg "set" = none
 b_isinstance:mg "isinstance" = none
 b_all:mg "all" = none
end Sw
namespace L2
open PySem
theorem for_asG {J:It} {xs:List V} {a:Addr} {H0:Hp} (as:AsSeq J xs a H0) {g:TG} {tb:TS} {D:Ends} {σ:St} {H:Hp} (Pv:Nat->St->Hp->Prop) (h0:Pv 0 σ H) (hk:∀ i σ H,i<=xs.length->Pv i σ H->KeepAt a H0 H)
  (hs:∀ i σ H x,xs[i]? = some x->Pv i σ H->∀ D':Ends,(∀ σ' H',Pv (i + 1) σ' H'->D'.nx σ' H')->D'.rt = D.rt->g x σ H fun σ2 H2=>tb D' σ2 H2) (hd:∀ σ H,Pv xs.length σ H->D.nx σ H) :
  ∃ W:Nat->Nat->St->Hp->Prop,(∃ m,W 0 m σ H)/\∀ i m σ H,W i m σ H ->
   (J.stop i H/\D.nx σ H)\/(J.go i H/\∃ N:St->Hp->Prop,(∀ σ' H',N σ' H'->∃ m',m' < m/\W (i + 1) m' σ' H')/\∀ x H',J.yld i H x H'->g x σ H' fun σ2 H2=>tb { D with nx:=N,ct:=N,bk:=D.nx } σ2 H2) :=
 for_as as Pv h0 hk (fun i σ H x hx hp=>hs i σ H x hx hp _ (fun _ _ z=>z) rfl) hd
theorem for_rangeG {lo:Int} {n:Nat} {g:TG} {tb:TS} {D:Ends} {σ:St} {H:Hp} (Pv:Nat->St->Hp->Prop) (h0:Pv 0 σ H)
  (hs:∀ i σ H,i < n->Pv i σ H->∀ D':Ends,(∀ σ' H',Pv (i + 1) σ' H'->D'.nx σ' H')->D'.rt = D.rt->g (.int (lo + i)) σ H fun σ2 H2=>tb D' σ2 H2) (hd:∀ σ H,Pv n σ H->D.nx σ H) :
  ∃ W:Nat->Nat->St->Hp->Prop,(∃ m,W 0 m σ H)/\∀ i m σ H,W i m σ H ->
   ((Itr lo n).stop i H/\D.nx σ H)\/((Itr lo n).go i H/\∃ N:St->Hp->Prop,(∀ σ' H',N σ' H'->∃ m',m' < m/\W (i + 1) m' σ' H')/\∀ x H',(Itr lo n).yld i H x H'->g x σ H' fun σ2 H2=>tb { D with nx:=N,ct:=N,bk:=D.nx } σ2 H2) :=
 for_range Pv h0 (fun i σ H hi hp=>hs i σ H hi hp _ (fun _ _ z=>z) rfl) hd
theorem ex1 {α:Type} {A C:α->Prop} {a:α} (e:A a) (h:C a):∃ v,A v/\C v:=⟨a,e,h⟩
theorem ex3_6 {α0 α1 α2:Type} {A0 A1 A2 A3 A4 A5:α0->α1->α2->Prop} {a:α0} {b:α1} {c:α2} (h0:A0 a b c) (h1:A1 a b c) (h2:A2 a b c) (h3:A3 a b c) (h4:A4 a b c) (h5:A5 a b c):∃ a b c,A0 a b c/\A1 a b c/\A2 a b c/\A3 a b c/\A4 a b c/\A5 a b c:=⟨a,b,c,h0,h1,h2,h3,h4,h5⟩
theorem ex6_8 {α0 α1 α2 α3 α4 α5:Type} {A0 A1 A2 A3 A4 A5 A6 A7:α0->α1->α2->α3->α4->α5->Prop} {a:α0} {b:α1} {c:α2} {d:α3} {e:α4} {f:α5} (h0:A0 a b c d e f) (h1:A1 a b c d e f) (h2:A2 a b c d e f) (h3:A3 a b c d e f) (h4:A4 a b c d e f) (h5:A5 a b c d e f) (h6:A6 a b c d e f) (h7:A7 a b c d e f):∃ a b c d e f,A0 a b c d e f/\A1 a b c d e f/\A2 a b c d e f/\A3 a b c d e f/\A4 a b c d e f/\A5 a b c d e f/\A6 a b c d e f/\A7 a b c d e f:=⟨a,b,c,d,e,f,h0,h1,h2,h3,h4,h5,h6,h7⟩
theorem ex2_3 {α0 α1:Type} {A0 A1 A2:α0->α1->Prop} {a:α0} {b:α1} (h0:A0 a b) (h1:A1 a b) (h2:A2 a b):∃ a b,A0 a b/\A1 a b/\A2 a b:=⟨a,b,h0,h1,h2⟩
theorem seq_gen {t u:TS} {D:Ends} {σ:St} {H:Hp} (h:∀ N:St->Hp->Prop,(∀ σ' H',u D σ' H'->N σ' H')->t { D with nx:=N } σ H):tSeq t u D σ H:=h _ fun _ _ z=>z
theorem g_seq {i:Nat} {v:V} {t u:TS} {D:Ends} {σ:St} {H:Hp} (h:∀ N:St->Hp->Prop,(∀ σ' H',u D σ' H'->N σ' H')->t { D with nx:=N } (σ.set i (some v)) H):gName i v σ H (fun σ2 H2=>tSeq t u D σ2 H2):=h _ fun _ _ z=>z
end L2
namespace Sw
open PySem L2
section
variable {P:Program} {w:World} {K:PySem.W.Frag} {mg:Str->Option Value} {base:Heap}
noncomputable def letB (c:Nat):Bool:=decide (97<=c) && decide (c<=122)
noncomputable def nameB (x:Str):Bool:=decide (1<=x.length) && decide (x.length<=8) && x.cps.toList.all letB
theorem letters_are:("abcdefghijklmnopqrstuvwxyz":Str).cps.toList = List.range' 97 26:=by decide +kernel
theorem let_iff (c:Nat):decide (c ∈ ("abcdefghijklmnopqrstuvwxyz":Str).cps.toList) = letB c:=by
 rw [letters_are]
 unfold letB
 by_cases h1:97<=c
 ·by_cases h2:c<=122
  ·rw [decide_eq_true (List.mem_range'_1.mpr (by omega)),decide_eq_true h1,decide_eq_true h2]; rfl
  ·rw [decide_eq_false (fun z=>by have:=List.mem_range'_1.mp z; omega),decide_eq_false h2,Bool.and_false]
 ·rw [decide_eq_false (fun z=>by have:=List.mem_range'_1.mp z; omega),decide_eq_false h1,Bool.false_and]
theorem sc_is_name:FnScope ["thing"] ["thing"] (defScope s_is_name):=⟨rfl,rfl,rfl,by decide +kernel,rfl,by decide +kernel,by decide +kernel⟩
noncomputable def sp_is_name:Sp:=fun vs H Q _=>∃ x,vs = [.str x]/\x.length<=1000/\∀ H',Same H H'->Q (.bl (nameB x)) H'
theorem ok_is_name (T:Tx K mg):FnOk P w K mg base CX0 1 T.is_name.f T.is_name.fd ["thing"] sp_is_name:=by
 refine T.is_name.F.ok sc_is_name (fun vs H Q E h=>?_) (fun cdv A outer s H vs Q E hr h=>?_)
 ·obtain ⟨x,rfl,_⟩:=h
  rfl
 ·obtain ⟨x,rfl,hx,k⟩:=h
  refine ⟨_,(pss_cons (ps_if (PW.pt (pw_or (pt_not (pt_val (pe_bf (cl_isin K) T.b_isinstance bt_isinstance (pa_cons (pv 0) (pa_cons (pe_ty T.b_str bt_str) pa_nil))))) (pw_or1 (pt_not (pt_chain op_le op_le pe_int (pe_bf call_len_str T.b_len bt_len (pa_cons (pv 0) pa_nil)) (pe_gi T.gLONGEST_NAME)))))) (pss_one (ps_ret pe_bl)) pss_nil)
   (pss_one (ps_ret (pe_bf (cl_all K) T.b_all bt_all (pa_cons (pe_lc (N':=["letter"]) (cap:=[none]) (cl:=[]) (cs_mk trivial trivial) rfl (pi_str (pv 0)) (fun _ _ _ _=>by exact ⟨(pgC 0),pts_nil,(pe_cmpR op_in_str (pv 0) (pe_gs T.gLETTERS) rfl)⟩)) pa_nil))))),?_⟩
  have h64:x.length<=sizeLine:=by rw [sizeLine_eq]; omega
  have hlen:x.cps.size = x.length:=rfl
  refine ex1 rfl ⟨.str x, "str",_,true,rfl,.str x,rfl,ex1 rfl ?_⟩
  refine iteF ?_
  refine ex1 rfl ⟨x,rfl,h64,ex2_3 rfl rfl (ex1 rfl ?_)⟩
  refine ite2 (fun c1=>?_) (fun c1=>?_)
  ·have c1:(1:Int)<=(x.length:Int):=of_decide_eq_true c1
   refine ex2_3 rfl rfl (ex1 rfl ?_)
   by_cases c2:(x.length:Int)<=8
   ·rw [decide_eq_true c2]
    refine iteF ?_
    refine ex1 rfl ⟨x,rfl,fun D hD=>?_⟩
    refine loop_J (n:=x.cps.size) (fun i σ H'=>(∃ v,σ = [v])/\Same H H'/\H' D = some (.lst ((x.cps.toList.take i).map fun c=>V.bl (letB c)))) ⟨⟨_,rfl⟩,Same.new hD,upd_same⟩ (fun i _ _ hi _=>hi) (fun _ _ _=>rfl) ?_ ?_
    ·rintro i σ H1 v H' N hi ⟨⟨v0,rfl⟩,s1,e1⟩ ⟨rfl,c,hc,rfl⟩ hN
     refine g_true ?_
     refine ex1 rfl (ex2_3 rfl rfl ⟨_,e1,?_,?_⟩)
     ·rw [List.length_map,List.length_take,sizeLine_eq]; omega
     ·rw [PySem.StrLaws.found_one,let_iff]
      refine hN _ _ ⟨⟨_,rfl⟩,s1.upd hD,?_⟩
      rw [upd_same]
      have:x.cps.toList[i]? = some c:=by rw [Array.getElem?_toList]; exact hc
      rw [List.take_add_one,this,List.map_append]
      rfl
    ·rintro σ H1 ⟨_,s1,e1⟩
     refine ⟨D,x.cps.toList.map letB,rfl,SqL.of ?_,?_⟩
     ·rw [e1,<-Array.length_toList,List.take_length,List.map_map]; rfl
     ·have e:(x.cps.toList.map letB).all id = nameB x:=by
       unfold nameB
       rw [decide_eq_true (show 1<=x.length by omega),decide_eq_true (show x.length<=8 by omega),List.all_map]
       rfl
      rw [e]
      exact k _ s1
   ·rw [decide_eq_false c2]
    refine iteT ?_
    have e:nameB x = false:=by
     unfold nameB
     rw [decide_eq_false (show ¬ x.length<=8 by omega),Bool.and_false,Bool.false_and]
    have:=k H (Same.refl H)
    rw [e] at this
    exact this
  ·have c1:¬ (1:Int)<=(x.length:Int):=fun z=>c1 (decide_eq_true z)
   refine ex1 rfl ?_
   refine iteT ?_
   have e:nameB x = false:=by
    unfold nameB
    rw [decide_eq_false (show ¬ 1<=x.length by omega),Bool.false_and,Bool.false_and]
   have:=k H (Same.refl H)
   rw [e] at this
   exact this
end
end Sw
namespace Sw
open PySem L2
section
variable {P:Program} {w:World} {K:PySem.W.Frag} {mg:Str->Option Value} {base:Heap}
theorem take_succ {α:Type} {l:List α} {i:Nat} {x:α} (h:l[i]? = some x):l.take (i + 1) = l.take i ++ [x]:=by
 rw [List.take_add_one,h]; rfl
theorem nodup_take {α:Type} {l:List α} {i:Nat} {x:α} (nd:l.Nodup) (h:l[i]? = some x):x ∉ l.take i:=by
 intro hm
 obtain ⟨j,hj,e⟩:=List.getElem_of_mem hm
 have hj':j < i:=by rw [List.length_take] at hj; omega
 rw [List.getElem_take] at e
 obtain ⟨hi,e'⟩:=List.getElem?_eq_some_iff.mp h
 have:=(List.getElem_inj nd).mp (e.trans e'.symm)
 omega
theorem sc_check_names:FnScope ["names", "seen", "place", "name"] ["names"] (defScope s_check_names):=⟨rfl,rfl,rfl,by decide +kernel,rfl,by decide +kernel,by decide +kernel⟩
noncomputable def NamesOk (ss:List Str):Prop:=(∀ x ∈ ss,nameB x = true)/\ss.Nodup/\ss.length<=100
noncomputable def sp_check_names (K:PySem.W.Frag):Sp:=fun vs H Q _=>∃ (p:Addr) (ss:List Str),vs = [.ref p]/\Sqs K H p (ss.map V.str)/\NamesOk ss/\∀ H',Same H H'->Q .non H'
theorem nameB_len {x:Str} (h:nameB x = true):1<=x.length/\x.length<=8:=by
 unfold nameB at h
 rw [Bool.and_eq_true,Bool.and_eq_true] at h
 exact ⟨of_decide_eq_true h.1.1,of_decide_eq_true h.1.2⟩
theorem ok_check_names (T:Tx K mg):FnOk P w K mg base CX0 2 T.check_names.f T.check_names.fd ["names"] (sp_check_names K):=by
 have G_is_name:FnOk P w K mg base CX0 1 T.is_name.f T.is_name.fd ["thing"] sp_is_name:=ok_is_name T
 have sc:=sc_check_names
 refine T.check_names.F.ok sc_check_names (fun vs H Q E h=>?_) (fun cdv A outer s H vs Q E hr h=>?_)
 ·obtain ⟨p,ss,rfl,_⟩:=h
  rfl
 ·obtain ⟨a,ss,rfl,hS,⟨hN,hD,hL⟩,k⟩:=h
  have hu:=hu_of hr
  refine ⟨_,(pss_cons (ps_set (i:=1) sc.nd rfl (by first | exact Or.inl rfl | exact Or.inr rfl) (pe_callTy0 (cl_set0 P w) (by rfl) T.b_set bt_set))
   (pss_one (ps_for PassesOwn.never rfl (piE2 K T.b_enumerate (pa_cons (pv 0) pa_nil)) (pgT K (n:=2) (pgs_cons (pg_name (i:=2) sc.nd rfl (by first | exact Or.inl rfl | exact Or.inr rfl)) (pgs_cons (pg_name (i:=3) sc.nd rfl (by first | exact Or.inl rfl | exact Or.inr rfl)) pgs_nil)))
   (pss_cons (ps_if (PW.pt (pw_or (pt_not (pt_val (pe_fn T.is_name G_is_name (hr.mono (by decide)) (pa_cons (pv 3) pa_nil)))) (pw_or1 (pt_cmpR (o_inS P w) (pv 3) (pv 1) rfl)))) (pss_one ps_never) pss_nil)
   (pss_one (ps_expr (peSadd P w (m_addS P w) (pv 1) (pa_cons (pv 3) pa_nil)))))))),?_⟩
  refine ⟨rfl,fun p hp=>?_⟩
  have s0:Same H (upd H p (SetS P w p [])):=Same.new hp
  refine ex1 rfl ⟨a,ex1 rfl (enum_sqs hS (s0.at a) fun sq hk=>for_J (n:=ss.length) (fun i σ H1=>∃ v2 v3,σ = [some (.ref a),some (.ref p),v2,v3]/\Same H H1/\H1 p = some (SetS P w p ((ss.take i).map Sum.inr))) ⟨_,_,rfl,s0,upd_same⟩ ?_ ?_ ?_ ?_)⟩
  ·rintro i σ H1 hi ⟨v2,v3,rfl,s1,e1⟩
   exact ⟨_,_,hk _ (s1.at a),by rw [List.getElem?_map,List.getElem?_eq_getElem hi]; rfl⟩
  ·rintro σ H1 ⟨v2,v3,rfl,s1,e1⟩
   exact ⟨_,hk _ (s1.at a),by rw [List.length_map]⟩
  ·rintro i σ H1 v H' hi ⟨v2,v3,rfl,s1,e1⟩ ⟨t,x,rfl,ht,rfl,hx⟩
   have hx:=hx _ (hk _ (s1.at a))
   have hi':ss[i]? = some ss[i]:=List.getElem?_eq_getElem hi
   rw [List.getElem?_map,hi'] at hx
   cases hx
   have hm:ss[i] ∈ ss:=List.getElem_mem hi
   have hnb:=hN _ hm
   have hlen:=nameB_len hnb
   have npt:p ≠ t:=ne_of_none e1 ht
   refine ⟨t,ex1 rfl ⟨SqT.of upd_same,rfl,_,ex1 rfl (ex2_3 rfl rfl ?_)⟩⟩
   refine ex1 rfl ⟨ss[i],rfl,by omega,fun H2 s2=>⟨_,rfl,?_⟩⟩
   rw [hnb]
   refine iteF ?_
   have s12:Same H H2:=(s1.trans (Same.new ht)).trans s2
   have e2:H2 p = some (SetS P w p ((ss.take i).map Sum.inr)):=s2 _ _ (by rw [upd_ne npt]; exact e1)
   have hnin:¬ (Sum.inr ss[i]:Key) ∈ (ss.take i).map Sum.inr:=fun z=>by
    obtain ⟨y,hy,e⟩:=List.mem_map.mp z
    cases e
    exact nodup_take hD hi' hy
   refine ex1 rfl (ex1 rfl ⟨p,_,Sum.inr ss[i],rfl,rfl,e2,ex1 rfl ?_⟩)
   rw [if_neg (by decide),decide_eq_false hnin]
   refine iteF ?_
   refine ex1 rfl ⟨⟨p,rfl,.inl ⟨_,e2⟩⟩,ex1 rfl ⟨p,_,Sum.inr ss[i],rfl,rfl,e2,?_,?_⟩⟩
   ·rw [List.length_map,List.length_take]; omega
   ·refine ⟨_,ex1 rfl ⟨s12.upd hp,?_⟩⟩
    rw [upd_same]
    unfold addK
    rw [if_neg hnin,take_succ hi',List.map_append]
    rfl
  ·rintro σ H1 ⟨v2,v3,rfl,s1,e1⟩
   exact k H1 s1
end
end Sw
namespace Sw
open PySem L2
theorem flat_strs (ss:List Str):(ss.map V.str).all flatV = true:=by
 rw [List.all_eq_true]
 intro v hv
 obtain ⟨x,_,rfl⟩:=List.mem_map.mp hv
 rfl
theorem inV_str (x:Str) (ss:List Str):inV (.str x) (ss.map V.str) = decide (x ∈ ss):=by
 unfold inV
 rw [List.any_map]
 induction ss with
 | nil=>rfl
 | cons y r ih =>
  rw [List.any_cons,ih]
  show ((y == x) || decide (x ∈ r)) = decide (x ∈ y :: r)
  by_cases e:x = y
  ·subst e
   simp
  ·have:(y == x) = false:=by simpa using fun z=>e z.symm
   rw [this,Bool.false_or]
   by_cases h:x ∈ r
   ·rw [decide_eq_true h,decide_eq_true (List.mem_cons_of_mem _ h)]
   ·rw [decide_eq_false h,decide_eq_false (fun z=>(List.mem_cons.mp z).elim e h)]
theorem inL_str {K:PySem.W.Frag} {H:Hp} {p:Addr} {x:Str} {ss:List Str} {Q:VK} (h:Sqs K H p (ss.map V.str)) (q:Q (.bl (decide (x ∈ ss))) H):rIn K false (.str x) (.ref p) H Q :=
 ⟨p,_,rfl,h,rfl,flat_strs ss,by rw [if_neg (by decide),inV_str]; exact q⟩
theorem notInL_str {K:PySem.W.Frag} {H:Hp} {p:Addr} {x:Str} {ss:List Str} {Q:VK} (h:Sqs K H p (ss.map V.str)) (q:Q (.bl (!decide (x ∈ ss))) H):rIn K true (.str x) (.ref p) H Q :=
 ⟨p,_,rfl,h,rfl,flat_strs ss,by rw [if_pos rfl,inV_str]; exact q⟩
end Sw
namespace Sw
open PySem L2
section
variable {P:Program} {w:World} {K:PySem.W.Frag} {mg:Str->Option Value} {base:Heap}
theorem sc_is_strike:FnScope ["names", "thing"] ["names", "thing"] (defScope s_is_strike):=⟨rfl,rfl,rfl,by decide +kernel,rfl,by decide +kernel,by decide +kernel⟩
noncomputable def sp_is_strike (K:PySem.W.Frag):Sp:=fun vs H Q _=>∃ (p:Addr) (ss:List Str) (t:Addr) (x y:Str),vs = [.ref p,.ref t]/\Sqs K H p (ss.map V.str)/\H t = some (.tup [.str x,.str y])/\x ∈ ss/\y ∈ ss/\Q (.bl true) H
theorem ok_is_strike (T:Tx K mg):FnOk P w K mg base CX0 1 T.is_strike.f T.is_strike.fd ["names", "thing"] (sp_is_strike K):=by
 refine T.is_strike.F.ok sc_is_strike (fun vs H Q E h=>?_) (fun cdv A outer s H vs Q E hr h=>?_)
 ·obtain ⟨p,ss,t,x,y,rfl,_⟩:=h
  rfl
 ·obtain ⟨p,ss,t,x,y,rfl,hS,ht,hx,hy,k⟩:=h
  refine ⟨_,(pss_cons (ps_if (PW.pt (pw_or (pt_not (pt_val (pe_bf (cl_isin K) T.b_isinstance bt_isinstance (pa_cons (pv 1) (pa_cons (pe_ty T.b_tuple bt_tuple) pa_nil))))) (pw_or1 (pt_cmpR op_ne (pe_bf (cl_len K) T.b_len bt_len (pa_cons (pv 1) pa_nil)) pe_int (nomark _))))) (pss_one (ps_ret pe_bl)) pss_nil)
   (pss_one (ps_ret (pe_and (pe_cmpR (o_inL K) (pe_ix (ixT K) (pv 1) pe_int (fun _ _=>rfl)) (pv 0) rfl) (pe_one (pe_cmpR (o_inL K) (pe_ix (ixT K) (pv 1) pe_int (fun _ _=>rfl)) (pv 0) rfl)))))),?_⟩
  refine ex1 rfl ⟨_, "tuple",_,true,rfl,.tup ht,rfl,ex1 rfl ?_⟩
  refine iteF ?_
  refine ex1 rfl (ex2_3 (a:=t) rfl (.inr (SqT.of ht)) ⟨rfl,ex1 rfl ?_⟩)
  refine iteF ?_
  refine ex1 rfl ⟨t,_,ex2_3 rfl rfl ⟨SqT.of ht,rfl,ex1 rfl (inL_str hS ⟨_,rfl,?_⟩)⟩⟩
  rw [decide_eq_true hx]
  refine iteT ?_
  refine ex1 rfl ⟨t,_,ex2_3 rfl rfl ⟨SqT.of ht,rfl,ex1 rfl (inL_str hS ?_)⟩⟩
  rw [decide_eq_true hy]
  exact k
structure StrkOk (ss:List Str) (ps:List PA2):Prop where
 nm:∀ q ∈ ps,q.2.1 ∈ ss/\q.2.2 ∈ ss
 nd:(ps.map fun q=>q.2).Nodup
 len:ps.length<=200
noncomputable def refs (ps:List PA2):List V:=ps.map fun q=>V.ref q.1
noncomputable def pkeys (ps:List PA2):List (List Key × Addr):=ps.map fun q=>([.inr q.2.1,.inr q.2.2],q.1)
theorem pkeys_in {H:Hp} {ps:List PA2} (h:∀ q ∈ ps,PairIn H q):TupsIn H (pkeys ps):=fun k hk=>by
 obtain ⟨q,hq,rfl⟩:=List.mem_map.mp hk
 exact h q hq
theorem same_pairs {H H':Hp} {ps:List PA2} (s:Same H H') (h:∀ q ∈ ps,PairIn H q):∀ q ∈ ps,PairIn H' q:=fun q hq=>s _ _ (h q hq)
theorem sc_check_strikes:FnScope ["names", "strikes", "seen", "place", "strike"] ["names", "strikes"] (defScope s_check_strikes):=⟨rfl,rfl,rfl,by decide +kernel,rfl,by decide +kernel,by decide +kernel⟩
noncomputable def sp_check_strikes (K:PySem.W.Frag):Sp:=fun vs H Q _=>∃ (p:Addr) (ss:List Str) (a:Addr) (ps:List PA2),vs = [.ref p,.ref a]/\Sqs K H p (ss.map V.str)/\SqL K H a (refs ps)/\(∀ q ∈ ps,PairIn H q)/\StrkOk ss ps/\∀ H',Same H H'->Q .non H'
theorem ok_check_strikes (T:Tx K mg):FnOk P w K mg base CX0 2 T.check_strikes.f T.check_strikes.fd ["names", "strikes"] (sp_check_strikes K):=by
 have G_is_strike:FnOk P w K mg base CX0 1 T.is_strike.f T.is_strike.fd ["names", "thing"] (sp_is_strike K):=ok_is_strike T
 have sc:=sc_check_strikes
 refine T.check_strikes.F.ok sc_check_strikes (fun vs H Q E h=>?_) (fun cdv A outer s H vs Q E hr h=>?_)
 ·obtain ⟨p,ss,t,x,rfl,_⟩:=h
  rfl
 ·obtain ⟨n,ss,a,ps,rfl,hS,hP,hI,⟨hN,hD,hL⟩,k⟩:=h
  have hu:=hu_of hr
  refine ⟨_,(pss_cons (ps_set (i:=2) sc.nd rfl (by first | exact Or.inl rfl | exact Or.inr rfl) (pe_callTy0 (cl_set0T P w) (by rfl) T.b_set bt_set))
   (pss_one (ps_for PassesOwn.never rfl (piE2 K T.b_enumerate (pa_cons (pv 1) pa_nil)) (pgT K (n:=2) (pgs_cons (pg_name (i:=3) sc.nd rfl (by first | exact Or.inl rfl | exact Or.inr rfl)) (pgs_cons (pg_name (i:=4) sc.nd rfl (by first | exact Or.inl rfl | exact Or.inr rfl)) pgs_nil)))
   (pss_cons (ps_if (PW.pt (pw_or (pt_not (pt_val (pe_fn T.is_strike G_is_strike (hr.mono (by decide)) (pa_cons (pv 0) (pa_cons (pv 4) pa_nil))))) (pw_or1 (pt_cmpR (o_inT P w hu) (pv 4) (pv 2) rfl)))) (pss_one ps_never) pss_nil)
   (pss_one (ps_expr (peSadd P w (m_addT P w hu) (pv 2) (pa_cons (pv 4) pa_nil)))))))),?_⟩
  refine ⟨rfl,fun p hp=>?_⟩
  have s0:Same H (upd H p (SetT P w p [])):=Same.new hp
  refine ex1 rfl ⟨a,ex1 rfl (.inl ⟨(s0.at a).seqL hP,for_J (n:=ps.length) (fun i σ H1=>∃ v3 v4,σ = [some (.ref n),some (.ref a),some (.ref p),v3,v4]/\Same H H1/\H1 p = some (SetT P w p (pkeys (ps.take i)))) ⟨_,_,rfl,s0,upd_same⟩ ?_ ?_ ?_ ?_⟩)⟩
  ·rintro i σ H1 hi ⟨v2,v3,rfl,s1,e1⟩
   exact ⟨_,_,(s1.at a).seqL hP,by unfold refs; rw [List.getElem?_map,List.getElem?_eq_getElem hi]; rfl⟩
  ·rintro σ H1 ⟨v2,v3,rfl,s1,e1⟩
   exact ⟨_,(s1.at a).seqL hP,by unfold refs; rw [List.length_map]⟩
  ·rintro i σ H1 v H' hi ⟨v2,v3,rfl,s1,e1⟩ ⟨t,x,rfl,ht,rfl,hx⟩
   have hx:=hx _ ((s1.at a).seqL hP)
   have hi':ps[i]? = some ps[i]:=List.getElem?_eq_getElem hi
   unfold refs at hx
   rw [List.getElem?_map,hi'] at hx
   cases hx
   have hm:ps[i] ∈ ps:=List.getElem_mem hi
   obtain ⟨hn1,hn2⟩:=hN _ hm
   have npt:p ≠ t:=ne_of_none e1 ht
   have s2:Same H (upd H1 t (.tup [.int i,.ref ps[i].1])):=s1.trans (Same.new ht)
   have hq:=s2 _ _ (hI _ hm)
   refine ⟨t,ex1 rfl ⟨SqT.of upd_same,rfl,_,ex1 rfl (ex2_3 rfl rfl ?_)⟩⟩
   refine ex1 rfl (ex1 rfl ⟨n,ss,ps[i].1,ps[i].2.1,ps[i].2.2,rfl,(s2.at n).seq hS,hq,hn1,hn2,ex1 rfl ?_⟩)
   refine iteF ?_
   have e2:(upd H1 t (.tup [.int i,.ref ps[i].1])) p = some (SetT P w p (pkeys (ps.take i))):=by rw [upd_ne npt]; exact e1
   have hin:TupsIn (upd H1 t (.tup [.int i,.ref ps[i].1])) (pkeys (ps.take i)):=pkeys_in (same_pairs s2 fun q hq=>hI q (List.mem_of_mem_take hq))
   have hne:∀ q ∈ pkeys (ps.take i),q.1 ≠ [.inr ps[i].2.1,.inr ps[i].2.2]:=fun q hq e=>by
    obtain ⟨z,hz,rfl⟩:=List.mem_map.mp hq
    have e':z.2 = ps[i].2:=by
     obtain ⟨z1,z2,z3⟩:=z
     simp only [List.cons.injEq,Sum.inr.injEq,and_true] at e
     exact Prod.ext e.1 e.2
    have h1:(ps.map fun q=>q.2)[i]? = some ps[i].2:=by rw [List.getElem?_map,hi']; rfl
    refine nodup_take hD h1 ?_
    rw [<-List.map_take,<-e']
    exact List.mem_map.mpr ⟨z,hz,rfl⟩
   refine ex1 rfl (ex1 rfl ⟨p,ps[i].1,_,[.inr ps[i].2.1,.inr ps[i].2.2],rfl,rfl,e2,hq,hin,hne,ex1 rfl ?_⟩)
   refine iteF ?_
   refine ex1 rfl ⟨⟨p,rfl,.inr (.inr ⟨_,e2⟩)⟩,ex1 rfl ⟨p,ps[i].1,_,[.inr ps[i].2.1,.inr ps[i].2.2],rfl,rfl,e2,hq,hin,hne,?_,?_⟩⟩
   ·unfold pkeys; rw [List.length_map,List.length_take]; omega
   ·refine ⟨_,ex1 rfl ⟨s2.upd hp,?_⟩⟩
    rw [upd_same,take_succ hi']
    unfold pkeys
    rw [List.map_append]
    rfl
  ·rintro σ H1 ⟨v2,v3,rfl,s1,e1⟩
   exact k H1 s1
end
end Sw
namespace Sw
open PySem L2
noncomputable def la (kvs:List (Key × V)) (n:Str):Addr:=match valV kvs (.inr n) with | some (.ref l)=>l | _=>0
theorem val_put (kvs:List (Key × V)) (n m:Str) (v:V):valV (putK kvs (Sum.inr n:Key) v) (.inr m) = if m = n then some v else valV kvs (.inr m):=by
 rw [valV_put]
 by_cases e:m = n
 ·rw [if_pos e,if_pos (by rw [e])]
 ·rw [if_neg e,if_neg (fun z=>e (Sum.inr.inj z))]
theorem la_put (kvs:List (Key × V)) (n m:Str) (p:Addr):la (putK kvs (.inr n) (.ref p)) m = if m = n then p else la kvs m:=by
 unfold la
 rw [val_put]
 by_cases e:m = n
 ·rw [if_pos e,if_pos e]
 ·rw [if_neg e,if_neg e]
structure DOk (H0:Hp) (kvs:List (Key × V)) (ns:List Str):Prop where
 val:∀ n ∈ ns,valV kvs (.inr n) = some (.ref (la kvs n))
 inj:∀ n ∈ ns,∀ m ∈ ns,la kvs n = la kvs m->n = m
 fr:∀ n ∈ ns,H0 (la kvs n) = none
theorem dc_run {K:PySem.W.Frag} {J:It} {a:Addr} {ns:List Str} {H:Hp} {σ:St} {Q:St->Hp->Prop} (as:AsSeq J (ns.map V.str) a H) (hσ:∃ v,σ = [v]) (nd:ns.Nodup) (hl:ns.length<=1000) {D:Addr} (hD:H D = none)
  (q:∀ σ kvs H',Same H H'->H' D = some (.dK kvs)->DOk H kvs ns->(∀ n ∈ ns,H' (la kvs n) = some (.lst []))->(∀ n ∈ ns,la kvs n ≠ D)->Q σ H') :
  Loop (gName 0) tTrue (emDct D (tVar 0) (tLst tNil)) J σ (upd H D (.dK [])) Q:=by
 obtain ⟨v,rfl⟩:=hσ
 refine loop_as as (fun i σ H1=>(∃ v,σ = [v])/\∃ kvs,Same H H1/\H1 D = some (.dK kvs)/\kvs.length<=i/\DOk H kvs (ns.take i)/\(∀ n ∈ ns.take i,H1 (la kvs n) = some (.lst []))/\∀ n ∈ ns.take i,la kvs n ≠ D)
  ⟨⟨v,rfl⟩,[],Same.new hD,upd_same,Nat.zero_le _,⟨fun n h=>by simp at h,fun n h=>by simp at h,fun n h=>by simp at h⟩,fun n h=>by simp at h,fun n h=>by simp at h⟩ (fun i σ H1 _ ⟨_,kvs,s1,_⟩=>s1.at a) ?_ ?_
 ·rintro i σ H1 x N hx ⟨⟨v,rfl⟩,kvs,s1,e1,l1,D1,c1,n1⟩ hN
  rw [List.getElem?_map] at hx
  have hi:i < ns.length:=by
   rcases Nat.lt_or_ge i ns.length with z | z
   ·exact z
   ·rw [List.getElem?_eq_none z] at hx; cases hx
  have hi':ns[i]? = some ns[i]:=List.getElem?_eq_getElem hi
  rw [hi'] at hx
  cases hx
  refine g_true ?_
  refine ex1 rfl ⟨Nat.zero_le _,fun p hp=>?_⟩
  have npD:D ≠ p:=ne_of_none e1 hp
  refine ⟨kvs,.inr ns[i],by rw [upd_ne npD]; exact e1,rfl,by rw [sizeLine_eq]; omega,hN _ _ ⟨⟨_,rfl⟩,putK kvs (.inr ns[i]) (.ref p),?_,upd_same,?_,⟨?_,?_,?_⟩,?_,?_⟩⟩
  ·exact (s1.trans (Same.new hp)).upd hD
  ·have:=length_putK kvs (Sum.inr ns[i]:Key) (.ref p)
   omega
  all_goals rw [take_succ hi']
  ·intro n hn
   rw [val_put,la_put]
   by_cases e:n = ns[i]
   ·rw [if_pos e,if_pos e]
   ·rw [if_neg e,if_neg e]
    rcases List.mem_append.mp hn with z | z
    ·exact D1.val n z
    ·exact absurd (List.mem_singleton.mp z) e
  ·intro n hn m hm
   rw [la_put,la_put]
   have old:∀ k ∈ ns.take i ++ [ns[i]],k ≠ ns[i]->k ∈ ns.take i:=fun k hk e=>(List.mem_append.mp hk).elim id fun z=>absurd (List.mem_singleton.mp z) e
   by_cases e:n = ns[i]
   ·by_cases e':m = ns[i]
    ·exact fun _=>e.trans e'.symm
    ·rw [if_pos e,if_neg e']
     intro z
     have:=c1 m (old m hm e')
     rw [<-z,hp] at this; cases this
   ·by_cases e':m = ns[i]
    ·rw [if_neg e,if_pos e']
     intro z
     have:=c1 n (old n hn e)
     rw [z,hp] at this; cases this
    ·rw [if_neg e,if_neg e']
     exact D1.inj n (old n hn e) m (old m hm e')
  ·intro n hn
   rw [la_put]
   by_cases e:n = ns[i]
   ·rw [if_pos e]; exact s1.free hp
   ·rw [if_neg e]
    rcases List.mem_append.mp hn with z | z
    ·exact D1.fr n z
    ·exact absurd (List.mem_singleton.mp z) e
  ·intro n hn
   rw [la_put]
   by_cases e:n = ns[i]
   ·rw [if_pos e,upd_ne npD.symm,upd_same]
   ·rw [if_neg e]
    rcases List.mem_append.mp hn with z | z
    ·rw [upd_ne (n1 n z),upd_ne (ne_of_none (c1 n z) hp)]
     exact c1 n z
    ·exact absurd (List.mem_singleton.mp z) e
  ·intro n hn
   rw [la_put]
   by_cases e:n = ns[i]
   ·rw [if_pos e]; exact npD.symm
   ·rw [if_neg e]
    rcases List.mem_append.mp hn with z | z
    ·exact n1 n z
    ·exact absurd (List.mem_singleton.mp z) e
 ·rintro σ H1 ⟨_,kvs,s1,e1,l1,D1,c1,n1⟩
  rw [List.length_map] at *
  rw [List.take_length] at *
  exact q σ kvs H1 s1 e1 D1 c1 n1
end Sw
namespace Sw
open PySem L2
noncomputable def strikersOf (qs:List PA2) (n:Str):List Str:=(qs.filter fun q=>decide (q.2.2 = n)).map fun q=>q.2.1
noncomputable def struckOf (qs:List PA2) (n:Str):List Str:=(qs.filter fun q=>decide (q.2.1 = n)).map fun q=>q.2.2
theorem strikersOf_snoc (qs:List PA2) (q:PA2) (n:Str):strikersOf (qs ++ [q]) n = strikersOf qs n ++ (if q.2.2 = n then [q.2.1] else []):=by
 unfold strikersOf
 rw [List.filter_append,List.map_append]
 by_cases e:q.2.2 = n
 ·rw [if_pos e,List.filter_cons,if_pos (decide_eq_true e)]; rfl
 ·rw [if_neg e,List.filter_cons,if_neg (by simp [e])]; rfl
theorem struckOf_snoc (qs:List PA2) (q:PA2) (n:Str):struckOf (qs ++ [q]) n = struckOf qs n ++ (if q.2.1 = n then [q.2.2] else []):=by
 unfold struckOf
 rw [List.filter_append,List.map_append]
 by_cases e:q.2.1 = n
 ·rw [if_pos e,List.filter_cons,if_pos (decide_eq_true e)]; rfl
 ·rw [if_neg e,List.filter_cons,if_neg (by simp [e])]; rfl
noncomputable def wf (a b c d:Addr):List (Str × V):=[("names",.ref a),("strikes",.ref b),("strikers_by_name",.ref c),("struck_by_name",.ref d)]
structure WebOk (ns:List Str) (qs:List PA2):Prop where
 nd:ns.Nodup
 len:ns.length<=100
 srt:ns.Pairwise leS
 mem:∀ q ∈ qs,q.2.1 ∈ ns/\q.2.2 ∈ ns
 ndq:(qs.map fun q=>q.2).Nodup
 lenq:qs.length<=200
 srq:qs.Pairwise leP
structure WebAt (C:Addr) (H:Hp) (x:Addr) (ns:List Str) (qs:List PA2):Prop where
 ok:WebOk ns qs
 ex:∃ dx a b c d kc kd,H x = some (.ins C dx (wf a b c d))/\H a = some (.lst (ns.map V.str))/\H b = some (.lst (refs qs))/\(∀ q ∈ qs,PairIn H q)/\H c = some (.dK kc)/\H d = some (.dK kd) /\
  (∀ n ∈ ns,∃ l,valV kc (.inr n) = some (.ref l)/\H l = some (.lst ((strikersOf qs n).map V.str)))/\∀ n ∈ ns,∃ l,valV kd (.inr n) = some (.ref l)/\H l = some (.lst ((struckOf qs n).map V.str))
section
variable {P:Program} {w:World} {K:PySem.W.Frag} {mg:Str->Option Value} {base:Heap}
theorem sc_Web___init__:FnScope ["self", "names", "strikes", "one", "other"] ["self", "names", "strikes"] (defScope s_Web___init__):=⟨rfl,rfl,rfl,by decide +kernel,rfl,by decide +kernel,by decide +kernel⟩
noncomputable def sp_Web_init (K:PySem.W.Frag) (C:Addr):Sp:=fun vs H Q _=>∃ (x dx n:Addr) (ss:List Str) (a:Addr) (ps:List PA2),vs = [.ref x,.ref n,.ref a]/\H x = some (.ins C dx [])/\Sqs K H n (ss.map V.str)/\NamesOk ss /\
 H a = some (.lst (refs ps))/\(∀ q ∈ ps,PairIn H q)/\StrkOk ss ps/\∀ ns qs H',ns.Perm ss->ns.Pairwise leS->qs.Perm ps->qs.Pairwise leP->Sm [x] H H'->WebAt C H' x ns qs->(∀ z zs u,H z = some (.lst zs)->WebAt C (upd H' z u) x ns qs)->Q .non H'
theorem ok_Web_init (T:Tx K mg):FnOk P w K mg base CX0 3 T.fWeb___init__ T.fdWeb___init__ ["self", "names", "strikes"] (sp_Web_init K T.CWeb):=by
 have G_check_names:FnOk P w K mg base CX0 2 T.check_names.f T.check_names.fd ["names"] (sp_check_names K):=ok_check_names T
 have G_check_strikes:FnOk P w K mg base CX0 2 T.check_strikes.f T.check_strikes.fd ["names", "strikes"] (sp_check_strikes K):=ok_check_strikes T
 have sc:=sc_Web___init__
 refine T.FWeb___init__.ok sc_Web___init__ (fun vs H Q E h=>?_) (fun cdv A outer s H vs Q E hr h=>?_)
 ·obtain ⟨x,dx,n,ss,a,ps,rfl,_⟩:=h
  rfl
 ·obtain ⟨x,dx,n,ss,a,ps,rfl,hx,hS,hN,hP,hI,hO,k⟩:=h
  have hu:=hu_of hr
  refine ⟨_,(pss_cons (ps_expr (pe_fn T.check_names G_check_names (hr.mono (by decide)) (pa_cons (pv 1) pa_nil)))
   (pss_cons (ps_expr (pe_fn T.check_strikes G_check_strikes (hr.mono (by decide)) (pa_cons (pv 1) (pa_cons (pv 2) pa_nil))))
   (pss_cons (psF K (pv 0) (pe_bf (cl_sortQ K) T.b_sorted bt_sorted (pa_cons (pv 1) pa_nil)))
   (pss_cons (psF K (pv 0) (pe_bf (cl_sortP K) T.b_sorted bt_sorted (pa_cons (pv 2) pa_nil)))
   (pss_cons (psF K (pv 0) (pe_dc (N':=["name"]) (cap:=[none]) (cl:=[]) (cs_mk trivial trivial) rfl (piL K (peF K (pv 0))) (fun _ _ _ _=>by exact ⟨(pgC 0),pts_nil,(pv 0),(pe_lst pa_nil)⟩)))
   (pss_cons (psF K (pv 0) (pe_dc (N':=["name"]) (cap:=[none]) (cl:=[]) (cs_mk trivial trivial) rfl (piL K (peF K (pv 0))) (fun _ _ _ _=>by exact ⟨(pgC 0),pts_nil,(pv 0),(pe_lst pa_nil)⟩)))
   (pss_one (ps_for PassesOwn.never rfl (piL K (peF K (pv 0))) (pgT K (n:=2) (pgs_cons (pg_name (i:=3) sc.nd rfl (by first | exact Or.inl rfl | exact Or.inr rfl)) (pgs_cons (pg_name (i:=4) sc.nd rfl (by first | exact Or.inl rfl | exact Or.inr rfl)) pgs_nil)))
   (pss_cons (ps_expr (peBM K PySem.F.plainAttrs_list PySem.F.slot_list_append PySem.F.type_list_append mt_append (pe_dget hu (peF K (pv 0)) (pv 4) (fun _ _=>rfl)) (pa_cons (pv 3) pa_nil)))
   (pss_one (ps_expr (peBM K PySem.F.plainAttrs_list PySem.F.slot_list_append PySem.F.type_list_append mt_append (pe_dget hu (peF K (pv 0)) (pv 3) (fun _ _=>rfl)) (pa_cons (pv 4) pa_nil))))))))))))),?_⟩
  obtain ⟨hN1,hN2,hN3⟩:=id hN
  obtain ⟨hO1,hO2,hO3⟩:=id hO
  refine seq_gen fun Z1 hZ1=>?_
  refine ex1 rfl ⟨n,ss,rfl,hS,hN,fun H1 s1=>?_⟩
  refine hZ1 _ _ (seq_gen fun Z2 hZ2=>?_)
  refine ex1 rfl (ex1 rfl ⟨n,ss,a,ps,rfl,(s1.at n).seq hS,SqL.of (s1 _ _ hP),same_pairs s1 hI,hO,fun H2 s2=>?_⟩)
  refine hZ2 _ _ (seq_gen fun Z3 hZ3=>?_)
  have s12:=s1.trans s2
  refine ex1 rfl ⟨n,ss,rfl,(s12.at n).seq hS,fun l1 ns hl1 p1 w1=>?_⟩
  have nx1:x ≠ l1:=ne_of_none (s12 _ _ hx) hl1
  refine ex1 rfl ⟨x,T.CWeb,dx,[],rfl,by rw [upd_ne nx1]; exact s12 _ _ hx,T.clWeb,T.nWeb_names,by decide,?_⟩
  have hxa:a ≠ x:=ne_of hP hx (by intro z; cases z)
  have k3:Sm [x] H (upd (upd H2 l1 (.lst (ns.map V.str))) x (.ins T.CWeb dx (putF "names" (.ref l1) []))):=(Sm.new s12.sm hl1).upd (by simp)
  have e3:(upd (upd H2 l1 (.lst (ns.map V.str))) x (.ins T.CWeb dx (putF "names" (.ref l1) []))) l1 = some (.lst (ns.map V.str)):=by rw [upd_ne nx1.symm,upd_same]
  generalize hH3:upd (upd H2 l1 (.lst (ns.map V.str))) x (.ins T.CWeb dx (putF "names" (.ref l1) [])) = H3 at k3 e3 ⊢
  refine hZ3 _ _ (seq_gen fun Z4 hZ4=>?_)
  have x3:H3 x = some (.ins T.CWeb dx [("names",.ref l1)]):=by rw [<-hH3,upd_same]; rfl
  have nin:∀ {b:Addr},b ≠ x->b ∉ [x]:=fun h z=>h (List.mem_singleton.mp z)
  have pin3:∀ q ∈ ps,PairIn H3 q:=fun q hq=>k3 _ _ (hI q hq) (nin (ne_of (hI q hq) hx (by intro z; cases z)))
  refine ex1 rfl ⟨a,ps,rfl,SqL.of (k3 _ _ hP (nin hxa)),pin3,fun l2 qs hl2 p2 w2=>?_⟩
  have nx2:x ≠ l2:=ne_of_none x3 hl2
  refine ex1 rfl ⟨x,T.CWeb,dx,[("names",.ref l1)],rfl,by rw [upd_ne nx2]; exact x3,T.clWeb,T.nWeb_strikes,by simp,?_⟩
  have k4:Sm [x] H3 (upd (upd H3 l2 (.lst (refs qs))) x (.ins T.CWeb dx (putF "strikes" (.ref l2) [("names",.ref l1)]))):=(Sm.new (Sm.refl _ _) hl2).upd (by simp)
  have e4:(upd (upd H3 l2 (.lst (refs qs))) x (.ins T.CWeb dx (putF "strikes" (.ref l2) [("names",.ref l1)]))) l2 = some (.lst (refs qs)):=by rw [upd_ne nx2.symm,upd_same]
  have x4:(upd (upd H3 l2 (.lst (refs qs))) x (.ins T.CWeb dx (putF "strikes" (.ref l2) [("names",.ref l1)]))) x = some (.ins T.CWeb dx [("names",.ref l1),("strikes",.ref l2)]):=by rw [upd_same]; rfl
  refine hZ4 _ _ ?_
  show tSeq _ _ _ _ (upd (upd H3 l2 (.lst (refs qs))) x (.ins T.CWeb dx (putF "strikes" (.ref l2) [("names",.ref l1)])))
  generalize upd (upd H3 l2 (.lst (refs qs))) x (.ins T.CWeb dx (putF "strikes" (.ref l2) [("names",.ref l1)])) = H4 at k4 e4 x4 ⊢
  have f4:H4 l1 = some (.lst (ns.map V.str)):=k4 _ _ e3 (nin nx1.symm)
  have pin4:∀ q ∈ qs,PairIn H4 q:=fun q hq=>k4 _ _ (pin3 q (p2.mem_iff.mp hq)) (nin (ne_of (pin3 q (p2.mem_iff.mp hq)) x3 (by intro z; cases z)))
  have ndn:ns.Nodup:=p1.nodup_iff.mpr hN2
  have lnn:ns.length<=1000:=by rw [p1.length_eq]; omega
  refine seq_gen fun Z5 hZ5=>?_
  refine ex1 rfl ⟨x,T.CWeb,dx,_,ex1 rfl ⟨x4,T.clWeb,T.nWeb_names,rfl,l1,rfl,⟨_,SqL.of f4⟩,fun c hc=>dc_run (K:=K) (asL (SqL.of f4)) ⟨_,rfl⟩ ndn lnn hc fun _ kc H5 s5 e5 D5 c5 n5=>?_⟩⟩
  have x5:=s5 _ _ x4
  refine ex1 rfl ⟨x,T.CWeb,dx,ex1 rfl ⟨x5,T.clWeb,T.nWeb_strikers_by_name,by simp,?_⟩⟩
  have k6:Sm [x] H5 (upd H5 x (.ins T.CWeb dx (putF "strikers_by_name" (.ref c) [("names",.ref l1),("strikes",.ref l2)]))):=(Sm.refl _ _).upd (by simp)
  have x6:(upd H5 x (.ins T.CWeb dx (putF "strikers_by_name" (.ref c) [("names",.ref l1),("strikes",.ref l2)]))) x = some (.ins T.CWeb dx [("names",.ref l1),("strikes",.ref l2),("strikers_by_name",.ref c)]):=by rw [upd_same]; rfl
  generalize upd H5 x (.ins T.CWeb dx (putF "strikers_by_name" (.ref c) [("names",.ref l1),("strikes",.ref l2)])) = H6 at k6 x6 ⊢
  refine hZ5 _ _ (seq_gen fun Z6 hZ6=>?_)
  have kk6:∀ {b:Addr} {o:HO},H4 b = some o->b ≠ x->H6 b = some o:=fun e hb=>k6 _ _ (s5 _ _ e) (nin hb)
  have f6:=kk6 f4 nx1.symm
  have g6:=kk6 e4 nx2.symm
  have c6:H6 c = some (.dK kc):=k6 _ _ e5 (nin (ne_of_none x4 hc).symm)
  have cl6:∀ n ∈ ns,H6 (la kc n) = some (.lst []):=fun n hn=>k6 _ _ (c5 n hn) (nin (ne_of_none x4 (D5.fr n hn)).symm)
  refine ex1 rfl ⟨x,T.CWeb,dx,_,ex1 rfl ⟨x6,T.clWeb,T.nWeb_names,rfl,l1,rfl,⟨_,SqL.of f6⟩,fun d hd=>dc_run (K:=K) (asL (SqL.of f6)) ⟨_,rfl⟩ ndn lnn hd fun _ kd H7 s7 e7 D7 c7 n7=>?_⟩⟩
  have x7:=s7 _ _ x6
  refine ex1 rfl ⟨x,T.CWeb,dx,ex1 rfl ⟨x7,T.clWeb,T.nWeb_struck_by_name,by simp,?_⟩⟩
  have k8:Sm [x] H7 (upd H7 x (.ins T.CWeb dx (putF "struck_by_name" (.ref d) [("names",.ref l1),("strikes",.ref l2),("strikers_by_name",.ref c)]))):=(Sm.refl _ _).upd (by simp)
  have x8:(upd H7 x (.ins T.CWeb dx (putF "struck_by_name" (.ref d) [("names",.ref l1),("strikes",.ref l2),("strikers_by_name",.ref c)]))) x = some (.ins T.CWeb dx (wf l1 l2 c d)):=by rw [upd_same]; rfl
  generalize upd H7 x (.ins T.CWeb dx (putF "struck_by_name" (.ref d) [("names",.ref l1),("strikes",.ref l2),("strikers_by_name",.ref c)])) = H8 at k8 x8 ⊢
  refine hZ6 _ _ ?_
  have kk8:∀ {b:Addr} {o:HO},H6 b = some o->b ≠ x->H8 b = some o:=fun e hb=>k8 _ _ (s7 _ _ e) (nin hb)
  have f8:=kk8 f6 nx1.symm
  have g8:=kk8 g6 nx2.symm
  have c8:=kk8 c6 (ne_of_none x4 hc).symm
  have d8:H8 d = some (.dK kd):=k8 _ _ e7 (nin (ne_of_none x6 hd).symm)
  have cl8:∀ n ∈ ns,H8 (la kc n) = some (.lst []):=fun n hn=>kk8 (cl6 n hn) (ne_of_none x4 (D5.fr n hn)).symm
  have dl8:∀ n ∈ ns,H8 (la kd n) = some (.lst []):=fun n hn=>k8 _ _ (c7 n hn) (nin (ne_of_none x6 (D7.fr n hn)).symm)
  have pin8:∀ q ∈ qs,PairIn H8 q:=fun q hq=>kk8 (kk6 (pin4 q hq) (ne_of (pin4 q hq) x4 (by intro z; cases z))) (ne_of (pin4 q hq) x4 (by intro z; cases z))
  have dif:∀ n ∈ ns,∀ m ∈ ns,la kc n ≠ la kd m:=fun n hn m hm=>ne_of_none (cl6 n hn) (D7.fr m hm)
  have old4:∀ {b:Addr} {o:HO},H4 b = some o->b ≠ x->(∀ n ∈ ns,b ≠ la kc n)/\∀ n ∈ ns,b ≠ la kd n:=fun e hb=>⟨fun n hn=>ne_of_none e (D5.fr n hn),fun n hn=>ne_of_none (kk6 e hb) (D7.fr n hn)⟩
  have kall:Sm [x] H H8:=fun b o e hb=>by
   have hb':b ≠ x:=fun z=>hb (by simp [z])
   exact kk8 (kk6 (k4 _ _ (k3 _ _ e hb) hb) hb') hb'
  have odif:∀ {b:Addr} {o:HO},H b = some o->b ≠ x->(∀ n ∈ ns,b ≠ la kc n)/\∀ n ∈ ns,b ≠ la kd n:=fun e hb=>old4 (k4 _ _ (k3 _ _ e (nin hb)) (nin hb)) hb
  have xdif:(∀ n ∈ ns,x ≠ la kc n)/\∀ n ∈ ns,x ≠ la kd n:=⟨fun n hn=>ne_of_none x4 (D5.fr n hn),fun n hn=>ne_of_none x6 (D7.fr n hn)⟩
  have cdif:(∀ n ∈ ns,c ≠ la kc n)/\∀ n ∈ ns,c ≠ la kd n:=⟨fun n hn=>(n5 n hn).symm,fun n hn=>ne_of_none c6 (D7.fr n hn)⟩
  have ddif:(∀ n ∈ ns,d ≠ la kc n)/\∀ n ∈ ns,d ≠ la kd n:=⟨fun n hn=>(ne_of_none (cl6 n hn) hd).symm,fun n hn=>(n7 n hn).symm⟩
  refine ⟨_,rfl,x,T.CWeb,dx,_,_,rfl,x8,T.clWeb,T.nWeb_strikes,rfl,l2,rfl,⟨_,SqL.of g8⟩,for_asG (asL (SqL.of g8)) (fun i σ H9=>(∃ v3 v4,σ = [some (.ref x),some (.ref n),some (.ref a),v3,v4]) /\
   (∀ b o,H8 b = some o->((∀ n ∈ ns,b ≠ la kc n)/\∀ n ∈ ns,b ≠ la kd n)->H9 b = some o)/\(∀ n ∈ ns,H9 (la kc n) = some (.lst ((strikersOf (qs.take i) n).map V.str)))/\∀ n ∈ ns,H9 (la kd n) = some (.lst ((struckOf (qs.take i) n).map V.str)))
   ⟨⟨_,_,rfl⟩,fun b o e _=>e,cl8,dl8⟩ ?_ ?_ ?_⟩
  ·rintro i σ H9 _ ⟨_,h1,_⟩ o e
   exact h1 _ _ e (old4 e4 nx2.symm)
  ·rintro i σ H9 v hv ⟨⟨v3,v4,rfl⟩,h1,h2,h3⟩ D1 hD1 _
   unfold refs at hv
   rw [List.getElem?_map] at hv
   cases hq:qs[i]? with
   | none=>rw [hq] at hv; cases hv
   | some q =>
    rw [hq] at hv
    cases hv
    have hm:q ∈ qs:=List.mem_of_getElem? hq
    have hq9:PairIn H9 q:=h1 _ _ (pin8 q hm) (old4 (pin4 q hm) (ne_of (pin4 q hm) x4 (by intro z; cases z)))
    obtain ⟨m1,m2⟩:=hO1 q (p2.mem_iff.mp hm)
    have m1:q.2.1 ∈ ns:=p1.mem_iff.mpr m1
    have m2:q.2.2 ∈ ns:=p1.mem_iff.mpr m2
    have hlen:∀ l:List PA2,l.length<=200->∀ n,(strikersOf l n).length<=200/\(struckOf l n).length<=200:=fun l hl n=>by
     unfold strikersOf struckOf
     rw [List.length_map,List.length_map]
     exact ⟨Nat.le_trans (List.length_filter_le ..) hl,Nat.le_trans (List.length_filter_le ..) hl⟩
    have hl200:(qs.take i).length<=200:=by
     rw [List.length_take]
     have:=p2.length_eq
     omega
    have x9:H9 x = some (.ins T.CWeb dx (wf l1 l2 c d)):=h1 _ _ x8 xdif
    refine ⟨q.1,ex1 rfl ⟨SqT.of hq9,rfl,_,ex1 rfl (ex2_3 rfl rfl ?_)⟩⟩
    refine ex1 rfl ⟨x,T.CWeb,dx,_,ex1 rfl ⟨x9,T.clWeb,T.nWeb_strikers_by_name,rfl,ex1 rfl ⟨c,.ref (la kc q.2.2),rfl,by rw [<-D5.val _ m2]; exact DGet.k (k:=Sum.inr q.2.2) (h1 _ _ c8 cdif),.inl ⟨rfl,_,SqL.of (h2 _ m2)⟩,ex1 rfl ⟨_,ex2_3 rfl rfl ⟨h2 _ m2,?_,?_⟩⟩⟩⟩⟩
    ·rw [List.length_map,sizeLine_eq]
     have:=(hlen _ hl200 q.2.2).1
     omega
    have x10:(upd H9 (la kc q.2.2) (.lst ((strikersOf (qs.take i) q.2.2).map V.str ++ [.str q.2.1]))) x = some (.ins T.CWeb dx (wf l1 l2 c d)):=by rw [upd_ne (xdif.1 _ m2)]; exact x9
    have d10:(upd H9 (la kc q.2.2) (.lst ((strikersOf (qs.take i) q.2.2).map V.str ++ [.str q.2.1]))) d = some (.dK kd):=by rw [upd_ne (ddif.1 _ m2)]; exact h1 _ _ d8 ddif
    have l10:(upd H9 (la kc q.2.2) (.lst ((strikersOf (qs.take i) q.2.2).map V.str ++ [.str q.2.1]))) (la kd q.2.1) = some (.lst ((struckOf (qs.take i) q.2.1).map V.str)):=by rw [upd_ne (dif _ m2 _ m1).symm]; exact h3 _ m1
    refine ex1 rfl ⟨x,T.CWeb,dx,_,ex1 rfl ⟨x10,T.clWeb,T.nWeb_struck_by_name,rfl,ex1 rfl ⟨d,.ref (la kd q.2.1),rfl,by rw [<-D7.val _ m1]; exact DGet.k (k:=Sum.inr q.2.1) d10,.inl ⟨rfl,_,SqL.of l10⟩,ex1 rfl ⟨_,ex2_3 rfl rfl ⟨l10,?_,?_⟩⟩⟩⟩⟩
    ·rw [List.length_map,sizeLine_eq]
     have:=(hlen _ hl200 q.2.1).2
     omega
    refine hD1 _ _ ⟨⟨_,_,rfl⟩,fun b o e hb=>?_,fun m hm=>?_,fun m hm=>?_⟩
    ·rw [upd_ne (hb.2 _ m1),upd_ne (hb.1 _ m2)]
     exact h1 b o e hb
    ·rw [upd_ne (dif m hm _ m1),take_succ hq,strikersOf_snoc]
     by_cases e:q.2.2 = m
     ·rw [<-e,upd_same,if_pos rfl,List.map_append]; rfl
     ·rw [if_neg e,List.append_nil,upd_ne (fun z=>e (D5.inj _ hm _ m2 z).symm)]
      exact h2 m hm
    ·rw [take_succ hq,struckOf_snoc]
     by_cases e:q.2.1 = m
     ·rw [<-e,upd_same,if_pos rfl,List.map_append]; rfl
     ·rw [if_neg e,List.append_nil,upd_ne (fun z=>e (D7.inj _ hm _ m1 z).symm),upd_ne (dif _ m2 _ hm).symm]
      exact h3 m hm
  ·rintro σ H9 ⟨_,h1,h2,h3⟩
   have hlq:(refs qs).length = qs.length:=by unfold refs; rw [List.length_map]
   rw [hlq,List.take_length] at h2 h3
   have mk:∀ G:Hp,(∀ b o,H9 b = some o->(b = x\/b = l1\/b = l2\/b = c\/b = d\/(∃ q ∈ qs,b = q.1)\/(∃ n ∈ ns,b = la kc n)\/∃ n ∈ ns,b = la kd n)->G b = some o)->WebAt T.CWeb G x ns qs:=fun G g =>
    ⟨⟨ndn,by rw [p1.length_eq]; exact hN3,w1,fun q hq=>⟨p1.mem_iff.mpr (hO1 q (p2.mem_iff.mp hq)).1,p1.mem_iff.mpr (hO1 q (p2.mem_iff.mp hq)).2⟩,(p2.map _).nodup_iff.mpr hO2,by rw [p2.length_eq]; exact hO3,w2⟩,dx,l1,l2,c,d,kc,kd,g _ _ (h1 _ _ x8 xdif) (.inl rfl),g _ _ (h1 _ _ f8 (old4 f4 nx1.symm)) (.inr (.inl rfl)),g _ _ (h1 _ _ g8 (old4 e4 nx2.symm)) (.inr (.inr (.inl rfl))),
     fun q hm=>g _ _ (h1 _ _ (pin8 q hm) (old4 (pin4 q hm) (ne_of (pin4 q hm) x4 (by intro z; cases z)))) (.inr (.inr (.inr (.inr (.inr (.inl ⟨q,hm,rfl⟩)))))),g _ _ (h1 _ _ c8 cdif) (.inr (.inr (.inr (.inl rfl)))),g _ _ (h1 _ _ d8 ddif) (.inr (.inr (.inr (.inr (.inl rfl))))),
     fun n hn=>⟨_,D5.val n hn,g _ _ (h2 n hn) (.inr (.inr (.inr (.inr (.inr (.inr (.inl ⟨n,hn,rfl⟩)))))))⟩,fun n hn=>⟨_,D7.val n hn,g _ _ (h3 n hn) (.inr (.inr (.inr (.inr (.inr (.inr (.inr ⟨n,hn,rfl⟩)))))))⟩⟩
   refine k ns qs H9 p1 w1 p2 w2 (fun b o e hb=>?_) (mk H9 fun b o e _=>e) fun z zs u hz=>mk _ fun b o e hb=>?_
   ·have hb':b ≠ x:=fun z=>hb (by simp [z])
    exact h1 _ _ (kall b o e hb) (odif e hb')
   ·have zx:z ≠ x:=ne_of hz hx (by intro y; cases y)
    have z3:=k3 _ _ hz (nin zx)
    have z4:=k4 _ _ z3 (nin zx)
    have nz:b ≠ z:=by
     rcases hb with rfl | rfl | rfl | rfl | rfl | ⟨q,hq,rfl⟩ | ⟨n,hn,rfl⟩ | ⟨n,hn,rfl⟩
     ·exact zx.symm
     ·exact (ne_of_none (s12 _ _ hz) hl1).symm
     ·exact (ne_of_none z3 hl2).symm
     ·exact (ne_of_none z4 hc).symm
     ·exact (ne_of_none (kk6 z4 zx) hd).symm
     ·exact ne_of (hI q (p2.mem_iff.mp hq)) hz (by intro y; cases y)
     ·exact ((odif hz zx).1 n hn).symm
     ·exact ((odif hz zx).2 n hn).symm
    rw [upd_ne nz]; exact e
end
end Sw
namespace Sw
open PySem L2
theorem WebAt.same {C:Addr} {H H':Hp} {x:Addr} {ns:List Str} {qs:List PA2} (h:WebAt C H x ns qs) (s:Same H H'):WebAt C H' x ns qs:=by
 obtain ⟨ok,dx,a,b,c,d,kc,kd,e1,e2,e3,e4,e5,e6,e7,e8⟩:=h
 exact ⟨ok,dx,a,b,c,d,kc,kd,s _ _ e1,s _ _ e2,s _ _ e3,same_pairs s e4,s _ _ e5,s _ _ e6,fun n hn=>let ⟨l,v,e⟩:=e7 n hn; ⟨l,v,s _ _ e⟩,fun n hn=>let ⟨l,v,e⟩:=e8 n hn; ⟨l,v,s _ _ e⟩⟩
section
variable {P:Program} {w:World} {K:PySem.W.Frag} {mg:Str->Option Value} {base:Heap}
theorem sc_Web_all_names:FnScope ["self"] ["self"] (defScope s_Web_all_names):=⟨rfl,rfl,rfl,by decide +kernel,rfl,by decide +kernel,by decide +kernel⟩
noncomputable def sp_all_names (C:Addr):Sp:=fun vs H Q _=>∃ (x:Addr) (ns:List Str) (qs:List PA2),vs = [.ref x]/\WebAt C H x ns qs/\∀ l,H l = none->Q (.ref l) (upd H l (.lst (ns.map V.str)))
theorem ok_Web_all_names (T:Tx K mg):FnOk P w K mg base CX0 1 T.mWeb_all_names.f T.mWeb_all_names.fd ["self"] (sp_all_names T.CWeb):=by
 refine T.mWeb_all_names.F.ok sc_Web_all_names (fun vs H Q E h=>?_) (fun cdv A outer s H vs Q E hr h=>?_)
 ·obtain ⟨x,ns,qs,rfl,_⟩:=h
  rfl
 ·obtain ⟨x,ns,qs,rfl,⟨ok,dx,a,b,c,d,kc,kd,e1,e2,e3,e4,e5,e6,e7,e8⟩,k⟩:=h
  refine ⟨_,(pss_one (ps_ret (pe_bt (cl_list K) T.b_list bt_list (pa_cons (peF K (pv 0)) pa_nil)))),?_⟩
  exact ⟨_,rfl,x,T.CWeb,dx,_,_,rfl,e1,T.clWeb,T.nWeb_names,rfl,a,_,rfl,.inl (SqL.of e2),k⟩
theorem sc_Web_all_strikes:FnScope ["self"] ["self"] (defScope s_Web_all_strikes):=⟨rfl,rfl,rfl,by decide +kernel,rfl,by decide +kernel,by decide +kernel⟩
noncomputable def sp_all_strikes (C:Addr):Sp:=fun vs H Q _=>∃ (x:Addr) (ns:List Str) (qs:List PA2),vs = [.ref x]/\WebAt C H x ns qs/\∀ l,H l = none->Q (.ref l) (upd H l (.lst (refs qs)))
theorem ok_Web_all_strikes (T:Tx K mg):FnOk P w K mg base CX0 1 T.mWeb_all_strikes.f T.mWeb_all_strikes.fd ["self"] (sp_all_strikes T.CWeb):=by
 refine T.mWeb_all_strikes.F.ok sc_Web_all_strikes (fun vs H Q E h=>?_) (fun cdv A outer s H vs Q E hr h=>?_)
 ·obtain ⟨x,ns,qs,rfl,_⟩:=h
  rfl
 ·obtain ⟨x,ns,qs,rfl,⟨ok,dx,a,b,c,d,kc,kd,e1,e2,e3,e4,e5,e6,e7,e8⟩,k⟩:=h
  refine ⟨_,(pss_one (ps_ret (pe_bt (cl_list K) T.b_list bt_list (pa_cons (peF K (pv 0)) pa_nil)))),?_⟩
  exact ⟨_,rfl,x,T.CWeb,dx,_,_,rfl,e1,T.clWeb,T.nWeb_strikes,rfl,b,_,rfl,.inl (SqL.of e3),k⟩
theorem sc_Web_check_has:FnScope ["self", "name"] ["self", "name"] (defScope s_Web_check_has):=⟨rfl,rfl,rfl,by decide +kernel,rfl,by decide +kernel,by decide +kernel⟩
noncomputable def sp_check_has (C:Addr):Sp:=fun vs H Q _=>∃ (x:Addr) (n:Str) (ns:List Str) (qs:List PA2),vs = [.ref x,.str n]/\WebAt C H x ns qs/\n ∈ ns/\Q .non H
theorem ok_Web_check_has (T:Tx K mg):FnOk P w K mg base CX0 1 T.mWeb_check_has.f T.mWeb_check_has.fd ["self", "name"] (sp_check_has T.CWeb):=by
 refine T.mWeb_check_has.F.ok sc_Web_check_has (fun vs H Q E h=>?_) (fun cdv A outer s H vs Q E hr h=>?_)
 ·obtain ⟨x,n,ns,qs,rfl,_⟩:=h
  rfl
 ·obtain ⟨x,n,ns,qs,rfl,⟨ok,dx,a,b,c,d,kc,kd,e1,e2,e3,e4,e5,e6,e7,e8⟩,hn,k⟩:=h
  refine ⟨_,(pss_one (ps_if (pt_cmpR (o_notInL K) (pv 1) (peF K (pv 0)) rfl) (pss_one ps_never) pss_nil)),?_⟩
  refine ex1 rfl (ex1 rfl ⟨x,T.CWeb,dx,_,ex1 rfl ⟨e1,T.clWeb,T.nWeb_names,rfl,notInL_str (.inl (SqL.of e2)) ⟨_,rfl,?_⟩⟩⟩)
  rw [decide_eq_true hn]
  exact iteF k
end
end Sw
namespace Sw
open PySem L2
section
variable {P:Program} {w:World} {K:PySem.W.Frag} {mg:Str->Option Value} {base:Heap}
theorem sc_Web_struck:FnScope ["self", "name"] ["self", "name"] (defScope s_Web_struck):=⟨rfl,rfl,rfl,by decide +kernel,rfl,by decide +kernel,by decide +kernel⟩
noncomputable def sp_struck (C:Addr):Sp:=fun vs H Q _=>∃ (x:Addr) (n:Str) (ns:List Str) (qs:List PA2),vs = [.ref x,.str n]/\WebAt C H x ns qs/\n ∈ ns/\∀ l,H l = none->Q (.ref l) (upd H l (.lst ((struckOf qs n).map V.str)))
theorem ok_Web_struck (T:Tx K mg):FnOk P w K mg base CX0 2 T.mWeb_struck.f T.mWeb_struck.fd ["self", "name"] (sp_struck T.CWeb):=by
 have G_Web_check_has:FnOk P w K mg base CX0 1 T.mWeb_check_has.f T.mWeb_check_has.fd ["self", "name"] (sp_check_has T.CWeb):=ok_Web_check_has T
 refine T.mWeb_struck.F.ok sc_Web_struck (fun vs H Q E h=>?_) (fun cdv A outer s H vs Q E hr h=>?_)
 ·obtain ⟨x,n,ns,qs,rfl,_⟩:=h
  rfl
 ·obtain ⟨x,n,ns,qs,rfl,hW,hn,k⟩:=h
  have hu:=hu_of hr
  obtain ⟨ok,dx,a,b,c,d,kc,kd,e1,e2,e3,e4,e5,e6,e7,e8⟩:=id hW
  refine ⟨_,(pss_cons (ps_expr (pe_meth (pv 0) T.clWeb T.mWeb_check_has.m G_Web_check_has (hr.mono (by decide)) T.mWeb_check_has.b .nil pass0 (pa_cons (pv 1) pa_nil)))
   (pss_one (ps_ret (pe_bt (cl_list K) T.b_list bt_list (pa_cons (pe_dget hu (peF K (pv 0)) (pv 1) (fun _ _=>rfl)) pa_nil))))),?_⟩
  refine ex1 rfl ⟨x,dx,ex1 rfl ⟨e1,rfl,ex1 rfl ⟨x,n,ns,qs,rfl,hW,hn,?_⟩⟩⟩
  obtain ⟨l,v,e⟩:=e8 n hn
  exact ⟨_,rfl,x,T.CWeb,dx,_,_,rfl,e1,T.clWeb,T.nWeb_struck_by_name,rfl,_,rfl,d,_,rfl,by rw [<-v]; exact DGet.k (k:=Sum.inr n) e6,l,_,rfl,.inl (SqL.of e),k⟩
end
end Sw
namespace Sw
open PySem L2
section
variable {P:Program} {w:World} {K:PySem.W.Frag} {mg:Str->Option Value} {base:Heap}
theorem sc_Web_strikers:FnScope ["self", "name"] ["self", "name"] (defScope s_Web_strikers):=⟨rfl,rfl,rfl,by decide +kernel,rfl,by decide +kernel,by decide +kernel⟩
noncomputable def sp_strikers (C:Addr):Sp:=fun vs H Q _=>∃ (x:Addr) (n:Str) (ns:List Str) (qs:List PA2),vs = [.ref x,.str n]/\WebAt C H x ns qs/\n ∈ ns/\∀ l,H l = none->Q (.ref l) (upd H l (.lst ((strikersOf qs n).map V.str)))
theorem ok_Web_strikers (T:Tx K mg):FnOk P w K mg base CX0 2 T.mWeb_strikers.f T.mWeb_strikers.fd ["self", "name"] (sp_strikers T.CWeb):=by
 have G_Web_check_has:FnOk P w K mg base CX0 1 T.mWeb_check_has.f T.mWeb_check_has.fd ["self", "name"] (sp_check_has T.CWeb):=ok_Web_check_has T
 refine T.mWeb_strikers.F.ok sc_Web_strikers (fun vs H Q E h=>?_) (fun cdv A outer s H vs Q E hr h=>?_)
 ·obtain ⟨x,n,ns,qs,rfl,_⟩:=h
  rfl
 ·obtain ⟨x,n,ns,qs,rfl,hW,hn,k⟩:=h
  have hu:=hu_of hr
  obtain ⟨ok,dx,a,b,c,d,kc,kd,e1,e2,e3,e4,e5,e6,e7,e8⟩:=id hW
  refine ⟨_,(pss_cons (ps_expr (pe_meth (pv 0) T.clWeb T.mWeb_check_has.m G_Web_check_has (hr.mono (by decide)) T.mWeb_check_has.b .nil pass0 (pa_cons (pv 1) pa_nil)))
   (pss_one (ps_ret (pe_bt (cl_list K) T.b_list bt_list (pa_cons (pe_dget hu (peF K (pv 0)) (pv 1) (fun _ _=>rfl)) pa_nil))))),?_⟩
  refine ex1 rfl ⟨x,dx,ex1 rfl ⟨e1,rfl,ex1 rfl ⟨x,n,ns,qs,rfl,hW,hn,?_⟩⟩⟩
  obtain ⟨l,v,e⟩:=e7 n hn
  exact ⟨_,rfl,x,T.CWeb,dx,_,_,rfl,e1,T.clWeb,T.nWeb_strikers_by_name,rfl,_,rfl,c,_,rfl,by rw [<-v]; exact DGet.k (k:=Sum.inr n) e5,l,_,rfl,.inl (SqL.of e),k⟩
end
end Sw
namespace Sw
open PySem L2
noncomputable def Rch (nx:Str->List Str) (ss:List Str) (x:Str):Prop:=∀ S:Str->Prop,(∀ y ∈ ss,S y)->(∀ y z,S y->z ∈ nx y->S z)->S x
theorem Rch.of {nx:Str->List Str} {ss:List Str} {x:Str} (h:x ∈ ss):Rch nx ss x:=fun _ h1 _=>h1 x h
theorem Rch.step {nx:Str->List Str} {ss:List Str} {y z:Str} (h:Rch nx ss y) (hz:z ∈ nx y):Rch nx ss z:=fun S h1 h2=>h2 y z (h S h1 h2) hz
theorem nd_len:∀ {l m:List Str},l.Nodup->(∀ x ∈ l,x ∈ m)->l.length<=m.length
 | [],_,_,_=>Nat.zero_le _
 | x :: l,m,nd,h=>by
  obtain ⟨n1,n2⟩:=List.nodup_cons.mp nd
  have hx:=h x (List.mem_cons_self ..)
  have h1:=nd_len (m:=m.erase x) n2 fun y hy=>(List.mem_erase_of_ne (fun z:y = x=>n1 (z ▸ hy))).mpr (h y (List.mem_cons_of_mem _ hy))
  rw [List.length_erase_of_mem hx] at h1
  have:=List.length_pos_of_mem hx
  rw [List.length_cons]
  omega
structure RI (nx:Str->List Str) (ns ss se wa:List Str) (ex:Str->Prop):Prop where
 nd:se.Nodup
 ndw:wa.Nodup
 sub:∀ x ∈ se,x ∈ ns
 rch:∀ x ∈ se,Rch nx ss x
 beg:∀ x ∈ ss,x ∈ se
 wai:∀ x ∈ wa,x ∈ se
 cl:∀ x ∈ se,x ∈ wa\/ex x\/∀ y ∈ nx x,y ∈ se
noncomputable abbrev noS:Str->Prop:=fun _=>False
section
variable {nx:Str->List Str} {ns ss se wa:List Str} {ex:Str->Prop}
theorem nd_add {l:List Str} {x:Str} (nd:l.Nodup) (hx:x ∉ l):(l ++ [x]).Nodup :=
 List.nodup_append.mpr ⟨nd,List.nodup_cons.mpr ⟨List.not_mem_nil,List.nodup_nil⟩,fun a ha b hb e=>hx (by rw [List.mem_singleton] at hb; exact hb ▸ e ▸ ha)⟩
theorem RI.init (nd:ss.Nodup) (sub:∀ x ∈ ss,x ∈ ns):RI nx ns ss ss ss noS:=⟨nd,nd,sub,fun _ h=>.of h,fun _ h=>h,fun _ h=>h,fun _ h=>.inl h⟩
theorem RI.add (h:RI nx ns ss se wa ex) {x:Str} (hx:x ∉ se) (hn:x ∈ ns) (hr:Rch nx ss x):RI nx ns ss (se ++ [x]) (wa ++ [x]) ex where
 nd:=nd_add h.nd hx
 ndw:=nd_add h.ndw fun z=>hx (h.wai x z)
 sub:=fun y hy=>(List.mem_append.mp hy).elim (h.sub y) fun z=>List.mem_singleton.mp z ▸ hn
 rch:=fun y hy=>(List.mem_append.mp hy).elim (h.rch y) fun z=>List.mem_singleton.mp z ▸ hr
 beg:=fun y hy=>List.mem_append_left _ (h.beg y hy)
 wai:=fun y hy=>(List.mem_append.mp hy).elim (fun z=>List.mem_append_left _ (h.wai y z)) fun z=>List.mem_append_right _ z
 cl:=fun y hy=>(List.mem_append.mp hy).elim (fun z=>(h.cl y z).elim (fun q=>.inl (List.mem_append_left _ q)) fun q=>.inr (q.elim .inl fun q=>.inr fun v hv=>List.mem_append_left _ (q v hv))) fun z=>.inl (List.mem_append_right _ z)
theorem RI.pop (h:RI nx ns ss se wa noS) {wa':List Str} {x:Str} (nd:wa'.Nodup) (h1:∀ y ∈ wa,y ∈ wa'\/y = x) (h2:∀ y ∈ wa',y ∈ wa):RI nx ns ss se wa' (fun y=>y = x) :=
 ⟨h.nd,nd,h.sub,h.rch,h.beg,fun y hy=>h.wai y (h2 y hy),fun y hy=>(h.cl y hy).elim (fun q=>(h1 y q).elim .inl fun z=>.inr (.inl z)) fun q=>q.elim (fun z=>z.elim) fun z=>.inr (.inr z)⟩
theorem RI.done {x:Str} (h:RI nx ns ss se wa (fun y=>y = x)) (hx:∀ y ∈ nx x,y ∈ se):RI nx ns ss se wa noS :=
 ⟨h.nd,h.ndw,h.sub,h.rch,h.beg,h.wai,fun y hy=>(h.cl y hy).elim .inl fun q=>.inr (.inr (q.elim (fun z=>z ▸ hx) id))⟩
theorem RI.fin (h:RI nx ns ss se [] noS) (x:Str):x ∈ se ↔ Rch nx ss x :=
 ⟨h.rch x,fun r=>r (· ∈ se) h.beg fun y z hy hz=>(h.cl y hy).elim (fun q=>absurd q List.not_mem_nil) fun q=>q.elim (fun z=>z.elim) fun q=>q z hz⟩
theorem RI.len (h:RI nx ns ss se wa ex):se.length<=ns.length:=nd_len h.nd h.sub
theorem RI.lenw (h:RI nx ns ss se wa ex):wa.length<=ns.length:=nd_len h.ndw fun x hx=>h.sub x (h.wai x hx)
end
end Sw
namespace Sw
open PySem L2
theorem meas_add {n e w m:Nat} (h:e + 1<=n) (hm:2 * (n - e) + w < m):2 * (n - (e + 1)) + (w + 1) < m:=by
 have e1:n - (e + 1) + 1 = n - e:=Nat.succ_pred_eq_of_pos (Nat.sub_pos_of_lt h)
 rw [<-e1] at hm
 omega
noncomputable def StepsAt (H:Hp) (kvs:List (Key × V)) (ns:List Str) (nx:Str->List Str):Prop:=∀ n ∈ ns,∃ l,valV kvs (.inr n) = some (.ref l)/\H l = some (.lst ((nx n).map V.str))
noncomputable def Told (H:Hp) (ns ss:List Str) (nx:Str->List Str) (Q:VK):Prop:=∀ (l:Addr) (ts:List Str) (H':Hp),Same H H'->H l = none->H' l = some (.lst (ts.map V.str))->ts.Nodup->ts.Pairwise leS->(∀ x,x ∈ ts ↔ Rch nx ss x)->(∀ x ∈ ts,x ∈ ns)->Q (.ref l) H'
noncomputable def sp_reached (K:PySem.W.Frag):Sp:=fun vs H Q _=>∃ (d a:Addr) (kvs:List (Key × V)) (ns ss:List Str) (nx:Str->List Str),vs = [.ref d,.ref a]/\H d = some (.dK kvs)/\StepsAt H kvs ns nx/\(∀ n ∈ ns,∀ y ∈ nx n,y ∈ ns)/\ns.length<=100/\(∀ y ∈ ss,y ∈ ns)/\ss.Nodup/\Sqs K H a (ss.map V.str)/\Told H ns ss nx Q
section
variable {P:Program} {w:World} {K:PySem.W.Frag} {mg:Str->Option Value} {base:Heap}
theorem notInW {H:Hp} {p:Addr} {x:Str} {se:List Str} {Q:VK} (e:H p = some (SetW w p se)) (q:Q (.bl (!decide (x ∈ se))) H):rInW w true (.str x) (.ref p) H Q:=⟨p,se,x,rfl,rfl,e,q⟩
theorem sc_reached:FnScope ["steps", "some", "seen", "waiting", "here", "name"] ["steps", "some"] (defScope s_reached):=⟨rfl,rfl,rfl,by decide +kernel,rfl,by decide +kernel,by decide +kernel⟩
set_option maxHeartbeats 1000000 in
theorem ok_reached (T:Tx K mg):FnOk P w K mg base CX0 1 T.reached.f T.reached.fd ["steps", "some"] (sp_reached K):=by
 have sc:=sc_reached
 refine T.reached.F.ok sc_reached (fun vs H Q E h=>?_) (fun cdv A outer s H vs Q E hr h=>?_)
 ·obtain ⟨d,a,kvs,ns,ss,nx,rfl,_⟩:=h
  rfl
 ·obtain ⟨d,a,kvs,ns,ss,nx,rfl,hd,hv,hc,hl,hsub,hnd,hS,k⟩:=h
  have hu:=hu_of hr
  refine ⟨_,(pss_cons (ps_set (i:=2) sc.nd rfl (by first | exact Or.inl rfl | exact Or.inr rfl) (pe_bt (cl_setW K w) T.b_set bt_set (pa_cons (pv 1) pa_nil)))
   (pss_cons (ps_set (i:=3) sc.nd rfl (by first | exact Or.inl rfl | exact Or.inr rfl) (pe_bt (cl_list K) T.b_list bt_list (pa_cons (pv 1) pa_nil)))
   (pss_cons (ps_while PassesOwn.never (ptV K (pv 3)) (pss_cons (ps_set (i:=4) sc.nd rfl (by first | exact Or.inl rfl | exact Or.inr rfl) (peBM0 K PySem.F.plainAttrs_list PySem.F.slot_list_pop PySem.F.type_list_pop mt_pop (pv 3)))
   (pss_one (ps_for PassesOwn.never rfl (piL K (pe_dget hu (pv 0) (pv 4) (fun _ _=>rfl))) (pg_name (i:=5) sc.nd rfl (by first | exact Or.inl rfl | exact Or.inr rfl))
   (pss_one (ps_if (pt_cmpR op_notIn_setw (pv 5) (pv 2) rfl) (pss_cons (ps_expr (peSadd P w (m_addW w) (pv 2) (pa_cons (pv 5) pa_nil)))
   (pss_one (ps_expr (peBM K PySem.F.plainAttrs_list PySem.F.slot_list_append PySem.F.type_list_append mt_append (pv 3) (pa_cons (pv 5) pa_nil))))) pss_nil))))))
   (pss_one (ps_ret (pe_bf (cl_sortW w) T.b_sorted bt_sorted (pa_cons (pv 2) pa_nil))))))),?_⟩
  have hls:=nd_len hnd hsub
  refine seq_gen fun Z1 hZ1=>?_
  refine ex1 rfl ⟨a,ss,rfl,hS,hnd,by omega,fun p hp=>?_⟩
  have u1:=Same.new (o:=SetW w p ss) hp
  have f1:(upd H p (SetW w p ss)) p = some (SetW w p ss):=upd_same
  generalize upd H p (SetW w p ss) = H1 at u1 f1 ⊢
  refine hZ1 _ _ (seq_gen fun Z2 hZ2=>?_)
  refine ex1 rfl ⟨a,_,rfl,(u1.at a).seq hS,fun q hq=>?_⟩
  have u2:=Same.new (o:=.lst (ss.map V.str)) hq
  have f2:(upd H1 q (.lst (ss.map V.str))) q = some (.lst (ss.map V.str)):=upd_same
  generalize upd H1 q (.lst (ss.map V.str)) = H2 at u2 f2 ⊢
  have npq:p ≠ q:=ne_of_none f1 hq
  have hq0:=u1.free hq
  refine hZ2 _ _ (seq_gen fun Z3 hZ3=>?_)
  refine ⟨fun m σ H3=>∃ v4 v5 se wa,σ = [some (.ref d),some (.ref a),some (.ref p),some (.ref q),v4,v5]/\m = 2 * (ns.length - se.length) + wa.length/\Same H H3/\H3 p = some (SetW w p se)/\H3 q = some (.lst (wa.map V.str))/\RI nx ns ss se wa noS,
   ⟨_,none,none,ss,ss,rfl,rfl,u1.trans u2,u2 _ _ f1,f2,.init hnd hsub⟩,?_⟩
  rintro m σ H3 ⟨v4,v5,se,wa,rfl,rfl,s3,e3,g3,R3⟩
  refine ex1 rfl ⟨_,.inl ⟨_,SqL.of g3,rfl⟩,?_⟩
  rcases List.eq_nil_or_concat wa with rfl | ⟨wa',x,rfl⟩
  ·refine iteF (hZ3 _ _ ?_)
   refine ex1 rfl ⟨p,se,rfl,e3,fun l ts hl pm so=>?_⟩
   have u4:=Same.new (o:=.lst (ts.map V.str)) hl
   exact k l ts _ (s3.trans u4) (s3.free hl) upd_same (pm.nodup_iff.mpr R3.nd) so (fun y=>pm.mem_iff.trans (R3.fin y)) fun y hy=>R3.sub y (pm.mem_iff.mp hy)
  ·rw [List.concat_eq_append] at *
   rw [if_pos (by simp)]
   refine ⟨_,fun _ _ z=>z,seq_gen fun N1 hN1=>?_⟩
   have R4:RI nx ns ss se wa' (fun y=>y = x):=R3.pop (List.nodup_append.mp R3.ndw).1 (fun y hy=>(List.mem_append.mp hy).imp id List.mem_singleton.mp) fun y hy=>List.mem_append_left _ hy
   have hx:x ∈ se:=R3.wai x (List.mem_append_right _ (List.mem_singleton.mpr rfl))
   refine ex1 rfl ⟨.inl ⟨rfl,_,SqL.of g3⟩,q,_,.str x,rfl,rfl,g3,by simp,?_⟩
   have ed:((wa' ++ [x]).map V.str).dropLast = wa'.map V.str:=by simp
   rw [ed]
   have s4:=s3.upd (o:=.lst (wa'.map V.str)) hq0
   have g4:(upd H3 q (.lst (wa'.map V.str))) q = some (.lst (wa'.map V.str)):=upd_same
   have e4:(upd H3 q (.lst (wa'.map V.str))) p = some (SetW w p se):=(upd_ne npq).trans e3
   generalize upd H3 q (.lst (wa'.map V.str)) = H4 at s4 g4 e4 ⊢
   refine hN1 _ _ ?_
   obtain ⟨l,vl,el⟩:=hv x (R3.sub x hx)
   refine ex1 rfl (ex1 rfl ⟨d,.ref l,rfl,by rw [<-vl]; exact DGet.k (k:=Sum.inr x) (s4 _ _ hd),l,rfl,⟨_,SqL.of (s4 _ _ el)⟩,?_⟩)
   refine for_asG (asL (K:=K) (SqL.of el)) (fun i σ H5=>∃ v5 se' wa'',σ = [some (.ref d),some (.ref a),some (.ref p),some (.ref q),some (.str x),v5]/\2 * (ns.length - se'.length) + wa''.length < 2 * (ns.length - se.length) + (wa' ++ [x]).length/\Same H H5/\H5 p = some (SetW w p se')/\H5 q = some (.lst (wa''.map V.str))/\RI nx ns ss se' wa'' (fun y=>y = x)/\x ∈ se'/\∀ y ∈ (nx x).take i,y ∈ se')
    ⟨_,se,wa',rfl,by rw [List.length_append]; exact Nat.lt_succ_self _,s4,e4,g4,R4,hx,fun y hy=>absurd hy List.not_mem_nil⟩ ?_ ?_ ?_
   ·rintro i σ H5 _ ⟨_,_,_,_,_,s5,_⟩
    exact s5.at l
   ·rintro i σ H5 v hvi ⟨v5,se',wa'',rfl,hm,s5,e5,g5,R5,hx5,t5⟩ D1 hD1 _
    rw [List.getElem?_map] at hvi
    obtain ⟨y,hy,rfl⟩:=Option.map_eq_some_iff.mp hvi
    have hyn:y ∈ nx x:=List.mem_of_getElem? hy
    have ht:∀ {se'':List Str},(∀ z ∈ se',z ∈ se'')->y ∈ se''->∀ z ∈ (nx x).take (i + 1),z ∈ se'':=fun h1 h2 z hz=>by
     rw [take_succ hy] at hz
     exact (List.mem_append.mp hz).elim (fun q=>h1 z (t5 z q)) fun q=>List.mem_singleton.mp q ▸ h2
    refine ex1 rfl (ex1 rfl (notInW e5 ⟨_,rfl,ite2 (fun h=>?_) fun h=>?_⟩))
    ·have hns:y ∉ se':=fun z=>by rw [decide_eq_true z] at h; cases h
     have en:addS se' y = se' ++ [y]:=if_neg hns
     have R6:=R5.add hns (hc x (R5.sub x hx5) y hyn) ((R5.rch x hx5).step hyn)
     have l6:=R6.len
     have lw:=R5.lenw
     refine seq_gen fun O1 hO1=>?_
     refine ex1 rfl ⟨⟨p,rfl,.inr (.inl ⟨_,e5⟩)⟩,ex1 rfl ⟨p,se',y,rfl,rfl,e5,by rw [List.length_append,List.length_singleton] at l6; omega,?_⟩⟩
     rw [en]
     have s6:=s5.upd (o:=SetW w p (se' ++ [y])) hp
     have e6:(upd H5 p (SetW w p (se' ++ [y]))) p = some (SetW w p (se' ++ [y])):=upd_same
     have g6:(upd H5 p (SetW w p (se' ++ [y]))) q = some (.lst (wa''.map V.str)):=(upd_ne npq.symm).trans g5
     generalize upd H5 p (SetW w p (se' ++ [y])) = H6 at s6 e6 g6 ⊢
     refine hO1 _ _ ?_
     refine ex1 rfl ⟨.inl ⟨rfl,_,SqL.of g6⟩,ex1 rfl ⟨q,_,_,rfl,rfl,g6,by rw [List.length_map,sizeLine_eq]; omega,hD1 _ _ ⟨_,se' ++ [y],wa'' ++ [y],rfl,?_,s6.upd hq0,(upd_ne npq).trans e6,?_,R6,List.mem_append_left _ hx5,ht (fun z hz=>List.mem_append_left _ hz) (List.mem_append_right _ (List.mem_singleton.mpr rfl))⟩⟩⟩
     ·rw [List.length_append,List.length_singleton] at l6 ⊢
      rw [List.length_append,List.length_singleton]
      exact meas_add l6 hm
     ·rw [upd_same,List.map_append]; rfl
    ·have hys:y ∈ se':=by
      by_cases z:y ∈ se'
      ·exact z
      ·rw [decide_eq_false z] at h; exact absurd rfl h
     exact hD1 _ _ ⟨_,se',wa'',rfl,hm,s5,e5,g5,R5,hx5,ht (fun _ z=>z) hys⟩
   ·rintro σ H5 ⟨v5,se',wa'',rfl,hm,s5,e5,g5,R5,hx5,t5⟩
    rw [List.length_map,List.take_length] at t5
    exact ⟨_,hm,_,_,se',wa'',rfl,rfl,s5,e5,g5,R5.done t5⟩
end
end Sw
namespace Sw
open PySem L2
theorem dc_steps {J:It} {a:Addr} {ns:List Str} {H:Hp} {Q:St->Hp->Prop} {te:TE} {nx:Str->List Str} {v1:Option V} (as:AsSeq J (ns.map V.str) a H) (hl:ns.length<=1000) {D:Addr} (hD:H D = none)
  (ht:∀ n ∈ ns,∀ H1,Same H H1->∀ Q':VK,(∀ l H2,Same H1 H2->H1 l = none->H2 l = some (.lst ((nx n).map V.str))->Q' (.ref l) H2)->te [some (.str n),v1] H1 Q')
  (q:∀ σ kvs H',Same H H'->H' D = some (.dK kvs)->StepsAt H' kvs ns nx->Q σ H') :
  Loop (gName 0) tTrue (emDct D (tVar 0) te) J [none,v1] (upd H D (.dK [])) Q:=by
 refine loop_as as (fun i σ H1=>(∃ v,σ = [v,v1])/\∃ kvs,Same H H1/\H1 D = some (.dK kvs)/\kvs.length<=i/\∀ n ∈ ns.take i,∃ l,l ≠ D/\valV kvs (.inr n) = some (.ref l)/\H1 l = some (.lst ((nx n).map V.str)))
  ⟨⟨_,rfl⟩,[],Same.new hD,upd_same,Nat.zero_le _,fun n h=>absurd h List.not_mem_nil⟩ (fun i σ H1 _ ⟨_,kvs,s1,_⟩=>s1.at a) ?_ ?_
 ·rintro i σ H1 x N hx ⟨⟨v,rfl⟩,kvs,s1,e1,l1,c1⟩ hN
  rw [List.getElem?_map] at hx
  obtain ⟨m,hm,rfl⟩:=Option.map_eq_some_iff.mp hx
  have hi:i < ns.length:=(List.getElem?_eq_some_iff.mp hm).1
  refine g_true ?_
  refine ex1 rfl (ht m (List.mem_of_getElem? hm) H1 s1 _ fun p H2 s2 hp e2=>?_)
  refine ⟨kvs,.inr m,s2 _ _ e1,rfl,by rw [sizeLine_eq]; omega,hN _ _ ⟨⟨_,rfl⟩,putK kvs (.inr m) (.ref p),(s1.trans s2).upd hD,upd_same,?_,fun n hn=>?_⟩⟩
  ·have:=length_putK kvs (Sum.inr m:Key) (.ref p)
   omega
  ·rw [val_put]
   by_cases e:n = m
   ·rw [if_pos e,e]
    have np:p ≠ D:=(ne_of_none e1 hp).symm
    exact ⟨p,np,rfl,(upd_ne np).trans e2⟩
   ·rw [if_neg e]
    rw [take_succ hm] at hn
    obtain ⟨l,h1,h2,h3⟩:=c1 n ((List.mem_append.mp hn).elim id fun z=>absurd (List.mem_singleton.mp z) e)
    exact ⟨l,h1,h2,(upd_ne h1).trans (s2 _ _ h3)⟩
 ·rintro σ H1 ⟨_,kvs,s1,e1,l1,c1⟩
  rw [List.length_map,List.take_length] at c1
  exact q σ kvs H1 s1 e1 fun n hn=>let ⟨l,_,h2,h3⟩:=c1 n hn; ⟨l,h2,h3⟩
theorem struckOf_mem {ns:List Str} {qs:List PA2} (h:∀ q ∈ qs,q.2.1 ∈ ns/\q.2.2 ∈ ns):∀ n ∈ ns,∀ y ∈ struckOf qs n,y ∈ ns:=fun n _ y hy=>by
 obtain ⟨q,hq,rfl⟩:=List.mem_map.mp hy
 exact (h q (List.mem_filter.mp hq).1).2
theorem strikersOf_mem {ns:List Str} {qs:List PA2} (h:∀ q ∈ qs,q.2.1 ∈ ns/\q.2.2 ∈ ns):∀ n ∈ ns,∀ y ∈ strikersOf qs n,y ∈ ns:=fun n _ y hy=>by
 obtain ⟨q,hq,rfl⟩:=List.mem_map.mp hy
 exact (h q (List.mem_filter.mp hq).1).1
section
variable {P:Program} {w:World} {K:PySem.W.Frag} {mg:Str->Option Value} {base:Heap}
noncomputable def sp_behind (K:PySem.W.Frag) (C:Addr):Sp:=fun vs H Q _=>∃ (x a:Addr) (ns ss:List Str) (qs:List PA2),vs = [.ref x,.ref a]/\WebAt C H x ns qs/\(∀ y ∈ ss,y ∈ ns)/\ss.Nodup/\Sqs K H a (ss.map V.str)/\Told H ns ss (struckOf qs) Q
theorem sc_behind:FnScope ["web", "some"] ["web", "some"] (defScope s_behind):=⟨rfl,rfl,rfl,by decide +kernel,rfl,by decide +kernel,by decide +kernel⟩
theorem ok_behind (T:Tx K mg):FnOk P w K mg base CX0 3 T.behind.f T.behind.fd ["web", "some"] (sp_behind K T.CWeb):=by
 have G_Web_all_names:FnOk P w K mg base CX0 1 T.mWeb_all_names.f T.mWeb_all_names.fd ["self"] (sp_all_names T.CWeb):=ok_Web_all_names T
 have G_Web_struck:FnOk P w K mg base CX0 2 T.mWeb_struck.f T.mWeb_struck.fd ["self", "name"] (sp_struck T.CWeb):=ok_Web_struck T
 have G_reached:FnOk P w K mg base CX0 1 T.reached.f T.reached.fd ["steps", "some"] (sp_reached K):=ok_reached T
 have sc:=sc_behind
 refine T.behind.F.ok sc_behind (fun vs H Q E h=>?_) (fun cdv A outer s H vs Q E hr h=>?_)
 ·obtain ⟨x,a,ns,ss,qs,rfl,_⟩:=h
  rfl
 ·obtain ⟨x,a,ns,ss,qs,rfl,hW,hsub,hnd,hS,k⟩:=h
  have hu:=hu_of hr
  refine ⟨_,(pss_one (ps_ret (pe_fn T.reached G_reached (hr.mono (by decide)) (pa_cons (pe_dc (N':=["name", "web"]) (cap:=[none,some 0]) (cl:=[("web",_)]) (cs_mk ⟨⟨rfl,rfl,rfl,rfl⟩,trivial⟩ ⟨rfl,trivial⟩) rfl (piL K (pe_meth0 (pv 0) T.clWeb T.mWeb_all_names.m G_Web_all_names (hr.mono (by decide)) T.mWeb_all_names.b .nil pass0)) (fun _ _ _ _=>by exact ⟨(pgC 0),pts_nil,(pv 0),(pe_meth (pv 1) T.clWeb T.mWeb_struck.m G_Web_struck (hr.mono (by decide)) T.mWeb_struck.b .nil pass0 (pa_cons (pv 0) pa_nil))⟩)) (pa_cons (pv 1) pa_nil))))),?_⟩
  obtain ⟨ok,dx,a1,b,c,d,kc,kd,e2,_⟩:=id hW
  refine ex1 rfl ⟨x,dx,ex1 rfl ⟨e2,rfl,x,ns,qs,rfl,hW,fun l2 hl2=>?_⟩⟩
  have s2:=Same.new (o:=.lst (ns.map V.str)) hl2
  have f2:(upd H l2 (.lst (ns.map V.str))) l2 = some (.lst (ns.map V.str)):=upd_same
  generalize upd H l2 (.lst (ns.map V.str)) = H2 at s2 f2 ⊢
  refine ⟨l2,rfl,⟨_,SqL.of f2⟩,fun D hD=>?_⟩
  refine dc_steps (nx:=struckOf qs) (asL (K:=K) (SqL.of f2)) (by have:=ok.len; omega) hD (fun n hn H1 s1 Q' hQ=>?_) fun σ kvs H3 s3 e3 st3=>?_
  ·have W1:=(hW.same s2).same s1
   refine ex1 rfl ⟨x,dx,ex1 rfl ⟨s1 _ _ (s2 _ _ e2),rfl,ex1 rfl ⟨x,n,ns,qs,rfl,W1,hn,fun l hl=>?_⟩⟩⟩
   exact hQ l _ (Same.new hl) hl upd_same
  ·have s23:=s2.trans s3
   refine ex1 rfl ⟨D,a,kvs,ns,ss,_,rfl,e3,st3,struckOf_mem ok.mem,ok.len,hsub,hnd,(s23.at a).seq hS,fun l ts H4 s4 hl e4 nd4 so4 m4 sb4=>?_⟩
   exact k l ts H4 (s23.trans s4) (s23.free hl) e4 nd4 so4 m4 sb4
noncomputable def sp_ahead_of (K:PySem.W.Frag) (C:Addr):Sp:=fun vs H Q _=>∃ (x a:Addr) (ns ss:List Str) (qs:List PA2),vs = [.ref x,.ref a]/\WebAt C H x ns qs/\(∀ y ∈ ss,y ∈ ns)/\ss.Nodup/\Sqs K H a (ss.map V.str)/\Told H ns ss (strikersOf qs) Q
theorem sc_ahead_of:FnScope ["web", "some"] ["web", "some"] (defScope s_ahead_of):=⟨rfl,rfl,rfl,by decide +kernel,rfl,by decide +kernel,by decide +kernel⟩
theorem ok_ahead_of (T:Tx K mg):FnOk P w K mg base CX0 3 T.ahead_of.f T.ahead_of.fd ["web", "some"] (sp_ahead_of K T.CWeb):=by
 have G_Web_all_names:FnOk P w K mg base CX0 1 T.mWeb_all_names.f T.mWeb_all_names.fd ["self"] (sp_all_names T.CWeb):=ok_Web_all_names T
 have G_Web_strikers:FnOk P w K mg base CX0 2 T.mWeb_strikers.f T.mWeb_strikers.fd ["self", "name"] (sp_strikers T.CWeb):=ok_Web_strikers T
 have G_reached:FnOk P w K mg base CX0 1 T.reached.f T.reached.fd ["steps", "some"] (sp_reached K):=ok_reached T
 have sc:=sc_ahead_of
 refine T.ahead_of.F.ok sc_ahead_of (fun vs H Q E h=>?_) (fun cdv A outer s H vs Q E hr h=>?_)
 ·obtain ⟨x,a,ns,ss,qs,rfl,_⟩:=h
  rfl
 ·obtain ⟨x,a,ns,ss,qs,rfl,hW,hsub,hnd,hS,k⟩:=h
  have hu:=hu_of hr
  refine ⟨_,(pss_one (ps_ret (pe_fn T.reached G_reached (hr.mono (by decide)) (pa_cons (pe_dc (N':=["name", "web"]) (cap:=[none,some 0]) (cl:=[("web",_)]) (cs_mk ⟨⟨rfl,rfl,rfl,rfl⟩,trivial⟩ ⟨rfl,trivial⟩) rfl (piL K (pe_meth0 (pv 0) T.clWeb T.mWeb_all_names.m G_Web_all_names (hr.mono (by decide)) T.mWeb_all_names.b .nil pass0)) (fun _ _ _ _=>by exact ⟨(pgC 0),pts_nil,(pv 0),(pe_meth (pv 1) T.clWeb T.mWeb_strikers.m G_Web_strikers (hr.mono (by decide)) T.mWeb_strikers.b .nil pass0 (pa_cons (pv 0) pa_nil))⟩)) (pa_cons (pv 1) pa_nil))))),?_⟩
  obtain ⟨ok,dx,a1,b,c,d,kc,kd,e2,_⟩:=id hW
  refine ex1 rfl ⟨x,dx,ex1 rfl ⟨e2,rfl,x,ns,qs,rfl,hW,fun l2 hl2=>?_⟩⟩
  have s2:=Same.new (o:=.lst (ns.map V.str)) hl2
  have f2:(upd H l2 (.lst (ns.map V.str))) l2 = some (.lst (ns.map V.str)):=upd_same
  generalize upd H l2 (.lst (ns.map V.str)) = H2 at s2 f2 ⊢
  refine ⟨l2,rfl,⟨_,SqL.of f2⟩,fun D hD=>?_⟩
  refine dc_steps (nx:=strikersOf qs) (asL (K:=K) (SqL.of f2)) (by have:=ok.len; omega) hD (fun n hn H1 s1 Q' hQ=>?_) fun σ kvs H3 s3 e3 st3=>?_
  ·have W1:=(hW.same s2).same s1
   refine ex1 rfl ⟨x,dx,ex1 rfl ⟨s1 _ _ (s2 _ _ e2),rfl,ex1 rfl ⟨x,n,ns,qs,rfl,W1,hn,fun l hl=>?_⟩⟩⟩
   exact hQ l _ (Same.new hl) hl upd_same
  ·have s23:=s2.trans s3
   refine ex1 rfl ⟨D,a,kvs,ns,ss,_,rfl,e3,st3,strikersOf_mem ok.mem,ok.len,hsub,hnd,(s23.at a).seq hS,fun l ts H4 s4 hl e4 nd4 so4 m4 sb4=>?_⟩
   exact k l ts H4 (s23.trans s4) (s23.free hl) e4 nd4 so4 m4 sb4
end
end Sw
namespace Sw
open PySem L2
theorem str_of {x y:Str} (h:x.cps.toList = y.cps.toList):x = y:=by
 cases x; cases y
 exact congrArg Str.mk (Array.toList_inj.mp h)
theorem leS_anti {x y:Str} (h1:leS x y) (h2:leS y x):x = y:=str_of (List.le_antisymm (as:=x.cps.toList) (bs:=y.cps.toList) h1 h2)
theorem sorted_one {a b:List Str} (h1:a.Pairwise leS) (h2:b.Pairwise leS) (h:a.Perm b):a = b:=List.Perm.eq_of_pairwise (fun _ _ _ _=>leS_anti) h1 h2 h
end Sw
namespace Sw
open PySem L2
theorem Rch.trans {nx:Str->List Str} {ss:List Str} {b c:Str} (h1:Rch nx ss b) (h2:Rch nx [b] c):Rch nx ss c:=fun S s1 s2=>h2 S (fun y hy=>by rw [List.mem_singleton.mp hy]; exact h1 S s1 s2) s2
theorem Rch.mono {nx:Str->List Str} {ss ts:List Str} {c:Str} (h:Rch nx ss c) (s:∀ y ∈ ss,Rch nx ts y):Rch nx ts c:=h _ s fun _ _ h1 h2=>h1.step h2
theorem Rch.self {nx:Str->List Str} {a:Str}:Rch nx [a] a:=.of (List.mem_singleton.mpr rfl)
theorem Rch.one {nx:Str->List Str} {a b:Str} (h:b ∈ nx a):Rch nx [a] b:=Rch.self.step h
theorem Rch.rev {nx ny:Str->List Str} (h:∀ x y,y ∈ nx x->x ∈ ny y) {a b:Str} (r:Rch nx [a] b):Rch ny [b] a :=
 r (fun z=>Rch ny [z] a) (fun y hy=>by rw [List.mem_singleton.mp hy]; exact .self) fun y z hy hz=>(Rch.one (h y z hz)).trans hy
theorem Rch.congr {nx ny:Str->List Str} {ss:List Str} (h:∀ n y,y ∈ nx n ↔ y ∈ ny n) (x:Str):Rch nx ss x ↔ Rch ny ss x :=
 ⟨fun r S h1 h2=>r S h1 fun y z hy hz=>h2 y z hy ((h y z).mp hz),fun r S h1 h2=>r S h1 fun y z hy hz=>h2 y z hy ((h y z).mpr hz)⟩
theorem Rch.first {nx:Str->List Str} {a b:Str} (h:Rch nx (nx a) b):∃ y ∈ nx a,Rch nx [y] b :=
 h (fun z=>∃ y ∈ nx a,Rch nx [y] z) (fun y hy=>⟨y,hy,.self⟩) fun _ _ ⟨y,h1,h2⟩ hz=>⟨y,h1,h2.step hz⟩
theorem Rch.cas {nx:Str->List Str} {a b:Str} (h:Rch nx [a] b):b = a\/Rch nx (nx a) b :=
 h (fun z=>z = a\/Rch nx (nx a) z) (fun y hy=>.inl (List.mem_singleton.mp hy)) fun y z hy hz=>hy.elim (fun e=>.inr (.of (e ▸ hz))) fun r=>.inr (r.step hz)
noncomputable def srt (ns:List Str) (S:Str->Prop):List Str:=ns.filter fun x=>@decide (S x) (Classical.propDecidable _)
theorem mem_srt {ns:List Str} {S:Str->Prop} {x:Str}:x ∈ srt ns S ↔ x ∈ ns/\S x:=by
 unfold srt
 rw [List.mem_filter]
 exact and_congr_right fun _=>⟨fun h=>@of_decide_eq_true _ (Classical.propDecidable _) h,fun h=>@decide_eq_true _ (Classical.propDecidable _) h⟩
theorem tells_eq {us ts:List Str} (h1:us.Nodup) (h2:ts.Nodup) (s1:us.Pairwise leS) (s2:ts.Pairwise leS) (m:∀ x,x ∈ us ↔ x ∈ ts):us = ts:=sorted_one s1 s2 ((List.perm_ext_iff_of_nodup h1 h2).mpr m)
theorem srt_eq {ns ts:List Str} {S:Str->Prop} (nn:ns.Nodup) (sn:ns.Pairwise leS) (nd:ts.Nodup) (so:ts.Pairwise leS) (m:∀ x,x ∈ ts ↔ S x) (sub:∀ x ∈ ts,x ∈ ns):ts = srt ns S :=
 tells_eq nd (nn.filter _) so (sn.filter _) fun x=>⟨fun h=>mem_srt.mpr ⟨sub x h,(m x).mp h⟩,fun h=>(m x).mpr (mem_srt.mp h).2⟩
theorem srt_congr {ns:List Str} {S S':Str->Prop} (nn:ns.Nodup) (sn:ns.Pairwise leS) (h:∀ x ∈ ns,S x ↔ S' x):srt ns S = srt ns S' :=
 tells_eq (nn.filter _) (nn.filter _) (sn.filter _) (sn.filter _) fun x=>by rw [mem_srt,mem_srt]; exact and_congr_right fun hx=>h x hx
noncomputable def isTop (ns:List Str) (M:Str->Str->Prop) (O:Str->Prop) (n:Str):Prop:=O n/\(srt ns (M n)).head? = some n
noncomputable def tops (ns l:List Str) (M:Str->Str->Prop) (O:Str->Prop):List (List Str):=(srt l (isTop ns M O)).map fun n=>srt ns (M n)
theorem tops_yes {ns l:List Str} {M:Str->Str->Prop} {O:Str->Prop} {n:Str} (h:isTop ns M O n):tops ns (l ++ [n]) M O = tops ns l M O ++ [srt ns (M n)]:=by
 unfold tops
 rw [show srt (l ++ [n]) (isTop ns M O) = srt l (isTop ns M O) ++ [n] from by
  unfold srt
  rw [List.filter_append,List.filter_cons,if_pos (@decide_eq_true _ (Classical.propDecidable _) h)]; rfl,List.map_append]; rfl
theorem tops_no {ns l:List Str} {M:Str->Str->Prop} {O:Str->Prop} {n:Str} (h:¬ isTop ns M O n):tops ns (l ++ [n]) M O = tops ns l M O:=by
 unfold tops
 rw [show srt (l ++ [n]) (isTop ns M O) = srt l (isTop ns M O) from by
  unfold srt
  rw [List.filter_append,List.filter_cons,if_neg fun z=>h (@of_decide_eq_true _ (Classical.propDecidable _) z)]; exact List.append_nil _]
structure Cls (M:Str->Str->Prop) (O:Str->Prop):Prop where
 refl:∀ n,M n n
 sym:∀ {n x},M n x->M x n
 tr:∀ {n x y},M n x->M x y->M n y
 ok:∀ {n x},O n->M n x->O x
theorem head_le {l:List Str} {h n:Str} (so:l.Pairwise leS) (e:l.head? = some h) (hn:n ∈ l):h = n\/leS h n:=by
 cases l with
 | nil=>cases e
 | cons a r =>
  cases e
  exact (List.mem_cons.mp hn).elim (fun z=>.inl z.symm) fun z=>.inr ((List.pairwise_cons.mp so).1 n z)
theorem tops_any {ns:List Str} {M:Str->Str->Prop} {O:Str->Prop} (C:Cls M O) (nn:ns.Nodup) (sn:ns.Pairwise leS) {i:Nat} {n:Str} (hn:ns[i]? = some n) (o:O n):(∃ z ∈ tops ns (ns.take i) M O,n ∈ z) ↔ ¬ isTop ns M O n:=by
 have hnn:=List.mem_of_getElem? hn
 have cg:∀ {m},M n m->srt ns (M m) = srt ns (M n):=fun h=>srt_congr nn sn fun x _=>⟨fun z=>C.tr h z,fun z=>C.tr (C.sym h) z⟩
 constructor
 ·rintro ⟨z,hz,hm⟩ ⟨_,ht⟩
  obtain ⟨m,hm',rfl⟩:=List.mem_map.mp hz
  obtain ⟨m1,m2,m3⟩:=mem_srt.mp hm'
  have e:=cg (C.sym (mem_srt.mp hm).2)
  rw [e,ht] at m3
  cases m3
  exact nodup_take nn hn m1
 ·intro ht
  have hs:n ∈ srt ns (M n):=mem_srt.mpr ⟨hnn,C.refl n⟩
  cases e:(srt ns (M n)).head? with
  | none=>rw [List.head?_eq_none_iff.mp e] at hs; exact absurd hs List.not_mem_nil
  | some h =>
   obtain ⟨h1,h2⟩:=mem_srt.mp (List.mem_of_head? e)
   have ne:h ≠ n:=fun z=>ht ⟨o,z ▸ e⟩
   have le:=(head_le (sn.filter _) e hs).resolve_left ne
   refine ⟨srt ns (M h),List.mem_map.mpr ⟨h,mem_srt.mpr ⟨?_,C.ok o h2,(cg h2).symm ▸ e⟩,rfl⟩,(cg h2).symm ▸ hs⟩
   obtain ⟨hi,ei⟩:=List.getElem?_eq_some_iff.mp hn
   obtain ⟨j,hj,ej⟩:=List.getElem_of_mem h1
   rcases Nat.lt_trichotomy j i with z | z | z
   ·rw [<-ej]
    exact List.mem_take_iff_getElem.mpr ⟨j,by omega,rfl⟩
   ·subst z; exact absurd (ej.symm.trans ei) ne
   ·have:=List.pairwise_iff_getElem.mp sn i j hi hj z
    rw [ei,ej] at this
    exact absurd (leS_anti le this) ne
noncomputable def bes (qs:List PA2) (n:Str):List Str:=strikersOf qs n ++ struckOf qs n
theorem mem_struck {qs:List PA2} {n y:Str}:y ∈ struckOf qs n ↔ (n,y) ∈ qs.map fun q=>q.2:=by
 unfold struckOf
 rw [List.mem_map,List.mem_map]
 constructor
 ·rintro ⟨q,hq,rfl⟩
  obtain ⟨h1,h2⟩:=List.mem_filter.mp hq
  exact ⟨q,h1,Prod.ext (of_decide_eq_true h2) rfl⟩
 ·rintro ⟨q,hq,e⟩
  exact ⟨q,List.mem_filter.mpr ⟨hq,decide_eq_true (congrArg Prod.fst e)⟩,congrArg Prod.snd e⟩
theorem mem_strikers {qs:List PA2} {n y:Str}:y ∈ strikersOf qs n ↔ (y,n) ∈ qs.map fun q=>q.2:=by
 unfold strikersOf
 rw [List.mem_map,List.mem_map]
 constructor
 ·rintro ⟨q,hq,rfl⟩
  obtain ⟨h1,h2⟩:=List.mem_filter.mp hq
  exact ⟨q,h1,Prod.ext rfl (of_decide_eq_true h2)⟩
 ·rintro ⟨q,hq,e⟩
  exact ⟨q,List.mem_filter.mpr ⟨hq,decide_eq_true (congrArg Prod.snd e)⟩,congrArg Prod.fst e⟩
noncomputable abbrev Ks:=List (Str × Str)
noncomputable def sk (ks:Ks) (n:Str):List Str:=(ks.filter fun k=>decide (k.1 = n)).map fun k=>k.2
noncomputable def bk (ks:Ks) (n:Str):List Str:=sk (ks ++ ks.map fun k=>(k.2,k.1)) n
theorem mem_sk {ks:Ks} {n y:Str}:y ∈ sk ks n ↔ (n,y) ∈ ks:=by
 unfold sk
 rw [List.mem_map]
 constructor
 ·rintro ⟨q,hq,rfl⟩
  obtain ⟨h1,h2⟩:=List.mem_filter.mp hq
  rw [<-of_decide_eq_true h2]; exact h1
 ·exact fun e=>⟨_,List.mem_filter.mpr ⟨e,decide_eq_true rfl⟩,rfl⟩
theorem mem_bk {ks:Ks} {n y:Str}:y ∈ bk ks n ↔ (n,y) ∈ ks\/(y,n) ∈ ks:=by
 unfold bk
 rw [mem_sk,List.mem_append,List.mem_map]
 exact or_congr_right ⟨fun ⟨k,h,e⟩=>by cases e; exact h,fun h=>⟨_,h,rfl⟩⟩
noncomputable def pM (ks:Ks) (n x:Str):Prop:=Rch (bk ks) [n] x
noncomputable def pO (_:Str):Prop:=True
noncomputable def rM (ks:Ks) (n x:Str):Prop:=Rch (sk ks) [n] x/\Rch (sk ks) [x] n
noncomputable def rO (ks:Ks) (n:Str):Prop:=Rch (sk ks) (sk ks n) n
theorem cls_p (ks:Ks):Cls (pM ks) pO:=⟨fun _=>.self,fun h=>h.rev fun x y z=>mem_bk.mpr (mem_bk.mp z).symm,fun h1 h2=>h1.trans h2,fun _ _=>trivial⟩
theorem alone_iff {ks:Ks} {ns:List Str} {n:Str} (nn:ns.Nodup) (hn:n ∈ ns) (sub:∀ y ∈ sk ks n,y ∈ ns):((srt ns (rM ks n)).length = 1/\n ∉ sk ks n) ↔ ¬ rO ks n:=by
 have hs:n ∈ srt ns (rM ks n):=mem_srt.mpr ⟨hn,.self,.self⟩
 constructor
 ·rintro ⟨h1,h2⟩ o
  obtain ⟨y,hy,r⟩:=o.first
  have m:y ∈ srt ns (rM ks n):=mem_srt.mpr ⟨sub y hy,.one hy,r⟩
  obtain ⟨a,ea⟩:=List.length_eq_one_iff.mp h1
  rw [ea,List.mem_singleton] at m hs
  exact h2 (by rw [hs,<-m]; rw [hs,<-m] at hy; exact hy)
 ·intro o
  refine ⟨?_,fun h=>o (.of h)⟩
  have al:∀ x ∈ srt ns (rM ks n),x = n:=fun x hx=>by
   obtain ⟨_,h1,h2⟩:=mem_srt.mp hx
   exact h1.cas.resolve_right fun r=>o (r.trans h2)
  have nd:(srt ns (rM ks n)).Nodup:=nn.filter _
  cases e:srt ns (rM ks n) with
  | nil=>rw [e] at hs; exact absurd hs List.not_mem_nil
  | cons a r =>
   cases r with
   | nil=>rfl
   | cons b r =>
    rw [e] at al nd
    have e1:=al a (List.mem_cons_self ..)
    have e2:=al b (List.mem_cons_of_mem _ (List.mem_cons_self ..))
    exact absurd (List.mem_cons_self ..) (e1.trans e2.symm ▸ (List.nodup_cons.mp nd).1)
end Sw
namespace Sw
open PySem L2
noncomputable def LLx (H:Hp) (l:Addr) (ps:List (Addr × List Str)):Prop:=H l = some (.lst (ps.map fun p=>V.ref p.1))/\∀ p ∈ ps,p.1 ≠ l/\H p.1 = some (.lst (p.2.map V.str))
noncomputable def ToldL (H:Hp) (zs:List (List Str)) (Q:VK):Prop:=∀ (l:Addr) (ps:List (Addr × List Str)) (H':Hp),Same H H'->H l = none->LLx H' l ps->(∀ p ∈ ps,H p.1 = none)->ps.map (fun p=>p.2) = zs->Q (.ref l) H'
section
variable {H H':Hp} {l z:Addr} {ps:List (Addr × List Str)} {ts:List Str}
theorem LLx.same (h:LLx H l ps) (s:Same H H'):LLx H' l ps:=⟨s _ _ h.1,fun p hp=>⟨(h.2 p hp).1,s _ _ (h.2 p hp).2⟩⟩
theorem LLx.app (h:LLx H l ps) (e:H z = some (.lst (ts.map V.str))) (n:z ≠ l):LLx (upd H l (.lst ((ps.map fun p=>V.ref p.1) ++ [.ref z]))) l (ps ++ [(z,ts)]):=by
 refine ⟨by rw [upd_same,List.map_append]; rfl,fun p hp=>?_⟩
 rcases List.mem_append.mp hp with q | q
 ·exact ⟨(h.2 p q).1,by rw [upd_ne (h.2 p q).1]; exact (h.2 p q).2⟩
 ·rw [List.mem_singleton.mp q]
  exact ⟨n,by rw [upd_ne n]; exact e⟩
end
theorem srt_len (ns:List Str) (S:Str->Prop):(srt ns S).length<=ns.length:=List.length_filter_le ..
theorem tops_len (ns l:List Str) (M:Str->Str->Prop) (O:Str->Prop):(tops ns l M O).length<=l.length:=by unfold tops; rw [List.length_map]; exact srt_len ..
theorem mem_bes {qs:List PA2} (n y:Str):y ∈ bes qs n ↔ y ∈ bk (qs.map fun q=>q.2) n:=by
 unfold bes
 rw [List.mem_append,mem_strikers,mem_struck,mem_bk]
 exact or_comm
theorem head_cons {l:List Str} {n:Str} (h:n ∈ l):∃ a r,l = a :: r:=by
 cases l with
 | nil=>exact absurd h List.not_mem_nil
 | cons a r=>exact ⟨a,r,rfl⟩
section
variable {P:Program} {w:World} {K:PySem.W.Frag} {mg:Str->Option Value} {base:Heap}
noncomputable def sp_parts (C:Addr):Sp:=fun vs H Q _=>∃ (x:Addr) (ns:List Str) (qs:List PA2),vs = [.ref x]/\WebAt C H x ns qs/\ToldL H (tops ns ns (pM (qs.map fun q=>q.2)) pO) Q
theorem sc_parts:FnScope ["web", "beside", "found", "name", "part"] ["web"] (defScope s_parts):=⟨rfl,rfl,rfl,by decide +kernel,rfl,by decide +kernel,by decide +kernel⟩
set_option maxHeartbeats 2000000 in
theorem ok_parts (T:Tx K mg):FnOk P w K mg base CX0 3 T.parts.f T.parts.fd ["web"] (sp_parts T.CWeb):=by
 have G_Web_all_names:FnOk P w K mg base CX0 1 T.mWeb_all_names.f T.mWeb_all_names.fd ["self"] (sp_all_names T.CWeb):=ok_Web_all_names T
 have G_Web_strikers:FnOk P w K mg base CX0 2 T.mWeb_strikers.f T.mWeb_strikers.fd ["self", "name"] (sp_strikers T.CWeb):=ok_Web_strikers T
 have G_Web_struck:FnOk P w K mg base CX0 2 T.mWeb_struck.f T.mWeb_struck.fd ["self", "name"] (sp_struck T.CWeb):=ok_Web_struck T
 have G_reached:FnOk P w K mg base CX0 1 T.reached.f T.reached.fd ["steps", "some"] (sp_reached K):=ok_reached T
 have sc:=sc_parts
 refine T.parts.F.ok sc_parts (fun vs H Q E h=>?_) (fun cdv A outer s H vs Q E hr h=>?_)
 ·obtain ⟨x,ns,qs,rfl,_⟩:=h
  rfl
 ·obtain ⟨x,ns,qs,rfl,hW,k⟩:=h
  have hu:=hu_of hr
  refine ⟨_,(pss_cons (ps_setDC (i:=1) (N':=["name", "web"]) (cap:=[none,some 0]) (cl:=[("web",_)]) sc.nd rfl (by first | exact Or.inl rfl | exact Or.inr rfl) (cs_mk ⟨⟨rfl,rfl,rfl,rfl⟩,trivial⟩ ⟨rfl,trivial⟩) rfl (piL K (pe_meth0 (pv 0) T.clWeb T.mWeb_all_names.m G_Web_all_names (hr.mono (by decide)) T.mWeb_all_names.b .nil pass0)) (fun _ _ _ _=>by exact ⟨(pgC 0),pts_nil,(pv 0),(pe_op op_cat (pe_meth (pv 1) T.clWeb T.mWeb_strikers.m G_Web_strikers (hr.mono (by decide)) T.mWeb_strikers.b .nil pass0 (pa_cons (pv 0) pa_nil)) (pe_meth (pv 1) T.clWeb T.mWeb_struck.m G_Web_struck (hr.mono (by decide)) T.mWeb_struck.b .nil pass0 (pa_cons (pv 0) pa_nil)))⟩))
   (pss_cons (ps_set (i:=2) sc.nd rfl (by first | exact Or.inl rfl | exact Or.inr rfl) (pe_lst pa_nil))
   (pss_cons (ps_for PassesOwn.never rfl (piL K (pe_meth0 (pv 0) T.clWeb T.mWeb_all_names.m G_Web_all_names (hr.mono (by decide)) T.mWeb_all_names.b .nil pass0)) (pg_name (i:=3) sc.nd rfl (by first | exact Or.inl rfl | exact Or.inr rfl))
   (pss_cons (ps_set (i:=4) sc.nd rfl (by first | exact Or.inl rfl | exact Or.inr rfl) (pe_fn T.reached G_reached (hr.mono (by decide)) (pa_cons (pv 1) (pa_cons (pe_lst (pa_cons (pv 3) pa_nil)) pa_nil))))
   (pss_one (ps_if (pt_cmpR op_eq (pe_ix (ixL K) (pv 4) pe_int (fun _ _=>rfl)) (pv 3) (nomark _)) (pss_one (ps_expr (peBM K PySem.F.plainAttrs_list PySem.F.slot_list_append PySem.F.type_list_append mt_append (pv 2) (pa_cons (pv 4) pa_nil)))) pss_nil))))
   (pss_one (ps_ret (pv 2)))))),?_⟩
  obtain ⟨ok,dx,a1,b,c,d,kc,kd,e2,_⟩:=id hW
  have ln:=ok.len
  have lq:=ok.lenq
  refine seq_gen fun N1 hN1=>?_
  refine ex1 rfl ⟨x,dx,ex1 rfl ⟨e2,rfl,x,ns,qs,rfl,hW,fun l2 hl2=>?_⟩⟩
  have s2:=Same.new (o:=.lst (ns.map V.str)) hl2
  have f2:(upd H l2 (.lst (ns.map V.str))) l2 = some (.lst (ns.map V.str)):=upd_same
  generalize upd H l2 (.lst (ns.map V.str)) = H2 at s2 f2 ⊢
  refine ⟨l2,rfl,⟨_,SqL.of f2⟩,fun D hD=>?_⟩
  refine dc_steps (nx:=bes qs) (asL (K:=K) (SqL.of f2)) (by omega) hD (fun n hn H1 s1 Q' hQ=>?_) fun σ kvs H3 s3 e3 st3=>?_
  ·have W1:=(hW.same s2).same s1
   refine ex1 rfl ⟨x,dx,ex1 rfl ⟨s1 _ _ (s2 _ _ e2),rfl,ex1 rfl ⟨x,n,ns,qs,rfl,W1,hn,fun l hl=>?_⟩⟩⟩
   have u1:=Same.new (o:=.lst ((strikersOf qs n).map V.str)) hl
   have f1:(upd H1 l (.lst ((strikersOf qs n).map V.str))) l = some (.lst ((strikersOf qs n).map V.str)):=upd_same
   generalize upd H1 l (.lst ((strikersOf qs n).map V.str)) = H4 at u1 f1 ⊢
   refine ex1 rfl ⟨x,dx,ex1 rfl ⟨u1 _ _ (s1 _ _ (s2 _ _ e2)),rfl,ex1 rfl ⟨x,n,ns,qs,rfl,W1.same u1,hn,fun m hm=>?_⟩⟩⟩
   have u2:=Same.new (o:=.lst ((struckOf qs n).map V.str)) hm
   refine ⟨l,m,_,_,rfl,rfl,u2 _ _ f1,upd_same,?_,fun p hp=>hQ p _ ((u1.trans u2).trans (Same.new hp)) ((u1.trans u2).free hp) (by rw [upd_same]; unfold bes; rw [List.map_append])⟩
   unfold strikersOf struckOf
   rw [List.length_map,List.length_map,List.length_map,List.length_map,sizeLine_eq]
   have:=List.length_filter_le (fun q:PA2=>decide (q.2.2 = n)) qs
   have:=List.length_filter_le (fun q:PA2=>decide (q.2.1 = n)) qs
   omega
  ·have s23:=s2.trans s3
   refine hN1 _ _ (seq_gen fun N2 hN2=>?_)
   refine ⟨Nat.zero_le _,fun f hf=>?_⟩
   have u4:=Same.new (o:=.lst []) hf
   have f4:(upd H3 f (.lst [])) f = some (.lst []):=upd_same
   generalize upd H3 f (.lst []) = H4 at u4 f4 ⊢
   refine hN2 _ _ (seq_gen fun N3 hN3=>?_)
   have s4:=s23.trans u4
   refine ex1 rfl ⟨x,dx,ex1 rfl ⟨s4 _ _ e2,rfl,x,ns,qs,rfl,hW.same s4,fun l4 hl4=>?_⟩⟩
   have nf4:l4 ≠ f:=(ne_of_none f4 hl4).symm
   have u5:=Same.new (o:=.lst (ns.map V.str)) hl4
   have f5:(upd H4 l4 (.lst (ns.map V.str))) l4 = some (.lst (ns.map V.str)):=upd_same
   generalize upd H4 l4 (.lst (ns.map V.str)) = H5 at u5 f5 ⊢
   refine ⟨l4,rfl,⟨_,SqL.of f5⟩,for_asG (asL (SqL.of f5)) (fun i σ H6=>(∃ v3 v4,σ = [some (.ref x),some (.ref D),some (.ref f),v3,v4])/\Same H3 H6/\H6 l4 = some (.lst (ns.map V.str))/\∃ ps,LLx H6 f ps/\(∀ p ∈ ps,H p.1 = none)/\ps.map (fun p=>p.2) = tops ns (ns.take i) (pM (qs.map fun q=>q.2)) pO) ?_ ?_ ?_ ?_⟩
   ·exact ⟨⟨_,_,rfl⟩,u4.trans u5,f5,[],⟨u5 _ _ f4,fun p h=>absurd h List.not_mem_nil⟩,fun p h=>absurd h List.not_mem_nil,rfl⟩
   ·rintro i σ H6 hi ⟨_,_,e6,_⟩ o e
    rw [f5] at e
    rw [e6,e]
   ·rintro i σ H6 v hv ⟨⟨v3,v4,rfl⟩,s6,e6,ps,L6,fr,ep⟩ D1 hD1 _
    rw [List.getElem?_map] at hv
    obtain ⟨n,hn,rfl⟩:=Option.map_eq_some_iff.mp hv
    have hnn:=List.mem_of_getElem? hn
    refine g_seq fun M1 hM1=>?_
    refine ex1 rfl (ex1 rfl ⟨by show 1<=sizeLine; decide,fun y hy=>?_⟩)
    have u7:=Same.new (o:=.lst [.str n]) hy
    have f7:(upd H6 y (.lst [.str n])) y = some (.lst ([n].map V.str)):=upd_same
    generalize upd H6 y (.lst [.str n]) = H7 at u7 f7 ⊢
    have s7:=s6.trans u7
    refine ⟨D,y,kvs,ns,[n],bes qs,rfl,s7 _ _ e3,fun m hm=>let ⟨l,h1,h2⟩:=st3 m hm; ⟨l,h1,s7 _ _ h2⟩,fun m hm z hz=>?_,ln,fun z hz=>?_,List.nodup_cons.mpr ⟨List.not_mem_nil,List.nodup_nil⟩,.inl (SqL.of f7),fun l ts H8 s8 hl e8 nd8 so8 m8 sb8=>?_⟩
    ·exact (List.mem_append.mp hz).elim (strikersOf_mem ok.mem m hm z) (struckOf_mem ok.mem m hm z)
    ·rw [List.mem_singleton.mp hz]; exact hnn
    have et:=srt_eq ok.nd ok.srt nd8 so8 (fun z=>(m8 z).trans (Rch.congr mem_bes z)) sb8
    have hnt:n ∈ ts:=(m8 n).mpr .self
    obtain ⟨a,r,rfl⟩:=head_cons hnt
    refine hM1 _ _ ?_
    refine ex1 rfl ⟨l,_,ex2_3 rfl rfl ⟨SqL.of e8,atI_nat (j:=0) rfl,ex1 rfl ⟨rfl,ex1 rfl ?_⟩⟩⟩
    have s38:=s7.trans s8
    have nlf:l ≠ f:=(ne_of_none (u7 _ _ L6.1) hl).symm
    have L8:=L6.same (u7.trans s8)
    have e68:=s8 _ _ (u7 _ _ e6)
    have hd:(srt ns (pM (qs.map fun q=>q.2) n)).head? = some a:=by rw [<-(show a :: r = srt ns (pM (qs.map fun q=>q.2) n) from et)]; rfl
    refine ite2 (fun h5=>?_) (fun h5=>hD1 _ _ ⟨⟨_,_,rfl⟩,s38,e68,ps,L8,fr,?_⟩)
    ·have h5:a = n:=by injection of_decide_eq_true h5
     have lp:ps.length<=100:=by
      have h:=congrArg List.length ep
      rw [List.length_map] at h
      have:=tops_len ns (ns.take i) (pM (qs.map fun q=>q.2)) pO
      rw [List.length_take] at this
      omega
     refine ex1 rfl ⟨.inl ⟨rfl,_,SqL.of L8.1⟩,ex1 rfl ⟨f,ex2_3 rfl rfl ⟨L8.1,by rw [List.length_map,sizeLine_eq]; omega,hD1 _ _ ⟨⟨_,_,rfl⟩,s38.upd hf,by rw [upd_ne nf4]; exact e68,ps ++ [(l,a :: r)],L8.app e8 nlf,fun p hp=>?_,?_⟩⟩⟩⟩
     ·rcases List.mem_append.mp hp with z | z
      ·exact fr p z
      ·rw [List.mem_singleton.mp z]; exact s23.free (s7.free hl)
     ·rw [take_succ hn,tops_yes ⟨trivial,h5 ▸ hd⟩,List.map_append,ep]
      show _ ++ [a :: r] = _
      rw [<-(show a :: r = srt ns (pM (qs.map fun q=>q.2) n) from et)]
    ·rw [take_succ hn,tops_no fun z=>h5 (decide_eq_true (congrArg V.str (Option.some.inj (hd.symm.trans z.2))))]
     exact ep
   ·rintro σ H6 ⟨⟨v3,v4,rfl⟩,s6,e6,ps,L6,fr,ep⟩
    rw [List.length_map,List.take_length] at ep
    exact hN3 _ _ (ex1 rfl (k f ps H6 (s23.trans s6) (s23.free hf) L6 fr ep))
end
end Sw
namespace Sw
open PySem L2
theorem lc_filter {K:PySem.W.Frag} {a D:Addr} {ts:List Str} {r:St} {tc:TT} {H:Hp} {Q:St->Hp->Prop} (p:Str->Bool) (e:H a = some (.lst (ts.map V.str))) (len:ts.length<=1000) (hD:H D = none)
  (ht:∀ y ∈ ts,∀ H1,Same H H1->∀ Q':Bool->Hp->Prop,Q' (p y) H1->tc (some (.str y) :: r) H1 Q') (h:∀ σ H2,Same H H2->H2 D = some (.lst ((ts.filter p).map V.str))->Q σ H2) (v0:Option V) :
  Loop (gName 0) tc (emLst D (tVar 0)) (Itl K a) (v0 :: r) (upd H D (.lst [])) Q:=by
 refine loop_as (asL (K:=K) (SqL.of e)) (fun i σ H3=>(∃ v,σ = v :: r)/\Same H H3/\H3 D = some (.lst (((ts.take i).filter p).map V.str)))
  ⟨⟨_,rfl⟩,Same.new hD,upd_same⟩ (fun i σ H1 _ ⟨_,s1,_⟩=>s1.at a) ?_ ?_
 ·rintro i σ H3 v N hx ⟨⟨v0,rfl⟩,s3,e3⟩ hN
  rw [List.getElem?_map] at hx
  obtain ⟨y,hy,rfl⟩:=Option.map_eq_some_iff.mp hx
  refine ht y (List.mem_of_getElem? hy) H3 s3 _ ?_
  have hs:(ts.take (i + 1)).filter p = (ts.take i).filter p ++ if p y = true then [y] else []:=by
   rw [take_succ hy,List.filter_append,List.filter_cons,List.filter_nil]
  have hl:(((ts.take i).filter p).map V.str).length<=1000:=by
   rw [List.length_map]
   have:=List.length_filter_le p (ts.take i)
   rw [List.length_take] at this
   omega
  refine ite2 (fun c=>ex1 rfl ⟨_,e3,by rw [sizeLine_eq]; omega,hN _ _ ⟨⟨_,rfl⟩,s3.upd hD,?_⟩⟩) (fun c=>hN _ _ ⟨⟨_,rfl⟩,s3,?_⟩)
  ·rw [upd_same,hs,if_pos c,List.map_append]; rfl
  ·rw [hs,if_neg c,List.append_nil]; exact e3
 ·rintro σ H3 ⟨_,s3,e3⟩
  rw [List.length_map,List.take_length] at e3
  exact h σ H3 s3 e3
theorem mem_struckK {qs:List PA2} (n y:Str):y ∈ struckOf qs n ↔ y ∈ sk (qs.map fun q=>q.2) n:=by rw [mem_struck,mem_sk]
theorem rch_back {qs:List PA2} {n x:Str}:Rch (strikersOf qs) [n] x ↔ Rch (sk (qs.map fun q=>q.2)) [x] n :=
 ⟨fun h=>h.rev fun a b z=>mem_sk.mpr (mem_strikers.mp z),fun h=>h.rev fun a b z=>mem_strikers.mpr (mem_sk.mp z)⟩
section
variable {P:Program} {w:World} {K:PySem.W.Frag} {mg:Str->Option Value} {base:Heap}
noncomputable def sp_to_and_from (C:Addr):Sp:=fun vs H Q _=>∃ (x:Addr) (n:Str) (ns:List Str) (qs:List PA2),vs = [.ref x,.str n]/\WebAt C H x ns qs/\n ∈ ns/\∀ l H',Same H H'->H l = none->H' l = some (.lst ((srt ns (rM (qs.map fun q=>q.2) n)).map V.str))->Q (.ref l) H'
theorem sc_to_and_from:FnScope ["web", "name", "after"] ["web", "name"] (defScope s_to_and_from):=⟨rfl,rfl,rfl,by decide +kernel,rfl,by decide +kernel,by decide +kernel⟩
set_option maxHeartbeats 2000000 in
theorem ok_to_and_from (T:Tx K mg):FnOk P w K mg base CX0 4 T.to_and_from.f T.to_and_from.fd ["web", "name"] (sp_to_and_from T.CWeb):=by
 have G_behind:FnOk P w K mg base CX0 3 T.behind.f T.behind.fd ["web", "some"] (sp_behind K T.CWeb):=ok_behind T
 have G_ahead_of:FnOk P w K mg base CX0 3 T.ahead_of.f T.ahead_of.fd ["web", "some"] (sp_ahead_of K T.CWeb):=ok_ahead_of T
 have sc:=sc_to_and_from
 refine T.to_and_from.F.ok sc_to_and_from (fun vs H Q E h=>?_) (fun cdv A outer s H vs Q E hr h=>?_)
 ·obtain ⟨x,n,ns,qs,rfl,_⟩:=h
  rfl
 ·obtain ⟨x,n,ns,qs,rfl,hW,hn,k⟩:=h
  refine ⟨_,(pss_cons (ps_set (i:=2) sc.nd rfl (by first | exact Or.inl rfl | exact Or.inr rfl) (pe_fn T.behind G_behind (hr.mono (by decide)) (pa_cons (pv 0) (pa_cons (pe_lst (pa_cons (pv 1) pa_nil)) pa_nil))))
   (pss_one (ps_ret (pe_lc (N':=["other", "after"]) (cap:=[none,some 2]) (cl:=[("after",_)]) (cs_mk ⟨⟨rfl,rfl,rfl,rfl⟩,trivial⟩ ⟨rfl,trivial⟩) rfl (piL K (pe_fn T.ahead_of G_ahead_of (hr.mono (by decide)) (pa_cons (pv 0) (pa_cons (pe_lst (pa_cons (pv 1) pa_nil)) pa_nil)))) (fun _ _ _ _=>by exact ⟨(pgC 0),(pts_one (pt_cmpR (o_inL K) (pv 0) (pv 1) rfl)),(pv 0)⟩))))),?_⟩
  have ok:=hW.ok
  have ln:=ok.len
  have one:∀ y ∈ [n],y ∈ ns:=fun y hy=>by rw [List.mem_singleton.mp hy]; exact hn
  have nd1:[n].Nodup:=List.nodup_cons.mpr ⟨List.not_mem_nil,List.nodup_nil⟩
  refine seq_gen fun N1 hN1=>?_
  refine ex1 rfl (ex1 rfl ⟨by show 1<=sizeLine; decide,fun y hy=>?_⟩)
  have u1:=Same.new (o:=.lst [.str n]) hy
  have f1:(upd H y (.lst [.str n])) y = some (.lst ([n].map V.str)):=upd_same
  generalize upd H y (.lst [.str n]) = H1 at u1 f1 ⊢
  refine ⟨x,y,ns,[n],qs,rfl,hW.same u1,one,nd1,.inl (SqL.of f1),fun l1 t1 H2 s2 hl1 e1 n1 so1 m1 sb1=>?_⟩
  have s12:=u1.trans s2
  refine hN1 _ _ ?_
  refine ex1 rfl (ex1 rfl ⟨by show 1<=sizeLine; decide,fun z hz=>?_⟩)
  have u3:=Same.new (o:=.lst [.str n]) hz
  have f3:(upd H2 z (.lst [.str n])) z = some (.lst ([n].map V.str)):=upd_same
  generalize upd H2 z (.lst [.str n]) = H3 at u3 f3 ⊢
  have s13:=s12.trans u3
  refine ⟨x,z,ns,[n],qs,rfl,hW.same s13,one,nd1,.inl (SqL.of f3),fun l2 t2 H4 s4 hl2 e2 n2 so2 m2 sb2=>?_⟩
  have s14:=s13.trans s4
  have e14:=s4 _ _ (u3 _ _ e1)
  have l2':t2.length<=1000:=Nat.le_trans (nd_len n2 sb2) (by omega)
  refine ⟨l2,rfl,⟨_,SqL.of e2⟩,fun D hD=>?_⟩
  refine lc_filter (fun y=>decide (y ∈ t1)) e2 l2' hD (fun y hy H5 s5 Q' hQ=>?_) (fun σ H5 s5 e5=>?_) _
  ·exact ex1 rfl (ex1 rfl (inL_str (.inl (SqL.of (s5 _ _ e14))) ⟨_,rfl,hQ⟩))
  ·have et:t2.filter (fun y=>decide (y ∈ t1)) = srt ns (rM (qs.map fun q=>q.2) n):=srt_eq ok.nd ok.srt (n2.filter _) (so2.filter _) (fun v=>by
    rw [List.mem_filter,decide_eq_true_iff,m1 v,m2 v,rch_back,Rch.congr mem_struckK v]
    exact and_comm) fun v hv=>sb2 v (List.mem_filter.mp hv).1
   rw [et] at e5
   exact k D H5 (s14.trans s5) (s14.free hD) e5
noncomputable def sp_rings (C:Addr):Sp:=fun vs H Q _=>∃ (x:Addr) (ns:List Str) (qs:List PA2),vs = [.ref x]/\WebAt C H x ns qs/\ToldL H (tops ns ns (rM (qs.map fun q=>q.2)) (rO (qs.map fun q=>q.2))) Q
theorem sc_rings:FnScope ["web", "found", "name", "ring", "alone"] ["web"] (defScope s_rings):=⟨rfl,rfl,rfl,by decide +kernel,rfl,by decide +kernel,by decide +kernel⟩
set_option maxHeartbeats 2000000 in
theorem ok_rings (T:Tx K mg):FnOk P w K mg base CX0 5 T.rings.f T.rings.fd ["web"] (sp_rings T.CWeb):=by
 have G_Web_all_names:FnOk P w K mg base CX0 1 T.mWeb_all_names.f T.mWeb_all_names.fd ["self"] (sp_all_names T.CWeb):=ok_Web_all_names T
 have G_Web_struck:FnOk P w K mg base CX0 2 T.mWeb_struck.f T.mWeb_struck.fd ["self", "name"] (sp_struck T.CWeb):=ok_Web_struck T
 have G_to_and_from:FnOk P w K mg base CX0 4 T.to_and_from.f T.to_and_from.fd ["web", "name"] (sp_to_and_from T.CWeb):=ok_to_and_from T
 have sc:=sc_rings
 refine T.rings.F.ok sc_rings (fun vs H Q E h=>?_) (fun cdv A outer s H vs Q E hr h=>?_)
 ·obtain ⟨x,ns,qs,rfl,_⟩:=h
  rfl
 ·obtain ⟨x,ns,qs,rfl,hW,k⟩:=h
  refine ⟨_,(pss_cons (ps_set (i:=1) sc.nd rfl (by first | exact Or.inl rfl | exact Or.inr rfl) (pe_lst pa_nil))
   (pss_cons (ps_for PassesOwn.never rfl (piL K (pe_meth0 (pv 0) T.clWeb T.mWeb_all_names.m G_Web_all_names (hr.mono (by decide)) T.mWeb_all_names.b .nil pass0)) (pg_name (i:=2) sc.nd rfl (by first | exact Or.inl rfl | exact Or.inr rfl))
   (pss_cons (ps_set (i:=3) sc.nd rfl (by first | exact Or.inl rfl | exact Or.inr rfl) (pe_fn T.to_and_from G_to_and_from (hr.mono (by decide)) (pa_cons (pv 0) (pa_cons (pv 2) pa_nil))))
   (pss_cons (ps_set (i:=4) sc.nd rfl (by first | exact Or.inl rfl | exact Or.inr rfl) (pe_and (pe_cmpR op_eq (pe_bf (cl_len K) T.b_len bt_len (pa_cons (pv 3) pa_nil)) pe_int (nomark _)) (pe_one (pe_cmpR (o_notInL K) (pv 2) (pe_meth (pv 0) T.clWeb T.mWeb_struck.m G_Web_struck (hr.mono (by decide)) T.mWeb_struck.b .nil pass0 (pa_cons (pv 2) pa_nil)) rfl))))
   (pss_one (ps_if (PW.pt (pw_and (pt_cmpR op_eq (pe_ix (ixL K) (pv 3) pe_int (fun _ _=>rfl)) (pv 2) (nomark _)) (pw_and1 (pt_not (pt_val (pv 4)))))) (pss_one (ps_expr (peBM K PySem.F.plainAttrs_list PySem.F.slot_list_append PySem.F.type_list_append mt_append (pv 1) (pa_cons (pv 3) pa_nil)))) pss_nil)))))
   (pss_one (ps_ret (pv 1))))),?_⟩
  obtain ⟨ok,dx,a1,b,c,d,kc,kd,e2,_⟩:=id hW
  have ln:=ok.len
  generalize hks:(qs.map fun q=>q.2) = ks at k
  have msk:∀ m y,y ∈ struckOf qs m ↔ y ∈ sk ks m:=fun m y=>by rw [<-hks]; exact mem_struckK m y
  refine seq_gen fun N2 hN2=>?_
  refine ⟨Nat.zero_le _,fun f hf=>?_⟩
  have u4:=Same.new (o:=.lst []) hf
  have f4:(upd H f (.lst [])) f = some (.lst []):=upd_same
  generalize upd H f (.lst []) = H4 at u4 f4 ⊢
  refine hN2 _ _ (seq_gen fun N3 hN3=>?_)
  refine ex1 rfl ⟨x,dx,ex1 rfl ⟨u4 _ _ e2,rfl,x,ns,qs,rfl,hW.same u4,fun l4 hl4=>?_⟩⟩
  have nf4:l4 ≠ f:=(ne_of_none f4 hl4).symm
  have u5:=Same.new (o:=.lst (ns.map V.str)) hl4
  have f5:(upd H4 l4 (.lst (ns.map V.str))) l4 = some (.lst (ns.map V.str)):=upd_same
  generalize upd H4 l4 (.lst (ns.map V.str)) = H5 at u5 f5 ⊢
  refine ⟨l4,rfl,⟨_,SqL.of f5⟩,for_asG (asL (SqL.of f5)) (fun i σ H6=>(∃ v2 v3 v4,σ = [some (.ref x),some (.ref f),v2,v3,v4])/\Same H H6/\H6 l4 = some (.lst (ns.map V.str))/\∃ ps,LLx H6 f ps/\(∀ p ∈ ps,H p.1 = none)/\ps.map (fun p=>p.2) = tops ns (ns.take i) (rM ks) (rO ks)) ?_ ?_ ?_ ?_⟩
  ·exact ⟨⟨_,_,_,rfl⟩,u4.trans u5,f5,[],⟨u5 _ _ f4,fun p h=>absurd h List.not_mem_nil⟩,fun p h=>absurd h List.not_mem_nil,rfl⟩
  ·rintro i σ H6 hi ⟨_,_,e6,_⟩ o e
   rw [f5] at e
   rw [e6,e]
  ·rintro i σ H6 v hv ⟨⟨v2,v3,v4,rfl⟩,s6,e6,ps,L6,fr,ep⟩ D1 hD1 _
   rw [List.getElem?_map] at hv
   obtain ⟨n,hn,rfl⟩:=Option.map_eq_some_iff.mp hv
   have hnn:=List.mem_of_getElem? hn
   have al:=alone_iff (ks:=ks) ok.nd hnn fun y hy=>struckOf_mem ok.mem n hnn y ((msk n y).mpr hy)
   have hnt:n ∈ srt ns (rM ks n):=mem_srt.mpr ⟨hnn,.self,.self⟩
   have lsr:=srt_len ns (rM ks n)
   refine g_seq fun M1 hM1=>?_
   refine ex1 rfl (ex1 rfl ⟨x,n,ns,qs,rfl,hW.same s6,hnn,fun l H8 s8 hl e8=>?_⟩)
   rw [hks] at e8
   have s68:=s6.trans s8
   have nlf:l ≠ f:=(ne_of_none L6.1 hl).symm
   obtain ⟨a,r,er⟩:=head_cons hnt
   have hd:(srt ns (rM ks n)).head? = some a:=by rw [er]; rfl
   refine hM1 _ _ (seq_gen fun M2 hM2=>?_)
   have fin:∀ (v:V) (H9:Hp),Same H8 H9->(∃ bb:Bool,v = .bl bb/\(bb = true ↔ ¬ rO ks n))->M2 [some (.ref x),some (.ref f),some (.str n),some (.ref l),some v] H9:=by
    rintro v H9 s9 ⟨bb,rfl,hb⟩
    have L9:=L6.same (s8.trans s9)
    have e9:=s9 _ _ (s8 _ _ e6)
    have s69:=s68.trans s9
    have e8:=s9 _ _ e8
    rw [er] at e8
    have no:¬ isTop ns (rM ks) (rO ks) n->D1.nx [some (.ref x),some (.ref f),some (.str n),some (.ref l),some (.bl bb)] H9:=fun z=>hD1 _ _ ⟨⟨_,_,_,rfl⟩,s69,e9,ps,L9,fr,by rw [take_succ hn,tops_no z]; exact ep⟩
    refine hM2 _ _ ?_
    refine ex1 rfl ⟨l,_,ex2_3 rfl rfl ⟨SqL.of e8,atI_nat (j:=0) rfl,ex1 rfl ⟨rfl,ex1 rfl ?_⟩⟩⟩
    refine ite2 (fun h5=>?_) (fun h5=>iteF (no fun z=>h5 (decide_eq_true (congrArg V.str (Option.some.inj (hd.symm.trans z.2))))))
    have h5:a = n:=by injection of_decide_eq_true h5
    refine ex1 rfl ⟨bb,rfl,?_⟩
    cases bb with
    | true=>exact iteF (no fun z=>hb.mp rfl z.1)
    | false =>
     have o:rO ks n:=Classical.byContradiction fun z=>Bool.noConfusion (hb.mpr z)
     refine iteT ?_
     have lp:ps.length<=100:=by
      have h:=congrArg List.length ep
      rw [List.length_map] at h
      have:=tops_len ns (ns.take i) (rM ks) (rO ks)
      rw [List.length_take] at this
      omega
     refine ex1 rfl ⟨.inl ⟨rfl,_,SqL.of L9.1⟩,ex1 rfl ⟨f,ex2_3 rfl rfl ⟨L9.1,by rw [List.length_map,sizeLine_eq]; omega,hD1 _ _ ⟨⟨_,_,_,rfl⟩,s69.upd hf,by rw [upd_ne nf4]; exact e9,ps ++ [(l,a :: r)],L9.app e8 nlf,fun p hp=>?_,?_⟩⟩⟩⟩
     ·rcases List.mem_append.mp hp with z | z
      ·exact fr p z
      ·rw [List.mem_singleton.mp z]; exact s6.free hl
     ·rw [take_succ hn,tops_yes ⟨o,h5 ▸ hd⟩,List.map_append,ep,er]; rfl
   refine ex1 rfl (ex2_3 (a:=l) rfl (.inl (SqL.of e8)) ⟨rfl,ex1 rfl ?_⟩)
   have l1:decide (V.int (((srt ns (rM ks n)).map V.str).length:Int) = V.int 1) = true ↔ (srt ns (rM ks n)).length = 1:=by
    rw [decide_eq_true_iff,List.length_map]
    exact ⟨fun z=>by injection z with z; omega,fun z=>by rw [z]; rfl⟩
   refine ite2 (fun h5=>?_) (fun h5=>fin _ _ (fun b o e=>e) ⟨false,rfl,fun z=>Bool.noConfusion z,fun z=>absurd (l1.mpr (al.mpr z).1) h5⟩)
   refine ex1 rfl (ex1 rfl ⟨x,dx,ex1 rfl ⟨s68 _ _ e2,rfl,ex1 rfl ⟨x,n,ns,qs,rfl,hW.same s68,hnn,fun l6 hl6=>?_⟩⟩⟩)
   refine notInL_str (.inl (SqL.of upd_same)) (fin _ _ (Same.new hl6) ⟨_,rfl,?_⟩)
   rw [Bool.not_eq_true',decide_eq_false_iff_not,<-al,msk n n]
   exact ⟨fun z=>⟨l1.mp h5,z⟩,fun z=>z.2⟩
  ·rintro σ H6 ⟨⟨v2,v3,v4,rfl⟩,s6,e6,ps,L6,fr,ep⟩
   rw [List.length_map,List.take_length] at ep
   exact hN3 _ _ (ex1 rfl (k f ps H6 s6 hf L6 fr ep))
end
end Sw
namespace Sw
open PySem L2
noncomputable def tp (t:Bool) (q:PA2):Str × Str:=if t = true then (q.2.2,q.2.1) else q.2
noncomputable def leadOf (t:Bool) (ps:List PA2):Str->List Str:=if t = true then strikersOf ps else struckOf ps
theorem leadOf_snoc (t:Bool) (qs:List PA2) (q:PA2) (n:Str):leadOf t (qs ++ [q]) n = leadOf t qs n ++ (if (tp t q).1 = n then [(tp t q).2] else []):=by
 cases t with
 | true=>exact strikersOf_snoc qs q n
 | false=>exact struckOf_snoc qs q n
theorem leadOf_mem {t:Bool} {ns:List Str} {qs:List PA2} (h:∀ q ∈ qs,q.2.1 ∈ ns/\q.2.2 ∈ ns):∀ n ∈ ns,∀ y ∈ leadOf t qs n,y ∈ ns:=by
 cases t with
 | true=>exact strikersOf_mem h
 | false=>exact struckOf_mem h
theorem leadOf_len {t:Bool} {qs:List PA2} (h:qs.length<=400) (n:Str):(leadOf t qs n).length<=400:=by
 cases t with
 | true=>show (strikersOf qs n).length<=400; unfold strikersOf; rw [List.length_map]; exact Nat.le_trans (List.length_filter_le ..) h
 | false=>show (struckOf qs n).length<=400; unfold struckOf; rw [List.length_map]; exact Nat.le_trans (List.length_filter_le ..) h
theorem if_tup {σ:St} {H:Hp} {Q:VK} {t:Bool} {i j:Nat} {q:PA2} (hi:σ[i]? = some (some (.str q.2.1))) (hj:σ[j]? = some (some (.str q.2.2))) (h:∀ p,H p = none->Q (.ref p) (upd H p (.tup [.str (tp t q).1,.str (tp t q).2]))) :
  if t = true then tTup (tCons (tVar j) (tCons (tVar i) tNil)) σ H Q else tTup (tCons (tVar i) (tCons (tVar j) tNil)) σ H Q:=by
 cases t with
 | true=>exact iteT (ex1 hj (ex1 hi ⟨by show 2<=sizeLine; decide,h⟩))
 | false=>exact iteF (ex1 hi (ex1 hj ⟨by show 2<=sizeLine; decide,h⟩))
structure LD (t:Bool) (H:Hp) (D:Addr) (H1:Hp) (kvs:List (Key × V)) (ks:List Str) (ps:List PA2):Prop where
 ok:DOk H kvs ks
 out:∀ n,n ∉ ks->valV kvs (.inr n) = none/\leadOf t ps n = []
 at_:∀ n ∈ ks,H1 (la kvs n) = some (.lst ((leadOf t ps n).map V.str))
 ne:∀ n ∈ ks,la kvs n ≠ D
noncomputable def sp_closed:Sp:=fun vs H Q _=>∃ (a b:Addr) (t:Bool) (ns ss:List Str) (ps:List PA2),vs = [.ref a,.ref b,.bl t]/\H a = some (.lst (ss.map V.str))/\(∀ y ∈ ss,y ∈ ns)/\ss.Nodup/\H b = some (.lst (refs ps))/\(∀ q ∈ ps,PairIn H q)/\(∀ q ∈ ps,q.2.1 ∈ ns/\q.2.2 ∈ ns)/\ps.length<=400/\ns.length<=100/\Told H ns ss (leadOf t ps) Q
section
variable {P:Program} {w:World} {K:PySem.W.Frag} {mg:Str->Option Value} {base:Heap}
theorem sc_law_closed:FnScope ["_law_some", "_law_strikes", "_law_turned", "_law_leads", "_law_one", "_law_other", "_law_pair", "_law_found", "_law_at"] ["_law_some", "_law_strikes", "_law_turned"] (defScope s_law_closed):=⟨rfl,rfl,rfl,by decide +kernel,rfl,by decide +kernel,by decide +kernel⟩
set_option maxHeartbeats 2000000 in
theorem ok_law_closed (T:Tx K mg):FnOk P w K mg base CX0 1 T.law_closed.f T.law_closed.fd ["_law_some", "_law_strikes", "_law_turned"] sp_closed:=by
 have sc:=sc_law_closed
 refine T.law_closed.F.ok sc_law_closed (fun vs H Q E h=>?_) (fun cdv A outer s H vs Q E hr h=>?_)
 ·obtain ⟨a,b,t,ns,ss,ps,rfl,_⟩:=h
  rfl
 ·obtain ⟨a,b,t,ns,ss,ps,rfl,ha,hsub,hnd,hb,hp,hm,hl,hln,k⟩:=h
  have hu:=hu_of hr
  refine ⟨_,(pss_cons (ps_set (i:=3) sc.nd rfl (by first | exact Or.inl rfl | exact Or.inr rfl) pe_dnewK)
   (pss_cons (ps_for PassesOwn.never rfl (piL K (pv 1)) (pgT K (n:=2) (pgs_cons (pg_name (i:=4) sc.nd rfl (by first | exact Or.inl rfl | exact Or.inr rfl)) (pgs_cons (pg_name (i:=5) sc.nd rfl (by first | exact Or.inl rfl | exact Or.inr rfl)) pgs_nil)))
   (pss_cons (ps_set (i:=6) sc.nd rfl (by first | exact Or.inl rfl | exact Or.inr rfl) (pe_ifExp (pt_val (pv 2)) (pe_tup (pa_cons (pv 5) (pa_cons (pv 4) pa_nil))) (pe_tup (pa_cons (pv 4) (pa_cons (pv 5) pa_nil)))))
   (pss_one (ps_expr (peBM K PySem.F.plainAttrs_list PySem.F.slot_list_append PySem.F.type_list_append mt_append (pe_dset (pv 3) (pe_ix (ixT K) (pv 6) pe_int (fun _ _=>rfl)) (pe_lst pa_nil) ⟨rfl,rfl,rfl,rfl⟩) (pa_cons (pe_ix (ixT K) (pv 6) pe_int (fun _ _=>rfl)) pa_nil))))))
   (pss_cons (ps_par (i:=7) (j:=8) rfl sc.nd rfl rfl (by decide) rfl rfl (pa_cons (pe_bt (cl_list K) T.b_list bt_list (pa_cons (pv 0) pa_nil)) (pa_cons pe_int pa_nil)) rfl)
   (pss_cons (ps_while PassesOwn.never (pt_cmpR op_lt (pv 8) (pe_bf (cl_len K) T.b_len bt_len (pa_cons (pv 7) pa_nil)) (nomark _)) (pss_cons (ps_for PassesOwn.never rfl (piL K (pe_dget2 hu (pv 3) (pe_ix (ixL K) (pv 7) (pv 8) (fun _ _=>rfl)) (pe_lst pa_nil) ⟨rfl,rfl,rfl,rfl⟩)) (pg_name (i:=5) sc.nd rfl (by first | exact Or.inl rfl | exact Or.inr rfl))
   (pss_one (ps_if (pt_cmpR (o_notInL K) (pv 5) (pv 7) rfl) (pss_one (ps_expr (peBM K PySem.F.plainAttrs_list PySem.F.slot_list_append PySem.F.type_list_append mt_append (pv 7) (pa_cons (pv 5) pa_nil)))) pss_nil)))
   (pss_one (ps_set (i:=8) sc.nd rfl (by first | exact Or.inl rfl | exact Or.inr rfl) (pe_op op_add (pv 8) pe_int)))))
   (pss_one (ps_ret (pe_bf (cl_sortS K) T.b_sorted bt_sorted (pa_cons (pv 7) pa_nil)))))))),?_⟩
  refine seq_gen fun Z1 hZ1=>?_
  intro D hD
  have u1:=Same.new (o:=.dK []) hD
  have f1:(upd H D (.dK [])) D = some (.dK []):=upd_same
  generalize upd H D (.dK []) = H1 at u1 f1 ⊢
  refine hZ1 _ _ (seq_gen fun Z2 hZ2=>?_)
  refine ex1 rfl ⟨b,rfl,⟨_,SqL.of (u1 _ _ hb)⟩,?_⟩
  refine for_asG (asL (K:=K) (SqL.of hb)) (fun i σ H2=>(∃ v4 v5 v6,σ = [some (.ref a),some (.ref b),some (.bl t),some (.ref D),v4,v5,v6,none,none])/\Same H H2/\∃ kvs ks,H2 D = some (.dK kvs)/\kvs.length<=i/\LD t H D H2 kvs ks (ps.take i))
   ⟨⟨_,_,_,rfl⟩,u1,[],[],f1,Nat.zero_le _,⟨⟨fun n h=>absurd h List.not_mem_nil,fun n h=>absurd h List.not_mem_nil,fun n h=>absurd h List.not_mem_nil⟩,fun n _=>⟨rfl,by cases t <;> rfl⟩,fun n h=>absurd h List.not_mem_nil,fun n h=>absurd h List.not_mem_nil⟩⟩ ?_ ?_ ?_
  ·rintro i σ H2 _ ⟨_,s2,_⟩
   exact s2.at b
  ·rintro i σ H2 v hv ⟨⟨v4,v5,v6,rfl⟩,s2,kvs,ks,e2,l2,L2⟩ D1 hD1 _
   unfold refs at hv
   rw [List.getElem?_map] at hv
   obtain ⟨q,hq,rfl⟩:=Option.map_eq_some_iff.mp hv
   have hi:i < ps.length:=(List.getElem?_eq_some_iff.mp hq).1
   have hln2:(ps.take i).length<=400:=by rw [List.length_take]; omega
   refine ⟨q.1,ex1 rfl ⟨SqT.of (s2 _ _ (hp q (List.mem_of_getElem? hq))),rfl,_,ex1 rfl (ex2_3 rfl rfl ?_)⟩⟩
   refine seq_gen fun O1 hO1=>?_
   refine ex1 rfl ⟨t,rfl,if_tup (q:=q) rfl rfl fun tt htt=>?_⟩
   have u3:=Same.new (o:=.tup [.str (tp t q).1,.str (tp t q).2]) htt
   have f3:(upd H2 tt (.tup [.str (tp t q).1,.str (tp t q).2])) tt = some (.tup [.str (tp t q).1,.str (tp t q).2]):=upd_same
   generalize upd H2 tt (.tup [.str (tp t q).1,.str (tp t q).2]) = H3 at u3 f3 ⊢
   have hs1:∀ n,leadOf t (ps.take (i + 1)) n = leadOf t (ps.take i) n ++ (if (tp t q).1 = n then [(tp t q).2] else []):=fun n=>by rw [take_succ hq,leadOf_snoc]
   generalize hk:tp t q = kk at u3 f3 hs1 ⊢
   obtain ⟨k1,k2⟩:=kk
   refine hO1 _ _ ?_
   refine ex1 rfl ⟨D,rfl,.inl ⟨_,.inl (u3 _ _ e2)⟩,?_⟩
   refine ex1 rfl ⟨tt,_,ex2_3 rfl rfl ⟨SqT.of f3,rfl,?_⟩⟩
   refine ⟨Nat.zero_le _,fun p hp3=>?_⟩
   have u4:=Same.new (o:=.lst []) hp3
   have f4:(upd H3 p (.lst [])) p = some (.lst []):=upd_same
   generalize upd H3 p (.lst []) = H4 at u4 f4 ⊢
   have u24:=u3.trans u4
   have e4:=u24 _ _ e2
   have npD:p ≠ D:=(ne_of_none (u3 _ _ e2) hp3).symm
   have hpH:H p = none:=(s2.trans u3).free hp3
   refine ⟨kvs,.inr k1,rfl,e4,by rw [sizeLine_eq]; omega,fun v hv=>?_,fun hv=>?_⟩
   ·have hin:k1 ∈ ks:=by
     by_cases z:k1 ∈ ks
     ·exact z
     ·rw [(L2.out k1 z).1] at hv; cases hv
    rw [L2.ok.val k1 hin] at hv
    cases hv
    have g4:=u24 _ _ (L2.at_ k1 hin)
    refine ⟨.inl ⟨rfl,_,SqL.of g4⟩,?_⟩
    refine ex1 rfl ⟨tt,_,ex2_3 rfl rfl ⟨SqT.of (u4 _ _ f3),rfl,?_⟩⟩
    refine ⟨_,_,_,rfl,rfl,g4,by have:=leadOf_len (t:=t) hln2 k1; rw [List.length_map,sizeLine_eq]; omega,hD1 _ _ ⟨⟨_,_,_,rfl⟩,(s2.trans u24).upd (L2.ok.fr k1 hin),kvs,ks,(upd_ne (L2.ne k1 hin).symm).trans e4,by omega,⟨L2.ok,fun n hn=>?_,fun n hn=>?_,L2.ne⟩⟩⟩
    ·rw [hs1,(L2.out n hn).2,if_neg (fun z:k1 = n=>hn (z ▸ hin))]
     exact ⟨(L2.out n hn).1,rfl⟩
    ·rw [hs1]
     by_cases z:k1 = n
     ·rw [<-z,if_pos rfl,upd_same,List.map_append]; rfl
     ·rw [if_neg z,List.append_nil,upd_ne fun y=>z (L2.ok.inj k1 hin n hn y.symm)]
      exact u24 _ _ (L2.at_ n hn)
   ·have hin:k1 ∉ ks:=fun z=>by rw [L2.ok.val k1 z] at hv; cases hv
    refine ⟨.inl ⟨rfl,_,SqL.of ((upd_ne npD).trans f4)⟩,?_⟩
    have ntt:tt ≠ D:=(ne_of_none e2 htt).symm
    refine ex1 rfl ⟨tt,_,ex2_3 rfl rfl ⟨SqT.of ((upd_ne ntt).trans (u4 _ _ f3)),rfl,?_⟩⟩
    refine ⟨p,_,_,rfl,rfl,(upd_ne npD).trans f4,by rw [sizeLine_eq]; decide,hD1 _ _ ⟨⟨_,_,_,rfl⟩,((s2.trans u24).upd hD).upd hpH,putK kvs (.inr k1) (.ref p),ks ++ [k1],(upd_ne npD.symm).trans upd_same,?_,⟨⟨fun n hn=>?_,fun n hn m hm=>?_,fun n hn=>?_⟩,fun n hn=>?_,fun n hn=>?_,fun n hn=>?_⟩⟩⟩
    ·have:=length_putK kvs (Sum.inr k1:Key) (.ref p)
     omega
    all_goals have old:∀ z ∈ ks ++ [k1],z ≠ k1->z ∈ ks:=fun z hz e=>(List.mem_append.mp hz).elim id fun y=>absurd (List.mem_singleton.mp y) e
    ·rw [val_put,la_put]
     by_cases e:n = k1
     ·rw [if_pos e,if_pos e]
     ·rw [if_neg e,if_neg e]
      exact L2.ok.val n (old n hn e)
    ·have nol:∀ z ∈ ks,la kvs z ≠ p:=fun z hz y=>by
      have:=u3 _ _ (L2.at_ z hz)
      rw [y,hp3] at this; cases this
     rw [la_put,la_put]
     by_cases e:n = k1
     ·by_cases e':m = k1
      ·exact fun _=>e.trans e'.symm
      ·rw [if_pos e,if_neg e']
       exact fun z=>absurd z.symm (nol m (old m hm e'))
     ·by_cases e':m = k1
      ·rw [if_neg e,if_pos e']
       exact fun z=>absurd z (nol n (old n hn e))
      ·rw [if_neg e,if_neg e']
       exact L2.ok.inj n (old n hn e) m (old m hm e')
    ·rw [la_put]
     by_cases e:n = k1
     ·rw [if_pos e]; exact hpH
     ·rw [if_neg e]; exact L2.ok.fr n (old n hn e)
    ·have n1:n ≠ k1:=fun z=>hn (List.mem_append_right _ (List.mem_singleton.mpr z))
     have n2:n ∉ ks:=fun z=>hn (List.mem_append_left _ z)
     rw [val_put,if_neg n1,hs1,(L2.out n n2).2,if_neg fun z=>n1 z.symm]
     exact ⟨(L2.out n n2).1,rfl⟩
    ·rw [la_put,hs1]
     by_cases e:n = k1
     ·rw [if_pos e,if_pos e.symm,upd_same,e,(L2.out k1 hin).2]; rfl
     ·rw [if_neg e,if_neg fun z=>e z.symm,List.append_nil]
      have g:=u3 _ _ (L2.at_ n (old n hn e))
      rw [upd_ne (ne_of_none g hp3),upd_ne (L2.ne n (old n hn e))]
      exact u4 _ _ g
    ·rw [la_put]
     by_cases e:n = k1
     ·rw [if_pos e]; exact npD
     ·rw [if_neg e]; exact L2.ne n (old n hn e)
  ·rintro σ H2 ⟨⟨v4,v5,v6,rfl⟩,s2,kvs,ks,e2,l2,L2⟩
   have el:(refs ps).length = ps.length:=by unfold refs; rw [List.length_map]
   rw [el,List.take_length] at L2
   refine hZ2 _ _ (seq_gen fun Z3 hZ3=>?_)
   refine ex1 rfl ⟨a,_,rfl,.inl (SqL.of (s2 _ _ ha)),fun f hf=>⟨_,_,rfl,hZ3 _ _ (seq_gen fun Z4 hZ4=>?_)⟩⟩
   have u3:=Same.new (o:=.lst (ss.map V.str)) hf
   have f3:(upd H2 f (.lst (ss.map V.str))) f = some (.lst (ss.map V.str)):=upd_same
   generalize upd H2 f (.lst (ss.map V.str)) = H3 at u3 f3 ⊢
   refine ⟨fun m σ H4=>∃ v5 fo at_,σ = [some (.ref a),some (.ref b),some (.bl t),some (.ref D),v4,v5,v6,some (.ref f),some (.int (at_:Nat))]/\m = ns.length - at_/\Same H2 H4/\H4 f = some (.lst (fo.map V.str))/\at_<=fo.length/\RI (leadOf t ps) ns ss fo (fo.drop at_) noS,
    ⟨_,v5,ss,0,rfl,rfl,u3,f3,Nat.zero_le _,.init hnd hsub⟩,?_⟩
   rintro m σ H4 ⟨v5,fo,at_,rfl,rfl,s4,f4,la4,R4⟩
   refine ex1 rfl (ex1 rfl ⟨f,_,rfl,.inl (SqL.of f4),_,_,rfl,rfl,_,rfl,?_⟩)
   rw [List.length_map]
   refine ite2 (fun h=>?_) fun h=>?_
   ·have hlt:at_ < fo.length:=by have:=of_decide_eq_true h; omega
    have hx:fo[at_]? = some fo[at_]:=List.getElem?_eq_getElem hlt
    have hd:fo.drop at_ = fo[at_] :: fo.drop (at_ + 1):=List.drop_eq_getElem_cons hlt
    have hlen:=R4.len
    generalize fo[at_] = x at hx hd
    have R5:RI (leadOf t ps) ns ss fo (fo.drop (at_ + 1)) (fun y=>y = x):=by
     rw [hd] at R4
     exact R4.pop (List.nodup_cons.mp R4.ndw).2 (fun y hy=>(List.mem_cons.mp hy).elim .inr .inl) fun y hy=>List.mem_cons_of_mem _ hy
    have hxs:x ∈ fo:=List.mem_of_getElem? hx
    refine ⟨_,fun _ _ z=>z,seq_gen fun N1 hN1=>?_⟩
    refine ex1 rfl ⟨D,rfl,.inl ⟨_,.inl (s4 _ _ e2)⟩,?_⟩
    refine ex1 rfl (ex1 rfl ⟨f,_,ex2_3 rfl rfl ⟨SqL.of f4,atI_nat (by rw [List.getElem?_map,hx]; rfl),?_⟩⟩)
    refine ⟨Nat.zero_le _,fun e he=>?_⟩
    have u5:=Same.new (o:=.lst []) he
    have f5:(upd H4 e (.lst [])) e = some (.lst []):=upd_same
    generalize upd H4 e (.lst []) = H5 at u5 f5 ⊢
    refine ⟨_,DGet.k (k:=Sum.inr x) (u5 _ _ (s4 _ _ e2)),?_⟩
    obtain ⟨l,hl5,el5,nlf⟩:∃ l,(valV kvs (.inr x)).getD (.ref e) = .ref l/\H5 l = some (.lst ((leadOf t ps x).map V.str))/\l ≠ f:=by
     by_cases z:x ∈ ks
     ·rw [L2.ok.val x z]
      exact ⟨_,rfl,u5 _ _ (s4 _ _ (L2.at_ x z)),ne_of_none (L2.at_ x z) hf⟩
     ·rw [(L2.out x z).1,(L2.out x z).2]
      exact ⟨e,rfl,f5,(ne_of_none f4 he).symm⟩
    rw [hl5]
    refine ⟨l,rfl,⟨_,SqL.of el5⟩,?_⟩
    refine for_asG (asL (K:=K) (SqL.of el5)) (fun i σ H6=>∃ v5 fo',σ = [some (.ref a),some (.ref b),some (.bl t),some (.ref D),v4,v5,v6,some (.ref f),some (.int (at_:Nat))]/\Sm [f] H5 H6/\H6 f = some (.lst (fo'.map V.str))/\at_ + 1<=fo'.length/\x ∈ fo'/\RI (leadOf t ps) ns ss fo' (fo'.drop (at_ + 1)) (fun y=>y = x)/\∀ y ∈ (leadOf t ps x).take i,y ∈ fo')
     ⟨_,fo,rfl,Sm.refl _ _,u5 _ _ f4,hlt,hxs,R5,fun y hy=>absurd hy List.not_mem_nil⟩ ?_ ?_ ?_
    ·rintro i σ H6 _ ⟨_,_,_,k6,_⟩
     exact fun o ho=>k6 _ _ ho (by simpa using nlf)
    ·rintro i σ H6 v hvi ⟨v5,fo',rfl,k6,f6,la6,hx6,R6,t6⟩ D1 hD1 _
     rw [List.getElem?_map] at hvi
     obtain ⟨y,hy,rfl⟩:=Option.map_eq_some_iff.mp hvi
     have hyn:y ∈ leadOf t ps x:=List.mem_of_getElem? hy
     have ht:∀ {fo'':List Str},(∀ z ∈ fo',z ∈ fo'')->y ∈ fo''->∀ z ∈ (leadOf t ps x).take (i + 1),z ∈ fo'':=fun h1 h2 z hz=>by
      rw [take_succ hy] at hz
      exact (List.mem_append.mp hz).elim (fun q=>h1 z (t6 z q)) fun q=>List.mem_singleton.mp q ▸ h2
     refine ex1 rfl (ex1 rfl (notInL_str (.inl (SqL.of f6)) ⟨_,rfl,ite2 (fun h=>?_) fun h=>?_⟩))
     ·have hns:y ∉ fo':=fun z=>by rw [decide_eq_true z] at h; cases h
      have R7:=R6.add hns (leadOf_mem hm x (R6.sub x hx6) y hyn) ((R6.rch x hx6).step hyn)
      have l7:=R7.len
      rw [List.length_append,List.length_singleton] at l7
      rw [<-List.drop_append_of_le_length la6] at R7
      refine ex1 rfl ⟨.inl ⟨rfl,_,SqL.of f6⟩,ex1 rfl ⟨f,_,_,rfl,rfl,f6,by rw [List.length_map,sizeLine_eq]; omega,hD1 _ _ ⟨_,fo' ++ [y],rfl,k6.upd (by simp),?_,by rw [List.length_append]; omega,List.mem_append_left _ hx6,R7,ht (fun z hz=>List.mem_append_left _ hz) (List.mem_append_right _ (List.mem_singleton.mpr rfl))⟩⟩⟩
      rw [upd_same,List.map_append]; rfl
     ·have hys:y ∈ fo':=by
       by_cases z:y ∈ fo'
       ·exact z
       ·rw [decide_eq_false z] at h; exact absurd rfl h
      exact hD1 _ _ ⟨_,fo',rfl,k6,f6,la6,hx6,R6,ht (fun _ z=>z) hys⟩
    ·rintro σ H6 ⟨v5,fo',rfl,k6,f6,la6,hx6,R6,t6⟩
     rw [List.length_map,List.take_length] at t6
     refine hN1 _ _ ?_
     refine ex1 rfl ⟨_,_,rfl,rfl,?_⟩
     have hl6:=R6.len
     refine ⟨ns.length - (at_ + 1),Nat.sub_lt_sub_left (Nat.lt_of_lt_of_le la6 hl6) (Nat.lt_succ_self _),_,fo',at_ + 1,rfl,rfl,fun c o h=>k6 c o (u5 _ _ (s4 _ _ h)) (by simpa using ne_of_none h hf),f6,la6,R6.done t6⟩
   ·have hge:fo.length<=at_:=by
     rcases Nat.lt_or_ge at_ fo.length with z | z
     ·exact absurd (decide_eq_true (by omega)) h
     ·exact z
    rw [List.drop_eq_nil_of_le hge] at R4
    refine hZ4 _ _ ?_
    refine ex1 rfl ⟨f,fo,rfl,SqL.of f4,fun l ts hl pm so=>?_⟩
    have u5:=Same.new (o:=.lst (ts.map V.str)) hl
    have s24:=s2.trans s4
    exact k l ts _ (s24.trans u5) (s24.free hl) upd_same (pm.nodup_iff.mpr R4.nd) so (fun y=>pm.mem_iff.trans (R4.fin y)) fun y hy=>R4.sub y (pm.mem_iff.mp hy)
end
end Sw
namespace Sw
open PySem L2
noncomputable def btw (ss:List Str) (k:Str × Str):Bool:=decide (k.1 ∈ ss) && decide (k.2 ∈ ss)
noncomputable def sp_part_of (K:PySem.W.Frag) (C:Addr):Sp:=fun vs H Q _=>∃ (x a:Addr) (ss ns:List Str) (qs:List PA2),vs = [.ref x,.ref a]/\WebAt C H x ns qs/\Sqs K H a (ss.map V.str)/\NamesOk ss/\qs.length<=200 /\
 ∀ y ns' (qs':List PA2) H',Same H H'->ns'.Perm ss->ns'.Pairwise leS->(qs'.map fun q=>q.2).Perm ((qs.map fun q=>q.2).filter (btw ss))->qs'.Pairwise leP->WebAt C H' y ns' qs'->(∀ z zs u,H z = some (.lst zs)->WebAt C (upd H' z u) y ns' qs')->Q (.ref y) H'
section
variable {P:Program} {w:World} {K:PySem.W.Frag} {mg:Str->Option Value} {base:Heap}
theorem sc_part_of:FnScope ["web", "some", "strikes"] ["web", "some"] (defScope s_part_of):=⟨rfl,rfl,rfl,by decide +kernel,rfl,by decide +kernel,by decide +kernel⟩
theorem ok_part_of (T:Tx K mg):FnOk P w K mg base CX0 5 T.part_of.f T.part_of.fd ["web", "some"] (sp_part_of K T.CWeb):=by
 have G_Web_all_strikes:FnOk P w K mg base CX0 1 T.mWeb_all_strikes.f T.mWeb_all_strikes.fd ["self"] (sp_all_strikes T.CWeb):=ok_Web_all_strikes T
 have G_Web___init__:FnOk P w K mg base CX0 3 T.fWeb___init__ T.fdWeb___init__ ["self", "names", "strikes"] (sp_Web_init K T.CWeb):=ok_Web_init T
 have sc:=sc_part_of
 refine T.part_of.F.ok sc_part_of (fun vs H Q E h=>?_) (fun cdv A outer s H vs Q E hr h=>?_)
 ·obtain ⟨x,a,ss,ns,qs,rfl,_⟩:=h
  rfl
 ·obtain ⟨x,a,ss,ns,qs,rfl,hW,hS,hN,hq200,k⟩:=h
  refine ⟨_,(pss_cons (ps_setLC (i:=2) (N':=["one", "other", "some"]) (cap:=[none,none,some 1]) (cl:=[("some",_)]) sc.nd rfl (by first | exact Or.inl rfl | exact Or.inr rfl) (cs_mk ⟨⟨rfl,rfl,rfl,rfl⟩,trivial⟩ ⟨rfl,trivial⟩) rfl (piL K (pe_meth0 (pv 0) T.clWeb T.mWeb_all_strikes.m G_Web_all_strikes (hr.mono (by decide)) T.mWeb_all_strikes.b .nil pass0)) (fun _ _ _ _=>by exact ⟨(pgT K (n:=2) (pgs_cons (pgC 0) (pgs_cons (pgC 1) pgs_nil))),(pts_one (PW.pt (pw_and (pt_cmpR (o_inL K) (pv 0) (pv 2) rfl) (pw_and1 (pt_cmpR (o_inL K) (pv 1) (pv 2) rfl))))),(pe_tup (pa_cons (pv 0) (pa_cons (pv 1) pa_nil)))⟩))
   (pss_one (ps_ret (pe_make T.mkWeb G_Web___init__ (hr.mono (by decide)) rfl T.mgWeb T.bWeb___init__ .nil pass0 (pa_cons (pv 1) (pa_cons (pv 2) pa_nil)))))),?_⟩
  dsimp only [tSeq,tAsg,gName,tRet,tCB,tCons,tNil]
  obtain ⟨ok,dx,a1,b,c,d,kc,kd,e2,_,_,pin,_⟩:=id hW
  refine ex1 rfl ⟨x,dx,ex1 rfl ⟨e2,rfl,x,ns,qs,rfl,hW,fun l2 hl2=>?_⟩⟩
  have s2:=Same.new (o:=.lst (refs qs)) hl2
  have f2:(upd H l2 (.lst (refs qs))) l2 = some (.lst (refs qs)):=upd_same
  have p2:=same_pairs s2 pin
  generalize upd H l2 (.lst (refs qs)) = H2 at s2 f2 p2 ⊢
  refine ⟨l2,rfl,⟨_,SqL.of f2⟩,fun D hD=>?_⟩
  have S2:=(s2.at a).seq hS
  refine loop_as (asL (K:=K) (SqL.of f2)) (fun i σ H3=>(∃ v0 v1,σ = [v0,v1,some (.ref a)])/\Same H2 H3/\∃ ps:List PA2,H3 D = some (.lst (refs ps))/\(∀ q ∈ ps,PairIn H3 q)/\(ps.map fun q=>q.2) = ((qs.take i).map fun q=>q.2).filter (btw ss))
   ⟨⟨_,_,rfl⟩,Same.new hD,[],upd_same,fun q h=>absurd h List.not_mem_nil,rfl⟩ (fun i σ H1 _ ⟨_,s1,_⟩=>s1.at l2) ?_ ?_
  ·rintro i σ H3 v N hx ⟨⟨v0,v1,rfl⟩,s3,ps,e3,p3,k3⟩ hN'
   unfold refs at hx
   rw [List.getElem?_map] at hx
   obtain ⟨q,hq,rfl⟩:=Option.map_eq_some_iff.mp hx
   have hs1:((qs.take (i + 1)).map fun q=>q.2).filter (btw ss) = ((qs.take i).map fun q=>q.2).filter (btw ss) ++ if btw ss q.2 = true then [q.2] else []:=by
    rw [take_succ hq,List.map_append,List.filter_append,List.map_cons,List.map_nil,List.filter_cons,List.filter_nil]
   have hle:ps.length<=200:=by
    have h1:=congrArg List.length k3
    have h2:=(List.filter_sublist (l:=(qs.take i).map fun q=>q.2) (p:=btw ss)).length_le
    rw [List.length_map] at h1 h2
    rw [List.length_take] at h2
    omega
   have rl:(refs ps).length = ps.length:=by unfold refs; rw [List.length_map]
   have app:btw ss q.2 = true->emLst D (tTup (tCons (tVar 0) (tCons (tVar 1) tNil))) [some (.str q.2.1),some (.str q.2.2),some (.ref a)] H3 N:=fun g=>by
    refine ex1 rfl (ex1 rfl ⟨by show 2<=sizeLine; decide,fun t ht=>?_⟩)
    have u1:=Same.new (o:=.tup [.str q.2.1,.str q.2.2]) ht
    refine ⟨_,u1 _ _ e3,by rw [rl,sizeLine_eq]; omega,hN' _ _ ⟨⟨_,_,rfl⟩,(s3.trans u1).upd hD,ps ++ [(t,q.2)],?_,fun z hz=>?_,?_⟩⟩
    ·rw [upd_same]; unfold refs; rw [List.map_append]; rfl
    ·unfold PairIn
     rcases List.mem_append.mp hz with hz | hz
     ·rw [upd_ne (ne_of (u1 _ _ (p3 z hz)) (u1 _ _ e3) (by intro z; cases z))]; exact u1 _ _ (p3 z hz)
     ·rw [List.mem_singleton.mp hz,upd_ne (ne_of_none e3 ht).symm]; exact upd_same
    ·rw [hs1,if_pos g,List.map_append,k3]; rfl
   have skp:¬ btw ss q.2 = true->N [some (.str q.2.1),some (.str q.2.2),some (.ref a)] H3:=fun g=>hN' _ _ ⟨⟨_,_,rfl⟩,s3,ps,e3,p3,by rw [hs1,if_neg g,List.append_nil]; exact k3⟩
   refine ⟨q.1,ex1 rfl ⟨SqT.of (s3 _ _ (p2 q (List.mem_of_getElem? hq))),rfl,_,ex1 rfl (ex2_3 rfl rfl ?_)⟩⟩
   have S3:=(s3.at a).seq S2
   refine ex1 rfl (ex1 rfl (inL_str S3 ⟨_,rfl,ite2 (fun h1=>?_) (fun h1=>iteF (skp fun g=>?_))⟩))
   ·refine ex1 rfl (ex1 rfl (inL_str S3 ⟨_,rfl,ite2 (fun h2=>app ?_) (fun h2=>skp fun g=>?_)⟩))
    ·unfold btw; rw [h1,h2]; rfl
    ·unfold btw at g; rw [Bool.and_eq_true] at g; exact h2 g.2
   ·unfold btw at g; rw [Bool.and_eq_true] at g; exact h1 g.1
  ·rintro σ H3 ⟨⟨v0,v1,rfl⟩,s3,ps,e3,p3,k3⟩
   have el:(refs qs).length = qs.length:=by unfold refs; rw [List.length_map]
   rw [el,List.take_length] at k3
   have s23:=s2.trans s3
   refine ex1 rfl (ex1 rfl ?_)
   intro y dy ny ndy ney
   have s0:Same H3 (upd (upd H3 dy (.own y)) y (.ins T.CWeb dy [])):=fun b o e=>by
    rw [upd_ne (ne_of_none e ny),upd_ne (ne_of_none e ndy)]
    exact e
   have hO:StrkOk ss ps:=by
    have mem:∀ z ∈ ps,z.2.1 ∈ ss/\z.2.2 ∈ ss:=fun z hz=>by
     have h1:z.2 ∈ ps.map fun q=>q.2:=List.mem_map.mpr ⟨z,hz,rfl⟩
     rw [k3] at h1
     have h2:=(List.mem_filter.mp h1).2
     unfold btw at h2
     rw [Bool.and_eq_true] at h2
     exact ⟨of_decide_eq_true h2.1,of_decide_eq_true h2.2⟩
    refine ⟨mem,by rw [k3]; exact List.filter_sublist.nodup ok.ndq,?_⟩
    have h1:=congrArg List.length k3
    have h2:=(List.filter_sublist (l:=qs.map fun q=>q.2) (p:=btw ss)).length_le
    rw [List.length_map] at h1 h2
    omega
   refine ex6_8 (a:=y) (b:=dy) (c:=a) (d:=ss) (e:=D) (f:=ps) rfl upd_same (((s23.trans s0).at a).seq hS) hN (s0 _ _ e3) (same_pairs s0 p3) hO fun ns' qs' H4 pn srn pq srq k4 W4 F4=>⟨rfl,?_⟩
   have s34:Same H3 H4:=fun b o e=>k4 b o (s0 b o e) (by simpa using ne_of_none e ny)
   refine k y ns' qs' H4 (s23.trans s34) pn srn ?_ srq W4 fun z zs u hz=>F4 z zs u (s0 _ _ (s23 _ _ hz))
   rw [<-k3]
   exact pq.map _
end
end Sw
namespace Sw
open PySem L2
theorem six {d n:Nat} (h:d < n):seqIndex? (d:Int) n = some d:=by
 unfold seqIndex?
 simp
 omega
theorem erase_perm {α:Type} {l:List α} {i:Nat} {x:α} (h:l[i]? = some x):(x :: l.eraseIdx i).Perm l:=ST.erase_perm h
theorem map_erase {α β:Type} (f:α->β):∀ (l:List α) (i:Nat),(l.map f).eraseIdx i = (l.eraseIdx i).map f
 | [],_=>rfl
 | _ :: _,0=>rfl
 | a :: l,i + 1=>by
  show f a :: (l.map f).eraseIdx i = f a :: (l.eraseIdx i).map f
  rw [map_erase f l i]
theorem names_of {all rest got:List Str} (pm:(rest ++ got).Perm all) (h1:∀ x ∈ all,nameB x = true) (h2:all.Nodup) (h3:all.length<=100):NamesOk got:=by
 refine ⟨fun x hx=>h1 x (pm.mem_iff.mp (List.mem_append_right _ hx)),?_,?_⟩
 ·exact (List.nodup_append.mp (pm.nodup_iff.mpr h2)).2.1
 ·have:=pm.length_eq
  rw [List.length_append] at this
  omega
theorem pop_perm {all rest got:List Str} {d:Nat} {x:Str} (pm:(rest ++ got).Perm all) (h:rest[d]? = some x):(rest.eraseIdx d ++ (got ++ [x])).Perm all:=by
 refine List.Perm.trans ?_ pm
 rw [<-List.append_assoc]
 refine List.perm_append_comm.trans ?_
 rw [<-List.append_assoc]
 exact (erase_perm h).append_right got
theorem Sm1 {p b:Addr} {H H':Hp} {o:HO} (h:Sm [p] H H') (e:H b = some o) (n:b ≠ p):H' b = some o:=h b o e fun z=>n (List.mem_singleton.mp z)
end Sw
namespace Sw
open PySem L2
section
variable {P:Program} {w:World} {K:PySem.W.Frag} {mg:Str->Option Value} {base:Heap}
theorem sc_law_mix:FnScope ["_law_cell", "_law_k", "_law_m"] ["_law_cell", "_law_k"] (defScope s_law_mix):=⟨rfl,rfl,rfl,by decide +kernel,rfl,by decide +kernel,by decide +kernel⟩
noncomputable def sp_mix:Sp:=fun vs H Q _=>∃ (cell k:Int),vs = [.int cell,.int k]/\0<=k/\k<=2000000/\∀ m:Int,0<=m->m < 1999999973->Q (.int m) H
theorem ok_law_mix (T:Tx K mg):FnOk P w K mg base CX0 1 T.law_mix.f T.law_mix.fd ["_law_cell", "_law_k"] sp_mix:=by
 have sc:=sc_law_mix
 refine T.law_mix.F.ok sc_law_mix (fun vs H Q E h=>?_) (fun cdv A outer s H vs Q E hr h=>?_)
 ·obtain ⟨c,k,rfl,_⟩:=h
  rfl
 ·obtain ⟨cell,k,rfl,k0,k1,q⟩:=h
  refine ⟨_,(pss_cons (ps_set (i:=2) sc.nd rfl (by first | exact Or.inl rfl | exact Or.inr rfl) (pe_op op_mod (pe_op op_mul (pe_op op_add (pe_op op_add (pe_op op_mod (pv 0) pe_int) (pe_op op_mul (pe_op op_mul (pv 1) (pv 1)) pe_int)) pe_int) pe_int) pe_int))
   (pss_one (ps_ret (pe_op op_mod (pe_op op_mul (pv 2) (pv 2)) pe_int)))),?_⟩
  refine ex1 rfl (ex2_3 rfl rfl ⟨(show (0:Int) < 2147483629 by decide),ex1 rfl (ex1 rfl (ex2_3 rfl rfl ⟨.inl ⟨by omega,by omega⟩,ex2_3 rfl rfl ⟨.inr ⟨by decide,by decide⟩,ex2_3 rfl rfl (ex2_3 rfl rfl (ex2_3 rfl rfl ⟨.inr ⟨by decide,by decide⟩,ex2_3 rfl rfl ⟨(show (0:Int) < 2147483647 by decide),?_⟩⟩))⟩⟩))⟩)
  generalize hm:(cell % 2147483629 + k * k * 7919 + 11) * 48271 % 2147483647 = m
  have h1:0<=m:=by rw [<-hm]; exact Int.emod_nonneg _ (by decide)
  have h2:m < 2147483647:=by rw [<-hm]; exact Int.emod_lt_of_pos _ (by decide)
  exact ⟨_,rfl,_,rfl,_,_,rfl,rfl,.inl ⟨by omega,by omega⟩,_,_,rfl,rfl,(show (0:Int) < 1999999973 by decide),q _ (Int.emod_nonneg _ (by decide)) (Int.emod_lt_of_pos _ (by decide))⟩
noncomputable def LeftAt (H:Hp) (p:Addr) (c:Int):Prop:=∃ a b:Int,H p = some (.lst [.int a,.int b,.int c])/\0<=c
theorem LeftAt.isS {H:Hp} {p:Addr} {c:Int} (h:LeftAt H p c):(H p).isSome = true:=by
 obtain ⟨_,_,e,_⟩:=h
 rw [e]; rfl
theorem LeftAt.get {H:Hp} {p:Addr} {c:Int} (h:LeftAt H p c):H p = some ((H p).get h.isS):=(Option.some_get _).symm
theorem LeftAt.cast {H:Hp} {p:Addr} {c c':Int} (h:LeftAt H p c) (e:c = c'):LeftAt H p c':=e ▸ h
theorem LeftAt.upd {H:Hp} {p a:Addr} {c:Int} {o:HO} (h:LeftAt H p c) (n:p ≠ a):LeftAt (L2.upd H a o) p c:=by
 obtain ⟨x,y,e,z⟩:=h
 exact ⟨x,y,by rw [upd_ne n]; exact e,z⟩
theorem LeftAt.same {H H':Hp} {p:Addr} {c:Int} (h:LeftAt H p c) (s:Same H H'):LeftAt H' p c:=by
 obtain ⟨x,y,e,z⟩:=h
 exact ⟨x,y,s _ _ e,z⟩
theorem if01 (c:Bool):-(2 ^ 64) < (if c = true then (1:Int) else 0)/\(if c = true then (1:Int) else 0) < 2 ^ 64:=by cases c <;> exact ⟨by decide,by decide⟩
theorem sc_law_left:FnScope ["_law_script", "_law_k", "_law_cell"] ["_law_script", "_law_k"] (defScope s_law_left):=⟨rfl,rfl,rfl,by decide +kernel,rfl,by decide +kernel,by decide +kernel⟩
noncomputable def sp_left (K:PySem.W.Frag):Sp:=fun vs H Q _=>∃ (p:Addr) (xs:List Int) (k:Nat),vs = [.ref p,.int (k:Int)]/\SqL K H p (xs.map V.int)/\k<=1000/\∀ l H',H l = none->Same H H'->LeftAt H' l 0->Q (.ref l) H'
theorem ok_law_left (T:Tx K mg):FnOk P w K mg base CX0 1 T.law_left.f T.law_left.fd ["_law_script", "_law_k"] (sp_left K):=by
 have sc:=sc_law_left
 refine T.law_left.F.ok sc_law_left (fun vs H Q E h=>?_) (fun cdv A outer s H vs Q E hr h=>?_)
 ·obtain ⟨p,xs,k,rfl,_⟩:=h
  rfl
 ·obtain ⟨p,xs,k,rfl,hS,hk,q⟩:=h
  refine ⟨_,(pss_cons (ps_set (i:=2) sc.nd rfl (by first | exact Or.inl rfl | exact Or.inr rfl) (pe_ifExp (pt_cmpR op_lt (pv 1) (pe_bf (cl_len K) T.b_len bt_len (pa_cons (pv 0) pa_nil)) (nomark _)) (pe_ix (ixL K) (pv 0) (pv 1) (fun _ _=>rfl)) pe_int))
   (pss_one (ps_ret (pe_lst (pa_cons (pe_op op_mul (pe_bf call_abs T.b_abs bt_abs (pa_cons (pv 2) pa_nil)) (pe_bt call_int1 T.b_int bt_int (pa_cons (pe_cmpR op_ge (pe_bf call_abs T.b_abs bt_abs (pa_cons (pv 2) pa_nil)) (pe_op op_pow pe_int pe_int) (nomark _)) pa_nil))) (pa_cons (pe_op op_add (pv 2) (pe_op op_mul pe_int (pv 1))) (pa_cons pe_int pa_nil))))))),?_⟩
  refine ex1 rfl (ex1 rfl (ex2_3 (a:=p) rfl (.inl hS) (ex2_3 rfl rfl (ex1 rfl ?_))))
  have at1:decide ((k:Int) < ((xs.map V.int).length:Int)) = true->∃ c:Int,atI (xs.map V.int) (k:Int) = some (.int c):=fun c1=>by
   have c1:(k:Int) < ((xs.map V.int).length:Int):=of_decide_eq_true c1
   rw [List.length_map] at c1
   have hk':xs[k]? = some (xs[k]'(by omega)):=List.getElem?_eq_getElem (by omega)
   exact ⟨_,atI_nat (by rw [List.getElem?_map,hk']; rfl)⟩
  refine ite2 (fun c1=>?_) (fun c1=>?_)
  ·obtain ⟨c,hc⟩:=at1 c1
   refine ex1 rfl (ex1 rfl ⟨p,_,ex2_3 rfl rfl ⟨hS,hc,?_⟩⟩)
   (repeat first | refine ⟨_,rfl,?_⟩ | refine ⟨_,_,rfl,rfl,?_⟩)
   refine ⟨⟨by decide,by decide,by decide⟩,?_⟩
   (repeat first | refine ⟨_,rfl,?_⟩ | refine ⟨_,_,rfl,rfl,?_⟩)
   refine .inr ⟨_,rfl,?_⟩
   (repeat first | refine ⟨_,rfl,?_⟩ | refine ⟨_,_,rfl,rfl,?_⟩)
   refine ⟨.inr ?_,?_⟩
   ·exact if01 _
   (repeat first | refine ⟨_,rfl,?_⟩ | refine ⟨_,_,rfl,rfl,?_⟩)
   refine ⟨.inl ⟨by decide,by decide⟩,?_⟩
   (repeat first | refine ⟨_,rfl,?_⟩ | refine ⟨_,_,rfl,rfl,?_⟩)
   exact ⟨by show 3<=sizeLine; decide,fun l hl=>q l _ hl (Same.new hl) ⟨_,_,upd_same,by decide⟩⟩
  ·(repeat first | refine ⟨_,rfl,?_⟩ | refine ⟨_,_,rfl,rfl,?_⟩)
   refine ⟨⟨by decide,by decide,by decide⟩,?_⟩
   (repeat first | refine ⟨_,rfl,?_⟩ | refine ⟨_,_,rfl,rfl,?_⟩)
   refine .inr ⟨_,rfl,?_⟩
   (repeat first | refine ⟨_,rfl,?_⟩ | refine ⟨_,_,rfl,rfl,?_⟩)
   refine ⟨.inr ?_,?_⟩
   ·exact if01 _
   (repeat first | refine ⟨_,rfl,?_⟩ | refine ⟨_,_,rfl,rfl,?_⟩)
   refine ⟨.inl ⟨by decide,by decide⟩,?_⟩
   (repeat first | refine ⟨_,rfl,?_⟩ | refine ⟨_,_,rfl,rfl,?_⟩)
   exact ⟨by show 3<=sizeLine; decide,fun l hl=>q l _ hl (Same.new hl) ⟨_,_,upd_same,by decide⟩⟩
theorem sc_law_pick:FnScope ["_law_left_here", "_law_many", "_law_digit"] ["_law_left_here", "_law_many"] (defScope s_law_pick):=⟨rfl,rfl,rfl,by decide +kernel,rfl,by decide +kernel,by decide +kernel⟩
noncomputable def sp_pick:Sp:=fun vs H Q _=>∃ (p:Addr) (c many:Int),vs = [.ref p,.int many]/\LeftAt H p c/\c<=1000000/\0 < many/\many<=1000000 /\
 ∀ (d:Nat) H',(d:Int) < many->Sm [p] H H'->LeftAt H' p (c + 1)->Q (.int (d:Int)) H'
theorem ok_law_pick (T:Tx K mg):FnOk P w K mg base CX0 2 T.law_pick.f T.law_pick.fd ["_law_left_here", "_law_many"] sp_pick:=by
 have G_law_mix:FnOk P w K mg base CX0 1 T.law_mix.f T.law_mix.fd ["_law_cell", "_law_k"] sp_mix:=ok_law_mix T
 have sc:=sc_law_pick
 refine T.law_pick.F.ok sc_law_pick (fun vs H Q E h=>?_) (fun cdv A outer s H vs Q E hr h=>?_)
 ·obtain ⟨p,c,m,rfl,_⟩:=h
  rfl
 ·obtain ⟨p,c,many,rfl,⟨a,b,e,c0⟩,c1,m0,m1,q⟩:=h
  refine ⟨_,(pss_cons (ps_asg (pe_op op_add (pe_ix (ixL K) (pv 0) pe_int (fun _ _=>rfl)) pe_int) (pg_sub (pv 0) pe_int set_list))
   (pss_cons (ps_if (pt_cmpR op_gt (pe_ix (ixL K) (pv 0) pe_int (fun _ _=>rfl)) pe_int (nomark _)) (pss_cons (ps_set (i:=2) sc.nd rfl (by first | exact Or.inl rfl | exact Or.inr rfl) (pe_op op_mod (pe_ix (ixL K) (pv 0) pe_int (fun _ _=>rfl)) (pv 1)))
   (pss_cons (ps_asg (pe_op op_fdiv (pe_ix (ixL K) (pv 0) pe_int (fun _ _=>rfl)) (pv 1)) (pg_sub (pv 0) pe_int set_list))
   (pss_one (ps_ret (pv 2))))) pss_nil)
   (pss_one (ps_ret (pe_op op_mod (pe_op op_fdiv (pe_fn T.law_mix G_law_mix (hr.mono (by decide)) (pa_cons (pe_fn T.law_mix G_law_mix (hr.mono (by decide)) (pa_cons (pe_ix (ixL K) (pv 0) pe_int (fun _ _=>rfl)) (pa_cons (pe_ix (ixL K) (pv 0) pe_int (fun _ _=>rfl)) pa_nil))) (pa_cons (pe_op op_add (pe_ix (ixL K) (pv 0) pe_int (fun _ _=>rfl)) pe_int) pa_nil))) pe_int) (pv 1)))))),?_⟩
  have nn:∀ d:Int,0<=d->d < many->∀ a' b',Q (.int d) (upd (upd H p (.lst [.int a,.int b,.int (c + 1)])) p (.lst [.int a',.int b',.int (c + 1)]))/\Q (.int d) (upd H p (.lst [.int a',.int b',.int (c + 1)])):=fun d h0 h1 a' b'=>by
   obtain ⟨n,rfl⟩:=Int.eq_ofNat_of_zero_le h0
   exact ⟨q n _ h1 (((Sm.refl _ _).upd (by simp)).upd (by simp)) ⟨a',b',upd_same,by omega⟩,q n _ h1 ((Sm.refl _ _).upd (by simp)) ⟨a',b',upd_same,by omega⟩⟩
  refine ex1 rfl ⟨p,_,ex2_3 rfl rfl ⟨SqL.of e,rfl,ex2_3 rfl rfl (ex1 rfl ⟨p,_,_,2,rfl,rfl,e,rfl,?_⟩)⟩⟩
  refine ex1 rfl ⟨p,_,ex2_3 rfl rfl ⟨SqL.of upd_same,rfl,ex2_3 rfl rfl (ex1 rfl ?_)⟩⟩
  refine ite2 (fun h1=>?_) (fun h1=>?_)
  ·have h1:(0:Int) < a:=of_decide_eq_true h1
   refine ex1 rfl ⟨p,_,ex2_3 rfl rfl ⟨SqL.of upd_same,rfl,ex1 rfl (ex2_3 rfl rfl ⟨m0,?_⟩)⟩⟩
   refine ex1 rfl ⟨p,_,ex2_3 rfl rfl ⟨SqL.of upd_same,rfl,ex1 rfl (ex2_3 rfl rfl ⟨⟨m0,by omega⟩,ex1 rfl ⟨p,_,_,0,rfl,rfl,upd_same,rfl,?_⟩⟩)⟩⟩
   exact ⟨_,rfl,(nn _ (Int.emod_nonneg _ (by omega)) (Int.emod_lt_of_pos _ m0) _ _).1⟩
  ·refine ex1 rfl ⟨p,_,ex2_3 rfl rfl ⟨SqL.of upd_same,rfl,ex1 rfl ⟨p,_,ex2_3 rfl rfl ⟨SqL.of upd_same,rfl,_,ex1 rfl ⟨by omega,by omega,fun m2 h2 h3=>?_⟩⟩⟩⟩⟩
   refine ex1 rfl ⟨p,_,ex2_3 rfl rfl ⟨SqL.of upd_same,rfl,ex2_3 rfl rfl ⟨_,ex1 rfl ⟨by omega,by omega,fun m3 h4 h5=>?_⟩⟩⟩⟩
   refine ex2_3 rfl rfl ⟨⟨by decide,by decide⟩,ex1 rfl (ex2_3 rfl rfl ⟨m0,?_⟩)⟩
   exact (nn _ (Int.emod_nonneg _ (by omega)) (Int.emod_lt_of_pos _ m0) _ _).2
end
end Sw
namespace Sw
open PySem L2
theorem LeftAt.ne {H:Hp} {p n:Addr} {c:Int} {ss:List Str} (h:LeftAt H p c) (hn:H n = some (.lst (ss.map V.str))):n ≠ p:=by
 rintro rfl
 obtain ⟨a,b,e,_⟩:=h
 rw [hn] at e
 cases ss with
 | nil=>cases e
 | cons x r=>cases e
theorem LeftAt.neP {H:Hp} {p n:Addr} {c:Int} {ss:List PA2} (h:LeftAt H p c) (hn:H n = some (.lst (refs ss))):n ≠ p:=by
 rintro rfl
 obtain ⟨a,b,e,_⟩:=h
 rw [hn] at e
 cases ss with
 | nil=>cases e
 | cons x r=>cases e
end Sw
namespace Sw
open PySem L2
noncomputable def pd (k:Str × Str):PyData:=.tuple [.str k.1,.str k.2]
theorem nameB_ok {x:Str} (h:nameB x = true):PySem.PyData.strOk x = true:=by
 unfold nameB at h
 rw [Bool.and_eq_true] at h
 unfold PySem.PyData.strOk
 rw [<-Array.all_toList,List.all_eq_true]
 intro c hc
 have:=(List.all_eq_true.mp h.2) c hc
 unfold letB at this
 rw [Bool.and_eq_true] at this
 have:=of_decide_eq_true this.2
 exact decide_eq_true (by omega)
theorem rp_pair {K:PySem.W.Frag} {H:Hp} {t:Addr} {k:Str × Str} (h:H t = some (.tup [.str k.1,.str k.2])):Rp K H (pd k) (.ref t):=by
 unfold pd
 simp only [Rp,Rps]
 exact ⟨t,_,rfl,SqT.of h,_,_,rfl,rfl,_,_,rfl,rfl,rfl⟩
theorem rps_pairs {K:PySem.W.Frag} {H:Hp}:∀ {ps:List PA2},(∀ q ∈ ps,PairIn H q)->Rps K H (ps.map fun q=>pd q.2) (refs ps)
 | [],_=>by simp [Rps,refs]
 | q :: r,h=>by
  show Rps K H (pd q.2 :: r.map fun q=>pd q.2) (V.ref q.1 :: refs r)
  simp only [Rps]
  exact ⟨_,_,rfl,rp_pair (h q (List.mem_cons_self ..)),rps_pairs fun z hz=>h z (List.mem_cons_of_mem _ hz)⟩
theorem rp_pairs {K:PySem.W.Frag} {H:Hp} {l:Addr} {ps:List PA2} (hl:H l = some (.lst (refs ps))) (h:∀ q ∈ ps,PairIn H q):Rp K H (.list (ps.map fun q=>pd q.2)) (.ref l):=by
 simp only [Rp]
 exact ⟨l,_,rfl,SqL.of hl,rps_pairs h⟩
theorem eqv_pd (a b:Str × Str):PyData.eqv (pd a) (pd b) = decide (a = b):=by
 unfold pd
 rw [PyData.eqv,PyData.eqvAll,PyData.eqvAll,PyData.eqvAll,PyData.eqv,PyData.eqv]
 by_cases h1:a.1 = b.1
 ·by_cases h2:a.2 = b.2
  ·rw [decide_eq_true (Prod.ext h1 h2),h1,h2]; simp
  ·rw [decide_eq_false fun z=>h2 (congrArg Prod.snd z)]; simp [h2]
 ·rw [decide_eq_false fun z=>h1 (congrArg Prod.fst z)]; simp [h1]
theorem any_pairs (k:Str × Str):∀ ps:List PA2,((ps.map fun q=>pd q.2).any fun z=>PyData.eqv z (pd k)) = decide (k ∈ ps.map fun q=>q.2)
 | []=>rfl
 | q :: r=>by
  rw [List.map_cons,List.any_cons,any_pairs k r,eqv_pd,List.map_cons]
  by_cases e:q.2 = k
  ·rw [decide_eq_true e,Bool.true_or,decide_eq_true (show k ∈ q.2 :: _ from by rw [<-e]; exact List.mem_cons_self ..)]
  ·rw [decide_eq_false e,Bool.false_or]
   by_cases h:k ∈ r.map fun q=>q.2
   ·rw [decide_eq_true h,decide_eq_true (List.mem_cons_of_mem _ h)]
   ·rw [decide_eq_false h,decide_eq_false fun z=>(List.mem_cons.mp z).elim (fun z=>e z.symm) h]
theorem lay_pd {k:Str × Str} (h1:PySem.PyData.strOk k.1 = true) (h2:PySem.PyData.strOk k.2 = true):(pd k).canLay0 = true:=by
 unfold pd
 simp [PyData.canLay0,PyData.canLayAll0,h1,h2]
theorem lay_pds:∀ {ps:List PA2},(∀ q ∈ ps,PySem.PyData.strOk q.2.1 = true/\PySem.PyData.strOk q.2.2 = true)->PyData.canLayAll0 (ps.map fun q=>pd q.2) = true
 | [],_=>rfl
 | q :: r,h=>by
  rw [List.map_cons,PyData.canLayAll0,lay_pd (h q (List.mem_cons_self ..)).1 (h q (List.mem_cons_self ..)).2,lay_pds fun z hz=>h z (List.mem_cons_of_mem _ hz)]
  rfl
theorem notIn_pair {K:PySem.W.Frag} {H:Hp} {t l:Addr} {k:Str × Str} {ps:List PA2} {Q:VK} (ht:H t = some (.tup [.str k.1,.str k.2])) (hl:H l = some (.lst (refs ps))) (hp:∀ q ∈ ps,PairIn H q)
  (hk:PySem.PyData.strOk k.1 = true/\PySem.PyData.strOk k.2 = true) (hs:∀ q ∈ ps,PySem.PyData.strOk q.2.1 = true/\PySem.PyData.strOk q.2.2 = true) (q:Q (.bl (!decide (k ∈ ps.map fun q=>q.2))) H):rInD K true (.ref t) (.ref l) H Q :=
 ⟨pd k,_,rp_pair ht,.inl (rp_pairs hl hp),⟨lay_pd hk.1 hk.2,by simp [pd,PyData.depth,PyData.depthAll]⟩,lay_pds hs,by rw [if_pos rfl,any_pairs]; exact q⟩
end Sw
namespace Sw
open PySem L2
theorem eqS_same {K:PySem.W.Frag} {x:Str} {H:Hp} {Q:VK} (o:PySem.PyData.strOk x = true) (q:Q (.bl true) H):rEqD K (.str x) (.str x) H Q:=by
 have e:Rp K H (.str x) (.str x):=by simp only [Rp]
 have p:Pl (.str x):=⟨by rw [PyData.canLay0]; exact o,by rw [PyData.depth]; decide⟩
 exact ⟨_,_,e,e,p,p,by rw [PySem.SeqAt.eqv_refl _ p.1]; exact q⟩
noncomputable def tyB (b:Bool):Value:=.type (bif b then "list" else "tuple")
theorem kit_l {K:PySem.W.Frag}:∀ b,PySem.W.kitOne K (tyB b) (.type "list") = some b
 | true=>rfl
 | false=>rfl
theorem kit_t {K:PySem.W.Frag}:∀ b,PySem.W.kitOne K (tyB b) (.type "tuple") = some !b
 | true=>rfl
 | false=>rfl
theorem kit_a {K:PySem.W.Frag}:∀ b,PySem.W.kitAny K (tyB b) (["list", "tuple"].map Value.type) = some true
 | true=>rfl
 | false=>rfl
theorem bl_ne (b:Bool):(!decide (V.bl b = V.bl b)) = false:=congrArg _ (decide_eq_true rfl)
noncomputable def LT (b:Bool) (xs:List V):HO:=bif b then .lst xs else .tup xs
theorem ty_LT {K:PySem.W.Frag} {H:Hp} {l:Addr} {xs:List V}:∀ {b:Bool},H l = some (LT b xs)->TyOf K H (.ref l) (tyB b)
 | true,h=>.lst h
 | false,h=>.tup h
theorem or_LT {H:Hp} {l:Addr} {xs:List V}:∀ {b:Bool},H l = some (LT b xs)->H l = some (.lst xs)\/H l = some (.tup xs)
 | true,h=>.inl h
 | false,h=>.inr h
noncomputable def sqB (K:PySem.W.Frag) (b:Bool):Hp->Addr->List V->Prop:=bif b then SqL K else SqT K
theorem sq_LT {K:PySem.W.Frag} {H:Hp} {l:Addr} {xs:List V}:∀ {b:Bool},H l = some (LT b xs)->sqB K b H l xs
 | true,h=>SqL.of h
 | false,h=>SqT.of h
theorem sqs_LT {K:PySem.W.Frag} {H:Hp} {l:Addr} {xs:List V} {b:Bool} (h:H l = some (LT b xs)):Sqs K H l xs:=(or_LT h).imp SqL.of SqT.of
theorem zip_LT {K:PySem.W.Frag} {H:Hp} {l m:Addr} {xs ys:List V} {R:It->Hp->Prop}:∀ {b:Bool},H l = some (LT b xs)->H m = some (LT b ys)->R (Itz2 (sqB K b) l m) H->zipR K R l m xs ys H
 | true,h,h',q=>.inl ⟨SqL.of h,SqL.of h',q⟩
 | false,h,h',q=>.inr ⟨SqT.of h,SqT.of h',q⟩
section
variable {P:Program} {w:World} {K:PySem.W.Frag} {mg:Str->Option Value} {base:Heap}
theorem sc_law_same:FnScope ["_law_found", "_law_due"] ["_law_found", "_law_due"] (defScope s_law_same):=⟨rfl,rfl,rfl,by decide +kernel,rfl,by decide +kernel,by decide +kernel⟩
noncomputable def sp_none:Sp:=fun _ _ _ _=>False
theorem ok_none {f:Addr} {fd:FuncData} {ps:List Str}:FnOk P w K mg base CX0 0 f fd ps sp_none:=⟨fun _ _ _ _ h=>h.elim,fun _ _ _ _ _ _ _ _ _ _ _ _ _ h=>h.elim⟩
noncomputable def sp_same (S:Sp):Sp:=fun vs H Q _=>(∃ a:Str,vs = [.str a,.str a]/\PySem.PyData.strOk a = true/\∀ H',Same H H'->Q (.bl true) H') \/
 ∃ (l m:Addr) (b:Bool) (xs ys:List V),vs = [.ref l,.ref m]/\H l = some (LT b xs)/\H m = some (LT b ys)/\xs.length = ys.length/\xs.length<=200 /\
  (∀ (i:Nat) (x y:V) (H':Hp) (Q':VK) (E:XK),xs[i]? = some x->ys[i]? = some y->Same H H'->(∀ H'',Same H' H''->Q' (.bl true) H'')->S [x,y] H' Q' E)/\∀ H',Same H H'->Q (.bl true) H'
theorem ok_law_same1 (T:Tx K mg) {n:Nat} {S:Sp} (G_law_same:FnOk P w K mg base CX0 n T.law_same.f T.law_same.fd ["_law_found", "_law_due"] S):FnOk P w K mg base CX0 (n + 1) T.law_same.f T.law_same.fd ["_law_found", "_law_due"] (sp_same S):=by
 have sc:=sc_law_same
 refine T.law_same.F.ok sc_law_same (fun vs H Q E h=>?_) (fun cdv A outer s H vs Q E hr h=>?_)
 ·rcases h with ⟨a,rfl,_⟩ | ⟨l,m,b,xs,ys,rfl,_⟩
  ·rfl
  ·rfl
 ·refine ⟨_,(pss_cons (ps_if (pt_val (pe_bf (cl_isinT K) T.b_isinstance bt_isinstance (pa_cons (pv 1) (pa_cons (pe_tup (pa_cons (pe_ty T.b_list bt_list) (pa_cons (pe_ty T.b_tuple bt_tuple) pa_nil))) pa_nil)))) (pss_cons (ps_if (PW.pt (pw_or (pt_cmpR op_ne (pe_bf (cl_isin K) T.b_isinstance bt_isinstance (pa_cons (pv 0) (pa_cons (pe_ty T.b_list bt_list) pa_nil))) (pe_bf (cl_isin K) T.b_isinstance bt_isinstance (pa_cons (pv 1) (pa_cons (pe_ty T.b_list bt_list) pa_nil))) (nomark _)) (pw_or1 (pt_cmpR op_ne (pe_bf (cl_isin K) T.b_isinstance bt_isinstance (pa_cons (pv 0) (pa_cons (pe_ty T.b_tuple bt_tuple) pa_nil))) (pe_bf (cl_isin K) T.b_isinstance bt_isinstance (pa_cons (pv 1) (pa_cons (pe_ty T.b_tuple bt_tuple) pa_nil))) (nomark _))))) (pss_one (ps_ret pe_bl)) pss_nil)
   (pss_one (ps_ret (pe_and (pe_cmpR op_eq (pe_bf (cl_len K) T.b_len bt_len (pa_cons (pv 0) pa_nil)) (pe_bf (cl_len K) T.b_len bt_len (pa_cons (pv 1) pa_nil)) (nomark _)) (pe_one (pe_bf (cl_all K) T.b_all bt_all (pa_cons (pe_lc (N':=["_law_one", "_law_other"]) (cap:=[none,none]) (cl:=[]) (cs_mk trivial trivial) rfl (piZ2 K T.b_zip (pa_cons (pv 0) (pa_cons (pv 1) pa_nil))) (fun _ _ _ _=>by exact ⟨(pgT K (n:=2) (pgs_cons (pgC 0) (pgs_cons (pgC 1) pgs_nil))),pts_nil,(pe_fn T.law_same G_law_same (hr.mono (Nat.le_refl _)) (pa_cons (pv 0) (pa_cons (pv 1) pa_nil)))⟩)) pa_nil))))))) pss_nil)
   (pss_cons (ps_if (PW.pt (pw_or (pt_cmpR op_isN (pv 1) pe_non (nomark _)) (pw_or1 (pt_val (pe_bf (cl_isin K) T.b_isinstance bt_isinstance (pa_cons (pv 1) (pa_cons (pe_ty T.b_str bt_str) pa_nil))))))) (pss_one (ps_ret (pe_and (pe_cmpR (o_eqD K hr.units) (pv 0) (pv 1) (nomark _)) (pe_one (pe_cmpR op_eq (pe_bf (cl_isin K) T.b_isinstance bt_isinstance (pa_cons (pv 0) (pa_cons (pe_ty T.b_str bt_str) pa_nil))) (pe_bf (cl_isin K) T.b_isinstance bt_isinstance (pa_cons (pv 1) (pa_cons (pe_ty T.b_str bt_str) pa_nil))) (nomark _)))))) pss_nil)
   (pss_cons (ps_if (pt_val (pe_bf (cl_isin K) T.b_isinstance bt_isinstance (pa_cons (pv 1) (pa_cons (pe_ty T.b_bool bt_bool) pa_nil)))) (pss_one (ps_ret (pe_and (pe_bf (cl_isin K) T.b_isinstance bt_isinstance (pa_cons (pv 0) (pa_cons (pe_ty T.b_bool bt_bool) pa_nil))) (pe_one (pe_cmpR (o_eqD K hr.units) (pv 0) (pv 1) (nomark _)))))) pss_nil)
   (pss_one (ps_ret (pe_and (pe_bf (cl_isin K) T.b_isinstance bt_isinstance (pa_cons (pv 0) (pa_cons (pe_ty T.b_int bt_int) pa_nil))) (pe_and (pe_not (pe_bf (cl_isin K) T.b_isinstance bt_isinstance (pa_cons (pv 0) (pa_cons (pe_ty T.b_bool bt_bool) pa_nil)))) (pe_one (pe_cmpR (o_eqD K hr.units) (pv 0) (pv 1) (nomark _)))))))))),?_⟩
  rcases h with ⟨b,rfl,ob,q⟩ | ⟨l,m,b,xs,ys,rfl,hl,hm,el,len,hS,q⟩
  ·refine ex1 rfl ⟨by show 2<=sizeLine; decide,fun t ht=>?_⟩
   have s1:=Same.new (o:=.tup [.ty "list",.ty "tuple"]) ht
   refine ⟨.str b,t,["list", "tuple"],_,false,rfl,upd_same,.str b,.inl ⟨b,rfl⟩,rfl,?_⟩
   generalize upd H t (.tup [.ty "list",.ty "tuple"]) = H1 at s1 ⊢
   refine ex1 rfl (iteF ?_)
   refine ex1 rfl ⟨rfl,ex1 rfl (iteF ?_)⟩
   refine ex1 rfl ⟨.str b, "str",_,true,rfl,.str b,rfl,ex1 rfl (iteT ?_)⟩
   refine ex1 rfl (ex1 rfl (eqS_same ob ⟨_,rfl,iteT ?_⟩))
   refine ex1 rfl ⟨.str b, "str",_,true,rfl,.str b,rfl,ex1 rfl ⟨.str b, "str",_,true,rfl,.str b,rfl,?_⟩⟩
   exact ⟨rfl,q _ s1⟩
  ·refine ex1 rfl ⟨by show 2<=sizeLine; decide,fun t ht=>?_⟩
   have s1:=Same.new (o:=.tup [.ty "list",.ty "tuple"]) ht
   have l1:=s1 _ _ hl
   have m1:=s1 _ _ hm
   refine ⟨.ref m,t,["list", "tuple"],_,true,rfl,upd_same,ty_LT m1,.inr ⟨m,_,rfl,or_LT m1⟩,kit_a b,?_⟩
   generalize upd H t (.tup [.ty "list",.ty "tuple"]) = H1 at s1 l1 m1 ⊢
   refine ex1 rfl (iteT ?_)
   refine ex1 rfl ⟨.ref l, "list",_,b,rfl,ty_LT l1,kit_l b,ex1 rfl ⟨.ref m, "list",_,b,rfl,ty_LT m1,kit_l b,rfl,?_⟩⟩
   refine ⟨false,congrArg V.bl (bl_ne b),iteF ?_⟩
   refine ex1 rfl ⟨.ref l, "tuple",_,_,rfl,ty_LT l1,kit_t b,ex1 rfl ⟨.ref m, "tuple",_,_,rfl,ty_LT m1,kit_t b,rfl,?_⟩⟩
   refine ⟨false,congrArg V.bl (bl_ne !b),iteF ?_⟩
   refine ex1 rfl (ex2_3 (a:=l) rfl (sqs_LT l1) (ex1 rfl (ex2_3 (a:=m) rfl (sqs_LT m1) ⟨rfl,ex1 rfl ?_⟩)))
   refine ite2 (fun _=>?_) (fun h=>absurd (decide_eq_true (congrArg (fun k:Nat=>V.int k) el)) h)
   refine ex1 rfl (ex1 rfl ⟨l,m,xs,ys,?_⟩)
   refine ⟨rfl,zip_LT l1 m1 fun D hD=>?_⟩
   refine loop_J (n:=xs.length) (fun i σ H2=>(∃ v0 v1,σ = [v0,v1])/\Same H1 H2/\H2 D = some (.lst ((List.replicate i true).map V.bl))) ⟨⟨_,_,rfl⟩,Same.new hD,upd_same⟩ ?_ ?_ ?_ ?_
   ·rintro i σ H2 hi ⟨_,s2,_⟩
    exact ⟨_,_,_,_,sq_LT (s2 _ _ l1),sq_LT (s2 _ _ m1),Nat.le_of_eq el,List.getElem?_eq_getElem hi,List.getElem?_eq_getElem (el ▸ hi)⟩
   ·rintro σ H2 ⟨_,s2,_⟩
    exact ⟨_,_,sq_LT (s2 _ _ l1),sq_LT (s2 _ _ m1),Nat.le_of_eq el,rfl⟩
   ·rintro i σ H2 x H3 N hi ⟨⟨v0,v1,rfl⟩,s2,e2⟩ ⟨u,x,y,rfl,hu,rfl,hx,hy⟩ hN
    have s3:=Same.new (o:=.tup [x,y]) hu
    refine ⟨u,ex1 rfl ⟨SqT.of upd_same,rfl,_,ex1 rfl (ex2_3 rfl rfl ?_)⟩⟩
    refine ex1 rfl (ex1 rfl (hS i x y _ _ _ (hx _ (sq_LT (s2 _ _ l1))) (hy _ (sq_LT (s2 _ _ m1))) ((s1.trans s2).trans s3) fun H4 s4=>?_))
    refine ⟨_,s4 _ _ (s3 _ _ e2),by rw [List.length_map,List.length_replicate,sizeLine_eq]; omega,hN _ _ ⟨⟨_,_,rfl⟩,((s2.trans s3).trans s4).upd hD,?_⟩⟩
    rw [upd_same,List.replicate_succ',List.map_append]; rfl
   ·rintro σ H2 ⟨_,s2,e2⟩
    have e:(List.replicate xs.length true).all id = true:=List.all_eq_true.mpr fun x hx=>(List.mem_replicate.mp hx).2
    have q':Q (.bl ((List.replicate xs.length true).all id)) H2:=e.symm ▸ q _ (s1.trans s2)
    exact ⟨D,_,rfl,SqL.of e2,q'⟩
end
end Sw
namespace Sw
open PySem L2
theorem same_SL {S:Sp} {H:Hp} {l m:Addr} {ss:List Str} (h:H l = some (.lst (ss.map V.str))) (h':H m = some (.lst (ss.map V.str))) (ok:∀ x ∈ ss,PySem.PyData.strOk x = true) (len:ss.length<=200) :
  ∃ xs ys,H l = some (LT true xs)/\H m = some (LT true ys)/\xs.length = ys.length/\xs.length<=200/\∀ (i:Nat) (x y:V) (H':Hp) (Q':VK) (E:XK),xs[i]? = some x->ys[i]? = some y->Same H H'->(∀ H'',Same H' H''->Q' (.bl true) H'')->sp_same (sp_same S) [x,y] H' Q' E:=by
 refine ⟨_,_,h,h',rfl,by rw [List.length_map]; exact len,fun i x y H' Q' E hx hy s hq=>?_⟩
 cases Option.some.inj (hx.symm.trans hy)
 rw [List.getElem?_map] at hx
 obtain ⟨a,ha,rfl⟩:=Option.map_eq_some_iff.mp hx
 exact .inl ⟨a,rfl,ok a (List.mem_of_getElem? ha),hq⟩
end Sw
namespace Sw
open PySem L2
theorem pair_sm {H H':Hp} {p:Addr} {c:Int} {q:PA2} (h:PairIn H q) (L:LeftAt H p c) (s:Sm [p] H H'):PairIn H' q:=by
 obtain ⟨x,y,e,_⟩:=L
 exact Sm1 s h (ne_of h e (by intro z; cases z))
end Sw
namespace Sw
open PySem L2
noncomputable def sd (ss:List Str):PyData:=.list (ss.map PyData.str)
theorem rps_strs {K:PySem.W.Frag} {H:Hp}:∀ ss:List Str,Rps K H (ss.map PyData.str) (ss.map V.str)
 | []=>by simp [Rps]
 | x :: r=>by
  simp only [List.map_cons,Rps,Rp]
  exact ⟨_,_,rfl,rfl,rps_strs r⟩
theorem rp_strs {K:PySem.W.Frag} {H:Hp} {l:Addr} {ss:List Str} (h:SqL K H l (ss.map V.str)):Rp K H (sd ss) (.ref l):=by
 unfold sd
 simp only [Rp]
 exact ⟨l,_,rfl,h,rps_strs ss⟩
theorem depth_strs:∀ ss:List Str,PyData.depthAll (ss.map PyData.str)<=1
 | []=>by simp [PyData.depthAll]
 | x :: r=>by
  have:=depth_strs r
  simp only [List.map_cons,PyData.depthAll,PyData.depth]
  omega
theorem lay_strs:∀ {ss:List Str},(∀ x ∈ ss,PySem.PyData.strOk x = true)->PyData.canLayAll0 (ss.map PyData.str) = true
 | [],_=>rfl
 | x :: r,h=>by
  rw [List.map_cons,PyData.canLayAll0,lay_strs fun z hz=>h z (List.mem_cons_of_mem _ hz)]
  simp [PyData.canLay0,h x (List.mem_cons_self ..)]
theorem pl_strs {ss:List Str} (h:∀ x ∈ ss,nameB x = true):Pl (sd ss):=by
 refine ⟨?_,?_⟩
 ·unfold sd
  rw [PyData.canLay0]
  exact lay_strs fun x hx=>nameB_ok (h x hx)
 ·unfold sd
  rw [PyData.depth]
  have:=depth_strs ss
  omega
end Sw
namespace Sw
open PySem L2
theorem tt_join {t:TT} {σ:St} {H:Hp} {Q:Bool->Hp->Prop} (J:Bool->Hp->Prop) (hQ:∀ b H,J b H->Q b H) (h:∀ Q',(∀ b H,J b H->Q' b H)->t σ H Q'):t σ H Q:=h Q hQ
theorem in_pair {K:PySem.W.Frag} {H:Hp} {t l:Addr} {k:Str × Str} {ps:List PA2} {Q:VK} (ht:H t = some (.tup [.str k.1,.str k.2])) (hl:H l = some (.lst (refs ps))) (hp:∀ q ∈ ps,PairIn H q)
  (hk:PySem.PyData.strOk k.1 = true/\PySem.PyData.strOk k.2 = true) (hs:∀ q ∈ ps,PySem.PyData.strOk q.2.1 = true/\PySem.PyData.strOk q.2.2 = true) (q:Q (.bl (decide (k ∈ ps.map fun q=>q.2))) H):rInD K false (.ref t) (.ref l) H Q :=
 ⟨pd k,_,rp_pair ht,.inl (rp_pairs hl hp),⟨lay_pd hk.1 hk.2,by simp [pd,PyData.depth,PyData.depthAll]⟩,lay_pds hs,by rw [if_neg (by decide),any_pairs]; exact q⟩
end Sw
namespace Sw
open PySem L2
noncomputable def d0:Str := ""
noncomputable def prs (l:List Str) (f:Nat->Nat) (i:Nat):List (Str × Str):=(List.range i).map fun j=>(l.getD j d0,l.getD (f j) d0)
theorem getD_at {l:List Str} {j:Nat} (h:j < l.length):l[j]? = some (l.getD j d0):=by
 rw [List.getElem?_eq_getElem h,List.getD_eq_getElem?_getD,List.getElem?_eq_getElem h]; rfl
theorem prs_succ (l:List Str) (f:Nat->Nat) (i:Nat):prs l f (i + 1) = prs l f i ++ [(l.getD i d0,l.getD (f i) d0)]:=by
 unfold prs
 rw [List.range_succ,List.map_append]; rfl
theorem prs_len (l:List Str) (f:Nat->Nat) (i:Nat):(prs l f i).length = i:=by unfold prs; rw [List.length_map,List.length_range]
theorem mem_prs {l:List Str} {f:Nat->Nat} {i:Nat} (h:i<=l.length) (hf:∀ j,j < i->f j < l.length) {y n:Str}:(y,n) ∈ prs l f i ↔ ∃ j,j < i/\l[j]? = some y/\l[f j]? = some n:=by
 unfold prs
 rw [List.mem_map]
 constructor
 ·rintro ⟨j,hj,e⟩
  have hj:=List.mem_range.mp hj
  cases e
  exact ⟨j,hj,getD_at (by omega),getD_at (hf j hj)⟩
 ·rintro ⟨j,hj,e1,e2⟩
  refine ⟨j,List.mem_range.mpr hj,?_⟩
  rw [getD_at (by omega)] at e1
  rw [getD_at (hf j hj)] at e2
  rw [Option.some.inj e1,Option.some.inj e2]
end Sw
namespace Sw
open PySem L2
noncomputable def poolA:List Str:=["b", "aa", "zebra", "c", "quartzes", "ab", "m", "knows", "d", "mm", "likes", "z", "a", "ba", "abcdefgh", "y", "zz", "e", "x"]
noncomputable abbrev ptA:Str := "b aa zebra c quartzes ab m knows d mm likes z a ba abcdefgh y zz e x"
noncomputable def poolB:List Str:=["f", "g", "h", "i", "j", "k", "l", "n", "o", "p", "q"]
noncomputable abbrev ptB:Str := "f g h i j k l n o p q"
theorem splitA8 (Q:VK) (H:Hp) (h:∀ l,H l = none->Q (.ref l) (upd H l (.lst (poolA.map V.str)))):rSplit (.str ptA) [.str " "] H Q:=⟨ptA, " ",poolA,rfl,rfl,by decide +kernel,by decide +kernel,by decide +kernel,by decide +kernel,by decide +kernel,by decide +kernel,h⟩
theorem splitB8 (Q:VK) (H:Hp) (h:∀ l,H l = none->Q (.ref l) (upd H l (.lst (poolB.map V.str)))):rSplit (.str ptB) [.str " "] H Q:=⟨ptB, " ",poolB,rfl,rfl,by decide +kernel,by decide +kernel,by decide +kernel,by decide +kernel,by decide +kernel,by decide +kernel,h⟩
theorem pool_ok:(∀ x ∈ poolA ++ poolB,nameB x = true)/\(poolA ++ poolB).Nodup:=⟨by decide +kernel,by decide +kernel⟩
theorem LLx.sm {H H':Hp} {l p:Addr} {c:Int} {ps:List (Addr × List Str)} (h:LLx H l ps) (L:LeftAt H p c) (k:Sm [p] H H'):LLx H' l ps:=by
 have nl:l ≠ p:=fun e=>by
  subst e
  obtain ⟨a,b,e,_⟩:=L
  have:=Option.some.inj (h.1.symm.trans e)
  cases ps with
  | nil=>cases this
  | cons x r=>cases this
 exact ⟨Sm1 k h.1 nl,fun q hq=>⟨(h.2 q hq).1,Sm1 k (h.2 q hq).2 (L.ne (h.2 q hq).2)⟩⟩
theorem LLx.but {H:Hp} {l z:Addr} {o:HO} {ps:List (Addr × List Str)} (h:LLx H l ps) (n:z ≠ l) (f:∀ p ∈ ps,p.1 ≠ z):LLx (upd H z o) l ps:=⟨(upd_ne n.symm).trans h.1,fun p hp=>⟨(h.2 p hp).1,(upd_ne (f p hp)).trans (h.2 p hp).2⟩⟩
noncomputable def SL (H:Hp) (s:Addr) (ps:List PA2):Prop:=H s = some (.lst (refs ps))/\∀ q ∈ ps,PairIn H q
theorem SL.same {H H':Hp} {s:Addr} {ps:List PA2} (h:SL H s ps) (k:Same H H'):SL H' s ps:=⟨k _ _ h.1,same_pairs k h.2⟩
theorem SL.sm {H H':Hp} {s p:Addr} {c:Int} {ps:List PA2} (h:SL H s ps) (L:LeftAt H p c) (k:Sm [p] H H'):SL H' s ps:=⟨Sm1 k h.1 (L.neP h.1),fun q hq=>pair_sm (h.2 q hq) L k⟩
theorem SL.app {H:Hp} {s t:Addr} {ps:List PA2} {x y:Str} (h:SL H s ps) (ht:H t = none):SL (upd (upd H t (.tup [.str x,.str y])) s (.lst (refs ps ++ [.ref t]))) s (ps ++ [(t,x,y)]):=by
 refine ⟨by unfold refs; rw [upd_same,List.map_append]; rfl,fun q hq=>?_⟩
 rcases List.mem_append.mp hq with z | z
 ·have e:=h.2 q z
  exact (upd_ne (ne_of e h.1 (by intro z; cases z))).trans ((upd_ne (ne_of_none e ht)).trans e)
 ·cases List.mem_singleton.mp z
  exact (upd_ne (ne_of_none h.1 ht).symm).trans upd_same
theorem SL.cat {H:Hp} {s d:Addr} {ps rs:List PA2} (h:SL H s ps) (k:SL H d rs):SL (upd H s (.lst (refs ps ++ refs rs))) s (ps ++ rs):=by
 refine ⟨by unfold refs; rw [upd_same,List.map_append],fun q hq=>?_⟩
 have e:PairIn H q:=(List.mem_append.mp hq).elim (h.2 q) (k.2 q)
 exact (upd_ne (ne_of e h.1 (by intro z; cases z))).trans e
theorem refs_len (ps:List PA2):(refs ps).length = ps.length:=by unfold refs; rw [List.length_map]
theorem lc_pop {K:PySem.W.Frag} {a p C:Addr} {c:Int} {pool:List Str} {n:Nat} {H:Hp} {Q:St->Hp->Prop} (ea:H a = some (.lst (pool.map V.str))) (hL:LeftAt H p c) (hc:c<=800000) (hn:n<=pool.length) (hl:pool.length<=100) (hC:H C = none)
  (h:∀ σ H2 (rest got:List Str),Sm [p,a] H H2->H2 a = some (.lst (rest.map V.str))->H2 C = some (.lst (got.map V.str))->(rest ++ got).Perm pool->got.length = n->LeftAt H2 p (c + n)->Q σ H2) (v0:Option V) :
  Loop (gName 0) tTrue (emLst C (tBM K "list" rPopAt (tVar 1) (tCons (tCall sp_pick [] E0 (tCons (tVar 2) (tCons (tCB (fun xs H Q=>∃ p ys,xs = [V.ref p]/\(SqL K H p ys\/SqT K H p ys)/\Q (V.int (ys.length:Int)) H) (tCons (tVar 1) tNil)) tNil))) tNil))) (Itr 0 n) [v0,some (.ref a),some (.ref p)] (upd H C (.lst [])) Q:=by
 obtain ⟨a0,b0,e0,_⟩:=id hL
 have npa:p ≠ a:=(hL.ne ea).symm
 have npC:p ≠ C:=ne_of_none e0 hC
 have naC:a ≠ C:=ne_of_none ea hC
 refine loop_J (n:=n) (fun i σ H1=>(∃ v0,σ = [v0,some (.ref a),some (.ref p)])/\Sm [p,a] H H1/\LeftAt H1 p (c + i)/\∃ rest got:List Str,H1 a = some (.lst (rest.map V.str))/\H1 C = some (.lst (got.map V.str))/\(rest ++ got).Perm pool/\got.length = i) ?_ ?_ ?_ ?_ ?_
 ·exact ⟨⟨_,rfl⟩,(Same.new hC).sm,(hL.cast (by omega)).same (Same.new hC),pool,[],by rw [upd_ne naC]; exact ea,upd_same,by rw [List.append_nil],rfl⟩
 ·intro i σ H1 hi _
  exact hi
 ·intro σ H1 _
  exact Nat.le_refl _
 ·rintro i σ H1 x H' N hi ⟨⟨v0,rfl⟩,k1,L1,rest,got,ea,eb,pm,hg⟩ ⟨rfl,rfl⟩ hN
  have hlen:rest.length = pool.length - i:=by
   have:=pm.length_eq
   rw [List.length_append,hg] at this
   omega
  refine g_true ?_
  refine ex1 rfl ⟨.inl ⟨rfl,_,SqL.of ea⟩,ex1 rfl (ex1 rfl (ex2_3 (a:=a) rfl (.inl (SqL.of ea)) (ex3_6 (a:=p) (b:=c + i) rfl L1 (by omega) ?_ ?_ fun d H2 hd k2 L2=>?_)))⟩
  ·rw [List.length_map]; omega
  ·rw [List.length_map]; omega
  rw [List.length_map] at hd
  have hd':d < rest.length:=by omega
  have hx:rest[d]? = some rest[d]:=List.getElem?_eq_getElem hd'
  have ea2:=Sm1 k2 ea npa.symm
  have eb2:=Sm1 k2 eb npC.symm
  refine ⟨a,_,_,d,.str rest[d],rfl,rfl,ea2,by omega,by omega,six (by rw [List.length_map]; exact hd'),by rw [List.getElem?_map,hx]; rfl,_,by rw [upd_ne naC.symm]; exact eb2,?_,?_⟩
  ·rw [List.length_map,sizeLine_eq]; omega
  refine hN _ _ ⟨⟨_,rfl⟩,?_,?_,rest.eraseIdx d,got ++ [rest[d]],?_,?_,pop_perm pm hx,by rw [List.length_append,hg]; rfl⟩
  ·have k2':Sm [p,a] _ H2:=fun b o e n=>k2 b o e fun z=>n (by rw [List.mem_singleton.mp z]; simp)
   exact ((k1.trans k2').upd (by simp)).updN hC
  ·exact ((L2.cast (by omega)).upd npa).upd npC
  ·rw [upd_ne naC,upd_same,map_erase]
  ·rw [upd_same,List.map_append]; rfl
 ·rintro σ H1 ⟨⟨v0,rfl⟩,k1,L1,rest,got,ea,eb,pm,hg⟩
  exact h _ H1 rest got k1 ea eb pm hg L1
theorem lc_alone {K:PySem.W.Frag} {f p C:Addr} {c:Int} {xs:List V} {H:Hp} {Q:St->Hp->Prop} (ef:H f = some (.lst xs)) (nf:f ≠ p) (hL:LeftAt H p c) (hc:c<=800000) (hl:xs.length<=100) (hC:H C = none)
  (h:∀ σ H2 (bs:List Bool),Sm [p] H H2->H2 C = some (.lst (bs.map V.bl))->bs.length = xs.length->LeftAt H2 p (c + xs.length)->Q σ H2) (v0:Option V) :
  Loop (gName 0) tTrue (emLst C (tOp rEq (tCall sp_pick [] E0 (tCons (tVar 1) (tCons (tC (.int 3)) tNil))) (tC (.int 0)))) (Itl K f) [v0,some (.ref p)] (upd H C (.lst [])) Q:=by
 have npC:p ≠ C:=ne_of_none hL.get hC
 have nfp:f ∉ [p]:=by simpa using nf
 refine loop_as (asL (K:=K) (SqL.of ef)) (fun i σ H1=>(∃ v0,σ = [v0,some (.ref p)])/\Sm [p] H H1/\LeftAt H1 p (c + i)/\∃ bs:List Bool,H1 C = some (.lst (bs.map V.bl))/\bs.length = i)
  ⟨⟨_,rfl⟩,(Same.new hC).sm,(hL.same (Same.new hC)).cast (Int.add_zero _).symm,[],upd_same,rfl⟩ (fun i σ H1 _ ⟨_,k1,_⟩=>k1.at nfp) ?_ ?_
 ·rintro i σ H1 v N hx ⟨⟨v0,rfl⟩,k1,L1,bs,e1,l1⟩ hN
  have hi:=(List.getElem?_eq_some_iff.mp hx).1
  refine g_true (ex1 rfl (ex3_6 (a:=p) rfl L1 (by omega) (by decide) (by decide) fun d H2 hd k2 L2=>⟨rfl,?_⟩))
  refine ⟨_,Sm1 k2 e1 npC.symm,by rw [List.length_map,sizeLine_eq]; omega,hN _ _ ⟨⟨_,rfl⟩,(k1.trans k2).updN hC,(L2.upd npC).cast (by omega),bs ++ [decide (V.int (d:Int) = V.int 0)],by rw [upd_same,List.map_append]; rfl,by rw [List.length_append,l1]; rfl⟩⟩
 ·rintro σ H1 ⟨_,k1,L1,bs,e1,l1⟩
  exact h σ H1 bs k1 e1 l1 L1
theorem cut_take {xs:List V} {k:Nat}:cutV xs none (some (k:Int)) = xs.take k:=by
 unfold cutV
 rw [HT.sIx_nat,HT.sIx_none]
 show (xs.drop 0).take (min k xs.length - 0) = _
 rw [List.drop_zero,Nat.sub_zero]
 by_cases c:k<=xs.length
 ·rw [Nat.min_eq_left c]
 ·rw [Nat.min_eq_right (by omega),List.take_of_length_le (Nat.le_refl _),List.take_of_length_le (by omega)]
theorem ring_at {r:List Str} {j:Nat} (h:j < r.length):(r ++ r.take 1)[j + 1]? = some (r.getD ((j + 1) % r.length) d0):=by
 by_cases c:j + 1 < r.length
 ·rw [List.getElem?_append_left c,Nat.mod_eq_of_lt c]
  exact getD_at c
 ·have e:j + 1 = r.length:=by omega
  rw [e,List.getElem?_append_right (Nat.le_refl _),Nat.sub_self,Nat.mod_self]
  cases r with
  | nil=>cases h
  | cons x t=>rfl
theorem lc_ring8 {K:PySem.W.Frag} {sq:Hp->Addr->List V->Prop} {a C:Addr} {r:List Str} {H:Hp} {Q:St->Hp->Prop} (ea:H a = some (.lst (r.map V.str))) (hk:∀ H1,KeepAt a H H1->sq H1 a (r.map V.str)) (hl:r.length<=100) (hC:H C = none)
  (h:∀ σ H2 (ps:List PA2),Same H H2->SL H2 C ps->(ps.map fun q=>q.2) = prs r (fun j=>(j + 1) % r.length) r.length->Q σ H2) (v0 v1:Option V) :
  Loop (gTup K 2 (gCons (gName 0) (gCons (gName 1) gNil))) tTrue (emLst C (tTup (tCons (tVar 1) (tCons (tOp (rIxL K) (tOp rCat (tVar 2) (tSl (rSlL K) (tVar 2) tNoPart (tPart (tC (.int 1))))) (tOp (rI0 fun i j=>V.int (i + j)) (tVar 0) (tC (.int 1)))) tNil)))) (Ite2 sq a) [v0,v1,some (.ref a)] (upd H C (.lst [])) Q:=by
 refine loop_J (n:=r.length) (fun i σ H3=>(∃ v0 v1,σ = [v0,v1,some (.ref a)])/\Same H H3/\∃ ps,SL H3 C ps/\(ps.map fun q=>q.2) = prs r (fun j=>(j + 1) % r.length) i)
  ⟨⟨_,_,rfl⟩,Same.new hC,[],⟨upd_same,fun q hq=>absurd hq List.not_mem_nil⟩,rfl⟩ ?_ ?_ ?_ ?_
 ·rintro i σ H1 hi ⟨_,s1,_⟩
  exact ⟨_,_,hk _ (s1.at a),by rw [List.getElem?_map,List.getElem?_eq_getElem hi]; rfl⟩
 ·rintro σ H1 ⟨_,s1,_⟩
  exact ⟨_,hk _ (s1.at a),by rw [List.length_map]⟩
 ·rintro i σ H1 x H' N hi ⟨⟨v0,v1,rfl⟩,s1,ps,S1,e1⟩ ⟨t,x,rfl,ht,rfl,hx⟩ hN
  have hx:=hx _ (hk _ (s1.at a))
  have hi':r[i]? = some r[i]:=List.getElem?_eq_getElem hi
  rw [List.getElem?_map,hi'] at hx
  cases hx
  have egi:r[i] = r.getD i d0:=by
   have:=getD_at hi
   rw [hi'] at this
   exact Option.some.inj this
  have lp:ps.length = i:=by
   have:=congrArg List.length e1
   rwa [List.length_map,prs_len] at this
  refine ⟨t,ex1 rfl ⟨SqT.of upd_same,rfl,_,ex1 rfl (ex2_3 rfl rfl ?_)⟩⟩
  have u1:=Same.new (o:=.tup [.int (i:Int),.str r[i]]) ht
  have s2:=s1.trans u1
  have S2:=S1.same u1
  have a2:=s2 _ _ ea
  dsimp only [tTrue]
  rw [if_pos rfl]
  generalize upd H1 t (.tup [.int (i:Int),.str r[i]]) = H2 at s2 S2 a2 ⊢
  refine ex1 rfl (ex1 rfl (ex1 rfl (ex1 rfl ⟨a,_,rfl,SqL.of a2,fun t1 ht1=>?_⟩)))
  rw [show (some 1:Option Int) = some ((1:Nat):Int) from rfl,cut_take]
  have u3:=Same.new (o:=.lst ((r.map V.str).take 1)) ht1
  refine ⟨a,t1,_,_,rfl,rfl,u3 _ _ a2,upd_same,by rw [List.length_take,List.length_map,sizeLine_eq]; omega,fun t2 ht2=>?_⟩
  have u4:=Same.new (o:=.lst (r.map V.str ++ (r.map V.str).take 1)) ht2
  have eq4:r.map V.str ++ (r.map V.str).take 1 = (r ++ r.take 1).map V.str:=by rw [List.map_append,List.map_take]
  have at4:atI (r.map V.str ++ (r.map V.str).take 1) ((i:Int) + 1) = some (.str (r.getD ((i + 1) % r.length) d0)):=by
   rw [eq4]
   exact atI_nat (j:=i + 1) (by rw [List.getElem?_map,ring_at hi]; rfl)
  refine ex1 rfl (ex2_3 rfl rfl ⟨t2,_,ex2_3 rfl rfl ⟨SqL.of upd_same,at4,by show 2<=sizeLine; decide,fun t5 ht5=>?_⟩⟩)
  have S4:=(S2.same u3).same u4
  have s4:=(s2.trans u3).trans u4
  have nC:C ≠ t5:=ne_of_none S4.1 ht5
  rw [egi]
  refine ⟨_,(upd_ne nC).trans S4.1,by rw [refs_len,sizeLine_eq]; omega,hN _ _ ⟨⟨_,_,rfl⟩,(s4.trans (Same.new ht5)).upd hC,_,S4.app ht5,?_⟩⟩
  rw [List.map_append,e1,prs_succ]; rfl
 ·rintro σ H3 ⟨_,s3,ps,S3,e3⟩
  exact h σ H3 ps s3 S3 e3
theorem lc_dedup {K:PySem.W.Frag} {sq:Hp->Addr->List V->Prop} {a C:Addr} {ps:List PA2} {H:Hp} {Q:St->Hp->Prop} (ea:SL H a ps) (hk:∀ H1,KeepAt a H H1->sq H1 a (refs ps)) (ok:∀ q ∈ ps,PySem.PyData.strOk q.2.1 = true/\PySem.PyData.strOk q.2.2 = true) (hl:ps.length<=200) (hC:H C = none)
  (h:∀ σ H2 (rs:List PA2),Same H H2->SL H2 C rs->(rs.map fun q=>q.2).Nodup->(∀ k,k ∈ (rs.map fun q=>q.2) ↔ k ∈ ps.map fun q=>q.2)->rs.length<=ps.length->Q σ H2) (v0 v1:Option V) :
  Loop (gTup K 2 (gCons (gName 0) (gCons (gName 1) gNil))) (tTest (tOp (rInD K true) (tVar 1) (tSl (rSlL K) (tVar 2) tNoPart (tPart (tVar 0))))) (emLst C (tVar 1)) (Ite2 sq a) [v0,v1,some (.ref a)] (upd H C (.lst [])) Q:=by
 refine loop_J (n:=ps.length) (fun i σ H3=>(∃ v0 v1,σ = [v0,v1,some (.ref a)])/\Same H H3/\∃ rs:List PA2,SL H3 C rs/\(rs.map fun q=>q.2).Nodup/\(∀ k,k ∈ (rs.map fun q=>q.2) ↔ k ∈ (ps.take i).map fun q=>q.2)/\rs.length<=i)
  ⟨⟨_,_,rfl⟩,Same.new hC,[],⟨upd_same,fun q hq=>absurd hq List.not_mem_nil⟩,List.nodup_nil,fun k=>(by rw [List.take_zero]),Nat.le_refl _⟩ ?_ ?_ ?_ ?_
 ·rintro i σ H1 hi ⟨_,s1,_⟩
  exact ⟨_,_,hk _ (s1.at a),by unfold refs; rw [List.getElem?_map,List.getElem?_eq_getElem hi]; rfl⟩
 ·rintro σ H1 ⟨_,s1,_⟩
  exact ⟨_,hk _ (s1.at a),refs_len ps⟩
 ·rintro i σ H1 x H' N hi ⟨⟨v0,v1,rfl⟩,s1,rs,S1,n1,m1,l1⟩ ⟨t,x,rfl,ht,rfl,hx⟩ hN
  have hx:=hx _ (hk _ (s1.at a))
  have hi':ps[i]? = some ps[i]:=List.getElem?_eq_getElem hi
  unfold refs at hx
  rw [List.getElem?_map,hi'] at hx
  cases hx
  have mi:ps[i] ∈ ps:=List.getElem_mem hi
  refine ⟨t,ex1 rfl ⟨SqT.of upd_same,rfl,_,ex1 rfl (ex2_3 rfl rfl ?_)⟩⟩
  have u1:=Same.new (o:=.tup [.int (i:Int),.ref ps[i].1]) ht
  have s2:=s1.trans u1
  have S2:=S1.same u1
  have A2:=ea.same s2
  generalize upd H1 t (.tup [.int (i:Int),.ref ps[i].1]) = H2 at s2 S2 A2 ⊢
  refine ex1 rfl (ex1 rfl (ex1 rfl (ex1 rfl ⟨a,_,rfl,SqL.of A2.1,fun t1 ht1=>?_⟩)))
  rw [cut_take]
  have et:(refs ps).take i = refs (ps.take i):=by unfold refs; rw [List.map_take]
  rw [et]
  have u3:=Same.new (o:=.lst (refs (ps.take i))) ht1
  have S3:=S2.same u3
  have A3:=A2.same u3
  have s3:=s2.trans u3
  have e3:(upd H2 t1 (.lst (refs (ps.take i)))) t1 = some (.lst (refs (ps.take i))):=upd_same
  generalize upd H2 t1 (.lst (refs (ps.take i))) = H3 at S3 A3 s3 e3 ⊢
  refine notIn_pair (k:=ps[i].2) (A3.2 _ mi) e3 (fun q hq=>A3.2 q (List.mem_of_mem_take hq)) (ok _ mi) (fun q hq=>ok q (List.mem_of_mem_take hq)) (ex1 rfl (ite2 (fun z=>?_) (fun z=>?_)))
  ·have z':ps[i].2 ∉ (ps.take i).map fun q=>q.2:=by simpa using z
   refine ex1 rfl ⟨_,S3.1,by rw [refs_len,sizeLine_eq]; omega,hN _ _ ⟨⟨_,_,rfl⟩,s3.upd hC,rs ++ [ps[i]],?_,?_,fun k=>?_,by rw [List.length_append]; exact Nat.succ_le_succ l1⟩⟩
   ·refine ⟨by unfold refs; rw [upd_same,List.map_append]; rfl,fun q hq=>?_⟩
    have e:PairIn H3 q:=(List.mem_append.mp hq).elim (S3.2 q) fun z=>List.mem_singleton.mp z ▸ A3.2 _ mi
    exact (upd_ne (ne_of e S3.1 (by intro z; cases z))).trans e
   ·rw [List.map_append]
    refine List.nodup_append.mpr ⟨n1,List.nodup_cons.mpr ⟨List.not_mem_nil,List.nodup_nil⟩,fun k hk k' hk' e=>?_⟩
    cases List.mem_singleton.mp hk'
    rw [e] at hk
    exact z' ((m1 _).mp hk)
   ·rw [List.map_append,take_succ hi',List.map_append,List.mem_append,List.mem_append,m1 k]
  ·have z':ps[i].2 ∈ (ps.take i).map fun q=>q.2:=by simpa using z
   refine hN _ _ ⟨⟨_,_,rfl⟩,s3,rs,S3,n1,fun k=>?_,Nat.le_succ_of_le l1⟩
   rw [take_succ hi',List.map_append,List.mem_append,m1 k]
   exact ⟨.inl,fun h=>h.elim id fun e=>by cases List.mem_singleton.mp e; exact z'⟩
 ·rintro σ H3 ⟨_,s3,rs,S3,n3,m3,l3⟩
  rw [List.take_length] at m3
  exact h σ H3 rs s3 S3 n3 m3 l3
end Sw
namespace Sw
open PySem L2
noncomputable def Up (R:List (List Str)) (k:Str × Str):Prop:=∃ (i j:Nat) (r r':List Str),R[i]? = some r/\R[j]? = some r'/\k.1 ∈ r/\k.2 ∈ r'/\i<=j
noncomputable def RingIn (ks:List (Str × Str)) (r:List Str):Prop:=1 < r.length->∀ (j:Nat) (x y:Str),r[j]? = some x->r[(j + 1) % r.length]? = some y->(x,y) ∈ ks
structure Drawn (R:List (List Str)) (ks:List (Str × Str)):Prop where
 nm:NamesOk R.flatten
 l30:R.flatten.length<=30
 ne:∀ r ∈ R,r ≠ []
 le:R.length<=6
 pos:R ≠ []
 nd:ks.Nodup
 len:ks.length<=100
 ring:∀ r ∈ R,RingIn ks r
 up:∀ k ∈ ks,Up R k
theorem prs_in {ks:List (Str × Str)} {r:List Str} (h:∀ k ∈ prs r (fun j=>(j + 1) % r.length) r.length,k ∈ ks):RingIn ks r:=fun hl j x y hx hy=>h _ ((mem_prs (Nat.le_refl _) (fun j hj=>Nat.mod_lt _ (by omega))).mpr ⟨j,(List.getElem?_eq_some_iff.mp hx).1,hx,hy⟩)
theorem RingIn.mono {ks ks':List (Str × Str)} {r:List Str} (h:RingIn ks r) (s:∀ k ∈ ks,k ∈ ks'):RingIn ks' r:=fun hl j x y hx hy=>s _ (h hl j x y hx hy)
theorem prs_up {R:List (List Str)} {i:Nat} {r:List Str} (hr:R[i]? = some r):∀ k ∈ prs r (fun j=>(j + 1) % r.length) r.length,Up R k:=fun k hk=>by
 obtain ⟨x,y⟩:=k
 have hp:0 < r.length:=by
  cases r with
  | nil=>exact absurd hk (by unfold prs; simp)
  | cons _ _=>exact Nat.succ_pos _
 obtain ⟨j,_,h1,h2⟩:=(mem_prs (Nat.le_refl _) (fun j hj=>Nat.mod_lt _ hp)).mp hk
 exact ⟨i,i,r,r,hr,hr,List.mem_of_getElem? h1,List.mem_of_getElem? h2,Nat.le_refl _⟩
structure S8 (H0 H1:Hp) (p f al s:Addr) (rs:List (Addr × List Str)) (bs:List Bool) (c:Int) (i m:Nat) (ps:List PA2):Prop where
 sm:Sm [p] H0 H1
 F:LLx H1 f rs
 ea:H1 al = some (.lst (bs.map V.bl))
 lf:LeftAt H1 p c
 S:SL H1 s ps
 len:ps.length<=m
 ring:∀ j,j < i->∀ r,(rs.map fun q=>q.2)[j]? = some r->RingIn (ps.map fun q=>q.2) r
 up:∀ q ∈ ps,Up (rs.map fun q=>q.2) q.2
section
variable {H0 H1 H2:Hp} {p f al s:Addr} {rs:List (Addr × List Str)} {bs:List Bool} {c c':Int} {i m:Nat} {ps:List PA2}
theorem S8.same (h:S8 H0 H1 p f al s rs bs c i m ps) (k:Same H1 H2):S8 H0 H2 p f al s rs bs c i m ps:=⟨h.sm.trans k.sm,h.F.same k,k _ _ h.ea,h.lf.same k,h.S.same k,h.len,h.ring,h.up⟩
theorem S8.sms (h:S8 H0 H1 p f al s rs bs c i m ps) (na:al ≠ p) (k:Sm [p] H1 H2) (L:LeftAt H2 p c'):S8 H0 H2 p f al s rs bs c' i m ps:=⟨h.sm.trans k,h.F.sm h.lf k,Sm1 k h.ea na,L,h.S.sm h.lf k,h.len,h.ring,h.up⟩
structure A8 (H0:Hp) (p f al s:Addr) (rs:List (Addr × List Str)):Prop where
 h0:H0 s = none
 np:p ≠ s
 nf:f ≠ s
 na:al ≠ s
 nr:∀ q ∈ rs,q.1 ≠ s
 ap:al ≠ p
theorem S8.upd (h:S8 H0 H1 p f al s rs bs c i m ps) (A:A8 H0 p f al s rs) {m':Nat} {xs:List V} {ps':List PA2} (S':SL (L2.upd H1 s (.lst xs)) s ps') (len:ps'.length<=m') (sub:∀ q ∈ ps,q ∈ ps') (up:∀ q ∈ ps',Up (rs.map fun q=>q.2) q.2):S8 H0 (L2.upd H1 s (.lst xs)) p f al s rs bs c i m' ps' :=
 ⟨h.sm.updN A.h0,h.F.but A.nf.symm A.nr,(upd_ne A.na).trans h.ea,h.lf.upd A.np,S',len,fun j hj r hr=>(h.ring j hj r hr).mono fun k hk=>by obtain ⟨q,hq,rfl⟩:=List.mem_map.mp hk; exact List.mem_map.mpr ⟨q,sub q hq,rfl⟩,up⟩
theorem S8.app (h:S8 H0 H1 p f al s rs bs c i m ps) (A:A8 H0 p f al s rs) {t:Addr} {x y:Str} (ht:H1 t = none) (u:Up (rs.map fun q=>q.2) (x,y)):S8 H0 (L2.upd (L2.upd H1 t (.tup [.str x,.str y])) s (.lst (refs ps ++ [.ref t]))) p f al s rs bs c i (m + 1) (ps ++ [(t,x,y)]) :=
 (h.same (Same.new ht)).upd A (h.S.app ht) (by rw [List.length_append]; exact Nat.succ_le_succ h.len) (fun q hq=>List.mem_append_left _ hq) fun q hq=>(List.mem_append.mp hq).elim (h.up q) fun z=>by cases List.mem_singleton.mp z; exact u
end
theorem at_row {r:List Str} {d:Nat} (h:(d:Int) < (r.length:Int)):∃ x,x ∈ r/\atI (r.map V.str) (d:Int) = some (.str x):=by
 have h:d < r.length:=by omega
 exact ⟨r[d],List.getElem_mem h,atI_nat (by rw [List.getElem?_map,List.getElem?_eq_getElem h]; rfl)⟩
section
variable {P:Program} {w:World} {K:PySem.W.Frag} {mg:Str->Option Value} {base:Heap}
noncomputable def sp_drawn:Sp:=fun vs H Q _=>∃ (p:Addr) (c:Int),vs = [.ref p]/\LeftAt H p c/\c<=700000 /\
 ∀ t rl sl (rs:List (Addr × List Str)) (ps:List PA2) c' H',Sm [p] H H'->H' t = some (.tup [.ref rl,.ref sl])->LLx H' rl rs->SL H' sl ps->Drawn (rs.map fun q=>q.2) (ps.map fun q=>q.2)->LeftAt H' p c'->c'<=c + 500->Q (.ref t) H'
theorem sc_law_drawn:FnScope ["_law_left_here", "_law_some", "_law_rows", "_law_k", "_law_alone", "_law_strikes", "_law_row", "_law_turn", "_law_before"] ["_law_left_here"] (defScope s_law_drawn):=⟨rfl,rfl,rfl,by decide +kernel,rfl,by decide +kernel,by decide +kernel⟩
set_option maxHeartbeats 8000000 in
theorem ok_law_drawn (T:Tx K mg):FnOk P w K mg base CX0 3 T.law_drawn.f T.law_drawn.fd ["_law_left_here"] sp_drawn:=by
 have G_law_pick:FnOk P w K mg base CX0 2 T.law_pick.f T.law_pick.fd ["_law_left_here", "_law_many"] sp_pick:=ok_law_pick T
 have sc:=sc_law_drawn
 refine T.law_drawn.F.ok sc_law_drawn (fun vs H Q E h=>?_) (fun cdv A outer s H vs Q E hr h=>?_)
 ·obtain ⟨p,c,rfl,_⟩:=h
  rfl
 ·obtain ⟨p,c,rfl,hL,c1,q⟩:=h
  refine ⟨_,(pss_cons (ps_set (i:=1) sc.nd rfl (by first | exact Or.inl rfl | exact Or.inr rfl) (peBM K PySem.F.plainAttrs_str PySem.F.slot_str_split PySem.F.type_str_split mt_split pe_str (pa_cons pe_str pa_nil)))
   (pss_cons (ps_set (i:=1) sc.nd rfl (by first | exact Or.inl rfl | exact Or.inr rfl) (pe_op op_cat (pv 1) (peBM K PySem.F.plainAttrs_str PySem.F.slot_str_split PySem.F.type_str_split mt_split pe_str (pa_cons pe_str pa_nil))))
   (pss_cons (ps_set (i:=2) sc.nd rfl (by first | exact Or.inl rfl | exact Or.inr rfl) (pe_lst pa_nil))
   (pss_cons (ps_for PassesOwn.never rfl (piR1 T.b_range (pa_cons (pe_op op_add pe_int (pe_fn T.law_pick G_law_pick (hr.mono (by decide)) (pa_cons (pv 0) (pa_cons pe_int pa_nil)))) pa_nil)) (pg_name (i:=3) sc.nd rfl (by first | exact Or.inl rfl | exact Or.inr rfl))
   (pss_one (ps_expr (peBM K PySem.F.plainAttrs_list PySem.F.slot_list_append PySem.F.type_list_append mt_append (pv 2) (pa_cons (pe_lc (N':=["_law_turn", "_law_some", "_law_left_here"]) (cap:=[none,some 1,some 0]) (cl:=[("_law_some",_),("_law_left_here",_)]) (cs_mk ⟨⟨rfl,rfl,rfl,rfl⟩,⟨⟨rfl,rfl,rfl,rfl⟩,trivial⟩⟩ ⟨rfl,⟨rfl,trivial⟩⟩) rfl (piR1 T.b_range (pa_cons (pe_op op_add pe_int (pe_fn T.law_pick G_law_pick (hr.mono (by decide)) (pa_cons (pv 0) (pa_cons pe_int pa_nil)))) pa_nil)) (fun _ _ _ _=>by exact ⟨(pgC 0),pts_nil,(peBM K PySem.F.plainAttrs_list PySem.F.slot_list_pop PySem.F.type_list_pop mt_popAt (pv 1) (pa_cons (pe_fn T.law_pick G_law_pick (hr.mono (by decide)) (pa_cons (pv 2) (pa_cons (pe_bf (cl_len K) T.b_len bt_len (pa_cons (pv 1) pa_nil)) pa_nil))) pa_nil))⟩)) pa_nil)))))
   (pss_cons (ps_setLC (i:=4) (N':=["_law_row", "_law_left_here"]) (cap:=[none,some 0]) (cl:=[("_law_left_here",_)]) sc.nd rfl (by first | exact Or.inl rfl | exact Or.inr rfl) (cs_mk ⟨⟨rfl,rfl,rfl,rfl⟩,trivial⟩ ⟨rfl,trivial⟩) rfl (piL K (pv 2)) (fun _ _ _ _=>by exact ⟨(pgC 0),pts_nil,(pe_cmpR op_eq (pe_fn T.law_pick G_law_pick (hr.mono (by decide)) (pa_cons (pv 1) (pa_cons pe_int pa_nil))) pe_int (nomark _))⟩))
   (pss_cons (ps_set (i:=5) sc.nd rfl (by first | exact Or.inl rfl | exact Or.inr rfl) (pe_lst pa_nil))
   (pss_cons (ps_for PassesOwn.never rfl (piE2 K T.b_enumerate (pa_cons (pv 2) pa_nil)) (pgT K (n:=2) (pgs_cons (pg_name (i:=3) sc.nd rfl (by first | exact Or.inl rfl | exact Or.inr rfl)) (pgs_cons (pg_name (i:=6) sc.nd rfl (by first | exact Or.inl rfl | exact Or.inr rfl)) pgs_nil)))
   (pss_cons (ps_if (PW.pt (pw_or (pt_not (pt_val (pe_ix (ixL K) (pv 4) (pv 3) (fun _ _=>rfl)))) (pw_or1 (pt_cmpR op_gt (pe_bf (cl_len K) T.b_len bt_len (pa_cons (pv 6) pa_nil)) pe_int (nomark _))))) (pss_one (ps_expr (peBM K PySem.F.plainAttrs_list PySem.F.slot_list_extend PySem.F.type_list_extend mt_extend (pv 5) (pa_cons (pe_lc (N':=["_law_at", "_law_name", "_law_row"]) (cap:=[none,none,some 6]) (cl:=[("_law_row",_)]) (cs_mk ⟨⟨rfl,rfl,rfl,rfl⟩,trivial⟩ ⟨rfl,trivial⟩) rfl (piE2 K T.b_enumerate (pa_cons (pv 6) pa_nil)) (fun _ _ _ _=>by exact ⟨(pgT K (n:=2) (pgs_cons (pgC 0) (pgs_cons (pgC 1) pgs_nil))),pts_nil,(pe_tup (pa_cons (pv 1) (pa_cons (pe_ix (ixL K) (pe_op op_cat (pv 2) (pe_slice (slL K) (pv 2) po_none (po_some pe_int))) (pe_op op_add (pv 0) pe_int) (fun _ _=>rfl)) pa_nil)))⟩)) pa_nil)))) pss_nil)
   (pss_cons (ps_for PassesOwn.never rfl (piR1 T.b_range (pa_cons (pe_fn T.law_pick G_law_pick (hr.mono (by decide)) (pa_cons (pv 0) (pa_cons pe_int pa_nil))) pa_nil)) (pg_name (i:=7) sc.nd rfl (by first | exact Or.inl rfl | exact Or.inr rfl))
   (pss_one (ps_expr (peBM K PySem.F.plainAttrs_list PySem.F.slot_list_append PySem.F.type_list_append mt_append (pv 5) (pa_cons (pe_tup (pa_cons (pe_ix (ixL K) (pv 6) (pe_fn T.law_pick G_law_pick (hr.mono (by decide)) (pa_cons (pv 0) (pa_cons (pe_bf (cl_len K) T.b_len bt_len (pa_cons (pv 6) pa_nil)) pa_nil))) (fun _ _=>rfl)) (pa_cons (pe_ix (ixL K) (pv 6) (pe_fn T.law_pick G_law_pick (hr.mono (by decide)) (pa_cons (pv 0) (pa_cons (pe_bf (cl_len K) T.b_len bt_len (pa_cons (pv 6) pa_nil)) pa_nil))) (fun _ _=>rfl)) pa_nil))) pa_nil)))))
   (pss_one (ps_for PassesOwn.never rfl (piR1 T.b_range (pa_cons (pe_op op_mul (pe_fn T.law_pick G_law_pick (hr.mono (by decide)) (pa_cons (pv 0) (pa_cons pe_int pa_nil))) (pe_bt call_int1 T.b_int bt_int (pa_cons (pe_cmpR op_gt (pv 3) pe_int (nomark _)) pa_nil))) pa_nil)) (pg_name (i:=7) sc.nd rfl (by first | exact Or.inl rfl | exact Or.inr rfl))
   (pss_cons (ps_set (i:=8) sc.nd rfl (by first | exact Or.inl rfl | exact Or.inr rfl) (pe_ix (ixL K) (pv 2) (pe_fn T.law_pick G_law_pick (hr.mono (by decide)) (pa_cons (pv 0) (pa_cons (pv 3) pa_nil))) (fun _ _=>rfl)))
   (pss_one (ps_expr (peBM K PySem.F.plainAttrs_list PySem.F.slot_list_append PySem.F.type_list_append mt_append (pv 5) (pa_cons (pe_tup (pa_cons (pe_ix (ixL K) (pv 8) (pe_fn T.law_pick G_law_pick (hr.mono (by decide)) (pa_cons (pv 0) (pa_cons (pe_bf (cl_len K) T.b_len bt_len (pa_cons (pv 8) pa_nil)) pa_nil))) (fun _ _=>rfl)) (pa_cons (pe_ix (ixL K) (pv 6) (pe_fn T.law_pick G_law_pick (hr.mono (by decide)) (pa_cons (pv 0) (pa_cons (pe_bf (cl_len K) T.b_len bt_len (pa_cons (pv 6) pa_nil)) pa_nil))) (fun _ _=>rfl)) pa_nil))) pa_nil))))))))))
   (pss_one (ps_ret (pe_tup (pa_cons (pv 2) (pa_cons (pe_lc (N':=["_law_at", "_law_pair", "_law_strikes"]) (cap:=[none,none,some 5]) (cl:=[("_law_strikes",_)]) (cs_mk ⟨⟨rfl,rfl,rfl,rfl⟩,trivial⟩ ⟨rfl,trivial⟩) rfl (piE2 K T.b_enumerate (pa_cons (pv 5) pa_nil)) (fun _ _ _ _=>by exact ⟨(pgT K (n:=2) (pgs_cons (pgC 0) (pgs_cons (pgC 1) pgs_nil))),(pts_one (pt_cmpR (o_notInD K hr.units) (pv 1) (pe_slice (slL K) (pv 2) po_none (po_some (pv 0))) rfl)),(pv 1)⟩)) pa_nil)))))))))))),?_⟩
  refine seq_gen fun N1 hN1=>?_
  refine ⟨rfl,?_⟩
  dsimp only [tCons,tC,tNil]
  refine splitA8 _ _ fun a1 ha1=>?_
  refine hN1 _ _ (seq_gen fun N2 hN2=>?_)
  refine ex1 rfl ⟨rfl,?_⟩
  dsimp only [tCons,tC,tNil]
  refine splitB8 _ _ fun a2 ha2=>?_
  have s2:=Same.new (o:=.lst (poolA.map V.str)) ha1
  have s3:=Same.new (o:=.lst (poolB.map V.str)) ha2
  refine ⟨a1,a2,_,_,rfl,rfl,s3 _ _ upd_same,upd_same,by decide,fun a ha=>?_⟩
  have s4:=(s2.trans s3).trans (Same.new (o:=.lst (poolA.map V.str ++ poolB.map V.str)) ha)
  have e4:(upd (upd (upd H a1 (.lst (poolA.map V.str))) a2 (.lst (poolB.map V.str))) a (.lst (poolA.map V.str ++ poolB.map V.str))) a = some (.lst ((poolA ++ poolB).map V.str)):=by rw [upd_same,List.map_append]
  have ha0:H a = none:=(s2.trans s3).free ha
  show N2 _ (upd (upd (upd H a1 (.lst (poolA.map V.str))) a2 (.lst (poolB.map V.str))) a (.lst (poolA.map V.str ++ poolB.map V.str)))
  generalize upd (upd (upd H a1 (.lst (poolA.map V.str))) a2 (.lst (poolB.map V.str))) a (.lst (poolA.map V.str ++ poolB.map V.str)) = H4 at s4 e4 ⊢
  have L4:=hL.same s4
  clear s2 s3 ha ha1 ha2
  refine hN2 _ _ (seq_gen fun N3 hN3=>?_)
  refine ⟨Nat.zero_le _,fun f hf=>?_⟩
  have s5:=s4.trans (Same.new (o:=.lst []) hf)
  have L5:=hL.same s5
  have f5:(upd H4 f (.lst [])) f = some (.lst []):=upd_same
  have e5:=(Same.new (o:=.lst []) hf) _ _ e4
  have naf:a ≠ f:=ne_of_none e4 hf
  have npa:p ≠ a:=ne_of_none hL.get ha0
  have npf:p ≠ f:=ne_of_none L4.get hf
  have hf0:H f = none:=s4.free hf
  show N3 _ (upd H4 f (.lst []))
  generalize upd H4 f (.lst []) = H5 at s5 L5 f5 e5 ⊢
  clear s4 e4 L4 hf
  refine hN3 _ _ (seq_gen fun N4 hN4=>?_)
  refine ex1 rfl (ex3_6 (a:=p) rfl L5 (by omega) (by decide) (by decide) fun d6 H6 hd6 k6 L6=>?_)
  refine ex2_3 rfl rfl (ex1 (a:=((1 + d6:Nat):Int)) (congrArg (fun z=>[V.int z]) (by omega)) ⟨by omega,by omega,?_⟩)
  rw [Int.toNat_natCast]
  have al:(poolA ++ poolB).length = 30:=rfl
  refine for_rangeG (fun i σ H7=>(∃ v3 v4 v5 v6 v7 v8,σ = [some (.ref p),some (.ref a),some (.ref f),v3,v4,v5,v6,v7,v8])/\Sm [p] H H7/\(∃ c',LeftAt H7 p c'/\c'<=c + 1 + 6 * (i:Int))/\∃ (rest:List Str) (rs:List (Addr × List Str)),H7 a = some (.lst (rest.map V.str))/\LLx H7 f rs/\(∀ r ∈ rs,r.1 ≠ a/\r.2 ≠ []/\r.2.length<=5)/\rs.length = i/\(rest ++ (rs.map fun q=>q.2).flatten).Perm (poolA ++ poolB)) ?_ ?_ ?_
  ·exact ⟨⟨_,_,_,_,_,_,rfl⟩,s5.sm.trans k6,⟨_,L6,by omega⟩,poolA ++ poolB,[],Sm1 k6 e5 npa.symm,⟨Sm1 k6 f5 npf.symm,fun r hr=>absurd hr List.not_mem_nil⟩,fun r hr=>absurd hr List.not_mem_nil,rfl,by rw [List.map_nil,List.flatten_nil,List.append_nil]⟩
  ·rintro i σ H7 hi ⟨⟨v3,v4,v5,v6,v7,v8,rfl⟩,k7,⟨c7,L7,hc7⟩,rest,rs,e7,F7,r7,l7,pm⟩ D1 hD1 _
   rw [Int.zero_add]
   have lfl:(rs.map fun q=>q.2).flatten.length<=5 * rs.length:=by
    have gen:∀ rs:List (Addr × List Str),(∀ r ∈ rs,r.2.length<=5)->(rs.map fun q=>q.2).flatten.length<=5 * rs.length:=fun rs=>by
     induction rs with
     | nil=>exact fun _=>Nat.zero_le _
     | cons x r ih =>
      intro h
      have h1:=h x (List.mem_cons_self ..)
      have h2:=ih fun y hy=>h y (List.mem_cons_of_mem _ hy)
      rw [List.map_cons,List.flatten_cons,List.length_append,List.length_cons]
      omega
    exact gen rs fun r hr=>(r7 r hr).2.2
   have lrest:rest.length + (rs.map fun q=>q.2).flatten.length = 30:=by
    have:=pm.length_eq
    rwa [List.length_append,al] at this
   refine ex1 rfl ⟨.inl ⟨rfl,_,SqL.of F7.1⟩,?_⟩
   refine ex1 rfl (ex3_6 (a:=p) rfl L7 (by omega) (by decide) (by decide) fun d8 H8 hd8 k8 L8=>?_)
   refine ex2_3 rfl rfl (ex1 (a:=((1 + d8:Nat):Int)) (congrArg (fun z=>[V.int z]) (by omega)) ⟨by omega,by omega,fun C hC=>?_⟩)
   rw [Int.toNat_natCast]
   have e8:=Sm1 k8 e7 npa.symm
   have F8:=F7.sm L7 k8
   refine lc_pop e8 L8 (by omega) (by omega) (by omega) hC (fun σ H9 rest' got k9 e9 g9 pm9 lg L9=>?_) _
   have nfa:f ∉ [p,a]:=by simp [npf.symm,naf.symm]
   have F9:LLx H9 f rs:=⟨k9 _ _ F8.1 nfa,fun r hr=>⟨(F8.2 r hr).1,k9 _ _ (F8.2 r hr).2 (by simp [L8.ne (F8.2 r hr).2,(r7 r hr).1])⟩⟩
   have nCf:C ≠ f:=(ne_of_none F8.1 hC).symm
   have nCa:C ≠ a:=(ne_of_none e8 hC).symm
   have k79:Sm [p] H H9:=fun b o e n=>by
    have hb:b ≠ p:=by simpa using n
    have hba:b ≠ a:=ne_of_none e ha0
    exact k9 _ _ (Sm1 k8 (Sm1 k7 e hb) hb) (by simp [hb,hba])
   refine ⟨f,ex2_3 rfl rfl ⟨F9.1,by rw [List.length_map,sizeLine_eq]; omega,hD1 _ _ ⟨⟨_,_,_,_,_,_,rfl⟩,k79.updN hf0,⟨_,L9.upd npf,by rw [Int.natCast_add]; omega⟩,rest',rs ++ [(C,got)],by rw [upd_ne naf]; exact e9,F9.app g9 nCf,fun r hr=>?_,by rw [List.length_append,l7]; rfl,?_⟩⟩⟩
   ·rcases List.mem_append.mp hr with z | z
    ·exact r7 r z
    ·cases List.mem_singleton.mp z
     refine ⟨nCa,fun z=>?_,by show got.length<=5; omega⟩
     have z:got = []:=z
     rw [z] at lg
     have lg:0 = 1 + d8:=lg
     omega
   ·rw [List.map_append,List.flatten_append]
    show (rest' ++ ((rs.map fun q=>q.2).flatten ++ ([got]:List (List Str)).flatten)).Perm _
    rw [List.flatten_cons,List.flatten_nil,List.append_nil]
    refine List.Perm.trans ?_ pm
    refine (List.Perm.append_left rest' List.perm_append_comm).trans ?_
    rw [<-List.append_assoc]
    exact List.Perm.append_right _ pm9
  ·rintro σ H7 ⟨⟨v3,v4,v5,v6,v7,v8,rfl⟩,k7,⟨c7,L7,hc7⟩,rest,rs,e7,F7,r7,l7,pm⟩
   clear e5 f5 L5 s5 k6 L6
   have hfl:NamesOk (rs.map fun q=>q.2).flatten:=names_of (rest:=rest) pm pool_ok.1 pool_ok.2 (by decide)
   have hne:∀ r ∈ rs.map fun q=>q.2,r ≠ []:=fun r hr=>by
    obtain ⟨q,hq,rfl⟩:=List.mem_map.mp hr
    exact (r7 q hq).2.1
   have l5:∀ q ∈ rs,q.2.length<=5:=fun q hq=>(r7 q hq).2.2
   have lfl:(rs.map fun q=>q.2).flatten.length<=30:=by
    have:=pm.length_eq
    rw [List.length_append,al] at this
    omega
   have nfp:f ≠ p:=npf.symm
   clear pm e7 r7
   refine hN4 _ _ (seq_gen fun N5 hN5=>?_)
   refine ex1 rfl ⟨f,rfl,⟨_,SqL.of F7.1⟩,fun al hal=>?_⟩
   refine lc_alone F7.1 nfp L7 (by omega) (by rw [List.length_map]; omega) hal (fun σ H8 bs k8 e8 lb L8=>?_) _
   rw [List.length_map] at lb L8
   have F8:=F7.sm L7 k8
   have k78:=k7.trans k8
   have nap:al ≠ p:=(ne_of_none L7.get hal).symm
   clear k7 k8 L7 hal F7
   refine hN5 _ _ (seq_gen fun N6 hN6=>?_)
   refine ⟨Nat.zero_le _,fun s hs=>?_⟩
   have u9:=Same.new (o:=.lst []) hs
   have nps:p ≠ s:=ne_of_none L8.get hs
   have hs0:H s = none:=by
    cases e:H s with
    | none=>rfl
    | some o =>
     have e2:=Sm1 k78 e nps.symm
     rw [hs] at e2
     cases e2
   have A:A8 H p f al s rs:=⟨hs0,nps,ne_of_none F8.1 hs,ne_of_none e8 hs,fun q hq=>ne_of_none (F8.2 q hq).2 hs,nap⟩
   have S9:S8 H (upd H8 s (.lst [])) p f al s rs bs _ 0 0 []:=⟨k78.trans u9.sm,F8.same u9,u9 _ _ e8,L8.same u9,⟨upd_same,fun q hq=>absurd hq List.not_mem_nil⟩,Nat.le_refl _,fun j hj=>absurd hj (Nat.not_lt_zero _),fun q hq=>absurd hq List.not_mem_nil⟩
   show N6 _ (upd H8 s (.lst []))
   generalize upd H8 s (.lst []) = H9 at S9 ⊢
   clear u9 hs k78 F8 e8 L8
   have hc9:c7 + (rs.length:Int)<=c + 50:=by omega
   generalize hcc:c7 + (rs.length:Int) = c9 at S9 hc9
   refine hN6 _ _ (seq_gen fun N7 hN7=>?_)
   refine ex1 rfl ⟨f,ex1 rfl (enum_sqs (.inl (SqL.of S9.F.1)) (fun o e=>e) fun sq hk=>for_J (n:=rs.length) (fun i σ H1=>(∃ v3 v6 v7 v8,σ = [some (.ref p),some (.ref a),some (.ref f),v3,some (.ref al),some (.ref s),v6,v7,v8])/\∃ c1 ps,S8 H H1 p f al s rs bs c1 i (9 * i) ps/\c1<=c9 + 20 * (i:Int)) ⟨⟨_,_,_,_,rfl⟩,_,[],S9,by omega⟩ ?_ ?_ ?_ ?_)⟩
   ·rintro i σ H1 hi ⟨_,c1,ps,B1,_⟩
    exact ⟨_,_,hk _ (fun o e=>by rw [S9.F.1] at e; rw [B1.F.1]; exact e),by rw [List.getElem?_map,List.getElem?_eq_getElem hi]; rfl⟩
   ·rintro σ H1 ⟨_,c1,ps,B1,_⟩
    exact ⟨_,hk _ (fun o e=>by rw [S9.F.1] at e; rw [B1.F.1]; exact e),by rw [List.length_map]⟩
   ·rintro i σ H1 v H' hi ⟨⟨v3,v6,v7,v8,rfl⟩,c1,ps,B1,hc1⟩ ⟨t,x,rfl,ht,rfl,hx⟩
    have hx:=hx _ (hk _ (fun o e=>by rw [S9.F.1] at e; rw [B1.F.1]; exact e))
    have hi':rs[i]? = some rs[i]:=List.getElem?_eq_getElem hi
    rw [List.getElem?_map,hi'] at hx
    cases hx
    have mi:rs[i] ∈ rs:=List.getElem_mem hi
    have hR:(rs.map fun q=>q.2)[i]? = some rs[i].2:=by rw [List.getElem?_map,hi']; rfl
    refine ⟨t,ex1 rfl ⟨SqT.of upd_same,rfl,_,ex1 rfl (ex2_3 rfl rfl ?_)⟩⟩
    have B2:=B1.same (Same.new (o:=.tup [.int (i:Int),.ref rs[i].1]) ht)
    generalize upd H1 t (.tup [.int (i:Int),.ref rs[i].1]) = H2 at B2 ⊢
    obtain ⟨b,r,eb⟩:∃ b r,rs[i] = (b,r):=⟨_,_,rfl⟩
    rw [eb] at mi hR ⊢
    have hR:(rs.map fun q=>q.2)[i]? = some r:=hR
    have eRow:∀ {HX:Hp} {cX:Int} {jX mX:Nat} {pX:List PA2},S8 H HX p f al s rs bs cX jX mX pX->HX b = some (.lst (r.map V.str)):=fun BX=>(BX.F.2 _ mi).2
    have rpos:0 < r.length:=List.length_pos_iff.mpr (hne r (List.mem_of_getElem? hR))
    have r5:r.length<=5:=l5 _ mi
    have lmr:(r.map V.str).length = r.length:=List.length_map ..
    have dr:∀ d:Nat,(d:Int) < ((r.map V.str).length:Int)->∃ x,x ∈ r/\atI (r.map V.str) (d:Int) = some (.str x):=fun d hd=>at_row (by rw [lmr] at hd; exact hd)
    clear B1 ht S9
    refine seq_gen fun M1 hM1=>?_
    have fin1:∀ (HX:Hp) (pX:List PA2),S8 H HX p f al s rs bs c1 (i + 1) (9 * i + 5) pX->M1 [some (.ref p),some (.ref a),some (.ref f),some (.int (i:Int)),some (.ref al),some (.ref s),some (.ref b),v7,v8] HX:=fun HX pX BX=>by
     refine hM1 _ _ (seq_gen fun M2 hM2=>?_)
     refine ex1 rfl (ex3_6 (a:=p) rfl BX.lf (by omega) (by decide) (by decide) fun d3 H3 hd3 k3 L3=>ex1 rfl ⟨by omega,by omega,?_⟩)
     have B3:=BX.sms A.ap k3 L3
     rw [Int.toNat_natCast]
     refine for_rangeG (fun j σ H4=>(∃ v7,σ = [some (.ref p),some (.ref a),some (.ref f),some (.int (i:Int)),some (.ref al),some (.ref s),some (.ref b),v7,v8])/\∃ c4 p4,S8 H H4 p f al s rs bs c4 (i + 1) (9 * i + 5 + j) p4/\c4<=c1 + 1 + 2 * (j:Int)) ?_ ?_ ?_
     ·exact ⟨⟨_,rfl⟩,_,pX,B3,by omega⟩
     ·rintro j σ H4 hj ⟨⟨v7,rfl⟩,c4,p4,B4,hc4⟩ D2 hD2 _
      refine ex1 rfl ⟨.inl ⟨rfl,_,SqL.of B4.S.1⟩,?_⟩
      refine ex1 rfl (ex1 rfl (ex1 rfl (ex2_3 (a:=b) rfl (.inl (SqL.of (eRow B4))) (ex3_6 (a:=p) rfl B4.lf (by omega) (by rw [lmr]; omega) (by rw [lmr]; omega) fun d5 H5 hd5 k5 L5=>?_))))
      obtain ⟨x5,m5,a5⟩:=dr d5 hd5
      have B5:=B4.sms A.ap k5 L5
      refine ⟨b,_,ex2_3 rfl rfl ⟨SqL.of (eRow B5),a5,?_⟩⟩
      refine ex1 rfl (ex1 rfl (ex1 rfl (ex2_3 (a:=b) rfl (.inl (SqL.of (eRow B5))) (ex3_6 (a:=p) rfl B5.lf (by omega) (by rw [lmr]; omega) (by rw [lmr]; omega) fun d6 H6 hd6 k6 L6=>?_))))
      obtain ⟨x6,m6,a6⟩:=dr d6 hd6
      have B6:=B5.sms A.ap k6 L6
      refine ⟨b,_,ex2_3 rfl rfl ⟨SqL.of (eRow B6),a6,by show 2<=sizeLine; decide,fun t7 ht7=>?_⟩⟩
      have n7:s ≠ t7:=ne_of_none B6.S.1 ht7
      refine ⟨s,ex2_3 rfl rfl ⟨(upd_ne n7).trans B6.S.1,by rw [refs_len,sizeLine_eq]; have:=B6.len; omega,hD2 _ _ ⟨⟨_,rfl⟩,_,_,B6.app A ht7 ⟨i,i,r,r,hR,hR,m5,m6,Nat.le_refl _⟩,by rw [Int.natCast_add]; omega⟩⟩⟩
     ·rintro σ H4 ⟨⟨v7,rfl⟩,c4,p4,B4,hc4⟩
      refine hM2 _ _ ?_
      have hz:∀ (d:Nat),d < 3->∃ z:Nat,(d:Int) * (if decide ((0:Int) < (i:Int)) = true then 1 else 0) = (z:Int)/\z<=2/\(0 < z->0 < i):=fun d hd=>by
       by_cases h1:(0:Int) < (i:Int)
       ·rw [decide_eq_true h1,if_pos rfl]; exact ⟨d,by omega,by omega,fun _=>by omega⟩
       ·rw [decide_eq_false h1,if_neg (by decide)]; exact ⟨0,by omega,by omega,fun z=>absurd z (by decide)⟩
      refine ex1 rfl (ex3_6 (a:=p) rfl B4.lf (by omega) (by decide) (by decide) fun d5 H5 hd5 k5 L5=>?_)
      have B5:=B4.sms A.ap k5 L5
      obtain ⟨z,ez,hz,zp⟩:=hz d5 (by omega)
      refine ex1 rfl (ex2_3 rfl rfl (.inr ⟨_,rfl,ex2_3 rfl rfl ⟨.inl ⟨by omega,by omega⟩,ex1 (a:=(z:Int)) (congrArg (fun t=>[V.int t]) ez) ⟨by omega,by omega,?_⟩⟩⟩))
      rw [Int.toNat_natCast]
      refine for_rangeG (fun j σ H6=>(∃ v7 v8,σ = [some (.ref p),some (.ref a),some (.ref f),some (.int (i:Int)),some (.ref al),some (.ref s),some (.ref b),v7,v8])/\∃ c6 p6,S8 H H6 p f al s rs bs c6 (i + 1) (9 * i + 7 + j) p6/\c6<=c1 + 6 + 3 * (j:Int)) ?_ ?_ ?_
      ·refine ⟨⟨_,_,rfl⟩,_,p4,⟨B5.sm,B5.F,B5.ea,B5.lf,B5.S,by have:=B5.len; omega,B5.ring,B5.up⟩,by omega⟩
      ·rintro j σ H6 hj ⟨⟨v7,v8,rfl⟩,c6,p6,B6,hc6⟩ D2 hD2 _
       have ip:0 < i:=zp (by omega)
       refine g_seq fun O1 hO1=>?_
       refine ex1 rfl (ex1 rfl (ex1 rfl (ex3_6 (a:=p) rfl B6.lf (by omega) (by omega) (by omega) fun d7 H7 hd7 k7 L7=>?_)))
       have B7:=B6.sms A.ap k7 L7
       have h7:rs[d7]? = some rs[d7]:=List.getElem?_eq_getElem (by omega)
       obtain ⟨b0,r0,eb0⟩:∃ b r,rs[d7] = (b,r):=⟨_,_,rfl⟩
       rw [eb0] at h7
       have m0:(b0,r0) ∈ rs:=List.mem_of_getElem? h7
       have hR0:(rs.map fun q=>q.2)[d7]? = some r0:=by rw [List.getElem?_map,h7]; rfl
       have r0pos:0 < r0.length:=List.length_pos_iff.mpr (hne r0 (List.mem_of_getElem? hR0))
       have r05:r0.length<=5:=l5 _ m0
       have lm0:(r0.map V.str).length = r0.length:=List.length_map ..
       have eRow0:∀ {HX:Hp} {cX:Int} {jX mX:Nat} {pX:List PA2},S8 H HX p f al s rs bs cX jX mX pX->HX b0 = some (.lst (r0.map V.str)):=fun BX=>(BX.F.2 _ m0).2
       refine ⟨f,_,ex2_3 rfl rfl ⟨SqL.of B7.F.1,atI_nat (by rw [List.getElem?_map,h7]; rfl),hO1 _ _ ?_⟩⟩
       refine ex1 rfl ⟨.inl ⟨rfl,_,SqL.of B7.S.1⟩,?_⟩
       refine ex1 rfl (ex1 rfl (ex1 rfl (ex2_3 (a:=b0) rfl (.inl (SqL.of (eRow0 B7))) (ex3_6 (a:=p) rfl B7.lf (by omega) (by rw [lm0]; omega) (by rw [lm0]; omega) fun d8 H8 hd8 k8 L8=>?_))))
       obtain ⟨x8,m8,a8⟩:=at_row (r:=r0) (d:=d8) (by rw [lm0] at hd8; exact hd8)
       have B8:=B7.sms A.ap k8 L8
       refine ⟨b0,_,ex2_3 rfl rfl ⟨SqL.of (eRow0 B8),a8,?_⟩⟩
       refine ex1 rfl (ex1 rfl (ex1 rfl (ex2_3 (a:=b) rfl (.inl (SqL.of (eRow B8))) (ex3_6 (a:=p) rfl B8.lf (by omega) (by rw [lmr]; omega) (by rw [lmr]; omega) fun d9 H9 hd9 k9 L9=>?_))))
       obtain ⟨x9,m9,a9⟩:=dr d9 hd9
       have B9:=B8.sms A.ap k9 L9
       refine ⟨b,_,ex2_3 rfl rfl ⟨SqL.of (eRow B9),a9,by show 2<=sizeLine; decide,fun t7 ht7=>?_⟩⟩
       have n7:s ≠ t7:=ne_of_none B9.S.1 ht7
       refine ⟨s,ex2_3 rfl rfl ⟨(upd_ne n7).trans B9.S.1,by rw [refs_len,sizeLine_eq]; have:=B9.len; omega,hD2 _ _ ⟨⟨_,_,rfl⟩,_,_,B9.app A ht7 ⟨d7,i,r0,r,hR0,hR,m8,m9,by omega⟩,by rw [Int.natCast_add]; omega⟩⟩⟩
      ·rintro σ H6 ⟨⟨v7,v8,rfl⟩,c6,p6,B6,hc6⟩
       exact ⟨⟨_,_,_,_,rfl⟩,c6,p6,⟨B6.sm,B6.F,B6.ea,B6.lf,B6.S,by have:=B6.len; omega,B6.ring,B6.up⟩,by rw [Int.natCast_add]; omega⟩
    have one:∀ (HX:Hp) (mX:Nat) (pX:List PA2),S8 H HX p f al s rs bs c1 i mX pX->mX<=9 * i + 5->RingIn (pX.map fun q=>q.2) r->S8 H HX p f al s rs bs c1 (i + 1) (9 * i + 5) pX:=fun HX mX pX BX hm hr=>⟨BX.sm,BX.F,BX.ea,BX.lf,BX.S,by have:=BX.len; omega,fun j hj r' hr'=>by
     rcases Nat.lt_or_ge j i with z | z
     ·exact BX.ring j z r' hr'
     ·have:j = i:=by omega
      subst this
      rw [hR] at hr'
      cases hr'
      exact hr,BX.up⟩
    refine tt_join (t:=tOr _ _) (fun bb HX=>HX = H2/\(bb = false->r.length<=1)) (fun bb HX hJ=>?_) (fun Q' hQ=>?_)
    rotate_left
    ·have hbi:bs[i]? = some bs[i]:=List.getElem?_eq_getElem (by omega)
     refine ex1 rfl (ex1 rfl ⟨al,_,ex2_3 rfl rfl ⟨SqL.of B2.ea,atI_nat (by rw [List.getElem?_map,hbi]; rfl),bs[i],rfl,?_⟩⟩)
     refine ite2 (fun _=>hQ _ _ ⟨rfl,fun z=>(by cases z)⟩) (fun _=>?_)
     refine ex1 rfl (ex2_3 (a:=b) rfl (.inl (SqL.of (eRow B2))) (ex2_3 rfl rfl (ex1 rfl (hQ _ _ ⟨rfl,fun z=>?_⟩))))
     have:=of_decide_eq_false z
     rw [lmr] at this
     omega
    obtain ⟨rfl,hlen⟩:=hJ
    cases bb with
    | false =>
     exact iteF (fin1 _ _ (one _ _ _ B2 (by omega) fun hl=>absurd (hlen rfl) (by omega)))
    | true =>
     refine iteT ?_
     refine ex1 rfl ⟨.inl ⟨rfl,_,SqL.of B2.S.1⟩,?_⟩
     refine ex1 rfl ⟨b,_,rfl,enum_sqs (.inl (SqL.of (eRow B2))) (fun o e=>e) fun sq2 hk2 C hC=>?_⟩
     refine lc_ring8 (eRow B2) hk2 (by omega) hC (fun σ H3 pr s3 S3 e3=>?_) _ _
     have B3:=B2.same s3
     have lpr:pr.length = r.length:=by
      have:=congrArg List.length e3
      rwa [List.length_map,prs_len] at this
     refine ⟨s,C,_,_,rfl,rfl,B3.S.1,S3.1,by rw [refs_len,refs_len,sizeLine_eq]; have:=B3.len; omega,?_⟩
     refine fin1 _ _ (one _ (9 * i + 5) _ (B3.upd A (m':=9 * i + 5) (B3.S.cat S3) (by rw [List.length_append]; have:=B3.len; omega) (fun q hq=>List.mem_append_left _ hq) fun q hq=>?_) (Nat.le_refl _) (prs_in fun k hk=>?_))
     ·rcases List.mem_append.mp hq with z | z
      ·exact B3.up q z
      ·refine prs_up hR _ ?_
       rw [<-e3]
       exact List.mem_map.mpr ⟨q,z,rfl⟩
     ·rw [<-e3] at hk
      obtain ⟨q,hq,rfl⟩:=List.mem_map.mp hk
      exact List.mem_map.mpr ⟨q,List.mem_append_right _ hq,rfl⟩
   ·rintro σ H1 ⟨⟨v3,v6,v7,v8,rfl⟩,c1,ps,B1,hc1⟩
    refine hN7 _ _ ?_
    have okp:∀ q ∈ ps,PySem.PyData.strOk q.2.1 = true/\PySem.PyData.strOk q.2.2 = true:=fun q hq=>by
     obtain ⟨i,j,r,r',h1,h2,h3,h4,_⟩:=B1.up q hq
     exact ⟨nameB_ok (hfl.1 _ (List.mem_flatten.mpr ⟨r,List.mem_of_getElem? h1,h3⟩)),nameB_ok (hfl.1 _ (List.mem_flatten.mpr ⟨r',List.mem_of_getElem? h2,h4⟩))⟩
    have lps:=B1.len
    refine ex1 rfl (ex1 rfl ⟨s,_,rfl,enum_sqs (.inl (SqL.of B1.S.1)) (fun o e=>e) fun sq2 hk2 C hC=>?_⟩)
    refine lc_dedup B1.S hk2 okp (by omega) hC (fun σ H3 pr s3 S3 n3 m3 l3=>⟨by show 2<=sizeLine; decide,fun t ht=>?_⟩) _ _
    have u4:=Same.new (o:=.tup [.ref f,.ref C]) ht
    have B4:=(B1.same s3).same u4
    refine q t f C rs pr c1 _ B4.sm upd_same B4.F (S3.same u4) ⟨hfl,lfl,hne,by rw [List.length_map]; omega,?_,n3,by rw [List.length_map]; omega,fun r hr=>?_,fun k hk=>?_⟩ B4.lf (by omega)
    ·intro z
     have:=congrArg List.length z
     rw [List.length_map,l7] at this
     have:1 + d6 = 0:=this
     omega
    ·obtain ⟨j,hj⟩:=List.mem_iff_getElem?.mp hr
     have hjl:=(List.getElem?_eq_some_iff.mp hj).1
     rw [List.length_map] at hjl
     exact (B1.ring j hjl r hj).mono fun k hk=>(m3 k).mpr hk
    ·obtain ⟨q,hq,rfl⟩:=List.mem_map.mp ((m3 k).mp hk)
     exact B1.up q hq
end
end Sw
namespace Sw
open PySem L2
structure Rws (R:List (List Str)) (ks:Ks):Prop where
 nd:R.flatten.Nodup
 ne:∀ r ∈ R,r ≠ []
 ring:∀ r ∈ R,RingIn ks r
 up:∀ k ∈ ks,Up R k
theorem Drawn.rws {R:List (List Str)} {ks:Ks} (h:Drawn R ks):Rws R ks:=⟨h.nm.2.1,h.ne,h.ring,h.up⟩
noncomputable def cnd (ks:Ks) (r:List Str):Bool:=decide (1 < r.length) || decide ((r.headD "",r.headD "") ∈ ks)
theorem nodup_flat {R:List (List Str)} (nd:R.flatten.Nodup):(∀ r ∈ R,r.Nodup)/\R.Pairwise (fun a b=>∀ x ∈ a,∀ y ∈ b,x ≠ y):=List.pairwise_flatten.mp nd
section
variable {R:List (List Str)} {ks:Ks}
theorem flat_idx {x:Str} (nd:R.flatten.Nodup) {i j:Nat} {r r':List Str} (hi:R[i]? = some r) (hj:R[j]? = some r') (hx:x ∈ r) (hx':x ∈ r'):i = j:=by
 have dj:=(nodup_flat nd).2
 obtain ⟨h1,e1⟩:=List.getElem?_eq_some_iff.mp hi
 obtain ⟨h2,e2⟩:=List.getElem?_eq_some_iff.mp hj
 rcases Nat.lt_trichotomy i j with c | c | c
 ·have:=List.pairwise_iff_getElem.mp dj i j h1 h2 c
  rw [e1,e2] at this
  exact absurd rfl (this x hx x hx')
 ·exact c
 ·have:=List.pairwise_iff_getElem.mp dj j i h2 h1 c
  rw [e1,e2] at this
  exact absurd rfl (this x hx' x hx)
theorem Rws.later (h:Rws R ks) {i:Nat} {r:List Str} {n x:Str} (hi:R[i]? = some r) (hn:n ∈ r) (c:Rch (sk ks) [n] x):∃ (j:Nat) (r':List Str),R[j]? = some r'/\x ∈ r'/\i<=j:=by
 refine c (fun z=>∃ (j:Nat) (r':List Str),R[j]? = some r'/\z ∈ r'/\i<=j) (fun y hy=>by rw [List.mem_singleton.mp hy]; exact ⟨i,r,hi,hn,Nat.le_refl _⟩) ?_
 rintro y z ⟨j,r1,h1,h2,h3⟩ hz
 obtain ⟨a,b,ra,rb,e1,e2,e3,e4,e5⟩:=h.up _ (mem_sk.mp hz)
 have:=flat_idx h.nd h1 e1 h2 e3
 exact ⟨b,rb,e2,e4,by omega⟩
theorem Rws.within (h:Rws R ks) {r:List Str} (hr:r ∈ R) (hl:1 < r.length):∀ (d i:Nat) (x y:Str),r[i]? = some x->r[(i + d) % r.length]? = some y->Rch (sk ks) [x] y:=fun d=>by
 induction d with
 | zero =>
  intro i x y hx hy
  rw [Nat.add_zero,Nat.mod_eq_of_lt (List.getElem?_eq_some_iff.mp hx).1,hx] at hy
  cases hy
  exact .self
 | succ d ih =>
  intro i x y hx hy
  have hm:(i + d) % r.length < r.length:=Nat.mod_lt _ (by omega)
  have hz:r[(i + d) % r.length]? = some r[(i + d) % r.length]:=List.getElem?_eq_getElem hm
  refine (ih i x _ hx hz).step (mem_sk.mpr (h.ring r hr hl _ _ _ hz ?_))
  rw [Nat.mod_add_mod,Nat.add_assoc]
  exact hy
theorem Rws.both (h:Rws R ks) {r:List Str} (hr:r ∈ R) {x y:Str} (hx:x ∈ r) (hy:y ∈ r):Rch (sk ks) [x] y:=by
 obtain ⟨i,hi⟩:=List.mem_iff_getElem?.mp hx
 obtain ⟨j,hj⟩:=List.mem_iff_getElem?.mp hy
 have h1:=(List.getElem?_eq_some_iff.mp hi).1
 have h2:=(List.getElem?_eq_some_iff.mp hj).1
 by_cases c:1 < r.length
 ·refine h.within hr c (j + r.length - i) i x y hi ?_
  rw [show i + (j + r.length - i) = j + r.length by omega,Nat.add_mod_right,Nat.mod_eq_of_lt h2]
  exact hj
 ·have e:i = j:=by omega
  subst e
  rw [hi] at hj
  cases hj
  exact .self
theorem Rws.rM_iff (h:Rws R ks) {r:List Str} (hr:r ∈ R) {n x:Str} (hn:n ∈ r):rM ks n x ↔ x ∈ r:=by
 obtain ⟨i,hi⟩:=List.mem_iff_getElem?.mp hr
 constructor
 ·rintro ⟨h1,h2⟩
  obtain ⟨j,r',e1,e2,e3⟩:=h.later hi hn h1
  obtain ⟨k,r'',f1,f2,f3⟩:=h.later e1 e2 h2
  have:=flat_idx h.nd hi f1 hn f2
  have e:i = j:=by omega
  subst e
  rw [hi] at e1
  cases e1
  exact e2
 ·exact fun hx=>⟨h.both hr hn hx,h.both hr hx hn⟩
theorem Rws.rO_iff (h:Rws R ks) {r:List Str} (hr:r ∈ R) {n:Str} (hn:n ∈ r):rO ks n ↔ cnd ks r = true:=by
 obtain ⟨i,hi⟩:=List.mem_iff_getElem?.mp hr
 unfold cnd
 rw [Bool.or_eq_true,decide_eq_true_iff,decide_eq_true_iff]
 by_cases c:1 < r.length
 ·refine ⟨fun _=>.inl c,fun _=>?_⟩
  obtain ⟨j,hj⟩:=List.mem_iff_getElem?.mp hn
  have hm:(j + 1) % r.length < r.length:=Nat.mod_lt _ (by omega)
  have hz:r[(j + 1) % r.length]? = some r[(j + 1) % r.length]:=List.getElem?_eq_getElem hm
  have hk:=h.ring r hr c _ _ _ hj hz
  exact (Rch.of (mem_sk.mpr hk)).trans (h.both hr (List.mem_of_getElem? hz) hn)
 ·have e:r = [n]:=by
   cases r with
   | nil=>exact absurd hn List.not_mem_nil
   | cons a t =>
    cases t with
    | nil=>rw [List.mem_singleton.mp hn]
    | cons b t=>exact absurd (Nat.succ_lt_succ (Nat.succ_pos _)) c
  constructor
  ·intro o
   obtain ⟨y,hy,ry⟩:=o.first
   have:y ∈ r:=(h.rM_iff hr hn).mp ⟨.one hy,ry⟩
   rw [e,List.mem_singleton] at this
   rw [this] at hy
   refine .inr ?_
   rw [e]
   exact mem_sk.mp hy
  ·rintro (z | z)
   ·exact absurd z c
   ·rw [e] at z
    exact .of (mem_sk.mpr z)
theorem srt_head {ns:List Str} {S:Str->Prop} {x:Str} (hx:x ∈ ns) (hs:S x):∃ n r,srt ns S = n :: r/\n ∈ ns/\S n:=by
 have:x ∈ srt ns S:=mem_srt.mpr ⟨hx,hs⟩
 cases e:srt ns S with
 | nil=>rw [e] at this; exact absurd this List.not_mem_nil
 | cons n r =>
  have h:=mem_srt.mp (show n ∈ srt ns S by rw [e]; exact List.mem_cons_self ..)
  exact ⟨n,r,rfl,h.1,h.2⟩
noncomputable abbrev srow (ns r:List Str):List Str:=srt ns (fun x=>x ∈ r)
theorem Rws.row (h:Rws R ks) {ns:List Str} (pn:ns.Perm R.flatten) (sn:ns.Pairwise leS) {r:List Str} (hr:r ∈ R) {n:Str} (hn:n ∈ r):srt ns (rM ks n) = srow ns r :=
 srt_congr (pn.nodup_iff.mpr h.nd) sn fun x _=>h.rM_iff hr hn
theorem Rws.hd (h:Rws R ks) {ns:List Str} (pn:ns.Perm R.flatten) {r:List Str} (hr:r ∈ R):∃ n t,srow ns r = n :: t/\n ∈ ns/\n ∈ r:=by
 obtain ⟨x,t,e⟩:=List.exists_cons_of_ne_nil (h.ne r hr)
 have hx:x ∈ r:=by rw [e]; exact List.mem_cons_self ..
 exact srt_head (pn.mem_iff.mpr (List.mem_flatten.mpr ⟨r,hr,hx⟩)) hx
theorem Rws.rings (h:Rws R ks) {ns:List Str} (pn:ns.Perm R.flatten) (sn:ns.Pairwise leS) {zs:List (List Str)} (pz:zs.Perm ((R.filter (cnd ks)).map (srow ns))) (so:zs.Pairwise fun a b=>¬ hdS b < hdS a):zs = tops ns ns (rM ks) (rO ks):=by
 have nn:=pn.nodup_iff.mpr h.nd
 have mz:∀ z,z ∈ zs ↔ ∃ r ∈ R,cnd ks r = true/\z = srow ns r:=fun z=>by
  rw [pz.mem_iff,List.mem_map]
  exact ⟨fun ⟨r,hr,e⟩=>⟨r,(List.mem_filter.mp hr).1,(List.mem_filter.mp hr).2,e.symm⟩,fun ⟨r,hr,hc,e⟩=>⟨r,List.mem_filter.mpr ⟨hr,hc⟩,e.symm⟩⟩
 have hh:∀ z ∈ zs,∃ r ∈ R,cnd ks r = true/\z = srow ns r/\z.headD "" ∈ r/\z.headD "" ∈ ns/\z.head? = some (z.headD ""):=fun z hz=>by
  obtain ⟨r,hr,hc,rfl⟩:=(mz z).mp hz
  obtain ⟨n,t,e,h1,h2⟩:=h.hd pn hr
  exact ⟨r,hr,hc,rfl,by rw [e]; exact h2,by rw [e]; exact h1,by rw [e]; rfl⟩
 have e1:zs = (zs.map fun z=>z.headD "").map fun n=>srt ns (rM ks n):=by
  rw [List.map_map]
  refine (List.map_id zs).symm.trans (List.map_congr_left fun z hz=>?_)
  obtain ⟨r,hr,hc,e,h1,_⟩:=hh z hz
  show z = srt ns (rM ks (z.headD ""))
  rw [h.row pn sn hr h1,<-e]
 have nd:(zs.map fun z=>z.headD "").Nodup:=by
  have p2:(zs.map fun z=>z.headD "").Perm (((R.filter (cnd ks)).map (srow ns)).map fun z=>z.headD ""):=pz.map _
  rw [p2.nodup_iff,List.map_map]
  have dj:=(nodup_flat h.nd).2
  refine List.pairwise_map.mpr (List.Pairwise.imp_of_mem ?_ (dj.filter _))
  intro a b ha hb hd e
  obtain ⟨n,t,e1,_,h1⟩:=h.hd pn (List.mem_filter.mp ha).1
  obtain ⟨m,u,e2,_,h2⟩:=h.hd pn (List.mem_filter.mp hb).1
  have e:(srow ns a).headD "" = (srow ns b).headD "":=e
  rw [e1,e2] at e
  have e:n = m:=e
  subst e
  exact hd n h1 n h2 rfl
 have sr:(zs.map fun z=>z.headD "").Pairwise leS:=by
  refine List.pairwise_map.mpr (List.Pairwise.imp_of_mem ?_ so)
  intro a b ha hb z
  obtain ⟨_,_,_,_,_,_,ea⟩:=hh a ha
  obtain ⟨_,_,_,_,_,_,eb⟩:=hh b hb
  unfold hdS at z
  rw [ea,eb] at z
  exact z
 have e2:(zs.map fun z=>z.headD "") = srt ns (isTop ns (rM ks) (rO ks)):=by
  refine srt_eq nn sn nd sr (fun n=>?_) fun n hn=>?_
  rotate_left
  ·obtain ⟨z,hz,rfl⟩:=List.mem_map.mp hn
   obtain ⟨_,_,_,_,_,h2,_⟩:=hh z hz
   exact h2
  constructor
  ·intro hn
   obtain ⟨z,hz,rfl⟩:=List.mem_map.mp hn
   obtain ⟨r,hr,hc,e,h1,h2,h3⟩:=hh z hz
   refine ⟨(h.rO_iff hr h1).mpr hc,?_⟩
   rw [h.row pn sn hr h1,<-e]
   exact h3
  ·rintro ⟨o,ht⟩
   have hn:n ∈ ns:=(mem_srt.mp (List.mem_of_head? ht)).1
   obtain ⟨r,hr,hnr⟩:=List.mem_flatten.mp (pn.mem_iff.mp hn)
   refine List.mem_map.mpr ⟨srow ns r,(mz _).mpr ⟨r,hr,(h.rO_iff hr hnr).mp o,rfl⟩,?_⟩
   rw [<-h.row pn sn hr hnr,List.headD_eq_head?_getD,ht]; rfl
 rw [e1,e2]; rfl
end
theorem Rws.one {R:List (List Str)} {ks:Ks} (h:Rws R ks) {r:List Str} (hr:r ∈ R):Rws [r] (ks.filter (btw r)) where
 nd:=by
  rw [List.flatten_cons,List.flatten_nil,List.append_nil]
  exact (nodup_flat h.nd).1 r hr
 ne:=fun z hz=>by rw [List.mem_singleton.mp hz]; exact h.ne r hr
 ring:=fun z hz hl j x y hx hy=>by
  cases List.mem_singleton.mp hz
  refine List.mem_filter.mpr ⟨h.ring r hr hl j x y hx hy,?_⟩
  unfold btw
  rw [decide_eq_true (List.mem_of_getElem? hx),decide_eq_true (List.mem_of_getElem? hy)]; rfl
 up:=fun k hk=>by
  have:=(List.mem_filter.mp hk).2
  unfold btw at this
  obtain ⟨h1,h2⟩:=Bool.and_eq_true_iff.mp this
  exact ⟨0,0,r,r,rfl,rfl,of_decide_eq_true h1,of_decide_eq_true h2,Nat.le_refl _⟩
theorem cnd_one {ks:Ks} {r:List Str} (hne:r ≠ []):cnd (ks.filter (btw r)) r = cnd ks r:=by
 unfold cnd
 congr 1
 refine decide_eq_decide.mpr ⟨fun h=>(List.mem_filter.mp h).1,fun h=>List.mem_filter.mpr ⟨h,?_⟩⟩
 cases r with
 | nil=>exact absurd rfl hne
 | cons a t =>
  unfold btw
  show (decide (a ∈ a :: t) && decide (a ∈ a :: t)) = true
  rw [decide_eq_true (List.mem_cons_self ..)]; rfl
theorem cnd_congr {ks kt:Ks} (h:∀ k,k ∈ ks ↔ k ∈ kt) (r:List Str):cnd ks r = cnd kt r:=by
 unfold cnd
 rw [decide_eq_decide.mpr (h _)]
theorem Rws.congr {R:List (List Str)} {ks kt:Ks} (h:Rws R ks) (e:∀ k,k ∈ ks ↔ k ∈ kt):Rws R kt:=⟨h.nd,h.ne,fun r hr=>(h.ring r hr).mono fun k hk=>(e k).mp hk,fun k hk=>h.up k ((e k).mpr hk)⟩
theorem leS_trans {a b c:Str} (h1:leS a b) (h2:leS b c):leS a c:=fun z=>by
 rcases TS.tri b.cps.toList c.cps.toList with q | q | q
 ·exact h1 (List.lt_trans q z)
 ·rw [<-q] at z; exact h1 z
 ·exact h2 q
theorem sorted_ex (l:List Str):∃ s:List Str,s.Perm l/\s.Pairwise leS:=by
 induction l with
 | nil=>exact ⟨[],.nil,.nil⟩
 | cons x r ih =>
  obtain ⟨s,p,so⟩:=ih
  have ins:∀ s:List Str,s.Pairwise leS->∃ s':List Str,s'.Perm (x :: s)/\s'.Pairwise leS:=fun s=>by
   induction s with
   | nil=>exact fun _=>⟨[x],.refl _,List.pairwise_singleton _ _⟩
   | cons y t ih =>
    intro so
    obtain ⟨h1,h2⟩:=List.pairwise_cons.mp so
    by_cases c:leS x y
    ·refine ⟨x :: y :: t,.refl _,List.pairwise_cons.mpr ⟨fun z hz=>?_,so⟩⟩
     rcases List.mem_cons.mp hz with rfl | hz
     ·exact c
     ·exact leS_trans c (h1 z hz)
    ·obtain ⟨s',p',so'⟩:=ih h2
     refine ⟨y :: s',(List.Perm.cons y p').trans (List.Perm.swap ..),List.pairwise_cons.mpr ⟨fun z hz=>?_,so'⟩⟩
     have cyx:leS y x:=fun z=>c fun z'=>List.lt_irrefl _ (List.lt_trans z z')
     rcases List.mem_cons.mp (p'.mem_iff.mp hz) with rfl | hz
     ·exact cyx
     ·exact h1 z hz
  obtain ⟨s',p',so'⟩:=ins s so
  exact ⟨s',p'.trans (List.Perm.cons x p),so'⟩
theorem once_iff {ns:List Str} {M:Str->Str->Prop} (C:Cls M pO) (nn:ns.Nodup) (sn:ns.Pairwise leS) {i:Nat} {n:Str} (hn:ns[i]? = some n):srt ns (M n) ∈ ((ns.take i).map fun m=>srt ns (M m)) ↔ ¬ isTop ns M pO n:=by
 rw [<-tops_any C nn sn hn trivial]
 have hnn:=List.mem_of_getElem? hn
 have cg:∀ {m},M n m->srt ns (M m) = srt ns (M n):=fun h=>srt_congr nn sn fun x _=>⟨fun z=>C.tr h z,fun z=>C.tr (C.sym h) z⟩
 constructor
 ·intro h
  obtain ⟨m,hm,e⟩:=List.mem_map.mp h
  have hmn:M n m:=by
   have:m ∈ srt ns (M n):=by rw [<-e]; exact mem_srt.mpr ⟨List.mem_of_mem_take hm,C.refl m⟩
   exact (mem_srt.mp this).2
  refine (tops_any C nn sn hn trivial).mpr fun ht=>?_
  have e2:(srt ns (M n)).head? = some n:=ht.2
  have hms:m ∈ srt ns (M n):=mem_srt.mpr ⟨List.mem_of_mem_take hm,hmn⟩
  rcases head_le (sn.filter _) e2 hms with q | q
  ·subst q
   exact nodup_take nn hn hm
  ·obtain ⟨j,hj,ej⟩:=List.mem_take_iff_getElem.mp hm
   obtain ⟨hi,ei⟩:=List.getElem?_eq_some_iff.mp hn
   have:=List.pairwise_iff_getElem.mp sn j i (by omega) hi (by omega)
   rw [ei,ej] at this
   have e3:=leS_anti q this
   subst e3
   exact nodup_take nn hn hm
 ·rintro ⟨z,hz,hm⟩
  obtain ⟨m,hm',rfl⟩:=List.mem_map.mp hz
  obtain ⟨m1,m2⟩:=mem_srt.mp hm'
  exact List.mem_map.mpr ⟨m,m1,(cg (C.sym (mem_srt.mp hm).2))⟩
end Sw
namespace Sw
open PySem L2
theorem eqvAll_strs:∀ a b:List Str,PyData.eqvAll (a.map PyData.str) (b.map PyData.str) = decide (a = b)
 | [],[]=>by simp [PyData.eqvAll]
 | [],_ :: _=>by simp [PyData.eqvAll]
 | _ :: _,[]=>by simp [PyData.eqvAll]
 | x :: a,y :: b=>by
  rw [List.map_cons,List.map_cons,PyData.eqvAll,eqvAll_strs a b,PyData.eqv]
  by_cases h1:x = y
  ·by_cases h2:a = b
   ·rw [decide_eq_true h2,h1,h2]; simp
   ·rw [decide_eq_false h2]; simp [h2]
  ·simp [h1]
theorem eqv_sd (a b:List Str):PyData.eqv (sd a) (sd b) = decide (a = b):=by
 unfold sd
 rw [PyData.eqv,eqvAll_strs]
end Sw
namespace Sw
open PySem L2
theorem pr_congr {ks kt:Ks} (h:ks.Perm kt):pM ks = pM kt/\rM ks = rM kt/\rO ks = rO kt:=by
 have h1:∀ n y,y ∈ bk ks n ↔ y ∈ bk kt n:=fun n y=>by rw [mem_bk,mem_bk,h.mem_iff,h.mem_iff]
 have h2:∀ n y,y ∈ sk ks n ↔ y ∈ sk kt n:=fun n y=>by rw [mem_sk,mem_sk,h.mem_iff]
 refine ⟨funext fun n=>funext fun x=>propext (Rch.congr h1 x),funext fun n=>funext fun x=>propext (and_congr (Rch.congr h2 x) (Rch.congr h2 n)),funext fun n=>propext ((Rch.congr h2 n).trans ⟨fun r=>r.mono fun y hy=>.of ((h2 n y).mp hy),fun r=>r.mono fun y hy=>.of ((h2 n y).mpr hy)⟩)⟩
theorem tops_mem {ns l z:List Str} {M:Str->Str->Prop} {O:Str->Prop} (h:z ∈ tops ns l M O):z.length<=ns.length/\∀ y ∈ z,y ∈ ns:=by
 obtain ⟨n,_,rfl⟩:=List.mem_map.mp h
 exact ⟨srt_len ..,fun y hy=>(mem_srt.mp hy).1⟩
theorem same_LLx {S:Sp} {H:Hp} {l m:Addr} {z1 z2:List (Addr × List Str)} {ns:List Str} {M:Str->Str->Prop} {O:Str->Prop} (h:LLx H l z1) (h':LLx H m z2) (e1:z1.map (fun p=>p.2) = tops ns ns M O) (e2:z2.map (fun p=>p.2) = tops ns ns M O) (ok:∀ y ∈ ns,PySem.PyData.strOk y = true) (len:ns.length<=100) :
  ∃ xs ys,H l = some (LT true xs)/\H m = some (LT true ys)/\xs.length = ys.length/\xs.length<=200/\∀ (i:Nat) (x y:V) (H':Hp) (Q':VK) (E:XK),xs[i]? = some x->ys[i]? = some y->Same H H'->(∀ H'',Same H' H''->Q' (.bl true) H'')->sp_same (sp_same (sp_same S)) [x,y] H' Q' E:=by
 have l1:=congrArg List.length e1
 have l2:=congrArg List.length e2
 have l3:=tops_len ns ns M O
 rw [List.length_map] at l1 l2
 refine ⟨_,_,h.1,h'.1,by rw [List.length_map,List.length_map,l1,l2],by rw [List.length_map]; omega,fun i x y H' Q' E hx hy s hq=>?_⟩
 rw [List.getElem?_map] at hx hy
 obtain ⟨p,hp,rfl⟩:=Option.map_eq_some_iff.mp hx
 obtain ⟨q,hq',rfl⟩:=Option.map_eq_some_iff.mp hy
 have e3:p.2 = q.2:=by
  have a1:(z1.map fun p=>p.2)[i]? = some p.2:=by rw [List.getElem?_map,hp]; rfl
  have a2:(z2.map fun p=>p.2)[i]? = some q.2:=by rw [List.getElem?_map,hq']; rfl
  rw [e1] at a1; rw [e2] at a2
  exact Option.some.inj (a1.symm.trans a2)
 obtain ⟨t1,t2⟩:=tops_mem (z:=p.2) (e1 ▸ List.mem_map.mpr ⟨p,List.mem_of_getElem? hp,rfl⟩)
 obtain ⟨xs,ys,b1,b2,b3,b4,b5⟩:=same_SL (S:=S) (s _ _ (h.2 p (List.mem_of_getElem? hp)).2) (by rw [e3]; exact s _ _ (h'.2 q (List.mem_of_getElem? hq')).2) (fun v hv=>ok v (t2 v hv)) (by omega)
 exact .inr ⟨p.1,q.1,true,xs,ys,rfl,b1,b2,b3,b4,b5,hq⟩
end Sw
namespace Sw
open PySem L2
theorem lc_rowsF {K:PySem.W.Frag} {a C:Addr} {rs:List (Addr × List Str)} {r:St} {tc:TT} {te:TE} {H:Hp} {Q:St->Hp->Prop} (g:List Str->List Str) (p:List Str->Bool) (L:LLx H a rs) (len:rs.length<=1000) (hC:H C = none)
  (ht:∀ q ∈ rs,∀ H1,Same H H1->∀ Q':Bool->Hp->Prop,(∀ H2,Same H1 H2->Q' (p q.2) H2)->tc (some (.ref q.1) :: r) H1 Q')
  (he:∀ q ∈ rs,∀ H1,Same H H1->∀ Q':VK,(∀ l H2,Same H1 H2->H1 l = none->H2 l = some (.lst ((g q.2).map V.str))->Q' (.ref l) H2)->te (some (.ref q.1) :: r) H1 Q')
  (h:∀ σ H2 (ts:List (Addr × List Str)),Same H H2->LLx H2 C ts->(ts.map fun q=>q.2) = ((rs.map fun q=>q.2).filter p).map g->Q σ H2) (v0:Option V) :
  Loop (gName 0) tc (emLst C te) (Itl K a) (v0 :: r) (upd H C (.lst [])) Q:=by
 refine loop_as (asL (K:=K) (SqL.of L.1)) (fun i σ H3=>(∃ v,σ = v :: r)/\Same H H3/\∃ ts:List (Addr × List Str),LLx H3 C ts/\(ts.map fun q=>q.2) = (((rs.take i).map fun q=>q.2).filter p).map g)
  ⟨⟨_,rfl⟩,Same.new hC,[],⟨upd_same,fun q hq=>absurd hq List.not_mem_nil⟩,rfl⟩ (fun i σ H1 _ ⟨_,s1,_⟩=>s1.at a) ?_ ?_
 ·rintro i σ H3 v N hx ⟨⟨v0,rfl⟩,s3,ts,L3,e3⟩ hN
  rw [List.getElem?_map] at hx
  obtain ⟨y,hy,rfl⟩:=Option.map_eq_some_iff.mp hx
  have ym:=List.mem_of_getElem? hy
  have hi:=(List.getElem?_eq_some_iff.mp hy).1
  have hs:((rs.take (i + 1)).map fun q=>q.2).filter p = ((rs.take i).map fun q=>q.2).filter p ++ if p y.2 = true then [y.2] else []:=by
   rw [take_succ hy,List.map_append,List.filter_append,List.map_cons,List.map_nil,List.filter_cons,List.filter_nil]
  have lt:ts.length<=i:=by
   have:=congrArg List.length e3
   rw [List.length_map,List.length_map] at this
   have h2:=List.length_filter_le p ((rs.take i).map fun q=>q.2)
   rw [List.length_map,List.length_take] at h2
   omega
  refine ht y ym H3 s3 _ fun H4 s4=>?_
  have L4:=L3.same s4
  have s34:=s3.trans s4
  refine ite2 (fun c=>he y ym H4 s34 _ fun l H5 s5 hl e5=>?_) (fun c=>hN _ _ ⟨⟨_,rfl⟩,s34,ts,L4,by rw [hs,if_neg c,List.append_nil]; exact e3⟩)
  have nl:l ≠ C:=(ne_of_none L4.1 hl).symm
  have L5:=L4.same s5
  refine ⟨_,L5.1,by rw [List.length_map,sizeLine_eq]; omega,hN _ _ ⟨⟨_,rfl⟩,(s34.trans s5).upd hC,ts ++ [(l,g y.2)],L5.app e5 nl,?_⟩⟩
  rw [List.map_append,e3,hs,if_pos c,List.map_append]; rfl
 ·rintro σ H3 ⟨_,s3,ts,L3,e3⟩
  rw [List.length_map,List.take_length] at e3
  exact h σ H3 ts s3 L3 e3
theorem lc_strsL {K:PySem.W.Frag} {a C:Addr} {ns:List Str} {r:St} {te:TE} {H:Hp} {Q:St->Hp->Prop} (g:Str->List Str) (e:H a = some (.lst (ns.map V.str))) (len:ns.length<=1000) (hC:H C = none)
  (he:∀ y ∈ ns,∀ H1,Same H H1->∀ Q':VK,(∀ l H2,Same H1 H2->H1 l = none->H2 l = some (.lst ((g y).map V.str))->Q' (.ref l) H2)->te (some (.str y) :: r) H1 Q')
  (h:∀ σ H2 (ts:List (Addr × List Str)),Same H H2->LLx H2 C ts->(ts.map fun q=>q.2) = ns.map g->Q σ H2) (v0:Option V) :
  Loop (gName 0) tTrue (emLst C te) (Itl K a) (v0 :: r) (upd H C (.lst [])) Q:=by
 refine loop_as (asL (K:=K) (SqL.of e)) (fun i σ H3=>(∃ v,σ = v :: r)/\Same H H3/\∃ ts:List (Addr × List Str),LLx H3 C ts/\(ts.map fun q=>q.2) = (ns.take i).map g)
  ⟨⟨_,rfl⟩,Same.new hC,[],⟨upd_same,fun q hq=>absurd hq List.not_mem_nil⟩,rfl⟩ (fun i σ H1 _ ⟨_,s1,_⟩=>s1.at a) ?_ ?_
 ·rintro i σ H3 v N hx ⟨⟨v0,rfl⟩,s3,ts,L3,e3⟩ hN
  rw [List.getElem?_map] at hx
  obtain ⟨y,hy,rfl⟩:=Option.map_eq_some_iff.mp hx
  have hi:=(List.getElem?_eq_some_iff.mp hy).1
  have lt:ts.length = i:=by
   have:=congrArg List.length e3
   rw [List.length_map,List.length_map,List.length_take] at this
   omega
  refine g_true (he y (List.mem_of_getElem? hy) H3 s3 _ fun l H5 s5 hl e5=>?_)
  have nl:l ≠ C:=(ne_of_none L3.1 hl).symm
  have L5:=L3.same s5
  refine ⟨_,L5.1,by rw [List.length_map,sizeLine_eq]; omega,hN _ _ ⟨⟨_,rfl⟩,(s3.trans s5).upd hC,ts ++ [(l,g y)],L5.app e5 nl,?_⟩⟩
  rw [List.map_append,e3,take_succ hy,List.map_append]; rfl
 ·rintro σ H3 ⟨_,s3,ts,L3,e3⟩
  rw [List.length_map,List.take_length] at e3
  exact h σ H3 ts s3 L3 e3
theorem rps_LL {K:PySem.W.Frag} {H:Hp}:∀ {ts:List (Addr × List Str)},(∀ q ∈ ts,H q.1 = some (.lst (q.2.map V.str)))->Rps K H (ts.map fun q=>sd q.2) (ts.map fun q=>V.ref q.1)
 | [],_=>by simp [Rps]
 | q :: r,h=>by
  rw [List.map_cons,List.map_cons]
  simp only [Rps]
  exact ⟨_,_,rfl,rp_strs (SqL.of (h q (List.mem_cons_self ..))),rps_LL fun z hz=>h z (List.mem_cons_of_mem _ hz)⟩
theorem any_sd (x:List Str):∀ zs:List (List Str),((zs.map sd).any fun z=>PyData.eqv z (sd x)) = decide (x ∈ zs)
 | []=>by simp
 | z :: r=>by
  rw [List.map_cons,List.any_cons,any_sd x r,eqv_sd]
  by_cases c:z = x
  ·rw [decide_eq_true c,Bool.true_or]
   exact (decide_eq_true (by rw [c]; exact List.mem_cons_self ..)).symm
  ·rw [decide_eq_false c,Bool.false_or]
   exact decide_eq_decide.mpr ⟨fun h=>List.mem_cons_of_mem _ h,fun h=>(List.mem_cons.mp h).elim (fun e=>absurd e.symm c) id⟩
theorem lay_LL:∀ {ts:List (Addr × List Str)},(∀ q ∈ ts,∀ x ∈ q.2,nameB x = true)->PyData.canLayAll0 (ts.map fun q=>sd q.2) = true
 | [],_=>rfl
 | q :: r,h=>by
  rw [List.map_cons,PyData.canLayAll0,(pl_strs (h q (List.mem_cons_self ..))).1,lay_LL fun z hz=>h z (List.mem_cons_of_mem _ hz)]; rfl
theorem in_LL {K:PySem.W.Frag} {H:Hp} {l m:Addr} {x:List Str} {ts:List (Addr × List Str)} {Q:VK} (neg:Bool) (hl:H l = some (.lst (x.map V.str))) (hm:H m = some (.lst (ts.map fun q=>V.ref q.1))) (ht:∀ q ∈ ts,H q.1 = some (.lst (q.2.map V.str))) (okx:∀ y ∈ x,nameB y = true) (okt:∀ q ∈ ts,∀ y ∈ q.2,nameB y = true)
  (q:Q (.bl (if neg then !decide (x ∈ ts.map fun q=>q.2) else decide (x ∈ ts.map fun q=>q.2))) H):rInD K neg (.ref l) (.ref m) H Q:=by
 refine ⟨sd x,ts.map fun q=>sd q.2,rp_strs (SqL.of hl),.inl ?_,pl_strs okx,lay_LL okt,?_⟩
 ·simp only [Rp]
  exact ⟨m,_,rfl,SqL.of hm,rps_LL ht⟩
 ·rw [show (ts.map fun q=>sd q.2) = (ts.map fun q=>q.2).map sd by rw [List.map_map]; rfl,any_sd]
  exact q
theorem lc_once {K:PySem.W.Frag} {sq:Hp->Addr->List V->Prop} {a C:Addr} {ts:List (Addr × List Str)} {ns:List Str} {M:Str->Str->Prop} {H:Hp} {Q:St->Hp->Prop} (CM:Cls M pO) (nn:ns.Nodup) (sn:ns.Pairwise leS) (okn:∀ y ∈ ns,nameB y = true) (L:LLx H a ts) (et:(ts.map fun q=>q.2) = ns.map fun n=>srt ns (M n)) (hk:∀ H1,KeepAt a H H1->sq H1 a (ts.map fun q=>V.ref q.1)) (hl:ns.length<=200) (hC:H C = none)
  (h:∀ σ H2 (zs:List (Addr × List Str)),Same H H2->LLx H2 C zs->(zs.map fun q=>q.2) = tops ns ns M pO->Q σ H2) (v0 v1:Option V) :
  Loop (gTup K 2 (gCons (gName 0) (gCons (gName 1) gNil))) (tTest (tOp (rInD K true) (tVar 1) (tSl (rSlL K) (tVar 2) tNoPart (tPart (tVar 0))))) (emLst C (tVar 1)) (Ite2 sq a) [v0,v1,some (.ref a)] (upd H C (.lst [])) Q:=by
 have lt:ts.length = ns.length:=by
  have:=congrArg List.length et
  rwa [List.length_map,List.length_map] at this
 have okt:∀ q ∈ ts,∀ y ∈ q.2,nameB y = true:=fun q hq y hy=>by
  have:q.2 ∈ ns.map fun n=>srt ns (M n):=by rw [<-et]; exact List.mem_map.mpr ⟨q,hq,rfl⟩
  obtain ⟨n,_,e⟩:=List.mem_map.mp this
  rw [<-e] at hy
  exact okn y (mem_srt.mp hy).1
 refine loop_J (n:=ts.length) (fun i σ H3=>(∃ v0 v1,σ = [v0,v1,some (.ref a)])/\Same H H3/\∃ zs:List (Addr × List Str),LLx H3 C zs/\(zs.map fun q=>q.2) = tops ns (ns.take i) M pO)
  ⟨⟨_,_,rfl⟩,Same.new hC,[],⟨upd_same,fun q hq=>absurd hq List.not_mem_nil⟩,rfl⟩ ?_ ?_ ?_ ?_
 ·rintro i σ H1 hi ⟨_,s1,_⟩
  exact ⟨_,_,hk _ (s1.at a),by rw [List.getElem?_map,List.getElem?_eq_getElem hi]; rfl⟩
 ·rintro σ H1 ⟨_,s1,_⟩
  exact ⟨_,hk _ (s1.at a),by rw [List.length_map]⟩
 ·rintro i σ H1 x H' N hi ⟨⟨v0,v1,rfl⟩,s1,zs,L1,e1⟩ ⟨t,x,rfl,ht,rfl,hx⟩ hN
  have hx:=hx _ (hk _ (s1.at a))
  have hi':ts[i]? = some ts[i]:=List.getElem?_eq_getElem hi
  rw [List.getElem?_map,hi'] at hx
  cases hx
  have mi:ts[i] ∈ ts:=List.getElem_mem hi
  have hn:ns[i]? = some ns[i]:=List.getElem?_eq_getElem (by omega)
  have en:ts[i].2 = srt ns (M ns[i]):=by
   have:(ts.map fun q=>q.2)[i]? = (ns.map fun n=>srt ns (M n))[i]?:=by rw [et]
   rw [List.getElem?_map,List.getElem?_map,hi',hn] at this
   exact Option.some.inj this
  have ek:((ts.take i).map fun q=>q.2) = (ns.take i).map fun n=>srt ns (M n):=by
   rw [List.map_take,et,List.map_take]
  have lz:zs.length<=i:=by
   have:=congrArg List.length e1
   rw [List.length_map] at this
   have h2:=tops_len ns (ns.take i) M pO
   rw [List.length_take] at h2
   omega
  refine ⟨t,ex1 rfl ⟨SqT.of upd_same,rfl,_,ex1 rfl (ex2_3 rfl rfl ?_)⟩⟩
  have u1:=Same.new (o:=.tup [.int (i:Int),.ref ts[i].1]) ht
  have s2:=s1.trans u1
  have Z2:=L1.same u1
  have A2:=L.same s2
  generalize upd H1 t (.tup [.int (i:Int),.ref ts[i].1]) = H2 at s2 Z2 A2 ⊢
  refine ex1 rfl (ex1 rfl (ex1 rfl (ex1 rfl ⟨a,_,rfl,SqL.of A2.1,fun t1 ht1=>?_⟩)))
  rw [cut_take,<-List.map_take]
  have u3:=Same.new (o:=.lst ((ts.take i).map fun q=>V.ref q.1)) ht1
  have Z3:=Z2.same u3
  have A3:=A2.same u3
  have s3:=s2.trans u3
  have e3:(upd H2 t1 (.lst ((ts.take i).map fun q=>V.ref q.1))) t1 = some (.lst ((ts.take i).map fun q=>V.ref q.1)):=upd_same
  generalize upd H2 t1 (.lst ((ts.take i).map fun q=>V.ref q.1)) = H3 at Z3 A3 s3 e3 ⊢
  have nC:ts[i].1 ≠ C:=(ne_of_none (L.2 _ mi).2 hC)
  refine in_LL (x:=ts[i].2) true (A3.2 _ mi).2 e3 (fun q hq=>(A3.2 q (List.mem_of_mem_take hq)).2) (okt _ mi) (fun q hq=>okt q (List.mem_of_mem_take hq)) ?_
  rw [if_pos rfl,ek,en]
  have oi:=once_iff CM nn sn hn
  refine ex1 rfl (ite2 (fun z=>?_) (fun z=>?_))
  ·have top:isTop ns M pO ns[i]:=Classical.byContradiction fun c=>by
    rw [decide_eq_true (oi.mpr c)] at z
    cases z
   refine ex1 rfl ⟨_,Z3.1,by rw [List.length_map,sizeLine_eq]; omega,hN _ _ ⟨⟨_,_,rfl⟩,s3.upd hC,zs ++ [(ts[i].1,ts[i].2)],Z3.app (A3.2 _ mi).2 nC,?_⟩⟩
   rw [List.map_append,e1,take_succ hn,tops_yes top,<-en]; rfl
  ·refine hN _ _ ⟨⟨_,_,rfl⟩,s3,zs,Z3,?_⟩
   have nt:¬ isTop ns M pO ns[i]:=fun c=>by
    rw [decide_eq_false fun h=>oi.mp h c] at z
    exact z rfl
   rw [e1,take_succ hn,tops_no nt]
 ·rintro σ H3 ⟨_,s3,zs,Z3,e3⟩
  rw [lt,List.take_length] at e3
  exact h σ H3 zs s3 Z3 e3
theorem lc_swap {K:PySem.W.Frag} {a C:Addr} {ps:List PA2} {H:Hp} {Q:St->Hp->Prop} (L:SL H a ps) (len:ps.length<=1000) (hC:H C = none)
  (h:∀ σ H2 (rs:List PA2),Same H H2->SL H2 C rs->(rs.map fun q=>q.2) = ps.map (fun q=>(q.2.2,q.2.1))->Q σ H2) (v0 v1:Option V) :
  Loop (gTup K 2 (gCons (gName 0) (gCons (gName 1) gNil))) tTrue (emLst C (tTup (tCons (tVar 1) (tCons (tVar 0) tNil)))) (Itl K a) [v0,v1] (upd H C (.lst [])) Q:=by
 refine loop_as (asL (K:=K) (SqL.of L.1)) (fun i σ H3=>(∃ v w,σ = [v,w])/\Same H H3/\∃ rs:List PA2,SL H3 C rs/\(rs.map fun q=>q.2) = (ps.take i).map (fun q=>(q.2.2,q.2.1)))
  ⟨⟨_,_,rfl⟩,Same.new hC,[],⟨upd_same,fun q hq=>absurd hq List.not_mem_nil⟩,rfl⟩ (fun i σ H1 _ ⟨_,s1,_⟩=>s1.at a) ?_ ?_
 ·rintro i σ H3 v N hx ⟨⟨v0,v1,rfl⟩,s3,rs,S3,e3⟩ hN
  unfold refs at hx
  rw [List.getElem?_map] at hx
  obtain ⟨y,hy,rfl⟩:=Option.map_eq_some_iff.mp hx
  have hi:=(List.getElem?_eq_some_iff.mp hy).1
  have lr:rs.length = i:=by
   have:=congrArg List.length e3
   rw [List.length_map,List.length_map,List.length_take] at this
   omega
  refine ⟨y.1,ex1 rfl ⟨SqT.of (s3 _ _ (L.2 y (List.mem_of_getElem? hy))),rfl,_,ex1 rfl (ex2_3 rfl rfl ?_)⟩⟩
  dsimp only [tTrue]
  rw [if_pos rfl]
  refine ex1 rfl (ex1 rfl ⟨by show 2<=sizeLine; decide,fun t ht=>?_⟩)
  have nC:C ≠ t:=ne_of_none S3.1 ht
  refine ⟨_,(upd_ne nC).trans S3.1,by rw [refs_len,sizeLine_eq]; omega,hN _ _ ⟨⟨_,_,rfl⟩,(s3.trans (Same.new ht)).upd hC,_,S3.app ht,?_⟩⟩
  rw [List.map_append,e3,take_succ hy,List.map_append]; rfl
 ·rintro σ H3 ⟨_,s3,rs,S3,e3⟩
  rw [refs_len,List.take_length] at e3
  exact h σ H3 rs s3 S3 e3
end Sw
namespace Sw
open PySem L2
theorem cut_dropN {xs:List V} {k:Nat}:cutV xs (some (k:Int)) none = xs.drop k:=by
 unfold cutV
 rw [HT.sIx_nat,HT.sIx_none]
 by_cases c:k<=xs.length
 ·rw [Nat.min_eq_left c]
  exact List.take_of_length_le (by rw [List.length_drop]; exact Nat.le_refl _)
 ·rw [Nat.min_eq_right (by omega),Nat.sub_self,List.take_zero]
  exact (List.drop_of_length_le (by omega)).symm
theorem srow_of {ns r z:List Str} (nn:ns.Nodup) (sn:ns.Pairwise leS) (nr:r.Nodup) (sub:∀ x ∈ r,x ∈ ns) (p:z.Perm r) (so:z.Pairwise leS):z = srow ns r:=srt_eq nn sn (p.nodup_iff.mpr nr) so (fun x=>p.mem_iff) fun x hx=>sub x (p.mem_iff.mp hx)
theorem pw_swap {ps rs:List PA2} {n y:Str} (e:(rs.map fun q=>q.2) = ps.map fun q=>(q.2.2,q.2.1)):y ∈ leadOf false (ps ++ rs) n ↔ y ∈ bk (ps.map fun q=>q.2) n:=by
 show y ∈ struckOf (ps ++ rs) n ↔ _
 rw [mem_struck,List.map_append,e]
 unfold bk
 rw [mem_sk,List.map_map]; rfl
structure B8 (C:Addr) (H1 H:Hp) (rl sl nm du:Addr) (rs:List (Addr × List Str)) (ps:List PA2) (zs:List (Addr × List Str)):Prop where
 L:LLx H rl rs
 S:SL H sl ps
 en:H nm = some (.lst ((rs.map fun q=>q.2).flatten.map V.str))
 Z:LLx H du zs
 sm:Same H1 H
section
variable {C:Addr} {H1 H H':Hp} {rl sl nm du:Addr} {rs:List (Addr × List Str)} {ps:List PA2} {zs:List (Addr × List Str)}
theorem B8.same (h:B8 C H1 H rl sl nm du rs ps zs) (k:Same H H'):B8 C H1 H' rl sl nm du rs ps zs:=⟨h.L.same k,h.S.same k,k _ _ h.en,h.Z.same k,h.sm.trans k⟩
end
theorem Drawn.strk {R:List (List Str)} {ps:List PA2} {ss:List Str} (h:Drawn R (ps.map fun q=>q.2)) (e:∀ x,x ∈ ss ↔ x ∈ R.flatten):StrkOk ss ps where
 nm:=fun q hq=>by
  obtain ⟨i,j,r,r',h1,h2,h3,h4,_⟩:=h.up _ (List.mem_map.mpr ⟨q,hq,rfl⟩)
  exact ⟨(e _).mpr (List.mem_flatten.mpr ⟨r,List.mem_of_getElem? h1,h3⟩),(e _).mpr (List.mem_flatten.mpr ⟨r',List.mem_of_getElem? h2,h4⟩)⟩
 nd:=h.nd
 len:=by have:=h.len; rw [List.length_map] at this; omega
section
variable {P:Program} {w:World} {K:PySem.W.Frag} {mg:Str->Option Value} {base:Heap}
theorem sc_law:FnScope ["_law_script", "_law_k", "_law_left_here", "_law_rows", "_law_strikes", "_law_names", "_law_row", "_law_due", "_law_at", "_law_web", "_law_both", "_law_lists"] ["_law_script"] (defScope s_law):=⟨rfl,rfl,rfl,by decide +kernel,rfl,by decide +kernel,by decide +kernel⟩
noncomputable def sp_law (K:PySem.W.Frag):Sp:=fun vs H Q _=>∃ (u:Addr) (xs:List Int),vs = [.ref u]/\SqL K H u (xs.map V.int)/\xs.length<=63/\∀ H',Q (.bl true) H'
set_option maxHeartbeats 8000000 in
theorem ok_law (T:Tx K mg) {f:Addr} {fd:FuncData} (F:Fun K "law" "law" s_law f fd):FnOk P w K mg base CX0 7 f fd ["_law_script"] (sp_law K):=by
 have G_law_left:FnOk P w K mg base CX0 1 T.law_left.f T.law_left.fd ["_law_script", "_law_k"] (sp_left K):=ok_law_left T
 have G_law_pick:FnOk P w K mg base CX0 2 T.law_pick.f T.law_pick.fd ["_law_left_here", "_law_many"] sp_pick:=ok_law_pick T
 have G_law_drawn:FnOk P w K mg base CX0 3 T.law_drawn.f T.law_drawn.fd ["_law_left_here"] sp_drawn:=ok_law_drawn T
 have G_Web___init__:FnOk P w K mg base CX0 3 T.fWeb___init__ T.fdWeb___init__ ["self", "names", "strikes"] (sp_Web_init K T.CWeb):=ok_Web_init T
 have G_law_closed:FnOk P w K mg base CX0 1 T.law_closed.f T.law_closed.fd ["_law_some", "_law_strikes", "_law_turned"] sp_closed:=ok_law_closed T
 have G_parts:FnOk P w K mg base CX0 3 T.parts.f T.parts.fd ["web"] (sp_parts T.CWeb):=ok_parts T
 have G_rings:FnOk P w K mg base CX0 5 T.rings.f T.rings.fd ["web"] (sp_rings T.CWeb):=ok_rings T
 have G_behind:FnOk P w K mg base CX0 3 T.behind.f T.behind.fd ["web", "some"] (sp_behind K T.CWeb):=ok_behind T
 have G_part_of:FnOk P w K mg base CX0 5 T.part_of.f T.part_of.fd ["web", "some"] (sp_part_of K T.CWeb):=ok_part_of T
 have G_law_same:FnOk P w K mg base CX0 4 T.law_same.f T.law_same.fd ["_law_found", "_law_due"] (sp_same (sp_same (sp_same (sp_same sp_none)))):=ok_law_same1 T (ok_law_same1 T (ok_law_same1 T (ok_law_same1 T ok_none)))
 have sc:=sc_law
 refine F.ok sc_law (fun vs H Q E h=>?_) (fun cdv A outer s H vs Q E hr h=>?_)
 ·obtain ⟨u,xs,rfl,_⟩:=h
  rfl
 ·obtain ⟨u,xs,rfl,hS,hlen,q⟩:=h
  refine ⟨_,(pss_cons (ps_for PassesOwn.never rfl (piR1 T.b_range (pa_cons (pe_bf (call_max2 rfl) T.b_max bt_max (pa_cons pe_int (pa_cons (pe_bf (call_min2 rfl) T.b_min bt_min (pa_cons (pe_bf (cl_len K) T.b_len bt_len (pa_cons (pv 0) pa_nil)) (pa_cons pe_int pa_nil))) pa_nil))) pa_nil)) (pg_name (i:=1) sc.nd rfl (by first | exact Or.inl rfl | exact Or.inr rfl))
   (pss_cons (ps_set (i:=2) sc.nd rfl (by first | exact Or.inl rfl | exact Or.inr rfl) (pe_fn T.law_left G_law_left (hr.mono (by decide)) (pa_cons (pv 0) (pa_cons (pv 1) pa_nil))))
   (pss_cons (ps_asg (pe_fn T.law_drawn G_law_drawn (hr.mono (by decide)) (pa_cons (pv 2) pa_nil)) (pgT K (n:=2) (pgs_cons (pg_name (i:=3) sc.nd rfl (by first | exact Or.inl rfl | exact Or.inr rfl)) (pgs_cons (pg_name (i:=4) sc.nd rfl (by first | exact Or.inl rfl | exact Or.inr rfl)) pgs_nil))))
   (pss_cons (ps_set (i:=5) sc.nd rfl (by first | exact Or.inl rfl | exact Or.inr rfl) (pe_lst pa_nil))
   (pss_cons (ps_for PassesOwn.never rfl (piL K (pv 3)) (pg_name (i:=6) sc.nd rfl (by first | exact Or.inl rfl | exact Or.inr rfl))
   (pss_one (ps_expr (peBM K PySem.F.plainAttrs_list PySem.F.slot_list_extend PySem.F.type_list_extend mt_extend (pv 5) (pa_cons (pv 6) pa_nil)))))
   (pss_cons (ps_set (i:=7) sc.nd rfl (by first | exact Or.inl rfl | exact Or.inr rfl) (pe_bf (cl_sortLL K hr.units) T.b_sorted bt_sorted (pa_cons (pe_lc (N':=["_law_row", "_law_strikes"]) (cap:=[none,some 4]) (cl:=[("_law_strikes",_)]) (cs_mk ⟨⟨rfl,rfl,rfl,rfl⟩,trivial⟩ ⟨rfl,trivial⟩) rfl (piL K (pv 3)) (fun _ _ _ _=>by exact ⟨(pgC 0),(pts_one (PW.pt (pw_or (pt_cmpR op_gt (pe_bf (cl_len K) T.b_len bt_len (pa_cons (pv 0) pa_nil)) pe_int (nomark _)) (pw_or1 (pt_cmpR (o_inD K hr.units) (pe_tup (pa_cons (pe_ix (ixL K) (pv 0) pe_int (fun _ _=>rfl)) (pa_cons (pe_ix (ixL K) (pv 0) pe_int (fun _ _=>rfl)) pa_nil))) (pv 1) rfl))))),(pe_bf (cl_sortS K) T.b_sorted bt_sorted (pa_cons (pv 0) pa_nil))⟩)) pa_nil)))
   (pss_cons (ps_set (i:=8) sc.nd rfl (by first | exact Or.inl rfl | exact Or.inr rfl) (pe_fn T.law_pick G_law_pick (hr.mono (by decide)) (pa_cons (pv 2) (pa_cons (pe_bf (cl_len K) T.b_len bt_len (pa_cons (pv 5) pa_nil)) pa_nil))))
   (pss_cons (ps_set (i:=9) sc.nd rfl (by first | exact Or.inl rfl | exact Or.inr rfl) (pe_make T.mkWeb G_Web___init__ (hr.mono (by decide)) rfl T.mgWeb T.bWeb___init__ .nil pass0 (pa_cons (pe_op op_cat (pe_slice (slL K) (pv 5) (po_some (pv 8)) po_none) (pe_slice (slL K) (pv 5) po_none (po_some (pv 8)))) (pa_cons (pe_lrev T.b_list T.b_reversed (pv 4)) pa_nil))))
   (pss_cons (ps_if (PW.pt (pw_or (pt_not (pt_val (pe_fn T.law_same G_law_same (hr.mono (by decide)) (pa_cons (pe_fn T.rings G_rings (hr.mono (by decide)) (pa_cons (pv 9) pa_nil)) (pa_cons (pv 7) pa_nil))))) (pw_or1 (pt_not (pt_val (pe_fn T.law_same G_law_same (hr.mono (by decide)) (pa_cons (pe_fn T.rings G_rings (hr.mono (by decide)) (pa_cons (pe_make T.mkWeb G_Web___init__ (hr.mono (by decide)) rfl T.mgWeb T.bWeb___init__ .nil pass0 (pa_cons (pv 5) (pa_cons (pv 4) pa_nil))) pa_nil)) (pa_cons (pv 7) pa_nil)))))))) (pss_one (ps_ret pe_bl)) pss_nil)
   (pss_cons (ps_set (i:=10) sc.nd rfl (by first | exact Or.inl rfl | exact Or.inr rfl) (pe_op op_cat (pv 4) (pe_lc (N':=["_law_one", "_law_other"]) (cap:=[none,none]) (cl:=[]) (cs_mk trivial trivial) rfl (piL K (pv 4)) (fun _ _ _ _=>by exact ⟨(pgT K (n:=2) (pgs_cons (pgC 0) (pgs_cons (pgC 1) pgs_nil))),pts_nil,(pe_tup (pa_cons (pv 1) (pa_cons (pv 0) pa_nil)))⟩))))
   (pss_cons (ps_set (i:=11) sc.nd rfl (by first | exact Or.inl rfl | exact Or.inr rfl) (pe_lc (N':=["_law_name", "_law_both"]) (cap:=[none,some 10]) (cl:=[("_law_both",_)]) (cs_mk ⟨⟨rfl,rfl,rfl,rfl⟩,trivial⟩ ⟨rfl,trivial⟩) rfl (piL K (pe_bf (cl_sortS K) T.b_sorted bt_sorted (pa_cons (pv 5) pa_nil))) (fun _ _ _ _=>by exact ⟨(pgC 0),pts_nil,(pe_fn T.law_closed G_law_closed (hr.mono (by decide)) (pa_cons (pe_lst (pa_cons (pv 0) pa_nil)) (pa_cons (pv 1) (pa_cons pe_bl pa_nil))))⟩)))
   (pss_cons (ps_if (pt_not (pt_val (pe_fn T.law_same G_law_same (hr.mono (by decide)) (pa_cons (pe_fn T.parts G_parts (hr.mono (by decide)) (pa_cons (pv 9) pa_nil)) (pa_cons (pe_lc (N':=["_law_k", "_law_one", "_law_lists"]) (cap:=[none,none,some 11]) (cl:=[("_law_lists",_)]) (cs_mk ⟨⟨rfl,rfl,rfl,rfl⟩,trivial⟩ ⟨rfl,trivial⟩) rfl (piE2 K T.b_enumerate (pa_cons (pv 11) pa_nil)) (fun _ _ _ _=>by exact ⟨(pgT K (n:=2) (pgs_cons (pgC 0) (pgs_cons (pgC 1) pgs_nil))),(pts_one (pt_cmpR (o_notInD K hr.units) (pv 1) (pe_slice (slL K) (pv 2) po_none (po_some (pv 0))) rfl)),(pv 1)⟩)) pa_nil))))) (pss_one (ps_ret pe_bl)) pss_nil)
   (pss_one (ps_for PassesOwn.never rfl (piL K (pv 3)) (pg_name (i:=6) sc.nd rfl (by first | exact Or.inl rfl | exact Or.inr rfl))
   (pss_cons (ps_if (pt_not (pt_val (pe_fn T.law_same G_law_same (hr.mono (by decide)) (pa_cons (pe_fn T.behind G_behind (hr.mono (by decide)) (pa_cons (pv 9) (pa_cons (pe_slice (slL K) (pv 6) po_none (po_some pe_int)) pa_nil))) (pa_cons (pe_fn T.law_closed G_law_closed (hr.mono (by decide)) (pa_cons (pe_slice (slL K) (pv 6) po_none (po_some pe_int)) (pa_cons (pv 4) (pa_cons pe_bl pa_nil)))) pa_nil))))) (pss_one (ps_ret pe_bl)) pss_nil)
   (pss_one (ps_if (PW.pt (pw_and (pt_cmpR (o_inD K hr.units) (pe_bf (cl_sortS K) T.b_sorted bt_sorted (pa_cons (pv 6) pa_nil)) (pv 7) rfl) (pw_and1 (pt_not (pt_val (pe_fn T.law_same G_law_same (hr.mono (by decide)) (pa_cons (pe_fn T.rings G_rings (hr.mono (by decide)) (pa_cons (pe_fn T.part_of G_part_of (hr.mono (by decide)) (pa_cons (pv 9) (pa_cons (pv 6) pa_nil))) pa_nil)) (pa_cons (pe_lst (pa_cons (pe_bf (cl_sortS K) T.b_sorted bt_sorted (pa_cons (pv 6) pa_nil)) pa_nil)) pa_nil)))))))) (pss_one (ps_ret pe_bl)) pss_nil)))))))))))))))))
   (pss_one (ps_ret pe_bl))),?_⟩
  refine ⟨_,rfl,u,_,rfl,.inl hS,_,_,rfl,_,_,rfl,_,rfl,?_⟩
  have hz:∀ l:Int,0<=l->∃ z:Nat,(if (if (3:Int) < l then 3 else l) > 1 then (if (3:Int) < l then 3 else l) else 1) = (z:Int)/\z<=3:=fun l h0=>by
   by_cases h1:(3:Int) < l
   ·rw [if_pos h1]; exact ⟨3,by decide,by decide⟩
   ·rw [if_neg h1]
    by_cases h2:l > 1
    ·rw [if_pos h2]; exact ⟨l.toNat,by omega,by omega⟩
    ·rw [if_neg h2]; exact ⟨1,by decide,by decide⟩
  obtain ⟨z,ez,hz⟩:=hz ((xs.map V.int).length:Int) (by omega)
  rw [ez]
  refine ⟨by omega,by omega,?_⟩
  rw [Int.toNat_natCast]
  refine for_rangeG (fun i σ H1=>(∃ v1 v2 v3 v4 v5 v6 v7 v8 v9 va vb,σ = [some (.ref u),v1,v2,v3,v4,v5,v6,v7,v8,v9,va,vb])/\Same H H1) ?_ ?_ ?_
  ·exact ⟨⟨_,_,_,_,_,_,_,_,_,_,_,rfl⟩,fun b o e=>e⟩
  ·rintro i σ H1 hi ⟨⟨v1,v2,v3,v4,v5,v6,v7,v8,v9,va,vb,rfl⟩,s1⟩ D1 hD1 hrt1
   rw [Int.zero_add]
   refine g_seq fun N1 hN1=>?_
   refine ex1 rfl (ex1 rfl ⟨u,xs,i,rfl,(s1.at u).seqL hS,by omega,fun p H3 hp s3 L3=>?_⟩)
   refine hN1 _ _ (seq_gen fun N2 hN2=>?_)
   refine ex1 rfl ⟨p,0,rfl,L3,by omega,fun t rl sl rs ps c H4 k4 et LL SS DR L4 hc4=>?_⟩
   refine ⟨t,ex1 rfl ⟨SqT.of et,rfl,_,ex1 rfl (ex2_3 rfl rfl ?_)⟩⟩
   have k14:Sm [p] H1 H4:=s3.sm.trans k4
   clear k4 s3 et
   refine hN2 _ _ (seq_gen fun N3 hN3=>?_)
   refine ⟨Nat.zero_le _,fun nm hnm=>?_⟩
   have u5:=Same.new (o:=.lst []) hnm
   have f5:(upd H4 nm (.lst [])) nm = some (.lst []):=upd_same
   have npm:nm ≠ p:=(ne_of_none L4.get hnm).symm
   have nrl:rl ≠ nm:=ne_of_none LL.1 hnm
   have nrm:∀ q ∈ rs,q.1 ≠ nm:=fun q hq=>ne_of_none (LL.2 q hq).2 hnm
   have nsl:sl ≠ nm:=ne_of_none SS.1 hnm
   have hnm1:H1 nm = none:=by
    cases e:H1 nm with
    | none=>rfl
    | some o =>
     have e2:=Sm1 k14 e npm
     rw [hnm] at e2
     cases e2
   have LL:=LL.same u5
   have SS:=SS.same u5
   have L5:=L4.same u5
   have k15:=k14.trans u5.sm
   show N3 _ (upd H4 nm (.lst []))
   generalize upd H4 nm (.lst []) = H5 at f5 LL SS L5 k15 ⊢
   clear u5 k14 L4 hnm
   have lrs:rs.length<=6:=by have:=DR.le; rwa [List.length_map] at this
   refine hN3 _ _ (seq_gen fun N4 hN4=>?_)
   refine ex1 rfl ⟨rl,rfl,⟨_,SqL.of LL.1⟩,for_asG (asL (K:=K) (SqL.of LL.1)) (fun j σ HX=>(∃ v6,σ = [some (.ref u),some (.int (i:Int)),some (.ref p),some (.ref rl),some (.ref sl),some (.ref nm),v6,v7,v8,v9,va,vb])/\Sm [p] H1 HX/\LLx HX rl rs/\SL HX sl ps/\LeftAt HX p c/\HX nm = some (.lst (((rs.take j).map fun q=>q.2).flatten.map V.str))) ?_ ?_ ?_ ?_⟩
   ·exact ⟨⟨_,rfl⟩,k15,LL,SS,L5,f5⟩
   ·rintro j σ HX hj ⟨_,_,LX,_⟩ o e
    rw [LL.1] at e
    rw [LX.1]
    exact e
   ·rintro j σ HX v hv ⟨⟨v6,rfl⟩,kX,LX,SX,LfX,eX⟩ D2 hD2 _
    rw [List.getElem?_map] at hv
    obtain ⟨y,hy,rfl⟩:=Option.map_eq_some_iff.mp hv
    have ym:=List.mem_of_getElem? hy
    have l1:((rs.take j).map fun q=>q.2).flatten.length<=30:=by
     have h1:((rs.take j).map fun q=>q.2).flatten.length<=(rs.map fun q=>q.2).flatten.length:=by
      conv=>rhs; rw [<-List.take_append_drop j rs,List.map_append,List.flatten_append,List.length_append]
      omega
     exact Nat.le_trans h1 DR.l30
    have l2:y.2.length<=30:=Nat.le_trans (List.sublist_flatten_of_mem (List.mem_map.mpr ⟨y,ym,rfl⟩)).length_le DR.l30
    refine ex1 rfl ⟨.inl ⟨rfl,_,SqL.of eX⟩,ex1 rfl ⟨nm,y.1,_,_,rfl,rfl,eX,(LX.2 y ym).2,by rw [List.length_map,List.length_map,sizeLine_eq]; omega,hD2 _ _ ⟨⟨_,rfl⟩,kX.updN hnm1,LX.but nrl.symm nrm,⟨(upd_ne nsl).trans SX.1,fun q hq=>(upd_ne (ne_of (SX.2 q hq) eX (by intro z; cases z))).trans (SX.2 q hq)⟩,LfX.upd npm.symm,?_⟩⟩⟩
    rw [upd_same,take_succ hy,List.map_append,List.flatten_append,List.map_append]
    show some (HO.lst (_ ++ _)) = some (HO.lst (_ ++ List.map V.str ([y.2].flatten)))
    rw [List.flatten_cons,List.flatten_nil,List.append_nil]
   rintro σ H6 ⟨⟨v6,rfl⟩,k16,L6,S6,Lf6,e6⟩
   rw [List.length_map,List.take_length] at e6
   clear LL SS L5 k15 f5
   obtain ⟨R,hR⟩:∃ R,R = rs.map fun q=>q.2:=⟨_,rfl⟩
   obtain ⟨ks,hks⟩:∃ ks,ks = ps.map fun q=>q.2:=⟨_,rfl⟩
   rw [<-hR,<-hks] at DR
   rw [<-hR] at e6
   have RW:=DR.rws
   have mR:∀ q ∈ rs,q.2 ∈ R:=fun q hq=>by rw [hR]; exact List.mem_map.mpr ⟨q,hq,rfl⟩
   obtain ⟨ns,pn,sn⟩:=sorted_ex R.flatten
   have nn:ns.Nodup:=pn.nodup_iff.mpr RW.nd
   have okn:∀ y ∈ ns,nameB y = true:=fun y hy=>DR.nm.1 y (pn.mem_iff.mp hy)
   have okns:∀ y ∈ ns,PySem.PyData.strOk y = true:=fun y hy=>nameB_ok (okn y hy)
   have lns:ns.length<=30:=by rw [pn.length_eq]; exact DR.l30
   have rsub:∀ {r:List Str},r ∈ R->∀ x ∈ r,x ∈ ns:=fun hr x hx=>pn.mem_iff.mpr (List.mem_flatten.mpr ⟨_,hr,hx⟩)
   have rnd:∀ {r:List Str},r ∈ R->r.Nodup:=fun hr=>(nodup_flat RW.nd).1 _ hr
   have rlen:∀ {r:List Str},r ∈ R->r.length<=30:=fun hr=>Nat.le_trans (List.sublist_flatten_of_mem hr).length_le DR.l30
   have okr:∀ {r:List Str},r ∈ R->∀ x ∈ r,nameB x = true:=fun hr x hx=>okn x (rsub hr x hx)
   have srt1:∀ {r z:List Str},r ∈ R->z.Perm r->z.Pairwise leS->z = srow ns r:=fun hr p so=>srow_of nn sn (rnd hr) (rsub hr) p so
   have oks:∀ {r:List Str},∀ x ∈ srow ns r,nameB x = true:=fun x hx=>okn x (mem_srt.mp hx).1
   have kok:∀ q ∈ ps,q.2.1 ∈ ns/\q.2.2 ∈ ns:=fun q hq=>by
    obtain ⟨i,j,r,r',h1,h2,h3,h4,_⟩:=RW.up q.2 (by rw [hks]; exact List.mem_map.mpr ⟨q,hq,rfl⟩)
    exact ⟨rsub (List.mem_of_getElem? h1) _ h3,rsub (List.mem_of_getElem? h2) _ h4⟩
   have lps:ps.length<=100:=by have:=DR.len; rw [hks,List.length_map] at this; exact this
   have r0:∀ {r:List Str},r ∈ R->∃ x t,r = x :: t:=fun hr=>List.exists_cons_of_ne_nil (RW.ne _ hr)
   refine hN4 _ _ (seq_gen fun N5 hN5=>?_)
   refine ex1 rfl ⟨rl,rfl,⟨_,SqL.of L6.1⟩,fun C hC=>?_⟩
   refine lc_rowsF (srow ns) (cnd ks) L6 (by omega) hC (fun q hq HX sX Q' hQ=>?_) (fun q hq HX sX Q' hQ=>?_) (fun σ H7 ts s7 L7 e7=>?_) _
   ·have eq:=sX _ _ (L6.2 q hq).2
    have lq:(q.2.map V.str).length = q.2.length:=List.length_map ..
    obtain ⟨x,t,er⟩:=r0 (mR q hq)
    have ax:atI (q.2.map V.str) ((0:Nat):Int) = some (.str x):=atI_nat (by rw [er]; rfl)
    refine ex1 rfl (ex2_3 (a:=q.1) rfl (.inl (SqL.of eq)) (ex2_3 rfl rfl (ex1 rfl (ite2 (fun c=>?_) (fun c=>?_)))))
    ·have c:1 < q.2.length:=by
      have:=of_decide_eq_true c
      rw [lq] at this
      omega
     have e:cnd ks q.2 = true:=by unfold cnd; rw [decide_eq_true c]; rfl
     have:=hQ HX fun b o e=>e
     rw [e] at this
     exact this
    ·have c:¬ 1 < q.2.length:=fun z=>c (decide_eq_true (by rw [lq]; omega))
     refine ex1 rfl ⟨q.1,_,ex2_3 rfl rfl ⟨SqL.of eq,ax,ex1 rfl ⟨q.1,_,ex2_3 rfl rfl ⟨SqL.of eq,ax,by show 2<=sizeLine; decide,fun t1 ht1=>?_⟩⟩⟩⟩
     have u1:=Same.new (o:=.tup [.str x,.str x]) ht1
     have SX:=(S6.same sX).same u1
     have okx:PySem.PyData.strOk x = true:=nameB_ok (okr (mR q hq) x (by rw [er]; exact List.mem_cons_self ..))
     refine ex1 rfl (in_pair (k:=(x,x)) upd_same SX.1 SX.2 ⟨okx,okx⟩ (fun q hq=>⟨okns _ (kok q hq).1,okns _ (kok q hq).2⟩) (ex1 rfl ?_))
     have e:cnd ks q.2 = decide ((x,x) ∈ ps.map fun q=>q.2):=by
      unfold cnd
      rw [decide_eq_false c,Bool.false_or,er,hks]; rfl
     have:=hQ _ u1
     rw [e] at this
     exact this
   ·refine ex1 rfl ⟨q.1,q.2,rfl,SqL.of (sX _ _ (L6.2 q hq).2),fun l ss' hl pl so=>?_⟩
    rw [srt1 (mR q hq) pl so]
    exact hQ l _ (Same.new hl) hl upd_same
   rw [<-hR] at e7
   have mts:∀ q ∈ ts,∃ r ∈ R,cnd ks r = true/\q.2 = srow ns r:=fun q hq=>by
    have:q.2 ∈ (R.filter (cnd ks)).map (srow ns):=by rw [<-e7]; exact List.mem_map.mpr ⟨q,hq,rfl⟩
    obtain ⟨r,hr,e⟩:=List.mem_map.mp this
    exact ⟨r,(List.mem_filter.mp hr).1,(List.mem_filter.mp hr).2,e.symm⟩
   have lls:LLs (ts.map fun q=>q.2):=⟨fun z hz=>by
    obtain ⟨q,hq,rfl⟩:=List.mem_map.mp hz
    obtain ⟨r,hr,_,e⟩:=mts q hq
    obtain ⟨n,t,e2,_⟩:=RW.hd pn hr
    rw [e,e2]
    exact List.cons_ne_nil _ _,fun z hz z' hz' e=>by
    obtain ⟨q,hq,rfl⟩:=List.mem_map.mp hz
    obtain ⟨q',hq',rfl⟩:=List.mem_map.mp hz'
    obtain ⟨r,hr,_,e1⟩:=mts q hq
    obtain ⟨r',hr',_,e1'⟩:=mts q' hq'
    obtain ⟨n,t,e2,_,h2⟩:=RW.hd pn hr
    obtain ⟨n',t',e2',_,h2'⟩:=RW.hd pn hr'
    have e:q.2.head? = q'.2.head?:=e
    show q.2 = q'.2
    rw [e1,e1',e2,e2'] at e
    have e:n = n':=Option.some.inj e
    subst e
    obtain ⟨i,hi⟩:=List.mem_iff_getElem?.mp hr
    obtain ⟨j,hj⟩:=List.mem_iff_getElem?.mp hr'
    have:=flat_idx RW.nd hi hj h2 h2'
    subst this
    rw [hi] at hj
    cases hj
    rw [e1,e1']⟩
   have lts:ts.length<=6:=by
    have:=congrArg List.length e7
    rw [List.length_map,List.length_map] at this
    have h2:=List.length_filter_le (cnd ks) R
    have h3:=DR.le
    omega
   refine ⟨C,ts,rfl,SqL.of L7.1,fun q hq=>(L7.2 q hq).2,lls,fun du zs hdu pz so=>?_⟩
   have u8:=Same.new (o:=.lst (zs.map fun q=>V.ref q.1)) hdu
   have Z8:LLx (upd H7 du (.lst (zs.map fun q=>V.ref q.1))) du zs:=⟨upd_same,fun q hq=>⟨ne_of_none (L7.2 q (pz.mem_iff.mp hq)).2 hdu,u8 _ _ (L7.2 q (pz.mem_iff.mp hq)).2⟩⟩
   have s68:=s7.trans u8
   have ez:(zs.map fun q=>q.2) = tops ns ns (rM ks) (rO ks):=RW.rings pn sn (by rw [<-e7]; exact pz.map _) (List.pairwise_map.mpr so)
   have mzs:∀ q ∈ zs,∃ r ∈ R,cnd ks r = true/\q.2 = srow ns r:=fun q hq=>mts q (pz.mem_iff.mp hq)
   have lzs:zs.length<=6:=by rw [pz.length_eq]; exact lts
   show N5 _ (upd H7 du (.lst (zs.map fun q=>V.ref q.1)))
   generalize upd H7 du (.lst (zs.map fun q=>V.ref q.1)) = H8 at Z8 s68 ⊢
   clear u8 L7 s7 hdu e7 mts lls lts pz so hC
   have Lf8:=Lf6.same s68
   have L8:=L6.same s68
   have S8':=S6.same s68
   have e8:=s68 _ _ e6
   have k18:=k16.trans s68.sm
   clear s68 L6 S6 e6 Lf6 k16
   refine hN5 _ _ (seq_gen fun N6 hN6=>?_)
   have lmf:(R.flatten.map V.str).length = R.flatten.length:=List.length_map ..
   have fpos:0 < R.flatten.length:=by
    obtain ⟨r,t,e⟩:=List.exists_cons_of_ne_nil DR.pos
    have hr:r ∈ R:=by rw [e]; exact List.mem_cons_self ..
    obtain ⟨x,t,er⟩:=r0 hr
    exact List.length_pos_of_mem (List.mem_flatten.mpr ⟨r,hr,by rw [er]; exact List.mem_cons_self ..⟩)
   have l30:=DR.l30
   refine ex1 rfl (ex1 rfl (ex2_3 (a:=nm) rfl (.inl (SqL.of e8)) (ex3_6 (a:=p) rfl Lf8 (by omega) (by rw [lmf]; omega) (by rw [lmf]; omega) fun d9 H9 hd9 k9 L9=>?_)))
   have k19:=k18.trans k9
   have B9:B8 T.CWeb H1 H9 rl sl nm du rs ps zs:=⟨L8.sm Lf8 k9,S8'.sm Lf8 k9,by rw [<-hR]; exact Sm1 k9 e8 npm,Z8.sm Lf8 k9,fun b o e=>k19 b o e (by simpa using ne_of_none e hp)⟩
   have e9:=B9.en
   rw [<-hR] at e9
   refine hN6 _ _ (seq_gen fun N7 hN7=>?_)
   refine ex1 rfl (ex1 rfl (ex1 rfl ⟨nm,_,rfl,SqL.of e9,fun b1 hb1=>?_⟩))
   rw [cut_dropN,<-List.map_drop]
   have ua:=Same.new (o:=.lst ((R.flatten.drop d9).map V.str)) hb1
   have fa:(upd H9 b1 (.lst ((R.flatten.drop d9).map V.str))) b1 = some (.lst ((R.flatten.drop d9).map V.str)):=upd_same
   generalize upd H9 b1 (.lst ((R.flatten.drop d9).map V.str)) = Ha at ua fa ⊢
   refine ex1 rfl (ex1 rfl (ex1 rfl ⟨nm,_,rfl,SqL.of (ua _ _ e9),fun b2 hb2=>?_⟩))
   rw [cut_take,<-List.map_take]
   have ub:=Same.new (o:=.lst ((R.flatten.take d9).map V.str)) hb2
   have fb:(upd Ha b2 (.lst ((R.flatten.take d9).map V.str))) b2 = some (.lst ((R.flatten.take d9).map V.str)):=upd_same
   generalize upd Ha b2 (.lst ((R.flatten.take d9).map V.str)) = Hb at ub fb ⊢
   have lrot:(R.flatten.drop d9 ++ R.flatten.take d9).length = R.flatten.length:=by rw [List.length_append,List.length_drop,List.length_take]; omega
   refine ⟨b1,b2,_,_,rfl,rfl,ub _ _ fa,fb,?_,fun b3 hb3=>?_⟩
   ·rw [<-List.length_append,<-List.map_append,List.length_map,lrot,sizeLine_eq]; omega
   rw [<-List.map_append]
   have uc:=Same.new (o:=.lst ((R.flatten.drop d9 ++ R.flatten.take d9).map V.str)) hb3
   have fc:(upd Hb b3 (.lst ((R.flatten.drop d9 ++ R.flatten.take d9).map V.str))) b3 = some (.lst ((R.flatten.drop d9 ++ R.flatten.take d9).map V.str)):=upd_same
   generalize upd Hb b3 (.lst ((R.flatten.drop d9 ++ R.flatten.take d9).map V.str)) = Hc at uc fc ⊢
   have s9c:=(ua.trans ub).trans uc
   clear fa fb ua ub uc hb1 hb2 hb3
   refine ex1 rfl ⟨sl,_,rfl,s9c _ _ B9.S.1,fun b4 hb4=>?_⟩
   have erv:(refs ps).reverse = refs ps.reverse:=by unfold refs; rw [List.map_reverse]
   rw [erv]
   have ud:=Same.new (o:=.lst (refs ps.reverse)) hb4
   have fd':(upd Hc b4 (.lst (refs ps.reverse))) b4 = some (.lst (refs ps.reverse)):=upd_same
   generalize upd Hc b4 (.lst (refs ps.reverse)) = Hd at ud fd' ⊢
   have fc:=ud _ _ fc
   have s9d:=s9c.trans ud
   clear s9c ud hb4
   have prot:(R.flatten.drop d9 ++ R.flatten.take d9).Perm R.flatten:=List.perm_append_comm.trans (by rw [List.take_append_drop])
   have N9:NamesOk (R.flatten.drop d9 ++ R.flatten.take d9):=⟨fun x hx=>DR.nm.1 x (prot.mem_iff.mp hx),prot.nodup_iff.mpr DR.nm.2.1,by rw [lrot]; exact DR.nm.2.2⟩
   have O9:StrkOk R.flatten ps:=Drawn.strk (by rw [<-hks]; exact DR) fun x=>Iff.rfl
   have prv:(ps.reverse.map fun q=>q.2).Perm (ps.map fun q=>q.2):=(List.reverse_perm ps).map _
   have O9':StrkOk (R.flatten.drop d9 ++ R.flatten.take d9) ps.reverse:=⟨fun q hq=>let ⟨h1,h2⟩:=O9.nm q (List.mem_reverse.mp hq); ⟨prot.mem_iff.mpr h1,prot.mem_iff.mpr h2⟩,prv.nodup_iff.mpr O9.nd,by rw [List.length_reverse]; exact O9.len⟩
   intro x dx nx ndx nex
   have s0:Same Hd (upd (upd Hd dx (.own x)) x (.ins T.CWeb dx [])):=fun b o e=>by
    rw [upd_ne (ne_of_none e nx),upd_ne (ne_of_none e ndx)]
    exact e
   refine ex6_8 (a:=x) (b:=dx) (c:=b3) (d:=R.flatten.drop d9 ++ R.flatten.take d9) (e:=b4) (f:=ps.reverse) rfl upd_same (.inl (SqL.of (s0 _ _ fc))) N9 (s0 _ _ fd') (same_pairs (s9d.trans s0) fun q hq=>B9.S.2 q (List.mem_reverse.mp hq)) O9' fun nw qs Hw pnw srw pq srq kw W _=>⟨rfl,?_⟩
   have enw:nw = ns:=sorted_one srw sn (pnw.trans (prot.trans pn.symm))
   rw [enw] at W
   have s9w:Same H9 Hw:=s9d.trans fun b o e=>kw b o (s0 b o e) (by simpa using ne_of_none e nx)
   have kq:(qs.map fun q=>q.2).Perm ks:=by rw [hks]; exact (pq.map _).trans prv
   have Bw:=B9.same s9w
   have ew:=s9w _ _ e9
   clear s0 kw srq pq srw pnw enw O9' N9 fc fd' s9d erv nx ndx nex
   refine hN7 _ _ (seq_gen fun N8 hN8=>?_)
   obtain ⟨c1,c2,c3⟩:=pr_congr kq
   refine ex1 rfl ⟨x,ns,qs,rfl,W,fun lr zr He se hlr Lr frr err=>?_⟩
   rw [c2,c3] at err
   have Be:=Bw.same se
   obtain ⟨xs2,ys2,r1,r2,r3,r4,r5⟩:=same_LLx (S:=sp_none) Lr Be.Z err ez okns (by omega)
   refine ex1 rfl (.inr ⟨lr,du,true,xs2,ys2,rfl,r1,r2,r3,r4,r5,fun Hf sf=>⟨_,rfl,iteF ?_⟩⟩)
   clear r1 r2 r3 r4 r5
   have Bf:=Be.same sf
   have swf:=se.trans sf
   have ef:=swf _ _ ew
   clear Lr frr err hlr
   refine ex1 rfl (ex1 rfl ?_)
   intro x1 dx1 nx1 ndx1 nex1
   have s0:Same Hf (upd (upd Hf dx1 (.own x1)) x1 (.ins T.CWeb dx1 [])):=fun b o e=>by
    rw [upd_ne (ne_of_none e nx1),upd_ne (ne_of_none e ndx1)]
    exact e
   refine ex6_8 (a:=x1) (b:=dx1) (c:=nm) (d:=R.flatten) (e:=sl) (f:=ps) rfl upd_same (.inl (SqL.of (s0 _ _ ef))) DR.nm (s0 _ _ Bf.S.1) (same_pairs s0 Bf.S.2) O9 fun nw qs1 Hg pnw srw pq1 srq1 kg W1 _=>⟨rfl,?_⟩
   have enw:nw = ns:=sorted_one srw sn (pnw.trans pn.symm)
   rw [enw] at W1
   have sfg:Same Hf Hg:=fun b o e=>kg b o (s0 b o e) (by simpa using ne_of_none e nx1)
   obtain ⟨_,c2',c3'⟩:=pr_congr (show (qs1.map fun q=>q.2).Perm ks by rw [hks]; exact pq1.map _)
   refine ⟨x1,ns,qs1,rfl,W1,fun lr zr He se hlr Lr frr err=>?_⟩
   rw [c2',c3'] at err
   have Be:=(Bf.same sfg).same se
   obtain ⟨xs2,ys2,r1,r2,r3,r4,r5⟩:=same_LLx (S:=sp_none) Lr Be.Z err ez okns (by omega)
   refine ex1 rfl (.inr ⟨lr,du,true,xs2,ys2,rfl,r1,r2,r3,r4,r5,fun Hh sh=>⟨_,rfl,iteF ?_⟩⟩)
   clear r1 r2 r3 r4 r5
   have swh:=((swf.trans sfg).trans se).trans sh
   have Bh:=Bw.same swh
   have Wh:=W.same swh
   have eh:=swh _ _ ew
   clear Lr frr err hlr W1 Be Bf Bw ew ef swf sfg s0 kg enw srw pnw pq1 srq1 c2' c3' nx1 ndx1 nex1 se sh swh W s9w sf e9 B9
   refine hN8 _ _ (seq_gen fun N9 hN9=>?_)
   refine ex1 rfl (ex1 rfl ⟨sl,rfl,⟨_,SqL.of Bh.S.1⟩,fun C hC=>lc_swap Bh.S (by omega) hC (fun σ Hi sw si Si ei=>?_) _ _⟩)
   have lsw:sw.length = ps.length:=by
    have:=congrArg List.length ei
    rwa [List.length_map,List.length_map] at this
   refine ⟨sl,C,_,_,rfl,rfl,(Bh.S.same si).1,Si.1,by rw [refs_len,refs_len,sizeLine_eq]; omega,fun bo hbo=>?_⟩
   have era:refs ps ++ refs sw = refs (ps ++ sw):=by unfold refs; rw [List.map_append]
   rw [era]
   have uj:=Same.new (o:=.lst (refs (ps ++ sw))) hbo
   have SB:SL (upd Hi bo (.lst (refs (ps ++ sw)))) bo (ps ++ sw):=⟨upd_same,fun q hq=>uj _ _ ((List.mem_append.mp hq).elim (fun z=>(Bh.S.same si).2 q z) fun z=>Si.2 q z)⟩
   generalize upd Hi bo (.lst (refs (ps ++ sw))) = Hj at uj SB ⊢
   have shj:=si.trans uj
   have Bj:=Bh.same shj
   have Wj:=Wh.same shj
   have ej:=shj _ _ eh
   clear Bh Wh eh shj si Si uj hbo era hC
   have ksw:∀ q ∈ ps ++ sw,q.2.1 ∈ ns/\q.2.2 ∈ ns:=fun q hq=>by
    rcases List.mem_append.mp hq with z | z
    ·exact kok q z
    ·have:q.2 ∈ ps.map (fun q=>(q.2.2,q.2.1)):=by rw [<-ei]; exact List.mem_map.mpr ⟨q,z,rfl⟩
     obtain ⟨q',h1,h2⟩:=List.mem_map.mp this
     rw [<-h2]
     exact ⟨(kok q' h1).2,(kok q' h1).1⟩
   refine hN9 _ _ (seq_gen fun Na hNa=>?_)
   refine ex1 rfl ⟨nm,_,rfl,SqL.of ej,fun so ss' hso p2 w2=>?_⟩
   rw [sorted_one w2 sn (p2.trans pn.symm)]
   have uk:=Same.new (o:=.lst (ns.map V.str)) hso
   have fk:(upd Hj so (.lst (ns.map V.str))) so = some (.lst (ns.map V.str)):=upd_same
   generalize upd Hj so (.lst (ns.map V.str)) = Hk at uk fk ⊢
   have SB:=SB.same uk
   refine ⟨so,rfl,⟨_,SqL.of fk⟩,fun C hC=>lc_strsL (fun n=>srt ns (pM ks n)) fk (by omega) hC (fun y hy HX sX Q' hQ=>?_) (fun σ Hl tl sl' Ll el=>?_) _⟩
   ·refine ex1 rfl ⟨by show 1<=sizeLine; decide,fun t ht=>?_⟩
    have u1:=Same.new (o:=.lst [.str y]) ht
    have SX:=(SB.same sX).same u1
    refine ex1 rfl ⟨t,bo,false,ns,[y],ps ++ sw,rfl,upd_same,fun z hz=>by rw [List.mem_singleton.mp hz]; exact hy,List.pairwise_singleton _ _,SX.1,SX.2,ksw,by rw [List.length_append]; omega,by omega,fun l ts H' s2 hl el nd so m sub=>?_⟩
    have e:ts = srt ns (pM ks y):=by
     refine srt_eq nn sn nd so (fun x=>(m x).trans ?_) sub
     rw [hks]
     exact Rch.congr (fun n z=>pw_swap ei) x
    rw [e] at el
    exact hQ l H' (u1.trans s2) (u1.free hl) el
   have sjl:=uk.trans sl'
   have Bl:=Bj.same sjl
   have Wl:=Wj.same sjl
   clear Bj Wj ej SB uk fk hC sl' sjl hso p2 w2 ksw ei lsw
   refine hNa _ _ (seq_gen fun Nb hNb=>?_)
   refine ex1 rfl ⟨x,ns,qs,rfl,Wl,fun lp zp Hm sm hlp Lp frp ep=>?_⟩
   rw [c1] at ep
   have Lm:=Ll.same sm
   refine ex1 rfl ⟨C,_,rfl,enum_sqs (.inl (SqL.of Lm.1)) (fun o e=>e) fun sq2 hk2 C2 hC2=>lc_once (cls_p ks) nn sn okn Lm el hk2 (by omega) hC2 (fun σ Hn zn sn' Ln en'=>?_) _ _⟩
   obtain ⟨xs2,ys2,r1,r2,r3,r4,r5⟩:=same_LLx (S:=sp_none) (Lp.same sn') Ln ep en' okns (by omega)
   refine .inr ⟨lp,C2,true,xs2,ys2,rfl,r1,r2,r3,r4,r5,fun Ho so'=>⟨_,rfl,iteF ?_⟩⟩
   have slo:=(sm.trans sn').trans so'
   have Bo:=Bl.same slo
   have Wo:=Wl.same slo
   clear r1 r2 r3 r4 r5 Ln en' Lm Lp frp hlp ep Ll el Bl Wl slo sm sn' so' hC2 hk2
   refine hNb _ _ ?_
   have lqs:qs.length<=200:=by
    have:=kq.length_eq
    rw [List.length_map,hks,List.length_map] at this
    omega
   refine ex1 rfl ⟨rl,rfl,⟨_,SqL.of Bo.L.1⟩,for_asG (asL (K:=K) (SqL.of Bo.L.1)) (fun j σ HX=>(∃ v6,σ = [some (.ref u),some (.int (i:Int)),some (.ref p),some (.ref rl),some (.ref sl),some (.ref nm),v6,some (.ref du),some (.int (d9:Int)),some (.ref x),some (.ref bo),some (.ref C)])/\Same Ho HX) ?_ ?_ ?_ ?_⟩
   ·exact ⟨⟨_,rfl⟩,fun b o e=>e⟩
   ·rintro j σ HX hj ⟨_,sX⟩ o e
    exact sX _ _ e
   ·rintro j σ HX v hv ⟨⟨v6,rfl⟩,sX⟩ D2 hD2 _
    rw [List.getElem?_map] at hv
    obtain ⟨y,hy,rfl⟩:=Option.map_eq_some_iff.mp hv
    have ym:=List.mem_of_getElem? hy
    have hr:=mR y ym
    obtain ⟨x0,t0,er⟩:=r0 hr
    have hx0:x0 ∈ ns:=rsub hr x0 (by rw [er]; exact List.mem_cons_self ..)
    have tk1:(y.2.map V.str).take 1 = [x0].map V.str:=by rw [er]; rfl
    have BX:=Bo.same sX
    have WX:=Wo.same sX
    have ey:=(BX.L.2 y ym).2
    refine g_seq fun M1 hM1=>?_
    refine ex1 rfl (ex1 rfl (ex1 rfl ⟨y.1,_,rfl,SqL.of ey,fun b1 hb1=>?_⟩))
    rw [show cutV (y.2.map V.str) none (some 1) = [x0].map V.str from (cut_take (k:=1)).trans tk1]
    have ua:=Same.new (o:=.lst ([x0].map V.str)) hb1
    refine ⟨x,b1,ns,[x0],qs,rfl,WX.same ua,fun z hz=>by rw [List.mem_singleton.mp hz]; exact hx0,List.pairwise_singleton _ _,.inl (SqL.of upd_same),fun l1 t1 Hb sb hl1 e1 nd1 so1 m1 sub1=>?_⟩
    have sXb:=ua.trans sb
    refine ex1 rfl (ex1 rfl ⟨y.1,_,rfl,SqL.of (sXb _ _ ey),fun b2 hb2=>?_⟩)
    rw [show cutV (y.2.map V.str) none (some 1) = [x0].map V.str from (cut_take (k:=1)).trans tk1]
    have uc:=Same.new (o:=.lst ([x0].map V.str)) hb2
    have SC:=(BX.S.same sXb).same uc
    refine ex1 rfl ⟨b2,sl,false,ns,[x0],ps,rfl,upd_same,fun z hz=>by rw [List.mem_singleton.mp hz]; exact hx0,List.pairwise_singleton _ _,SC.1,SC.2,kok,by omega,by omega,fun l2 t2 Hc sc' hl2 e2 nd2 so2 m2 sub2=>?_⟩
    have e12:t1 = t2:=tells_eq nd1 nd2 so1 so2 fun z=>(m1 z).trans ((Rch.congr (fun n y=>by
     show y ∈ struckOf qs n ↔ y ∈ struckOf ps n
     rw [mem_struck,mem_struck,<-hks,kq.mem_iff]) z).trans (m2 z).symm)
    rw [<-e12] at e2
    have l1n:t1.length<=ns.length:=nd_len nd1 sub1
    obtain ⟨xx,yy,r1,r2,r3,r4,r5⟩:=same_SL (S:=sp_same sp_none) ((uc.trans sc') _ _ e1) e2 (fun z hz=>okns z (sub1 z hz)) (by omega)
    refine .inr ⟨l1,l2,true,xx,yy,rfl,r1,r2,r3,r4,r5,fun Hd sd'=>⟨_,rfl,iteF ?_⟩⟩
    have sXd:=((sXb.trans uc).trans sc').trans sd'
    have Bd:=BX.same sXd
    have Wd:=WX.same sXd
    have ed:=sXd _ _ ey
    have sod:=sX.trans sXd
    clear r1 r2 r3 r4 r5 e1 e2 e12 nd1 nd2 so1 so2 m1 m2 sub1 sub2 SC uc sc' sd' sXb sb ua hb1 hb2 hl1 hl2 l1n BX WX ey sXd sX
    refine hM1 _ _ ?_
    refine ex1 rfl ⟨y.1,y.2,rfl,SqL.of ed,fun l3 z3 hl3 p3 w3=>?_⟩
    rw [srt1 hr p3 w3]
    have ue:=Same.new (o:=.lst ((srow ns y.2).map V.str)) hl3
    have fe:(upd Hd l3 (.lst ((srow ns y.2).map V.str))) l3 = some (.lst ((srow ns y.2).map V.str)):=upd_same
    generalize upd Hd l3 (.lst ((srow ns y.2).map V.str)) = He at ue fe ⊢
    have Be:=Bd.same ue
    have We:=Wd.same ue
    have ee:=ue _ _ ed
    have soe:=sod.trans ue
    refine ex1 rfl (in_LL (x:=srow ns y.2) false fe Be.Z.1 (fun q hq=>(Be.Z.2 q hq).2) oks (fun q hq=>by
     obtain ⟨r,_,_,e⟩:=mzs q hq
     rw [e]
     exact oks) (ex1 rfl ?_))
    rw [if_neg (by decide)]
    refine ite2 (fun c=>?_) (fun c=>iteF (hD2 _ _ ⟨⟨_,rfl⟩,soe⟩))
    have cy:cnd ks y.2 = true:=by
     obtain ⟨q,hq,e⟩:=List.mem_map.mp (of_decide_eq_true c)
     obtain ⟨r,hr',hc,e'⟩:=mzs q hq
     obtain ⟨n,t,e1,_,h1⟩:=RW.hd pn hr
     have h2:n ∈ r:=by
      have:n ∈ srow ns r:=by rw [<-e',e,e1]; exact List.mem_cons_self ..
      exact (mem_srt.mp this).2
     obtain ⟨a,ha⟩:=List.mem_iff_getElem?.mp hr
     obtain ⟨b,hb⟩:=List.mem_iff_getElem?.mp hr'
     have:=flat_idx RW.nd ha hb h1 h2
     subst this
     rw [ha] at hb
     cases hb
     exact hc
    refine ex1 rfl (ex1 rfl ⟨x,y.1,y.2,ns,qs,rfl,We,.inl (SqL.of ee),⟨okr hr,rnd hr,Nat.le_trans (rlen hr) (by decide)⟩,lqs,fun xp np qp Hf sf pnp snp kp _ Wp _=>?_⟩)
    refine ⟨xp,np,qp,rfl,Wp,fun lr zr Hg sg hlr Lr frr err=>?_⟩
    have sef:=sf.trans sg
    refine ex1 rfl ⟨y.1,y.2,rfl,SqL.of (sef _ _ ee),fun l4 z4 hl4 p4 w4=>?_⟩
    have uh:=Same.new (o:=.lst (z4.map V.str)) hl4
    have fh:(upd Hg l4 (.lst (z4.map V.str))) l4 = some (.lst (z4.map V.str)):=upd_same
    have Lr:=Lr.same uh
    have sgh:=sef.trans uh
    generalize upd Hg l4 (.lst (z4.map V.str)) = Hh at fh Lr sgh ⊢
    refine ⟨by show 1<=sizeLine; decide,fun li hli=>?_⟩
    have ui:=Same.new (o:=.lst [.ref l4]) hli
    have Li:LLx (upd Hh li (.lst [.ref l4])) li [(l4,z4)]:=⟨upd_same,fun q hq=>by
     rw [List.mem_singleton.mp hq]
     exact ⟨ne_of_none fh hli,ui _ _ fh⟩⟩
    have Lr:=Lr.same ui
    have soi:=soe.trans (sgh.trans ui)
    generalize upd Hh li (.lst [.ref l4]) = Hi at Li Lr soi ⊢
    have eks:∀ k,k ∈ ks.filter (btw y.2) ↔ k ∈ qp.map fun q=>q.2:=fun k=>by rw [kp.mem_iff,(kq.filter _).mem_iff]
    have R1:=(RW.one hr).congr eks
    have f1:[y.2].flatten = y.2:=by rw [List.flatten_cons,List.flatten_nil,List.append_nil]
    have npn:np.Nodup:=pnp.nodup_iff.mpr (rnd hr)
    have cp:cnd (qp.map fun q=>q.2) y.2 = true:=by rw [<-cnd_congr eks,cnd_one (RW.ne _ hr)]; exact cy
    have ez4:z4 = srow np y.2:=srow_of npn snp (rnd hr) (fun z hz=>pnp.mem_iff.mpr hz) p4 w4
    have e4:([(l4,z4)].map fun q=>q.2) = tops np np (rM (qp.map fun q=>q.2)) (rO (qp.map fun q=>q.2)):=by
     refine R1.rings (by rw [f1]; exact pnp) snp ?_ (List.pairwise_singleton _ _)
     rw [List.filter_cons,if_pos cp,List.filter_nil,List.map_cons,List.map_nil,ez4]; rfl
    have lnp:np.length<=30:=by rw [pnp.length_eq]; exact rlen hr
    obtain ⟨xs2,ys2,r1,r2,r3,r4,r5⟩:=same_LLx (S:=sp_none) Lr Li err e4 (fun z hz=>nameB_ok (okr hr z (pnp.mem_iff.mp hz))) (by omega)
    exact .inr ⟨lr,li,true,xs2,ys2,rfl,r1,r2,r3,r4,r5,fun Hj sj=>⟨_,rfl,iteF (hD2 _ _ ⟨⟨_,rfl⟩,soi.trans sj⟩)⟩⟩
   ·rintro σ HX ⟨⟨v6,rfl⟩,sX⟩
    exact hD1 _ _ ⟨⟨_,_,_,_,_,_,_,_,_,_,_,rfl⟩,s1.trans (Bo.sm.trans sX)⟩
  ·rintro σ H1 ⟨_,s1⟩
   exact q H1
end
end Sw
namespace Sw
open PySem L2
section
variable {K:PySem.W.Frag} {h:Heap} {mg:Str->Option Value}
noncomputable def fn_mk {x:Str} {st:Stmt} {ps:List Str} {f:Addr} {oc:Value} {od an:Option Addr} {osl:Array (Option Value)} {kV doc pm cdv ct:Value} (X:K.In h) (G:h.Ns mainGlobals mg) (a:PySem.W.nsIn K mainGlobals x = some (some (.ref f)))
  (l:K.lookup f = some ⟨oc,od,.func (PySem.W.fnOf x x (defArgs st) (defBody st) (defScope st) .none kV doc pm an cdv ct),osl⟩) (c:PySem.W.codeIn K cdv x = true) (k:PySem.W.keepIn K (.ref f) = true)
  (hb:∀ (kV doc pm:Value) (an:Option Addr) (cdv ct:Value) (us:List Value),us.length = ps.length->bindArgs (PySem.W.fnOf x x (defArgs st) (defBody st) (defScope st) .none kV doc pm an cdv ct) ⟨us,[]⟩ = pure (ps.zip us)):Fn K mg x st ps :=
 ⟨f,_,fun_mk l c k,(fun_mk l c k).binds hb,PySem.W.mg_of X G a⟩
noncomputable def mt_mk {C:Addr} {x q:Str} {st:Stmt} {ps:List Str} {f:Addr} {oc:Value} {od an:Option Addr} {osl:Array (Option Value)} {kV doc pm cdv ct:Value} (a:PySem.W.findIn K (.ref C) x = some (some (.ref f))) (i:PySem.W.isFn K (.ref f) = true)
  (l:K.lookup f = some ⟨oc,od,.func (PySem.W.fnOf x q (defArgs st) (defBody st) (defScope st) .none kV doc pm an cdv ct),osl⟩) (c:PySem.W.codeIn K cdv q = true) (k:PySem.W.keepIn K (.ref f) = true)
  (hb:∀ (kV doc pm:Value) (an:Option Addr) (cdv ct:Value) (us:List Value),us.length = ps.length->bindArgs (PySem.W.fnOf x q (defArgs st) (defBody st) (defScope st) .none kV doc pm an cdv ct) ⟨us,[]⟩ = pure (ps.zip us)):Mt K C x q st ps :=
 ⟨f,_,fun_mk l c k,(fun_mk l c k).binds hb,⟨a,i,k⟩⟩
theorem str_mk {x z:Str} {v:Value} (X:K.In h) (G:h.Ns mainGlobals mg) (a:PySem.W.nsIn K mainGlobals x = some (some v)) (e:∃ t,v = .str z t):∃ t,mg x = some (.str z t):=by
 obtain ⟨t,rfl⟩:=e
 exact ⟨t,PySem.W.mg_of X G a⟩
theorem int_mk {x:Str} {z:Int} {v:Value} (X:K.In h) (G:h.Ns mainGlobals mg) (a:PySem.W.nsIn K mainGlobals x = some (some v)) (e:∃ t,v = .int z t):∃ t,mg x = some (.int z t):=by
 obtain ⟨t,rfl⟩:=e
 exact ⟨t,PySem.W.mg_of X G a⟩
theorem len1 {us:List Value} (h:us.length = 1):∃ a,us = [a]:=List.length_eq_one_iff.mp h
theorem len2 {us:List Value} (h:us.length = 2):∃ a b,us = [a,b]:=by
 cases us with
 | nil=>cases h
 | cons a r=>obtain ⟨b,rfl⟩:=len1 (Nat.succ.inj h); exact ⟨a,b,rfl⟩
theorem len3 {us:List Value} (h:us.length = 3):∃ a b c,us = [a,b,c]:=by
 cases us with
 | nil=>cases h
 | cons a r=>obtain ⟨b,c,rfl⟩:=len2 (Nat.succ.inj h); exact ⟨a,b,c,rfl⟩
theorem noattr_mk {C:Addr} {f:Str} (h:PySem.W.findIn K (.ref C) f = some none):NoAttr K C f:=h
end
theorem all_mk {l:PySem.W.OpenLaw} {w:World} {K:PySem.W.Frag} {h:Heap} {mg:Str->Option Value} {fa f:Addr} {oc:Value} {od an:Option Addr} {osl:Array (Option Value)} {kV doc pm cdv ct:Value} (X:K.In h) (G:h.Ns mainGlobals mg) (hfa:mg "law" = some (.ref fa))
  (T:Tx K mg) (a:PySem.W.nsIn K mainGlobals "law" = some (some (.ref f))) (lk:K.lookup f = some ⟨oc,od,.func (PySem.W.fnOf "law" "law" (defArgs s_law) (defBody s_law) (defScope s_law) .none kV doc pm an cdv ct),osl⟩) (c:PySem.W.codeIn K cdv "law" = true) (k:PySem.W.keepIn K (.ref f) = true) :
  ∃ fd:FuncData,(∀ (s:Shared) (v:Value),BindsTo s fd ⟨[v],[]⟩ [("_law_script",v)])/\∀ base:Heap,K.In base->base.Ns mainGlobals mg->FnOk l.prog w K mg base CX0 7 fa fd ["_law_script"] (sp_law K):=by
 have e:=hfa.symm.trans (PySem.W.mg_of X G a)
 cases e
 exact ⟨PySem.W.fnOf "law" "law" (defArgs s_law) (defBody s_law) (defScope s_law) .none kV doc pm an cdv ct,fun s v=>.of_eq rfl,fun base _ _=>ok_law T (fun_mk lk c k)⟩
theorem walk {l:PySem.W.OpenLaw} {q:Program} {loose:List Str} {XP:(Str->Option Value)->Heap->Prop} {YP:World->Heap->Prop} {d:DefRec} {K:Params->PySem.W.Frag} (hn:l.most = some 63) (hdf:d.params.defaults = [])
  (hY:∀ (w:World) (h:Heap),YP w h->(K w.params).In h)
  (F:∀ (w:World) (mg:Str->Option Value) (fa:Addr) (h:Heap),(K w.params).In h->h.Ns mainGlobals mg->mg d.name = some (.ref fa) ->
   ∃ fd:FuncData,(∀ (s:Shared) (u:Value),BindsTo s fd ⟨[u],[]⟩ [("_law_script",u)])/\∀ base:Heap,(K w.params).In base->base.Ns mainGlobals mg->FnOk l.prog w (K w.params) mg base CX0 7 fa fd ["_law_script"] (sp_law (K w.params))) :
  PySem.W.WalkO q loose XP YP l.row.toRowW d [] (fun f vs=>PySem.call f vs) :=
 L2.walk_of (n:=63) (k:=7) (x := "_law_script") (CX:=fun _=>CX0) (sp:=fun w=>sp_law (K w.params)) hn (by decide) hdf ⟨rfl,by decide,by decide⟩ hY F (fun _ _ a ns hl _ hS=>⟨a,ns,rfl,hS,hl,fun _=>rfl⟩) fun _ _ _ _ _ z=>z
end Sw
open PySem PySem.W PyProof.Rows
set_option maxRecDepth 100000 in
set_option maxHeartbeats 0 in
theorem PySem.Challenge.cw_strikeweave_k08_rings_lead_on_holds : PySem.Challenge.rw_strikeweave_k08_rings_lead_on.Holds := by
 w_on; o_law; k_head; (case hw=>w_witness2)
 k_fill
 refine Sw.walk (l:=PySem.Challenge.rw_strikeweave_k08_rings_lead_on) rfl rfl (fun w h Y=>PySem.W.kIn_of Y) ?F
 case F =>
  intro w mg fa h KX G hmg
  refine' Sw.all_mk KX G hmg (Sw.Tx.mk (Sw.fn_mk KX G ?a1 ?l2 ?c3 ?k4 (fun _ _ _ _ _ _ us hl=>by obtain ⟨a,rfl⟩:=Sw.len1 hl; rfl))
   (Sw.fn_mk KX G ?a5 ?l6 ?c7 ?k8 (fun _ _ _ _ _ _ us hl=>by obtain ⟨a,rfl⟩:=Sw.len1 hl; rfl))
   (Sw.fn_mk KX G ?a9 ?l10 ?c11 ?k12 (fun _ _ _ _ _ _ us hl=>by obtain ⟨a,b,rfl⟩:=Sw.len2 hl; rfl))
   (Sw.fn_mk KX G ?a13 ?l14 ?c15 ?k16 (fun _ _ _ _ _ _ us hl=>by obtain ⟨a,b,rfl⟩:=Sw.len2 hl; rfl))
   (Sw.fn_mk KX G ?a17 ?l18 ?c19 ?k20 (fun _ _ _ _ _ _ us hl=>by obtain ⟨a,b,rfl⟩:=Sw.len2 hl; rfl))
   (Sw.fn_mk KX G ?a21 ?l22 ?c23 ?k24 (fun _ _ _ _ _ _ us hl=>by obtain ⟨a,b,rfl⟩:=Sw.len2 hl; rfl))
   (Sw.fn_mk KX G ?a25 ?l26 ?c27 ?k28 (fun _ _ _ _ _ _ us hl=>by obtain ⟨a,b,rfl⟩:=Sw.len2 hl; rfl))
   (Sw.fn_mk KX G ?a29 ?l30 ?c31 ?k32 (fun _ _ _ _ _ _ us hl=>by obtain ⟨a,b,rfl⟩:=Sw.len2 hl; rfl))
   (Sw.fn_mk KX G ?a33 ?l34 ?c35 ?k36 (fun _ _ _ _ _ _ us hl=>by obtain ⟨a,rfl⟩:=Sw.len1 hl; rfl))
   (Sw.fn_mk KX G ?a37 ?l38 ?c39 ?k40 (fun _ _ _ _ _ _ us hl=>by obtain ⟨a,rfl⟩:=Sw.len1 hl; rfl))
   (Sw.fn_mk KX G ?a41 ?l42 ?c43 ?k44 (fun _ _ _ _ _ _ us hl=>by obtain ⟨a,b,rfl⟩:=Sw.len2 hl; rfl))
   (Sw.fn_mk KX G ?a45 ?l46 ?c47 ?k48 (fun _ _ _ _ _ _ us hl=>by obtain ⟨a,b,rfl⟩:=Sw.len2 hl; rfl))
   (Sw.fn_mk KX G ?a49 ?l50 ?c51 ?k52 (fun _ _ _ _ _ _ us hl=>by obtain ⟨a,b,rfl⟩:=Sw.len2 hl; rfl))
   (Sw.fn_mk KX G ?a53 ?l54 ?c55 ?k56 (fun _ _ _ _ _ _ us hl=>by obtain ⟨a,b,rfl⟩:=Sw.len2 hl; rfl))
   (Sw.fn_mk KX G ?a57 ?l58 ?c59 ?k60 (fun _ _ _ _ _ _ us hl=>by obtain ⟨a,b,rfl⟩:=Sw.len2 hl; rfl))
   (Sw.fn_mk KX G ?a61 ?l62 ?c63 ?k64 (fun _ _ _ _ _ _ us hl=>by obtain ⟨a,b,c,rfl⟩:=Sw.len3 hl; rfl))
   (Sw.fn_mk KX G ?a65 ?l66 ?c67 ?k68 (fun _ _ _ _ _ _ us hl=>by obtain ⟨a,rfl⟩:=Sw.len1 hl; rfl))
   _
   ⟨?g70,?g71,?g72,?g73⟩
   (PySem.W.mg_of KX G ?q69)
   (Sw.noattr_mk ?n74)
   (Sw.noattr_mk ?n75)
   (Sw.noattr_mk ?n76)
   (Sw.noattr_mk ?n77)
   _
   _
   (L2.fun_mk ?l80 ?c81 ?k82)
   (L2.Fun.binds (L2.fun_mk ?l80 ?c81 ?k82) (fun _ _ _ _ _ _ us hl=>by obtain ⟨a,b,c,rfl⟩:=Sw.len3 hl; rfl))
   ⟨?g83,?a78,?i79,?k84⟩
   (Sw.mt_mk ?a85 ?i86 ?l87 ?c88 ?k89 (fun _ _ _ _ _ _ us hl=>by obtain ⟨a,rfl⟩:=Sw.len1 hl; rfl))
   (Sw.mt_mk ?a90 ?i91 ?l92 ?c93 ?k94 (fun _ _ _ _ _ _ us hl=>by obtain ⟨a,rfl⟩:=Sw.len1 hl; rfl))
   (Sw.mt_mk ?a95 ?i96 ?l97 ?c98 ?k99 (fun _ _ _ _ _ _ us hl=>by obtain ⟨a,b,rfl⟩:=Sw.len2 hl; rfl))
   (Sw.mt_mk ?a100 ?i101 ?l102 ?c103 ?k104 (fun _ _ _ _ _ _ us hl=>by obtain ⟨a,b,rfl⟩:=Sw.len2 hl; rfl))
   (Sw.mt_mk ?a105 ?i106 ?l107 ?c108 ?k109 (fun _ _ _ _ _ _ us hl=>by obtain ⟨a,b,rfl⟩:=Sw.len2 hl; rfl))
   (Sw.str_mk KX G ?v110 ?e111)
   (Sw.int_mk KX G ?v112 ?e113)
   (PySem.W.mg_none_of KX G ?z114)
   (PySem.W.mg_none_of KX G ?z115)
   (PySem.W.mg_none_of KX G ?z116)
   (PySem.W.mg_none_of KX G ?z117)
   (PySem.W.mg_none_of KX G ?z118)
   (PySem.W.mg_none_of KX G ?z119)
   (PySem.W.mg_none_of KX G ?z120)
   (PySem.W.mg_none_of KX G ?z121)
   (PySem.W.mg_none_of KX G ?z122)
   (PySem.W.mg_none_of KX G ?z123)
   (PySem.W.mg_none_of KX G ?z124)
   (PySem.W.mg_none_of KX G ?z125)
   (PySem.W.mg_none_of KX G ?z126)
   (PySem.W.mg_none_of KX G ?z127)
   (PySem.W.mg_none_of KX G ?z128)
   (PySem.W.mg_none_of KX G ?z129)
   (PySem.W.mg_none_of KX G ?z130)) ?aL ?lL ?cL ?kL
  (case a1=>k_is); (case l2=>k_is); (case c3=>k_is); (case k4=>k_is); (case a5=>k_is); (case l6=>k_is)
  (case c7=>k_is); (case k8=>k_is); (case a9=>k_is); (case l10=>k_is); (case c11=>k_is); (case k12=>k_is)
  (case a13=>k_is); (case l14=>k_is); (case c15=>k_is); (case k16=>k_is); (case a17=>k_is); (case l18=>k_is)
  (case c19=>k_is); (case k20=>k_is); (case a21=>k_is); (case l22=>k_is); (case c23=>k_is); (case k24=>k_is)
  (case a25=>k_is); (case l26=>k_is); (case c27=>k_is); (case k28=>k_is); (case a29=>k_is); (case l30=>k_is)
  (case c31=>k_is); (case k32=>k_is); (case a33=>k_is); (case l34=>k_is); (case c35=>k_is); (case k36=>k_is)
  (case a37=>k_is); (case l38=>k_is); (case c39=>k_is); (case k40=>k_is); (case a41=>k_is); (case l42=>k_is)
  (case c43=>k_is); (case k44=>k_is); (case a45=>k_is); (case l46=>k_is); (case c47=>k_is); (case k48=>k_is)
  (case a49=>k_is); (case l50=>k_is); (case c51=>k_is); (case k52=>k_is); (case a53=>k_is); (case l54=>k_is)
  (case c55=>k_is); (case k56=>k_is); (case a57=>k_is); (case l58=>k_is); (case c59=>k_is); (case k60=>k_is)
  (case a61=>k_is); (case l62=>k_is); (case c63=>k_is); (case k64=>k_is); (case a65=>k_is); (case l66=>k_is)
  (case c67=>k_is); (case k68=>k_is); (case q69=>k_is); (case g70=>k_is); (case g71=>k_is); (case g72=>k_is)
  (case g73=>k_is); (case n74=>k_is); (case n75=>k_is); (case n76=>k_is); (case n77=>k_is); (case a78=>k_is)
  (case i79=>k_is); (case l80=>k_is); (case c81=>k_is); (case k82=>k_is); (case g83=>k_is); (case k84=>k_is)
  (case a85=>k_is); (case i86=>k_is); (case l87=>k_is); (case c88=>k_is); (case k89=>k_is); (case a90=>k_is)
  (case i91=>k_is); (case l92=>k_is); (case c93=>k_is); (case k94=>k_is); (case a95=>k_is); (case i96=>k_is)
  (case l97=>k_is); (case c98=>k_is); (case k99=>k_is); (case a100=>k_is); (case i101=>k_is); (case l102=>k_is)
  (case c103=>k_is); (case k104=>k_is); (case a105=>k_is); (case i106=>k_is); (case l107=>k_is); (case c108=>k_is)
  (case k109=>k_is); (case v110=>k_is); (case e111=>exact ⟨_,rfl⟩); (case v112=>k_is); (case e113=>exact ⟨_,rfl⟩); (case z114=>k_is)
  (case z115=>k_is); (case z116=>k_is); (case z117=>k_is); (case z118=>k_is); (case z119=>k_is); (case z120=>k_is)
  (case z121=>k_is); (case z122=>k_is); (case z123=>k_is); (case z124=>k_is); (case z125=>k_is); (case z126=>k_is)
  (case z127=>k_is); (case z128=>k_is); (case z129=>k_is); (case z130=>k_is); (case aL=>k_is); (case lL=>k_is)
  (case cL=>k_is); (case kL=>k_is)
