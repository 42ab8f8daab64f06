import PyProof.Rows.All
import Wide.All
import OpenK.AllK
import Wide.FinOn
import PyProof.Rows.SortShellK
import KE.KSortTup
import Lean
import PyProof.EqAt
import PyProof.EqKinds
import PyProof.TupleCall
import PyProof.SetRoads
import PyProof.DictRoadsH
import PyProof.IsRules
import PyProof.CollectWalk
import PyProof.FactsAll.set
import PyProof.NeData
import PyProof.P3In
import PyProof.TupleOfSeq
import PyProof.ZipIter
import PyProof.Rows.ZipGen
import KE.KDictOf
import PyProof.AttrMissHeap
import PyProof.Rows.SumAny
import PyProof.DictIter
import PyProof.DictWalks
import PyProof.DictValues
import PyProof.ListRange
import PyProof.ListStr
import PyProof.DictTruth
import PySem.Challenge.RW_strikeweave_k28_lists_by_turns
namespace PySem.W.Fast
def tw919697406365406544:=0
def tw9594240121015227101:=0
def tw16333350993132301135:=0
def tw12327816447550006179:=0
def tw7798314545557176409:=0
def tw8715411195696970194:=0
def tw14936056254229355876:=0
def tw8672213163213077021:=0
def tw3718171349720781253:=0
def tw5666738531548031358:=0
def tw669318203685785706:=0
def tw1536265993633024743:=0
def tw7048590819136741390:=0
def tw2919227771762141515:=0
def tw1918341701704326173:=0
def tw18308350089169316676:=0
def tw13313124045362491231:=0
def tw9586903673489125352:=0
def tw1358644793448678493:=0
def tw18074204237210017070:=0
def tw2434648805415342951:=0
def tw5171476518462004065:=0
def tw7212351523457605355:=0
def tw9721929482764059100:=0
def tw8737551680452029350:=0
def tw753118445379772585:=0
def tw1387068717936092943:=0
def tw6445498786506639137:=0
def tw4174688391597526399:=0
def tw2424484165456299420:=0
def tw16084563914547188355:=0
def tw2906362903999981469:=0
def tw8090167507133855246:=0
def tw8524378169126395256:=0
def tw1722268044530557992:=0
def tw1501843241003968431:=0
def tw10344145563367876677:=0
def tw8153640382431891726:=0
def tw5783225398120453784:=0
def tw4812578405629251013:=0
def tw9684654126485690205:=0
def tw888729979848304900:=0
def tw14568187718057258205:=0
def tw17263739950371850180:=0
def tw4907224424265088144:=0
def tw14350352711711287068:=0
def tw14998697424790608563:=0
def tw9309231558373148526:=0
def tw3689408591157488578:=0
def tw5441379843454453279:=0
def tw2486724253078973114:=0
def tw18051089801671591572:=0
def tw11815052178023844305:=0
def tw3944992891160778518:=0
end PySem.W.Fast
set_option autoImplicit false
set_option genSizeOf false
set_option genSizeOfSpec false
set_option bootstrap.genMatcherCode false
set_option compiler.extract_closed false
set_option linter.all false
set_option maxRecDepth 100000
section
open PySem PySem.Spec PyProof.Rows
def AA:=@wpAny_bind
def AB:=@List.length_map
def AC:=@List.getElem?_eq_getElem
def AD:=@Heap.get?_push_of_some
def AE:=@List.mem_singleton
def AF:=@wpAny_pure
def AG:=@List.getElem?_eq_some_iff
def AH:=@List.getElem?_map
def AI:=@Heap.lt_size
def AJ:=@if_neg
def AK:=@List.mem_map
def AL:=@if_pos
def AM:=@Array.length_toList
def AN:=@decide_eq_false
def AO:=@List.mem_cons_of_mem
def AQ:=@decide_eq_true
def AR:=@List.mem_append
def AS:=@Heap.get?_push_size
def AU:=@List.map_append
def AV:=@Bool.false_eq_true
def AW:=@List.length_take
def AX:=@List.map_cons
def AY:=@Bool.false_ne_true
def AZ:=@List.length_append
def A_:=@List.mem_cons_self
def BA:=@List.size_toArray
def BB:=@Nat.ne_of_lt
def BC:=@List.mem_filter
def BD:=@List.mem_cons
def BE:=@List.append_assoc
def BF:=@Nat.lt_of_lt_of_le
def BG:=@List.getD_eq_getElem?_getD
def BH:=@wpAny_loadPart'
def BI:=@Option.some.inj
def BJ:=@Bool.eq_false_iff
def BK:=@decide_eq_true_iff
def BL:=@of_decide_eq_true
def BM:=@List.length_cons
def BN:=@List.mem_of_getElem?
def BO:=@Nat.testBit_or
def BP:=@Array.getElem?_toList
def BQ:=@Nat.eq_of_testBit_eq
def BR:=@Heap.get?_update_other
def BS:=@wpAny_mono
def BT:=@List.mem_append_right
def BU:=@Bool.and_eq_true
def BV:=@List.not_mem_nil
def BW:=@Array.toList_append
def BZ:=@List.map_map
def B_:=@List.length_range
def CA:=@List.take_append_drop
def CB:=@List.length_filter_le
def CC:=@Bool.or_eq_true
def CD:=@List.pairwise_map
def CF:=@List.drop_eq_getElem_cons
def CG:=@List.pairwise_append
def CH:=@Nat.zero_le
def CI:=@List.mem_range
def CJ:=@List.append_nil
def CK:=@wpAny_setState_of
def CL:=@Nat.zero_testBit
def CN:=@Bool.eq_iff_iff
def CO:=@Option.map_eq_some_iff
def CP:=@Array.getElem?_eq_some_iff
def CQ:=@Int.toNat_natCast
def CS:=@List.take_length
def CU:=@wpAny_holding
def CV:=@Nat.lt_irrefl
def CY:=@Heap.get?_update_self
def CZ:=@List.take_of_length_le
def C_:=@Array.getD_eq_getD_getElem?
def DA:=@if_false
def DB:=@List.perm_append_comm
def DC:=@Nat.le_succ
def DD:=@List.filter_sublist
def DE:=@Nat.testBit_zero
def DF:=@List.mem_of_mem_take
def DG:=@Nat.lt_succ_of_lt
def DH:=@List.filterMap_cons
def DI:=@Nat.testBit_and
def DJ:=@List.length_drop
def DK:=@List.pairwise_singleton
def DL:=@Array.toList_push
def DM:=@wpAny_truthy_bool
def DN:=@List.range_succ
def DQ:=@List.getElem?_take_of_lt
def DR:=@List.filter_cons
def DT:=@Nat.testBit_succ
def DU:=@Nat.testBit_two_pow
def DV:=@List.Perm.append_left
def DW:=@List.getElem?_eq_none
def DX:=@wpAny_newObj_type
def DY:=@List.mem_append_left
def DZ:=@Bool.false_and
def D_:=@List.nodup_cons
def EA:=@List.Perm.append_right
def EB:=@List.getElem_of_mem
def EC:=@Heap.size_push
def ED:=@Nat.lt_of_le_of_ne
def EE:=@wpAny_Call_Name_kw
def EF:=@List.mem_of_mem_drop
def EG:=@wpAny_call_entry
def EH:=@wpAny_standAt
def EI:=@Bool.not_eq_true'
def EJ:=@Nat.le_of_succ_le
def EK:=@Nat.zero_add
def EL:=@wpAny_loadPart_at
def EM:=@List.drop_of_length_le
def EN:=@List.perm_ext_iff_of_nodup
def EO:=@List.replicate_succ
def EQ:=@Heap.SameBut.update
def ER:=@List.pairwise_iff_getElem
def ES:=@List.extract_eq_take_drop
def ET:=@Heap.size_update
def EU:=@List.filter_append
def EV:=@Nat.le_of_lt
def EW:=@Bool.not_true
def EX:=@Option.isSome_iff_exists
def EY:=@List.filterMap_cons_some
def EZ:=@Nat.testBit_two_pow_self
def E_:=@List.drop_zero
def FA:=@Array.toList_extract
def FB:=@if_true
def FC:=@List.drop_sublist
def FD:=@List.take_sublist
def FE:=@List.ext_getElem?
def FF:=@Nat.testBit_mod_two_pow
def FG:=@wpAny_rule
def FH:=@wpAny_execs_nil
def FI:=@List.find?_cons
def FJ:=@Option.map_some
def FK:=@List.drop_eq_nil_of_le
def FM:=@List.mem_reverse
def FN:=@List.drop_drop
def FO:=@List.getElem?_append_right
def FP:=@List.lt_irrefl
def FQ:=@Int.emod_lt_of_pos
def FR:=@wpAny_setField
def FS:=@List.Pairwise.and_mem
def FT:=@List.getElem?_append_left
def FU:=@List.length_nil
def FV:=@wpAny_passesOwn
def FW:=@List.mem_iff_getElem
def FX:=@Array.toList_reverse
def FY:=@List.nodup_append
def FZ:=@List.cons.inj
def F_:=@List.Pairwise.imp_of_mem
def GA:=@Nat.add_le_add_left
def GB:=@List.map_congr_left
def GC:=@List.filter_eq_self
def GD:=@List.Perm.refl
def GE:=@Array.size_map
def GF:=@wpAny_eqBool_str
def GG:=@Nat.lt_succ_self
def GH:=@List.all_eq_true
def GI:=@List.getElem_mem
def GJ:=@List.mem_flatMap
def GK:=@wpAny_of_eq
def GL:=@Nat.eq_zero_of_not_pos
def GM:=@List.getElem?_drop
def GN:=@Array.size_extract
def GO:=@Array.getElem?_eq_none
def GP:=@List.map_singleton
def GQ:=@Nat.min_eq_left
def GR:=@List.nil_append
def GS:=@Int.emod_nonneg
def GT:=@codeAny_builtin
def GU:=@wpAny_newList
def GV:=@List.any_cons
def GW:=@List.length_singleton
def GX:=@List.filterMap_append
def GY:=@Nat.lt_of_succ_lt
def GZ:=@List.flatten_cons
def G_:=@Nat.testBit_two_pow_sub_one
def HA:=@List.drop_take
def HB:=@List.map_nil
def HC:=@wpAny_askSetting
def HD:=@List.any_eq_true
def HE:=@Bool.or_true
def HF:=@Classical.byContradiction
def HG:=@List.reverse_append
def HH:=@Heap.get?_update_ne
def HI:=@wpAny_isSubtype_exc
def HJ:=@Array.size_setIfInBounds
def HK:=@List.lt_trans
def HL:=@wpAny_comprehension_free
def HM:=@List.filterMap_cons_none
def HN:=@Bool.or_false
def HP:=@List.Perm.eq_of_pairwise
def HQ:=@Nat.zero_lt_one
def HR:=@Nat.not_lt_zero
def HS:=@List.filter_nil
def HU:=@List.getElem?_cons_zero
def HV:=@Heap.get?_push_ne
def HW:=@List.getElem?_set_self
def HX:=@wpAny_pyIter_list
def HY:=@Bool.and_false
def HZ:=@Bool.not_false
def H_:=@wpAny_storeSet_of
def IA:=@List.nodup_nil
def IB:=@wpAny_richCompare_same
def IC:=@Array.toList_inj
def ID:=@wpAny_execs_cons
def IE:=@List.lookup_cons
def IG:=@List.nodup_range
def IH:=@Heap.ExtBut.push
def II:=@Bool.false_or
def IJ:=@Bool.true_and
def IK:=@List.map_drop
def IL:=@wpAny_field
end
noncomputable section
namespace TS
open PySem PyProof.Rows
def kk(Z:KeyKind)(p:Keyed):Z.α:=(Z.keyOf p.1).getD Z.dflt
def Has(Z:KeyKind)(p:Keyed):Prop:=∃a,Z.keyOf p.1=some a
def le(Z:KeyKind)(p q:Keyed):Prop:=Z.kle (kk Z p) (kk Z q)
def Sor(Z:KeyKind)(l:List Keyed):Prop:=l.Pairwise (le Z)
structure Cmp(prog:Program)(w:World)(A:Around)(s:Shared)(Z:KeyKind)(kd:SortKind):Prop where
 lt:∀(x y:Value) (a b:Z.α) (Q:Bool->Shared->Prop) (E:Value->Shared->Prop),Z.keyOf x=some a->Z.keyOf y=some b->Q (Z.blt a b) s->wpAny (model prog w) A (keyLt' kd x y) Q E s
section
variable{prog:Program}{w:World}{A:Around}{E:Value->Shared->Prop}{s:Shared}{Z:KeyKind}{kd:SortKind}
theorem Fy(C:Cmp prog w A s Z kd){st:SortSt}{x y:Keyed}{Q:Option Bool->SortSt->Prop}(hk:kindOf st=kd)(hx:Has Z x)(hy:Has Z y)
  (h:Q (some (Z.blt (kk Z x) (kk Z y))) st):wpS (model prog w) A E s (lt' x y) Q st:=by
 obtain⟨a,ha⟩:=hx;obtain⟨b,hb⟩:=hy;have e1:kk Z x=a:=by unfold kk;rw[ha];rfl
 have e2:kk Z y=b:=by unfold kk;rw[hb];rfl
 rw[e1,e2]at h;rw[lt'_eq];refine wpS_bind (wpS_get ?_);rw[hk];refine wpS_bind (wpS_lift (wpAny_attempt (C.lt x.1 y.1 a b _ _ ha hb ⟨rfl,?_⟩)));exact wpS_pure h
theorem C8{st:SortSt}{arr:Array Keyed}{i:Nat}{p:Keyed}{Q:Keyed->SortSt->Prop}(hi:arr[i]?=some p)(h:Q p st):wpS (model prog w) A E s (elem' arr i) Q st:=by
 rw[elem'_eq,hi];exact wpS_pure h
def Q8:Bool->Keyed->Array Keyed->Nat->Nat->Nat->StateT SortSt Sem (Option Nat):=sortPriv% PySem.Builtin.gallop
def bey(left:Bool)(ky:Keyed)(ar:Array Keyed)(bs:Nat)(i:Nat):StateT SortSt Sem (Option Bool):=do
 let x <-elem' ar (bs+i)
 if left then lt' x ky else return(<-lt' ky x).map (!·)
theorem No(left:Bool)(ky:Keyed)(ar:Array Keyed)(bs n ht:Nat):Q8 left ky ar bs n ht =(do
  let mut la:=0
  let mut of:=1
  let mut lo:=0
  let mut hi:=0
  let some ri <-bey left ky ar bs ht | return none
  if ri then
   let mx:=n-ht
   for _ in [0:n] do
    if of ≥ mx then break
    let some mo <-bey left ky ar bs (ht+of) | return none
    if !mo then break
    la:=of
    of:=2*of+1
   lo:=ht+la+1
   hi:=ht+min of mx
  else
   let mx:=ht+1
   for _ in [0:n] do
    if of ≥ mx then break
    let some fo <-bey left ky ar bs (ht-of) | return none
    if fo then break
    la:=of
    of:=2*of+1
   lo:=ht+1-min of mx
   hi:=ht-la
  for _ in [0:n] do
   if lo ≥ hi then break
   let m:=lo +(hi-lo) / 2
   let some mo <-bey left ky ar bs m | return none
   if mo then lo:=m+1 else hi:=m
  return some hi):=rfl
def PB(Z:KeyKind)(left:Bool)(ky:Keyed)(p:Keyed):Bool:=if left then Z.blt (kk Z p) (kk Z ky)else !Z.blt (kk Z ky) (kk Z p)
theorem Xn(C:Cmp prog w A s Z kd){st:SortSt}{left:Bool}{ky p:Keyed}{ar:Array Keyed}{bs i:Nat}{Q:Option Bool->SortSt->Prop}(hk:kindOf st=kd)(hky:Has Z ky)(hp:Has Z p)(hi:ar[bs+i]?=some p)
  (h:Q (some (PB Z left ky p)) st):wpS (model prog w) A E s (bey left ky ar bs i) Q st:=by
 unfold bey;refine wpS_bind (C8 hi ?_);cases left with
 | true=>exact Fy C hk hp hky h
 | false =>
  simp only[AV,DA];refine wpS_bind (Fy C hk hky hp ?_);exact wpS_pure h
theorem Ni(C:Cmp prog w A s Z kd){st:SortSt}{left:Bool}{ky:Keyed}{ar:Array Keyed}{bs n ht:Nat}{Q:Option Nat->SortSt->Prop}(hk:kindOf st=kd)(hky:Has Z ky)
  (P:Nat->Bool) (hP:∀i,i<n->∃p,ar[bs+i]?=some p/\Has Z p/\PB Z left ky p=P i) (mono:∀i j,i<=j->j<n->P j=true->P i=true) (hht:ht<n)
  (h:∀k,k<=n->(∀i,i<k->P i=true)->(∀i,k<=i->i<n->P i=false)->Q (some k) st):wpS (model prog w) A E s (Q8 left ky ar bs n ht) Q st:=by
 have B:∀{st':SortSt} {i:Nat} {Q:Option Bool->SortSt->Prop},st'=st->i<n->Q (some (P i)) st'->wpS (model prog w) A E s (bey left ky ar bs i) Q st':=by
  intro st' i Q e hi q;subst e;obtain⟨p,h1,h2,h3⟩:=hP i hi;exact Xn C hk hky h2 h1 (by rw[h3];exact q)
 have nmono:∀i j,i<=j->j<n->P i=false->P j=false:=by
  intro i j hij hj hi;cases e:P j with
  | false=>rfl
  | true=>rw[mono i j hij hj e]at hi;cases hi
 rw[No];dsimp only;refine wpS_bind (B rfl hht ?_);dsimp only;have S:∀{lo hi:Nat} {f:Nat->(Option (Option Nat)×Nat×Nat)->StateT SortSt Sem (ForInStep (Option (Option Nat)×Nat×Nat))},
   (∀x l h,wpS (model prog w) A E s (f x (none,l,h)) (fun r st'=>st'=st/\(if h<=l then r = .done (none,l,h)else if P (l +(h-l) / 2)=true then r = .yield (none,l +(h-l) / 2+1,h)else r = .yield (none,l,l +(h-l) / 2))) st\/¬(h<=l\/l +(h-l) / 2<n)) ->
   lo<=hi->hi<=n->(∀i,i<lo->P i=true)->(∀i,hi<=i->i<n->P i=false) ->
   wpS (model prog w) A E s (forIn [0:n] (none,lo,hi) f) (fun c st'=>st'=st/\∃k,c =(none,k,k)/\k<=n/\(∀i,i<k->P i=true)/\(∀i,k<=i->i<n->P i=false)) st:=by
  intro lo hi f hf h1 h2 h3 h4;refine wpS_forRange (I:=fun x c st'=>st'=st/\∃l r,c =(none,l,r)/\l<=r/\r<=n/\r-l<=n-x/\(∀i,i<l->P i=true)/\(∀i,r<=i->i<n->P i=false)) ?_ ?_ ⟨rfl,lo,hi,rfl,h1,h2,by omega,h3,h4⟩
  .rintro x c st' _ hx ⟨rfl,l,r,rfl,hl,hr,hm,ha,hb⟩;have hin:r<=l\/l +(r-l) / 2<n:=by omega
   rcases hf x l r with q | q
   .refine wpS_mono q fun z st2 ⟨e,q2⟩=>?_;subst e;by_cases hge:r<=l
    .rw[AL hge]at q2;subst q2;have:l=r:=by omega
     subst this;exact⟨rfl,l,rfl,hr,ha,hb⟩
    .rw[AJ hge]at q2;cases hp:P (l +(r-l) / 2)with
     | true =>
      rw[AL hp]at q2;subst q2;exact⟨rfl,_,_,rfl,by omega,by omega,by omega,fun i hi=>mono i (l +(r-l) / 2) (by omega) (by omega) hp,hb⟩
     | false =>
      rw[AJ (by rw[hp];exact AY)]at q2;subst q2;exact⟨rfl,_,_,rfl,by omega,by omega,by omega,ha,fun i hi1 hi2=>nmono (l +(r-l) / 2) i hi1 hi2 hp⟩
   .exact absurd hin q
  .rintro c st' ⟨rfl,l,r,rfl,hl,hr,hm,ha,hb⟩;have:l=r:=by omega
   subst this;exact⟨rfl,l,rfl,hr,ha,hb⟩
 cases hr:P ht with
 | true =>
  rw[AL rfl];refine wpS_bind (wpS_mono (wpS_forRange (I:=fun x c st'=>st'=st/\∃la of,c =(none,la,of)/\la<of/\x+1<=of/\ht+la<n/\P (ht+la)=true)
   (Q:=fun c st'=>st'=st/\∃la of,c =(none,la,of)/\la<of/\ht+la<n/\P (ht+la)=true/\(n-ht<=of\/(ht+of<n/\P (ht+of)=false))) ?st ?en ⟨rfl,0,1,rfl,by omega,by omega,by omega,hr⟩) ?po)
  case en =>
   rintro c st' ⟨rfl,la,of,rfl,a1,a2,a3,a4⟩;exact⟨rfl,la,of,rfl,a1,a3,a4,.inl (by omega)⟩
  case st =>
   rintro x c st' _ hx ⟨rfl,la,of,rfl,a1,a2,a3,a4⟩;dsimp only;by_cases hge:of ≥ n-ht
   .rw[AL hge];exact wpS_pure ⟨rfl,la,of,rfl,a1,a3,a4,.inl hge⟩
   .rw[AJ hge];refine wpS_bind (B rfl (show ht+of<n by omega) ?_);cases hp:P (ht+of)with
    | true=>exact wpS_pure ⟨rfl,of,2*of+1,rfl,by omega,by omega,by omega,hp⟩
    | false=>exact wpS_pure ⟨rfl,la,of,rfl,a1,a3,a4,.inr ⟨by omega,hp⟩⟩
  case po =>
   rintro c st' ⟨rfl,la,of,rfl,a1,a3,a4,a5⟩;dsimp only;refine wpS_bind (wpS_mono (S (lo:=ht+la+1) (hi:=ht+min of (n-ht)) (fun x l h'=>by
    dsimp only;by_cases hge:h'<=l
    .refine .inl ?_;rw[AL hge];exact wpS_pure ⟨rfl,by rw[AL hge]⟩
    .by_cases hn:l +(h' - l) / 2<n
     .refine .inl ?_;rw[AJ hge];refine wpS_bind (B rfl hn ?_);dsimp only;cases hp:P (l +(h' - l) / 2)with
      | true =>
       simp only[FB];exact wpS_pure ⟨rfl,by rw[AJ hge]⟩
      | false =>
       simp only[AV,DA];exact wpS_pure ⟨rfl,by rw[AJ hge]⟩
     .exact .inr (by omega)) (by omega) (by omega) (fun i hi=>mono i (ht+la) (by omega) a3 a4) fun i hi1 hi2=>?_) fun c st' ⟨e,k,e2,b1,b2,b3⟩=>?_)
   .rcases a5 with a5 | ⟨a5,a6⟩
    .omega
    .exact nmono (ht+of) i (by omega) hi2 a6
   .subst e e2;exact wpS_pure (h k b1 b2 b3)
 | false =>
  rw[AJ AY];refine wpS_bind (wpS_mono (wpS_forRange (I:=fun x c st'=>st'=st/\∃la of,c =(none,la,of)/\la<of/\x+1<=of/\la<=ht/\P (ht-la)=false)
   (Q:=fun c st'=>st'=st/\∃la of,c =(none,la,of)/\la<of/\la<=ht/\P (ht-la)=false/\(ht+1<=of\/(of<=ht/\P (ht-of)=true))) ?st ?en ⟨rfl,0,1,rfl,by omega,by omega,by omega,hr⟩) ?po)
  case en =>
   rintro c st' ⟨rfl,la,of,rfl,a1,a2,a3,a4⟩;exact⟨rfl,la,of,rfl,a1,a3,a4,.inl (by omega)⟩
  case st =>
   rintro x c st' _ hx ⟨rfl,la,of,rfl,a1,a2,a3,a4⟩;dsimp only;by_cases hge:of ≥ ht+1
   .rw[AL hge];exact wpS_pure ⟨rfl,la,of,rfl,a1,a3,a4,.inl hge⟩
   .rw[AJ hge];refine wpS_bind (B rfl (show ht-of<n by omega) ?_);cases hp:P (ht-of)with
    | false=>exact wpS_pure ⟨rfl,of,2*of+1,rfl,by omega,by omega,by omega,hp⟩
    | true=>exact wpS_pure ⟨rfl,la,of,rfl,a1,a3,a4,.inr ⟨by omega,hp⟩⟩
  case po =>
   rintro c st' ⟨rfl,la,of,rfl,a1,a3,a4,a5⟩;dsimp only;refine wpS_bind (wpS_mono (S (lo:=ht+1-min of (ht+1)) (hi:=ht-la) (fun x l h'=>by
    dsimp only;by_cases hge:h'<=l
    .refine .inl ?_;rw[AL hge];exact wpS_pure ⟨rfl,by rw[AL hge]⟩
    .by_cases hn:l +(h' - l) / 2<n
     .refine .inl ?_;rw[AJ hge];refine wpS_bind (B rfl hn ?_);dsimp only;cases hp:P (l +(h' - l) / 2)with
      | true =>
       simp only[FB];exact wpS_pure ⟨rfl,by rw[AJ hge]⟩
      | false =>
       simp only[AV,DA];exact wpS_pure ⟨rfl,by rw[AJ hge]⟩
     .exact .inr (by omega)) (by omega) (by omega) (fun i hi=>?_) fun i hi1 hi2=>nmono (ht-la) i (by omega) hi2 a4) fun c st' ⟨e,k,e2,b1,b2,b3⟩=>?_)
   .rcases a5 with a5 | ⟨a5,a6⟩
    .omega
    .exact mono i (ht-of) (by omega) (by omega) a6
   .subst e e2;exact wpS_pure (h k b1 b2 b3)
end
section
variable{Z:KeyKind}
theorem le_refl(p:Keyed):le Z p p:=KeyOrd.kle_refl _
theorem le_trans{p q r:Keyed}(h1:le Z p q)(h2:le Z q r):le Z p r:=KeyOrd.kle_trans h1 h2
structure ML(Z:KeyKind)(a b:List Keyed)(o:List Keyed)(i j:Nat):Prop where
 perm:o.Perm (a.take i++b.take j)
 sor:Sor Z o
 la:∀x∈o,∀y∈a.drop i,le Z x y
 lb:∀x∈o,∀y∈b.drop j,le Z x y
theorem ML.sym{a b o:List Keyed}{i j:Nat}(m:ML Z a b o i j):ML Z b a o j i:=⟨m.perm.trans DB,m.sor,m.lb,m.la⟩
theorem Fs{l:List Keyed}(k:Nat)(h:Sor Z l):∀x∈l.take k,∀y∈l.drop k,le Z x y:=by
 have h':Sor Z (l.take k++l.drop k):=by rw[CA];exact h
 exact(CG.mp h').2.2
theorem ML.addA{a b o:List Keyed}{i j:Nat}(m:ML Z a b o i j)(sa:Sor Z a)(k:Nat)(hk:∀y∈(a.drop i).take k,∀z∈b.drop j,le Z y z):ML Z a b (o ++(a.drop i).take k) (i+k) j:=by
 have hs:Sor Z (a.drop i):=sa.sublist (FC _ _);refine⟨?_,?_,fun x hx y hy=>?_,fun x hx y hy=>?_⟩
 .rw[List.take_add];refine(EA _ m.perm).trans ?_;rw[BE,BE];exact DV _ DB
 .refine CG.mpr ⟨m.sor,hs.sublist (FD _ _),fun x hx y hy=>m.la x hx y (DF hy)⟩
 .rw[<-FN]at hy;rcases AR.mp hx with hx | hx
  .exact m.la x hx y (EF hy)
  .exact Fs k hs x hx y hy
 .rcases AR.mp hx with hx | hx
  .exact m.lb x hx y hy
  .exact hk x hx y hy
theorem ML.addB{a b o:List Keyed}{i j:Nat}(m:ML Z a b o i j)(sb:Sor Z b)(k:Nat)(hk:∀y∈(b.drop j).take k,∀z∈a.drop i,le Z y z):ML Z a b (o ++(b.drop j).take k) i (j+k) :=
 (m.sym.addA sb k hk).sym
theorem ML.endA{a b o:List Keyed}{i j:Nat}(m:ML Z a b o i j)(sa:Sor Z a)(sb:Sor Z b)(h:∀y∈a.drop i,∀z∈b.drop j,le Z y z):Sor Z (o++a.drop i++b.drop j)/\(o++a.drop i++b.drop j).Perm (a++b):=by
 refine⟨?_,?_⟩
 .refine CG.mpr ⟨CG.mpr ⟨m.sor,sa.sublist (FC _ _),m.la⟩,sb.sublist (FC _ _),fun x hx y hy=>?_⟩;rcases AR.mp hx with hx | hx
  .exact m.lb x hx y hy
  .exact h x hx y hy
 .have h1:(o++a.drop i++b.drop j).Perm ((a.take i++b.take j)++a.drop i++b.drop j):=EA _ (EA _ m.perm);refine h1.trans ?_;have h2:((a.take i++b.take j)++a.drop i++b.drop j).Perm ((a.take i++a.drop i) ++(b.take j++b.drop j)):=by
   rw[BE,BE,BE];refine DV _ ?_;rw[<-BE,<-BE];exact EA _ DB
  rw[CA,CA]at h2;exact h2
theorem ML.endB{a b o:List Keyed}{i j:Nat}(m:ML Z a b o i j)(sa:Sor Z a)(sb:Sor Z b)(h:∀y∈b.drop j,∀z∈a.drop i,le Z y z):Sor Z (o++b.drop j++a.drop i)/\(o++b.drop j++a.drop i).Perm (a++b) :=
 ⟨(m.sym.endA sb sa h).1,(m.sym.endA sb sa h).2.trans DB⟩
structure MH(Z:KeyKind)(a b:List Keyed)(o:List Keyed)(i j:Nat):Prop where
 perm:o.Perm (a.drop i++b.drop j)
 sor:Sor Z o
 la:∀x∈o,∀y∈a.take i,le Z y x
 lb:∀x∈o,∀y∈b.take j,le Z y x
theorem MH.sym{a b o:List Keyed}{i j:Nat}(m:MH Z a b o i j):MH Z b a o j i:=⟨m.perm.trans DB,m.sor,m.lb,m.la⟩
theorem MH.addA{a b o:List Keyed}{i j:Nat}(m:MH Z a b o i j)(sa:Sor Z a)(k:Nat)(hki:k<=i)(hk:∀y∈(a.take i).drop k,∀z∈b.take j,le Z z y):MH Z a b ((a.take i).drop k++o) k j:=by
 have hs:Sor Z (a.take i):=sa.sublist (FD _ _);have e:a.drop k =(a.take i).drop k++a.drop i:=by
  conv=>lhs;rw[<-CA i a]
  rw[List.drop_append];by_cases hl:i<=a.length
  .rw[AW,GQ hl,Nat.sub_eq_zero_of_le hki,E_]
  .have:a.drop i = []:=FK (by lia);rw[this,List.drop_nil]
 have e2:(a.take i).take k=a.take k:=by rw[List.take_take,GQ hki]
 refine⟨?_,?_,fun x hx y hy=>?_,fun x hx y hy=>?_⟩
 .rw[e,BE];exact DV _ m.perm
 .exact CG.mpr ⟨hs.sublist (FC _ _),m.sor,fun x hx y hy=>m.la y hy x (EF hx)⟩
 .rw[<-e2]at hy;rcases AR.mp hx with hx | hx
  .exact Fs k hs y hy x hx
  .exact m.la x hx y (DF hy)
 .rcases AR.mp hx with hx | hx
  .exact hk x hx y hy
  .exact m.lb x hx y hy
theorem MH.addB{a b o:List Keyed}{i j:Nat}(m:MH Z a b o i j)(sb:Sor Z b)(k:Nat)(hkj:k<=j)(hk:∀y∈(b.take j).drop k,∀z∈a.take i,le Z z y):MH Z a b ((b.take j).drop k++o) i k :=
 (m.sym.addA sb k hkj hk).sym
theorem MH.endA{a b o:List Keyed}{i j:Nat}(m:MH Z a b o i j)(sa:Sor Z a)(sb:Sor Z b)(h:∀y∈a.take i,∀z∈b.take j,le Z y z):Sor Z (a.take i++b.take j++o)/\(a.take i++b.take j++o).Perm (a++b):=by
 refine⟨?_,?_⟩
 .refine CG.mpr ⟨CG.mpr ⟨sa.sublist (FD _ _),sb.sublist (FD _ _),h⟩,m.sor,fun x hx y hy=>?_⟩;rcases AR.mp hx with hx | hx
  .exact m.la y hy x hx
  .exact m.lb y hy x hx
 .have h1:(a.take i++b.take j++o).Perm (a.take i++b.take j ++(a.drop i++b.drop j)):=DV _ m.perm;refine h1.trans ?_;have h2:(a.take i++b.take j ++(a.drop i++b.drop j)).Perm ((a.take i++a.drop i) ++(b.take j++b.drop j)):=by
   rw[BE,BE];refine DV _ ?_;rw[<-BE,<-BE];exact EA _ DB
  rw[CA,CA]at h2;exact h2
theorem MH.endB{a b o:List Keyed}{i j:Nat}(m:MH Z a b o i j)(sa:Sor Z a)(sb:Sor Z b)(h:∀y∈b.take j,∀z∈a.take i,le Z y z):Sor Z (b.take j++a.take i++o)/\(b.take j++a.take i++o).Perm (a++b) :=
 ⟨(m.sym.endA sb sa h).1,(m.sym.endA sb sa h).2.trans DB⟩
end
section
variable{prog:Program}{w:World}{A:Around}{E:Value->Shared->Prop}{s:Shared}{Z:KeyKind}{kd:SortKind}
def Ap(g:Nat):StateT SortSt Sem Unit:=modify fun s=>SortSt.mk' (kindOf s) (arrOf s) (pendingOf s) g (failedOf s)
def Cr:Array Keyed->Array Keyed->StateT SortSt Sem (Array Keyed):=sortPriv% PySem.Builtin.mergeLo
theorem Jh(a b:Array Keyed):Cr a b =(do
  rule "list.sort.merge-lo"
  let tot:=a.size+b.size
  let dn (o:Array Keyed) (i j:Nat):=o++a.extract i a.size++b.extract j b.size
  let lA (o:Array Keyed) (i j:Nat):=o++b.extract j b.size++a.extract i a.size
  let mut o:Array Keyed:=#[<-elem' b 0]
  let mut i:=0
  let mut j:=1
  if j == b.size then return dn o i j
  if i+1 == a.size then return lA o i j
  let mut mg:=gallopOf (<-get)
  for _ in [0:tot] do
   let mut ac:=0
   let mut bc:=0
   for _ in [0:tot] do
    let some bw <-lt' (<-elem' b j) (<-elem' a i) | return dn o i j
    if bw then
     o:=o.push (<-elem' b j);j:=j+1;bc:=bc+1;ac:=0
     if j == b.size then return dn o i j
     if bc ≥ mg then break
    else
     o:=o.push (<-elem' a i);i:=i+1;ac:=ac+1;bc:=0
     if i+1 == a.size then return lA o i j
     if ac ≥ mg then break
   rule "list.sort.gallop"
   mg:=mg+1
   for _ in [0:tot] do
    if mg>1 then mg:=mg-1
    Ap mg
    let some k <-Q8 false (<-elem' b j) a i (a.size-i) 0 | return dn o i j
    ac:=k
    if k>0 then
     o:=o++a.extract i (i+k);i:=i+k
     if i+1 == a.size then return lA o i j
     if i == a.size then return dn o i j
    o:=o.push (<-elem' b j);j:=j+1
    if j == b.size then return dn o i j
    let some k <-Q8 true (<-elem' a i) b j (b.size-j) 0 | return dn o i j
    bc:=k
    if k>0 then
     o:=o++b.extract j (j+k);j:=j+k
     if j == b.size then return dn o i j
    o:=o.push (<-elem' a i);i:=i+1
    if i+1 == a.size then return lA o i j
    if ac<7&&bc<7 then break
   mg:=mg+1
   Ap mg
  unsupported "internal:list.sort.merge-bound"):=rfl
def Sm(st st':SortSt):Prop:=kindOf st'=kindOf st/\arrOf st'=arrOf st/\pendingOf st'=pendingOf st/\failedOf st'=failedOf st
theorem Sm.refl(st:SortSt):Sm st st:=⟨rfl,rfl,rfl,rfl⟩
theorem U9{st st0:SortSt}{g:Nat}{Q:Unit->SortSt->Prop}(hs:Sm st0 st)(h:∀st',Sm st0 st'->Q () st'):wpS (model prog w) A E s (Ap g) Q st :=
 wpS_modify (h _ ⟨hs.1,hs.2.1,hs.2.2.1,hs.2.2.2⟩)
theorem Br{l:List Keyed}{i k:Nat}{y:Keyed}(h:y∈(l.drop i).take k):∃t,t<k/\l[i+t]?=some y:=by
 obtain⟨t,ht,e⟩:=FW.mp h;rw[AW,DJ]at ht;refine⟨t,by lia,?_⟩;rw[List.getElem_take,List.getElem_drop]at e;rw[<-e];exact AC (by lia)
theorem Ih{l:List Keyed}{i:Nat}{y:Keyed}(h:y∈l.drop i):∃t,i+t<l.length/\l[i+t]?=some y:=by
 obtain⟨t,ht,e⟩:=FW.mp h;rw[DJ]at ht;refine⟨t,by lia,?_⟩;rw[List.getElem_drop]at e;rw[<-e];exact AC (by lia)
theorem Me{l:List Keyed}{i:Nat}{y:Keyed}(h:y∈l.take i):∃t,t<i/\t<l.length/\l[t]?=some y:=by
 obtain⟨t,ht,e⟩:=FW.mp h;rw[AW]at ht;refine⟨t,by lia,by lia,?_⟩;rw[List.getElem_take]at e;rw[<-e];exact AC (by lia)
theorem Vs{l:List Keyed}{i k:Nat}{y:Keyed}(h:y∈(l.take i).drop k):∃t,k<=t/\t<i/\l[t]?=some y:=by
 obtain⟨t,h1,h2⟩:=Ih h;rw[AW]at h1;rw[DQ (by lia)]at h2;exact⟨k+t,by lia,by lia,h2⟩
theorem r9{l:List Keyed}(h:Sor Z l){i j:Nat}{p q:Keyed}(hij:i<=j)(hp:l[i]?=some p)(hq:l[j]?=some q):le Z p q:=by
 obtain⟨h1,rfl⟩:=AG.mp hp;obtain⟨h2,rfl⟩:=AG.mp hq;rcases Nat.lt_or_eq_of_le hij with z | z
 .exact ER.mp h i j h1 h2 z
 .subst z;exact le_refl _
theorem Ds{l:List Keyed}(h:Sor Z l){i:Nat}{p:Keyed}(hp:l[i]?=some p):∀z∈l.drop i,le Z p z:=fun z hz=>by
 obtain⟨t,_,e⟩:=Ih hz;exact r9 h (Nat.le_add_right _ _) hp e
theorem ar_get{a:Array Keyed}{i:Nat}{p:Keyed}:a[i]?=some p↔a.toList[i]?=some p:=by rw[BP]
theorem Y0{a:Array Keyed}{i:Nat}(h:i<a.size):∃p,a[i]?=some p:=⟨a[i],getElem?_pos a i h⟩
theorem Pq{l:List Keyed}{i:Nat}{p:Keyed}(h:l[i]?=some p):(l.drop i).take 1 = [p]:=by
 obtain⟨h1,rfl⟩:=AG.mp h;rw[CF h1];rfl
theorem Eg(a:Array Keyed)(i k:Nat):(a.extract i (i+k)).toList =(a.toList.drop i).take k:=by
 rw[FA,ES,Nat.add_sub_cancel_left]
theorem m8(a:Array Keyed)(i:Nat):(a.extract i a.size).toList=a.toList.drop i:=by
 rw[FA,ES,CZ];rw[DJ,AM];exact Nat.le_refl _
theorem n6(a:Array Keyed)(i:Nat):(a.extract 0 i).toList=a.toList.take i:=by
 rw[FA,ES,E_,Nat.sub_zero]
def Rm(Z:KeyKind)(a b r:Array Keyed):Prop:=Sor Z r.toList/\r.toList.Perm (a.toList++b.toList)
structure Pre(Z:KeyKind)(a b:Array Keyed):Prop where
 sa:Sor Z a.toList
 sb:Sor Z b.toList
 ka:∀(i:Nat) p,a[i]?=some p->Has Z p
 kb:∀(i:Nat) p,b[i]?=some p->Has Z p
 na:1<=a.size
 nb:1<=b.size
 first:∀q,b[0]?=some q->∀z∈a.toList,le Z q z
 last:∀p,a[a.size-1]?=some p->∀z∈b.toList,le Z z p
section
variable{a b o:Array Keyed}{i j k:Nat}{p q:Keyed}
theorem Pre.pushB(P:Pre Z a b)(m:ML Z a.toList b.toList o.toList i j)(hq:b[j]?=some q)(h:∀z∈a.toList.drop i,le Z q z):ML Z a.toList b.toList (o.push q).toList i (j+1):=by
 have h1:=m.addB P.sb 1 (by rw[Pq (ar_get.mp hq)];intro y hy;rw[AE.mp hy];exact h);rw[Pq (ar_get.mp hq)]at h1;rw[DL];exact h1
theorem Pre.pushA(P:Pre Z a b)(m:ML Z a.toList b.toList o.toList i j)(hp:a[i]?=some p)(h:∀z∈b.toList.drop j,le Z p z):ML Z a.toList b.toList (o.push p).toList (i+1) j:=by
 have h1:=m.addA P.sa 1 (by rw[Pq (ar_get.mp hp)];intro y hy;rw[AE.mp hy];exact h);rw[Pq (ar_get.mp hp)]at h1;rw[DL];exact h1
theorem Pre.extA(P:Pre Z a b)(m:ML Z a.toList b.toList o.toList i j)(h:∀y∈(a.toList.drop i).take k,∀z∈b.toList.drop j,le Z y z):ML Z a.toList b.toList (o++a.extract i (i+k)).toList (i+k) j:=by
 rw[BW,Eg];exact m.addA P.sa k h
theorem Pre.extB(P:Pre Z a b)(m:ML Z a.toList b.toList o.toList i j)(h:∀y∈(b.toList.drop j).take k,∀z∈a.toList.drop i,le Z y z):ML Z a.toList b.toList (o++b.extract j (j+k)).toList i (j+k):=by
 rw[BW,Eg];exact m.addB P.sb k h
theorem Pre.doneB(P:Pre Z a b)(m:ML Z a.toList b.toList o.toList i j)(hj:j=b.size):Rm Z a b (o++a.extract i a.size++b.extract j b.size):=by
 unfold Rm;rw[BW,BW,m8,m8];refine m.endA P.sa P.sb fun y _ z hz=>?_;rw[FK (by rw[AM];lia)]at hz;exact absurd hz (by simp)
theorem Pre.doneA(P:Pre Z a b)(m:ML Z a.toList b.toList o.toList i j)(hi:i=a.size):Rm Z a b (o++a.extract i a.size++b.extract j b.size):=by
 unfold Rm;rw[BW,BW,m8,m8];refine m.endA P.sa P.sb fun y hy z _=>?_;rw[FK (by rw[AM];lia)]at hy;exact absurd hy (by simp)
theorem Pre.lastA(P:Pre Z a b)(m:ML Z a.toList b.toList o.toList i j)(hi:i+1=a.size):Rm Z a b (o++b.extract j b.size++a.extract i a.size):=by
 unfold Rm;rw[BW,BW,m8,m8];refine m.endB P.sa P.sb fun y hy z hz=>?_;obtain⟨t,h1,h2⟩:=Ih hz;rw[AM]at h1;have e:i+t=a.size-1:=by lia
 rw[e]at h2;exact P.last z (ar_get.mpr h2) y (EF hy)
end
theorem Sm.knd{st st':SortSt}(h:Sm st st'){k:SortKind}(hk:kindOf st=k):kindOf st'=k:=h.1.trans hk
theorem l9(C:Cmp prog w A s Z kd){st:SortSt}{left:Bool}{ky:Keyed}{ar:Array Keyed}{bs n ht:Nat}{Q:Option Nat->SortSt->Prop}(hk:kindOf st=kd)(hky:Has Z ky)
  (hsz:bs+n<=ar.size) (hh:∀(i:Nat) p,ar[i]?=some p->Has Z p) (hs:∀(u v:Nat) p q,u<=v->v<n->ar[bs+u]?=some p->ar[bs+v]?=some q->le Z p q) (hht:ht<n)
  (h:∀k,k<=n->(∀(t:Nat) p,t<k->ar[bs+t]?=some p->PB Z left ky p=true)->(∀(t:Nat) p,k<=t->t<n->ar[bs+t]?=some p->PB Z left ky p=false)->Q (some k) st) :
  wpS (model prog w) A E s (Q8 left ky ar bs n ht) Q st:=by
 have key:∀t,t<n->∃p,ar[bs+t]?=some p:=fun t ht=>Y0 (by lia);refine Ni C hk hky (fun t=>match ar[bs+t]? with | some p=>PB Z left ky p | none=>false) (fun i hi=>?_) (fun i j hij hj hp=>?_) hht fun k hk1 h1 h2=>?_
 .obtain⟨p,hp⟩:=key i hi;exact⟨p,hp,hh _ p hp,by rw[hp]⟩
 .obtain⟨p,e1⟩:=key i (by lia);obtain⟨q,e2⟩:=key j hj;rw[e2]at hp;rw[e1];have l:=hs i j p q hij hj e1 e2;dsimp only at hp⊢;unfold PB at hp⊢;cases left with
  | true =>
   simp only[FB]at hp⊢;exact KeyOrd.klt_of_kle_of_klt l hp
  | false =>
   simp only[AV,DA,EI]at hp⊢;exact KeyOrd.kle_trans l hp
 .refine h k hk1 (fun t p ht hp=>?_) fun t p ht1 ht2 hp=>?_
  .have:=h1 t ht;rw[hp]at this;exact this
  .have:=h2 t ht1 ht2;rw[hp]at this;exact this
theorem Dq{ky p:Keyed}(h:PB Z false ky p=true):le Z p ky:=by
 unfold PB at h;show Z.blt (kk Z ky) (kk Z p)=false;simpa using h
theorem y3{ky p:Keyed}(h:PB Z false ky p=false):Z.klt (kk Z ky) (kk Z p):=by
 unfold PB at h;show Z.blt (kk Z ky) (kk Z p)=true;simpa using h
theorem Is{ky p:Keyed}(h:PB Z true ky p=true):Z.klt (kk Z p) (kk Z ky):=by
 unfold PB at h;show Z.blt (kk Z p) (kk Z ky)=true;simpa using h
theorem Eo{ky p:Keyed}(h:PB Z true ky p=false):le Z ky p:=by
 unfold PB at h;show Z.blt (kk Z p) (kk Z ky)=false;simpa using h
section
variable{α:Type}{Q:α->SortSt->Prop}{st:SortSt}
theorem P8{c:Prop}{_:Decidable c}{t e:StateT SortSt Sem α}(h1:c->wpS (model prog w) A E s t Q st)(h2:¬c->wpS (model prog w) A E s e Q st):wpS (model prog w) A E s (if c then t else e) Q st:=by
 split
 .rename_i h;exact h1 h
 .rename_i h;exact h2 h
theorem J4{x y:Nat}{t e:StateT SortSt Sem α}(h1:x=y->wpS (model prog w) A E s t Q st)(h2:x≠y->wpS (model prog w) A E s e Q st):wpS (model prog w) A E s (if(x == y)=true then t else e) Q st :=
 P8 (fun h=>h1 (eq_of_beq h)) fun h=>h2 fun z=>h (beq_iff_eq.mpr z)
theorem Ql{c:Prop}{_:Decidable c}{t:StateT SortSt Sem α}{F:Nat->StateT SortSt Sem α}(x:Nat){y:Nat}(h:∀g,wpS (model prog w) A E s (F g) Q st)(e:t=F x):wpS (model prog w) A E s (if c then t else F y) Q st:=by
 subst e;exact P8 (fun _=>h _) fun _=>h _
theorem Dh{c:Prop}{_:Decidable c}{t:StateT SortSt Sem α}{F:Array Keyed->Nat->StateT SortSt Sem α}{o:Array Keyed}{i:Nat}(R:Array Keyed->Nat->Prop)(h:∀o i,R o i->wpS (model prog w) A E s (F o i) Q st)
  (hT:(∀o i,R o i->wpS (model prog w) A E s (F o i) Q st)->c->wpS (model prog w) A E s t Q st) (hE:¬c->R o i):wpS (model prog w) A E s (if c then t else F o i) Q st:=P8 (hT h) fun z=>h _ _ (hE z)
end
theorem Sl{α β:Type}{r0:Sem Unit}{el:StateT SortSt Sem Keyed}{x0:Keyed}{c1 c2:Prop}{_:Decidable c1}{_:Decidable c2}{t1 t2:Keyed->StateT SortSt Sem α}{ini:Keyed->SortSt->β}{n:Nat}{f:Nat->β->StateT SortSt Sem (ForInStep β)}{g:β->StateT SortSt Sem α}{Q:α->SortSt->Prop}{st:SortSt}
  (hr:∀R:Unit->SortSt->Prop,R () st->wpS (model prog w) A E s (liftM r0:StateT SortSt Sem Unit) R st) (he:∀R:Keyed->SortSt->Prop,R x0 st->wpS (model prog w) A E s el R st) (h1:c1->wpS (model prog w) A E s (t1 x0) Q st) (h2:¬c1->c2->wpS (model prog w) A E s (t2 x0) Q st)
  (h3:¬c1->¬c2->wpS (model prog w) A E s (forIn [0:n] (ini x0 st) f) (fun c st'=>wpS (model prog w) A E s (g c) Q st') st) :
  wpS (model prog w) A E s ((liftM r0:StateT SortSt Sem Unit) >>= fun _=>el >>= fun x=>if c1 then t1 x else if c2 then t2 x else get >>= fun st'=>forIn [0:n] (ini x st') f >>= g) Q st :=
 wpS_bind (hr _ (wpS_bind (he _ (P8 h1 fun z1=>P8 (h2 z1) fun z2=>wpS_bind (wpS_get (wpS_bind (h3 z1 z2)))))))
def MR(Z:KeyKind)(a b:Array Keyed)(st:SortSt){β:Type}(c:Option (Array Keyed)×β)(st':SortSt):Prop:=Sm st st'/\∃r,c.1=some r/\Rm Z a b r
theorem MR.mk{a b r:Array Keyed}{st st':SortSt}{β:Type}{c:β}(sm:Sm st st')(h:Rm Z a b r):MR Z a b st (some r,c) st':=⟨sm,r,rfl,h⟩
structure LoP(Z:KeyKind)(a b:Array Keyed)(n:Nat)(o:Array Keyed)(i j:Nat):Prop where
 m:ML Z a.toList b.toList o.toList i j
 hi:i+1<a.size
 hj:j<b.size
 hn:n<=i+j
theorem LoP.putB{a b o o':Array Keyed}{n i j:Nat}(h:LoP Z a b n o i j)(m:ML Z a.toList b.toList o'.toList i (j+1))(e:j+1≠b.size):LoP Z a b (n+1) o' i (j+1):=⟨m,h.hi,ED h.hj e,Nat.succ_le_succ h.hn⟩
theorem LoP.putA{a b o o':Array Keyed}{n i j:Nat}(h:LoP Z a b n o i j)(m:ML Z a.toList b.toList o'.toList (i+1) j)(e:i+1+1≠a.size):LoP Z a b (n+1) o' (i+1) j:=⟨m,ED h.hi e,h.hj,by rw[Nat.add_right_comm];exact Nat.succ_le_succ h.hn⟩
theorem LoP.mono{a b o:Array Keyed}{n n' i j:Nat}(h:LoP Z a b n o i j)(l:n'<=n):LoP Z a b n' o i j:=⟨h.m,h.hi,h.hj,Nat.le_trans l h.hn⟩
def zGq(Z:KeyKind)(a b:Array Keyed)(st:SortSt)(n:Nat)(c:Option (Array Keyed)×Array Keyed×Nat×Nat×Nat)(st':SortSt):Prop:=Sm st st'/\∃o i j mg,c =(none,o,i,j,mg)/\LoP Z a b n o i j
def LoI2(Z:KeyKind)(a b:Array Keyed)(st:SortSt)(n:Nat)(c:Option (Array Keyed)×Array Keyed×Nat×Nat×Nat×Nat)(st':SortSt):Prop:=Sm st st'/\∃o i j ac bc,c =(none,o,i,j,ac,bc)/\LoP Z a b n o i j
def LoI3(Z:KeyKind)(a b:Array Keyed)(st:SortSt)(n:Nat)(c:Option (Array Keyed)×Array Keyed×Nat×Nat×Nat×Nat×Nat)(st':SortSt):Prop:=Sm st st'/\∃o i j mg ac bc,c =(none,o,i,j,mg,ac,bc)/\LoP Z a b n o i j
theorem LoI2.mk{a b o:Array Keyed}{st st':SortSt}{n i j ac bc:Nat}(sm:Sm st st')(h:LoP Z a b n o i j):LoI2 Z a b st n (none,o,i,j,ac,bc) st':=⟨sm,_,_,_,_,_,rfl,h⟩
theorem LoI3.mk{a b o:Array Keyed}{st st':SortSt}{n i j mg ac bc:Nat}(sm:Sm st st')(h:LoP Z a b n o i j):LoI3 Z a b st n (none,o,i,j,mg,ac,bc) st':=⟨sm,_,_,_,_,_,_,rfl,h⟩
theorem Hn(C:Cmp prog w A s Z kd){st:SortSt}{a b:Array Keyed}{Q:Array Keyed->SortSt->Prop}(hk:kindOf st=kd)(P:Pre Z a b)
  (h:∀r st',Sm st st'->Rm Z a b r->Q r st'):wpS (model prog w) A E s (Cr a b) Q st:=by
 rw[Jh];obtain⟨b0,hb0⟩:=Y0 (a:=b) (i:=0) P.nb;have m0:ML Z a.toList b.toList (#[]:Array Keyed).toList 0 0:=⟨by simp,List.Pairwise.nil,fun x hx=>absurd hx (by simp),fun x hx=>absurd hx (by simp)⟩;have m1:ML Z a.toList b.toList (#[b0]:Array Keyed).toList 0 1:=by
  have:=P.pushB m0 hb0 (by rw[E_];exact P.first b0 hb0);simpa using this
 apply Sl (x0:=b0) (fun R z=>wpS_lift (FG ⟨rfl,z⟩)) (fun R z=>C8 hb0 z)
 case h1=>exact fun hb1=>wpS_pure (h _ _ (Sm.refl _) (P.doneB m1 (eq_of_beq hb1)))
 case h2=>exact fun _ ha1=>wpS_pure (h _ _ (Sm.refl _) (P.lastA m1 (eq_of_beq ha1)))
 intro hb1 ha1;have p1:LoP Z a b 1 #[b0] 0 1:=⟨m1,ED P.na fun z=>ha1 (beq_iff_eq.mpr z),ED P.nb fun z=>hb1 (beq_iff_eq.mpr z),Nat.le_refl _⟩;refine wpS_mono (wpS_forRange (I:=fun x=>zGq Z a b st (x+1)) (Q:=MR Z a b st) ?st ?en ⟨Sm.refl _,_,_,_,_,rfl,p1⟩) ?po
 case po =>
  rintro⟨c1,c2⟩ st' ⟨sm,r,e,hr⟩;cases e;exact wpS_pure (h r st' sm hr)
 case en =>
  rintro c st' ⟨sm,o,i,j,mg,rfl,p⟩;obtain⟨_,h1,h2,h3⟩:=p;exfalso;lia
 case st =>
  rintro x c st' _ hx ⟨sm,o,i,j,mg,rfl,p⟩;refine wpS_bind (wpS_mono (wpS_forRange (I:=fun _=>LoI2 Z a b st (x+1)) (Q:=fun c st'=>MR Z a b st c st'\/LoI2 Z a b st (x+1) c st') ?st1 ?en1 (LoI2.mk sm p)) ?po1)
  case en1=>exact fun c st2 z=>.inr z
  case st1 =>
   rintro x2 c st2 _ _ ⟨sm2,o,i',j',ac,bc,rfl,p2⟩;obtain⟨bj,hbj⟩:=Y0 (a:=b) (i:=j') p2.hj;obtain⟨ai,hai⟩:=Y0 (a:=a) (i:=i') (GY p2.hi);refine wpS_bind (C8 hbj (wpS_bind (C8 hai (wpS_bind (Fy C (sm2.knd hk) (P.kb _ _ hbj) (P.ka _ _ hai) ?_)))));refine P8 (fun hlt=>wpS_bind (C8 hbj ?_)) fun hlt=>wpS_bind (C8 hai ?_)
   .have m3:=P.pushB p2.m hbj fun z hz=>le_trans (KeyOrd.kle_of_klt hlt) (Ds P.sa (ar_get.mp hai) z hz);refine J4 (fun e1=>wpS_pure (.inl (MR.mk sm2 (P.doneB m3 e1)))) fun e1=>?_;have p3:=(p2.putB m3 e1).mono (DC _);exact P8 (fun _=>wpS_pure (.inr (LoI2.mk sm2 p3))) fun _=>wpS_pure (LoI2.mk sm2 p3)
   .have m3:=P.pushA p2.m hai fun z hz=>le_trans (show le Z ai bj from BJ.mpr hlt) (Ds P.sb (ar_get.mp hbj) z hz);refine J4 (fun e1=>wpS_pure (.inl (MR.mk sm2 (P.lastA m3 e1)))) fun e1=>?_;have p3:=(p2.putA m3 e1).mono (DC _);exact P8 (fun _=>wpS_pure (.inr (LoI2.mk sm2 p3))) fun _=>wpS_pure (LoI2.mk sm2 p3)
  case po1 =>
   rintro⟨c1,c2⟩ st2 (⟨sm2,r,e,hr⟩ | ⟨sm2,o2,i2,j2,ac,bc,e,p2⟩)
   .cases e;exact wpS_pure (MR.mk sm2 hr)
   .cases e;refine wpS_bind (wpS_lift (FG ⟨rfl,?_⟩));refine wpS_bind (wpS_mono (wpS_forRange (I:=fun x3=>LoI3 Z a b st (x+1+x3)) (Q:=fun c st'=>MR Z a b st c st'\/LoI3 Z a b st (x+1+1) c st') ?st2 ?en2 (LoI3.mk sm2 p2)) ?po2)
    case en2 =>
     rintro c st3 ⟨sm3,o',i',j',mg',ac,bc,rfl,p3⟩;refine .inr (LoI3.mk sm3 (p3.mono ?_));have:=P.na;lia
    case po2 =>
     rintro⟨c1,c2⟩ st3 (⟨sm3,r,e,hr⟩ | ⟨sm3,o',i',j',mg',ac,bc,e,p3⟩)
     .cases e;exact wpS_pure (MR.mk sm3 hr)
     .cases e;refine wpS_bind (U9 sm3 fun st4 sm4=>?_);exact wpS_pure ⟨sm4,_,_,_,_,rfl,p3⟩
    case st2 =>
     rintro x3 c st3 _ _ ⟨sm3,o3,i3,j3,mg3,ac3,bc3,rfl,p3⟩;obtain⟨bj,hbj⟩:=Y0 (a:=b) (i:=j3) p3.hj;have hi3:i3 +(a.size-i3)<=a.size:=by rw[Nat.add_sub_cancel' (EV (GY p3.hi))];exact Nat.le_refl _
     have hj3:=p3.hj;apply Ql (mg3-1) (y:=mg3)
     case e=>exact rfl
     intro g;refine wpS_bind (U9 sm3 fun st4 sm4=>?_);refine wpS_bind (C8 hbj (wpS_bind (l9 C (sm4.knd hk) (P.kb _ _ hbj) hi3 P.ka (fun u v p q huv _ e1 e2=>r9 P.sa (GA huv _) (ar_get.mp e1) (ar_get.mp e2)) (Nat.sub_pos_of_lt (GY p3.hi)) fun k hk1 k1 k2=>?_)));have m4:ML Z a.toList b.toList (o3++a.extract i3 (i3+k)).toList (i3+k) j3:=P.extA p3.m fun y hy z hz=>by
      obtain⟨t,ht,e⟩:=Br hy;exact le_trans (Dq (k1 t y ht (ar_get.mpr e))) (Ds P.sb (ar_get.mp hbj) z hz)
     have hbz:∀z∈a.toList.drop (i3+k),le Z bj z:=fun z hz=>by
      obtain⟨t,ht,e⟩:=Ih hz;rw[AM]at ht;exact KeyOrd.kle_of_klt (y3 (k2 (k+t) z (Nat.le_add_right _ _) (by lia) (by rw[<-Nat.add_assoc];exact ar_get.mpr e)))
     apply Dh (o:=o3) (i:=i3) (fun o i=>LoP Z a b (x+1+x3) o i j3/\∀z∈a.toList.drop i,le Z bj z)
     .rintro o4 i4 ⟨p4,hbz⟩;refine wpS_bind (C8 hbj ?_);have m5:=P.pushB p4.m hbj hbz;refine J4 (fun e3=>wpS_pure (.inl (MR.mk sm4 (P.doneB m5 e3)))) fun e3=>?_;have p5:=p4.putB m5 e3;generalize o4.push bj=o5 at m5 p5⊢;generalize j3+1=j5 at m5 p5⊢;obtain⟨ai,hai⟩:=Y0 (a:=a) (i:=i4) (GY p5.hi);refine wpS_bind (C8 hai (wpS_bind (l9 C (sm4.knd hk) (P.ka _ _ hai) (by rw[Nat.add_sub_cancel' (EV p5.hj)];exact Nat.le_refl _) P.kb (fun u v p q huv _ e1 e2=>r9 P.sb (GA huv _) (ar_get.mp e1) (ar_get.mp e2)) (Nat.sub_pos_of_lt p5.hj) fun k' hk1' k1' k2'=>?_)));have haz:∀z∈b.toList.drop (j5+k'),le Z ai z:=fun z hz=>by
       obtain⟨t,ht,e⟩:=Ih hz;rw[AM]at ht;exact Eo (k2' (k'+t) z (Nat.le_add_right _ _) (by lia) (by rw[<-Nat.add_assoc];exact ar_get.mpr e))
      apply Dh (o:=o5) (i:=j5) (fun o j=>LoP Z a b (x+1+x3+1) o i4 j/\∀z∈b.toList.drop j,le Z ai z)
      .rintro o6 j6 ⟨p6,haz⟩;refine wpS_bind (C8 hai ?_);have m7:=P.pushA p6.m hai haz;refine J4 (fun e5=>wpS_pure (.inl (MR.mk sm4 (P.lastA m7 e5)))) fun e5=>?_;have p7:=p6.putA m7 e5;exact P8 (fun _=>wpS_pure (.inr (LoI3.mk sm4 (p7.mono (by lia))))) fun _=>wpS_pure (LoI3.mk sm4 (p7.mono (by lia)))
      .intro hF hk0;have m6:ML Z a.toList b.toList (o5++b.extract j5 (j5+k')).toList i4 (j5+k'):=P.extB m5 fun y hy z hz=>by
        obtain⟨t,ht,e⟩:=Br hy;exact le_trans (KeyOrd.kle_of_klt (Is (k1' t y ht (ar_get.mpr e)))) (Ds P.sa (ar_get.mp hai) z hz)
       have hj5:=p5.hj;exact J4 (fun e4=>wpS_pure (.inl (MR.mk sm4 (P.doneB m6 e4)))) fun e4=>hF _ _ ⟨⟨m6,p5.hi,by lia,Nat.le_trans p5.hn (by lia)⟩,haz⟩
      .intro hk0;have z0:k'=0:=GL hk0;subst z0;exact⟨p5,haz⟩
     .intro hF hk0;have hi:=p3.hi;exact J4 (fun e1=>wpS_pure (.inl (MR.mk sm4 (P.lastA m4 e1)))) fun e1=>J4 (fun e2=>wpS_pure (.inl (MR.mk sm4 (P.doneA m4 e2)))) fun e2=>hF _ _ ⟨⟨m4,by lia,p3.hj,Nat.le_trans p3.hn (by lia)⟩,hbz⟩
     .intro hk0;have z0:k=0:=GL hk0;subst z0;exact⟨p3,hbz⟩
end
section
variable{prog:Program}{w:World}{A:Around}{E:Value->Shared->Prop}{s:Shared}{Z:KeyKind}{kd:SortKind}
def Da:Array Keyed->Array Keyed->StateT SortSt Sem (Array Keyed):=sortPriv% PySem.Builtin.mergeHi
theorem Iv(a b:Array Keyed):Da a b =(do
  rule "list.sort.merge-hi"
  let tot:=a.size+b.size
  let dn (o:Array Keyed) (i j:Nat):=a.extract 0 i++b.extract 0 j++o.reverse
  let fB (o:Array Keyed) (i j:Nat):=b.extract 0 j++a.extract 0 i++o.reverse
  let mut i:=a.size-1
  let mut j:=b.size
  let mut o:Array Keyed:=#[<-elem' a i]
  if i == 0 then return dn o i j
  if j == 1 then return fB o i j
  let mut mg:=gallopOf (<-get)
  for _ in [0:tot] do
   let mut ac:=0
   let mut bc:=0
   for _ in [0:tot] do
    let some aw <-lt' (<-elem' b (j-1)) (<-elem' a (i-1)) | return dn o i j
    if aw then
     i:=i-1;o:=o.push (<-elem' a i);ac:=ac+1;bc:=0
     if i == 0 then return dn o i j
     if ac ≥ mg then break
    else
     j:=j-1;o:=o.push (<-elem' b j);bc:=bc+1;ac:=0
     if j == 1 then return fB o i j
     if bc ≥ mg then break
   rule "list.sort.gallop"
   mg:=mg+1
   for _ in [0:tot] do
    if mg>1 then mg:=mg-1
    Ap mg
    let some at_ <-Q8 false (<-elem' b (j-1)) a 0 i (i-1) | return dn o i j
    let k:=i-at_
    ac:=k
    if k>0 then
     o:=o ++(a.extract at_ i).reverse;i:=at_
     if i == 0 then return dn o i j
    j:=j-1;o:=o.push (<-elem' b j)
    if j == 1 then return fB o i j
    let some at_ <-Q8 true (<-elem' a (i-1)) b 0 j (j-1) | return dn o i j
    let k:=j-at_
    bc:=k
    if k>0 then
     o:=o ++(b.extract at_ j).reverse;j:=at_
     if j == 1 then return fB o i j
     if j == 0 then return dn o i j
    i:=i-1;o:=o.push (<-elem' a i)
    if i == 0 then return dn o i j
    if ac<7&&bc<7 then break
   mg:=mg+1
   Ap mg
  unsupported "internal:list.sort.merge-bound"):=rfl
abbrev MHa(Z:KeyKind)(a b o:Array Keyed)(i j:Nat):Prop:=MH Z a.toList b.toList o.toList.reverse i j
section
variable{a b o:Array Keyed}{i j k:Nat}{p q:Keyed}
theorem td1{l:List Keyed}{i:Nat}{p:Keyed}(hi:1<=i)(h:l[i-1]?=some p):(l.take i).drop (i-1) = [p]:=by
 rw[HA,show i-(i-1)=1 by lia];exact Pq h
theorem Ie(a:Array Keyed)(k i:Nat):(a.extract k i).toList =(a.toList.take i).drop k:=by
 rw[FA,ES,HA]
theorem Dx{l:List Keyed}(h:Sor Z l){i:Nat}{p:Keyed}(hp:l[i-1]?=some p):∀z∈l.take i,le Z z p:=fun z hz=>by
 obtain⟨t,h1,_,e⟩:=Me hz;exact r9 h (by lia) e hp
theorem Pre.hpA(P:Pre Z a b)(m:MHa Z a b o i j)(hi:1<=i)(hp:a[i-1]?=some p)(h:∀z∈b.toList.take j,le Z z p):MHa Z a b (o.push p) (i-1) j:=by
 have h1:=m.addA P.sa (i-1) (by lia) (by rw[td1 hi (ar_get.mp hp)];intro y hy;rw[AE.mp hy];exact h);rw[td1 hi (ar_get.mp hp)]at h1;unfold MHa;rw[DL,HG];exact h1
theorem Pre.hpB(P:Pre Z a b)(m:MHa Z a b o i j)(hj:1<=j)(hq:b[j-1]?=some q)(h:∀z∈a.toList.take i,le Z z q):MHa Z a b (o.push q) i (j-1):=by
 have h1:=m.addB P.sb (j-1) (by lia) (by rw[td1 hj (ar_get.mp hq)];intro y hy;rw[AE.mp hy];exact h);rw[td1 hj (ar_get.mp hq)]at h1;unfold MHa;rw[DL,HG];exact h1
theorem Pre.heA(P:Pre Z a b)(m:MHa Z a b o i j)(hk:k<=i)(h:∀y∈(a.toList.take i).drop k,∀z∈b.toList.take j,le Z z y):MHa Z a b (o ++(a.extract k i).reverse) k j:=by
 unfold MHa;rw[BW,FX,HG,List.reverse_reverse,Ie];exact m.addA P.sa k hk h
theorem Pre.heB(P:Pre Z a b)(m:MHa Z a b o i j)(hk:k<=j)(h:∀y∈(b.toList.take j).drop k,∀z∈a.toList.take i,le Z z y):MHa Z a b (o ++(b.extract k j).reverse) i k:=by
 unfold MHa;rw[BW,FX,HG,List.reverse_reverse,Ie];exact m.addB P.sb k hk h
theorem Pre.hdA(P:Pre Z a b)(m:MHa Z a b o i j)(hi:i=0):Rm Z a b (a.extract 0 i++b.extract 0 j++o.reverse):=by
 unfold Rm;rw[BW,BW,FX,n6,n6];refine m.endA P.sa P.sb fun y hy z _=>?_;rw[hi,List.take_zero]at hy;exact absurd hy (by simp)
theorem Pre.hdB(P:Pre Z a b)(m:MHa Z a b o i j)(hj:j=0):Rm Z a b (a.extract 0 i++b.extract 0 j++o.reverse):=by
 unfold Rm;rw[BW,BW,FX,n6,n6];refine m.endA P.sa P.sb fun y _ z hz=>?_;rw[hj,List.take_zero]at hz;exact absurd hz (by simp)
theorem Pre.hfB(P:Pre Z a b)(m:MHa Z a b o i j)(hj:j=1):Rm Z a b (b.extract 0 j++a.extract 0 i++o.reverse):=by
 unfold Rm;rw[BW,BW,FX,n6,n6];refine m.endB P.sa P.sb fun y hy z hz=>?_;obtain⟨t,h1,_,e⟩:=Me hy;have e0:t=0:=by lia
 rw[e0]at e;exact P.first y (ar_get.mpr e) z (DF hz)
end
structure HiP(Z:KeyKind)(a b:Array Keyed)(n:Nat)(o:Array Keyed)(i j:Nat):Prop where
 m:MHa Z a b o i j
 hi:1<=i
 hj:2<=j
 ia:i<=a.size
 jb:j<=b.size
 hn:n+i+j<=a.size+b.size
theorem HiP.putA{a b o o':Array Keyed}{n i j:Nat}(h:HiP Z a b n o i j)(m:MHa Z a b o' (i-1) j)(e:i-1≠0):HiP Z a b (n+1) o' (i-1) j:=by
 obtain⟨_,h1,h2,h3,h4,h5⟩:=h;exact⟨m,by lia,h2,by lia,h4,by lia⟩
theorem HiP.putB{a b o o':Array Keyed}{n i j:Nat}(h:HiP Z a b n o i j)(m:MHa Z a b o' i (j-1))(e:j-1≠1):HiP Z a b (n+1) o' i (j-1):=by
 obtain⟨_,h1,h2,h3,h4,h5⟩:=h;exact⟨m,h1,by lia,h3,by lia,by lia⟩
theorem HiP.mono{a b o:Array Keyed}{n n' i j:Nat}(h:HiP Z a b n o i j)(l:n'<=n):HiP Z a b n' o i j:=⟨h.m,h.hi,h.hj,h.ia,h.jb,Nat.le_trans (Nat.add_le_add_right (Nat.add_le_add_right l _) _) h.hn⟩
theorem HiP.la{a b o:Array Keyed}{n i j:Nat}(h:HiP Z a b n o i j):i-1<a.size:=BF (Nat.sub_lt h.hi (HQ)) h.ia
theorem HiP.lb{a b o:Array Keyed}{n i j:Nat}(h:HiP Z a b n o i j):j-1<b.size:=BF (Nat.sub_lt (GY h.hj) (HQ)) h.jb
theorem HiP.hj1{a b o:Array Keyed}{n i j:Nat}(h:HiP Z a b n o i j):1<=j:=EJ h.hj
def zGi(Z:KeyKind)(a b:Array Keyed)(st:SortSt)(n:Nat)(c:Option (Array Keyed)×Nat×Nat×Array Keyed×Nat)(st':SortSt):Prop:=Sm st st'/\∃i j o mg,c =(none,i,j,o,mg)/\HiP Z a b n o i j
def HiI2(Z:KeyKind)(a b:Array Keyed)(st:SortSt)(n:Nat)(c:Option (Array Keyed)×Nat×Nat×Array Keyed×Nat×Nat)(st':SortSt):Prop:=Sm st st'/\∃i j o ac bc,c =(none,i,j,o,ac,bc)/\HiP Z a b n o i j
def HiI3(Z:KeyKind)(a b:Array Keyed)(st:SortSt)(n:Nat)(c:Option (Array Keyed)×Nat×Nat×Array Keyed×Nat×Nat×Nat)(st':SortSt):Prop:=Sm st st'/\∃i j o mg ac bc,c =(none,i,j,o,mg,ac,bc)/\HiP Z a b n o i j
theorem HiI2.mk{a b o:Array Keyed}{st st':SortSt}{n i j ac bc:Nat}(sm:Sm st st')(h:HiP Z a b n o i j):HiI2 Z a b st n (none,i,j,o,ac,bc) st':=⟨sm,_,_,_,_,_,rfl,h⟩
theorem HiI3.mk{a b o:Array Keyed}{st st':SortSt}{n i j mg ac bc:Nat}(sm:Sm st st')(h:HiP Z a b n o i j):HiI3 Z a b st n (none,i,j,o,mg,ac,bc) st':=⟨sm,_,_,_,_,_,_,rfl,h⟩
theorem Jb(C:Cmp prog w A s Z kd){st:SortSt}{a b:Array Keyed}{Q:Array Keyed->SortSt->Prop}(hk:kindOf st=kd)(P:Pre Z a b)
  (h:∀r st',Sm st st'->Rm Z a b r->Q r st'):wpS (model prog w) A E s (Da a b) Q st:=by
 rw[Iv];have hna:=P.na;have hnb:=P.nb;obtain⟨b0,hb0⟩:=Y0 (a:=a) (i:=a.size-1) (Nat.sub_lt hna HQ);have m0:MHa Z a b (#[]:Array Keyed) a.size b.size:=⟨by simp,List.Pairwise.nil,fun x hx=>absurd hx (by simp),fun x hx=>absurd hx (by simp)⟩;have m1:MHa Z a b (#[b0]:Array Keyed) (a.size-1) b.size:=by
  have:=P.hpA m0 hna hb0 (fun z hz=>P.last b0 hb0 z (DF hz));simpa using this
 apply Sl (x0:=b0) (fun R z=>wpS_lift (FG ⟨rfl,z⟩)) (fun R z=>C8 hb0 z)
 case h1=>exact fun ha1=>wpS_pure (h _ _ (Sm.refl _) (P.hdA m1 (eq_of_beq ha1)))
 case h2=>exact fun _ hb1=>wpS_pure (h _ _ (Sm.refl _) (P.hfB m1 (eq_of_beq hb1)))
 intro ha1 hb1;have ha1:¬a.size-1=0:=fun z=>ha1 (beq_iff_eq.mpr z);have hb1:¬b.size=1:=fun z=>hb1 (beq_iff_eq.mpr z);have p1:HiP Z a b 1 #[b0] (a.size-1) b.size:=⟨m1,by lia,by lia,by lia,by lia,by lia⟩;refine wpS_mono (wpS_forRange (I:=fun x=>zGi Z a b st (x+1)) (Q:=MR Z a b st) ?st ?en ⟨Sm.refl _,_,_,_,_,rfl,p1⟩) ?po
 case po =>
  rintro⟨c1,c2⟩ st' ⟨sm,r,e,hr⟩;cases e;exact wpS_pure (h r st' sm hr)
 case en =>
  rintro c st' ⟨sm,i,j,o,mg,rfl,p⟩;obtain⟨_,h1,h2,_,_,h3⟩:=p;exfalso;lia
 case st =>
  rintro x c st' _ hx ⟨sm,i,j,o,mg,rfl,p⟩;refine wpS_bind (wpS_mono (wpS_forRange (I:=fun _=>HiI2 Z a b st (x+1)) (Q:=fun c st'=>MR Z a b st c st'\/HiI2 Z a b st (x+1) c st') ?st1 ?en1 (HiI2.mk sm p)) ?po1)
  case en1=>exact fun c st2 z=>.inr z
  case st1 =>
   rintro x2 c st2 _ _ ⟨sm2,i',j',o,ac,bc,rfl,p2⟩;obtain⟨bj,hbj⟩:=Y0 (a:=b) (i:=j' - 1) p2.lb;obtain⟨ai,hai⟩:=Y0 (a:=a) (i:=i' - 1) p2.la;refine wpS_bind (C8 hbj (wpS_bind (C8 hai (wpS_bind (Fy C (sm2.knd hk) (P.kb _ _ hbj) (P.ka _ _ hai) ?_)))));refine P8 (fun hlt=>wpS_bind (C8 hai ?_)) fun hlt=>wpS_bind (C8 hbj ?_)
   .have m3:=P.hpA p2.m p2.hi hai fun z hz=>le_trans (Dx P.sb (ar_get.mp hbj) z hz) (KeyOrd.kle_of_klt hlt);refine J4 (fun e1=>wpS_pure (.inl (MR.mk sm2 (P.hdA m3 e1)))) fun e1=>?_;have p3:=(p2.putA m3 e1).mono (DC _);exact P8 (fun _=>wpS_pure (.inr (HiI2.mk sm2 p3))) fun _=>wpS_pure (HiI2.mk sm2 p3)
   .have m3:=P.hpB p2.m p2.hj1 hbj fun z hz=>le_trans (Dx P.sa (ar_get.mp hai) z hz) (show le Z ai bj from BJ.mpr hlt);refine J4 (fun e1=>wpS_pure (.inl (MR.mk sm2 (P.hfB m3 e1)))) fun e1=>?_;have p3:=(p2.putB m3 e1).mono (DC _);exact P8 (fun _=>wpS_pure (.inr (HiI2.mk sm2 p3))) fun _=>wpS_pure (HiI2.mk sm2 p3)
  case po1 =>
   rintro⟨c1,c2⟩ st2 (⟨sm2,r,e,hr⟩ | ⟨sm2,i2,j2,o2,ac,bc,e,p2⟩)
   .cases e;exact wpS_pure (MR.mk sm2 hr)
   .cases e;refine wpS_bind (wpS_lift (FG ⟨rfl,?_⟩));refine wpS_bind (wpS_mono (wpS_forRange (I:=fun x3=>HiI3 Z a b st (x+1+x3)) (Q:=fun c st'=>MR Z a b st c st'\/HiI3 Z a b st (x+1+1) c st') ?st2 ?en2 (HiI3.mk sm2 p2)) ?po2)
    case en2 =>
     rintro c st3 ⟨sm3,i',j',o',mg',ac,bc,rfl,p3⟩;exact .inr (HiI3.mk sm3 (p3.mono (by lia)))
    case po2 =>
     rintro⟨c1,c2⟩ st3 (⟨sm3,r,e,hr⟩ | ⟨sm3,i',j',o',mg',ac,bc,e,p3⟩)
     .cases e;exact wpS_pure (MR.mk sm3 hr)
     .cases e;refine wpS_bind (U9 sm3 fun st4 sm4=>?_);exact wpS_pure ⟨sm4,_,_,_,_,rfl,p3⟩
    case st2 =>
     rintro x3 c st3 _ _ ⟨sm3,i3,j3,o3,mg3,ac3,bc3,rfl,p3⟩;obtain⟨bj,hbj⟩:=Y0 (a:=b) (i:=j3-1) p3.lb;apply Ql (mg3-1) (y:=mg3)
     case e=>exact rfl
     intro g;refine wpS_bind (U9 sm3 fun st4 sm4=>?_);refine wpS_bind (C8 hbj (wpS_bind (l9 C (sm4.knd hk) (P.kb _ _ hbj) (by rw[EK];exact p3.ia) P.ka (fun u v p q huv _ e1 e2=>r9 P.sa (GA huv _) (ar_get.mp e1) (ar_get.mp e2)) (Nat.sub_lt p3.hi HQ) fun k hk1 k1 k2=>?_)));dsimp only;have m4:MHa Z a b (o3 ++(a.extract k i3).reverse) k j3:=P.heA p3.m hk1 fun y hy z hz=>by
      obtain⟨t,ht1,ht2,e⟩:=Vs hy;exact le_trans (Dx P.sb (ar_get.mp hbj) z hz) (KeyOrd.kle_of_klt (y3 (k2 t y ht1 ht2 (by rw[EK];exact ar_get.mpr e))))
     have hbz:∀z∈a.toList.take k,le Z z bj:=fun z hz=>by
      obtain⟨t,ht,_,e⟩:=Me hz;exact Dq (k1 t z ht (by rw[EK];exact ar_get.mpr e))
     generalize hd:i3-k=d;apply Dh (o:=o3) (i:=i3) (fun o i=>HiP Z a b (x+1+x3) o i j3/\∀z∈a.toList.take i,le Z z bj)
     .rintro o4 i4 ⟨p4,hbz⟩;refine wpS_bind (C8 hbj ?_);have m5:=P.hpB p4.m p4.hj1 hbj hbz;refine J4 (fun e3=>wpS_pure (.inl (MR.mk sm4 (P.hfB m5 e3)))) fun e3=>?_;have p5:=p4.putB m5 e3;generalize o4.push bj=o5 at m5 p5⊢;generalize j3-1=j5 at m5 p5⊢;obtain⟨ai,hai⟩:=Y0 (a:=a) (i:=i4-1) p5.la;refine wpS_bind (C8 hai (wpS_bind (l9 C (sm4.knd hk) (P.ka _ _ hai) (by rw[EK];exact p5.jb) P.kb (fun u v p q huv _ e1 e2=>r9 P.sb (GA huv _) (ar_get.mp e1) (ar_get.mp e2)) (Nat.sub_lt p5.hj1 HQ) fun k' hk1' k1' k2'=>?_)));dsimp only;have haz:∀z∈b.toList.take k',le Z z ai:=fun z hz=>by
       obtain⟨t,ht,_,e⟩:=Me hz;exact KeyOrd.kle_of_klt (Is (k1' t z ht (by rw[EK];exact ar_get.mpr e)))
      generalize hd':j5-k'=d';apply Dh (o:=o5) (i:=j5) (fun o j=>HiP Z a b (x+1+x3+1) o i4 j/\∀z∈b.toList.take j,le Z z ai)
      .rintro o6 j6 ⟨p6,haz⟩;refine wpS_bind (C8 hai ?_);have m7:=P.hpA p6.m p6.hi hai haz;refine J4 (fun e5=>wpS_pure (.inl (MR.mk sm4 (P.hdA m7 e5)))) fun e5=>?_;have p7:=p6.putA m7 e5;exact P8 (fun _=>wpS_pure (.inr (HiI3.mk sm4 (p7.mono (by lia))))) fun _=>wpS_pure (HiI3.mk sm4 (p7.mono (by lia)))
      .intro hF hk0;have m6:MHa Z a b (o5 ++(b.extract k' j5).reverse) i4 k':=P.heB m5 hk1' fun y hy z hz=>by
        obtain⟨t,ht1,ht2,e⟩:=Vs hy;exact le_trans (Dx P.sa (ar_get.mp hai) z hz) (Eo (k2' t y ht1 ht2 (by rw[EK];exact ar_get.mpr e)))
       obtain⟨_,h1,h2,h3,h4,h5⟩:=p5;exact J4 (fun e4=>wpS_pure (.inl (MR.mk sm4 (P.hfB m6 e4)))) fun e4=>J4 (fun e5=>wpS_pure (.inl (MR.mk sm4 (P.hdB m6 e5)))) fun e5=>hF _ _ ⟨⟨m6,h1,by lia,h3,Nat.le_trans hk1' h4,by lia⟩,haz⟩
      .intro hk0;have z0:k'=j5:=Nat.le_antisymm hk1' (Nat.le_of_sub_eq_zero (hd'.trans (GL hk0)));subst z0;exact⟨p5,haz⟩
     .intro hF hk0;obtain⟨_,h1,h2,h3,h4,h5⟩:=p3;exact J4 (fun e1=>wpS_pure (.inl (MR.mk sm4 (P.hdA m4 e1)))) fun e1=>hF _ _ ⟨⟨m4,by lia,h2,Nat.le_trans hk1 h3,h4,by lia⟩,hbz⟩
     .intro hk0;have z0:k=i3:=Nat.le_antisymm hk1 (Nat.le_of_sub_eq_zero (hd.trans (GL hk0)));subst z0;exact⟨p3,hbz⟩
end
section
variable{prog:Program}{w:World}{A:Around}{E:Value->Shared->Prop}{s:Shared}{Z:KeyKind}{kd:SortKind}
def seg(l:List Keyed)(lo n:Nat):List Keyed:=(l.drop lo).take n
theorem Od(m:List Keyed)(lo:Nat):∀(n:Nat) (a:Array Keyed),lo+n+m.length<=a.size ->
  ((m.zipIdx n).foldl (fun a (x:Keyed×Nat)=>a.setIfInBounds (lo+x.2) x.1) a).size=a.size /\
  ∀t:Nat,((m.zipIdx n).foldl (fun a (x:Keyed×Nat)=>a.setIfInBounds (lo+x.2) x.1) a)[t]?=if lo+n<=t/\t<lo+n+m.length then m[t-(lo+n)]? else a[t]?:=by
 induction m with
 | nil =>
  intro n a h;refine⟨rfl,fun t=>?_⟩;rw[AJ (by simp only[FU];omega)];rfl
 | cons p m ih =>
  intro n a h;rw[BM]at h;rw[List.zipIdx_cons,List.foldl_cons];obtain⟨i1,i2⟩:=ih (n+1) (a.setIfInBounds (lo+n) p) (by rw[HJ];omega);refine⟨i1.trans HJ,fun t=>?_⟩;rw[i2 t,BM];by_cases h1:lo+n=t
  .subst h1;rw[AJ (by omega),AL (by omega),Array.getElem?_setIfInBounds_self_of_lt (by omega),Nat.sub_self];rfl
  .by_cases h2:lo +(n+1)<=t/\t<lo +(n+1)+m.length
   .rw[AL h2,AL (by omega),show t-(lo+n) =(t-(lo +(n+1)))+1 by omega,List.getElem?_cons_succ]
   .rw[AJ h2,AJ (by omega),Array.getElem?_setIfInBounds_ne h1]
theorem Bj(m:List Keyed)(lo:Nat)(a:Array Keyed)(h:lo+m.length<=a.size) :
  (m.zipIdx.foldl (fun a (x:Keyed×Nat)=>a.setIfInBounds (lo+x.2) x.1) a).toList=a.toList.take lo++m++a.toList.drop (lo+m.length):=by
 obtain⟨h1,h2⟩:=Od m lo 0 a (by omega);refine FE fun t=>?_;rw[BP,h2 t];have hl:(a.toList.take lo).length=lo:=by rw[AW,AM];omega
 by_cases c1:t<lo
 .rw[AJ (by omega),BE,FT (by omega),DQ c1,BP]
 .by_cases c2:t<lo+m.length
  .rw[AL (by omega),FT (by rw[AZ];omega),FO (by omega),hl];rfl
  .rw[AJ (by omega),FO (by rw[AZ];omega),AZ,hl,GM,BP];congr 1;omega
theorem Pg(l:List Keyed)(lo n:Nat):l=l.take lo++seg l lo n++l.drop (lo+n):=by
 unfold seg;rw[BE,<-FN,CA,CA]
theorem Hv(l:List Keyed)(lo n m:Nat):seg l lo (n+m)=seg l lo n++seg l (lo+n) m:=by
 unfold seg;rw[List.take_add,FN]
structure Part(Z:KeyKind)(l l':List Keyed)(lo n:Nat):Prop where
 perm:l'.Perm l
 front:l'.take lo=l.take lo
 back:l'.drop (lo+n)=l.drop (lo+n)
theorem Part.refl(l:List Keyed)(lo n:Nat):Part Z l l lo n:=⟨GD _,rfl,rfl⟩
theorem Part.seg_front{l l':List Keyed}{lo n:Nat}(h:Part Z l l' lo n){u m:Nat}(hu:u+m<=lo):seg l' u m=seg l u m:=by
 have:∀x:List Keyed,seg x u m =((x.take lo).drop u).take m:=fun x=>by
  unfold seg;rw[HA,List.take_take,GQ (by omega)]
 rw[this,this,h.front]
theorem Part.seg_back{l l':List Keyed}{lo n:Nat}(h:Part Z l l' lo n){u m:Nat}(hu:lo+n<=u):seg l' u m=seg l u m:=by
 have:∀x:List Keyed,seg x u m =((x.drop (lo+n)).drop (u-(lo+n))).take m:=fun x=>by
  unfold seg;rw[FN,show lo+n +(u-(lo+n))=u by omega]
 rw[this,this,h.back]
theorem Part.of{l z:List Keyed}{lo n:Nat}(hz:z.Perm (seg l lo n))(hl:lo+n<=l.length):Part Z l (l.take lo++z++l.drop (lo+n)) lo n/\seg (l.take lo++z++l.drop (lo+n)) lo n=z:=by
 have h1:(l.take lo).length=lo:=by rw[AW];omega
 have h2:z.length=n:=by
  rw[hz.length_eq];unfold seg;rw[AW,DJ];omega
 refine⟨⟨?_,?_,?_⟩,?_⟩
 .conv=>rhs;rw[Pg l lo n]
  exact EA _ (DV _ hz)
 .rw[BE,List.take_append_of_le_length (by omega),CZ (by omega)]
 .rw[List.drop_append,FK (by rw[AZ];omega),GR,AZ,h1,h2,Nat.sub_self,E_]
 .unfold seg;rw[BE,List.drop_append,FK (by omega),GR,h1,Nat.sub_self,E_,List.take_append_of_le_length (by omega),CZ (by omega)]
structure St(Z:KeyKind)(kd:SortKind)(a₀:Array Keyed)(st:SortSt):Prop where
 perm:(arrOf st).toList.Perm a₀.toList
 kind:kindOf st=kd
 failed:failedOf st=none
theorem St.size{a₀:Array Keyed}{st:SortSt}(h:St Z kd a₀ st):(arrOf st).size=a₀.size:=by
 have:=h.perm.length_eq;simpa using this
theorem St.has{a₀:Array Keyed}{st:SortSt}(h:St Z kd a₀ st)(h0:KeysOf Z a₀)(i:Nat)(p:Keyed)(e:(arrOf st)[i]?=some p):Has Z p :=
 h0 p (h.perm.mem_iff.mp (BN (ar_get.mp e)))
theorem K5{l:List Keyed}{lo n t:Nat}(ht:t<n):(seg l lo n)[t]?=l[lo+t]?:=by
 unfold seg;rw[DQ ht,GM]
theorem Hx(i:Nat):mergeAt' i =(do
  let u <-get
  let(some (sa,na,pw),some (sb,nb,_)):=((pendingOf u)[i]?,(pendingOf u)[i+1]?) | unsupported "internal:list.sort.pending"
  set (setPending u (((pendingOf u).setIfInBounds i (sa,na+nb,pw)).eraseIdxIfInBounds (i+1)))
  let some k <-Q8 false (<-elem' (arrOf u) sb) (arrOf u) sa na 0 | return false
  let(sa,na):=(sa+k,na-k)
  if na == 0 then return true
  let some nb <-Q8 true (<-elem' (arrOf u) (sa+na-1)) (arrOf u) sb nb (nb-1) | return false
  if nb == 0 then return true
  let x:=(arrOf u).extract sa sb
  let y:=(arrOf u).extract sb (sb+nb)
  let mm <-if na<=nb then Cr x y else Da x y
  modify fun v=>setArr v (mm.toList.zipIdx.foldl (fun a (z:Keyed×Nat)=>a.setIfInBounds (sa+z.2) z.1) (arrOf v))
  return(failedOf (<-get)).isNone):=rfl
theorem Ys{st st2:SortSt}{Q:PUnit->SortSt->Prop}(h:Q ⟨⟩ st2):wpS (model prog w) A E s (set st2:StateT SortSt Sem PUnit) Q st:=by
 unfold wpS;rw[StateT.run_set];exact AF ⟨rfl,h⟩
theorem Iw(C:Cmp prog w A s Z kd){a₀:Array Keyed}(h0:KeysOf Z a₀){st:SortSt}{i sa na pw sb nb pw2:Nat}{Q:Bool->SortSt->Prop}(hS:St Z kd a₀ st)
  (hi:(pendingOf st)[i]?=some (sa,na,pw)) (hj:(pendingOf st)[i+1]?=some (sb,nb,pw2)) (hsb:sb=sa+na) (hsz:sb+nb<=a₀.size) (hna:1<=na) (hnb:1<=nb)
  (sx:Sor Z (seg (arrOf st).toList sa na)) (sy:Sor Z (seg (arrOf st).toList sb nb))
  (h:∀st',St Z kd a₀ st'->Part Z (arrOf st).toList (arrOf st').toList sa (na+nb)->Sor Z (seg (arrOf st').toList sa (na+nb)) ->
   pendingOf st' =((pendingOf st).setIfInBounds i (sa,na+nb,pw)).eraseIdxIfInBounds (i+1)->Q true st'):wpS (model prog w) A E s (mergeAt' i) Q st:=by
 subst hsb;have hL:(arrOf st).toList.length=a₀.size:=by rw[AM];exact hS.size
 have hsz':=hS.size;rw[Hx];refine wpS_bind (wpS_get ?_);rw[hi,hj];dsimp only;refine wpS_bind (Ys ?_);obtain⟨b0,hb0⟩:=Y0 (a:=arrOf st) (i:=sa+na) (by omega);have sxl:∀u v p q,u<=v->v<na->(arrOf st)[sa+u]?=some p->(arrOf st)[sa+v]?=some q->le Z p q:=fun u v p q huv hv e1 e2 =>
  r9 sx huv (by rw[K5 (by omega)];exact ar_get.mp e1) (by rw[K5 hv];exact ar_get.mp e2)
 have syl:∀u v p q,u<=v->v<nb->(arrOf st)[sa+na+u]?=some p->(arrOf st)[sa+na+v]?=some q->le Z p q:=fun u v p q huv hv e1 e2 =>
  r9 sy huv (by rw[K5 (by omega)];exact ar_get.mp e1) (by rw[K5 hv];exact ar_get.mp e2)
 refine wpS_bind (C8 hb0 (wpS_bind (l9 C hS.kind (hS.has h0 _ _ hb0) (by omega) (hS.has h0) sxl (by omega) fun k hk1 k1 k2=>?_)));dsimp only;have b0y:∀z∈seg (arrOf st).toList (sa+na) nb,le Z b0 z:=fun z hz=>by
  obtain⟨t,ht,e⟩:=Br hz;exact syl 0 t b0 z (by omega) ht hb0 (ar_get.mpr e)
 have xk:∀x∈(seg (arrOf st).toList sa na).take k,le Z x b0:=fun x hx=>by
  obtain⟨t,ht,ht2,e⟩:=Me hx;unfold seg at ht2;rw[AW]at ht2;rw[K5 (by omega)]at e;exact Dq (k1 t x ht (ar_get.mpr e))
 have kx:∀x∈(seg (arrOf st).toList sa na).drop k,le Z b0 x:=fun x hx=>by
  obtain⟨t,ht,e⟩:=Ih hx;unfold seg at ht;rw[AW]at ht;rw[K5 (by omega)]at e;exact KeyOrd.kle_of_klt (y3 (k2 (k+t) x (by omega) (by omega) (ar_get.mpr e)))
 have S1:St Z kd a₀ (setPending st (((pendingOf st).setIfInBounds i (sa,na+nb,pw)).eraseIdxIfInBounds (i+1))):=⟨hS.perm,hS.kind,hS.failed⟩;by_cases hk0:na-k=0
 .rw[AL (by simpa using hk0)];have hkk:k=na:=by omega
  refine wpS_pure (h _ S1 (Part.refl _ _ _) ?_ rfl);show Sor Z (seg (arrOf st).toList sa (na+nb));rw[Hv];refine CG.mpr ⟨sx,sy,fun x hx y hy=>le_trans (xk x ?_) (b0y y hy)⟩;rw[CZ (by unfold seg;rw[AW];omega)];exact hx
 rw[AJ (by simpa using hk0)];obtain⟨al,hal⟩:=Y0 (a:=arrOf st) (i:=sa+k +(na-k)-1) (by omega);refine wpS_bind (C8 hal (wpS_bind (l9 C S1.kind (hS.has h0 _ _ hal) (by omega) (hS.has h0) syl (by omega) fun k' hk1' k1' k2'=>?_)));dsimp only;have hal':(arrOf st)[sa +(na-1)]?=some al:=by rw[show sa +(na-1)=sa+k +(na-k)-1 by omega];exact hal
 have xal:∀x∈seg (arrOf st).toList sa na,le Z x al:=fun x hx=>by
  obtain⟨t,ht,e⟩:=Br hx;exact sxl t (na-1) x al (by omega) (by omega) (ar_get.mpr e) hal'
 have yk:∀y∈(seg (arrOf st).toList (sa+na) nb).take k',le Z y al:=fun y hy=>by
  obtain⟨t,ht,ht2,e⟩:=Me hy;unfold seg at ht2;rw[AW]at ht2;rw[K5 (by omega)]at e;exact KeyOrd.kle_of_klt (Is (k1' t y ht (ar_get.mpr e)))
 have ky:∀y∈(seg (arrOf st).toList (sa+na) nb).drop k',le Z al y:=fun y hy=>by
  obtain⟨t,ht,e⟩:=Ih hy;unfold seg at ht;rw[AW]at ht;rw[K5 (by omega)]at e;exact Eo (k2' (k'+t) y (by omega) (by omega) (ar_get.mpr e))
 by_cases hk0':k'=0
 .rw[AL (by simpa using hk0')];refine wpS_pure (h _ S1 (Part.refl _ _ _) ?_ rfl);show Sor Z (seg (arrOf st).toList sa (na+nb));rw[Hv];refine CG.mpr ⟨sx,sy,fun x hx y hy=>le_trans (xal x hx) (ky y ?_)⟩;rw[hk0',E_];exact hy
 rw[AJ (by simpa using hk0')];have ex:((arrOf st).extract (sa+k) (sa+na)).toList =(seg (arrOf st).toList sa na).drop k:=by
  rw[Ie];unfold seg;rw[HA,HA,FN];congr 1;omega
 have ey:((arrOf st).extract (sa+na) (sa+na+k')).toList =(seg (arrOf st).toList (sa+na) nb).take k':=by
  rw[Eg];unfold seg;rw[List.take_take,GQ hk1']
 have P:Pre Z ((arrOf st).extract (sa+k) (sa+na)) ((arrOf st).extract (sa+na) (sa+na+k')):=by
  refine⟨by rw[ex];exact sx.sublist (FC _ _),by rw[ey];exact sy.sublist (FD _ _),fun t p e=>?_,fun t p e=>?_,?_,?_,fun q e z hz=>?_,fun p e z hz=>?_⟩
  .have m:=BN (ar_get.mp e);rw[ex]at m;obtain⟨u,_,e2⟩:=Br (EF m);exact hS.has h0 _ p (ar_get.mpr e2)
  .have m:=BN (ar_get.mp e);rw[ey]at m;obtain⟨u,_,e2⟩:=Br (DF m);exact hS.has h0 _ p (ar_get.mpr e2)
  .rw[GN];omega
  .rw[GN];omega
  .have m:=ar_get.mp e;rw[ey,DQ (by omega),K5 (by omega)]at m;have:q=b0:=by
    have:=ar_get.mp hb0;rw[Nat.add_zero,this]at m;exact(BI m).symm
   subst this;rw[ex]at hz;exact kx z hz
  .have m:=ar_get.mp e;rw[ex,GN,GM,K5 (by omega)]at m;have:p=al:=by
    have q:=ar_get.mp hal';rw[show k +(min (sa+na) (arrOf st).size-(sa+k)-1)=na-1 by omega,q]at m;exact(BI m).symm
   subst this;rw[ey]at hz;exact yk z hz
 have fin:∀(r:Array Keyed) (st2:SortSt),Sm (setPending st (((pendingOf st).setIfInBounds i (sa,na+nb,pw)).eraseIdxIfInBounds (i+1))) st2->Rm Z ((arrOf st).extract (sa+k) (sa+na)) ((arrOf st).extract (sa+na) (sa+na+k')) r ->
   Q (failedOf (setArr st2 (r.toList.zipIdx.foldl (fun a (z:Keyed×Nat)=>a.setIfInBounds (sa+k+z.2) z.1) (arrOf st2)))).isNone (setArr st2 (r.toList.zipIdx.foldl (fun a (z:Keyed×Nat)=>a.setIfInBounds (sa+k+z.2) z.1) (arrOf st2))):=by
  rintro r st2 ⟨q1,q2,q3,q4⟩ ⟨r1,r2⟩;rw[ex,ey]at r2;have hrl:r.toList.length =(na-k)+k':=by
   rw[r2.length_eq,AZ];unfold seg;rw[DJ,AW,AW,DJ,AW,DJ];omega
  have q2':arrOf st2=arrOf st:=q2;have ef:failedOf (setArr st2 (r.toList.zipIdx.foldl (fun a (z:Keyed×Nat)=>a.setIfInBounds (sa+k+z.2) z.1) (arrOf st2)))=none:=q4.trans hS.failed;rw[ef];have el:=Bj r.toList (sa+k) (arrOf st2) (by rw[q2'];omega);have eq:(r.toList.zipIdx.foldl (fun a (z:Keyed×Nat)=>a.setIfInBounds (sa+k+z.2) z.1) (arrOf st2)).toList =(arrOf st).toList.take sa ++((seg (arrOf st).toList sa na).take k++r.toList ++(seg (arrOf st).toList (sa+na) nb).drop k') ++(arrOf st).toList.drop (sa +(na+nb)):=by
   rw[el,q2',hrl];have e1:(arrOf st).toList.take (sa+k) =(arrOf st).toList.take sa ++(seg (arrOf st).toList sa na).take k:=by
    unfold seg;rw[List.take_add,List.take_take,GQ hk1]
   have e2:(arrOf st).toList.drop (sa+k +(na-k+k')) =(seg (arrOf st).toList (sa+na) nb).drop k' ++(arrOf st).toList.drop (sa +(na+nb)):=by
    unfold seg;rw[HA,FN,show sa+k +(na-k+k')=sa+na+k' by omega]
    conv=>lhs;rw[<-CA (nb-k') ((arrOf st).toList.drop (sa+na+k'))]
    rw[FN,show sa+na+k' +(nb-k')=sa +(na+nb) by omega]
   rw[e1,e2];simp only[BE]
  have hp:((seg (arrOf st).toList sa na).take k++r.toList ++(seg (arrOf st).toList (sa+na) nb).drop k').Perm (seg (arrOf st).toList sa (na+nb)):=by
   rw[Hv];have a1:((seg (arrOf st).toList sa na).take k++r.toList ++(seg (arrOf st).toList (sa+na) nb).drop k').Perm ((seg (arrOf st).toList sa na).take k ++((seg (arrOf st).toList sa na).drop k ++(seg (arrOf st).toList (sa+na) nb).take k') ++(seg (arrOf st).toList (sa+na) nb).drop k') :=
    EA _ (DV _ r2)
   refine a1.trans (List.Perm.of_eq ?_);rw[<-BE,CA,BE,CA]
  obtain⟨pa,ps⟩:=Part.of (Z:=Z) hp (by rw[hL];omega);have hs:Sor Z ((seg (arrOf st).toList sa na).take k++r.toList ++(seg (arrOf st).toList (sa+na) nb).drop k'):=by
   refine CG.mpr ⟨CG.mpr ⟨sx.sublist (FD _ _),r1,fun x hx y hy=>?_⟩,sy.sublist (FC _ _),fun x hx y hy=>?_⟩
   .rcases AR.mp (r2.mem_iff.mp hy)with hy | hy
    .exact le_trans (xk x hx) (kx y hy)
    .exact le_trans (xk x hx) (b0y y (DF hy))
   .rcases AR.mp hx with hx | hx
    .exact le_trans (xal x (DF hx)) (ky y hy)
    .rcases AR.mp (r2.mem_iff.mp hx)with hx | hx
     .exact le_trans (xal x (EF hx)) (ky y hy)
     .exact le_trans (yk x hx) (ky y hy)
  refine h _ ⟨?_,q1.trans hS.kind,q4.trans hS.failed⟩ ?_ ?_ q3
  .show(r.toList.zipIdx.foldl (fun a (z:Keyed×Nat)=>a.setIfInBounds (sa+k+z.2) z.1) (arrOf st2)).toList.Perm a₀.toList;rw[eq];exact pa.perm.trans hS.perm
  .show Part Z (arrOf st).toList (r.toList.zipIdx.foldl (fun a (z:Keyed×Nat)=>a.setIfInBounds (sa+k+z.2) z.1) (arrOf st2)).toList sa (na+nb);rw[eq];exact pa
  .show Sor Z (seg (r.toList.zipIdx.foldl (fun a (z:Keyed×Nat)=>a.setIfInBounds (sa+k+z.2) z.1) (arrOf st2)).toList sa (na+nb));rw[eq,ps];exact hs
 by_cases hab:na-k<=k'
 .rw[AL hab];refine wpS_bind (Hn C S1.kind P fun r st2 q r1=>?_);exact wpS_bind (wpS_modify (wpS_bind (wpS_get (wpS_pure (fin r st2 q r1)))))
 .rw[AJ hab];refine wpS_bind (Jb C S1.kind P fun r st2 q r1=>?_);exact wpS_bind (wpS_modify (wpS_bind (wpS_get (wpS_pure (fin r st2 q r1)))))
end
section
variable{prog:Program}{w:World}{A:Around}{E:Value->Shared->Prop}{s:Shared}{Z:KeyKind}{kd:SortKind}{a₀:Array Keyed}
theorem Ty{xs:Array Keyed}{i:Nat}{p:Keyed}(h:xs[i]?=some p):KK Z xs i=kk Z p:=by unfold KK kk;rw[h]
def SI(Z:KeyKind)(xs:Array Keyed)(lo m:Nat):Prop:=∀i j,i<=j->j<m->Z.kle (KK Z xs (lo+i)) (KK Z xs (lo+j))
def NI(Z:KeyKind)(xs:Array Keyed)(lo m:Nat):Prop:=∀i j,i<=j->j<m->Z.kle (KK Z xs (lo+j)) (KK Z xs (lo+i))
theorem SI.sor{xs:Array Keyed}{lo m:Nat}(h:SI Z xs lo m):Sor Z (seg xs.toList lo m):=by
 refine ER.mpr fun i j hi hj hij=>?_;unfold seg at hi hj;rw[AW]at hi hj;have e1:xs[lo+i]?=some (seg xs.toList lo m)[i]:=by
  rw[ar_get,<-K5 (n:=m) (by omega)];exact AC _
 have e2:xs[lo+j]?=some (seg xs.toList lo m)[j]:=by
  rw[ar_get,<-K5 (n:=m) (by omega)];exact AC _
 have:=h i j (by omega) (by omega);rw[Ty e1,Ty e2]at this;exact this
structure Lo(Z:KeyKind)(kd:SortKind)(a₀:Array Keyed)(st0:SortSt)(lo n:Nat)(st:SortSt):Prop where
 S:St Z kd a₀ st
 pend:pendingOf st=pendingOf st0
 out:∀t,t<lo\/lo+n<=t->(arrOf st)[t]? =(arrOf st0)[t]?
theorem Lo.part{st0 st:SortSt}{lo n:Nat}(h:Lo Z kd a₀ st0 lo n st)(h0:St Z kd a₀ st0):Part Z (arrOf st0).toList (arrOf st).toList lo n:=by
 refine⟨h.S.perm.trans h0.perm.symm,FE fun t=>?_,FE fun t=>?_⟩
 .by_cases ht:t<lo
  .rw[DQ ht,DQ ht,BP,BP];exact h.out t (.inl ht)
  .rw[DW (by rw[AW];omega),DW (by rw[AW];omega)]
 .rw[GM,GM,BP,BP];exact h.out _ (.inr (by omega))
theorem Lo.mirror{st0 st:SortSt}{lo n i j:Nat}(h:Lo Z kd a₀ st0 lo n st)(hi:lo<=i)(hj:j<=lo+n)(hn:lo+n<=a₀.size):Lo Z kd a₀ st0 lo n (setArr st (mirror (arrOf st) i j ((j-i) / 2))):=by
 refine⟨⟨(Array.perm_iff_toList_perm.mp (mirror_perm _ _ _ _)).trans h.S.perm,h.S.kind,h.S.failed⟩,h.pend,fun t ht=>?_⟩;show(PyProof.Rows.mirror (arrOf st) i j ((j-i) / 2))[t]?=_;have:=h.S.size;rw[getElem?_mirror_all (by omega),AJ (by omega)];exact h.out t ht
theorem O0(C:Cmp prog w A s Z kd)(h0:KeysOf Z a₀){st:SortSt}(hS:St Z kd a₀ st){i j:Nat}{Q:Option Bool->SortSt->Prop}(hi:i<a₀.size)(hj:j<a₀.size)
  (h:Q (some (Z.blt (KK Z (arrOf st) i) (KK Z (arrOf st) j))) st):wpS (model prog w) A E s (ltAt' i j) Q st:=by
 have:=hS.size;obtain⟨p,hp⟩:=Y0 (a:=arrOf st) (i:=i) (by omega);obtain⟨q,hq⟩:=Y0 (a:=arrOf st) (i:=j) (by omega);rw[ltAt'_eq];refine wpS_bind (wpS_get ?_);refine wpS_bind (C8 hp (wpS_bind (C8 hq (Fy C hS.kind (hS.has h0 _ _ hp) (hS.has h0 _ _ hq) ?_))));rw[Ty hp,Ty hq]at h;exact h
theorem zBe{st:SortSt}{lo a nrem:Nat}{f:Nat->(Option (Option Nat)×Nat)->StateT SortSt Sem (ForInStep (Option (Option Nat)×Nat))}{Q:(Option (Option Nat)×Nat)->SortSt->Prop}
  (hf:∀x n,1<=n->n<nrem->wpS (model prog w) A E s (f x (none,n)) (fun r st'=>st'=st/\r=if Z.blt (KK Z (arrOf st) (lo+n)) (KK Z (arrOf st) (lo+n-1))=true then .done (none,n)else .yield (none,n+1)) st)
  (ha:1<=a) (han:a<=nrem) (hs:SI Z (arrOf st) lo a)
  (h:∀n,a<=n->n<=nrem->SI Z (arrOf st) lo n->(n=nrem\/Z.klt (KK Z (arrOf st) (lo+n)) (KK Z (arrOf st) (lo+n-1)))->Q (none,n) st):wpS (model prog w) A E s (forIn [a:nrem] (none,a) f) Q st:=by
 refine wpS_forRange (I:=fun x c st'=>st'=st/\c =(none,x)/\SI Z (arrOf st) lo x) ?_ ?_ ⟨rfl,rfl,hs⟩
 .rintro x c st' hax hxn ⟨rfl,rfl,hs'⟩;refine wpS_mono (hf x x (by omega) hxn) fun r st2 ⟨e,er⟩=>?_;subst e;cases hless:Z.blt (KK Z (arrOf st2) (lo+x)) (KK Z (arrOf st2) (lo+x-1))
  .rw[hless,AJ AY]at er;subst er;refine⟨rfl,rfl,fun i j hij hj=>?_⟩;by_cases hjx:j<x
   .exact hs' i j hij hjx
   .have hj':j=x:=by omega
    subst hj';by_cases hi':i=j
    .subst hi';exact KeyOrd.kle_refl _
    .have:=hs' i (j-1) (by omega) (by omega);rw[show lo +(j-1)=lo+j-1 by omega]at this;exact KeyOrd.kle_trans this hless
  .rw[hless,AL rfl]at er;subst er;exact h x hax (by omega) hs' (.inr hless)
 .rintro c st' ⟨rfl,rfl,hs'⟩;rw[show max a nrem=nrem by omega]at hs'⊢;exact h nrem han (Nat.le_refl _) hs' (.inl rfl)
theorem NI.step{xs ys:Array Keyed}{lo x:Nat}(hx:1<=x)(hk:∀k,KK Z ys k=KK Z xs k)(hs:NI Z xs lo x)(hl:Z.kle (KK Z xs (lo+x)) (KK Z xs (lo+x-1))):NI Z ys lo (x+1):=by
 intro i j hij hj;rw[hk,hk];by_cases hjx:j<x
 .exact hs i j hij hjx
 .have hj':j=x:=by omega
  subst hj';by_cases hi':i=j
  .subst hi';exact KeyOrd.kle_refl _
  .have:=hs i (j-1) (by omega) (by omega);rw[show lo +(j-1)=lo+j-1 by omega]at this;exact KeyOrd.kle_trans hl this
abbrev DS:=Option (Option Nat)×Nat×Nat
theorem zBm{st0 st:SortSt}{lo n nrem:Nat}(hsz:lo+nrem<=a₀.size){f:Nat->DS->StateT SortSt Sem (ForInStep DS)}{Q:DS->SortSt->Prop}
  (hf:∀x n q st',1<=n->n<nrem->Lo Z kd a₀ st0 lo nrem st'->wpS (model prog w) A E s (f x (none,n,q)) (fun r st2 =>
   if Z.blt (KK Z (arrOf st') (lo+n)) (KK Z (arrOf st') (lo+n-1))=true then(st2=if q>0 then setArr st' (mirror (arrOf st') (lo+n-(q+1)) (lo+n) ((lo+n-(lo+n-(q+1))) / 2))else st')/\r = .yield (none,n+1,0)
   else st2=st'/\r=if Z.blt (KK Z (arrOf st') (lo+n-1)) (KK Z (arrOf st') (lo+n))=true then .done (none,n,q)else .yield (none,n+1,q+1)) st')
  (h1:1<=n) (hnn:n<=nrem) (hB:Lo Z kd a₀ st0 lo nrem st) (hs:NI Z (arrOf st) lo n)
  (h:∀m q st',Lo Z kd a₀ st0 lo nrem st'->n<=m->m<=nrem->NI Z (arrOf st') lo m->q+1<=m->(∀i,m-(q+1)<=i->i<m->KK Z (arrOf st') (lo+i)=KK Z (arrOf st') (lo+m-1))->Q (none,m,q) st') :
  wpS (model prog w) A E s (forIn [n:nrem] (none,n,0) f) Q st:=by
 refine wpS_forRange (I:=fun x c st'=>∃q,c =(none,x,q)/\Lo Z kd a₀ st0 lo nrem st'/\NI Z (arrOf st') lo x/\q+1<=x /\
   (∀i,x-(q+1)<=i->i<x->KK Z (arrOf st') (lo+i)=KK Z (arrOf st') (lo+x-1))) ?_ ?_ ⟨0,rfl,hB,hs,by omega,fun i h1 h2=>by congr 1;omega⟩
 .rintro x c st' hax hxn ⟨q,rfl,hB',hs',hq,he⟩;have hs0:=hB'.S.size;refine wpS_mono (hf x x q st' (by omega) hxn hB') fun r st2 hr=>?_;cases hless:Z.blt (KK Z (arrOf st') (lo+x)) (KK Z (arrOf st') (lo+x-1))
  .rw[hless,AJ AY]at hr;obtain⟨e,er⟩:=hr;subst e;cases hl:Z.blt (KK Z (arrOf st2) (lo+x-1)) (KK Z (arrOf st2) (lo+x))
   .rw[hl,AJ AY]at er;subst er;have heqx:KK Z (arrOf st2) (lo+x)=KK Z (arrOf st2) (lo+x-1):=KeyOrd.kle_antisymm hl hless;refine⟨q+1,rfl,hB',NI.step (by omega) (fun _=>rfl) hs' hl,by omega,fun i g1 g2=>?_⟩;rw[show lo +(x+1)-1=lo+x by omega];by_cases hix:i=x
    .subst hix;rfl
    .rw[heqx];exact he i (by omega) (by omega)
   .rw[hl,AL rfl]at er;subst er;exact h x q st2 hB' hax (by omega) hs' hq he
  .rw[hless,AL rfl]at hr;obtain⟨e,er⟩:=hr;subst er;have hl:Z.kle (KK Z (arrOf st') (lo+x)) (KK Z (arrOf st') (lo+x-1)):=KeyOrd.kle_of_klt hless;by_cases hq0:q>0
   .rw[AL hq0]at e;subst e;refine⟨0,rfl,hB'.mirror (by omega) (by omega) hsz,NI.step (by omega) (KK_mirror_equal (by omega) fun k g1 g2=>?_) hs' hl,by omega,fun i g1 g2=>by congr 1;omega⟩;have:=he (k-lo) (by omega) (by omega);rw[show lo +(k-lo)=k by omega]at this;exact this
   .rw[AJ hq0]at e;subst e;exact⟨0,rfl,hB',NI.step (by omega) (fun _=>rfl) hs' hl,by omega,fun i g1 g2=>by congr 1;omega⟩
 .rintro c st' ⟨q,rfl,hB',hs',hq,he⟩;rw[show max n nrem=nrem by omega]at hs' hq he⊢;exact h nrem q st' hB' hnn (Nat.le_refl _) hs' hq he
theorem NI.turn{xs:Array Keyed}{lo n:Nat}(hn:lo+n<=xs.size)(h:NI Z xs lo n):SI Z (mirror xs lo (lo+n) ((lo+n-lo) / 2)) lo n:=by
 intro i j hij hj;rw[KK_mirror hn,KK_mirror hn,AL (by omega),AL (by omega)];have:=h (n-1-j) (n-1-i) (by omega) (by omega);rw[show lo +(n-1-i)=lo +(lo+n)-1-(lo+i) by omega,show lo +(n-1-j)=lo +(lo+n)-1-(lo+j) by omega]at this;exact this
theorem Gr(C:Cmp prog w A s Z kd)(h0:KeysOf Z a₀){st:SortSt}{lo nrem:Nat}{Q:Option Nat->SortSt->Prop}(hS:St Z kd a₀ st)(hsz:lo+nrem<=a₀.size)(h1:1<=nrem)
  (h:∀m st',Lo Z kd a₀ st lo nrem st'->1<=m->m<=nrem->SI Z (arrOf st') lo m->Q (some m) st'):wpS (model prog w) A E s (countRun' lo nrem) Q st:=by
 have L0:Lo Z kd a₀ st lo nrem st:=⟨hS,rfl,fun _ _=>rfl⟩;rw[countRun'_eq];dsimp only;refine wpS_bind (zBe (Z:=Z) (lo:=lo) (fun x n g1 g2=>?_) (Nat.le_refl 1) h1 (fun i j hij hj=>by have:i=j:=(by omega);subst this;exact KeyOrd.kle_refl _) fun n hn1 hn2 hsn hor=>?_)
 .dsimp only;refine wpS_bind (O0 C h0 hS (by omega) (by omega) ?_);dsimp only;cases Z.blt (KK Z (arrOf st) (lo+n)) (KK Z (arrOf st) (lo+n-1))
  .exact wpS_pure ⟨rfl,rfl⟩
  .exact wpS_pure ⟨rfl,rfl⟩
 dsimp only;by_cases hnn:n=nrem
 .rw[AL (by simpa using hnn)];exact wpS_pure (h n st L0 hn1 hn2 hsn)
 rw[AJ (by simpa using hnn)];have hlt:Z.klt (KK Z (arrOf st) (lo+n)) (KK Z (arrOf st) (lo+n-1)):=hor.resolve_left hnn;have hz:=hS.size;by_cases hgt:n>1
 .rw[AL hgt];refine wpS_bind (O0 C h0 hS (by omega) (by omega) ?_);dsimp only;cases hrose:Z.blt (KK Z (arrOf st) lo) (KK Z (arrOf st) (lo+n-1))with
  | true =>
   simp only[FB];exact wpS_pure (h n st L0 hn1 hn2 hsn)
  | false =>
   simp only[AV,DA];have hall:∀k,lo<=k->k<lo+n->KK Z (arrOf st) k=KK Z (arrOf st) (lo+n-1):=by
    intro k hk1 hk2;have a1:=hsn 0 (k-lo) (by omega) (by omega);have a2:=hsn (k-lo) (n-1) (by omega) (by omega);rw[Nat.add_zero,show lo +(k-lo)=k by omega]at a1;rw[show lo +(k-lo)=k by omega,show lo +(n-1)=lo+n-1 by omega]at a2;exact KeyOrd.kle_antisymm a2 (KeyOrd.kle_trans hrose a1)
   have hk:=KK_mirror_equal (κ:=Z) (xs:=arrOf st) (i:=lo) (j:=lo+n) (by omega) hall;refine wpS_bind (wpS_reverse ?_);have hB2:=L0.mirror (i:=lo) (j:=lo+n) (by omega) (by omega) hsz;have hN:NI Z (mirror (arrOf st) lo (lo+n) ((lo+n-lo) / 2)) lo (n+1):=by
    refine NI.step (by omega) hk (fun i j hij hj=>?_) (KeyOrd.kle_of_klt hlt);rw[hall (lo+i) (by omega) (by omega),hall (lo+j) (by omega) (by omega)];exact KeyOrd.kle_refl _
   refine wpS_bind (wpS_lift (FG ⟨rfl,?_⟩));refine wpS_bind (zBm (Z:=Z) (kd:=kd) (a₀:=a₀) (st0:=st) (lo:=lo) hsz (fun x n' q st' g1 g2 hB'=>?_) (by omega) (by omega) hB2 hN fun m q st' hB3 hm1 hm2 hs3 hq he=>?_)
   .dsimp only;refine wpS_bind (O0 C h0 hB'.S (by omega) (by omega) ?_);dsimp only;cases Z.blt (KK Z (arrOf st') (lo+n')) (KK Z (arrOf st') (lo+n' - 1))
    .simp only[AV,DA];refine wpS_bind (O0 C h0 hB'.S (by omega) (by omega) ?_);dsimp only;cases Z.blt (KK Z (arrOf st') (lo+n' - 1)) (KK Z (arrOf st') (lo+n'))
     .exact wpS_pure ⟨rfl,rfl⟩
     .exact wpS_pure ⟨rfl,rfl⟩
    .simp only[FB];by_cases hq:q>0
     .rw[AL hq,AL hq];exact wpS_bind (wpS_reverse (wpS_pure ⟨rfl,rfl⟩))
     .rw[AJ hq,AJ hq];exact wpS_pure ⟨rfl,rfl⟩
   .dsimp only;have hz3:=hB3.S.size;by_cases hq0:q>0
    .rw[AL hq0];refine wpS_bind (wpS_reverse (wpS_bind (wpS_reverse ?_)));have hB4':=hB3.mirror (i:=lo+m-(q+1)) (j:=lo+m) (by omega) (by omega) hsz;have hB4:=hB4'.mirror (i:=lo) (j:=lo+m) (by omega) (by omega) hsz;have hz4:=hB4'.S.size;have hN4:NI Z (mirror (arrOf st') (lo+m-(q+1)) (lo+m) ((lo+m-(lo+m-(q+1))) / 2)) lo m:=by
      have hk:=KK_mirror_equal (κ:=Z) (xs:=arrOf st') (i:=lo+m-(q+1)) (j:=lo+m) (by omega) (fun k g1 g2=>by
       have:=he (k-lo) (by omega) (by omega);rw[show lo +(k-lo)=k by omega]at this;exact this)
      intro i j hij hj;rw[hk,hk];exact hs3 i j hij hj
     have hT:=hN4.turn (Z:=Z) (lo:=lo) (n:=m) (by rw[mirror_size];omega);refine wpS_bind (zBe (Z:=Z) (lo:=lo) (fun x n' g1 g2=>?_) (by omega) hm2 hT fun m' hm1' hm2' hsm _=>wpS_pure (h m' _ hB4 (by omega) hm2' hsm));dsimp only;refine wpS_bind (O0 C h0 hB4.S (by omega) (by omega) ?_);dsimp only;cases Z.blt (KK Z _ (lo+n')) (KK Z _ (lo+n' - 1))
     .exact wpS_pure ⟨rfl,rfl⟩
     .exact wpS_pure ⟨rfl,rfl⟩
    .rw[AJ hq0];refine wpS_bind (wpS_reverse ?_);have hB4:=hB3.mirror (i:=lo) (j:=lo+m) (by omega) (by omega) hsz;have hT:=hs3.turn (Z:=Z) (lo:=lo) (n:=m) (by omega);refine wpS_bind (zBe (Z:=Z) (lo:=lo) (fun x n' g1 g2=>?_) (by omega) hm2 hT fun m' hm1' hm2' hsm _=>wpS_pure (h m' _ hB4 (by omega) hm2' hsm));dsimp only;refine wpS_bind (O0 C h0 hB4.S (by omega) (by omega) ?_);dsimp only;cases Z.blt (KK Z _ (lo+n')) (KK Z _ (lo+n' - 1))
     .exact wpS_pure ⟨rfl,rfl⟩
     .exact wpS_pure ⟨rfl,rfl⟩
 .rw[AJ hgt];have hn1':n=1:=by omega
  have hB2:=L0;have hN:NI Z (arrOf st) lo (n+1):=by
   refine NI.step (by omega) (fun _=>rfl) (fun i j hij hj=>?_) (KeyOrd.kle_of_klt hlt);have:i=j:=by omega
   subst this;exact KeyOrd.kle_refl _
  refine wpS_bind (wpS_lift (FG ⟨rfl,?_⟩));refine wpS_bind (zBm (Z:=Z) (kd:=kd) (a₀:=a₀) (st0:=st) (lo:=lo) hsz (fun x n' q st' g1 g2 hB'=>?_) (by omega) (by omega) hB2 hN fun m q st' hB3 hm1 hm2 hs3 hq he=>?_)
  .dsimp only;refine wpS_bind (O0 C h0 hB'.S (by omega) (by omega) ?_);dsimp only;cases Z.blt (KK Z (arrOf st') (lo+n')) (KK Z (arrOf st') (lo+n' - 1))
   .simp only[AV,DA];refine wpS_bind (O0 C h0 hB'.S (by omega) (by omega) ?_);dsimp only;cases Z.blt (KK Z (arrOf st') (lo+n' - 1)) (KK Z (arrOf st') (lo+n'))
    .exact wpS_pure ⟨rfl,rfl⟩
    .exact wpS_pure ⟨rfl,rfl⟩
   .simp only[FB];by_cases hq:q>0
    .rw[AL hq,AL hq];exact wpS_bind (wpS_reverse (wpS_pure ⟨rfl,rfl⟩))
    .rw[AJ hq,AJ hq];exact wpS_pure ⟨rfl,rfl⟩
  .dsimp only;have hz3:=hB3.S.size;by_cases hq0:q>0
   .rw[AL hq0];refine wpS_bind (wpS_reverse (wpS_bind (wpS_reverse ?_)));have hB4':=hB3.mirror (i:=lo+m-(q+1)) (j:=lo+m) (by omega) (by omega) hsz;have hB4:=hB4'.mirror (i:=lo) (j:=lo+m) (by omega) (by omega) hsz;have hz4:=hB4'.S.size;have hN4:NI Z (mirror (arrOf st') (lo+m-(q+1)) (lo+m) ((lo+m-(lo+m-(q+1))) / 2)) lo m:=by
     have hk:=KK_mirror_equal (κ:=Z) (xs:=arrOf st') (i:=lo+m-(q+1)) (j:=lo+m) (by omega) (fun k g1 g2=>by
      have:=he (k-lo) (by omega) (by omega);rw[show lo +(k-lo)=k by omega]at this;exact this)
     intro i j hij hj;rw[hk,hk];exact hs3 i j hij hj
    have hT:=hN4.turn (Z:=Z) (lo:=lo) (n:=m) (by rw[mirror_size];omega);refine wpS_bind (zBe (Z:=Z) (lo:=lo) (fun x n' g1 g2=>?_) (by omega) hm2 hT fun m' hm1' hm2' hsm _=>wpS_pure (h m' _ hB4 (by omega) hm2' hsm));dsimp only;refine wpS_bind (O0 C h0 hB4.S (by omega) (by omega) ?_);dsimp only;cases Z.blt (KK Z _ (lo+n')) (KK Z _ (lo+n' - 1))
    .exact wpS_pure ⟨rfl,rfl⟩
    .exact wpS_pure ⟨rfl,rfl⟩
   .rw[AJ hq0];refine wpS_bind (wpS_reverse ?_);have hB4:=hB3.mirror (i:=lo) (j:=lo+m) (by omega) (by omega) hsz;have hT:=hs3.turn (Z:=Z) (lo:=lo) (n:=m) (by omega);refine wpS_bind (zBe (Z:=Z) (lo:=lo) (fun x n' g1 g2=>?_) (by omega) hm2 hT fun m' hm1' hm2' hsm _=>wpS_pure (h m' _ hB4 (by omega) hm2' hsm));dsimp only;refine wpS_bind (O0 C h0 hB4.S (by omega) (by omega) ?_);dsimp only;cases Z.blt (KK Z _ (lo+n')) (KK Z _ (lo+n' - 1))
    .exact wpS_pure ⟨rfl,rfl⟩
    .exact wpS_pure ⟨rfl,rfl⟩
theorem Lo.bubble{st0 st:SortSt}{lo n src d:Nat}(h:Lo Z kd a₀ st0 lo n st)(h1:lo+d<=src)(h2:src<lo+n)(hn:lo+n<=a₀.size):Lo Z kd a₀ st0 lo n (setArr st (bubble (arrOf st) src d)):=by
 refine⟨⟨(Array.perm_iff_toList_perm.mp (bubble_perm _ _ _)).trans h.S.perm,h.S.kind,h.S.failed⟩,h.pend,fun t ht=>?_⟩;show(PyProof.Rows.bubble (arrOf st) src d)[t]?=_;have:=h.S.size;rw[getElem?_bubble (by omega) d (by omega),AJ (by omega),AJ (by omega)];exact h.out t ht
theorem Bl(C:Cmp prog w A s Z kd)(h0:KeysOf Z a₀){st0 st:SortSt}{lo nrem n ok:Nat}{Q:Bool->SortSt->Prop}(hB:Lo Z kd a₀ st0 lo nrem st)(hsz:lo+nrem<=a₀.size)(hn:n<=nrem)(hok:ok<=n)(hs:SI Z (arrOf st) lo ok)
  (h:∀st',Lo Z kd a₀ st0 lo nrem st'->SI Z (arrOf st') lo n->Q true st'):wpS (model prog w) A E s (binarySort' lo n ok) Q st:=by
 rw[binarySort'_eq];refine wpS_bind (wpS_mono (wpS_forRange (I:=fun k c st'=>c =(none,())/\Lo Z kd a₀ st0 lo nrem st'/\SI Z (arrOf st') lo (min k n))
  (Q:=fun c st'=>c =(none,())/\Lo Z kd a₀ st0 lo nrem st'/\SI Z (arrOf st') lo n) ?step ?fin ?init) ?post)
 case post =>
  rintro c st' ⟨rfl,hB',hs'⟩;exact wpS_pure (h st' hB' hs')
 case init =>
  refine⟨rfl,hB,fun i j hij hj=>?_⟩;by_cases h1:ok=0
  .have:i=j:=by omega
   subst this;exact KeyOrd.kle_refl _
  .exact hs i j hij (by omega)
 case fin =>
  rintro c st' ⟨hc,hB',hs'⟩;refine⟨hc,hB',?_⟩
  rwa [show min (max (max ok 1) n) n=n by omega]at hs'
 case step =>
  rintro k c st' hak hkn ⟨rfl,hB',hs'⟩;rw[show min k n=k by omega]at hs';dsimp only;refine wpS_bind (wpS_mono (wpS_forRange (I:=fun x c st''=>st''=st'/\∃l r,c =(none,l,r)/\l<=r/\r<=k/\r-l<=k-x /\
    (∀i,i<l->Z.kle (KK Z (arrOf st') (lo+i)) (KK Z (arrOf st') (lo+k)))/\(∀i,r<=i->i<k->Z.klt (KK Z (arrOf st') (lo+k)) (KK Z (arrOf st') (lo+i))))
   (Q:=fun c st''=>st''=st'/\∃l r,c =(none,l,r)/\l<=k /\
    (∀i,i<l->Z.kle (KK Z (arrOf st') (lo+i)) (KK Z (arrOf st') (lo+k)))/\(∀i,l<=i->i<k->Z.klt (KK Z (arrOf st') (lo+k)) (KK Z (arrOf st') (lo+i)))) ?istep ?ifin ?iinit) ?ipost)
  case iinit=>exact⟨rfl,0,k,rfl,by omega,by omega,by omega,fun i hi=>by omega,fun i h1 h2=>by omega⟩
  case ifin =>
   rintro c st'' ⟨rfl,l,r,rfl,hlr,hrk,hm,hlo,hhi⟩;have:l=r:=by omega
   subst this;exact⟨rfl,l,l,rfl,hrk,hlo,hhi⟩
  case istep =>
   rintro x c st'' _ hxk ⟨rfl,l,r,rfl,hlr,hrk,hm,hlo,hhi⟩;dsimp only;by_cases hge:l ≥ r
   .rw[AL hge];have:l=r:=by omega
    subst this;exact wpS_pure ⟨rfl,l,l,rfl,hrk,hlo,hhi⟩
   .rw[AJ hge];refine wpS_bind (O0 C h0 hB'.S (by omega) (by omega) ?_);dsimp only;cases hless:Z.blt (KK Z (arrOf st'') (lo+k)) (KK Z (arrOf st'') (lo +(l+r) / 2))
    case true =>
     simp only[FB];refine wpS_pure ⟨rfl,l,(l+r) / 2,rfl,by omega,by omega,by omega,hlo,fun i h1 h2=>?_⟩;exact KeyOrd.klt_of_klt_of_kle hless (hs' _ _ h1 h2)
    case false =>
     simp only[AV,DA];refine wpS_pure ⟨rfl,(l+r) / 2+1,r,rfl,by omega,by omega,by omega,fun i h1=>?_,hhi⟩;exact KeyOrd.kle_trans (hs' i ((l+r) / 2) (by omega) (by omega)) (show Z.kle _ _ from hless)
  case ipost =>
   rintro c st'' ⟨rfl,l,r,rfl,hlk,hlo,hhi⟩;have hz:=hB'.S.size;show wpS _ _ _ _ (do moveDown' (lo+k) (lo+l);pure (ForInStep.yield (none,()))) _ _;rw[moveDown'_eq];refine wpS_bind (wpS_modify (wpS_pure ⟨rfl,hB'.bubble (by omega) (by omega) hsz,?_⟩));rw[show min (k+1) n=k+1 by omega];intro i j hij hj;show Z.kle (KK Z (bubble (arrOf st'') (lo+k) (lo+k-(lo+l))) (lo+i)) (KK Z (bubble (arrOf st'') (lo+k) (lo+k-(lo+l))) (lo+j));rw[KK_bubble (by omega) (by omega),KK_bubble (by omega) (by omega),show lo+k-(lo+k-(lo+l))=lo+l by omega];have shift:∀z,1<=z->lo+z-1=lo +(z-1):=fun z _=>by omega
   repeat' split
   all_goals first
    | (exfalso;omega)
    | exact KeyOrd.kle_refl _
    | exact hlo _ (by omega)
    | exact KeyOrd.kle_of_klt (hhi _ (by omega) (by omega))
    | exact hs' _ _ (by omega) (by omega)
    | (rw[shift j (by omega)];exact KeyOrd.kle_of_klt (hhi _ (by omega) (by omega)))
    | (rw[shift i (by omega)];exact hlo _ (by omega))
    | (rw[shift j (by omega)];exact hs' _ _ (by omega) (by omega))
    | (rw[shift i (by omega),shift j (by omega)];exact hs' _ _ (by omega) (by omega))
    | (rw[shift i (by omega)];exact hs' _ _ (by omega) (by omega))
end
abbrev Run:=Nat×Nat×Nat
def Cov:List Run->Nat->Nat->Prop
 | [],a,b=>a=b
 | x::r,a,b=>x.1=a/\1<=x.2.1/\Cov r (a+x.2.1) b
theorem Cov.app:∀{l1 l2:List Run} {a b:Nat},Cov (l1++l2) a b↔∃c,Cov l1 a c/\Cov l2 c b
 | [],l2,a,b=>⟨fun h=>⟨a,rfl,h⟩,fun⟨c,h1,h2⟩=>by have:a=c:=h1;subst this;exact h2⟩
 | x::r,l2,a,b=>by
  constructor
  .rintro⟨h1,h2,h3⟩;obtain⟨c,h4,h5⟩:=Cov.app.mp h3;exact⟨c,⟨h1,h2,h4⟩,h5⟩
  .rintro⟨c,⟨h1,h2,h4⟩,h5⟩;exact⟨h1,h2,Cov.app.mpr ⟨c,h4,h5⟩⟩
theorem Cov.le:∀{l:List Run} {a b:Nat},Cov l a b->a+l.length<=b
 | [],a,b,h=>by have:a=b:=h;subst this;simp
 | x::r,a,b,⟨h1,h2,h3⟩=>by have:=Cov.le h3;rw[BM];omega
theorem Cov.mem:∀{l:List Run} {a b:Nat} {x:Run},Cov l a b->x∈l->a<=x.1/\x.1+x.2.1<=b
 | [],_,_,_,_,hx=>absurd hx (by simp)
 | y::r,a,b,x,⟨h1,h2,h3⟩,hx=>by
  have hl:=Cov.le h3;rcases BD.mp hx with e | hx
  .subst e;omega
  .have:=Cov.mem h3 hx;omega
theorem zFb{l:List Run}{i:Nat}{x y:Run}(hx:l[i]?=some x)(hy:l[i+1]?=some y):l=l.take i++x::y::l.drop (i+2):=by
 obtain⟨h1,rfl⟩:=AG.mp hx;obtain⟨h2,rfl⟩:=AG.mp hy
 conv=>lhs;rw[<-CA i l]
 rw[CF h1,CF h2]
theorem zDp{l:List Run}{i:Nat}{x y:Run}(z:Run)(hx:l[i]?=some x)(hy:l[i+1]?=some y):(l.set i z).eraseIdx (i+1)=l.take i++z::l.drop (i+2):=by
 obtain⟨h1,_⟩:=AG.mp hx;obtain⟨h2,_⟩:=AG.mp hy;have e:=zFb hx hy;have hl:(l.take i).length=i:=by rw[AW];omega
 generalize l.take i=p at *;generalize l.drop (i+2)=q at *;subst e;rw[List.set_append_right _ _ (by omega),hl,Nat.sub_self,List.eraseIdx_append_of_length_le (by omega),hl,show i+1-i=1 by omega];rfl
section
variable{prog:Program}{w:World}{A:Around}{E:Value->Shared->Prop}{s:Shared}{Z:KeyKind}{kd:SortKind}{a₀:Array Keyed}
structure RI(Z:KeyKind)(kd:SortKind)(a₀:Array Keyed)(lo:Nat)(st:SortSt):Prop where
 S:St Z kd a₀ st
 cov:Cov (pendingOf st).toList 0 lo
 sor:∀x∈(pendingOf st).toList,Sor Z (seg (arrOf st).toList x.1 x.2.1)
theorem Ij(C:Cmp prog w A s Z kd)(h0:KeysOf Z a₀){st:SortSt}{lo i:Nat}{Q:Bool->SortSt->Prop}(R:RI Z kd a₀ lo st)(hlo:lo<=a₀.size)(hi:i+1 <(pendingOf st).size)
  (h:∀st',RI Z kd a₀ lo st'->(pendingOf st').size+1 =(pendingOf st).size->Part Z (arrOf st).toList (arrOf st').toList 0 lo->Q true st'):wpS (model prog w) A E s (mergeAt' i) Q st:=by
 obtain⟨⟨sa,na,pw⟩,hx⟩:∃x,(pendingOf st)[i]?=some x:=⟨_,getElem?_pos _ i (by omega)⟩;obtain⟨⟨sb,nb,pw2⟩,hy⟩:∃x,(pendingOf st)[i+1]?=some x:=⟨_,getElem?_pos _ (i+1) hi⟩;have hx':(pendingOf st).toList[i]?=some (sa,na,pw):=by rw[BP];exact hx
 have hy':(pendingOf st).toList[i+1]?=some (sb,nb,pw2):=by rw[BP];exact hy
 have e:=zFb hx' hy';have c:=R.cov;rw[e]at c;obtain⟨c0,c1,c2⟩:=Cov.app.mp c;obtain⟨d1,d2,d3,d4,d5⟩:=c2;dsimp only at d1 d2 d3 d4 d5;have hl5:=Cov.le d5;refine Iw C h0 R.S hx hy (by omega) (by omega) d2 d4 (R.sor _ (BN hx')) (R.sor _ (BN hy')) fun st' S' P' s' p'=>?_;have ep:(pendingOf st').toList =(pendingOf st).toList.take i ++(sa,na+nb,pw) ::(pendingOf st).toList.drop (i+2):=by
  rw[p',<-zDp (sa,na+nb,pw) hx' hy'];simp
 refine h st' ⟨S',?_,fun x hxm=>?_⟩ ?_ ?_
 .rw[ep];exact Cov.app.mpr ⟨c0,c1,d1,(by show 1<=na+nb;omega),(by show Cov _ (c0 +(na+nb)) lo;rw[<-Nat.add_assoc];exact d5)⟩
 .rw[ep]at hxm;have old:∀y∈(pendingOf st).toList,(y.1+y.2.1<=sa\/sa +(na+nb)<=y.1)->Sor Z (seg (arrOf st').toList y.1 y.2.1):=fun y hy ho=>by
   have:=R.sor y hy;rcases ho with ho | ho
   .rw[P'.seg_front ho];exact this
   .rw[P'.seg_back ho];exact this
  rcases AR.mp hxm with hm | hm
  .have:=Cov.mem c1 hm;exact old x (DF hm) (.inl (by omega))
  .rcases BD.mp hm with hm | hm
   .subst hm;exact s'
   .have:=Cov.mem d5 hm;exact old x (EF hm) (.inr (by omega))
 .have:=congrArg List.length ep;rw[AM,AZ,BM,AW,DJ,AM]at this;omega
 .have hb:∀z:List Keyed,z.drop (0+lo) =(z.drop (sa +(na+nb))).drop (lo-(sa +(na+nb))):=fun z=>by
   rw[FN];congr 1;omega
  exact⟨P'.perm,rfl,by rw[hb,hb,P'.back]⟩
theorem Ba{l:Array Run}{pw:Nat}:(l.modify (l.size-1) fun x=>(x.1,x.2.1,pw)).toList.map (fun x:Run=>(x.1,x.2.1))=l.toList.map fun x:Run=>(x.1,x.2.1):=by
 refine FE fun t=>?_;rw[AH,AH,BP,BP,Array.getElem?_modify];split
 .cases l[t]?<;>rfl
 .rfl
theorem Cov.congr:∀{l l':List Run} {a b:Nat},l'.map (fun x:Run=>(x.1,x.2.1))=l.map (fun x:Run=>(x.1,x.2.1))->Cov l a b->Cov l' a b
 | [],[],_,_,_,h=>h
 | [],_::_,_,_,e,_=>by simp at e
 | _::_,[],_,_,e,_=>by simp at e
 | x::r,y::r',a,b,e,⟨h1,h2,h3⟩=>by
  rw[AX,AX]at e;obtain⟨e1,e2⟩:=FZ e;obtain⟨e3,e4⟩:=Prod.mk.inj e1;exact⟨e3.trans h1,by rw[e4];exact h2,by rw[e4];exact Cov.congr e2 h3⟩
theorem RI.congr{lo:Nat}{st:SortSt}(R:RI Z kd a₀ lo st){p:Array Run}(e:p.toList.map (fun x:Run=>(x.1,x.2.1)) =(pendingOf st).toList.map fun x:Run=>(x.1,x.2.1)):RI Z kd a₀ lo (setPending st p):=by
 refine⟨⟨R.S.perm,R.S.kind,R.S.failed⟩,Cov.congr e R.cov,fun x hx=>?_⟩;have:(x.1,x.2.1)∈(pendingOf st).toList.map fun x:Run=>(x.1,x.2.1):=by
  rw[<-e];exact AK.mpr ⟨x,hx,rfl⟩
 obtain⟨y,hy,ey⟩:=AK.mp this;obtain⟨e1,e2⟩:=Prod.mk.inj ey;have:=R.sor y hy;rw[e1,e2]at this;exact this
theorem Z9(C:Cmp prog w A s Z kd)(h0:KeysOf Z a₀){st:SortSt}{Q:Unit->SortSt->Prop}(hS:St Z kd a₀ st)(hp:pendingOf st = #[])
  (h:∀st',St Z kd a₀ st'->Sor Z (arrOf st').toList->Q () st'):wpS (model prog w) A E s sortRuns' Q st:=by
 rw[sortRuns'_eq];refine wpS_bind (wpS_get ?_);dsimp only;have hz:=hS.size;rw[hz];generalize minRun' a₀.size a₀.size 0=mr;refine wpS_bind (wpS_mono (wpS_forRange (I:=fun x c st'=>∃lo,c =(none,lo)/\RI Z kd a₀ lo st'/\lo<=a₀.size/\min x a₀.size<=lo)
  (Q:=fun c st'=>∃lo,c =(none,lo)/\RI Z kd a₀ lo st'/\lo=a₀.size) ?st ?en ⟨0,rfl,⟨hS,by rw[hp];rfl,fun x hx=>by rw[hp]at hx;exact absurd hx (by simp)⟩,CH _,by omega⟩) ?po)
 case en =>
  rintro c st' ⟨lo,rfl,R,h1,h2⟩;exact⟨lo,rfl,R,by omega⟩
 case po =>
  rintro c st' ⟨lo,rfl,R,rfl⟩;dsimp only;refine wpS_bind (wpS_mono (wpS_forRange (I:=fun x c st'=>c =(none,())/\RI Z kd a₀ a₀.size st'/\(pendingOf st').size+x<=a₀.size+1)
   (Q:=fun c st'=>c =(none,())/\RI Z kd a₀ a₀.size st'/\(pendingOf st').size<=1) ?st3 ?en3 ⟨rfl,R,?in3⟩) ?po3)
  case in3 =>
   have:=Cov.le R.cov;rw[AM]at this;omega
  case en3 =>
   rintro c st2 ⟨rfl,R2,g⟩;exact⟨rfl,R2,by omega⟩
  case po3 =>
   rintro c st2 ⟨rfl,R2,g⟩;refine wpS_pure (h st2 R2.S ?_);have c:=R2.cov;have so:=R2.sor;have hz2:=R2.S.size;have hl:(pendingOf st2).toList.length<=1:=by rw[AM];exact g
   generalize (pendingOf st2).toList=l at c so hl
   match l,c,so,hl with
   | [],c,_,_ =>
    have c':0=a₀.size:=c;have:(arrOf st2).toList = []:=List.eq_nil_of_length_eq_zero (by rw[AM];omega);rw[this];exact List.Pairwise.nil
   | [x],⟨c1,c2,c3⟩,so,_ =>
    have c3':0+x.2.1=a₀.size:=c3;have:=so x (AE.mpr rfl);unfold seg at this;rw[c1,E_,CZ (by rw[AM];omega)]at this;exact this
   | _::_::_,_,_,hl=>exact absurd hl (by simp)
  case st3 =>
   rintro x c st2 _ hx ⟨rfl,R2,g⟩
   try dsimp only
   refine wpS_bind (wpS_get ?_);by_cases hle:(pendingOf st2).size<=1
   .rw[AL hle];exact wpS_pure ⟨rfl,R2,hle⟩
   rw[AJ hle];refine wpS_bind (Ij C h0 R2 (Nat.le_refl _) ?_ fun st3 R3 e3 _=>?_)
   .have hi2:∀{c:Prop} [Decidable c] {n:Nat},(if c then n-1 else n)+1<=n+1:=by intro c _ n;split<;>omega
    exact Nat.lt_of_le_of_lt hi2 (by omega)
   .simp only[EW,AV,DA];exact wpS_pure ⟨rfl,R3,by omega⟩
 case st =>
  rintro x c st' _ hx ⟨lo,rfl,R,h1,h2⟩;dsimp only;by_cases hge:lo ≥ a₀.size
  .rw[AL hge];exact wpS_pure ⟨lo,rfl,R,by omega⟩
  rw[AJ hge];refine wpS_bind (Gr C h0 R.S (by omega) (by omega) fun m st2 L2 hm1 hm2 hs2=>?_);dsimp only;by_cases hmr:m<mr
  .rw[AL hmr];refine wpS_bind (wpS_lift (FG ⟨rfl,?_⟩));refine wpS_bind (Bl C h0 L2 (by omega) (show min (a₀.size-lo) mr<=a₀.size-lo by omega) (by omega) hs2 fun st5 L5 s5=>?_);simp only[EW,AV,DA];have hN:1<=min (a₀.size-lo) mr/\min (a₀.size-lo) mr<=a₀.size-lo:=by omega
   generalize min (a₀.size-lo) mr=N at hN s5⊢;have R5:RI Z kd a₀ lo st5:=by
    refine⟨L5.S,by rw[L5.pend];exact R.cov,fun y hy=>?_⟩;rw[L5.pend]at hy;have hc:=Cov.mem R.cov hy;rw[(L5.part R.S).seg_front (by omega)];exact R.sor y hy
   refine wpS_bind (wpS_get ?_);have push:∀(st6:SortSt),RI Z kd a₀ lo st6->Sor Z (seg (arrOf st6).toList lo N)->RI Z kd a₀ (lo+N) (setPending st6 ((pendingOf st6).push (lo,N,0))):=fun st6 R6 s6=>by
    refine⟨⟨R6.S.perm,R6.S.kind,R6.S.failed⟩,?_,fun y hy=>?_⟩
    .show Cov ((pendingOf st6).push (lo,N,0)).toList 0 (lo+N);rw[DL];exact Cov.app.mpr ⟨lo,R6.cov,rfl,(by show 1<=N;omega),rfl⟩
    .have hy':y∈((pendingOf st6).push (lo,N,0)).toList:=hy;rw[DL]at hy';rcases AR.mp hy' with hy' | hy'
     .exact R6.sor y hy'
     .rw[AE.mp hy'];exact s6
   cases hbk:(pendingOf st5).back? with
   | none =>
    dsimp only;refine wpS_bind (wpS_modify (wpS_pure ⟨_,rfl,push _ R5 s5.sor,by omega,by omega⟩))
   | some bk =>
    obtain⟨s1,n1,pb⟩:=bk;dsimp only;generalize power' a₀.size (2*s1+n1) (2*s1+n1+n1+N) a₀.size=pw;refine wpS_bind (wpS_mono (wpS_forRange (I:=fun x c st6=>c =(none,())/\RI Z kd a₀ lo st6/\Part Z (arrOf st5).toList (arrOf st6).toList 0 lo)
     (Q:=fun c st6=>c =(none,())/\RI Z kd a₀ lo st6/\Part Z (arrOf st5).toList (arrOf st6).toList 0 lo) ?stc1 (fun _ _ z=>z) ⟨rfl,R5,Part.refl _ _ _⟩) ?poc1)
    case stc1 =>
     rintro x' c st6 _ _ ⟨rfl,R6,P6⟩
     try dsimp only
     refine wpS_bind (wpS_get ?_);by_cases hp1:(pendingOf st6).size>1
     .rw[AL hp1];obtain⟨⟨u1,u2,ol⟩,hu⟩:∃y,(pendingOf st6)[(pendingOf st6).size-2]?=some y:=⟨_,getElem?_pos _ _ (by omega)⟩;rw[hu];dsimp only;by_cases hol:ol<=pw
      .rw[AL hol];exact wpS_pure ⟨rfl,R6,P6⟩
      rw[AJ hol];refine wpS_bind (Ij C h0 R6 h1 (by omega) fun st7 R7 _ P7=>?_);simp only[EW,AV,DA];exact wpS_pure ⟨rfl,R7,⟨P7.perm.trans P6.perm,rfl,P7.back.trans P6.back⟩⟩
     .rw[AJ hp1];exact wpS_pure ⟨rfl,R6,P6⟩
    case poc1 =>
     rintro c st6 ⟨rfl,R6,P6⟩;dsimp only;refine wpS_bind (wpS_modify (wpS_bind (wpS_modify (wpS_pure ⟨_,rfl,push _ (R6.congr Ba) ?_,by omega,by omega⟩))));show Sor Z (seg (arrOf st6).toList lo N);rw[P6.seg_back (by omega)];exact s5.sor
  .rw[AJ hmr];have R5:RI Z kd a₀ lo st2:=by
    refine⟨L2.S,by rw[L2.pend];exact R.cov,fun y hy=>?_⟩;rw[L2.pend]at hy;have hc:=Cov.mem R.cov hy;rw[(L2.part R.S).seg_front (by omega)];exact R.sor y hy
   refine wpS_bind (wpS_get ?_);have push:∀(st6:SortSt),RI Z kd a₀ lo st6->Sor Z (seg (arrOf st6).toList lo m)->RI Z kd a₀ (lo+m) (setPending st6 ((pendingOf st6).push (lo,m,0))):=fun st6 R6 s6=>by
    refine⟨⟨R6.S.perm,R6.S.kind,R6.S.failed⟩,?_,fun y hy=>?_⟩
    .show Cov ((pendingOf st6).push (lo,m,0)).toList 0 (lo+m);rw[DL];exact Cov.app.mpr ⟨lo,R6.cov,rfl,(by show 1<=m;omega),rfl⟩
    .have hy':y∈((pendingOf st6).push (lo,m,0)).toList:=hy;rw[DL]at hy';rcases AR.mp hy' with hy' | hy'
     .exact R6.sor y hy'
     .rw[AE.mp hy'];exact s6
   cases hbk:(pendingOf st2).back? with
   | none =>
    dsimp only;refine wpS_bind (wpS_modify (wpS_pure ⟨_,rfl,push _ R5 hs2.sor,by omega,by omega⟩))
   | some bk =>
    obtain⟨s1,n1,pb⟩:=bk;dsimp only;generalize power' a₀.size (2*s1+n1) (2*s1+n1+n1+m) a₀.size=pw;refine wpS_bind (wpS_mono (wpS_forRange (I:=fun x c st6=>c =(none,())/\RI Z kd a₀ lo st6/\Part Z (arrOf st2).toList (arrOf st6).toList 0 lo)
     (Q:=fun c st6=>c =(none,())/\RI Z kd a₀ lo st6/\Part Z (arrOf st2).toList (arrOf st6).toList 0 lo) ?stc2 (fun _ _ z=>z) ⟨rfl,R5,Part.refl _ _ _⟩) ?poc2)
    case stc2 =>
     rintro x' c st6 _ _ ⟨rfl,R6,P6⟩
     try dsimp only
     refine wpS_bind (wpS_get ?_);by_cases hp1:(pendingOf st6).size>1
     .rw[AL hp1];obtain⟨⟨u1,u2,ol⟩,hu⟩:∃y,(pendingOf st6)[(pendingOf st6).size-2]?=some y:=⟨_,getElem?_pos _ _ (by omega)⟩;rw[hu];dsimp only;by_cases hol:ol<=pw
      .rw[AL hol];exact wpS_pure ⟨rfl,R6,P6⟩
      rw[AJ hol];refine wpS_bind (Ij C h0 R6 h1 (by omega) fun st7 R7 _ P7=>?_);simp only[EW,AV,DA];exact wpS_pure ⟨rfl,R7,⟨P7.perm.trans P6.perm,rfl,P7.back.trans P6.back⟩⟩
     .rw[AJ hp1];exact wpS_pure ⟨rfl,R6,P6⟩
    case poc2 =>
     rintro c st6 ⟨rfl,R6,P6⟩;dsimp only;refine wpS_bind (wpS_modify (wpS_bind (wpS_modify (wpS_pure ⟨_,rfl,push _ (R6.congr Ba) ?_,by omega,by omega⟩))));show Sor Z (seg (arrOf st6).toList lo m);rw[P6.seg_back (by omega)];exact hs2.sor
end
def kd1(Z:KeyKind)(v:Value):Z.α:=(Z.keyOf v).getD Z.dflt
section
variable{prog:Program}{w:World}{A:Around}{E:Value->Shared->Prop}{s:Shared}{Z:KeyKind}{kd:SortKind}
def Ext(a:Addr)(s s':Shared):Prop:=∀b o,b≠a->s.heap.get? b=some o->s'.heap.get? b=some o
structure Keys(prog:Program)(w:World)(a:Addr)(s:Shared)(Z:KeyKind)(kd:SortKind)(vs:List Value):Prop where
 cmp:∀(A:Around) (s':Shared),Ext a s s'->Cmp prog w A s' Z kd
 key:∀v∈vs,∃k,Z.keyOf v=some k
 kind:2<=vs.length->∀(A:Around) (E:Value->Shared->Prop) (s':Shared) (Q:SortKind->Shared->Prop),Ext a s s'->Q kd s'->wpAny (model prog w) A (keyKind' vs.toArray) Q E s'
def Out(Z:KeyKind)(vs:List Value)(out:Array Value):Prop:=out.toList.Perm vs/\out.toList.Pairwise fun u v=>Z.kle (kd1 Z u) (kd1 Z v)
theorem Lr{vs:List Value}{xs:Array Keyed}(hp:xs.toList.Perm (pairsOf vs).toList)(hs:Sor Z xs.toList):Out Z vs (xs.map (·.2)):=by
 rw[pairsOf_toList]at hp;have hm:∀p∈xs.toList,p.1=p.2:=fun p h=>(mem_zip_self (hp.mem_iff.mp h)).1;have e:(xs.map (·.2)).toList=xs.toList.map (·.1):=by
  rw[Array.toList_map];exact GB fun p h=>(hm p h).symm
 refine⟨?_,?_⟩
 .rw[e];have:=hp.map Prod.fst
  rwa [List.map_fst_zip (Nat.le_refl _)]at this
 .rw[e,CD];exact hs
theorem En{a:Addr}{vs:List Value}{n:Nat}{P:Fin->Shared->Prop}(ho:s.heap.get? a=some (seqObj "list" vs.toArray n))(hz:vs.length<=sizeLine)(K:Keys prog w a s Z kd vs)
  (h:∀out:Array Value,Out Z vs out->P (.done (.ret .none)) { s with heap:=sortedHeap s.heap a vs out }) :
  wpAny (model prog w) A (Builtin.«list.sort» ⟨[.ref a],[]⟩) P E s:=by
 rw[list_sort_plain];have ha:a<s.heap.objs.size:=AI ho;have hsz:vs.toArray.size=vs.length:=by simp
 refine AA (listItems_at ho rfl ?_);refine AA (listUpdate_at ho rfl ?_ (by rw[hsz];exact hz) (by simp));obtain⟨e1,ho1⟩:∃e1,(s.heap.update a (Obj.mapSeq fun _=>#[])).get? a=some (seqObj "list" #[] e1):=⟨_,get?_update_seq ho (fun _=>#[])⟩;refine AA (seqEpoch_at ho1 rfl ?_);refine AA (wpAny_newTuple ?_ (by simpa using hz));refine AA (GU ?_);refine CU ?_;have ho6:(((s.heap.update a (Obj.mapSeq fun _=>#[])).push (seqObj "tuple" vs.toArray 0)).push (seqObj "list" #[] 0)).get? a=some (seqObj "list" #[] e1):=by
  rw[HV _ _ _ (by rw[size_push',ET];exact BB (DG ha)),HV _ _ _ (by rw[ET];exact BB ha)];exact ho1
 show wpAny (model prog w) A _ P E { s with heap:=((s.heap.update a (Obj.mapSeq fun _=>#[])).push (seqObj "tuple" vs.toArray 0)).push (seqObj "list" #[] 0) };dsimp only;have hE:Ext a s { s with heap:=((s.heap.update a (Obj.mapSeq fun _=>#[])).push (seqObj "tuple" vs.toArray 0)).push (seqObj "list" #[] 0) }:=fun b o hb e =>
  AD _ (AD _ ((BR s.heap _ (Ne.symm hb)).trans e))
 by_cases h2:vs.toArray.size<2
 .rw[AL h2,AL h2];refine AA (AF ?_);rw[StateT.run_pure];refine AA (AF ?_);dsimp only;refine AA (seqEpoch_at ho6 rfl ?_);refine AA (listUpdate_at ho6 rfl ?_ (by simp) (by rw[GE];show(pairsOf vs).size<=_;rw[pairsOf_size];omega));simp only[bne_self_eq_false,AV,DA];refine AF (h _ (Lr (Z:=Z) (xs:=pairsOf vs) (GD _) ?_));rw[pairsOf_toList];rw[hsz]at h2
  match vs,h2 with
  | [],_=>exact List.Pairwise.nil
  | [v],_=>exact DK _ _
  | _::_::_,h2=>simp at h2;omega
 .rw[AJ h2,AJ h2];refine AA (K.kind (by omega) A E _ _ hE ?_);refine AA (BS (Z9 (K.cmp A _ hE) (a₀:=pairsOf vs) (st:=SortSt.mk' kd (vs.toArray.zip vs.toArray) #[] 7 none)
   (Q:=fun _ st'=>St Z kd (pairsOf vs) st'/\Sor Z (arrOf st').toList)
   (fun p hp=>?_) ⟨GD _,rfl,rfl⟩ rfl fun st' a1 a2=>⟨a1,a2⟩) ?_ fun _ _ e=>e)
  .rw[pairsOf_toList]at hp;exact K.key _ (mem_zip_self hp).2
  rintro⟨⟨⟩,st'⟩ s' ⟨rfl,hp,hs⟩;dsimp only;refine AA (seqEpoch_at ho6 rfl ?_);refine AA (listUpdate_at ho6 rfl ?_ (by simp) (by rw[GE];show(arrOf st').size<=_;rw[hp.size,pairsOf_size];omega));rw[show failedOf st'=none from hp.failed];simp only[bne_self_eq_false,AV,DA];exact AF (h _ (Lr hp.perm hs))
theorem sorted_gen{x:Value}{Q:Value->Shared->Prop}
  (hc:wpAny (model prog w) A.in1 (collect x) (fun vs s1=>s1.os=s.os/\vs.length<=sizeLine/\(∃(Z:KeyKind) (kd:SortKind),(∀s2:Shared,Ext s1.heap.objs.size s1 s2->Keys prog w s1.heap.objs.size s2 Z kd vs) /\
   ∀(out:Array Value) (h':Heap) (e:Nat),Out Z vs out->(∀b o,s1.heap.get? b=some o->h'.get? b=some o)->h'.get? s1.heap.objs.size=some (seqObj "list" out e)->Q (.ref s1.heap.objs.size) { s1 with heap:=h' })) E s) :
  wpAny (model prog w) A (call (.builtin "sorted") [x]) Q E s:=by
 refine Calls.call_function_entry kind_sorted plain_sorted entry_sorted (args_sorted1 _) ?_;unfold Builtin.«sorted»;refine AA (m:=checkCount "sorted" 1 1 _) (AF ?_);refine AA (BS hc (fun vs s1 ⟨eos,hz,Z,kd,K,q⟩=>?_) fun _ _ z=>z);refine AA (GU ?_);have hoL:(s1.heap.push (seqObj "list" vs.toArray 0)).get? s1.heap.objs.size=some (seqObj "list" vs.toArray 0):=AS _ rfl;show wpAny _ _ _ _ _ { s1 with heap:=s1.heap.push (seqObj "list" vs.toArray 0) };have hE:Ext s1.heap.objs.size s1 { s1 with heap:=s1.heap.push (seqObj "list" vs.toArray 0) }:=fun b o _ e=>AD _ e;refine AA (CU (EG slot_list_sort ⟨_,hoL,rfl⟩ entry_list_sort (En (s:={ s1 with heap:=s1.heap.push (seqObj "list" vs.toArray 0) }) hoL hz (K _ hE) fun out ho=>⟨_,rfl,?_⟩) (args_list_sort _)));obtain⟨e,he⟩:=sortedHeap_at (h:=s1.heap.push (seqObj "list" vs.toArray 0)) (out:=out) hoL;refine AF ⟨_,rfl,q out _ e ho (fun b o eb=>?_) he⟩;have hlt:=AI eb;rw[sortedHeap_old (BB hlt) (by rw[size_push'];exact DG hlt)];exact AD _ eb
theorem keys_strs{a:Addr}{vs:List Value}{ss:List Str}(hS:StrsAre vs ss):Keys prog w a s strKind oneType' vs:=by
 refine⟨fun A s' _=>⟨fun x y k l Q E hx hy q=>?_⟩,fun v hv=>?_,fun h2 A E s' Q _ q=>?_⟩
 .rw[keyLt'_oneType];exact strKind_oneLt prog w A E s' x y k l hx hy q
 .obtain⟨x,t,rfl⟩:=hS.all v hv;exact⟨_,rfl⟩
 .match vs,h2,hS with
  | v1::v2::r,_,hS =>
   rw[keyKind_strs hS];exact AF q
def pairLt(a b:List Nat×List Nat):Bool:=decide (a.1<b.1)||(decide (a.1=b.1)&&decide (a.2<b.2))
theorem pairLt_iff{a b:List Nat×List Nat}:pairLt a b=true↔a.1<b.1\/(a.1=b.1/\a.2<b.2):=by
 unfold pairLt;simp
theorem tri(a b:List Nat):a<b\/a=b\/b<a:=by
 by_cases h:a<b
 .exact .inl h
 .by_cases h':b<a
  .exact .inr (.inr h')
  .exact .inr (.inl (List.le_antisymm (List.not_lt.mp h') (List.not_lt.mp h)))
def Qh:List Value->Option (List Nat×List Nat)
 | [.str x _,.str y _]=>some (x.cps.toList,y.cps.toList)
 | _=>none
def Px(c:Value):Data->Option (List Nat×List Nat)
 | .seq xs _=>if c = .type "tuple" then Qh xs.toList else none
 | _=>none
def pairOf(h:Heap):Value->Option (List Nat×List Nat)
 | .ref p=>(h.get? p).bind fun o=>Px o.cls o.data
 | _=>none
@[reducible] def pairKind(h:Heap):KeyKind where
 α:=List Nat×List Nat
 blt:=pairLt
 irrefl a:=by
  rw[BJ];intro z;rcases pairLt_iff.mp z with z | ⟨_,z⟩
  .exact FP _ z
  .exact FP _ z
 trans a b c h1 h2:=by
  rw[pairLt_iff]at *;rcases h1 with h1 | ⟨h1,h1'⟩
  .rcases h2 with h2 | ⟨h2,_⟩
   .exact .inl (HK h1 h2)
   .exact .inl (h2▸h1)
  .rcases h2 with h2 | ⟨h2,h2'⟩
   .exact .inl (h1▸h2)
   .exact .inr ⟨h1.trans h2,HK h1' h2'⟩
 negTrans a b c h:=by
  rw[pairLt_iff]at h;simp only[pairLt_iff];rcases h with h | ⟨h,h'⟩
  .rcases tri a.1 b.1 with q | q | q
   .exact .inl (.inl q)
   .exact .inr (.inl (q▸h))
   .exact .inr (.inl (HK q h))
  .rcases tri a.1 b.1 with q | q | q
   .exact .inl (.inl q)
   .rcases tri a.2 b.2 with r | r | r
    .exact .inl (.inr ⟨q,r⟩)
    .exact .inr (.inr ⟨q▸h,r▸h'⟩)
    .exact .inr (.inr ⟨q▸h,HK r h'⟩)
   .exact .inr (.inl (h▸q))
 total a b h1 h2:=by
  rw[BJ]at h1 h2;rcases tri a.1 b.1 with q | q | q
  .exact absurd (pairLt_iff.mpr (.inl q)) h1
  .rcases tri a.2 b.2 with r | r | r
   .exact absurd (pairLt_iff.mpr (.inr ⟨q,r⟩)) h1
   .exact Prod.ext q r
   .exact absurd (pairLt_iff.mpr (.inr ⟨q.symm,r⟩)) h2
  .exact absurd (pairLt_iff.mpr (.inl q)) h2
 keyOf:=pairOf h
 dflt:=([],[])
def PairAt(h:Heap)(v:Value)(x y:Str):Prop:=∃p o n t u,v = .ref p/\h.get? p=some o/\o.cls = .type "tuple"/\o.data = .seq #[.str x t,.str y u] n
theorem PairAt.key{h:Heap}{v:Value}{x y:Str}(z:PairAt h v x y):pairOf h v=some (x.cps.toList,y.cps.toList):=by
 obtain⟨p,o,n,t,u,rfl,e,c,d⟩:=z;show(h.get? p).bind (fun o=>Px o.cls o.data)=_;rw[e];show Px o.cls o.data=_;rw[d,c];unfold Px;exact(AL rfl).trans rfl
theorem zAp{l:List Value}{k:List Nat×List Nat}(e:Qh l=some k):∃x t y u,l = [.str x t,.str y u]:=by
 match l,e with
 | [.str x t,.str y u],_=>exact⟨x,t,y,u,rfl⟩
theorem Oh{h:Heap}{v:Value}{k:List Nat×List Nat}(e:pairOf h v=some k):∃x y,PairAt h v x y:=by
 match v,e with
 | .ref p,e =>
  have e':(h.get? p).bind (fun o=>Px o.cls o.data)=some k:=e;obtain⟨o,ho,es⟩:=Option.bind_eq_some_iff.mp e';cases d:o.data with
  | seq xs n =>
   rw[d]at es;have es':(if o.cls = .type "tuple" then Qh xs.toList else none)=some k:=es;by_cases c:o.cls = .type "tuple"
   .rw[AL c]at es';obtain⟨x,t,y,u,el⟩:=zAp es';refine⟨x,y,p,o,n,t,u,rfl,ho,c,?_⟩;rw[d];have:xs = #[.str x t,.str y u]:=by rw[<-IC,el]
    rw[this]
   .rw[AJ c]at es';cases es'
  | _=>rw[d]at es;cases es
theorem Km{h:Heap}{v:Value}{k:List Nat×List Nat}{x y:Str}(z:PairAt h v x y)(e:pairOf h v=some k):k =(x.cps.toList,y.cps.toList):=by
 rw[z.key]at e;exact(BI e).symm
theorem keys_pairs{a:Addr}{vs:List Value}{h0:Heap}(hv:∀v∈vs,∃x y,PairAt h0 v x y)(hk:∀b o,h0.get? b=some o->b≠a/\s.heap.get? b=some o) :
  Keys prog w a s (pairKind h0) (tuples' true) vs:=by
 refine⟨fun A s' hE=>⟨fun x y k l Q E hx hy q=>?_⟩,fun v hvm=>?_,fun h2 A E s' Q hE q=>?_⟩
 .obtain⟨x1,x2,zx⟩:=Oh hx;obtain⟨y1,y2,zy⟩:=Oh hy;have ek:=Km zx hx;have el:=Km zy hy;subst ek el;obtain⟨px,ox,nx,t1,u1,rfl,e1,_,d1⟩:=zx;obtain⟨py,oy,ny,t2,u2,rfl,e2,_,d2⟩:=zy;have f1:=hE _ _ (hk _ _ e1).1 (hk _ _ e1).2;have f2:=hE _ _ (hk _ _ e2).1 (hk _ _ e2).2;refine PySem.W.kat_lt f1 d1 f2 d2 ?_;show PySem.W.KatLex prog w A true _ Q [(.str x1 t1,.str y1 t2),(.str x2 u1,.str y2 u2)] 0 s';refine PySem.W.kat_cons (GF (PySem.W.kat_go (fun he=>?_) fun he=>?_))
  .have he:x1=y1:=by simpa using he
   refine PySem.W.kat_yes (PySem.W.kat_cons (GF (PySem.W.kat_go (fun he2=>?_) fun he2=>?_)))
   .have he2:x2=y2:=by simpa using he2
    refine PySem.W.kat_yes (PySem.W.kat_nil ?_);have:pairLt (x1.cps.toList,x2.cps.toList) (y1.cps.toList,y2.cps.toList)=decide (2<2):=by
     rw[he,he2];exact(pairKind h0).irrefl (y1.cps.toList,y2.cps.toList)
    show Q (decide (2<2)) s';rw[<-this];exact q
   .refine PySem.W.kat_no (PySem.W.kat_one _ _ (lt_str ?_));have:pairLt (x1.cps.toList,x2.cps.toList) (y1.cps.toList,y2.cps.toList)=decide (x2.cps.toList<y2.cps.toList):=by
     rw[he];unfold pairLt;simp[FP]
    show Q (decide (x2.cps.toList<y2.cps.toList)) s';rw[<-this];exact q
  .have he:¬x1=y1:=by simpa using he
   refine PySem.W.kat_no (oneLt_str ?_);have hne:¬x1.cps.toList=y1.cps.toList:=fun z=>he (by cases x1;cases y1;simp at z;simp[z]);have:pairLt (x1.cps.toList,x2.cps.toList) (y1.cps.toList,y2.cps.toList)=decide (x1.cps.toList<y1.cps.toList):=by
    unfold pairLt;simp[hne]
   rw[<-this];exact q
 .obtain⟨x,y,z⟩:=hv v hvm;exact⟨_,z.key⟩
 .have hT:∀(us:List Value),(∀v∈us,∃x y,PairAt h0 v x y)->∃fs,PySem.W.KatTups s'.heap us fs/\fs.length=us.length/\∀v∈fs,∃x t,v = .str x t:=by
   intro us
   induction us with
   | nil=>exact fun _=>⟨[],.nil,rfl,fun v hv=>by simp at hv⟩
   | cons v r ih =>
    intro hus;obtain⟨fs,g1,g2,g3⟩:=ih fun u hu=>hus u (AO _ hu);obtain⟨x,y,p,o,n,t,u,rfl,e,c,d⟩:=hus v (A_ ..);refine⟨.str x t::fs,.cons (hE _ _ (hk _ _ e).1 (hk _ _ e).2) c d rfl g1,by simp[g2],fun z hz=>?_⟩;rcases BD.mp hz with rfl | hz
    .exact⟨x,t,rfl⟩
    .exact g3 z hz
  obtain⟨fs,g1,g2,g3⟩:=hT vs hv;refine PySem.W.kat_kind (T:=.type "str") g1 (by omega) (fun v hv=>?_) (by rfl) q;obtain⟨x,t,rfl⟩:=g3 v hv;exact .now
end
end TS
set_option Elab.async false
namespace L2
open PySem PySem.Spec PyProof.Rows
abbrev Key:=Sum Int Str
def Ep:Key->Value->Bool
 | .inl k,v=>Value.isInt k v
 | .inr x,v=>Value.isStrOf x v
def zGd(w:World):Key->Int
 | .inl k=>hashInt k
 | .inr x=>hashStr w x
theorem D8:∀{k:Key} {v:Value},Ep k v=true->(∃i t,k=Sum.inl i/\v=Value.int i t)\/(∃x t,k=Sum.inr x/\v=Value.str x t)
 | .inl i,v,h=>by
  obtain⟨t,e⟩:=Value.isInt_shape (k:=i) (v:=v) h;exact .inl ⟨i,t,rfl,e⟩
 | .inr x,v,h=>by
  obtain⟨t,e⟩:=Value.isStrOf_shape (x:=x) (v:=v) h;exact .inr ⟨x,t,rfl,e⟩
theorem Ry(i:Int)(t:Tok):Ep (.inl i) (.int i t)=true:=by simp[Ep,Value.isInt]
theorem Z7(x:Str)(t:Tok):Ep (.inr x) (.str x t)=true:=by simp[Ep,Value.isStrOf]
theorem zAs(a b:Int):decide ((Sum.inl a:Key)=Sum.inl b) =(a == b):=by
 by_cases e:a=b
 .subst e;simp
 .have h:¬(Sum.inl a:Key)=Sum.inl b:=fun q=>e (Sum.inl.inj q);rw[AN h];exact(beq_eq_false_iff_ne.mpr e).symm
theorem zAr(a b:Str):decide ((Sum.inr a:Key)=Sum.inr b)=decide (a=b):=by
 by_cases e:a=b
 .subst e;simp
 .have h:¬(Sum.inr a:Key)=Sum.inr b:=fun q=>e (Sum.inr.inj q);rw[AN h,AN e]
theorem zBb(a:Int)(b:Str):decide ((Sum.inl a:Key)=Sum.inr b)=false:=AN (fun q=>nomatch q)
theorem Zy(a:Str)(b:Int):decide ((Sum.inr a:Key)=Sum.inl b)=false:=AN (fun q=>nomatch q)
def B9(prog:Program)(w:World):PySem.KeyKind prog w Key where
 is:=Ep
 hash:=zGd w
 inj:=fun v a b ha hb=>by
  rcases D8 ha with⟨i,t,rfl,rfl⟩ | ⟨x,t,rfl,rfl⟩
  .rcases D8 hb with⟨j,u,rfl,e⟩ | ⟨y,u,rfl,e⟩
   .injection e with e1 _;rw[e1]
   .exact nomatch e
  .rcases D8 hb with⟨j,u,rfl,e⟩ | ⟨y,u,rfl,e⟩
   .exact nomatch e
   .injection e with e1 _;rw[e1]
 byValue:=fun k v h=>by
  rcases D8 h with⟨i,t,rfl,rfl⟩ | ⟨x,t,rfl,rfl⟩<;>rfl
 pyHash:=fun hv h=>by
  rcases D8 hv with⟨i,t,rfl,rfl⟩ | ⟨x,t,rfl,rfl⟩
  .exact wpAny_pyHash_int h
  .exact wpAny_pyHash_str h
 eqBool:=fun hu hv h=>by
  rcases D8 hu with⟨i,t,rfl,rfl⟩ | ⟨x,t,rfl,rfl⟩
  .rcases D8 hv with⟨j,u,rfl,rfl⟩ | ⟨y,u,rfl,rfl⟩
   .rw[zAs]at h;exact wpAny_eqBool_int h
   .rw[zBb]at h;exact SeqAt.EqAt.int_str i t y u _ _ _ _ h
  .rcases D8 hv with⟨j,u,rfl,rfl⟩ | ⟨y,u,rfl,rfl⟩
   .rw[Zy]at h;exact SeqAt.EqAt.str_int x t j u _ _ _ _ h
   .rw[zAr]at h;exact GF h
 «strs»:=fun k x t v h=>by
  rcases D8 h with⟨i,u,rfl,e⟩ | ⟨y,u,rfl,e⟩
  .exact nomatch e
  .injection e with e1 _;subst e1;cases v<;>rfl
theorem Ho(prog:Program)(w:World)(i:Int)(t:Tok):(B9 prog w).is (.inl i) (.int i t)=true:=Ry i t
theorem Ii(prog:Program)(w:World)(x:Str)(t:Tok):(B9 prog w).is (.inr x) (.str x t)=true:=Z7 x t
inductive V where
 | non | bl (b:Bool) | int (i:Int) | str (x:Str) | byt (b:Array UInt8) | flt (b:UInt64) | ref (a:Addr) | ty (n:String)
 deriving DecidableEq
def RelV:V->Value->Prop
 | .non,u=>u=Value.none
 | .bl b,u=>u=Value.bool b
 | .int i,u=>∃t,u=Value.int i t
 | .str x,u=>∃t,u=Value.str x t
 | .byt b,u=>∃t,u=Value.bytes b t
 | .flt b,u=>∃t,u=Value.float b t
 | .ref a,u=>u=Value.ref a
 | .ty n,u=>u=Value.type n
abbrev Vals:List V->List Value->Prop:=Paired RelV
theorem Vals.length{xs:List V}{us:List Value}(r:Vals xs us):xs.length=us.length:=Paired.length r
theorem Vals.get:∀{xs:List V} {us:List Value} {i:Nat} {x:V},Vals xs us->xs[i]?=some x->∃u,us[i]?=some u/\RelV x u
 | _,_,_,_,.nil,e=>by simp at e
 | _,_,0,_,.cons r _,e=>by simp at e;subst e;exact⟨_,rfl,r⟩
 | _,_,i+1,x,.cons _ t,e=>by
  obtain⟨u,h1,h2⟩:=Vals.get (i:=i) (x:=x) t (by simpa using e);exact⟨u,by simpa using h1,h2⟩
theorem Vals.set{x:V}{u:Value}(r:RelV x u):∀{xs:List V} {us:List Value} (i:Nat),Vals xs us->Vals (xs.set i x) (us.set i u)
 | _,_,_,.nil=>.nil
 | _,_,0,.cons _ t=>.cons r t
 | _,_,i+1,.cons q t=>.cons q (Vals.set r i t)
theorem Vals.append:∀{xs ys:List V} {us ws:List Value},Vals xs us->Vals ys ws->Vals (xs++ys) (us++ws)
 | _,_,_,_,.nil,s=>s
 | _,_,_,_,.cons r t,s=>.cons r (Vals.append t s)
theorem Vals.take:∀{xs:List V} {us:List Value} (n:Nat),Vals xs us->Vals (xs.take n) (us.take n)
 | _,_,0,_=>.nil
 | _,_,_+1,.nil=>.nil
 | _,_,n+1,.cons r t=>.cons r (Vals.take n t)
theorem Vals.drop:∀{xs:List V} {us:List Value} (n:Nat),Vals xs us->Vals (xs.drop n) (us.drop n)
 | _,_,0,r=>r
 | _,_,_+1,.nil=>.nil
 | _,_,n+1,.cons _ t=>Vals.drop n t
def RelO:Option V->Option Value->Prop
 | some v,some u=>RelV v u
 | none,none=>True
 | _,_=>False
def KV{Z:Type}:List (Z×V)->List (Z×Value)->Prop:=Paired fun(p:Z×V) (q:Z×Value)=>p.1=q.1/\RelV p.2 q.2
def kV:Key->V
 | .inl i=>.int i
 | .inr x=>.str x
inductive HO where
 | lst (xs:List V)
 | tup (xs:List V)
 | dK (kvs:List (Key×V)) | dT (kvs:List (List Key×V))
 | set (S:Int->Bool) (n:Nat)
 | ins (C dx:Addr) (fs:List (Str×V))
 | own (x:Addr)
 | xd (fs:List (Str×V))
 | met (f x:Addr)
 | rng (lo hi:Int)
 | frz (o:Obj) (u:HO)
 | tbl (ps:Array Value)
 | ext (φ:Heap->Prop)
set_option genInjectivity false
abbrev Hp:=Addr->Option HO
def upd(H:Hp)(a:Addr)(o:HO):Hp:=fun b=>if b=a then some o else H b
theorem upd_same{H:Hp}{a:Addr}{o:HO}:upd H a o a=some o:=by unfold upd;rw[AL rfl]
theorem B3{H:Hp}{a b:Addr}{o:HO}(h:b≠a):upd H a o b=H b:=by unfold upd;rw[AJ h]
theorem Zk{H:Hp}{a:Addr}{o u:HO}:upd (upd H a o) a u=upd H a u:=by
 funext b;unfold upd;split<;>rfl
theorem X0{H:Hp}{a b:Addr}{o u:HO}(h:H a=some o)(h':H b=some u)(d:o≠u):a≠b:=by
 intro e;subst e;rw[h]at h';exact d (BI h')
theorem A9{H:Hp}{a b:Addr}{o:HO}(h:H a=some o)(h':H b=none):a≠b:=by
 intro e;subst e;rw[h]at h';cases h'
section
variable(P:Program)(w:World)
def ObjOk(H:Hp)(h:Heap)(a:Addr):HO->Prop
 | .lst xs=>xs.length<=sizeLine/\∃(its:List Value) (n:Nat),Vals xs its/\h.get? a=some { cls:=.type "list",data:=.seq its.toArray n }
 | .tup xs=>xs.length<=sizeLine/\∃its:List Value,Vals xs its/\IsTup h a its.toArray
 | .dK kvs=>kvs.length<=sizeLine/\(a == sysModules)=false/\∃vs,KV kvs vs/\h.DictOf (B9 P w) a vs
 | .dT kvs=>kvs.length<=sizeLine/\(a == sysModules)=false/\∃xs:List (List Key×Addr×Value),
   Paired (fun(p:List Key×V) (q:List Key×Addr×Value)=>p.1=q.1/\H q.2.1=some (.tup (p.1.map kV))/\RelV p.2 q.2.2) kvs xs /\
   ∃o es ep,h.get? a=some o/\o.ExactDict/\o.data = .dict es ep/\es.toList=xs.map (entryOfKey (tupleKind (B9 P w)))/\(xs.map (·.1)).Nodup
 | .set S n=>h.SetOf (intKind P w) a S n
 | .ins C dx fs=>H dx=some (.own a)/\fs.length<=1000/\dx≠a/\h.get? a=some (PySem.W.instObj C dx) /\
   ∃mA,h.Ns1 dx mA/\(∀f,RelO (fs.lookup f) (mA f))/\PySem.Within mA (fs.map (·.1))
 | .own _=>∃o,h.get? a=some o
 | .xd fs=>∃mA,h.Ns1 a mA/\∀f,RelO (fs.lookup f) (mA f)
 | .rng lo hi=>∃t u v,h.get? a=some { cls:=.type "range",data:=.fields #[.int lo t,.int hi u,.int 1 v] }
 | .frz o u=>h.get? a=some o/\ObjOk H h a u
 | .tbl ps=>h.get? a=some { cls:=.none,data:=.fields ps }
 | .met f x=>h.get? a=some (PySem.W.methodObj (.ref f) (.ref x))
 | .ext φ=>φ h/\(∃o,h.get? a=some o)/\∀h1 h2:Heap,φ h1->(∀o,h1.get? a=some o->h2.get? a=some o)->φ h2
def HOk(H:Hp)(h:Heap):Prop:=∀a o,H a=some o->ObjOk P w H h a o
end
section
variable{P:Program}{w:World}{H H':Hp}{h h':Heap}{a:Addr}{o:HO}
theorem ObjOk.lt(x:ObjOk P w H h a o):a<h.objs.size:=by
 cases o with
 | lst xs=>obtain⟨_,_,_,_,e⟩:=x;exact AI e
 | tup xs=>obtain⟨_,_,_,p⟩:=x;exact p.lt
 | dK kvs=>obtain⟨_,_,_,_,o,_,_,e,_⟩:=x;exact AI e
 | dT kvs=>obtain⟨_,_,_,_,o,_,_,e,_⟩:=x;exact AI e
 | set S n=>obtain⟨o,_,_,_,e,_⟩:=x;exact AI e
 | ins C dx fs=>obtain⟨_,_,_,e,_⟩:=x;exact AI e
 | own y=>obtain⟨_,e⟩:=x;exact AI e
 | xd fs=>obtain⟨_,⟨_,_,_,e,_⟩,_⟩:=x;exact AI e
 | rng lo hi=>obtain⟨_,_,_,e⟩:=x;exact AI e
 | frz ob u=>obtain⟨e,_⟩:=x;exact AI e
 | tbl ps=>exact AI (show h.get? a=some _ from x)
 | met f y=>exact AI (show h.get? a=some _ from x)
 | ext φ=>obtain⟨_,⟨_,e⟩,_⟩:=x;exact AI e
theorem Paired.mapP{α β:Type}{F G:α->β->Prop}:∀{l₁:List α} {l₂:List β},Paired F l₁ l₂->(∀a b,F a b->G a b)->Paired G l₁ l₂
 | _,_,.nil,_=>.nil
 | _,_,.cons r t,f=>.cons (f _ _ r) (Paired.mapP t f)
theorem ObjOk.stay(x:ObjOk P w H h a o)(k:∀b u,(b=a\/H b=some (.own a))->h.get? b=some u->h'.get? b=some u)
  (ho:∀b,H b=some (.own a)->H' b=some (.own a)) (ht:∀b xs,H b=some (.tup xs)->H' b=some (.tup xs)):ObjOk P w H' h' a o:=by
 induction o with
 | lst xs=>obtain⟨z,its,n,r,e⟩:=x;exact⟨z,its,n,r,k _ _ (.inl rfl) e⟩
 | tup xs=>obtain⟨z,its,r,ob,e,c⟩:=x;exact⟨z,its,r,ob,k _ _ (.inl rfl) e,c⟩
 | dK kvs=>obtain⟨z,y,vs,r,ob,es,ep,e,c⟩:=x;exact⟨z,y,vs,r,ob,es,ep,k _ _ (.inl rfl) e,c⟩
 | dT kvs =>
  obtain⟨z,y,xs,r,ob,es,ep,e,c⟩:=x;exact⟨z,y,xs,Paired.mapP r fun p q z=>⟨z.1,ht _ _ z.2.1,z.2.2⟩,ob,es,ep,k _ _ (.inl rfl) e,c⟩
 | set S n=>obtain⟨ob,es,ep,t,e,c⟩:=x;exact⟨ob,es,ep,t,k _ _ (.inl rfl) e,c⟩
 | ins C dx fs =>
  obtain⟨d,z,ne,e,mA,⟨od,es,ep,e2,c⟩,r⟩:=x;exact⟨ho _ d,z,ne,k _ _ (.inl rfl) e,mA,⟨od,es,ep,k _ _ (.inr d) e2,c⟩,r⟩
 | own y=>obtain⟨ob,e⟩:=x;exact⟨ob,k _ _ (.inl rfl) e⟩
 | xd fs=>obtain⟨mA,⟨od,es,ep,e,c⟩,r⟩:=x;exact⟨mA,⟨od,es,ep,k _ _ (.inl rfl) e,c⟩,r⟩
 | rng lo hi=>obtain⟨t,u,v,e⟩:=x;exact⟨t,u,v,k _ _ (.inl rfl) e⟩
 | frz ob u ih=>obtain⟨e,q⟩:=x;exact⟨k _ _ (.inl rfl) e,ih q⟩
 | tbl ps =>
  have e:h.get? a=some { cls:=.none,data:=.fields ps }:=x;show h'.get? a=some { cls:=.none,data:=.fields ps };exact k a _ (.inl rfl) e
 | met f y =>
  have e:h.get? a=some (PySem.W.methodObj (.ref f) (.ref y)):=x;show h'.get? a=some (PySem.W.methodObj (.ref f) (.ref y));exact k a _ (.inl rfl) e
 | ext φ=>obtain⟨p,⟨o,e⟩,st⟩:=x;exact⟨st _ _ p fun o q=>k _ _ (.inl rfl) q,⟨o,k _ _ (.inl rfl) e⟩,st⟩
theorem HOk.lt(x:HOk P w H h)(e:H a=some o):a<h.objs.size:=(x a o e).lt
theorem HOk.fresh(x:HOk P w H h)(e:h.objs.size<=a):H a=none:=by
 cases q:H a with
 | none=>rfl
 | some u=>exact absurd (BF (x.lt q) e) (CV _)
theorem HOk.kept(x:HOk P w H h)(k:∀b u,h.get? b=some u->h'.get? b=some u):HOk P w H h':=fun a o e =>
 (x a o e).stay (fun b u _ q=>k b u q) (fun _ q=>q) fun _ _ q=>q
theorem HOk.laid(x:HOk P w H h)(k:∀b u,h.get? b=some u->h'.get? b=some u)(hp:h.objs.size<=a)(new:ObjOk P w (upd H a o) h' a o):HOk P w (upd H a o) h':=fun b u e=>by
 have hn:=x.fresh hp;by_cases hb:b=a
 .subst hb;rw[upd_same]at e;cases e;exact new
 .rw[B3 hb]at e;exact(x b u e).stay (fun c v _ q=>k c v q) (fun c q=>by rw[B3 (A9 q hn)];exact q) fun c xs q=>by rw[B3 (A9 q hn)];exact q
end
def Rd(H:Hp)(a:Addr)(u:HO):Prop:=H a=some u\/∃o,H a=some (.frz o u)
theorem Rd.ok{P:Program}{w:World}{H:Hp}{h:Heap}{a:Addr}{u:HO}(r:Rd H a u)(x:HOk P w H h):ObjOk P w H h a u:=by
 rcases r with r | ⟨o,r⟩
 .exact x a u r
 .obtain⟨_,q⟩:=x a _ r;exact q
def Mut:Option HO->Prop
 | some (.lst _)=>True
 | some (.dK _)=>True
 | some (.dT _)=>True
 | some (.set _ _)=>True
 | some (.ins _ _ _)=>True
 | some (.ext _)=>True
 | _=>False
section
variable{P:Program}{w:World}{H:Hp}{h h':Heap}{x e:Addr}{o':HO}
theorem HOk.write(ok:HOk P w H h)(mu:Mut (H x))(he:e=x\/H e=some (.own x))(k:∀b u,b≠e->h.get? b=some u->h'.get? b=some u)(heo:∃u,h'.get? e=some u)
  (new:ObjOk P w (upd H x o') h' x o'):HOk P w (upd H x o') h':=fun b u q=>by
 have nown:∀c y,H c=some (.own y)->c≠x:=fun c y r z=>by subst z;rw[r]at mu;exact mu
 have ntup:∀c xs,H c=some (.tup xs)->c≠x:=fun c xs r z=>by subst z;rw[r]at mu;exact mu
 by_cases hb:b=x
 .subst hb;rw[upd_same]at q;cases q;exact new
 .rw[B3 hb]at q;by_cases hbe:b=e
  .have q':H b=some (.own x):=by
    rcases he with z | z
    .exact absurd (hbe.trans z) hb
    .rw[hbe];exact z
   rw[q]at q';cases q';obtain⟨v,hv⟩:=heo;exact⟨v,by rw[hbe];exact hv⟩
  .refine(ok b u q).stay (fun c v hc r=>k c v ?_ r) (fun c r=>by rw[B3 (nown c b r)];exact r) fun c xs r=>by rw[B3 (ntup c xs r)];exact r
   rcases hc with rfl | hc
   .exact hbe
   .rintro rfl;rcases he with z | z
    .exact nown c b hc z
    .rw[hc]at z;cases z;exact hb rfl
end
structure Un(fs ex:List Addr)(H H':Hp)(h h':Heap):Prop where
 keep:∀b o,h.get? b=some o->H b=none->b∉fs->b∉ex->h'.get? b=some o
 slot:∀b o,h.get? b=some o->H b=none->b∈fs->b∉ex->∃sl,h'.get? b=some { o with slots:=sl }
 free:∀b o,h.get? b=some o->H b=none->b∉ex->H' b=none
 there:∀b o,h.get? b=some o->b∉ex->∃o',h'.get? b=some o'
 tups:∀b xs,H b=some (.tup xs)->H' b=some (.tup xs)
 frzs:∀b o u,H b=some (.frz o u)->H' b=some (.frz o u)
 tbls:∀b ps,H b=some (.tbl ps)->∃more,H' b=some (.tbl (ps++more))
section
variable{fs fs' ex ex':List Addr}{H H1 H2:Hp}{h h1 h2 h':Heap}{a x e:Addr}{o:HO}
theorem Un.any(u:Un fs ex H H1 h h1){b:Addr}{ob:Obj}(q:h.get? b=some ob)(n:H b=none)(hx:b∉ex):∃sl,h1.get? b=some { ob with slots:=sl }:=by
 by_cases hb:b∈fs
 .exact u.slot b ob q n hb hx
 .exact⟨ob.slots,u.keep b ob q n hb hx⟩
theorem Un.kept(k:∀b u,h.get? b=some u->h'.get? b=some u):Un fs ex H H h h' :=
 ⟨fun b ob q _ _ _=>k b ob q,fun b ob q _ _ _=>⟨ob.slots,k b ob q⟩,fun _ _ _ n _=>n,fun b ob q _=>⟨ob,k b ob q⟩,fun _ _ q=>q,fun _ _ _ q=>q,fun _ ps q=>⟨#[],by rw[q];simp⟩⟩
theorem Un.refl:Un fs ex H H h h:=Un.kept fun _ _ q=>q
theorem Un.laid(k:∀b u,h.get? b=some u->h'.get? b=some u)(hp:h.objs.size<=a)(hn:H a=none):Un fs ex H (upd H a o) h h' where
 keep:=fun b u q _ _ _=>k b u q
 slot:=fun b u q _ _ _=>⟨u.slots,k b u q⟩
 free:=fun b u q n _=>by rw[B3 (BB (BF (AI q) hp))];exact n
 there:=fun b u q _=>⟨u,k b u q⟩
 tups:=fun b xs q=>by rw[B3 (A9 q hn)];exact q
 frzs:=fun b u xs q=>by rw[B3 (A9 q hn)];exact q
 tbls:=fun b ps q=>⟨#[],by rw[B3 (A9 q hn),q];simp⟩
theorem Un.write(mu:Mut (H x))(he:e=x\/H e=some (.own x))(k:∀b u,b≠e->h.get? b=some u->h'.get? b=some u)(heo:∃u,h'.get? e=some u):Un fs ex H (upd H x o) h h':=by
 have hx:∀b,H b=none->b≠x:=fun b n z=>by subst z;rw[n]at mu;exact mu
 have hb:∀b,H b=none->b≠e:=fun b n z=>by
  subst z;rcases he with r | r
  .exact hx b n r
  .rw[n]at r;cases r
 have hm:∀b u,H b=some u->¬Mut (some u)->b≠x:=fun b u q nm z=>by subst z;rw[q]at mu;exact nm mu
 refine⟨fun b u q n _ _=>k b u (hb b n) q,fun b u q n _ _=>⟨u.slots,k b u (hb b n) q⟩,fun b u q n _=>by rw[B3 (hx b n)];exact n,fun b u q _=>?_,
  fun b xs q=>by rw[B3 (hm b _ q fun z=>z)];exact q,fun b u xs q=>by rw[B3 (hm b _ q fun z=>z)];exact q,fun b ps q=>⟨#[],by rw[B3 (hm b _ q fun z=>z),q];simp⟩⟩
 by_cases hbe:b=e
 .subst hbe;exact heo
 .exact⟨u,k b u hbe q⟩
end
def trk(h:Heap)(H:Hp):List Addr:=(List.range h.objs.size).filter fun a=>(H a).isSome
def Uq(h:Heap)(H:Hp):Heap:=PySem.W.hideAll h (trk h H)
theorem Pr(h:Heap)(H:Hp):(Uq h H).objs.size=h.objs.size:=PySem.W.hideAll_size _ _
theorem Uc{h:Heap}{H:Hp}{b:Addr}{o:Obj}(e:h.get? b=some o)(n:H b=none):(Uq h H).get? b=some o :=
 PySem.W.hideAll_get _ e fun hm=>by
  have q:(H b).isSome=true:=(BC.mp hm).2;rw[n]at q;simp at q
theorem Yr{h:Heap}{H:Hp}{b:Addr}{o:Obj}(e:(Uq h H).get? b=some o):h.get? b=some o/\H b=none:=by
 have e':h.get? b=some o:=PySem.W.of_hideAll (trk h H) e;refine⟨e',?_⟩;cases q:H b with
 | none=>rfl
 | some x =>
  have hm:b∈trk h H:=BC.mpr ⟨CI.mpr (AI e'),by simp[q]⟩;have z:(Uq h H).get? b=none:=PySem.W.hideAll_none (trk h H) hm;rw[z]at e;cases e
structure Mod(K:PySem.W.Frag)(mg:Str->Option Value)(base:Heap):Prop where
 kin:K.In base
 glob:base.Ns mainGlobals mg
 blt:∃mb,base.Ns builtinsNs mb/\∀x:Str,x≠ "__name__"->mb x=bootBuiltins x
 nolimit:base.NoLimit
structure Cx where
 prog:Program
 w:World
 K:PySem.W.Frag
 mg:Str->Option Value
 base:Heap
 A:Around
 N:List Str
 s₀:Shared
 H₀:Hp
 env:Env
 outer:List Env
 stack:List Env
 ex:List Addr
 fn:Str->Bool
 calm:Bool
 pn:List (Addr×Obj)
 xe:Value->Shared->Prop
def frs(l:List Env):List Addr:=l.filterMap (·.frame)
abbrev Cx.fs(X:Cx):List Addr:=frs X.outer
def Vis(sc:Scope)(x:Str):Prop:=sc.names.lookup x=some .local\/sc.names.lookup x=some .cell\/sc.names.lookup x=some .free
def Loc(sc:Scope)(x:Str):Prop:=sc.names.lookup x=some .local\/sc.names.lookup x=some .cell
def zFu(env:Env)(h:Heap)(m:Str->Option Value)(x:Str)(u:Value):Prop :=
 (env.kindOf x=some .local/\m x=some u)\/((env.kindOf x=some .cell\/env.kindOf x=some .free)/\∃c,env.cells.lookup x=some c/\h.IsCell c (some u))
structure Cx.Ok(X:Cx):Prop where
 mod:Mod X.K X.mg X.base
 kind:X.env.scope.kind = .function
 glob:X.env.globals=mainGlobals
 blt:X.env.builtins=builtinsNs
 above:X.s₀.heap.objs.size<=X.env.locals
 inj:∀x y c,X.env.cells.lookup x=some c->X.env.cells.lookup y=some c->x=y
 has:∀x,(X.env.kindOf x=some .cell\/X.env.kindOf x=some .free)->∃c,X.env.cells.lookup x=some c
 cab:∀x c,X.fn x=true->X.env.cells.lookup x=some c->X.s₀.heap.objs.size<=c
 hd:X.calm=true->X.A.handled=none
 frames:X.A.frames=some X.stack
 stk:X.stack=X.outer\/(X.stack=X.env::X.outer/\X.env.frame=some X.env.locals)
 exf:∀b∈X.ex,b≠X.env.locals/\∀x c,X.env.cells.lookup x=some c->c≠b
 bs:∀b o,X.base.get? b=some o->X.s₀.heap.get? b=some o/\X.H₀ b=none
 bsz:X.base.objs.size<=X.s₀.heap.objs.size
 noex:∀b o,X.base.get? b=some o->b∉X.ex
 exfs:∀b∈X.ex,b∉X.fs
 funs:X.s₀.heap.FunFrames X.base X.outer
 frf:∀b∈X.fs,X.H₀ b=none
structure Inv(X:Cx)(pins:List (Addr×Obj))(σ:List (Option V))(H:Hp)(s:Shared):Prop where
 ok:X.Ok
 os:s.os=X.s₀.os
 bare:AllBare s.gens
 base:Un X.fs X.ex X.H₀ H X.s₀.heap s.heap
 loc:∃m,s.heap.Ns X.env.locals m/\∀(i:Nat) (x:Str) (v:V),X.N[i]?=some x->σ[i]?=some (some v)->Vis X.env.scope x->∃u,RelV v u/\zFu X.env s.heap m x u
 cell:∀x c,X.env.cells.lookup x=some c->∃v,s.heap.IsCell c v
 free:H X.env.locals=none
 freeC:∀x c,X.env.cells.lookup x=some c->H c=none
 pin:∀p∈X.pn++pins,s.heap.get? p.1=some p.2/\H p.1=none/\p.1≠X.env.locals/\p.1∉X.fs/\∀v,p.2.data≠ .cell v
 hok:HOk X.prog X.w H s.heap
 len:σ.length=X.N.length
section
variable{X:Cx}{pins:List (Addr×Obj)}{σ:List (Option V)}{H H':Hp}{s:Shared}{h':Heap}
theorem Cx.Ok.nofr(ok:X.Ok){b:Addr}{o:Obj}(e:X.base.get? b=some o):b∉X.fs:=fun hb=>by
 have:=(ok.funs.mem hb).1;rw[e]at this;cases this
theorem Inv.bs(I:Inv X pins σ H s):∀b o,X.base.get? b=some o->s.heap.get? b=some o/\H b=none:=fun b o e =>
 ⟨I.base.keep b o (I.ok.bs b o e).1 (I.ok.bs b o e).2 (I.ok.nofr e) (I.ok.noex b o e),I.base.free b o (I.ok.bs b o e).1 (I.ok.bs b o e).2 (I.ok.noex b o e)⟩
theorem Inv.bk(I:Inv X pins σ H s):∀b o,X.base.get? b=some o->s.heap.get? b=some o:=fun b o e=>(I.bs b o e).1
theorem Inv.mod(I:Inv X pins σ H s):Mod X.K X.mg X.base:=I.ok.mod
theorem Inv.kIn(I:Inv X pins σ H s):X.K.In s.heap:=I.ok.mod.kin.keeps I.bk
theorem Inv.lt(I:Inv X pins σ H s):X.env.locals<s.heap.objs.size:=let⟨_,hn,_⟩:=I.loc;hn.lt
theorem Inv.sz(I:Inv X pins σ H s):X.s₀.heap.objs.size<=s.heap.objs.size:=Nat.le_trans I.ok.above (EV I.lt)
theorem Inv.nofs(I:Inv X pins σ H s){a:Addr}(h:s.heap.objs.size<=a):a∉X.fs:=fun hb=>by
 obtain⟨_,o,ho,_⟩:=I.ok.funs.mem hb;exact absurd (BF (AI ho) (Nat.le_trans I.sz h)) (CV _)
theorem Inv.cne(I:Inv X pins σ H s):∀x c,X.env.cells.lookup x=some c->c≠X.env.locals:=fun x c e z=>by
 obtain⟨v,o,ho,hd⟩:=I.cell x c e;obtain⟨m,⟨o',es,ep,ho',hd',_⟩,_⟩:=I.loc;rw[z,ho']at ho;cases ho;rw[hd']at hd;cases hd
theorem Inv.funs(I:Inv X pins σ H s):s.heap.FunFrames X.base X.outer:=by
 have all:∀(l:List Env),(∀b∈frs l,b∈X.fs)->X.s₀.heap.FunFrames X.base l->s.heap.FunFrames X.base l:=by
  intro l
  induction l with
  | nil=>intro _ _;trivial
  | cons env r ih =>
   intro hs hl;obtain⟨hk,⟨L,o,hf,hn,ho,hd⟩,hr⟩:=hl;have hL:L∈X.fs:=hs L (by unfold frs;rw[DH,hf];exact A_);obtain⟨sl,e⟩:=I.base.slot L o ho (I.ok.frf L hL) hL fun z=>I.ok.exfs L z hL;exact⟨hk,⟨L,_,hf,hn,e,hd⟩,ih (fun b hb=>hs b (by unfold frs;rw[DH,hf];exact AO _ hb)) hr⟩
 exact all X.outer (fun _ hb=>hb) I.ok.funs
theorem Inv.stack(I:Inv X pins σ H s):s.heap.FunFrames X.base X.stack:=by
 rcases I.ok.stk with e | ⟨e,hf⟩
 .rw[e];exact I.funs
 .rw[e];obtain⟨m,hn,_⟩:=I.loc;refine .cons (by rw[I.ok.kind];decide) hf hn ?_ I.funs;exact Heap.get?_none_of_le (Nat.le_trans I.ok.bsz I.ok.above)
theorem Inv.stkSub(I:Inv X pins σ H s):∀b∈frs X.stack,b∈X.env.locals::X.fs:=fun b hb=>by
 rcases I.ok.stk with e | ⟨e,hf⟩
 .rw[e]at hb;exact AO _ hb
 .rw[e]at hb;unfold frs at hb;rw[DH,hf]at hb;exact hb
theorem Inv.stkFree(I:Inv X pins σ H s):∀b∈frs X.stack,H b=none:=fun b hb=>by
 rcases BD.mp (I.stkSub b hb)with e | hb
 .rw[e];exact I.free
 .obtain⟨_,o,ho,_⟩:=I.ok.funs.mem hb;exact I.base.free b o ho (I.ok.frf b hb) fun z=>I.ok.exfs b z hb
theorem Inv.step{g':Array GenState}{t':Nat}{d':Drawn}{ch:List Addr}(I:Inv X pins σ H s)
  (hch:∀b∈ch,(b∈X.ex\/X.s₀.heap.objs.size<=b)/\b≠X.env.locals/\(∀x c,X.env.cells.lookup x=some c->c≠b)/\∀p∈X.pn++pins,p.1≠b)
  (keep:∀b o,b≠X.env.locals->b∉X.fs->b∉ch->s.heap.get? b=some o->H b=none->h'.get? b=some o)
  (slot:∀b o,b≠X.env.locals->b∈X.fs->b∉ch->s.heap.get? b=some o->H b=none->∃sl,h'.get? b=some { o with slots:=sl }) (free:∀b o,b∉ch->s.heap.get? b=some o->H b=none->H' b=none)
  (there:∀b o,b∉ch->s.heap.get? b=some o->∃o',h'.get? b=some o')
  (tups:∀b xs,H b=some (.tup xs)->H' b=some (.tup xs)) (frzs:∀b o u,H b=some (.frz o u)->H' b=some (.frz o u)) (tbls:∀b ps,H b=some (.tbl ps)->∃more,H' b=some (.tbl (ps++more)))
  (ns:∀m,s.heap.Ns X.env.locals m->h'.Ns X.env.locals m) (hok:HOk X.prog X.w H' h') (hg:AllBare g') :
  Inv X pins σ H' { s with heap:=h',gens:=g',drawn:=d',toks:=t' }:=by
 have neL:∀b o,X.s₀.heap.get? b=some o->b≠X.env.locals:=fun b o e=>BB (BF (AI e) I.ok.above);have neC:∀b o,X.s₀.heap.get? b=some o->b∉X.ex->b∉ch:=fun b o e hx hb=>by
  rcases(hch b hb).1 with z | z
  .exact hx z
  .exact absurd (BF (AI e) z) (CV _)
 have cellK:∀x c,X.env.cells.lookup x=some c->∀v,s.heap.IsCell c v->h'.IsCell c v:=fun x c e v ⟨o,ho,hd⟩=>by
  have nch:c∉ch:=fun z=>(hch c z).2.2.1 x c e rfl;by_cases hc:c∈X.fs
  .obtain⟨sl,q⟩:=slot c o (I.cne x c e) hc nch ho (I.freeC x c e);exact⟨_,q,hd⟩
  .exact⟨o,keep c o (I.cne x c e) hc nch ho (I.freeC x c e),hd⟩
 refine⟨I.ok,I.os,hg,⟨fun b o e n hb hx=>?_,fun b o e n hb hx=>?_,fun b o e n hx=>?_,fun b o e hx=>?_,fun b xs e=>tups b xs (I.base.tups b xs e),fun b o xs e=>frzs b o xs (I.base.frzs b o xs e),fun b ps e=>?_⟩,?_,fun x c e=>?_,?_,fun x c e=>?_,fun p hp=>?_,hok,I.len⟩
 .exact keep b o (neL b o e) hb (neC b o e hx) (I.base.keep b o e n hb hx) (I.base.free b o e n hx)
 .obtain⟨sl,e1⟩:=I.base.slot b o e n hb hx;obtain⟨sl',e2⟩:=slot b _ (neL b o e) hb (neC b o e hx) e1 (I.base.free b o e n hx);exact⟨sl',e2⟩
 .obtain⟨o',e1⟩:=I.base.there b o e hx;exact free b o' (neC b o e hx) e1 (I.base.free b o e n hx)
 .obtain⟨o',e1⟩:=I.base.there b o e hx;exact there b o' (neC b o e hx) e1
 .obtain⟨m1,e1⟩:=I.base.tbls b ps e;obtain⟨m2,e2⟩:=tbls b _ e1;exact⟨m1++m2,by rw[e2,Array.append_assoc]⟩
 .obtain⟨m,hn,hl⟩:=I.loc;refine⟨m,ns m hn,fun i x v e1 e2 e3=>?_⟩;obtain⟨u,r,l⟩:=hl i x v e1 e2 e3;refine⟨u,r,?_⟩;rcases l with l | ⟨k,c,e,z⟩
  .exact .inl l
  .exact .inr ⟨k,c,e,cellK x c e _ z⟩
 .obtain⟨v,z⟩:=I.cell x c e;exact⟨v,cellK x c e v z⟩
 .obtain⟨m,⟨o,_,_,ho,_⟩,_⟩:=I.loc;exact free _ o (fun z=>(hch _ z).2.1 rfl) ho I.free
 .obtain⟨v,o,ho,hd⟩:=I.cell x c e;exact free c o (fun z=>(hch c z).2.2.1 x c e rfl) ho (I.freeC x c e)
 .obtain⟨e,n,ne,nf,d⟩:=I.pin p hp;have nch:p.1∉ch:=fun z=>(hch p.1 z).2.2.2 p hp rfl;exact⟨keep p.1 p.2 ne nf nch e n,free p.1 p.2 nch e n,ne,nf,d⟩
theorem Inv.un{t':Nat}(I:Inv X pins σ H s)(u:Un X.fs [] H H' s.heap h')(hok:HOk X.prog X.w H' h'):Inv X pins σ H' { s with heap:=h',toks:=t' }:=by
 obtain⟨m,⟨o,es,ep,ho,r⟩,_⟩:=id I.loc;obtain⟨sl,hL⟩:=u.any ho I.free (by simp);exact I.step (g':=s.gens) (d':=s.drawn) (ch:=[]) (fun _ z=>nomatch z) (fun b o _ hb _ e n=>u.keep b o e n hb (by simp)) (fun b o _ hb _ e n=>u.slot b o e n hb (by simp)) (fun b o _ e n=>u.free b o e n (by simp)) (fun b o _ e=>u.there b o e (by simp)) u.tups u.frzs u.tbls (fun m' hm=>by
  obtain⟨o',es',ep',ho',r'⟩:=hm;rw[ho]at ho';cases ho';exact⟨_,es',ep',hL,r'⟩) hok I.bare
theorem Inv.call{g':Array GenState}{t':Nat}{d':Drawn}{ch:List Addr}(I:Inv X pins σ H s)(u:Un (frs X.stack) ch H H' s.heap h')(hok:HOk X.prog X.w H' h')(hg:AllBare g')
  (hch:∀b∈ch,(b∈X.ex\/X.s₀.heap.objs.size<=b)/\b≠X.env.locals/\(∀x c,X.env.cells.lookup x=some c->c≠b)/\∀p∈X.pn++pins,p.1≠b) :
  Inv X pins σ H' { s with heap:=h',gens:=g',drawn:=d',toks:=t' }:=by
 obtain⟨m,⟨o,es,ep,ho,r⟩,_⟩:=id I.loc;obtain⟨sl,hL⟩:=u.any ho I.free fun z=>(hch _ z).2.1 rfl;exact I.step (ch:=ch) hch (fun b o hL hb hc e n=>u.keep b o e n (fun z=>(BD.mp (I.stkSub b z)).elim hL hb) hc) (fun b o _ _ hc e n=>u.any e n hc) (fun b o hc e n=>u.free b o e n hc) (fun b o hc e=>u.there b o e hc) u.tups u.frzs u.tbls (fun m' hm=>by
  obtain⟨o',es',ep',ho',r'⟩:=hm;rw[ho]at ho';cases ho';exact⟨_,es',ep',hL,r'⟩) hok hg
theorem Inv.turned{t':Nat}{it:Addr}(I:Inv X pins σ H s)(k:∀b o,b≠it->s.heap.get? b=some o->h'.get? b=some o)(hn:H it=none)(hL:it≠X.env.locals)
  (h1:it∈X.ex\/X.s₀.heap.objs.size<=it) (h2:∀x c,X.env.cells.lookup x=some c->c≠it) (h3:∀p∈X.pn++pins,p.1≠it):Inv X pins σ H { s with heap:=h',toks:=t' }:=by
 have nit:∀b u,H b=some u->b≠it:=fun b u e z=>by rw[z,hn]at e;cases e
 refine I.step (g':=s.gens) (d':=s.drawn) (ch:=[it]) (fun b hb=>?_) (fun b o _ _ hc e _=>k b o (fun z=>hc (by simp[z])) e) (fun b o _ _ hc e _=>⟨o.slots,k b o (fun z=>hc (by simp[z])) e⟩) (fun _ _ _ _ n=>n)
  (fun b o hc e=>⟨o,k b o (fun z=>hc (by simp[z])) e⟩) (fun _ _ e=>e) (fun _ _ _ e=>e) (fun b ps e=>⟨#[],by rw[e];simp⟩) (fun m hm=>?_) (fun b u e=>?_) I.bare
 .have e:b=it:=by simpa using hb
  subst e;exact⟨h1,hL,h2,h3⟩
 .obtain⟨o,es,ep,ho,r⟩:=hm;exact⟨o,es,ep,k _ o (Ne.symm hL) ho,r⟩
 .refine(I.hok b u e).stay (fun c v hc q=>k c v ?_ q) (fun _ q=>q) fun _ _ q=>q;rcases hc with z | z
  .rw[z];exact nit b u e
  .exact nit c _ z
theorem Inv.tok(I:Inv X pins σ H s)(t:Nat):Inv X pins σ H { s with toks:=t }:=I.un (h':=s.heap) (t':=t) Un.refl I.hok
theorem Inv.kept{t':Nat}(I:Inv X pins σ H s)(k:∀b u,s.heap.get? b=some u->h'.get? b=some u):Inv X pins σ H { s with heap:=h',toks:=t' }:=I.un (Un.kept k) (I.hok.kept k)
theorem Inv.laid{a:Addr}{o:HO}{t':Nat}(I:Inv X pins σ H s)(k:∀b u,s.heap.get? b=some u->h'.get? b=some u)(hp:s.heap.objs.size<=a)(new:ObjOk X.prog X.w (upd H a o) h' a o) :
  Inv X pins σ (upd H a o) { s with heap:=h',toks:=t' }:=I.un (Un.laid k hp (I.hok.fresh hp)) (I.hok.laid k hp new)
theorem Inv.write{x e:Addr}{o:HO}{t':Nat}(I:Inv X pins σ H s)(mu:Mut (H x))(he:e=x\/H e=some (.own x))(k:∀b u,b≠e->s.heap.get? b=some u->h'.get? b=some u)(heo:∃u,h'.get? e=some u)
  (new:ObjOk X.prog X.w (upd H x o) h' x o):Inv X pins σ (upd H x o) { s with heap:=h',toks:=t' }:=I.un (Un.write mu he k heo) (I.hok.write mu he k heo new)
theorem Inv.pins_of{pins':List (Addr×Obj)}(I:Inv X pins σ H s)(h:∀p∈pins',s.heap.get? p.1=some p.2/\H p.1=none/\p.1≠X.env.locals/\p.1∉X.fs/\∀v,p.2.data≠ .cell v):Inv X pins' σ H s :=
 ⟨I.ok,I.os,I.bare,I.base,I.loc,I.cell,I.free,I.freeC,fun p hp=>(AR.mp hp).elim (fun z=>I.pin p (DY _ z)) (h p),I.hok,I.len⟩
theorem Ko{N:List Str}(hN:N.Nodup){i j:Nat}{x:Str}(a:N[i]?=some x)(b:N[j]?=some x):i=j:=by
 obtain⟨h1,e1⟩:=AG.mp a;obtain⟨h2,e2⟩:=AG.mp b;exact(List.getElem_inj hN).mp (e1.trans e2.symm)
theorem Ex{M:Model}{A:Around}{E:Value->Shared->Prop}{i:Nat}{x:Str}{v:V}{u:Value}{Q:Unit->Shared->Prop}(I:Inv X pins σ H s)(hN:X.N.Nodup)(hi:X.N[i]?=some x)(hx:Loc X.env.scope x)(r:RelV v u)
  (h:∀s',Inv X pins (σ.set i (some v)) H s'->(∃a,Heap.SameBut a s.heap s'.heap/\(a=X.env.locals\/X.env.cells.lookup x=some a))->Q () s') (hf:X.fn x=true\/X.env.scope.names.lookup x=some .local:=by first | exact .inl rfl | exact .inr rfl | assumption):wpAny M A (storeName X.env x u) Q E s:=by
 obtain⟨m,hn,hl⟩:=id I.loc;have hcls:(X.env.scope.kind == .class||(X.env.scope.kind == .module&&X.env.locals != X.env.globals))=false:=by rw[I.ok.kind];rfl
 have hiσ:i<σ.length:=by rw[I.len];exact(AG.mp hi).1
 have cne:=I.cne;have tracked:∀{a:Addr} {h':Heap},(∃o,s.heap.get? a=some o/\H a=none)->Heap.SameBut a s.heap h'->HOk X.prog X.w H h':=fun{a h'} ha hs b ob e=>by
  obtain⟨_,_,hfree⟩:=ha;refine(I.hok b ob e).stay (fun c w' hc q=>(hs.2 c ?_).trans q) (fun _ q=>q) fun _ _ q=>q;rintro rfl;rcases hc with rfl | hc
  .rw[hfree]at e;cases e
  .rw[hfree]at hc;cases hc
 rcases hx with hk | hk
 .refine wpAny_storeName_local hk hn (fun h' hn' hs=>?_) hcls;obtain⟨oL,_,_,hoL,_⟩:=id hn;refine h _ ⟨I.ok,I.os,I.bare,⟨fun b o e n hb hx=>?_,fun b o e n hb hx=>?_,I.base.free,fun b o e hx=>?_,I.base.tups,I.base.frzs,I.base.tbls⟩,⟨_,hn',fun j y v' e1 e2 e3=>?_⟩,fun y c e=>?_,I.free,I.freeC,fun p hp=>?_,tracked ⟨oL,hoL,I.free⟩ hs,by simpa using I.len⟩ ⟨_,hs,.inl rfl⟩
  .exact(hs.2 b (BB (BF (AI e) I.ok.above))).trans (I.base.keep b o e n hb hx)
  .obtain⟨sl,e1⟩:=I.base.slot b o e n hb hx;exact⟨sl,(hs.2 b (BB (BF (AI e) I.ok.above))).trans e1⟩
  .obtain⟨o',e1⟩:=I.base.there b o e hx;exact⟨o',(hs.2 b (BB (BF (AI e) I.ok.above))).trans e1⟩
  .by_cases hj:j=i
   .subst hj;rw[hi]at e1;cases e1;rw[HW hiσ]at e2;cases e2;exact⟨u,r,.inl ⟨hk,by simp⟩⟩
   .rw[List.getElem?_set_ne (Ne.symm hj)]at e2;obtain⟨u',r',q⟩:=hl j y v' e1 e2 e3;refine⟨u',r',?_⟩;rcases q with⟨k,e⟩ | ⟨k,c,e,z⟩
    .refine .inl ⟨k,?_⟩;have:y≠x:=fun e=>hj (Ko hN e1 (e▸hi));simp[this,e]
    .exact .inr ⟨k,c,e,z.sameBut hs (cne y c e)⟩
  .obtain⟨w',z⟩:=I.cell y c e;exact⟨w',z.sameBut hs (cne y c e)⟩
  .obtain⟨e,n,ne,nf,d⟩:=I.pin p hp;exact⟨(hs.2 p.1 ne).trans e,n,ne,nf,d⟩
 .have hfn:X.fn x=true:=by
   rcases hf with z | z
   .exact z
   .rw[z]at hk;cases hk
  obtain⟨c,hc⟩:=I.ok.has x (.inl hk);obtain⟨w',z⟩:=I.cell x c hc;refine wpAny_storeName_cell I.ok.kind hk hc z (fun h' hc' hs=>?_);obtain⟨oc,hoc,hocd⟩:=id z;refine h { s with heap:=h' } ⟨I.ok,I.os,I.bare,⟨fun b o e n hb hx=>?_,fun b o e n hb hx=>?_,I.base.free,fun b o e hx=>?_,I.base.tups,I.base.frzs,I.base.tbls⟩,⟨m,hn.sameBut hs (Ne.symm (cne x c hc)),fun j y v' e1 e2 e3=>?_⟩,fun y c' e=>?_,I.free,I.freeC,fun p hp=>?_,tracked ⟨oc,hoc,I.freeC x c hc⟩ hs,by simpa using I.len⟩ ⟨c,hs,.inr hc⟩
  .exact(hs.2 b (BB (BF (AI e) (I.ok.cab x c hfn hc)))).trans (I.base.keep b o e n hb hx)
  .obtain⟨sl,e1⟩:=I.base.slot b o e n hb hx;exact⟨sl,(hs.2 b (BB (BF (AI e) (I.ok.cab x c hfn hc)))).trans e1⟩
  .obtain⟨o',e1⟩:=I.base.there b o e hx;exact⟨o',(hs.2 b (BB (BF (AI e) (I.ok.cab x c hfn hc)))).trans e1⟩
  .by_cases hj:j=i
   .subst hj;rw[hi]at e1;cases e1;rw[HW hiσ]at e2;cases e2;exact⟨u,r,.inr ⟨.inl hk,c,hc,hc'⟩⟩
   .rw[List.getElem?_set_ne (Ne.symm hj)]at e2;obtain⟨u',r',q⟩:=hl j y v' e1 e2 e3;refine⟨u',r',?_⟩;rcases q with q | ⟨k,c',e,z'⟩
    .exact .inl q
    .refine .inr ⟨k,c',e,z'.sameBut hs ?_⟩;rintro rfl;exact hj (Ko hN e1 (I.ok.inj _ _ _ e hc▸hi))
  .by_cases hcc:c'=c
   .subst hcc;exact⟨_,hc'⟩
   .obtain⟨w2,z2⟩:=I.cell y c' e;exact⟨w2,z2.sameBut hs hcc⟩
  .obtain⟨e,n,ne,nf,d⟩:=I.pin p hp;refine⟨(hs.2 p.1 ?_).trans e,n,ne,nf,d⟩;intro q;rw[q,hoc]at e;have q':oc=p.2:=BI e;exact d w' (by rw[<-q'];exact hocd)
theorem W7{M:Model}{A:Around}{E:Value->Shared->Prop}{i:Nat}{x:Str}{v:V}{u:Value}{Q:Unit->Shared->Prop}(I:Inv X pins σ H s)(hN:X.N.Nodup)(hi:X.N[i]?=some x)(hx:Loc X.env.scope x)(r:RelV v u)
  (h:∀s',Inv X pins (σ.set i (some v)) H s'->Q () s') (hf:X.fn x=true\/X.env.scope.names.lookup x=some .local:=by first | exact .inl rfl | exact .inr rfl | assumption):wpAny M A (storeName X.env x u) Q E s :=
 Ex I hN hi hx r (fun s' I' _=>h s' I') hf
theorem Inv.call'{s':Shared}{ch:List Addr}(I:Inv X pins σ H s)(ho:s'.os=s.os)(u:Un (frs X.stack) ch H H' s.heap s'.heap)(hok:HOk X.prog X.w H' s'.heap)(hg:AllBare s'.gens)
  (hch:∀b∈ch,(b∈X.ex\/X.s₀.heap.objs.size<=b)/\b≠X.env.locals/\(∀x c,X.env.cells.lookup x=some c->c≠b)/\∀p∈X.pn++pins,p.1≠b):Inv X pins σ H' s':=by
 obtain⟨h',g',d',t',o'⟩:=s';have e:o'=s.os:=ho;subst e;exact I.call (g':=g') (t':=t') (d':=d') u hok hg hch
end
abbrev XK:=Value->Option Addr->Hp->Prop
abbrev St:=List (Option V)
abbrev VK:=V->Hp->Prop
abbrev TE:=St->Hp->VK->Prop
abbrev TT:=St->Hp->(Bool->Hp->Prop)->Prop
abbrev TA:=St->Hp->(List V->Hp->Prop)->Prop
structure Ends where
 nx:St->Hp->Prop
 rt:VK
 bk:St->Hp->Prop:=fun _ _=>False
 ct:St->Hp->Prop:=fun _ _=>False
abbrev TS:=Ends->St->Hp->Prop
def EP(X:Cx)(pins:List (Addr×Obj))(σ:St)(Q:VK)(u:Value)(s':Shared):Prop:=∃v H',Inv X pins σ H' s'/\RelV v u/\Q v H'
def TP(X:Cx)(pins:List (Addr×Obj))(σ:St)(Q:Bool->Hp->Prop)(b:Bool)(s':Shared):Prop:=∃H',Inv X pins σ H' s'/\Q b H'
def AP(X:Cx)(pins:List (Addr×Obj))(σ:St)(Q:List V->Hp->Prop)(us:List Value)(s':Shared):Prop:=∃vs H',Inv X pins σ H' s'/\Vals vs us/\Q vs H'
def SP(X:Cx)(pins:List (Addr×Obj))(D:Ends)(f:Flow)(s':Shared):Prop :=
 match f with
 | .next=>∃σ' H',Inv X pins σ' H' s'/\D.nx σ' H'
 | .brk=>∃σ' H',Inv X pins σ' H' s'/\D.bk σ' H'
 | .cont=>∃σ' H',Inv X pins σ' H' s'/\D.ct σ' H'
 | .ret u=>∃v σ' H',Inv X pins σ' H' s'/\RelV v u/\D.rt v H'
def PE(X:Cx)(e:Expr)(t:TE):Prop :=
 ∀(pins:List (Addr×Obj)) (s:Shared) (σ:St) (H:Hp) (Q:VK),Inv X pins σ H s->t σ H Q->wpAny (model X.prog X.w) X.A (eval e X.env) (EP X pins σ Q) X.xe s
def PT(X:Cx)(e:Expr)(t:TT):Prop :=
 ∀(pins:List (Addr×Obj)) (s:Shared) (σ:St) (H:Hp) (Q:Bool->Hp->Prop),Inv X pins σ H s->t σ H Q->wpAny (model X.prog X.w) X.A (isTrue e X.env (eval e X.env)) (TP X pins σ Q) X.xe s
def PW(X:Cx)(e:Expr)(t:TT):Prop :=
 ∀(whole:Sem Value) (pins:List (Addr×Obj)) (s:Shared) (σ:St) (H:Hp) (Q:Bool->Hp->Prop),Inv X pins σ H s->t σ H Q->wpAny (model X.prog X.w) X.A (isTrue e X.env whole) (TP X pins σ Q) X.xe s
theorem PW.pt{X:Cx}{e:Expr}{t:TT}(h:PW X e t):PT X e t:=h _
def PA(X:Cx)(es:List Expr)(t:TA):Prop :=
 ∀(pos:Pos) (pins:List (Addr×Obj)) (s:Shared) (σ:St) (H:Hp) (Q:List V->Hp->Prop),Inv X pins σ H s->t σ H Q->wpAny (model X.prog X.w) X.A (spliced (backTo pos (starEach es X.env))) (AP X pins σ Q) X.xe s
def PS(X:Cx)(st:Stmt)(t:TS):Prop :=
 ∀(pins:List (Addr×Obj)) (s:Shared) (σ:St) (H:Hp) (D:Ends),Inv X pins σ H s->t D σ H->wpAny (model X.prog X.w) X.A (exec st X.env) (SP X pins D) X.xe s
def PSs(X:Cx)(st:List Stmt)(t:TS):Prop :=
 ∀(pins:List (Addr×Obj)) (s:Shared) (σ:St) (H:Hp) (D:Ends),Inv X pins σ H s->t D σ H->wpAny (model X.prog X.w) X.A (execs st X.env) (SP X pins D) X.xe s
theorem thn{α:Type}{t:Sem α}{Q Q':α->Shared->Prop}{M:Model}{A:Around}{E:Value->Shared->Prop}{s:Shared}(h:wpAny M A t Q E s)(hQ:∀a s,Q a s->Q' a s):wpAny M A t Q' E s:=BS h hQ fun _ _ x=>x
section
variable{X:Cx}
def Lq(i:Nat):TE:=fun σ H Q=>∃v,σ[i]?=some (some v)/\Q v H
def tC(v:V):TE:=fun _ H Q=>Q v H
theorem Wj{i:Nat}{x:Str}{pos:Pos}(hN:X.N[i]?=some x)(hv:Vis X.env.scope x)(hd:(x ==("__debug__":Str))=false:=by decide)(hcd:(x ==("__classdict__":Str))=false:=by decide):PE X (.Name x pos) (Lq i):=by
 intro pins s σ H Q I h;obtain⟨v,e,h⟩:=h;obtain⟨m,hn,hl⟩:=I.loc;obtain⟨u,r,l⟩:=hl i x v hN e hv;have fin:EP X pins σ Q u s:=⟨v,H,I,r,h⟩;rcases l with⟨hk,hm⟩ | ⟨hk,c,hc,hcell⟩
 .exact wpAny_Name (wpAny_loadName_local I.ok.kind hk hn hm fin) hd
 .rcases hk with hk | hk
  .exact wpAny_Name (wpAny_loadName_cell I.ok.kind hk hc hcell fin) hd
  .exact wpAny_Name (wpAny_loadName_free I.ok.kind hk hc hcell fin hcd) hd
theorem B6{i j pos}:PE X (.Constant (.int i) j pos) (tC (.int i)):=fun _ _ _ H _ I h=>wpAny_Constant_int ⟨.int i,H,I.tok _,⟨_,rfl⟩,h⟩
theorem f7{b j pos}:PE X (.Constant (.bool b) j pos) (tC (.bl b)):=fun _ _ _ H _ I h=>Constant_bool ⟨.bl b,H,I,rfl,h⟩
theorem E3{x j pos}:PE X (.Constant (.str x) j pos) (tC (.str x)):=fun _ _ _ H _ I h=>Calls.Constant_str ⟨.str x,H,I.tok _,⟨_,rfl⟩,h⟩
def Gl(X:Cx)(x:Str):Prop:=X.env.kindOf x=some .globalImplicit
theorem l8{E:Value->Shared->Prop}{pins:List (Addr×Obj)}{s:Shared}{σ:St}{H:Hp}{x:Str}{u:Value}{pos:Pos}{Q:Value->Shared->Prop}(I:Inv X pins σ H s)(hg:Gl X x)(hm:X.mg x=some u)(h:Q u s)
  (hd:(x ==("__debug__":Str))=false:=by decide):wpAny (model X.prog X.w) X.A (eval (.Name x pos) X.env) Q E s :=
 Calls.Name_function_global I.ok.kind hg (Calls.loadGlobal_global (by rw[I.ok.glob];exact I.mod.glob.keeps I.bk) hm h) hd
theorem Ar{E:Value->Shared->Prop}{pins:List (Addr×Obj)}{s:Shared}{σ:St}{H:Hp}{x:Str}{u:Value}{pos:Pos}{Q:Value->Shared->Prop}(I:Inv X pins σ H s)(hg:Gl X x)(hm:X.mg x=none)(hv:bootBuiltins x=some u)(h:Q u s)
  (hn:x≠ "__name__":=by decide) (hd:(x ==("__debug__":Str))=false:=by decide):wpAny (model X.prog X.w) X.A (eval (.Name x pos) X.env) Q E s:=by
 obtain⟨mb,h1,h2⟩:=I.mod.blt;exact Calls.Name_function_global I.ok.kind hg (Calls.loadGlobal_builtin (by rw[I.ok.glob];exact I.mod.glob.keeps I.bk) hm (by rw[I.ok.blt];exact h1.keeps I.bk) ((h2 x hn).trans hv) h) hd
theorem Hr{x:Str}{v:V}{u:Value}{pos:Pos}(hg:Gl X x)(hm:X.mg x=some u)(r:RelV v u)(hd:(x ==("__debug__":Str))=false:=by decide):PE X (.Name x pos) (tC v) :=
 fun _ _ _ H _ I h=>l8 I hg hm ⟨v,H,I,r,h⟩ hd
theorem Yp{x:Str}{v:V}{u:Value}{pos:Pos}(hg:Gl X x)(hm:X.mg x=none)(hv:bootBuiltins x=some u)(r:RelV v u)(hn:x≠ "__name__":=by decide)(hd:(x ==("__debug__":Str))=false:=by decide):PE X (.Name x pos) (tC v) :=
 fun _ _ _ H _ I h=>Ar I hg hm hv ⟨v,H,I,r,h⟩ hn hd
variable{a b:Expr}{ta tb:TE}{pos:Pos}
def tB(t:TE):TT:=fun σ H Q=>t σ H fun x H1=>∃c,x = .bl c/\Q c H1
theorem K2{e:Expr}{t:TE}(h:PE X e t)(he:∀whole,isTrue e X.env whole =(do let v <-whole;standAt e.pos;holding [v] (truthy v)):=by intro _;rfl):PT X e (tB t):=by
 intro pins s σ H Q I hw;refine isTrue_plain (thn (h pins s σ H _ I hw) fun v s1 ⟨x,H1,I1,r1,q1⟩=>?_) (he _);obtain⟨d,rfl,q⟩:=q1;cases r1;exact DM ⟨H1,I1,q⟩
variable{tA tB':TT}{rest:List Expr}
def zGb(t u:TT):TT:=fun σ H Q=>t σ H fun c H1=>if c=true then u σ H1 Q else Q false H1
def tOr(t u:TT):TT:=fun σ H Q=>t σ H fun c H1=>if c=true then Q true H1 else u σ H1 Q
def zGj(t:TT):TT:=fun σ H Q=>t σ H fun c H1=>Q (!c) H1
theorem y7(ha:PT X a tA):PW X (.BoolOp .And [a] pos) tA:=by
 intro wh pins s σ H Q I h;refine isTrue_and (thn (ha pins s σ H Q I h) fun c s1 e=>?_);cases c with
 | true=>exact isTrue_and_nil e
 | false=>exact e
theorem Av(ha:PT X a tA):PW X (.BoolOp .Or [a] pos) tA:=by
 intro wh pins s σ H Q I h;refine isTrue_or (thn (ha pins s σ H Q I h) fun c s1 e=>?_);cases c with
 | false=>exact isTrue_or_nil e
 | true=>exact e
theorem Cc(ha:PT X a tA)(hb:PW X (.BoolOp .And (b::rest) pos) tB'):PW X (.BoolOp .And (a::b::rest) pos) (zGb tA tB'):=by
 intro wh pins s σ H Q I h;refine isTrue_and (thn (ha pins s σ H _ I h) fun c s1 ⟨H1,I1,q1⟩=>?_);cases c with
 | true=>exact hb wh pins s1 σ H1 Q I1 q1
 | false=>exact⟨H1,I1,q1⟩
theorem Iu(ha:PT X a tA)(hb:PW X (.BoolOp .Or (b::rest) pos) tB'):PW X (.BoolOp .Or (a::b::rest) pos) (tOr tA tB'):=by
 intro wh pins s σ H Q I h;refine isTrue_or (thn (ha pins s σ H _ I h) fun c s1 ⟨H1,I1,q1⟩=>?_);cases c with
 | true=>exact⟨H1,I1,q1⟩
 | false=>exact hb wh pins s1 σ H1 Q I1 q1
theorem X4(ha:PT X a tA):PT X (.UnaryOp .Not a pos) (zGj tA):=by
 intro pins s σ H Q I h;exact isTrue_not (ha pins s σ H (fun c H1=>Q (!c) H1) I h)
def zEd(ta tb:TE):TE:=fun σ H Q=>ta σ H fun x H1=>∃c,x = .bl c/\if c=true then tb σ H1 Q else Q (.bl false) H1
theorem Ka{op}{t:TE}(h:PE X a t):PE X (.BoolOp op [a] pos) t:=fun pins s σ H Q I hw=>BoolOp_one (h pins s σ H Q I hw)
theorem Lv(ha:PE X a ta)(hb:PE X (.BoolOp .And (b::rest) pos) tb):PE X (.BoolOp .And (a::b::rest) pos) (zEd ta tb):=by
 intro pins s σ H Q I h;refine BoolOp_and (thn (ha pins s σ H _ I h) fun v s1 ⟨x,H1,I1,r1,q1⟩=>?_);obtain⟨c,rfl,q1⟩:=q1;cases r1;refine DM ?_;cases c with
 | true=>exact hb pins s1 σ H1 Q I1 q1
 | false=>exact⟨.bl false,H1,I1,rfl,q1⟩
def tIf(t:TT)(ta tb:TE):TE:=fun σ H Q=>t σ H fun c H1=>if c=true then ta σ H1 Q else tb σ H1 Q
theorem Cu{c:Expr}(hc:PT X c tA)(ha:PE X a ta)(hb:PE X b tb):PE X (.IfExp c a b pos) (tIf tA ta tb):=by
 intro pins s σ H Q I h;refine wpAny_IfExp (thn (hc pins s σ H _ I h) fun d s1 ⟨H1,I1,q1⟩=>?_);cases d with
 | true=>exact ha pins s1 σ H1 Q I1 q1
 | false=>exact hb pins s1 σ H1 Q I1 q1
end
def SqL(K:PySem.W.Frag)(H:Hp)(a:Addr)(xs:List V):Prop :=
 Rd H a (.lst xs) \/
  ∃(o:Obj) (its:Array Value) (n:Nat),K.lookup a=some o/\o.cls = .type "list"/\o.dict=none/\o.data = .seq its n/\its.size<=sizeLine/\Vals xs its.toList
def SqT(K:PySem.W.Frag)(H:Hp)(a:Addr)(xs:List V):Prop :=
 Rd H a (.tup xs) \/
  ∃(o:Obj) (its:Array Value) (n:Nat),K.lookup a=some o/\o.cls = .type "tuple"/\o.data = .seq its n/\its.size<=sizeLine/\Vals xs its.toList
def zFy:Value->Option V
 | .none=>some .non
 | .bool b=>some (.bl b)
 | .int i _=>some (.int i)
 | .str x _=>some (.str x)
 | .bytes b _=>some (.byt b)
 | .float b _=>some (.flt b)
 | .ref a=>some (.ref a)
 | .type n=>some (.ty n)
 | _=>none
theorem RelV.abs{x:V}{u:Value}(r:RelV x u):zFy u=some x:=by
 cases x with
 | non=>cases r;rfl
 | bl _=>cases r;rfl
 | int _=>obtain⟨t,rfl⟩:=r;rfl
 | str _=>obtain⟨t,rfl⟩:=r;rfl
 | byt _=>obtain⟨t,rfl⟩:=r;rfl
 | flt _=>obtain⟨t,rfl⟩:=r;rfl
 | ref _=>cases r;rfl
 | ty _=>cases r;rfl
theorem RelV.inj{x y:V}{u:Value}(r:RelV x u)(q:RelV y u):x=y:=BI (r.abs.symm.trans q.abs)
theorem Vals.inj:∀{xs ys:List V} {us:List Value},Vals xs us->Vals ys us->xs=ys
 | _,_,_,.nil,.nil=>rfl
 | _,_,_,.cons r t,.cons r' t'=>by rw[r.inj r',Vals.inj t t']
section
variable{X:Cx}{pins:List (Addr×Obj)}{σ:St}{H:Hp}{s:Shared}{a:Addr}{xs ys:List V}
theorem SqL.of{K:PySem.W.Frag}(h:H a=some (.lst xs)):SqL K H a xs:=.inl (.inl h)
theorem SqT.of{K:PySem.W.Frag}(h:H a=some (.tup xs)):SqT K H a xs:=.inl (.inl h)
theorem Inv.list(I:Inv X pins σ H s)(h:SqL X.K H a xs):∃its:List Value,Vals xs its/\PlainL s.heap a its.toArray/\xs.length<=sizeLine:=by
 rcases h with h | ⟨o,its,n,hk,hc,hd,hs,hz,r⟩
 .obtain⟨z,its,n,r,e⟩:=h.ok I.hok;exact⟨its,r,⟨_,n,e,rfl,rfl,rfl⟩,z⟩
 .refine⟨its.toList,r,⟨o,n,I.kIn a o hk,hc,hd,by simpa using hs⟩,?_⟩;have e:=r.length;simp only[AM]at e;omega
theorem Inv.tuple(I:Inv X pins σ H s)(h:SqT X.K H a xs):∃its:List Value,Vals xs its/\IsTup s.heap a its.toArray/\xs.length<=sizeLine:=by
 rcases h with h | ⟨o,its,n,hk,hc,hs,hz,r⟩
 .obtain⟨z,its,r,p⟩:=h.ok I.hok;exact⟨its,r,p,z⟩
 .refine⟨its.toList,r,⟨o,I.kIn a o hk,hc,n,by simpa using hs⟩,?_⟩;have e:=r.length;simp only[AM]at e;omega
theorem Inv.list_inj(I:Inv X pins σ H s)(h:SqL X.K H a xs)(h':SqL X.K H a ys):xs=ys:=by
 obtain⟨its,r,⟨o,n,e,_,_,d⟩,_⟩:=I.list h;obtain⟨its',r',⟨o',n',e',_,_,d'⟩,_⟩:=I.list h';rw[e]at e';cases e';rw[d]at d';injection d' with d1 _;have:its=its':=by simpa using congrArg Array.toList d1
 subst this;exact r.inj r'
theorem Inv.tuple_inj(I:Inv X pins σ H s)(h:SqT X.K H a xs)(h':SqT X.K H a ys):xs=ys:=by
 obtain⟨its,r,⟨o,e,_,n,d⟩,_⟩:=I.tuple h;obtain⟨its',r',⟨o',e',_,n',d'⟩,_⟩:=I.tuple h';rw[e]at e';cases e';rw[d]at d';injection d' with d1 _;have:its=its':=by simpa using congrArg Array.toList d1
 subst this;exact r.inj r'
end
abbrev Cx.wish(X:Cx)(E:Value->Shared->Prop):Cx:={ X with xe:=E }
abbrev Cx.nox(X:Cx):Cx:=X.wish fun _ _=>False
theorem Cx.Ok.wish{X:Cx}(ok:X.Ok)(E:Value->Shared->Prop):(X.wish E).Ok :=
 ⟨ok.mod,ok.kind,ok.glob,ok.blt,ok.above,ok.inj,ok.has,ok.cab,ok.hd,ok.frames,ok.stk,ok.exf,ok.bs,ok.bsz,ok.noex,ok.exfs,ok.funs,ok.frf⟩
theorem Cx.Ok.unwish{X:Cx}{E:Value->Shared->Prop}(ok:(X.wish E).Ok):X.Ok :=
 ⟨ok.mod,ok.kind,ok.glob,ok.blt,ok.above,ok.inj,ok.has,ok.cab,ok.hd,ok.frames,ok.stk,ok.exf,ok.bs,ok.bsz,ok.noex,ok.exfs,ok.funs,ok.frf⟩
section
variable{X:Cx}{pins:List (Addr×Obj)}{σ:St}{H:Hp}{s:Shared}{E:Value->Shared->Prop}
theorem Inv.wish(I:Inv X pins σ H s)(E:Value->Shared->Prop):Inv (X.wish E) pins σ H s:=⟨I.ok.wish E,I.os,I.bare,I.base,I.loc,I.cell,I.free,I.freeC,I.pin,I.hok,I.len⟩
theorem Inv.unwish(I:Inv (X.wish E) pins σ H s):Inv X pins σ H s:=⟨I.ok.unwish,I.os,I.bare,I.base,I.loc,I.cell,I.free,I.freeC,I.pin,I.hok,I.len⟩
theorem SP.unwish{D:Ends}{f:Flow}{s':Shared}(h:SP (X.wish E) pins D f s'):SP X pins D f s':=by
 cases f with
 | next=>obtain⟨σ',H',I,q⟩:=h;exact⟨σ',H',I.unwish,q⟩
 | brk=>obtain⟨σ',H',I,q⟩:=h;exact⟨σ',H',I.unwish,q⟩
 | cont=>obtain⟨σ',H',I,q⟩:=h;exact⟨σ',H',I.unwish,q⟩
 | ret u=>obtain⟨v,σ',H',I,r,q⟩:=h;exact⟨v,σ',H',I.unwish,r,q⟩
theorem PSs.nox{st:List Stmt}{t:TS}(h:PSs X.nox st t):PSs X st t:=fun pins s σ H D I hw =>
 BS (h pins s σ H D (I.wish _) hw) (fun _ _ q=>q.unwish) fun _ _ z=>False.elim z
end
section
variable{X:Cx}{st:Stmt}{rest:List Stmt}{t u:TS}{e:Expr}{te:TE}{pos:Pos}
def zBw:TS:=fun D σ H=>D.nx σ H
def Zq(t u:TS):TS:=fun D σ H=>t { D with nx:=u D } σ H
theorem C9:PSs X [] zBw:=fun _ _ σ H _ I h=>FH ⟨σ,H,I,h⟩
theorem B1(h1:PS X st t)(h2:PSs X rest u):PSs X (st::rest) (Zq t u):=by
 intro pins s σ H D I h;refine ID (thn (h1 pins s σ H { D with nx:=u D } I h) fun f s1 q=>?_);cases f with
 | next =>
  obtain⟨σ',H',I',q⟩:=q;exact h2 pins s1 σ' H' D I' q
 | ret v=>exact q
 | brk=>exact q
 | cont=>exact q
theorem B2(h1:PS X st t):PSs X [st] t:=by
 intro pins s σ H D I h;refine ID (thn (h1 pins s σ H D I h) fun f s1 q=>?_);cases f with
 | next=>exact FH q
 | ret v=>exact q
 | brk=>exact q
 | cont=>exact q
theorem Inv.quiet{pins:List (Addr×Obj)}{σ:St}{H:Hp}{s:Shared}(I:Inv X pins σ H s):interactive X.env=false:=by simp[interactive,I.ok.kind]
def zBh(te:TE):TS:=fun D σ H=>te σ H fun _ H1=>D.nx σ H1
theorem C7(he:PE X e te)(hs:swapsWith e none pos.line X.env=pure false:=by rfl):PS X (.Expr e pos) (zBh te):=by
 intro pins s σ H D I h;exact wpAny_Expr_any (thn (he pins s σ H _ I h) fun v s1 ⟨x,H1,I1,r1,q1⟩=>⟨σ,H1,I1,q1⟩) I.quiet hs
def Zo(te:TE):TS:=fun D σ H=>te σ H D.rt
theorem C1(he:PE X e te):PS X (.Return (some e) pos) (Zo te):=by
 intro pins s σ H D I h;exact wpAny_Return_some (thn (he pins s σ H _ I h) fun v s1 ⟨x,H1,I1,r1,q1⟩=>⟨x,σ,H1,I1,r1,q1⟩)
def zDj:TS:=fun D _ H=>D.rt .non H
theorem n0:PS X (.Return none pos) zDj:=fun _ _ σ H _ I h=>wpAny_Return_none ⟨.non,σ,H,I,rfl,h⟩
def zFk(c:TT)(t u:TS):TS:=fun D σ H=>c σ H fun b H1=>if b=true then t D σ H1 else u D σ H1
theorem G9{c:Expr}{a b:List Stmt}{tc:TT}(hc:PT X c tc)(ha:PSs X a t)(hb:PSs X b u):PS X (.If c a b pos) (zFk tc t u):=by
 intro pins s σ H D I h;refine wpAny_If (thn (hc pins s σ H _ I h) fun d s1 ⟨H1,I1,q1⟩=>?_);cases d with
 | true=>exact ha pins s1 σ H1 D I1 q1
 | false=>exact hb pins s1 σ H1 D I1 q1
def zCx:TS:=fun _ _ _=>False
theorem Dt:PS X st zCx:=fun _ _ _ _ _ _ h=>h.elim
end
abbrev TG:=V->St->Hp->(St->Hp->Prop)->Prop
abbrev TGs:=List V->St->Hp->(St->Hp->Prop)->Prop
def PG(X:Cx)(target:Expr)(t:TG):Prop :=
 ∀(pins:List (Addr×Obj)) (s:Shared) (σ:St) (H:Hp) (v:V) (u:Value) (Q:St->Hp->Prop),Inv X pins σ H s->RelV v u->t v σ H Q ->
  wpAny (model X.prog X.w) X.A (assign target X.env u) (fun _ s'=>∃σ' H',Inv X pins σ' H' s'/\Q σ' H') X.xe s
def PGs(X:Cx)(ts:List Expr)(t:TGs):Prop :=
 ∀(pins:List (Addr×Obj)) (s:Shared) (σ:St) (H:Hp) (vs:List V) (us:List Value) (Q:St->Hp->Prop),Inv X pins σ H s->Vals vs us->t vs σ H Q ->
  wpAny (model X.prog X.w) X.A (assignInOrder ((assignEach ts X.env).map (·.2)) us) (fun _ s'=>∃σ' H',Inv X pins σ' H' s'/\Q σ' H') X.xe s
abbrev TSet:=V->V->V->Hp->(Hp->Prop)->Prop
def zFp(X:Cx)(t:TSet):Prop :=
 ∀(pins:List (Addr×Obj)) (s:Shared) (σ:St) (H:Hp) (o i v:V) (ov iv u:Value) (Q:Hp->Prop),Inv X pins σ H s->RelV o ov->RelV i iv->RelV v u->t o i v H Q ->
  wpAny (model X.prog X.w) X.A (setItem ov iv u) (fun _ s'=>∃H',Inv X pins σ H' s'/\Q H') X.xe s
abbrev TIp:=V->V->Hp->VK->Prop
def PIp(X:Cx)(op:Operator)(t:TIp):Prop :=
 ∀(pins:List (Addr×Obj)) (s:Shared) (σ:St) (H:Hp) (x y:V) (v u:Value) (Q:VK),Inv X pins σ H s->RelV x v->RelV y u->t x y H Q ->
  wpAny (model X.prog X.w) X.A (inplaceOp op v u) (EP X pins σ Q) X.xe s
section
variable{X:Cx}{pos:Pos}
def S8(i:Nat):TG:=fun v σ H Q=>Q (σ.set i (some v)) H
theorem C3{i:Nat}{x:Str}(hN:X.N.Nodup)(hi:X.N[i]?=some x)(hx:Loc X.env.scope x)(hf:X.fn x=true\/X.env.scope.names.lookup x=some .local:=by first | exact .inl rfl | exact .inr rfl | assumption):PG X (.Name x pos) (S8 i):=by
 intro pins s σ H v u Q I r h;exact wpAny_assign_Name (W7 I hN hi hx r (fun s' I'=>⟨_,H,I',h⟩) hf)
def zFv:TGs:=fun vs σ H Q=>vs = []/\Q σ H
def zDv(t:TG)(u:TGs):TGs:=fun vs σ H Q=>∃v r,vs=v::r/\t v σ H fun σ' H'=>u r σ' H' Q
theorem J1:PGs X [] zFv:=by
 intro pins s σ H vs us Q I r h;obtain⟨e,h⟩:=h;subst e;cases r;exact assignInOrder_nil ⟨σ,H,I,h⟩
theorem C5{e:Expr}{es:List Expr}{t:TG}{u:TGs}(h1:PG X e t)(h2:PGs X es u)
  (hs:(assignEach (e::es) X.env).map (·.2)=assign e X.env ::(assignEach es X.env).map (·.2):=by rfl):PGs X (e::es) (zDv t u):=by
 intro pins s σ H vs us Q I r h;obtain⟨v,vr,e1,h⟩:=h;subst e1;cases r with
 | cons r rr =>
  rw[hs];refine assignInOrder_cons (thn (h1 pins s σ H _ _ _ I r h) fun _ s1 ⟨σ1,H1,I1,q1⟩=>?_);exact h2 pins s1 σ1 H1 _ _ Q I1 rr q1
def zEz(K:PySem.W.Frag)(n:Nat)(t:TGs):TG:=fun v σ H Q=>∃a xs,v = .ref a/\SqT K H a xs/\xs.length=n/\t xs σ H Q
theorem zAy{es:List Expr}{k:Nat}{t:TGs}{n:Nat}(hc:X.calm=true)(h:PGs X es t)
  (hn:(assignEach es X.env).length=n:=by rfl) (hst:(assignEach es X.env).findIdx? (·.1)=none:=by rfl):PG X (.Tuple es k pos) (zEz X.K n t):=by
 intro pins s σ H v u Q I r hw;obtain⟨a,xs,e1,hq,hl,hw⟩:=hw;subst e1;cases r;obtain⟨its,rv,ht,hz⟩:=I.tuple hq;refine assign_Tuple_tuple (I.ok.hd hc) ht (by simp[hn,<-hl,rv.length]) hst fun h' hx=>?_;have I1:Inv X pins σ H { s with heap:=h' }:=I.kept (t':=s.toks) fun b o e=>hx b o (BB (AI e)) e;exact h pins _ σ H xs _ Q I1 (by simpa using rv) hw
def zGg(to ti:TE)(t:TSet):TG:=fun v σ H Q=>to σ H fun o H1=>ti σ H1 fun i H2=>t o i v H2 fun H3=>Q σ H3
theorem Kj{o i:Expr}{to ti:TE}{t:TSet}(ho:PE X o to)(hi:PE X i ti)(hs:zFp X t)
  (ha:∀v,assign (.Subscript o i pos) X.env v =(do
   let ov <-holding [v] (eval o X.env)
   let iv <-holding [v,ov] (eval i X.env)
   standAt pos
   holding [v,ov,iv] (setItem ov iv v)
   release [v,ov,iv] []):=by intro _;rfl):PG X (.Subscript o i pos) (zGg to ti t):=by
 intro pins s σ H v u Q I r h;rw[ha];refine AA (CU (thn (ho pins s σ H _ I h) fun ov s1 ⟨x,H1,I1,r1,q1⟩=>?_));refine AA (CU (thn (hi pins s1 σ H1 _ I1 q1) fun iv s2 ⟨y,H2,I2,r2,q2⟩=>?_));refine AA (EH (AA (CU (thn (hs pins s2 σ H2 x y v ov iv u _ I2 r1 r2 r q2) fun _ s3 ⟨H3,I3,q3⟩=>?_))));exact wpAny_release ⟨σ,H3,I3,q3⟩
def Zr(te:TE)(g:TG):TS:=fun D σ H=>te σ H fun x H1=>g x σ H1 D.nx
theorem X2{tg e:Expr}{te:TE}{g:TG}(he:PE X e te)(hg:PG X tg g)(hs:swapsWithSole [tg] e pos.line X.env=pure false:=by rfl)(hw:swappedStores [tg] e X.env=pure none:=by rfl)
  (h1:(assignEach [tg] X.env).map (·.2) = [assign tg X.env]:=by rfl):PS X (.Assign [tg] e pos) (Zr te g):=by
 intro pins s σ H D I h;refine wpAny_Assign_stores (thn (he pins s σ H _ I h) fun v s1 ⟨x,H1,I1,r1,q1⟩=>?_) hs hw;rw[h1];exact thn (hg pins s1 σ H1 x v _ I1 r1 q1) fun _ s2 q=>q
theorem C4{i:Nat}{x:Str}{e:Expr}{te:TE}{pos':Pos}(hN:X.N.Nodup)(hi:X.N[i]?=some x)(hx:Loc X.env.scope x)(he:PE X e te)(hs:swapsWith e (some (.Name x pos')) pos.line X.env=pure false:=by rfl)(hf:X.fn x=true\/X.env.scope.names.lookup x=some .local:=by first | exact .inl rfl | exact .inr rfl | assumption) :
  PS X (.Assign [.Name x pos'] e pos) (Zr te (S8 i)):=by
 intro pins s σ H D I h;refine wpAny_Assign_Name (thn (he pins s σ H _ I h) fun v s1 ⟨y,H1,I1,r1,q1⟩=>?_) hs;exact W7 I1 hN hi hx r1 (fun s2 I2=>⟨_,H1,I2,q1⟩) hf
def zGo(i j:Nat)(ta:TA):TS:=fun D σ H=>ta σ H fun vs H1=>∃v w,vs = [v,w]/\D.nx ((σ.set i (some v)).set j (some w)) H1
theorem Ps{i j:Nat}{x y:Str}{a b:Expr}{ta:TA}{px py pt:Pos}{kt k2 pt2}(hc:X.calm=true)(hN:X.N.Nodup)(hi:X.N[i]?=some x)(hj:X.N[j]?=some y)(hij:i≠j)
  (hx:X.env.scope.names.lookup x=some .local) (hy:X.env.scope.names.lookup y=some .local) (ha:PA X [a,b] ta)
  (hw:swappedStores [.Tuple [.Name x px,.Name y py] kt pt] (.Tuple [a,b] k2 pt2) X.env=pure (some [x,y]))
  (hs:swapsWithSole [.Tuple [.Name x px,.Name y py] kt pt] (.Tuple [a,b] k2 pt2) pos.line X.env=pure false:=by rfl) :
  PS X (.Assign [.Tuple [.Name x px,.Name y py] kt pt] (.Tuple [a,b] k2 pt2) pos) (zGo i j ta):=by
 intro pins s σ H D I h;rw[exec_Assign_arm];refine AA (EH ?_);rw[hs];refine AA (AF ?_);rw[AJ (by decide)];refine AA (Tuple_ (thn (ha _ pins s σ H _ I h) fun us s1 ⟨vs,H1,I1,r1,q1⟩=>?_));obtain⟨v,w,e1,q1⟩:=q1;subst e1;obtain⟨u1,u2,rfl,rv,rw'⟩:∃u1 u2,us = [u1,u2]/\RelV v u1/\RelV w u2:=by
  cases r1 with
  | cons p q =>
   cases q with
   | cons p' q' =>
    cases q';exact⟨_,_,rfl,p,p'⟩
 refine DX ?_ (by show 2<=sizeLine;decide);have I2:Inv X pins σ H1 { s1 with heap:=s1.heap.push { cls:=.type "tuple",data:=.seq [u1,u2].toArray } }:=I1.kept (t':=s1.toks) fun b o e=>AD _ e;rw[hw];refine AA (AF ?_);show wpAny (model X.prog X.w) X.A (do rule "assign.swapped-stores";let items <-unpackItems (.ref s1.heap.objs.size) 2 none;assignInOrder [fun v=>bindName X.env y v,fun v=>bindName X.env x v] items.reverse;pure Flow.next) _ _ _;refine AA (FG (AA (unpackItems_tuple (items:=#[u1,u2]) (I.ok.hd hc) (IsTup.new s1.heap _) fun h' hx'=>?_)));have I3:=I2.kept (h':=h') (t':=s1.toks) fun b o e=>hx' b o (BB (AI e)) e;show wpAny _ _ (assignInOrder [fun v=>bindName X.env y v,fun v=>bindName X.env x v] [u2,u1] >>= fun _=>pure Flow.next) _ _ _;refine AA (assignInOrder_cons (wpAny_bindName (W7 I3 hN hj (.inl hy) rw' (fun s2 I4=>?_) (.inr hy))));refine assignInOrder_cons (wpAny_bindName (W7 I4 hN hi (.inl hx) rv (fun s3 I5=>assignInOrder_nil (AF ?_)) (.inr hx)));rw[List.set_comm _ _ (Ne.symm hij)]at I5;exact⟨_,H1,I5,q1⟩
def zGp(i:Nat)(te:TE)(ti:TIp):TS:=fun D σ H=>∃x,σ[i]?=some (some x)/\te σ H fun y H1=>ti x y H1 fun z H2=>D.nx (σ.set i (some z)) H2
theorem zCk{i:Nat}{x:Str}{e:Expr}{te:TE}{op:Operator}{ti:TIp}{pos':Pos}(hN:X.N.Nodup)(hi:X.N[i]?=some x)(hx:Loc X.env.scope x)(he:PE X e te)(ho:PIp X op ti)(hf:X.fn x=true\/X.env.scope.names.lookup x=some .local:=by first | exact .inl rfl | exact .inr rfl | assumption) :
  PS X (.AugAssign (.Name x pos') op e pos) (zGp i te ti):=by
 intro pins s σ H D I h;obtain⟨v,e1,h⟩:=h;obtain⟨m,hn,hl⟩:=I.loc;have vis:Vis X.env.scope x:=by rcases hx with k | k;exact .inl k;exact .inr (.inl k)
 obtain⟨u,r,l⟩:=hl i x v hi e1 vis;refine wpAny_AugAssign_Name ?_;have go:wpAny (model X.prog X.w) X.A (eval e X.env) (fun w s₂=>wpAny (model X.prog X.w) X.A (inplaceOp op u w) (fun r s₃=>wpAny (model X.prog X.w) X.A (storeName X.env x r) (fun _=>SP X pins D .next) X.xe s₃) X.xe s₂) X.xe s:=by
  refine thn (he pins s σ H _ I h) fun w s1 ⟨y,H1,I1,r1,q1⟩=>?_;refine thn (ho pins s1 σ H1 v y u w _ I1 r r1 q1) fun z s2 ⟨zv,H2,I2,r2,q2⟩=>?_;exact W7 I2 hN hi hx r2 (fun s3 I3=>⟨_,H2,I3,q2⟩) hf
 rcases l with⟨hk,hm⟩ | ⟨hk,c,hc,hcell⟩
 .exact wpAny_loadName_local I.ok.kind hk hn hm go
 .rcases hk with hk | hk
  .exact wpAny_loadName_cell I.ok.kind hk hc hcell go
  .rcases hx with k | k
   .have:X.env.scope.names.lookup x=some .free:=hk;rw[k]at this;cases this
   .have:X.env.scope.names.lookup x=some .free:=hk;rw[k]at this;cases this
def ipI(f:Int->Int->Int):TIp:=fun x y H Q=>∃i j,x = .int i/\y = .int j/\Q (.int (f i j)) H
def zBu(c:TT)(tb:TS):TS:=fun D σ H=>∃W:Nat->St->Hp->Prop,(∃m,W m σ H)/\∀m σ H,W m σ H ->
 c σ H fun b H1=>if b=true then ∃N:St->Hp->Prop,(∀σ' H',N σ' H'->∃m',m' < m/\W m' σ' H')/\tb { D with nx:=N,ct:=N,bk:=D.nx } σ H1 else D.nx σ H1
theorem Dg{c:Expr}{body:List Stmt}{tc:TT}{tb:TS}(hp:PassesOwn (model X.prog X.w) X.A X.env X.xe)(hc:PT X c tc)(hb:PSs X body tb):PS X (.While c body [] pos) (zBu tc tb):=by
 intro pins s σ H D I h;obtain⟨W,⟨m0,w0⟩,turn⟩:=h;refine wpAny_While (codeAny_whileLoop (fun n s'=>∃σ' H',Inv X pins σ' H' s'/\W n σ' H') ?_ m0 ⟨σ,H,I,w0⟩);rintro n s1 ⟨σ1,H1,I1,w1⟩;refine FV hp (thn (hc pins s1 σ1 H1 _ I1 (turn n σ1 H1 w1)) fun b s2 ⟨H2,I2,q2⟩=>?_);cases b with
 | true =>
  obtain⟨N,hN,q2⟩:=q2;rw[AL rfl];refine FV hp (thn (hb pins s2 σ1 H2 _ I2 q2) fun f s3 q3=>?_);cases f with
  | next =>
   obtain⟨σ3,H3,I3,n3⟩:=q3;obtain⟨m',hm,w3⟩:=hN σ3 H3 n3;exact⟨m',hm,σ3,H3,I3,w3⟩
  | cont =>
   obtain⟨σ3,H3,I3,n3⟩:=q3;obtain⟨m',hm,w3⟩:=hN σ3 H3 n3;exact⟨m',hm,σ3,H3,I3,w3⟩
  | brk=>exact q3
  | ret v=>exact q3
 | false =>
  rw[AJ AY];exact FH ⟨σ1,H2,I2,q2⟩
end
structure It where
 go:Nat->Hp->Prop
 yld:Nat->Hp->V->Hp->Prop
 stop:Nat->Hp->Prop
def Be(X:Cx)(pins:List (Addr×Obj))(H:Hp)(b:Addr):Prop :=
 H b=none/\b≠X.env.locals/\b∉X.fs/\(b∈X.ex\/X.s₀.heap.objs.size<=b)/\(∀x c,X.env.cells.lookup x=some c->c≠b)/\∀p∈X.pn++pins,p.1≠b
theorem Inv.fpOk{X:Cx}{pins:List (Addr×Obj)}{σ:St}{H H':Hp}{s:Shared}{b:Addr}(I:Inv X pins σ H s)(hb:s.heap.objs.size<=b)(hn:H' b=none):Be X pins H' b:=by
 refine⟨hn,Nat.ne_of_gt (BF I.lt hb),I.nofs hb,.inr (Nat.le_trans I.sz hb),fun x c e z=>?_,fun p hp z=>?_⟩
 .obtain⟨v,q⟩:=I.cell x c e;exact absurd (BF q.lt (by rw[z];exact hb)) (CV _)
 .exact absurd (BF (AI (I.pin p hp).1) (by rw[z];exact hb)) (CV _)
structure Turn(P:Program)(w:World)(K:PySem.W.Frag)(tg:Expr)(J:It)(fp:List Addr)(it:Addr)(tn:Nat->Heap->Prop):Prop where
 mem:it∈fp
 obj:∀i h,tn i h->∀b∈fp,∃o,h.get? b=some o/\∀v,o.data≠ .cell v
 keep:∀i h h',tn i h->(∀b∈fp,∀o,h.get? b=some o->h'.get? b=some o)->tn i h'
 item:∀(X:Cx),X.prog=P->X.w=w->X.K=K->X.calm=true->∀(i:Nat) (pins:List (Addr×Obj)) (s:Shared) (σ:St) (H:Hp) (E:Value->Shared->Prop),Inv X pins σ H s->(∀b∈fp,Be X pins H b)->tn i s.heap->J.go i H ->
  wpAny (model P w) X.A (pyNext (.ref it)) (fun r s1=>∃u,r=some u /\
   wpAny (model P w) X.A (letOwnedTupleGo tg (.ref it) u) (fun _ s2=>∃x H',Inv X pins σ H' s2/\RelV x u/\J.yld i H x H'/\tn (i+1) s2.heap/\∀b∈fp,H' b=none) E s1) E s
 done:∀(X:Cx),X.prog=P->X.w=w->X.K=K->X.calm=true->∀(i:Nat) (pins:List (Addr×Obj)) (s:Shared) (σ:St) (H:Hp) (E:Value->Shared->Prop),Inv X pins σ H s->(∀b∈fp,Be X pins H b)->tn i s.heap->J.stop i H ->
  wpAny (model P w) X.A (pyNext (.ref it)) (fun r s1=>r=none/\Inv X pins σ H s1) E s
 self:∀(A:Around) (i:Nat) (s:Shared) (Q:Value->Shared->Prop) (E:Value->Shared->Prop),tn i s.heap->Q (.ref it) s->wpAny (model P w) A (pyIter (.ref it)) Q E s
abbrev TI:=St->Hp->(It->Hp->Prop)->Prop
def PIE(X:Cx)(pins:List (Addr×Obj))(σ:St)(tg:Expr)(R:It->Hp->Prop)(itv:Value)(s2:Shared):Prop :=
 ∃(it:Addr) (fp:List Addr) (tn:Nat->Heap->Prop) (J:It) (H':Hp),itv = .ref it/\Inv X pins σ H' s2/\Turn X.prog X.w X.K tg J fp it tn/\tn 0 s2.heap/\(∀b∈fp,Be X pins H' b)/\R J H'
def PI(X:Cx)(tg iter:Expr)(wi:TI):Prop :=
 ∀(pins:List (Addr×Obj)) (s:Shared) (σ:St) (H:Hp) (R:It->Hp->Prop),Inv X pins σ H s->wi σ H R ->
  wpAny (model X.prog X.w) X.A (eval iter X.env) (fun v s1=>wpAny (model X.prog X.w) X.A (pyIter v) (PIE X pins σ tg R) X.xe s1) X.xe s
theorem Lz{M:Model}{A:Around}{E:Value->Shared->Prop}{s:Shared}{tg:Expr}{it:Addr}{u:Value}{o:Obj}{n:String}{vs:Array Value}{Q:Unit->Shared->Prop}(ho:s.heap.get? it=some o)(hc:o.cls = .type n)(hd:o.data = .fields vs)
    (hn:["enumerate", "zip", "dict_itemiterator", "dict_reverseitemiterator", "odict_iterator", "itertools.zip_longest", "itertools.pairwise"].contains n=false) (hQ:Q () s):wpAny M A (letOwnedTupleGo tg (.ref it) u) Q E s:=by
  unfold letOwnedTupleGo;cases tg<;>first
    | exact AF hQ
    | (cases u<;>first
        | exact AF hQ
        | (refine AA (wpAny_load ho ?_)
           rw[hc,hd];show wpAny M A (if(["enumerate", "zip", "dict_itemiterator", "dict_reverseitemiterator", "odict_iterator", "itertools.zip_longest", "itertools.pairwise"].contains n&&vs[0]? == some (rawInt _))=true then _ else _) Q E s;rw[AJ (by intro h;rw[hn,DZ]at h;cases h)];exact AF hQ))
def Itl(K:PySem.W.Frag)(a:Addr):It :=
 ⟨fun i H=>∃xs x,SqL K H a xs/\xs[i]?=some x,fun i H x H'=>H'=H/\∀xs,SqL K H a xs->xs[i]?=some x,fun i H=>∃xs,SqL K H a xs/\xs.length<=i⟩
def Itt(K:PySem.W.Frag)(a:Addr):It :=
 ⟨fun i H=>∃xs x,SqT K H a xs/\xs[i]?=some x,fun i H x H'=>H'=H/\∀xs,SqT K H a xs->xs[i]?=some x,fun i H=>∃xs,SqT K H a xs/\xs.length<=i⟩
def Itr(lo:Int)(n:Nat):It:=⟨fun i _=>i<n,fun i H x H'=>H'=H/\x = .int (lo+i),fun i _=>n<=i⟩
theorem Ha{P:Program}{w:World}{K:PySem.W.Frag}{tg:Expr}(a it:Addr):Turn P w K tg (Itl K a) [it] it (fun i h=>h.IsListIter it a i) where
 mem:=by simp
 obj:=fun i h st b hb=>by
  have e:b=it:=by simpa using hb
  subst e;obtain⟨o,e,c,d⟩:=st;exact⟨o,e,fun v z=>by rw[d]at z;cases z⟩
 keep:=fun i h h' st k=>st.at fun o e=>k it (by simp) o e
 item:=by
  intro X hP hw hK hc i pins s σ H E I hf st hg;subst hP hw hK;obtain⟨xs,x,hq,hx⟩:=hg;obtain⟨its,rv,p,hz⟩:=I.list hq;obtain⟨u,hu,ru⟩:=rv.get hx;obtain⟨f0,f1,f2,f3,f4,f5⟩:=hf it (by simp);refine wpAny_pyNext_list_item st p.isList (x:=u) (by simpa using hu) fun h' st' sb=>?_;have I1:Inv X pins σ H { s with heap:=h' }:=I.turned (t':=s.toks) (fun b o hb e=>(sb.2 b hb).trans e) f0 f1 f3 f4 f5;obtain⟨o,e,c,d⟩:=id st';exact⟨u,rfl,Lz (s:={ s with heap:=h' }) e c d (by decide) ⟨x,H,I1,ru,⟨rfl,fun ys hy=>by rw[I.list_inj hy hq];exact hx⟩,st',fun b hb=>(hf b hb).1⟩⟩
 done:=by
  intro X hP hw hK hc i pins s σ H E I hf st hg;subst hP hw hK;obtain⟨xs,hq,hx⟩:=hg;obtain⟨its,rv,p,hz⟩:=I.list hq;obtain⟨f0,f1,f2,f3,f4,f5⟩:=hf it (by simp);have hl:=rv.length;exact wpAny_pyNext_list_end (I.ok.hd hc) st p.isList (by simp;omega) fun h' eb=>⟨rfl,I.turned (t':=s.toks) (fun b o hb e=>eb b o hb e) f0 f1 f3 f4 f5⟩
 self:=fun _ _ _ _ _ st h=>wpAny_pyIter_listiter st h
theorem Na{P:Program}{w:World}{K:PySem.W.Frag}{tg:Expr}(a it:Addr):Turn P w K tg (Itt K a) [it] it (fun i h=>h.IsTupleIter it a i) where
 mem:=by simp
 obj:=fun i h st b hb=>by
  have e:b=it:=by simpa using hb
  subst e;obtain⟨o,e,c,d⟩:=st;exact⟨o,e,fun v z=>by rw[d]at z;cases z⟩
 keep:=fun i h h' st k=>st.at fun o e=>k it (by simp) o e
 item:=by
  intro X hP hw hK hc i pins s σ H E I hf st hg;subst hP hw hK;obtain⟨xs,x,hq,hx⟩:=hg;obtain⟨its,rv,p,hz⟩:=I.tuple hq;obtain⟨u,hu,ru⟩:=rv.get hx;obtain⟨f0,f1,f2,f3,f4,f5⟩:=hf it (by simp);refine wpAny_pyNext_tuple_item st (show s.heap.IsTuple a its.toArray from p) (x:=u) (by simpa using hu) fun h' st' sb=>?_;have I1:Inv X pins σ H { s with heap:=h' }:=I.turned (t':=s.toks) (fun b o hb e=>(sb.2 b hb).trans e) f0 f1 f3 f4 f5;obtain⟨o,e,c,d⟩:=id st';exact⟨u,rfl,Lz (s:={ s with heap:=h' }) e c d (by decide) ⟨x,H,I1,ru,⟨rfl,fun ys hy=>by rw[I.tuple_inj hy hq];exact hx⟩,st',fun b hb=>(hf b hb).1⟩⟩
 done:=by
  intro X hP hw hK hc i pins s σ H E I hf st hg;subst hP hw hK;obtain⟨xs,hq,hx⟩:=hg;obtain⟨its,rv,p,hz⟩:=I.tuple hq;obtain⟨f0,f1,f2,f3,f4,f5⟩:=hf it (by simp);have hl:=rv.length;exact wpAny_pyNext_tuple_end (I.ok.hd hc) st (show s.heap.IsTuple a its.toArray from p) (by simp;omega) fun h' eb=>⟨rfl,I.turned (t':=s.toks) (fun b o hb e=>eb b o hb e) f0 f1 f3 f4 f5⟩
 self:=fun _ _ _ _ _ st h=>wpAny_pyIter_tupleiter st h
theorem Mj{P:Program}{w:World}{K:PySem.W.Frag}{tg:Expr}(it:Addr)(lo:Int)(n:Nat):Turn P w K tg (Itr lo n) [it] it (fun i h=>IsRangeIter h it (lo +(i:Nat)*1) ((n:Int)-(i:Nat)) 1) where
 mem:=by simp
 obj:=fun i h st b hb=>by
  have e:b=it:=by simpa using hb
  subst e;exact⟨_,st,fun v z=>by
   have z':Data.fields _=Data.cell v:=z;cases z'⟩
 keep:=fun i h h' st k=>k it (by simp) _ st
 item:=by
  intro X hP hw hK hc i pins s σ H E I hf st hg;subst hP hw hK;obtain⟨f0,f1,f2,f3,f4,f5⟩:=hf it (by simp);have W:=Walks.range (prog:=X.prog) (w:=X.w) (I.ok.hd hc) it lo 1 n;refine W.item i s _ _ hg st fun v h' tk hv st' kk=>?_;obtain⟨t,rfl⟩:=hv;have I1:Inv X pins σ H { s with heap:=h',toks:=tk }:=I.turned (fun b o hb e=>kk b o (by simpa using hb) e) f0 f1 f3 f4 f5;refine⟨_,rfl,Lz (s:={ s with heap:=h',toks:=tk }) (n := "range_iterator") st' rfl rfl (by decide) ⟨.int (lo+i),H,I1,⟨t,?_⟩,⟨rfl,rfl⟩,st',fun b hb=>(hf b hb).1⟩⟩;rw[Int.mul_one]
 done:=by
  intro X hP hw hK hc i pins s σ H E I hf st hg;subst hP hw hK;obtain⟨f0,f1,f2,f3,f4,f5⟩:=hf it (by simp);exact wpAny_pyNext_range_end (I.ok.hd hc) st (by have:n<=i:=hg;omega) fun h' eb=>⟨rfl,I.turned (t':=s.toks) (fun b o hb e=>eb b o hb e) f0 f1 f3 f4 f5⟩
 self:=fun _ _ _ _ _ st h=>wpAny_pyIter_rangeiter st h
section
variable{X:Cx}{tg:Expr}
def zBq(K:PySem.W.Frag)(tl:TE):TI:=fun σ H R=>tl σ H fun x H1=>∃a,x = .ref a/\(∃xs,SqL K H1 a xs)/\R (Itl K a) H1
theorem Yj{l:Expr}{tl:TE}(hl:PE X l tl):PI X tg l (zBq X.K tl):=by
 intro pins s σ H R I h;refine thn (hl pins s σ H _ I h) fun v s1 ⟨x,H1,I1,r1,q1⟩=>?_;obtain⟨a,e,⟨xs,hq⟩,q⟩:=q1;subst e;cases r1;obtain⟨its,rv,p,hz⟩:=I1.list hq;refine HX p.isList ?_;refine⟨s1.heap.objs.size,[s1.heap.objs.size],_,_,H1,rfl,I1.kept (t':=s1.toks) fun b o e=>AD _ e,Ha a _,⟨_,AS _ rfl,rfl,rfl⟩,fun b hb=>?_,q⟩;have e:b=s1.heap.objs.size:=by simpa using hb
 subst e;exact I1.fpOk (Nat.le_refl _) (I1.hok.fresh (Nat.le_refl _))
theorem Lj{pins:List (Addr×Obj)}{σ:St}{H:Hp}{s:Shared}{R:It->Hp->Prop}{E:Value->Shared->Prop}{lo hi:Int}{t u v:Tok}{tk:Nat}(I:Inv X pins σ H s)(h1:-(2^62)<=lo)(h2:lo<2^62)(h3:-(2^62)<=hi)(h4:hi<2^62)
  (q:R (Itr lo (hi-lo).toNat) H):wpAny (model X.prog X.w) X.A (pyIter (.ref s.heap.objs.size)) (PIE X pins σ tg R) E { s with heap:=s.heap.push { cls:=.type "range",data:=.fields #[.int lo t,.int hi u,.int 1 v] },toks:=tk }:=by
 refine wpAny_pyIter_range (IsRange.new ..) (small_one h1 h2 h3 h4) ?_;have I1:Inv X pins σ H { s with heap:=s.heap.push { cls:=.type "range",data:=.fields #[.int lo t,.int hi u,.int 1 v] },toks:=tk }:=I.kept fun b o e=>AD _ e;refine⟨(s.heap.push { cls:=.type "range",data:=.fields #[.int lo t,.int hi u,.int 1 v] }).objs.size,[(s.heap.push { cls:=.type "range",data:=.fields #[.int lo t,.int hi u,.int 1 v] }).objs.size],_,_,H,rfl,
  I1.kept (t':=tk) fun b o e=>AD _ e,Mj _ lo (hi-lo).toNat,?_,fun b hb=>?_,q⟩
 .have e1:lo +((0:Nat):Int)*1=lo:=by simp
  have e2:(((hi-lo).toNat:Nat):Int)-((0:Nat):Int)=Builtin.Range.rangeSize lo hi 1:=by rw[rangeSize_one];split<;>omega
  show IsRangeIter _ _ (lo +((0:Nat):Int)*1) ((((hi-lo).toNat:Nat):Int)-((0:Nat):Int)) 1;rw[e1,e2];exact AS _ rfl
 .have e:b =(s.heap.push { cls:=.type "range",data:=.fields #[.int lo t,.int hi u,.int 1 v] }).objs.size:=by simpa using hb
  subst e;exact I1.fpOk (Nat.le_refl _) (I1.hok.fresh (Nat.le_refl _))
def zCs(ta:TA):TI:=fun σ H R=>ta σ H fun vs H1=>∃j:Int,vs = [.int j]/\-(2^62)<=j/\j<2^62/\R (Itr 0 j.toNat) H1
def zEs(ta:TA):TI:=fun σ H R=>ta σ H fun vs H1=>∃i j:Int,vs = [.int i,.int j]/\(-(2^62)<=i/\i<2^62/\-(2^62)<=j/\j<2^62)/\R (Itr i (j-i).toNat) H1
theorem Pb{a:Expr}{ta:TA}{p pos:Pos}(hg:Gl X "range")(hm:X.mg "range" = none)(ha:PA X [a] ta)(hs:starEach [a] X.env = [(false,eval a X.env)]:=by rfl):PI X tg (.Call (.Name "range" p) [a] [] pos) (zCs ta):=by
 intro pins s σ H R I h;refine Call_ (Ar I hg hm boot_range (PyProof.Rows.callWith_type1 (thn (ha pos pins s σ H _ I h) fun us s1 ⟨vs,H1,I1,r1,q1⟩=>?_) hs rfl));obtain⟨j,e,q1,q2,q⟩:=q1;subst e;cases r1 with
 | cons r rr =>
  cases rr;obtain⟨t,rfl⟩:=r;exact call_range_1 (Lj I1 (by omega) (by omega) q1 q2 (by simpa using q))
theorem Qi{a b:Expr}{ta:TA}{p pos:Pos}(hg:Gl X "range")(hm:X.mg "range" = none)(ha:PA X [a,b] ta)(hs:starEach [a,b] X.env = [(false,eval a X.env),(false,eval b X.env)]:=by rfl)(hs2:starEach [b] X.env = [(false,eval b X.env)]:=by rfl) :
  PI X tg (.Call (.Name "range" p) [a,b] [] pos) (zEs ta):=by
 intro pins s σ H R I h;refine Call_ (Ar I hg hm boot_range (PyProof.Rows.callWith_type1 (thn (ha pos pins s σ H _ I h) fun us s1 ⟨vs,H1,I1,r1,q1⟩=>?_) (by rw[hs,hs2]) (by rw[hs2];rfl)));obtain⟨i,j,e,⟨q1,q2,q3,q4⟩,q⟩:=q1;subst e;cases r1 with
 | cons r rr =>
  cases rr with
  | cons r' rr =>
   cases rr;obtain⟨t,rfl⟩:=r;obtain⟨t',rfl⟩:=r';exact call_range_2 (Lj I1 q1 q2 q3 q4 q)
def zGn(wi:TI)(g:TG)(tb:TS):TS:=fun D σ H=>wi σ H fun J H1=>∃W:Nat->Nat->St->Hp->Prop,(∃m,W 0 m σ H1)/\∀i m σ H,W i m σ H ->
 (J.stop i H/\D.nx σ H)\/(J.go i H/\∃N:St->Hp->Prop,(∀σ' H',N σ' H'->∃m',m' < m/\W (i+1) m' σ' H')/\∀x H',J.yld i H x H'->g x σ H' fun σ2 H2=>tb { D with nx:=N,ct:=N,bk:=D.nx } σ2 H2)
def Et(fp:List Addr)(h:Heap):List (Addr×Obj):=fp.filterMap fun b=>(h.get? b).map fun o=>(b,o)
theorem U7{fp:List Addr}{h:Heap}{b:Addr}{o:Obj}(hb:b∈fp)(e:h.get? b=some o):(b,o)∈Et fp h:=List.mem_filterMap.mpr ⟨b,hb,by rw[e];rfl⟩
theorem Rs{fp:List Addr}{h:Heap}{p:Addr×Obj}(hp:p∈Et fp h):p.1∈fp/\h.get? p.1=some p.2:=by
 obtain⟨b,hb,e⟩:=List.mem_filterMap.mp hp;cases q:h.get? b with
 | none=>rw[q]at e;cases e
 | some o =>
  rw[q]at e;have e':(b,o)=p:=BI e;subst e';exact⟨hb,q⟩
theorem Inv.pinned{pins:List (Addr×Obj)}{σ:St}{H:Hp}{s:Shared}{fp:List Addr}(I:Inv X pins σ H s)(hf:∀b∈fp,Be X pins H b)(ho:∀b∈fp,∃o,s.heap.get? b=some o/\∀v,o.data≠ .cell v):Inv X (pins++Et fp s.heap) σ H s :=
 I.pins_of fun p hp=>(AR.mp hp).elim (fun z=>I.pin p (BT _ z)) fun z=>by
  obtain⟨hb,e⟩:=Rs z;obtain⟨f0,f1,f2,_⟩:=hf p.1 hb;obtain⟨o,e',d⟩:=ho p.1 hb;rw[e]at e';cases e';exact⟨e,f0,f1,f2,d⟩
theorem Inv.unpinned{pins pl:List (Addr×Obj)}{σ:St}{H:Hp}{s:Shared}(I:Inv X (pins++pl) σ H s):Inv X pins σ H s:=I.pins_of fun p hp=>I.pin p (BT _ (DY _ hp))
theorem K1{iter:Expr}{body:List Stmt}{wi:TI}{g:TG}{tb:TS}{pos:Pos}(hp:PassesOwn (model X.prog X.w) X.A X.env X.xe)(hc:X.calm=true)(hi:PI X tg iter wi)(hg:PG X tg g)(hb:PSs X body tb)
  (hs:∀x,foldedSetIterable iter X.env x=pure x:=by intro _;rfl):PS X (.For tg iter body [] pos) (zGn wi g tb):=by
 intro pins s σ H D I h;refine wpAny_For (thn (hi pins s σ H _ I h) fun v s1 h1=>thn h1 fun itv s2 h2=>?_) hs;obtain⟨it,fp,tn,J,H2,e,I2,T,st2,f2,W,⟨m0,w0⟩,turn⟩:=h2;subst e;have stat:∀{H':Hp},(∀b∈fp,H' b=none)->∀b∈fp,Be X pins H' b:=fun hn b hb=>⟨hn b hb,(f2 b hb).2⟩;refine codeAny_forLoop_any (fun n s'=>∃i σ' H',Inv X pins σ' H' s'/\tn i s'.heap/\(∀b∈fp,H' b=none)/\W i n σ' H') ?_ m0 ⟨0,σ,H2,I2,st2,fun b hb=>(f2 b hb).1,w0⟩;rintro n s3 ⟨i,σ3,H3,I3,st3,fr3,w3⟩;rcases turn i n σ3 H3 w3 with⟨stop,qn⟩ | ⟨go,N,hN,step⟩
 .refine FV hp (thn (T.done X rfl rfl rfl hc i pins s3 σ3 H3 X.xe I3 (stat fr3) st3 stop) fun r s4 ⟨hr,I4⟩=>?_);subst hr;exact FH ⟨σ3,H3,I4,qn⟩
 .refine FV hp (thn (T.item X rfl rfl rfl hc i pins s3 σ3 H3 X.xe I3 (stat fr3) st3 go) fun r s4 ⟨u,hr,h4⟩=>?_);subst hr;refine FV hp (thn h4 fun _ s5 ⟨x,H5,I5,r5,y5,st5,fr5⟩=>?_);have I5':=I5.pinned (stat fr5) (T.obj _ _ st5);refine FV hp (thn (hg _ s5 σ3 H5 x u _ I5' r5 (step x H5 y5)) fun _ s6 ⟨σ6,H6,I6,q6⟩=>?_);refine FV hp (thn (hb _ s6 σ6 H6 _ I6 q6) fun f s7 q7=>?_);have again:∀{σ7:St} {H7:Hp},Inv X (pins++Et fp s5.heap) σ7 H7 s7->N σ7 H7->∃m,m<n/\∃i σ' H',Inv X pins σ' H' s7/\tn i s7.heap/\(∀b∈fp,H' b=none)/\W i m σ' H':=fun{σ7 H7} I7 n7=>by
   obtain⟨m',hm,w7⟩:=hN σ7 H7 n7;refine⟨m',hm,i+1,σ7,H7,I7.unpinned,T.keep _ _ _ st5 fun b hb o e=>(I7.pin (b,o) (BT _ (BT _ (U7 hb e)))).1,fun b hb=>?_,w7⟩;obtain⟨o,e,d⟩:=T.obj _ _ st5 b hb;exact(I7.pin (b,o) (BT _ (BT _ (U7 hb e)))).2.1
  cases f with
  | next=>obtain⟨σ7,H7,I7,n7⟩:=q7;exact again I7 n7
  | cont=>obtain⟨σ7,H7,I7,n7⟩:=q7;exact again I7 n7
  | brk=>obtain⟨σ7,H7,I7,q7⟩:=q7;exact⟨σ7,H7,I7.unpinned,q7⟩
  | ret v=>obtain⟨x7,σ7,H7,I7,r7,q7⟩:=q7;exact⟨x7,σ7,H7,I7.unpinned,r7,q7⟩
end
theorem Pj{lo:Int}{n:Nat}{g:TG}{tb:TS}{D:Ends}{σ:St}{H:Hp}(Pv:Nat->St->Hp->Prop)(h0:Pv 0 σ H)
  (hs:∀i σ H,i<n->Pv i σ H->g (.int (lo+i)) σ H fun σ2 H2=>tb { D with nx:=Pv (i+1),ct:=Pv (i+1),bk:=D.nx } σ2 H2) (hd:∀σ H,Pv n σ H->D.nx σ H) :
  ∃W:Nat->Nat->St->Hp->Prop,(∃m,W 0 m σ H)/\∀i m σ H,W i m σ H ->
   ((Itr lo n).stop i H/\D.nx σ H)\/((Itr lo n).go i H/\∃N:St->Hp->Prop,(∀σ' H',N σ' H'->∃m',m' < m/\W (i+1) m' σ' H')/\∀x H',(Itr lo n).yld i H x H'->g x σ H' fun σ2 H2=>tb { D with nx:=N,ct:=N,bk:=D.nx } σ2 H2):=by
 refine⟨fun i m σ H=>m=n-i/\i<=n/\Pv i σ H,⟨n,by simp,CH _,h0⟩,?_⟩;rintro i m σ H ⟨rfl,hi,p⟩;by_cases hlt:i<n
 .refine .inr ⟨hlt,Pv (i+1),fun σ' H' p'=>⟨n-(i+1),by omega,rfl,hlt,p'⟩,fun x H' y=>?_⟩;obtain⟨e,y⟩:=y;subst e y;exact hs i σ _ hlt p
 .have e:i=n:=by omega
  subst e;exact .inl ⟨Nat.le_refl _,hd σ H p⟩
abbrev R2:=V->V->Hp->VK->Prop
def OpR(X:Cx)(f:Value->Value->Sem Value)(r:R2):Prop :=
 ∀(pins:List (Addr×Obj)) (s:Shared) (σ:St) (H:Hp) (x y:V) (v u:Value) (Q:VK),Inv X pins σ H s->RelV x v->RelV y u->r x y H Q ->
  wpAny (model X.prog X.w) X.A (f v u) (EP X pins σ Q) X.xe s
def UnR(X:Cx)(f:Value->Sem Value)(r:V->Hp->VK->Prop):Prop :=
 ∀(pins:List (Addr×Obj)) (s:Shared) (σ:St) (H:Hp) (x:V) (v:Value) (Q:VK),Inv X pins σ H s->RelV x v->r x H Q ->
  wpAny (model X.prog X.w) X.A (f v) (EP X pins σ Q) X.xe s
def E8(X:Cx)(f:Value)(r:List V->Hp->VK->Prop):Prop :=
 ∀(pins:List (Addr×Obj)) (s:Shared) (σ:St) (H:Hp) (xs:List V) (us:List Value) (Q:VK),Inv X pins σ H s->Vals xs us->r xs H Q ->
  wpAny (model X.prog X.w) X.A (call f us) (EP X pins σ Q) X.xe s
def zGe(X:Cx)(r:V->Hp->(Bool->Hp->Prop)->Prop):Prop :=
 ∀(pins:List (Addr×Obj)) (s:Shared) (σ:St) (H:Hp) (x:V) (v:Value) (Q:Bool->Hp->Prop),Inv X pins σ H s->RelV x v->r x H Q ->
  wpAny (model X.prog X.w) X.A (truthy v) (TP X pins σ Q) X.xe s
def tOp(r:R2)(ta tb:TE):TE:=fun σ H Q=>ta σ H fun x H1=>tb σ H1 fun y H2=>r x y H2 Q
def tUn(r:V->Hp->VK->Prop)(ta:TE):TE:=fun σ H Q=>ta σ H fun x H1=>r x H1 Q
def rI(C:Int->Int->Prop)(g:Int->Int->V):R2:=fun x y H Q=>∃i j,x = .int i/\y = .int j/\C i j/\Q (g i j) H
def rI0(g:Int->Int->V):R2:=fun x y H Q=>∃i j,x = .int i/\y = .int j/\Q (g i j) H
def rU(g:Int->V):V->Hp->VK->Prop:=fun x H Q=>∃i,x = .int i/\Q (g i) H
section
variable{X:Cx}{a b c:Expr}{ta tb tc:TE}{pos:Pos}
theorem zEl(ha:PE X a ta)(hb:PE X b tb){pins:List (Addr×Obj)}{s:Shared}{σ:St}{H:Hp}{R:V->V->Hp->Prop}(I:Inv X pins σ H s)
  (h:ta σ H fun x H1=>tb σ H1 fun y H2=>R x y H2) {Q:Value->Shared->Prop} {f:Value->Value->Sem Value}
  (hf:∀v u s2 x y H2,Inv X pins σ H2 s2->RelV x v->RelV y u->R x y H2->wpAny (model X.prog X.w) X.A (f v u) Q X.xe s2) :
  wpAny (model X.prog X.w) X.A (eval a X.env) (fun v s₁=>wpAny (model X.prog X.w) X.A (eval b X.env) (fun u s₂=>wpAny (model X.prog X.w) X.A (f v u) Q X.xe s₂) X.xe s₁) X.xe s:=by
 refine thn (ha pins s σ H _ I h) fun v s1 ⟨x,H1,I1,r1,q1⟩=>?_;refine thn (hb pins s1 σ H1 _ I1 q1) fun u s2 ⟨y,H2,I2,r2,q2⟩=>?_;exact hf v u s2 x y H2 I2 r1 r2 q2
theorem C2{op:Operator}{r:R2}(ho:OpR X (binaryOp op) r)(ha:PE X a ta)(hb:PE X b tb):PE X (.BinOp a op b pos) (tOp r ta tb):=by
 intro pins s σ H Q I h;exact wpAny_BinOp (zEl ha hb I h fun v u s2 x y H2 I2 rx ry q=>ho pins s2 σ H2 x y v u Q I2 rx ry q)
theorem Mb{op:UnaryOp}{r:V->Hp->VK->Prop}(ho:UnR X (unaryOp op) r)(ha:PE X a ta):PE X (.UnaryOp op a pos) (tUn r ta):=by
 intro pins s σ H Q I h;exact UnaryOp_ (thn (ha pins s σ H _ I h) fun v s1 ⟨x,H1,I1,r1,q1⟩=>ho pins s1 σ H1 x v Q I1 r1 q1)
theorem opI{f:Value->Value->Sem Value}{C:Int->Int->Prop}{g:Int->Int->Int}
  (rule:∀(i j:Int) (t u:Tok) (s:Shared) (Q:Value->Shared->Prop) (E:Value->Shared->Prop),C i j->Q (.int (g i j) s.toks) { s with toks:=s.toks+1 }->wpAny (model X.prog X.w) X.A (f (.int i t) (.int j u)) Q E s) :
  OpR X f (rI C fun i j=>.int (g i j)):=by
 intro pins s σ H x y v u Q I rx ry h;obtain⟨i,j,rfl,rfl,hc,q⟩:=h;obtain⟨t,rfl⟩:=rx;obtain⟨t',rfl⟩:=ry;exact rule i j t t' s _ _ hc ⟨.int (g i j),H,I.tok _,⟨_,rfl⟩,q⟩
theorem zCc{f:Value->Value->Sem Value}{g:Int->Int->Int}
  (rule:∀(i j:Int) (t u:Tok) (s:Shared) (Q:Value->Shared->Prop) (E:Value->Shared->Prop),Q (.int (g i j) s.toks) { s with toks:=s.toks+1 }->wpAny (model X.prog X.w) X.A (f (.int i t) (.int j u)) Q E s) :
  OpR X f (rI0 fun i j=>.int (g i j)):=by
 intro pins s σ H x y v u Q I rx ry h;obtain⟨i,j,rfl,rfl,q⟩:=h;obtain⟨t,rfl⟩:=rx;obtain⟨t',rfl⟩:=ry;exact rule i j t t' s _ _ ⟨.int (g i j),H,I.tok _,⟨_,rfl⟩,q⟩
theorem zDd{f:Value->Value->Sem Value}{g:Int->Int->Bool}
  (rule:∀(i j:Int) (t u:Tok) (s:Shared) (Q:Value->Shared->Prop) (E:Value->Shared->Prop),Q (.bool (g i j)) s->wpAny (model X.prog X.w) X.A (f (.int i t) (.int j u)) Q E s) :
  OpR X f (rI0 fun i j=>.bl (g i j)):=by
 intro pins s σ H x y v u Q I rx ry h;obtain⟨i,j,rfl,rfl,q⟩:=h;obtain⟨t,rfl⟩:=rx;obtain⟨t',rfl⟩:=ry;exact rule i j t t' s _ _ ⟨.bl (g i j),H,I,rfl,q⟩
def zGa(i j:Int):Prop:=0<j/\j<1073741824
def zFc(i j:Int):Prop:=0<=j/\j<=1000000/\i.natAbs<2^64
def CMul(i j:Int):Prop:=(-(2^64)<i/\i<2^64)\/(-(2^64)<j/\j<2^64)
theorem CMul.ok{i j:Int}(h:CMul i j):IntMulOk i j:=by
 rcases h with⟨h1,h2⟩ | ⟨h1,h2⟩
 .exact .of_left (intBits_le_64 h1 h2)
 .exact .of_right (intBits_le_64 h1 h2)
theorem Ma(k:Nat):(0:Int)<=2^k:=by
 rw[two_pow_cast];exact Int.natCast_nonneg _
theorem Y8:OpR X (binaryOp .Add) (rI0 fun i j=>.int (i+j)):=zCc fun _ _ _ _ _ _ _ q=>add_int q
theorem zBi:OpR X (binaryOp .Sub) (rI0 fun i j=>.int (i-j)):=zCc fun _ _ _ _ _ _ _ q=>sub_int q
theorem Cg:OpR X (binaryOp .Mult) (rI CMul fun i j=>.int (i*j)):=opI fun _ _ _ _ _ _ _ hc q=>mul_int q hc.ok
theorem Ob:OpR X (binaryOp .FloorDiv) (rI zGa fun i j=>.int (i / j)):=opI fun i j _ _ _ _ _ hc q=>by
 have h1:(0:Int)<j:=hc.1;have h2:j<1073741824:=hc.2;exact floordiv_int (by omega) (by rw[Int.fdiv_eq_ediv_of_nonneg i (by omega)];exact q) (.inl (PyProof.noPylong_small (by omega)))
theorem Go:OpR X (binaryOp .Mod) (rI (fun _ j=>0<j) fun i j=>.int (i % j)):=opI fun i j _ _ _ _ _ hc q=>by
 have h1:(0:Int)<j:=hc;exact mod_int' (by omega) (by rw[Int.fmod_eq_emod_of_nonneg i (by omega)];exact q)
theorem zCn:OpR X (binaryOp .Pow) (rI zFc fun i j=>.int (i^j.toNat)):=opI fun _ _ _ _ _ _ _ hc q=>pow_int_small hc.1 hc.2.1 hc.2.2 q
theorem y0:OpR X (binaryOp .LShift) (rI zFc fun i j=>.int (i*2^j.toNat)):=opI fun _ _ _ _ _ _ _ hc q=>lshift_int_small hc.1 hc.2.1 hc.2.2 q
theorem Kc:OpR X (binaryOp .RShift) (rI (fun _ j=>0<=j) fun i j=>.int (i / 2^j.toNat)):=opI fun i j _ _ _ _ _ hc q =>
 rshift_int hc (by rw[Int.fdiv_eq_ediv_of_nonneg i (Ma _)];exact q)
theorem J6:OpR X (binaryOp .BitAnd) (rI0 fun i j=>.int (Builtin.bitAnd i j)):=zCc fun _ _ _ _ _ _ _ q=>and_int q
theorem Q2:OpR X (binaryOp .BitOr) (rI0 fun i j=>.int (Builtin.bitOr i j)):=zCc fun _ _ _ _ _ _ _ q=>or_int q
theorem Bz:OpR X (binaryOp .BitXor) (rI0 fun i j=>.int (Builtin.bitXor i j)):=zCc fun _ _ _ _ _ _ _ q=>xor_int q
theorem unI{f:Value->Sem Value}{g:Int->Int}
  (rule:∀(i:Int) (t:Tok) (s:Shared) (Q:Value->Shared->Prop) (E:Value->Shared->Prop),Q (.int (g i) s.toks) { s with toks:=s.toks+1 }->wpAny (model X.prog X.w) X.A (f (.int i t)) Q E s) :
  UnR X f (rU fun i=>.int (g i)):=by
 intro pins s σ H x v Q I rx h;obtain⟨i,rfl,q⟩:=h;obtain⟨t,rfl⟩:=rx;exact rule i t s _ _ ⟨.int (g i),H,I.tok _,⟨_,rfl⟩,q⟩
theorem Pw:UnR X (unaryOp .USub) (rU fun i=>.int (-i)):=unI fun _ _ _ _ _ q=>neg_int q
theorem Py:UnR X (unaryOp .Invert) (rU fun i=>.int (Builtin.bitNot i)):=unI fun _ _ _ _ _ q=>invert_int q
end
def zFf:V->V->Bool
 | .non,.non=>true | .non,.int _=>true | .int _,.non=>true | .non,.bl _=>true | .bl _,.non=>true | .non,.str _=>true | .str _,.non=>true
 | .int _,.int _=>true | .bl _,.bl _=>true | .str _,.str _=>true | .byt _,.byt _=>true
 | .int _,.str _=>true | .str _,.int _=>true | .bl _,.str _=>true | .str _,.bl _=>true
 | _,_=>false
def rEq:R2:=fun x y H Q=>zFf x y=true/\Q (.bl (decide (x=y))) H
def rNe:R2:=fun x y H Q=>zFf x y=true/\Q (.bl (!decide (x=y))) H
theorem Qq{i j:Int}:decide (V.int i=V.int j) =(i == j):=by
 rw[CN];simp
theorem Vn{i j:Bool}:decide (V.bl i=V.bl j) =(i == j):=by
 rw[CN];simp
theorem Pp{i j:Str}:decide (V.str i=V.str j) =(i == j):=by
 rw[CN];simp
theorem Oy{i j:Array UInt8}:decide (V.byt i=V.byt j) =(i.toList == j.toList):=by
 rw[CN];cases i;cases j;simp
section
variable{X:Cx}{a b c:Expr}{ta tb tc:TE}{pos:Pos}
theorem E1{pins:List (Addr×Obj)}{σ:St}{H:Hp}{s:Shared}{Q:VK}{k k':Bool}(I:Inv X pins σ H s)(q:Q (.bl k) H)(e:k=k'):EP X pins σ Q (.bool k') s:=by
 subst e;exact⟨.bl k,H,I,rfl,q⟩
theorem K6:OpR X (compareOp .Eq) rEq:=by
 intro pins s σ H x y v u Q I rx ry h;obtain⟨hs,q⟩:=h;cases x with
 | non =>
  cases rx;cases y with
  | non=>cases ry;exact PySem.EqNone.eq_none_none (E1 I q (by simp))
  | bl j=>cases ry;exact PySem.EqNone.eq_none_bool (E1 I q (by simp))
  | int j=>obtain⟨t',rfl⟩:=ry;exact PySem.EqNone.eq_none_int (E1 I q (by simp))
  | str j=>obtain⟨t',rfl⟩:=ry;exact PySem.EqNone.eq_none_str (E1 I q (by simp))
  | _=>exact absurd (show false=true from hs) AY
 | bl i =>
  cases rx;cases y with
  | non=>cases ry;exact PySem.EqNone.eq_bool_none (E1 I q (by simp))
  | bl j=>cases ry;exact eq_bool (E1 I q Vn)
  | str j=>obtain⟨t',rfl⟩:=ry;exact PySem.EqMixed.eq_bool_str (E1 I q (by simp))
  | _=>exact absurd (show false=true from hs) AY
 | int i =>
  obtain⟨t,rfl⟩:=rx;cases y with
  | non=>cases ry;exact PySem.EqNone.eq_int_none (E1 I q (by simp))
  | int j=>obtain⟨t',rfl⟩:=ry;exact eq_int (E1 I q Qq)
  | str j=>obtain⟨t',rfl⟩:=ry;exact PySem.EqMixed.eq_int_str (E1 I q (by simp))
  | _=>exact absurd (show false=true from hs) AY
 | str i =>
  obtain⟨t,rfl⟩:=rx;cases y with
  | non=>cases ry;exact PySem.EqNone.eq_str_none (E1 I q (by simp))
  | bl j=>cases ry;exact PySem.EqMixed.eq_str_bool (E1 I q (by simp))
  | int j=>obtain⟨t',rfl⟩:=ry;exact PySem.EqMixed.eq_str_int (E1 I q (by simp))
  | str j=>obtain⟨t',rfl⟩:=ry;exact eq_str (E1 I q Pp)
  | _=>exact absurd (show false=true from hs) AY
 | byt i =>
  obtain⟨t,rfl⟩:=rx;cases y with
  | byt j=>obtain⟨t',rfl⟩:=ry;exact PySem.W.eq_bytes (E1 I q Oy)
  | _=>exact absurd (show false=true from hs) AY
 | _=>cases y<;>exact absurd (show false=true from hs) AY
theorem Yn:OpR X (compareOp .NotEq) rNe:=by
 intro pins s σ H x y v u Q I rx ry h;obtain⟨hs,q⟩:=h;cases x with
 | non =>
  cases rx;cases y with
  | non=>cases ry;exact PySem.EqNone.ne_none_none (E1 I q (by simp))
  | bl j=>cases ry;exact PySem.EqNone.ne_none_bool (E1 I q (by simp))
  | int j=>obtain⟨t',rfl⟩:=ry;exact PySem.EqNone.ne_none_int (E1 I q (by simp))
  | str j=>obtain⟨t',rfl⟩:=ry;exact PySem.EqNone.ne_none_str (E1 I q (by simp))
  | _=>exact absurd (show false=true from hs) AY
 | bl i =>
  cases rx;cases y with
  | non=>cases ry;exact PySem.EqNone.ne_bool_none (E1 I q (by simp))
  | bl j=>cases ry;exact ne_bool (E1 I q (congrArg not Vn))
  | str j=>obtain⟨t',rfl⟩:=ry;exact PySem.EqMixed.ne_bool_str (E1 I q (by simp))
  | _=>exact absurd (show false=true from hs) AY
 | int i =>
  obtain⟨t,rfl⟩:=rx;cases y with
  | non=>cases ry;exact PySem.EqNone.ne_int_none (E1 I q (by simp))
  | int j=>obtain⟨t',rfl⟩:=ry;exact ne_int (E1 I q (congrArg not Qq))
  | str j=>obtain⟨t',rfl⟩:=ry;exact PySem.EqMixed.ne_int_str (E1 I q (by simp))
  | _=>exact absurd (show false=true from hs) AY
 | str i =>
  obtain⟨t,rfl⟩:=rx;cases y with
  | non=>cases ry;exact PySem.EqNone.ne_str_none (E1 I q (by simp))
  | bl j=>cases ry;exact PySem.EqMixed.ne_str_bool (E1 I q (by simp))
  | int j=>obtain⟨t',rfl⟩:=ry;exact PySem.EqMixed.ne_str_int (E1 I q (by simp))
  | str j=>obtain⟨t',rfl⟩:=ry;exact ne_str (E1 I q (congrArg not Pp))
  | _=>exact absurd (show false=true from hs) AY
 | byt i =>
  obtain⟨t,rfl⟩:=rx;cases y with
  | byt j=>obtain⟨t',rfl⟩:=ry;exact PySem.W.ne_bytes (E1 I q (congrArg not Oy))
  | _=>exact absurd (show false=true from hs) AY
 | _=>cases y<;>exact absurd (show false=true from hs) AY
theorem zEf:OpR X (compareOp .Lt) (rI0 fun i j=>.bl (decide (i<j))):=zDd fun _ _ _ _ _ _ _ q=>lt_int q
theorem zCi:OpR X (compareOp .LtE) (rI0 fun i j=>.bl (decide (i<=j))):=zDd fun _ _ _ _ _ _ _ q=>le_int q
theorem zCu:OpR X (compareOp .Gt) (rI0 fun i j=>.bl (decide (j<i))):=zDd fun _ _ _ _ _ _ _ q=>gt_int q
theorem zDh:OpR X (compareOp .GtE) (rI0 fun i j=>.bl (decide (j<=i))):=zDd fun _ _ _ _ _ _ _ q=>ge_int q
theorem Qa:OpR X (compareOp .In) (fun x y H Q=>∃i j,x = .str i/\y = .str j/\Q (.bl (!(Builtin.Str.occurrences j i 0 j.length 1).isEmpty)) H):=by
 intro pins s σ H x y v u Q I rx ry h;obtain⟨i,j,rfl,rfl,q⟩:=h;obtain⟨t,rfl⟩:=rx;obtain⟨t',rfl⟩:=ry;exact in_str (E1 I q rfl)
theorem D6(b:Expr){op:CmpOp}(h:op≠ .In:=by decide)(h2:op≠ .NotIn:=by decide):behindInMarks op b=false:=by
 have e1:(op == CmpOp.In)=false:=by cases op<;>first | rfl | exact absurd rfl h
 have e2:(op == CmpOp.NotIn)=false:=by cases op<;>first | rfl | exact absurd rfl h2
 cases b<;>simp[behindInMarks,e1,e2]
theorem K4{op:CmpOp}{r:R2}(ho:OpR X (compareOp op) r)(ha:PE X a ta)(hb:PE X b tb)(hm:behindInMarks op b=false):PE X (.Compare a [op] [b] pos) (tOp r ta tb):=by
 intro pins s σ H Q I h;exact wpAny_Compare1 (zEl ha hb I h fun v u s2 x y H2 I2 rx ry q=>ho pins s2 σ H2 x y v u Q I2 rx ry q) hm
def zCj(t:TE):TT:=fun σ H Q=>t σ H fun x H'=>∃k,x = .bl k/\Q k H'
theorem C6{op:CmpOp}{r:R2}(ho:OpR X (compareOp op) r)(ha:PE X a ta)(hb:PE X b tb)(hm:behindInMarks op b=false):PT X (.Compare a [op] [b] pos) (zCj (tOp r ta tb)):=by
 intro pins s σ H Q I h;refine wpAny_isTrue_Compare1 (thn (ha pins s σ H _ I h) fun v s1 ⟨x,H1,I1,r1,q1⟩=>thn (hb pins s1 σ H1 _ I1 q1) fun u s2 ⟨y,H2,I2,r2,q2⟩ =>
  thn (ho pins s2 σ H2 x y v u _ I2 r1 r2 q2) fun c s3 ⟨z,H3,I3,r3,k,e,q3⟩=>?_) hm
 subst e;cases r3;exact DM ⟨H3,I3,q3⟩
def zBk(r r':R2)(ta tb tc:TE):TE:=fun σ H Q=>ta σ H fun x H1=>tb σ H1 fun y H2=>r x y H2 fun z H3=>∃k,z = .bl k /\
 (if k=true then tc σ H3 fun w' H4=>r' y w' H4 Q else Q (.bl false) H3)
theorem Vh{op op':CmpOp}{r r':R2}(ho:OpR X (compareOp op) r)(ho':OpR X (compareOp op') r')(ha:PE X a ta)(hb:PE X b tb)(hc:PE X c tc)
  (hm:lastMarks [op,op'] [b,c]=false:=by with_unfolding_all rfl):PT X (.Compare a [op,op'] [b,c] pos) (zCj (zBk r r' ta tb tc)):=by
 intro pins s σ H Q I h;refine isTrue_chain (thn (ha pins s σ H _ I h) fun v s1 ⟨x,H1,I1,r1,q1⟩=>test_link (thn (hb pins s1 σ H1 _ I1 q1) fun u s2 ⟨y,H2,I2,r2,q2⟩ =>
  thn (ho pins s2 σ H2 x y v u _ I2 r1 r2 q2) fun d s3 ⟨z,H3,I3,r3,k,e,q3⟩=>?_)) hm
 subst e;cases r3;refine DM ?_;cases k with
 | false =>
  obtain⟨k',e',q'⟩:=q3;cases e';exact ite_ff ⟨H3,I3,q'⟩
 | true =>
  refine ite_tt (test_last (thn (hc pins s3 σ H3 _ I3 q3) fun w' s4 ⟨z',H4,I4,r4,q4⟩=>thn (ho' pins s4 σ H4 y z' u w' _ I4 r2 r4 q4) fun d' s5 ⟨z2,H5,I5,r5,k2,e2,q5⟩=>?_));subst e2;cases r5;exact DM ⟨H5,I5,q5⟩
def zDr(K:PySem.W.Frag)(x:V)(H:Hp)(k:Bool):Prop :=
 match x with
 | .non=>k=false
 | .bl b=>k=b
 | .int i=>k =(i != 0)
 | .str y=>y.length<=sizeLine/\k =((y.length:Int) != 0)
 | .byt y=>y.size<=sizeLine/\k =((y.size:Int) != 0)
 | .ref p=>(∃xs,SqL K H p xs/\k=!xs.isEmpty)\/(∃xs,SqT K H p xs/\k=!xs.isEmpty)\/∃kvs,H p=some (.dK kvs)/\k=!kvs.isEmpty
 | _=>False
theorem Nb{Z:Type}{kvs:List (Z×V)}{vs:List (Z×Value)}(r:KV kvs vs):(!vs.isEmpty)=!kvs.isEmpty:=by
 cases r<;>rfl
theorem Bt{xs:List V}{its:List Value}(r:Vals xs its):(!its.toArray.isEmpty)=!xs.isEmpty:=by
 cases r<;>simp
theorem Cj:(sizeLine:Nat)<2^63:=by rw[sizeLine_eq];decide
theorem zAk:zGe X (fun x H Q=>∃k,zDr X.K x H k/\Q k H):=by
 intro pins s σ H x v Q I rx h;obtain⟨k,e,q⟩:=h;have hl:=Cj;have hs:sizeLine=16777216:=sizeLine_eq;cases x with
 | non =>
  cases rx;have e':k=false:=e;subst e';exact truthy_none ⟨H,I,q⟩
 | bl b =>
  cases rx;have e':k=b:=e;subst e';exact DM ⟨H,I,q⟩
 | int i =>
  obtain⟨t,rfl⟩:=rx;have e':k =(i != 0):=e;subst e';exact PySem.P.truthy_int ⟨H,I,q⟩
 | str y =>
  obtain⟨t,rfl⟩:=rx;obtain⟨hy,e'⟩:y.length<=sizeLine/\k =((y.length:Int) != 0):=e;subst e';exact PySem.P.truthy_str (by omega) ⟨H,I.tok _,q⟩
 | byt y =>
  obtain⟨t,rfl⟩:=rx;obtain⟨hy,e'⟩:y.size<=sizeLine/\k =((y.size:Int) != 0):=e;subst e';exact PySem.W.truthy_bytes (by omega) ⟨H,I.tok _,q⟩
 | ref p =>
  cases rx;have e':(∃xs,SqL X.K H p xs/\k=!xs.isEmpty)\/(∃xs,SqT X.K H p xs/\k=!xs.isEmpty)\/∃kvs,H p=some (.dK kvs)/\k=!kvs.isEmpty:=e;rcases e' with⟨xs,hx,e'⟩ | ⟨xs,hx,e'⟩ | ⟨kvs,hx,e'⟩
  .subst e';obtain⟨its,r,pl,hz⟩:=I.list hx;have hlen:=r.length;exact wpAny_truthy_list pl.isList (by simp only[BA];omega) ⟨H,I.tok _,by rw[Bt r];exact q⟩
  .subst e';obtain⟨its,r,pl,hz⟩:=I.tuple hx;have hlen:=r.length;exact truthy_tuple pl (by simp only[BA];omega) ⟨H,I.tok _,by rw[Bt r];exact q⟩
  .subst e';obtain⟨hz,hS,vs,r,m⟩:kvs.length<=sizeLine/\(p == sysModules)=false/\∃vs,KV kvs vs/\s.heap.DictOf (B9 X.prog X.w) p vs:=I.hok p _ hx;have hlen:kvs.length=vs.length:=Paired.length r;exact wpAny_truthy_dict hS m (by omega) ⟨H,I.tok _,by rw[Nb r];exact q⟩
 | _=>exact(show False from e).elim
theorem So(ha:PE X a ta)(he:∀whole,isTrue a X.env whole =(do let v <-whole;standAt a.pos;holding [v] (truthy v))) :
  PT X a (fun σ H Q=>ta σ H fun x H'=>∃k,zDr X.K x H' k/\Q k H'):=by
 intro pins s σ H Q I h;exact isTrue_plain (thn (ha pins s σ H _ I h) fun v s1 ⟨x,H1,I1,r1,q1⟩=>zAk pins s1 σ H1 x v Q I1 r1 q1) (he _)
theorem W8{x:V}{us:List Value}(r:Vals [x] us):∃u,us = [u]/\RelV x u:=by
 cases r with
 | cons r1 r2=>cases r2;exact⟨_,rfl,r1⟩
theorem zBr{x y:V}{us:List Value}(r:Vals [x,y] us):∃u w',us = [u,w']/\RelV x u/\RelV y w':=by
 cases r with
 | cons r1 r2 =>
  cases r2 with
  | cons r3 r4=>cases r4;exact⟨_,_,rfl,r1,r3⟩
theorem Kn:E8 X (.builtin "abs") (fun xs H Q=>∃i,xs = [.int i]/\Q (.int (if i<0 then -i else i)) H):=by
 intro pins s σ H xs us Q I r h;obtain⟨i,rfl,q⟩:=h;obtain⟨u,rfl,t,rfl⟩:=W8 r;exact call_abs_int fun u tk=>⟨.int (if i<0 then -i else i),H,I.tok _,⟨_,rfl⟩,q⟩
theorem Rw(hc:X.calm=true):E8 X (.builtin "max") (fun xs H Q=>∃i j,xs = [.int i,.int j]/\Q (.int (if j>i then j else i)) H):=by
 intro pins s σ H xs us Q I r h;obtain⟨i,j,rfl,q⟩:=h;obtain⟨u,w',rfl,⟨t,rfl⟩,⟨t',rfl⟩⟩:=zBr r;refine max_two_ints (I.ok.hd hc) fun h' tk k=>⟨_,H,I.kept k,?_,q⟩;by_cases hj:j>i
 .rw[AL hj,AL hj];exact⟨_,rfl⟩
 .rw[AJ hj,AJ hj];exact⟨_,rfl⟩
theorem Rr(hc:X.calm=true):E8 X (.builtin "min") (fun xs H Q=>∃i j,xs = [.int i,.int j]/\Q (.int (if j<i then j else i)) H):=by
 intro pins s σ H xs us Q I r h;obtain⟨i,j,rfl,q⟩:=h;obtain⟨u,w',rfl,⟨t,rfl⟩,⟨t',rfl⟩⟩:=zBr r;refine min_two_ints (I.ok.hd hc) fun h' tk k=>⟨_,H,I.kept k,?_,q⟩;by_cases hj:j<i
 .rw[AL hj,AL hj];exact⟨_,rfl⟩
 .rw[AJ hj,AJ hj];exact⟨_,rfl⟩
theorem Rh:E8 X (.type "int") (fun xs H Q=>(∃i,xs = [.int i]/\Q (.int i) H)\/∃k,xs = [.bl k]/\Q (.int (if k then 1 else 0)) H):=by
 intro pins s σ H xs us Q I r h;rcases h with⟨i,rfl,q⟩ | ⟨k,rfl,q⟩
 .obtain⟨u,rfl,t,rfl⟩:=W8 r;exact call_int_int ⟨.int i,H,I,⟨_,rfl⟩,q⟩
 .obtain⟨u,rfl,r1⟩:=W8 r;cases r1;exact call_int_bool ⟨.int (if k then 1 else 0),H,I.tok _,⟨_,rfl⟩,q⟩
end
structure ObjM(h:Heap)(x dx C:Addr)(mA:Str->Option Value):Prop where
 obj:h.get? x=some (PySem.W.instObj C dx)
 ns:h.Ns1 dx mA
 ne:dx≠x
theorem Qj{h:Heap}{dx:Addr}{mA:Str->Option Value}(n:h.Ns1 dx mA):∃od,h.get? dx=some od/\∀name,PySem.W.lookIn name od=some (mA name):=by
 obtain⟨o,es,ep,ho,hd,hk,_,hm⟩:=n;refine⟨o,ho,fun name=>?_⟩;have e:=hm name;unfold nsFind findBy at e;rw[<-Array.find?_toList]at e;unfold PySem.W.lookIn;rw[hd];dsimp only;split
 .rename_i y q;rw[q]at e;exact congrArg some e
 .rename_i q;rw[q]at e;have a:es.toList.any (·.refKey)=false:=by
   rw[List.any_eq_false];intro y hy;obtain⟨z,t,hkey⟩:=hk y (Array.mem_toList_iff.mp hy);simp[DictEntry.refKey,hkey]
  have a':¬es.toList.any (·.refKey)=true:=by rw[a];exact AY
  rw[AJ a'];exact congrArg some e
theorem ObjM.look{h:Heap}{x dx C:Addr}{mA:Str->Option Value}(I:ObjM h x dx C mA):∃od,PySem.W.InstAt h x (PySem.W.instObj C dx) C (some od)/\∀name,PySem.W.lookIn name od=some (mA name) :=
 let⟨od,ho,hl⟩:=Qj I.ns
 ⟨od,⟨I.obj,rfl,rfl,ho⟩,hl⟩
section
variable{prog:Program}{w:World}{A:Around}{E:Value->Shared->Prop}{s:Shared}{K:PySem.W.Frag}{x dx C f:Addr}{mA:Str->Option Value}{name:Str}{v:Value}
theorem Yy{expr:Bool}{Q:Value->Shared->Prop}(X:K.In s.heap)(I:ObjM s.heap x dx C mA)(hg:PySem.W.plainGet K C name=true)(hh:PySem.W.hasDictIn K C=true)
  (ha:PySem.W.findIn K (.ref C) name=some none) (hv:mA name=some v) (hv':PySem.W.handedIn v=true) (h:Q v { s with toks:=s.toks+1 }) :
  wpAny (model prog w) A (getAttr (.ref x) name expr) Q E s:=by
 obtain⟨od,J,hl⟩:=I.look;exact PySem.W.get_value X J (PySem.W.plainGet_of hg).1 (PySem.W.findObj_own hh ha rfl (by rw[hl,hv])) hv' h
theorem Su{pl:Sem Bool}{Q:Value×List Value->Shared->Prop}(X:K.In s.heap)(I:ObjM s.heap x dx C mA)(hg:PySem.W.plainGet K C name=true)
  (hf:PySem.W.findIn K (.ref C) name=some (some (.ref f))) (ht:PySem.W.isFn K (.ref f)=true) (hv:mA name=none) (h:Q (.ref f,[.ref x]) s) :
  wpAny (model prog w) A (getMethod (.ref x) name pl) Q E s:=by
 obtain⟨od,J,hl⟩:=I.look;exact PySem.W.method_fn X J (PySem.W.plainGet_of hg).1 (PySem.W.plainGet_of hg).2 hf (beq_iff_eq.mp ht) (by show(PySem.W.lookIn name od).map (·.isSome)=some false;rw[hl,hv];rfl) h
theorem Yv{ns:List Str}{Q:Unit->Shared->Prop}(X:K.In s.heap)(I:ObjM s.heap x dx C mA)
  (hs:PySem.W.findIn K (.ref C) "__setattr__" = some (some (.builtin "object.__setattr__"))) (hp:PySem.W.plainOver K C=true) (ht:PySem.W.takerIn K C name=some none) (hh:PySem.W.hasDictIn K C=true)
  (hw:PySem.Within mA ns) (hsz:ns.length<=sizeLine)
  (h:∀h',ObjM h' x dx C (fun y=>if y=name then some v else mA y)->Heap.SameBut dx s.heap h'->Q () { s with heap:=h',toks:=s.toks+2 }) :
  wpAny (model prog w) A (setAttr (.ref x) name v) Q E s:=by
 obtain⟨od,J,hl⟩:=I.look;refine PySem.W.set_plain X J hs (PySem.W.osa_open (s:={ s with toks:=s.toks+1 }) (r:=none) X J hp ht fun b=>?_);obtain⟨cd,hc,hd'⟩:=PySem.W.any_some hh;have hx:s.heap.get? x=some ⟨.ref C,some dx,.plain,#[]⟩:=I.obj;refine AA (AF (AA (AA (wpAny_loadPart hx (AA (PySem.W.Looks.here (s:={ s with toks:=s.toks+1 }) (PySem.W.looks_clsIn X hc) ?_))))));rw[hd'];refine AF (a:=some dx) (AA (AF (AA ?_)));refine wpAny_nsSet1 (s:={ s with toks:=s.toks+1 }) I.ns fun h' hn2 hs2=>?_;obtain⟨oD,esD,epD,hoD,hdD,hcD⟩:=hn2.count (PySem.Within.cons name v hw);refine AA (wpAny_lookBehind hoD (by rw[hdD];exact pastItsLine_dict (Nat.le_trans hcD (by rw[BM];omega))) ?_);exact AF (h _ ⟨(hs2.2 _ (Ne.symm I.ne)).trans I.obj,hn2,I.ne⟩ hs2)
theorem Tl{R:Result->Shared->Prop}{vs:List Value}{kw:List (Str×Value)}(X:K.In s.heap)(hm:PySem.W.makesIn K C=true)
  (hi:PySem.W.findIn K (.ref C) "__init__" = some (some (.ref f))) (hf:PySem.W.typeIn K (.ref f)=some (.type "function"))
  (h:codeAny (model prog w) (A.under (.builtin "type.__call__" ⟨.ref C::vs,kw⟩)) (.call (.ref f) ⟨.ref (s.heap.objs.size+1)::vs,kw⟩) (PySem.W.InitBack (s.heap.objs.size+1) R)
   { s with heap:=(s.heap.push PySem.W.emptyDict).push (PySem.W.instObj C s.heap.objs.size) }) :
  codeAny (model prog w) A (.call (.ref C) ⟨vs,kw⟩) R s:=by
 obtain⟨hh,g,d,t,os⟩:=s;exact PySem.W.make_core (PySem.W.makes_of X hm) (PySem.W.looks_findIn X hi) (fun self=>PySem.W.bind_fn X self hf) (.inl rfl) h
end
def K9(f:Str)(v:V):List (Str×V)->List (Str×V)
 | []=>[(f,v)]
 | (g,x)::r=>if g=f then(g,v)::r else(g,x)::K9 f v r
theorem Ax(f g:Str)(v:V):∀fs:List (Str×V),(K9 f v fs).lookup g=if g=f then some v else fs.lookup g
 | []=>by
  show List.lookup g [(f,v)]=_;by_cases h:g=f
  .have hb:(g == f)=true:=beq_iff_eq.mpr h;simp only[List.lookup,hb,AL h]
  .have hb:(g == f)=false:=beq_eq_false_iff_ne.mpr h;simp only[List.lookup,hb,AJ h]
 | (k,x)::r=>by
  have ih:=Ax f g v r;rw[show K9 f v ((k,x)::r) =(if k=f then(k,v)::r else(k,x)::K9 f v r)from rfl];by_cases hk:k=f
  .rw[AL hk];by_cases h:g=k
   .have hb:(g == k)=true:=beq_iff_eq.mpr h;simp only[List.lookup,hb,AL (h.trans hk)]
   .have hb:(g == k)=false:=beq_eq_false_iff_ne.mpr h;simp only[List.lookup,hb,AJ (fun e:g=f=>h (e.trans hk.symm))]
  .rw[AJ hk];by_cases h:g=k
   .have hb:(g == k)=true:=beq_iff_eq.mpr h;simp only[List.lookup,hb,AJ (fun e:g=f=>hk (h.symm.trans e))]
   .have hb:(g == k)=false:=beq_eq_false_iff_ne.mpr h;simp only[List.lookup,hb];exact ih
theorem Ae(f:Str)(v:V):∀fs:List (Str×V),f∈(K9 f v fs).map (·.1)/\∀g,g∈fs.map (·.1)->g∈(K9 f v fs).map (·.1)
 | []=>⟨by simp[K9],fun g h=>by simp at h⟩
 | (k,x)::r=>by
  obtain⟨i1,i2⟩:=Ae f v r;rw[show K9 f v ((k,x)::r) =(if k=f then(k,v)::r else(k,x)::K9 f v r)from rfl];by_cases hk:k=f
  .rw[AL hk];subst hk;exact⟨by simp,fun g h=>by simpa using h⟩
  .rw[AJ hk];refine⟨?_,fun g h=>?_⟩
   .rw[AX];exact AO _ i1
   .rw[AX]at h⊢;rcases BD.mp h with e | e
    .exact BD.mpr (.inl e)
    .exact AO _ (i2 g e)
theorem z9(f:Str)(v:V):∀fs:List (Str×V),(K9 f v fs).length<=fs.length+1
 | []=>by simp[K9]
 | (k,x)::r=>by
  have ih:=z9 f v r;rw[show K9 f v ((k,x)::r) =(if k=f then(k,v)::r else(k,x)::K9 f v r)from rfl];by_cases hk:k=f
  .rw[AL hk,BM,BM];omega
  .rw[AJ hk,BM,BM];omega
theorem RelO.some_of{v:V}{o:Option Value}(r:RelO (some v) o):∃u,o=some u/\RelV v u:=by
 cases o with
 | none=>exact(show False from r).elim
 | some u=>exact⟨u,rfl,r⟩
theorem RelO.none_of{o:Option Value}(r:RelO none o):o=none:=by
 cases o with
 | none=>rfl
 | some u=>exact(show False from r).elim
theorem Qr{v:V}{u:Value}(r:RelV v u):PySem.W.handedIn u=true:=by
 cases v with
 | non=>cases(show u=Value.none from r);rfl
 | bl b=>cases(show u=Value.bool b from r);rfl
 | int i=>obtain⟨t,e⟩:=(show ∃t,u=Value.int i t from r);cases e;rfl
 | str x=>obtain⟨t,e⟩:=(show ∃t,u=Value.str x t from r);cases e;rfl
 | byt b=>obtain⟨t,e⟩:=(show ∃t,u=Value.bytes b t from r);cases e;rfl
 | flt b=>obtain⟨t,e⟩:=(show ∃t,u=Value.float b t from r);cases e;rfl
 | ref a=>cases(show u=Value.ref a from r);rfl
 | ty n=>cases(show u=Value.type n from r);rfl
section
variable{P:Program}{w:World}{H H':Hp}{h h':Heap}{a C dx:Addr}{fs fs':List (Str×V)}
theorem Cz(hok:HOk P w H h)(e:H a=some (.ins C dx fs)):∃mA,ObjM h a dx C mA/\(∀f,RelO (fs.lookup f) (mA f))/\PySem.Within mA (fs.map (·.1))/\fs.length<=1000/\H dx=some (.own a):=by
 obtain⟨d,z,ne,ob,mA,n,r,q⟩:=(show ObjOk P w H h a (.ins C dx fs)from hok a _ e);exact⟨mA,⟨ob,n,ne⟩,r,q,z,d⟩
end
structure Cls(K:PySem.W.Frag)(C:Addr):Prop where
 pg:PySem.W.plainGet K C Str.empty=true
 hd:PySem.W.hasDictIn K C=true
 po:PySem.W.plainOver K C=true
 sa:PySem.W.findIn K (.ref C) "__setattr__" = some (some (.builtin "object.__setattr__"))
theorem Cls.get{K:PySem.W.Frag}{C:Addr}(c:Cls K C)(f:Str):PySem.W.plainGet K C f=true:=c.pg
def NoAttr(K:PySem.W.Frag)(C:Addr)(f:Str):Prop:=PySem.W.findIn K (.ref C) f=some none
theorem NoAttr.taker{K:PySem.W.Frag}{C:Addr}{f:Str}(n:NoAttr K C f):PySem.W.takerIn K C f=some none:=by
 unfold PySem.W.takerIn;rw[show PySem.W.findIn K (.ref C) f=some none from n];rfl
structure Meth(K:PySem.W.Frag)(C:Addr)(m:Str)(f:Addr):Prop where
 at_:PySem.W.findIn K (.ref C) m=some (some (.ref f))
 fn:PySem.W.isFn K (.ref f)=true
 kp:PySem.W.keepIn K (.ref f)=true
section
variable{X:Cx}{pins:List (Addr×Obj)}{σ:St}{H:Hp}{s:Shared}{a C dx:Addr}{fs:List (Str×V)}{f:Str}{v:V}{A:Around}{E:Value->Shared->Prop}
theorem My{b:Bool}{Q:Value->Shared->Prop}(I:Inv X pins σ H s)(e:H a=some (.ins C dx fs))(c:Cls X.K C)(n:NoAttr X.K C f)(l:fs.lookup f=some v)
  (h:∀u s',Inv X pins σ H s'->RelV v u->Q u s'):wpAny (model X.prog X.w) A (getAttr (.ref a) f b) Q E s:=by
 obtain⟨mA,O,r,_,_,_⟩:=Cz I.hok e;obtain⟨u,hu,ru⟩:=RelO.some_of (v:=v) (o:=mA f) (by rw[<-l];exact r f);exact Yy I.kIn O (c.get f) c.hd n hu (Qr ru) (h u _ (I.tok _) ru)
theorem Cb{m:Str}{g:Addr}{pl:Sem Bool}{Q:Value×List Value->Shared->Prop}(I:Inv X pins σ H s)(e:H a=some (.ins C dx fs))(c:Cls X.K C)(k:Meth X.K C m g)(l:fs.lookup m=none)
  (h:Q (.ref g,[.ref a]) s):wpAny (model X.prog X.w) A (getMethod (.ref a) m pl) Q E s:=by
 obtain⟨mA,O,r,_,_,_⟩:=Cz I.hok e;have hn:mA m=none:=RelO.none_of (by rw[<-l];exact r m);exact Su I.kIn O (c.get m) k.at_ k.fn hn h
theorem Nj{y:V}{u:Value}{Q:Unit->Shared->Prop}(I:Inv X pins σ H s)(e:H a=some (.ins C dx fs))(c:Cls X.K C)(n:NoAttr X.K C f)(hl:fs.length<1000)(ry:RelV y u)
  (h:∀s',Inv X pins σ (upd H a (.ins C dx (K9 f y fs))) s'->Q () s'):wpAny (model X.prog X.w) A (setAttr (.ref a) f u) Q E s:=by
 obtain⟨mA,O,r,wi,_,ho⟩:=Cz I.hok e;have hz:(fs.map (·.1)).length<=sizeLine:=by rw[AB,sizeLine_eq];omega
 refine Yv I.kIn O c.sa c.po n.taker c.hd wi hz fun h' O' sb=>h _ ?_;have hd:∃o,h'.get? dx=some o:=let⟨o,_,_,e',_⟩:=O'.ns;⟨o,e'⟩;refine I.write (x:=a) (e:=dx) (by rw[e];exact True.intro) (.inr ho) (fun b q hb z=>(sb.2 b hb).trans z) hd ?_;refine⟨by rw[B3 O.ne];exact ho,?_,O.ne,O'.obj,_,O'.ns,fun g=>?_,fun g hg=>?_⟩
 .have:=z9 f y fs;omega
 .show RelO ((K9 f y fs).lookup g) (if g=f then some u else mA g);rw[Ax];by_cases q:g=f
  .rw[AL q,AL q];exact ry
  .rw[AJ q,AJ q];exact r g
 .by_cases q:g=f
  .rw[q];exact(Ae f y fs).1
  .refine(Ae f y fs).2 g (wi g fun z=>hg ?_);show(if g=f then some u else mA g)=none;rw[AJ q];exact z
theorem Inv.made(I:Inv X pins σ H s):Inv X pins σ (upd (upd H s.heap.objs.size (.own (s.heap.objs.size+1))) (s.heap.objs.size+1) (.ins C s.heap.objs.size []))
  { s with heap:=(s.heap.push PySem.W.emptyDict).push (PySem.W.instObj C s.heap.objs.size) }:=by
 have e1:(s.heap.push PySem.W.emptyDict).get? s.heap.objs.size=some PySem.W.emptyDict:=AS s.heap rfl;have e2:((s.heap.push PySem.W.emptyDict).push (PySem.W.instObj C s.heap.objs.size)).get? (s.heap.objs.size+1)=some (PySem.W.instObj C s.heap.objs.size):=by
  have:=AS (s.heap.push PySem.W.emptyDict) (o:=PySem.W.instObj C s.heap.objs.size) rfl
  rwa [EC]at this
 have e3:(s.heap.push PySem.W.emptyDict).Ns s.heap.objs.size (fun _=>none):=⟨PySem.W.emptyDict,#[],_,e1,rfl,(fun e he=>absurd he (by simp)),fun _=>rfl⟩;have I1:=I.laid (a:=s.heap.objs.size) (o:=.own (s.heap.objs.size+1)) (h':=s.heap.push PySem.W.emptyDict) (t':=s.toks) (fun b u q=>AD _ q) (Nat.le_refl _) ⟨_,e1⟩;refine I1.laid (a:=s.heap.objs.size+1) (o:=.ins C s.heap.objs.size []) (t':=s.toks) (fun b u q=>AD _ q) (Nat.le_of_eq (EC _ _)) ?_;have ne:s.heap.objs.size≠s.heap.objs.size+1:=BB (GG _);refine⟨by rw[B3 ne,upd_same],CH _,ne,e2,fun _=>none,(Heap.Ns1.of_empty e3).at fun o q=>AD _ q,fun _=>True.intro,fun y hy=>absurd rfl hy⟩
theorem Xd{prog:Program}{w:World}{env:Env}{e:Expr}{f:Str}{pos:Pos}{s:Shared}{Q:Value->Shared->Prop}(hb:attributeBase e f env (eval e env)=eval e env)
  (h:wpAny (model prog w) A (eval e env) (fun o s₁=>wpAny (model prog w) A (getAttr o f true) Q E s₁) E s):wpAny (model prog w) A (eval (.Attribute e f pos) env) Q E s :=
 Attribute_any_ h (by rw[arm_eval_Attribute,hb])
end
def zFh(K:PySem.W.Frag)(ta:TE)(f:Str):TE:=fun σ H Q=>ta σ H fun x H1=>∃a C dx fs v,x = .ref a/\H1 a=some (.ins C dx fs)/\Cls K C/\NoAttr K C f/\fs.lookup f=some v/\Q v H1
def zEx(K:PySem.W.Frag)(ta tv:TE)(f:Str):TS:=fun D σ H=>tv σ H fun y H1=>ta σ H1 fun x H2=>∃a C dx fs,x = .ref a/\H2 a=some (.ins C dx fs)/\Cls K C/\NoAttr K C f/\fs.length<1000 /\
 D.nx σ (upd H2 a (.ins C dx (K9 f y fs)))
section
variable{X:Cx}{o e value:Expr}{f:Str}{pos pos' tpos:Pos}{ta tv:TE}
theorem Zx(he:PE X e ta)(hb:attributeBase e f X.env (eval e X.env)=eval e X.env):PE X (.Attribute e f pos) (zFh X.K ta f):=by
 intro pins s σ H Q I h;refine Xd hb (thn (he pins s σ H _ I h) fun u s1 ⟨x,H1,I1,rx,a,C,dx,fs,v,ex,ea,c,n,l,q⟩=>?_);subst ex;obtain rfl:u=Value.ref a:=rx;exact My I1 ea c n l fun u' s2 I2 ru=>⟨v,H1,I2,ru,q⟩
theorem zCf(ha:PE X o ta)(hv:PE X value tv)(hs:swapsWith value (some (.Attribute o f pos')) pos.line X.env=pure false):PS X (.Assign [.Attribute o f pos'] value pos) (zEx X.K ta tv f):=by
 intro pins s σ H D I h;refine plainObj_wpAny_Assign_Attribute (thn (hv pins s σ H _ I h) fun u s1 ⟨y,H1,I1,ry,q⟩=>thn (ha pins s1 σ H1 _ I1 q) fun ov s2 ⟨x,H2,I2,rx,a,C,dx,fs,ex,ea,c,n,l,q2⟩=>?_) hs;subst ex;obtain rfl:ov=Value.ref a:=rx;exact Nj I2 ea c n l ry fun s3 I3=>⟨σ,_,I3,q2⟩
end
section
variable{X:Cx}{pins:List (Addr×Obj)}{σ:St}{H:Hp}{s:Shared}{A:Around}{E:Value->Shared->Prop}{Q:Value->Shared->Prop}{c:Value}{b:Bool}
inductive TyOf(K:PySem.W.Frag)(H:Hp):V->Value->Prop where
 | non:TyOf K H .non (.type "NoneType")
 | bl (x:Bool):TyOf K H (.bl x) (.type "bool")
 | int (i:Int):TyOf K H (.int i) (.type "int")
 | str (x:Str):TyOf K H (.str x) (.type "str")
 | flt (x:UInt64):TyOf K H (.flt x) (.type "float")
 | lst {a:Addr} {xs:List V} (e:H a=some (.lst xs)):TyOf K H (.ref a) (.type "list")
 | frz {a:Addr} {o:Obj} {xs:List V} (e:H a=some (.frz o (.lst xs))):TyOf K H (.ref a) (.type "list")
 | tup {a:Addr} {xs:List V} (e:H a=some (.tup xs)):TyOf K H (.ref a) (.type "tuple")
 | dK {a:Addr} {kvs:List (Key×V)} (e:H a=some (.dK kvs)):TyOf K H (.ref a) (.type "dict")
 | dT {a:Addr} {kvs:List (List Key×V)} (e:H a=some (.dT kvs)):TyOf K H (.ref a) (.type "dict")
 | ins {a C dx:Addr} {fs:List (Str×V)} (e:H a=some (.ins C dx fs)) (cl:Cls K C) (ha:PySem.W.findIn K (.ref C) "__class__" = some (some (.builtin "object.__class__")))
   (hn:PySem.W.specialIn K (.builtin "object.__class__") "__get__" = some (some (.builtin "getset_descriptor.__get__"))) (htk:PySem.W.takesIn K (.builtin "object.__class__")=some true)
   (hm:PySem.W.mroIn K C (.type "object")=some true):TyOf K H (.ref a) (.ref C)
theorem Sc{x:V}{u t:Value}(I:Inv X pins σ H s)(rx:RelV x u)(ty:TyOf X.K H x t)(e:PySem.W.kitOne X.K t c=some b)(h:∀tk,Q (.bool b) { s with toks:=tk }) :
  wpAny (model X.prog X.w) A (call (.builtin "isinstance") [u,c]) Q E s:=by
 cases ty with
 | non=>cases(show u=Value.none from rx);exact PySem.W.kia_one PySem.W.kitx_none I.kIn True.intro e (fun z=>nomatch z) h
 | bl y=>cases(show u=Value.bool y from rx);exact PySem.W.kia_one PySem.W.kitx_bool I.kIn True.intro e (fun z=>nomatch z) h
 | int i=>obtain⟨t,q⟩:=(show ∃t,u=Value.int i t from rx);cases q;exact PySem.W.kia_one PySem.W.kitx_int I.kIn True.intro e (fun z=>nomatch z) h
 | str y=>obtain⟨t,q⟩:=(show ∃t,u=Value.str y t from rx);cases q;exact PySem.W.kia_one PySem.W.kitx_str I.kIn True.intro e (fun z=>nomatch z) h
 | flt y=>obtain⟨t,q⟩:=(show ∃t,u=Value.float y t from rx);cases q;exact PySem.W.kia_one PySem.W.kitx_float I.kIn True.intro e (fun z=>nomatch z) h
 | @lst a xs ea =>
  cases(show u=Value.ref a from rx);obtain⟨_,_,n,_,h1⟩:=(show ObjOk X.prog X.w H s.heap a (.lst xs)from I.hok a _ ea);exact PySem.W.kia_one PySem.W.kitx_list I.kIn ⟨_,h1,rfl⟩ e (fun z=>nomatch z) h
 | @frz a ob xs ea =>
  cases(show u=Value.ref a from rx);obtain⟨_,_,_,n,_,h1⟩:=(show ObjOk X.prog X.w H s.heap a (.frz ob (.lst xs))from I.hok a _ ea);exact PySem.W.kia_one PySem.W.kitx_list I.kIn ⟨_,h1,rfl⟩ e (fun z=>nomatch z) h
 | @tup a xs ea =>
  cases(show u=Value.ref a from rx);obtain⟨_,_,_,p⟩:=(show ObjOk X.prog X.w H s.heap a (.tup xs)from I.hok a _ ea);obtain⟨o,h1,h2,_⟩:=p;exact PySem.W.kia_one PySem.W.kitx_tuple I.kIn ⟨o,h1,h2⟩ e (fun z=>nomatch z) h
 | @dK a kvs ea =>
  cases(show u=Value.ref a from rx);obtain⟨_,_,vs,_,p⟩:=(show ObjOk X.prog X.w H s.heap a (.dK kvs)from I.hok a _ ea);obtain⟨o,es,ep,h1,h2,_⟩:=p;exact PySem.W.kia_one PySem.W.kitx_dict I.kIn ⟨o,h1,h2.1⟩ e (fun z=>nomatch z) h
 | @dT a kvs ea =>
  cases(show u=Value.ref a from rx);obtain⟨_,_,xs,_,o,es,ep,h1,h2,_⟩:=(show ObjOk X.prog X.w H s.heap a (.dT kvs)from I.hok a _ ea);exact PySem.W.kia_one PySem.W.kitx_dict I.kIn ⟨o,h1,h2.1⟩ e (fun z=>nomatch z) h
 | @ins a C dx fs ea cl ha hn htk hm =>
  cases(show u=Value.ref a from rx);obtain⟨mA,O,_⟩:=Cz I.hok ea;obtain⟨od,J,_⟩:=O.look;exact PySem.W.kia_one (PySem.W.kitx_own (cl.get _) cl.hd ha hn htk hm) I.kIn J e (fun z=>nomatch z) h
end
structure Room(k:Nat)(A:Around):Prop where
 hd:A.handled=none
 dp:A.depth+3*k+5<recursionLimit
 un:A.units+16*k+200<cLine
theorem Room.mono{j k:Nat}{A:Around}(r:Room k A)(h:j<=k):Room j A:=⟨r.hd,by have:=r.dp;omega,by have:=r.un;omega⟩
theorem Room.deeper{k:Nat}{A:Around}(r:Room (k+1) A)(env:Env):Room k (A.deeper env) :=
 ⟨r.hd,by have:=r.dp;show A.depth+1+3*k+5<_;omega,by have:=r.un;show A.units+3+16*k+200<_;omega⟩
theorem Nl{A:Around}{C:Addr}{us:List Value}{kw:List (Str×Value)}:(A.under (.builtin "type.__call__" ⟨.ref C::us,kw⟩)).depth=A.depth+1:=by
 first | rfl | simp[Around.under,Code.weight,Code.isCreation,Code.isGuard,Code.isCaller,Code.frames,Code.isFrame,guardIds]
theorem Mc{A:Around}{C:Addr}{us:List Value}{kw:List (Str×Value)}:(A.under (.builtin "type.__call__" ⟨.ref C::us,kw⟩)).units=A.units+1:=by
 first | rfl | simp[Around.under,Code.cUnits,Code.frames,Code.isFrame]
theorem Room.make{k:Nat}{A:Around}(r:Room (k+1) A)(C:Addr)(us:List Value)(kw:List (Str×Value)):Room k (A.under (.builtin "type.__call__" ⟨.ref C::us,kw⟩)) :=
 ⟨r.hd,by have:=r.dp;rw[Nl];omega,by have:=r.un;rw[Mc];omega⟩
theorem Room.depth{k:Nat}{A:Around}(r:Room k A):A.depth<recursionLimit:=by have:=r.dp;omega
theorem Room.units{k:Nat}{A:Around}(r:Room k A):A.units+64<cLine:=by have:=r.un;omega
def Sh:TA:=fun _ H Q=>Q [] H
def As(ta:TE)(tr:TA):TA:=fun σ H Q=>ta σ H fun x H1=>tr σ H1 fun xs H2=>Q (x::xs) H2
section
variable{X:Cx}{e:Expr}{es:List Expr}{te:TE}{t:TA}{pos:Pos}
theorem B0:PA X [] Sh:=fun _ _ _ _ H Q I h=>Calls.spliced_nil ⟨[],H,I,.nil,h⟩
theorem A8(ha:PE X e te)(hr:PA X es t)(hs:starEach (e::es) X.env =(false,eval e X.env)::starEach es X.env:=by rfl):PA X (e::es) (As te t):=by
 intro pos pins s σ H Q I h;rw[hs];show wpAny _ _ (spliced ((false,eval e X.env)::backTo pos (starEach es X.env))) _ _ s;refine Calls.spliced_cons (thn (ha pins s σ H _ I h) fun u s1 ⟨x,H1,I1,r1,q1⟩=>?_);exact thn (hr pos pins s1 σ H1 _ I1 q1) fun us s2 ⟨xs,H2,I2,r2,q2⟩=>⟨x::xs,H2,I2,.cons r1 r2,q2⟩
def zDc(t:TA):TE:=fun σ H Q=>t σ H fun xs H1=>xs.length<=sizeLine/\∀p,H1 p=none->Q (.ref p) (upd H1 p (.tup xs))
def zFj(t:TA):TE:=fun σ H Q=>t σ H fun xs H1=>xs.length<=sizeLine/\∀p,H1 p=none->Q (.ref p) (upd H1 p (.lst xs))
theorem O1{x1}(h:PA X es t):PE X (.Tuple es x1 pos) (zDc t):=by
 intro pins s σ H Q I hq;refine wpAny_Tuple_spliced (thn (h pos pins s σ H _ I hq) fun us s1 ⟨xs,H1,I1,r,z,q⟩=>⟨by rw[<-r.length];exact z,?_⟩);have hf:H1 s1.heap.objs.size=none:=I1.hok.fresh (Nat.le_refl _);refine⟨.ref s1.heap.objs.size,upd H1 s1.heap.objs.size (.tup xs),I1.laid (t':=s1.toks) (fun b u e=>AD _ e) (Nat.le_refl _) ?_,rfl,q _ hf⟩;exact⟨z,us,r,⟨_,AS _ rfl,rfl,_,rfl⟩⟩
theorem J5(h:PA X es t):PE X (.List es pos) (zFj t):=by
 intro pins s σ H Q I hq;refine wpAny_List_spliced (thn (h pos pins s σ H _ I hq) fun us s1 ⟨xs,H1,I1,r,z,q⟩=>⟨by rw[<-r.length];exact z,?_⟩);have hf:H1 s1.heap.objs.size=none:=I1.hok.fresh (Nat.le_refl _);refine⟨.ref s1.heap.objs.size,upd H1 s1.heap.objs.size (.lst xs),I1.laid (t':=s1.toks) (fun b u e=>AD _ e) (Nat.le_refl _) ?_,rfl,q _ hf⟩;exact⟨z,us,0,r,AS _ rfl⟩
end
abbrev Sp:=List V->Hp->VK->XK->Prop
abbrev CXT:=List Env->Hp->Shared->XK->Value->Shared->Prop
structure Env0(P:Program)(w:World)(K:PySem.W.Frag)(mg:Str->Option Value)(base:Heap)(A:Around)(outer:List Env)(s:Shared)(H:Hp):Prop where
 frames:A.frames=some outer
 mod:Mod K mg base
 bs:∀b o,base.get? b=some o->s.heap.get? b=some o/\H b=none
 bsz:base.objs.size<=s.heap.objs.size
 funs:s.heap.FunFrames base outer
 frf:∀b∈frs outer,H b=none
 hok:HOk P w H s.heap
 bare:AllBare s.gens
def CE(outer:List Env)(P:Program)(w:World)(H:Hp)(s:Shared)(Q:VK)(u:Value)(s':Shared):Prop :=
 ∃v H',s'.os=s.os/\AllBare s'.gens/\Un (frs outer) [] H H' s.heap s'.heap/\HOk P w H' s'.heap/\RelV v u/\Q v H'
def CR(CX:CXT)(outer:List Env)(P:Program)(w:World)(H:Hp)(s:Shared)(Q:VK)(E:XK)(r:Result)(s':Shared):Prop :=
 match r with
 | .ok (.ret u)=>CE outer P w H s Q u s'
 | .ok _=>False
 | .error e=>CX outer H s E e s'
structure FnOk(P:Program)(w:World)(K:PySem.W.Frag)(mg:Str->Option Value)(base:Heap)(CX:CXT)(k:Nat)(f:Addr)(fd:FuncData)(ps:List Str)(sp:Sp):Prop where
 len:∀vs H Q E,sp vs H Q E->vs.length=ps.length
 run:∀(A:Around) (outer:List Env) (s:Shared) (H:Hp) (args:Args) (us:List Value) (vs:List V) (Q:VK) (E:XK),Room k A->Env0 P w K mg base A outer s H->BindsTo s fd args (ps.zip us)->Vals vs us->sp vs H Q E ->
  codeAny (model P w) A (.call (.ref f) args) (CR CX outer P w H s Q E) s
theorem FnOk.mono{P:Program}{w:World}{K:PySem.W.Frag}{mg:Str->Option Value}{base:Heap}{CX:CXT}{j k:Nat}{f:Addr}{fd:FuncData}{ps:List Str}{sp:Sp}(F:FnOk P w K mg base CX j f fd ps sp)(h:j<=k) :
  FnOk P w K mg base CX k f fd ps sp:=⟨F.len,fun A outer s H args us vs Q E hr=>F.run A outer s H args us vs Q E (hr.mono h)⟩
theorem FnOk.imp{P:Program}{w:World}{K:PySem.W.Frag}{mg:Str->Option Value}{base:Heap}{CX:CXT}{k:Nat}{f:Addr}{fd:FuncData}{ps:List Str}{sp sp':Sp}(F:FnOk P w K mg base CX k f fd ps sp)
  (h:∀vs H Q E,sp' vs H Q E->sp vs H Q E):FnOk P w K mg base CX k f fd ps sp' :=
 ⟨fun vs H Q E q=>F.len vs H Q E (h _ _ _ _ q),fun A outer s H args us vs Q E hr he hb hv hs=>F.run A outer s H args us vs Q E hr he hb hv (h _ _ _ _ hs)⟩
theorem Env0.make{P:Program}{w:World}{K:PySem.W.Frag}{mg:Str->Option Value}{base:Heap}{A:Around}{outer:List Env}{s:Shared}{H:Hp}(e:Env0 P w K mg base A outer s H)(C:Addr)(us:List Value)(kw:List (Str×Value)) :
  Env0 P w K mg base (A.under (.builtin "type.__call__" ⟨.ref C::us,kw⟩)) outer s H:=⟨by first | exact e.frames | (simpa [Around.under,Code.envs,Code.isFrame,pushEnvs] using e.frames),e.mod,e.bs,e.bsz,e.funs,e.frf,e.hok,e.bare⟩
section
variable{X:Cx}{pins:List (Addr×Obj)}{σ:St}{H:Hp}{s s':Shared}
theorem Inv.env0(I:Inv X pins σ H s):Env0 X.prog X.w X.K X.mg X.base X.A X.stack s H :=
 ⟨I.ok.frames,I.ok.mod,I.bs,Nat.le_trans I.ok.bsz I.sz,I.stack,I.stkFree,I.hok,I.bare⟩
theorem Inv.after{Q:VK}{u:Value}(I:Inv X pins σ H s)(h:CE X.stack X.prog X.w H s Q u s'):EP X pins σ Q u s':=by
 obtain⟨v,H',os,bare,un,hok,r,q⟩:=h;obtain⟨hh,g,d,t,os'⟩:=s';obtain rfl:os'=s.os:=os;exact⟨v,H',I.call (h':=hh) (g':=g) (d':=d) (t':=t) (ch:=[]) un hok bare (fun b z=>absurd z (by simp)),r,q⟩
end
def Sa(sp:Sp)(dvs:List V)(E:XK)(t:TA):TE:=fun σ H Q=>t σ H fun vs H1=>sp (vs++dvs) H1 Q E
def zAf(C:Addr)(m:Str)(sp:Sp)(dvs:List V)(E:XK)(ta:TE)(t:TA):TE:=fun σ H Q=>ta σ H fun x H1=>∃a dx fs,x = .ref a/\H1 a=some (.ins C dx fs)/\fs.lookup m=none /\
 t σ H1 fun vs H2=>sp (x ::(vs++dvs)) H2 Q E
def zEt(C:Addr)(sp:Sp)(dvs:List V)(E:XK)(t:TA):TE:=fun σ H Q=>t σ H fun vs H1=>∀x dx,H1 x=none->H1 dx=none->dx≠x ->
 sp (.ref x ::(vs++dvs)) (upd (upd H1 dx (.own x)) x (.ins C dx [])) (fun v H2=>v = .non/\Q (.ref x) H2) E
def Binds(K:PySem.W.Frag)(fd:FuncData)(ps:List Str)(ds:List Value):Prop :=
 ∀(s:Shared) (us:List Value),K.In s.heap->(us++ds).length=ps.length->BindsTo s fd ⟨us,[]⟩ (ps.zip (us++ds))
theorem Binds.all{K:PySem.W.Frag}{fd:FuncData}{ps:List Str}(h:∀us:List Value,us.length=ps.length->bindArgs fd ⟨us,[]⟩=pure (ps.zip us)):Binds K fd ps []:=fun s us _ hl=>by
 rw[CJ]at hl⊢;exact .of_eq (h us hl)
def i6(CX:CXT)(X:Cx)(E:XK):Prop:=∀(pins:List (Addr×Obj)) (σ:St) (H:Hp) (s:Shared) (e:Value) (s':Shared),Inv X pins σ H s->CX X.stack H s E e s'->X.xe e s'
section
variable{X:Cx}{CX:CXT}{k:Nat}{f C:Addr}{fd:FuncData}{ps:List Str}{sp:Sp}{dvs:List V}{ds:List Value}{E:XK}{x m:Str}{p pos apos:Pos}{e o:Expr}{es:List Expr}{ta:TE}{t:TA}
theorem La{pins:List (Addr×Obj)}{σ:St}{H:Hp}{s:Shared}{Q:VK}{us:List Value}{vs:List V}(F:FnOk X.prog X.w X.K X.mg X.base CX k f fd ps sp)(hr:Room k X.A)(hb:Binds X.K fd ps ds)(hd:Vals dvs ds)(hx:i6 CX X E)
  (I:Inv X pins σ H s) (r:Vals vs us) (h:sp (vs++dvs) H Q E):wpAny (model X.prog X.w) X.A (call (.ref f) us) (EP X pins σ Q) X.xe s:=by
 have r2:Vals (vs++dvs) (us++ds):=r.append hd;have hl:(us++ds).length=ps.length:=by rw[<-r2.length];exact F.len _ _ _ _ h
 refine wpAny_call (codeAny_mono (F.run X.A X.stack s H ⟨us,[]⟩ (us++ds) (vs++dvs) Q E hr I.env0 (hb s us I.kIn hl) r2 h) fun r s' hq=>?_);cases r with
 | error e=>exact hx pins σ H s e s' I hq
 | ok fl =>
  cases fl with
  | ret u=>exact I.after hq
  | next=>exact False.elim hq
  | brk=>exact False.elim hq
  | cont=>exact False.elim hq
theorem Qt(F:FnOk X.prog X.w X.K X.mg X.base CX k f fd ps sp)(hr:Room k X.A)(hg:Gl X x)(hm:X.mg x=some (.ref f))(hk:PySem.W.keepIn X.K (.ref f)=true)(hb:Binds X.K fd ps ds)(hd:Vals dvs ds)(hx:i6 CX X E)
  (ha:PA X (e::es) t) (hdb:(x ==("__debug__":Str))=false:=by decide) (he:starEach (e::es) X.env =(false,eval e X.env)::starEach es X.env:=by rfl) (hpl:(backTo pos (starEach es X.env)).any (·.1)=false:=by rfl) :
  PE X (.Call (.Name x p) (e::es) [] pos) (Sa sp dvs E t):=by
 intro pins s σ H Q I h;refine EE (l8 I hg hm ?_ hdb);refine PySem.W.callWith_K (h₀:=X.base) I.ok.mod.kin hk (thn (ha pos pins s σ H _ I h) fun us s1 ⟨vs,H1,I1,r,q⟩=>⟨I1.kIn,?_⟩) he hpl;exact La F hr hb hd hx I1 r q
theorem E9{pl:Sem Bool}(he:PE X o ta)(c:Cls X.K C)(hm:Meth X.K C m f)(F:FnOk X.prog X.w X.K X.mg X.base CX k f fd ps sp)(hr:Room k X.A)(hb:Binds X.K fd ps ds)(hd:Vals dvs ds)(hx:i6 CX X E)(ha:PA X (e::es) t)
  (hst:starEach (e::es) X.env =(false,eval e X.env)::starEach es X.env:=by rfl) (hpl:(backTo pos (starEach es X.env)).any (·.1)=false:=by rfl)
  (ht:eval (.Call (.Attribute o m apos) (e::es) [] pos) X.env =(do
   let ov <-eval o X.env
   standAt apos.atName
   let(f,first) <-holding [ov] (getMethod ov m pl)
   callWith pos f first (backTo pos (starEach (e::es) X.env)) (backToKw pos (keywordEach [] X.env))):=by rfl) :
  PE X (.Call (.Attribute o m apos) (e::es) [] pos) (zAf C m sp dvs E ta t):=by
 intro pins s σ H Q I h;refine PySem.W.methodCall_KW (pl:=pl) (thn (he pins s σ H _ I h) fun u s1 ⟨x,H1,I1,rx,a,dx,fs,ex,ea,l,q⟩=>?_) ht;subst ex;obtain rfl:u=Value.ref a:=rx;refine Cb I1 ea c hm l ?_;refine PySem.W.callWith_K (first:=[.ref a]) (h₀:=X.base) I.ok.mod.kin hm.kp (thn (ha pos pins s1 σ H1 _ I1 q) fun us s2 ⟨vs,H2,I2,r,q2⟩=>⟨I2.kIn,?_⟩) hst hpl;exact La (us:=.ref a::us) (vs:=.ref a::vs) F hr hb hd hx I2 (.cons rfl r) q2
theorem Ld{pl:Sem Bool}(he:PE X o ta)(c:Cls X.K C)(hm:Meth X.K C m f)(F:FnOk X.prog X.w X.K X.mg X.base CX k f fd ps sp)(hr:Room k X.A)(hb:Binds X.K fd ps ds)(hd:Vals dvs ds)(hx:i6 CX X E)
  (ht:eval (.Call (.Attribute o m apos) [] [] pos) X.env =(do
   let ov <-eval o X.env
   standAt apos.atName
   let(f,first) <-holding [ov] (getMethod ov m pl)
   callWith pos f first (backTo pos (starEach [] X.env)) (backToKw pos (keywordEach [] X.env))):=by rfl) :
  PE X (.Call (.Attribute o m apos) [] [] pos) (zAf C m sp dvs E ta Sh):=by
 intro pins s σ H Q I h;refine PySem.W.methodCall_KW (pl:=pl) (thn (he pins s σ H _ I h) fun u s1 ⟨x,H1,I1,rx,a,dx,fs,ex,ea,l,q⟩=>?_) ht;subst ex;obtain rfl:u=Value.ref a:=rx;refine Cb I1 ea c hm l ?_;exact PySem.W.callWith_K0 (first:=[.ref a]) I1.kIn hm.kp (La (us:=[.ref a]) (vs:=[.ref a]) F hr hb hd hx I1 (.cons rfl .nil) q)
structure Mk(K:PySem.W.Frag)(C f:Addr):Prop where
 makes:PySem.W.makesIn K C=true
 init:PySem.W.findIn K (.ref C) "__init__" = some (some (.ref f))
 fn:PySem.W.isFn K (.ref f)=true
 kp:PySem.W.keepIn K (.ref C)=true
theorem Ud{pins:List (Addr×Obj)}{σ:St}{H:Hp}{s:Shared}{Q:VK}{us:List Value}{vs:List V}(M:Mk X.K C f)(F:FnOk X.prog X.w X.K X.mg X.base CX k f fd ps sp)(hr:Room (k+1) X.A)(hb:Binds X.K fd ps ds)(hd:Vals dvs ds)
  (hx:i6 CX X E) (I:Inv X pins σ H s) (r:Vals vs us)
  (h:∀x dx,H x=none->H dx=none->dx≠x->sp (.ref x ::(vs++dvs)) (upd (upd H dx (.own x)) x (.ins C dx [])) (fun v H2=>v = .non/\Q (.ref x) H2) E) :
  wpAny (model X.prog X.w) X.A (call (.ref C) us) (EP X pins σ Q) X.xe s:=by
 have hq:=h (s.heap.objs.size+1) s.heap.objs.size (I.hok.fresh (DC _)) (I.hok.fresh (Nat.le_refl _)) (BB (GG _));have I2:=Inv.made (C:=C) I;have r2:Vals (V.ref (s.heap.objs.size+1) ::(vs++dvs)) (Value.ref (s.heap.objs.size+1) ::(us++ds)):=.cons rfl (r.append hd);have hl:(Value.ref (s.heap.objs.size+1)::us++ds).length=ps.length:=by
  have e:=r2.length;rw[F.len _ _ _ _ hq]at e;exact e.symm
 refine wpAny_call (Tl (f:=f) I.kIn M.makes M.init (beq_iff_eq.mp M.fn) (codeAny_mono (F.run _ X.stack _ _ ⟨Value.ref (s.heap.objs.size+1)::us,[]⟩ (Value.ref (s.heap.objs.size+1) ::(us++ds)) _ _ E (hr.make C us [])
  (I2.env0.make C us []) (hb _ (Value.ref (s.heap.objs.size+1)::us) I2.kIn hl) r2 hq) fun r s' hq'=>?_))
 cases r with
 | error e=>exact hx pins σ _ _ e s' I2 hq'
 | ok fl =>
  cases fl with
  | ret u =>
   obtain⟨v,H',I3,rv,ev,q3⟩:=I2.after hq';subst ev;exact⟨rv,⟨V.ref (s.heap.objs.size+1),H',I3,rfl,q3⟩⟩
  | next=>exact False.elim hq'
  | brk=>exact False.elim hq'
  | cont=>exact False.elim hq'
theorem Em(M:Mk X.K C f)(F:FnOk X.prog X.w X.K X.mg X.base CX k f fd ps sp)(hr:Room (k+1) X.A)(hg:Gl X x)(hm:X.mg x=some (.ref C))(hb:Binds X.K fd ps ds)(hd:Vals dvs ds)(hx:i6 CX X E)
  (ha:PA X (e::es) t) (hdb:(x ==("__debug__":Str))=false:=by decide) (he:starEach (e::es) X.env =(false,eval e X.env)::starEach es X.env:=by rfl) (hpl:(backTo pos (starEach es X.env)).any (·.1)=false:=by rfl) :
  PE X (.Call (.Name x p) (e::es) [] pos) (zEt C sp dvs E t):=by
 intro pins s σ H Q I h;refine EE (l8 I hg hm ?_ hdb);refine PySem.W.callWith_K (h₀:=X.base) I.ok.mod.kin M.kp (thn (ha pos pins s σ H _ I h) fun us s1 ⟨vs,H1,I1,r,q⟩=>⟨I1.kIn,?_⟩) he hpl;exact Ud M F hr hb hd hx I1 r q
end
structure FnScope(N P:List Str)(sc:Scope):Prop where
 kind:sc.kind = .function
 co:sc.isCoroutine=false
 gen:sc.isGenerator=false
 nd:N.Nodup
 pre:N.take P.length=P
 par:∀x∈P,sc.names.lookup x=some .local\/sc.names.lookup x=some .cell
 nofree:∀y∈sc.names,y.2≠ .free
theorem Fi{kindOf:Str->Option NameKind}{x:Str}:∀{binds:List (Str×Value)} {m:Str->Option Value},(∀v,(x,v)∉binds)->bindL kindOf binds m x=m x
 | [],_,_=>rfl
 | (n,v)::r,m,h=>by
  unfold bindL;rw[Fi fun w hw=>h w (AO _ hw)];split
  .have:x≠n:=by rintro rfl;exact h v A_
   simp[this]
  .rfl
theorem Fz{kindOf:Str->Option NameKind}{x:Str}:∀{binds:List (Str×Value)} {m:Str->Option Value},(∀v,(x,v)∉binds)->bindC kindOf binds m x=m x
 | [],_,_=>rfl
 | (n,v)::r,m,h=>by
  unfold bindC;rw[Fz fun w hw=>h w (AO _ hw)];split
  .rfl
  .have:x≠n:=by rintro rfl;exact h v A_
   simp[this]
theorem Fj{kindOf:Str->Option NameKind}{x:Str}{v:Value}:∀{P:List Str} {vs:List Value} {i:Nat} {m:Str->Option Value},P.Nodup->P[i]?=some x->vs[i]?=some v->kindOf x=some .local ->
  bindL kindOf (P.zip vs) m x=some v
 | [],_,_,_,_,h,_,_=>by simp at h
 | _::_,[],_,_,_,_,h,_=>by simp at h
 | p::P,w::vs,0,m,nd,h1,h2,hk=>by
  simp at h1 h2;subst h1;subst h2;show bindL kindOf ((p,w)::P.zip vs) m p=_;unfold bindL;rw[Fi fun v hv=>(D_.mp nd).1 (List.of_mem_zip hv).1,AL hk];simp
 | p::P,w::vs,i+1,m,nd,h1,h2,hk=>by
  show bindL kindOf ((p,w)::P.zip vs) m x=_;unfold bindL;exact Fj (i:=i) (D_.mp nd).2 (by simpa using h1) (by simpa using h2) hk
theorem Gi{kindOf:Str->Option NameKind}{x:Str}{v:Value}:∀{P:List Str} {vs:List Value} {i:Nat} {m:Str->Option Value},P.Nodup->P[i]?=some x->vs[i]?=some v->kindOf x≠some .local ->
  bindC kindOf (P.zip vs) m x=some v
 | [],_,_,_,_,h,_,_=>by simp at h
 | _::_,[],_,_,_,_,h,_=>by simp at h
 | p::P,w::vs,0,m,nd,h1,h2,hk=>by
  simp at h1 h2;subst h1;subst h2;show bindC kindOf ((p,w)::P.zip vs) m p=_;unfold bindC;rw[Fz fun v hv=>(D_.mp nd).1 (List.of_mem_zip hv).1,AJ hk];simp
 | p::P,w::vs,i+1,m,nd,h1,h2,hk=>by
  show bindC kindOf ((p,w)::P.zip vs) m x=_;unfold bindC;exact Gi (i:=i) (D_.mp nd).2 (by simpa using h1) (by simpa using h2) hk
def Ej(N:List Str)(vs:List V):St:=vs.map some++List.replicate (N.length-vs.length) none
def Wr(CX:CXT)(P:Program)(w:World)(K:PySem.W.Frag)(mg:Str->Option Value)(base:Heap)(N:List Str)(qual:Str)(scope:Scope)(f:Addr)(cd:Value)(A:Around)(outer:List Env)(s:Shared)(H:Hp)(E:XK):Cx where
 prog:=P
 w:=w
 K:=K
 mg:=mg
 base:=base
 A:=A.deeper (envOfC qual scope s.heap.objs.size f cd)
 N:=N
 s₀:=s
 H₀:=H
 env:=envOfC qual scope s.heap.objs.size f cd
 outer:=outer
 stack:=envOfC qual scope s.heap.objs.size f cd::outer
 ex:=[]
 calm:=true
 fn:=fun _=>true
 pn:=[]
 xe:=fun e s'=>wpAny (model P w) (A.deeper (envOfC qual scope s.heap.objs.size f cd)) (leaving (envOfC qual scope s.heap.objs.size f cd) e) (fun _ s''=>CX outer H s E e s'') (fun e' s''=>CX outer H s E e' s'') s'
theorem Jt{sc:Scope}{n:Nat}{x:Str}(h:sc.names.lookup x=some .cell):∃c,(cellsFrom n sc.names []).lookup x=some c:=by
 have q:=PySem.W.cellsFrom_some sc.names n [] (.inl h);exact EX.mp q
theorem Pd{CX:CXT}{P:Program}{w:World}{K:PySem.W.Frag}{mg:Str->Option Value}{base:Heap}{N ps:List Str}{qual:Str}{scope:Scope}{f:Addr}{cd:Value}{A:Around}{outer:List Env}{s s1:Shared}{H:Hp}{E:XK}{us:List Value}{vs:List V}
  (S:FnScope N ps scope) (hd:A.handled=none) (e0:Env0 P w K mg base A outer s H) (hl:vs.length=ps.length) (r:Vals vs us)
  (x:InCallC s s.heap.objs.size (bindL (envOfC qual scope s.heap.objs.size f cd).kindOf (ps.zip us) fun _=>none) (cellsFrom (s.heap.objs.size+1) scope.names []) (bindC (envOfC qual scope s.heap.objs.size f cd).kindOf (ps.zip us) fun _=>none) s1) :
  Inv (Wr CX P w K mg base N qual scope f cd A outer s H E) [] (Ej N vs) H s1:=by
 have hpl:ps.length<=N.length:=by have:=congrArg List.length S.pre;rw[AW]at this;omega
 obtain⟨h1,tk,rfl,hk⟩:=x.done;have noA:∀b:Addr,b∉(Wr CX P w K mg base N qual scope f cd A outer s H E).ex:=fun b z=>absurd (show b∈([]:List Addr)from z) (by simp);refine⟨⟨e0.mod,S.kind,rfl,rfl,Nat.le_refl _,fun y z c h1 h2=>?_,fun y hy=>?_,fun y c _ h=>?_,fun _=>hd,Around.frames_deeper e0.frames,.inr ⟨rfl,rfl⟩,fun b z=>absurd z (noA b),e0.bs,e0.bsz,fun b _ _=>noA b,fun b z=>absurd z (noA b),e0.funs,e0.frf⟩,
  rfl,e0.bare,Un.kept hk,⟨_,x.toInCall.ns,fun i y v h1 h2 h3=>?_⟩,fun y c h=>⟨_,x.cell y c h⟩,e0.hok.fresh (Nat.le_refl _),fun y c h=>?_,fun p hp=>absurd (show p∈([]:List (Addr×Obj))from hp) (by simp),e0.hok.kept hk,?_⟩
 .exact name_of_addr x.apart (PySem.mem_of_lookup h1) (PySem.mem_of_lookup h2)
 .have hy:scope.names.lookup y=some .cell\/scope.names.lookup y=some .free:=hy;rcases hy with hy | hy
  .exact Jt hy
  .exact absurd rfl (S.nofree _ (PySem.mem_of_lookup hy))
 .exact EV (x.above y c (PySem.mem_of_lookup h))
 .have hi:i<vs.length:=by
   unfold Ej at h2;by_cases hi:i<vs.length
   .exact hi
   .rw[FO (by simpa using hi)]at h2;rw[List.getElem?_replicate]at h2;split at h2<;>cases h2
  have ha:vs[i]?=some v:=by
   unfold Ej at h2;rw[FT (by simpa using hi),AH]at h2;cases e:vs[i]? with
   | none=>rw[e]at h2;cases h2
   | some a=>rw[e]at h2;cases h2;rfl
  obtain⟨u,hu,rv⟩:=r.get ha;have hp:ps[i]?=some y:=by
   rw[<-S.pre,DQ (by omega)];exact h1
  have ndP:ps.Nodup:=by rw[<-S.pre];exact S.nd.sublist (FD _ _)
  refine⟨u,rv,?_⟩;rcases S.par y (BN hp)with k | k
  .exact .inl ⟨k,Fj ndP hp hu k⟩
  .obtain⟨c,e⟩:=Jt (n:=s.heap.objs.size+1) k;refine .inr ⟨.inl k,c,e,?_⟩;have q:=x.cell y c e;rw[Gi ndP hp hu (by show scope.names.lookup y≠_;rw[k];decide)]at q;exact q
 .exact e0.hok.fresh (EV (x.above y c (PySem.mem_of_lookup h)))
 .unfold Ej;show _=N.length;rw[AZ,AB,List.length_replicate];omega
theorem zCb{CX:CXT}{P:Program}{w:World}{K:PySem.W.Frag}{mg:Str->Option Value}{base:Heap}{k:Nat}{f:Addr}{name qual:Str}{params:Arguments}{body:List Stmt}{scope:Scope}{dV kV doc pm cdv ct oc:Value}{an od:Option Addr}
  {osl:Array (Option Value)} {N ps:List Str} {sp:Sp} (lk:K.lookup f=some ⟨oc,od,.func (PySem.W.fnOf name qual params body scope dV kV doc pm an cdv ct),osl⟩) (hcd:PySem.W.codeIn K cdv qual=true) (S:FnScope N ps scope)
  (len:∀vs H Q E,sp vs H Q E->vs.length=ps.length)
  (hbody:∀(A:Around) (outer:List Env) (s:Shared) (H:Hp) (vs:List V) (Q:VK) (E:XK),Room k (A.deeper (envOfC qual scope s.heap.objs.size f cdv))->sp vs H Q E ->
   ∃t,PSs (Wr CX P w K mg base N qual scope f cdv A outer s H E) body t/\t { nx:=fun _ H'=>Q .non H',rt:=Q } (Ej N vs) H) :
  FnOk P w K mg base CX (k+1) f (PySem.W.fnOf name qual params body scope dV kV doc pm an cdv ct) ps sp:=by
 refine⟨len,fun A outer s H args us vs Q E hr e0 hb r hsp=>?_⟩;have hl:=len _ _ _ _ hsp;have KX:K.In s.heap:=e0.mod.kin.keeps fun b o e=>(e0.bs b o e).1;have lim:s.heap.NoLimit:=e0.mod.nolimit.keeps fun b o e=>(e0.bs b o e).1;have hkind:∀y∈ps.zip us,scope.names.lookup y.1=some .local\/(scope.names.lookup y.1=some .cell/\((cellsFrom (s.heap.objs.size+1) scope.names []).lookup y.1).isSome=true):=fun⟨n,v⟩ hy=>by
  rcases S.par n (List.of_mem_zip hy).1 with q | q
  .exact .inl q
  .exact .inr ⟨q,PySem.W.cellsFrom_some _ _ _ (.inl q)⟩
 refine codeAny_call_function hr.depth (KX _ _ lk) rfl S.co S.gen rfl (PySem.W.codeRec_of KX hcd) (hb _ _ _ _ ?_);refine wpAny_newFunctionEnv_cells S.kind hkind fun env he s1 x=>?_;subst he;refine⟨lim.keeps x.toInCall.keep,codeAny_func ?_⟩;obtain⟨t,ht,hq⟩:=hbody A outer s H vs Q E (hr.deeper _) hsp;have I:Inv (Wr CX P w K mg base N qual scope f cdv A outer s H E) [] (Ej N vs) H s1:=Pd S hr.hd e0 hl r x;refine BS (ht [] s1 (Ej N vs) H _ I hq) (fun fl s' hs=>?_) fun e s' hs=>hs;have fin:∀{σ':St} {H':Hp} {v:V} {u:Value},Inv (Wr CX P w K mg base N qual scope f cdv A outer s H E) [] σ' H' s'->RelV v u->Q v H'->CE outer P w H s Q u s' :=
  fun{σ' H' v u} J rv q=>⟨v,H',J.os,J.bare,J.base,J.hok,rv,q⟩
 cases fl with
 | ret u =>
  obtain⟨v,σ',H',J,rv,q⟩:=hs;exact fin J rv q
 | next =>
  obtain⟨σ',H',J,q⟩:=hs;exact fin (v:=V.non) (u:=Value.none) J rfl q
 | brk =>
  obtain⟨_,_,_,q⟩:=hs;exact False.elim q
 | cont =>
  obtain⟨_,_,_,q⟩:=hs;exact False.elim q
section
variable{X:Cx}{x:Str}{p pos:Pos}{e:Expr}{es:List Expr}{t:TA}{id T:String}{r:List V->Hp->VK->Prop}
def tCB(r:List V->Hp->VK->Prop)(t:TA):TE:=fun σ H Q=>t σ H fun vs H1=>r vs H1 Q
theorem To(hc:E8 X (.builtin id) r)(hg:Gl X x)(hm:X.mg x=none)(hv:bootBuiltins x=some (.builtin id))(ha:PA X (e::es) t)(hn:x≠ "__name__":=by decide)(hdb:(x ==("__debug__":Str))=false:=by decide)
  (he:starEach (e::es) X.env =(false,eval e X.env)::starEach es X.env:=by rfl) (hpl:(backTo pos (starEach es X.env)).any (·.1)=false:=by rfl):PE X (.Call (.Name x p) (e::es) [] pos) (tCB r t):=by
 intro pins s σ H Q I h;refine EE (Ar I hg hm hv ?_ hn hdb);exact PyProof.Rows.callWith_builtin1 (thn (ha pos pins s σ H _ I h) fun us s1 ⟨vs,H1,I1,r1,q1⟩=>hc pins s1 σ H1 vs us Q I1 r1 q1) he hpl
theorem Rl(hc:E8 X (.type T) r)(hg:Gl X x)(hm:X.mg x=none)(hv:bootBuiltins x=some (.type T))(ha:PA X (e::es) t)(hn:x≠ "__name__":=by decide)(hdb:(x ==("__debug__":Str))=false:=by decide)
  (he:starEach (e::es) X.env =(false,eval e X.env)::starEach es X.env:=by rfl) (hpl:(backTo pos (starEach es X.env)).any (·.1)=false:=by rfl):PE X (.Call (.Name x p) (e::es) [] pos) (tCB r t):=by
 intro pins s σ H Q I h;refine EE (Ar I hg hm hv ?_ hn hdb);exact PyProof.Rows.callWith_type1 (thn (ha pos pins s σ H _ I h) fun us s1 ⟨vs,H1,I1,r1,q1⟩=>hc pins s1 σ H1 vs us Q I1 r1 q1) he hpl
theorem Ce(hc:E8 X (.type T) r)(hg:Gl X x)(hm:X.mg x=none)(hv:bootBuiltins x=some (.type T))(hn:x≠ "__name__":=by decide)(hdb:(x ==("__debug__":Str))=false:=by decide) :
  PE X (.Call (.Name x p) [] [] pos) (tCB r Sh):=by
 intro pins s σ H Q I h;refine EE (Ar I hg hm hv ?_ hn hdb);exact PyProof.Rows.callWith_type0 (hc pins s σ H [] [] Q I .nil h)
end
end L2
namespace HT
open PySem PyProof.Rows
section
variable{prog:Program}{w:World}{A:Around}{E:Value->Shared->Prop}{s:Shared}
def sIx(n d:Nat):Option Int->Nat
 | none=>d
 | some v=>if v<0 then(v +(n:Int)).toNat else min v.toNat n
theorem sIx_none(n d:Nat):sIx n d none=d:=rfl
theorem sIx_nat(n d k:Nat):sIx n d (some (k:Int))=min k n:=by
 show(if(k:Int)<0 then((k:Int) +(n:Int)).toNat else min (k:Int).toNat n)=min k n;rw[AJ (by omega),CQ]
end
end HT
namespace L2
open PySem PySem.Spec PyProof.Rows
abbrev TO:=St->Hp->(Option Int->Hp->Prop)->Prop
def PO(X:Cx)(e:Option Expr)(t:TO):Prop :=
 ∀(pins:List (Addr×Obj)) (s:Shared) (σ:St) (H:Hp) (Q:Option Int->Hp->Prop),Inv X pins σ H s->t σ H Q ->
  wpAny (model X.prog X.w) X.A (evalPart e X.env) (fun u s'=>∃o H',Inv X pins σ H' s'/\IsPart u o/\Q o H') X.xe s
def Yd:TO:=fun _ H Q=>Q none H
def zEn(t:TE):TO:=fun σ H Q=>t σ H fun x H1=>∃i,x = .int i/\Q (some i) H1
theorem Nm{ns:List Int}:∀{us:List Value},Vals (ns.map V.int) us->IntsAre us ns:=by
 induction ns with
 | nil=>intro us r;rw[HB]at r;cases r;exact .nil
 | cons n ns ih =>
  intro us r;rw[AX]at r;cases r with
  | cons r1 r2 =>
   obtain⟨t,e⟩:=r1;subst e;exact .cons n t (ih r2)
section
variable{X:Cx}{e:Expr}{te:TE}{lo hi:Option Expr}{tl th:TO}{pos p2:Pos}
theorem Ro:PO X none Yd:=by
 intro pins s σ H Q I h;rw[evalPart_none];exact AF ⟨none,H,I,.none,h⟩
theorem Dw(h:PE X e te):PO X (some e) (zEn te):=by
 intro pins s σ H Q I hw;rw[evalPart_some];refine thn (h pins s σ H _ I hw) fun u s1 ⟨x,H1,I1,r1,q1⟩=>?_;obtain⟨i,rfl,q⟩:=q1;obtain⟨t,rfl⟩:=r1;exact⟨some i,H1,I1,.int i t,q⟩
def SlR(X:Cx)(r:V->Option Int->Option Int->Hp->VK->Prop):Prop :=
 ∀(pins:List (Addr×Obj)) (s:Shared) (σ:St) (H:Hp) (x:V) (v vl vu:Value) (lo hi:Option Int) (sl:Addr) (Q:VK),Inv X pins σ H s->RelV x v->s.heap.IsSliceOf sl vl vu .none->IsPart vl lo->IsPart vu hi->r x lo hi H Q ->
  ∃T id,typeLookup (.type T) "__getitem__" = pure (some (.builtin id))/\s.TypeIs v T/\wpAny (model X.prog X.w) X.A (getItem v (.ref sl)) (EP X pins σ Q) X.xe s
def tSl(r:V->Option Int->Option Int->Hp->VK->Prop)(te:TE)(tl th:TO):TE:=fun σ H Q=>te σ H fun x H1=>tl σ H1 fun l H2=>th σ H2 fun u H3=>r x l u H3 Q
theorem Kh{r:V->Option Int->Option Int->Hp->VK->Prop}(hr:SlR X r)(he:PE X e te)(hl:PO X lo tl)(hu:PO X hi th):PE X (.Subscript e (.Slice lo hi none p2) pos) (tSl r te tl th):=by
 intro pins s σ H Q I h;refine Subscript_ (thn (he pins s σ H _ I h) fun v s1 ⟨x,H1,I1,r1,q1⟩=>?_);refine wpAny_Slice (thn (hl pins s1 σ H1 _ I1 q1) fun vl s2 ⟨l,H2,I2,pl,q2⟩=>thn (hu pins s2 σ H2 _ I2 q2) fun vu s3 ⟨u,H3,I3,pu,q3⟩=>?_);rw[evalPart_none];refine AF ?_;have I4:Inv X pins σ H3 { s3 with heap:=s3.heap.push { cls:=.type "slice",data:=.fields #[vl,vu,.none] } }:=I3.kept (t':=s3.toks) fun b ob q=>AD _ q;obtain⟨T,id,hT,ht,hg⟩:=hr pins { s3 with heap:=s3.heap.push { cls:=.type "slice",data:=.fields #[vl,vu,.none] } } σ H3 x v vl vu l u s3.heap.objs.size Q I4 r1 (Heap.IsSliceOf.new ..) pl pu q3;show wpAny (model X.prog X.w) X.A (subscriptTail e (.Slice lo hi none p2) v (.ref s3.heap.objs.size)) (EP X pins σ Q) X.xe { s3 with heap:=s3.heap.push { cls:=.type "slice",data:=.fields #[vl,vu,.none] } };exact tail_any (ops:=[.ref s3.heap.objs.size,v]) ht hT hg (by with_unfolding_all rfl)
def Nq(xs:List V)(lo hi:Option Int):List V:=(xs.drop (HT.sIx xs.length 0 lo)).take (HT.sIx xs.length xs.length hi-HT.sIx xs.length 0 lo)
theorem Ja(xs:List V)(lo hi:Option Int):(Nq xs lo hi).length<=xs.length:=by
 unfold Nq;rw[AW,DJ];omega
end
def ixN(n:Nat)(i:Int):Option Nat:=if 0<=i then(if i<n then some i.toNat else none)else if -(n:Int)<=i then some (i+n).toNat else none
def atI{α:Type}(xs:List α)(i:Int):Option α:=(ixN xs.length i).bind fun j=>xs[j]?
theorem Sk{n:Nat}{i:Int}{j:Nat}(h:ixN n i=some j):seqIndex? i n=some j/\j<n/\-(n:Int)<=i/\i<n:=by
 unfold ixN at h;by_cases h0:0<=i
 .rw[AL h0]at h;by_cases h1:i<n
  .rw[AL h1]at h;have e:i.toNat=j:=BI h;exact⟨by rw[seqIndex_of h0 h1,e],by omega,by omega,h1⟩
  .rw[AJ h1]at h;cases h
 .rw[AJ h0]at h;by_cases h1:-(n:Int)<=i
  .rw[AL h1]at h;have e:(i+n).toNat=j:=BI h;exact⟨by rw[seqIndex_neg (by omega) h1,e],by omega,h1,by omega⟩
  .rw[AJ h1]at h;cases h
theorem Os{α:Type}{xs:List α}{i:Int}{v:α}(h:atI xs i=some v):∃j,seqIndex? i xs.length=some j/\xs[j]?=some v/\j<xs.length/\-(xs.length:Int)<=i/\i<xs.length:=by
 unfold atI at h;cases e:ixN xs.length i with
 | none=>rw[e]at h;cases h
 | some j =>
  rw[e]at h;obtain⟨h1,h2,h3,h4⟩:=Sk e;exact⟨j,h1,h,h2,h3,h4⟩
theorem G7{α:Type}{xs:List α}{j:Nat}{v:α}(h:xs[j]?=some v):atI xs (j:Int)=some v:=by
 have hj:j<xs.length:=(AG.mp h).1;have e:ixN xs.length (j:Int)=some j:=by
  unfold ixN;rw[AL (by omega),AL (by omega)];simp
 unfold atI;rw[e];exact h
def Xt(b:Expr):Prop:=∀o i,subscripted b false o i=operate [o,i] (getItem o i)
def IxR(X:Cx)(r:R2):Prop :=
 ∀(value slice:Expr) (pins:List (Addr×Obj)) (s:Shared) (σ:St) (H:Hp) (x y:V) (v u:Value) (Q:VK),Inv X pins σ H s->RelV x v->RelV y u->r x y H Q ->
  subscripted slice false v u=operate [v,u] (getItem v u)->wpAny (model X.prog X.w) X.A (subscriptTail value slice v u) (EP X pins σ Q) X.xe s
def MtR(X:Cx)(id:String)(r:V->List V->Hp->VK->Prop):Prop :=
 ∀(pins:List (Addr×Obj)) (s:Shared) (σ:St) (H:Hp) (x:V) (xs:List V) (v:Value) (us:List Value) (Q:VK),Inv X pins σ H s->RelV x v->Vals xs us->r x xs H Q ->
  wpAny (model X.prog X.w) X.A (call (.builtin id) (v::us)) (EP X pins σ Q) X.xe s
section
variable{X:Cx}{a b:Expr}{ta tb:TE}{pos:Pos}
theorem J7{r:R2}(hr:IxR X r)(ha:PE X a ta)(hb:PE X b tb)(hs:Xt b):PE X (.Subscript a b pos) (tOp r ta tb):=by
 intro pins s σ H Q I h;exact Subscript_ (zEl ha hb I h fun v u s2 x y H2 I2 rx ry q=>hr a b pins s2 σ H2 x y v u Q I2 rx ry q (hs _ _))
def zFo(K:PySem.W.Frag):R2:=fun x y H Q=>∃p xs i v,x = .ref p/\y = .int i/\SqL K H p xs/\atI xs i=some v/\Q v H
def zEy(K:PySem.W.Frag):R2:=fun x y H Q=>∃p xs i v,x = .ref p/\y = .int i/\SqT K H p xs/\atI xs i=some v/\Q v H
theorem Zc:IxR X (zFo X.K):=by
 intro value slice pins s σ H x y v u Q I rx ry h hs;obtain⟨p,xs,i,z,rfl,rfl,hq,he,q⟩:=h;cases rx;obtain⟨t,rfl⟩:=ry;obtain⟨its,r,pl,hz⟩:=I.list hq;obtain⟨j,h1,h2,h3,h4,h5⟩:=Os he;obtain⟨w,ew,rw'⟩:=r.get h2;have hl:=r.length;have hn:=Cj;have fin:EP X pins σ Q w s:=⟨z,H,I,rw',q⟩;by_cases h0:0<=i
 .have hj:i.toNat=j:=by
   rw[seqIndex_of h0 h5]at h1;exact BI h1
  exact item_listR pl.isList h0 (by omega) (by rw[hj];simpa using ew) fin hs
 .have hj:(i +(its.toArray.size:Int)).toNat=j:=by
   rw[seqIndex_neg (by omega) h4]at h1;rw[BA,<-hl];exact BI h1
  exact subscriptTail_builtinR (x:=w) pl.isList.typeIs slot_list_getitem.lookup
   (wpAny_getItem_list_neg (Q:=fun r s'=>r=w/\EP X pins σ Q r s') pl.isList (by omega) (by rw[BA]<;>omega) (by omega) (by rw[hj];simpa using ew) ⟨rfl,fin⟩) hs
theorem zBa:IxR X (zEy X.K):=by
 intro value slice pins s σ H x y v u Q I rx ry h hs;obtain⟨p,xs,i,z,rfl,rfl,hq,he,q⟩:=h;cases rx;obtain⟨t,rfl⟩:=ry;obtain⟨its,r,pl,hz⟩:=I.tuple hq;obtain⟨j,h1,h2,h3,h4,h5⟩:=Os he;obtain⟨w,ew,rw'⟩:=r.get h2;have hl:=r.length;have hn:=Cj;have fin:EP X pins σ Q w s:=⟨z,H,I,rw',q⟩;exact subscriptTail_builtinR (x:=w) pl.typeIs slot_tuple_getitem.lookup
  (getItem_tuple (j:=j) (Q:=fun r s'=>r=w/\EP X pins σ Q r s') pl (by omega) (by omega) (by rw[BA,<-hl];exact h1) (by simpa using ew) ⟨rfl,fin⟩) hs
theorem Nh(its:List Value)(n j:Nat)(u:Value):Obj.mapSeq (·.setIfInBounds j u) { cls:=.type "list",data:=.seq its.toArray n } ={ cls:=.type "list",data:=.seq (its.set j u).toArray n }:=by
 simp[Obj.mapSeq]
theorem Inv.lst{pins:List (Addr×Obj)}{σ:St}{H:Hp}{s:Shared}{p:Addr}{xs:List V}(I:Inv X pins σ H s)(h:H p=some (.lst xs)) :
  ∃(its:List Value) (n:Nat),Vals xs its/\s.heap.get? p=some { cls:=.type "list",data:=.seq its.toArray n }/\xs.length<=sizeLine:=by
 obtain⟨z,its,n,r,e⟩:=I.hok p _ h;exact⟨its,n,r,e,z⟩
theorem Inv.lstUpd{pins:List (Addr×Obj)}{σ:St}{H:Hp}{s:Shared}{p:Addr}{xs ys:List V}{its its':List Value}{n n':Nat}{f:Obj->Obj}(I:Inv X pins σ H s)(h:H p=some (.lst xs))
  (ho:s.heap.get? p=some { cls:=.type "list",data:=.seq its.toArray n }) (hf:f { cls:=.type "list",data:=.seq its.toArray n } ={ cls:=.type "list",data:=.seq its'.toArray n' }) (r:Vals ys its') (hz:ys.length<=sizeLine) (t:Nat) :
  Inv X pins σ (upd H p (.lst ys)) { s with heap:=s.heap.update p f,toks:=t }:=by
 have e:(s.heap.update p f).get? p=some { cls:=.type "list",data:=.seq its'.toArray n' }:=by
  rw[CY f ho (by rw[hf]<;>rfl),hf]
 refine I.write (x:=p) (e:=p) (by rw[h];trivial) (.inl rfl) (fun b u hb q=>(BR _ _ (Ne.symm hb)).trans q) ⟨_,e⟩ ?_;exact⟨hz,its',n',r,e⟩
def zEb:V->V->V->Hp->(Hp->Prop)->Prop:=fun o i v H Q=>∃p xs k j,o = .ref p/\i = .int k/\H p=some (.lst xs)/\ixN xs.length k=some j/\Q (upd H p (.lst (xs.set j v)))
theorem w6:zFp X zEb:=by
 intro pins s σ H o i v ov iv u Q I ro ri rv h;obtain⟨p,xs,k,j,rfl,rfl,hp,hj,q⟩:=h;cases ro;obtain⟨t,rfl⟩:=ri;obtain⟨its,n,r,ho,hz⟩:=I.lst hp;obtain⟨h1,h2,h3,h4⟩:=Sk hj;have hl:=r.length;have hn:=Cj;have I':Inv X pins σ (upd H p (.lst (xs.set j v))) { s with heap:=s.heap.update p (Obj.mapSeq (·.setIfInBounds j u)) } :=
  I.lstUpd hp ho (Nh its n j u) (r.set rv j) (by rw[List.length_set];exact hz) s.toks
 by_cases h0:0<=k
 .have hk:k.toNat=j:=by
   rw[seqIndex_of h0 h4]at h1;exact BI h1
  exact PySem.W.ki_setAt ho h0 (by omega) (by rw[BA,<-hl];exact h4) (by rw[hk];exact⟨_,I',q⟩)
 .have hk:(k +(its.toArray.size:Int)).toNat=j:=by
   rw[seqIndex_neg (by omega) h3]at h1;rw[BA,<-hl];exact BI h1
  exact PySem.W.ki_setBack ho (by omega) (by rw[BA,<-hl];exact h3) (by omega) (by rw[hk];exact⟨_,I',q⟩)
theorem Er(lo hi:Option Int)(n:Nat):(sliceBounds lo hi none n).1 =((HT.sIx n 0 lo:Nat):Int)/\(sliceBounds lo hi none n).2.1 =((HT.sIx n n hi:Nat):Int)/\(sliceBounds lo hi none n).2.2=1:=by
 refine⟨?_,?_,rfl⟩
 .cases lo with
  | none=>simp[sliceBounds,HT.sIx]
  | some i =>
   simp only[sliceBounds,HT.sIx,Option.getD_none,show(1:Int)>0 by decide,FB];by_cases h:i<0
   .simp only[h,FB]<;>omega
   .simp only[h,DA]<;>omega
 .cases hi with
  | none=>simp[sliceBounds,HT.sIx]
  | some i =>
   simp only[sliceBounds,HT.sIx,Option.getD_none,show(1:Int)>0 by decide,FB];by_cases h:i<0
   .simp only[h,FB]<;>omega
   .simp only[h,DA]<;>omega
theorem Dm(its:List Value)(lo hi:Option Int):slicePick its.toArray lo hi none =((its.drop (HT.sIx its.length 0 lo)).take (HT.sIx its.length its.length hi-HT.sIx its.length 0 lo)).toArray:=by
 obtain⟨h1,h2,h3⟩:=Er lo hi its.toArray.size;unfold slicePick;rw[h1,h2,h3];simp only[sliceRange_one,pick_run,BA]<;>rfl
def zFi(K:PySem.W.Frag):V->Option Int->Option Int->Hp->VK->Prop:=fun x lo hi H Q=>∃a xs,x = .ref a/\SqL K H a xs/\∀p,H p=none->Q (.ref p) (upd H p (.lst (Nq xs lo hi)))
theorem Xp:SlR X (zFi X.K):=by
 intro pins s σ H x v vl vu lo hi sl Q I rx hs pl pu h;obtain⟨a,xs,rfl,hx,q⟩:=h;cases rx;obtain⟨its,r,ht,hz⟩:=I.list hx;have hlen:=r.length;refine⟨"list",_,slot_list_getitem.lookup,ht.isList.typeIs,?_⟩;refine wpAny_getItem_list_slice ht.isList hs pl pu .none (by simp) ?_ (by rw[BA]<;>omega);rw[Dm,<-hlen];refine⟨.ref s.heap.objs.size,_,I.laid (t':=s.toks) (o:=.lst (Nq xs lo hi)) (fun b ob q=>AD _ q) (Nat.le_refl _) ?_,rfl,q _ (I.hok.fresh (Nat.le_refl _))⟩;exact⟨Nat.le_trans (Ja xs lo hi) hz,_,0,(r.drop (HT.sIx xs.length 0 lo)).take (HT.sIx xs.length xs.length hi-HT.sIx xs.length 0 lo),AS _ rfl⟩
def Co:V->Bool
 | .non=>true
 | .bl _=>true
 | .int _=>true
 | .str _=>true
 | _=>false
def eqV:V->V->Bool
 | .non,.non=>true
 | .bl a,.bl b=>a == b
 | .bl a,.int b=>(if a then 1 else 0) == b
 | .int a,.bl b=>a ==(if b then 1 else 0)
 | .int a,.int b=>a == b
 | .str a,.str b=>a == b
 | _,_=>false
theorem Zv{A:Around}{s:Shared}{y x:V}{u v:Value}(ry:RelV y u)(rx:RelV x v)(fy:Co y=true)(fx:Co x=true):SeqAt.EqAt A s u v (eqV y x):=by
 cases y with
 | non =>
  cases ry;cases x with
  | non=>cases rx;exact SeqAt.EqAt.same _
  | bl b=>cases rx;exact SeqAt.EqAt.none_bool b
  | int b=>obtain⟨t,rfl⟩:=rx;exact SeqAt.EqAt.none_int b t
  | str b=>obtain⟨t,rfl⟩:=rx;exact SeqAt.EqAt.none_str b t
  | _=>exact absurd (show false=true from fx) AY
 | bl a =>
  cases ry;cases x with
  | non=>cases rx;exact SeqAt.EqAt.bool_none a
  | bl b=>cases rx;exact SeqAt.EqAt.bool_bool a b
  | int b=>obtain⟨t,rfl⟩:=rx;exact SeqAt.EqAt.bool_int a b t
  | str b=>obtain⟨t,rfl⟩:=rx;exact SeqAt.EqAt.bool_str a b t
  | _=>exact absurd (show false=true from fx) AY
 | int a =>
  obtain⟨t',rfl⟩:=ry;cases x with
  | non=>cases rx;exact SeqAt.EqAt.int_none a t'
  | bl b=>cases rx;exact SeqAt.EqAt.int_bool a t' b
  | int b=>obtain⟨t,rfl⟩:=rx;exact SeqAt.EqAt.int_int a t' b t
  | str b=>obtain⟨t,rfl⟩:=rx;exact SeqAt.EqAt.int_str a t' b t
  | _=>exact absurd (show false=true from fx) AY
 | str a =>
  obtain⟨t',rfl⟩:=ry;cases x with
  | non=>cases rx;exact SeqAt.EqAt.str_none a t'
  | bl b=>cases rx;exact SeqAt.EqAt.str_bool a t' b
  | int b=>obtain⟨t,rfl⟩:=rx;exact SeqAt.EqAt.str_int a t' b t
  | str b=>obtain⟨t,rfl⟩:=rx;exact SeqAt.EqAt.str_str a t' b t
  | _=>exact absurd (show false=true from fx) AY
 | _=>exact absurd (show false=true from fy) AY
def eqU(x:V)(u:Value):Bool:=match u with
 | .none=>eqV .non x
 | .bool b=>eqV (.bl b) x
 | .int i _=>eqV (.int i) x
 | .str z _=>eqV (.str z) x
 | _=>false
theorem Vr{x y:V}{u:Value}(r:RelV y u)(f:Co y=true):eqU x u=eqV y x:=by
 cases y with
 | non=>cases r;rfl
 | bl b=>cases r;rfl
 | int i=>obtain⟨t,rfl⟩:=r;rfl
 | str z=>obtain⟨t,rfl⟩:=r;rfl
 | _=>exact absurd (show false=true from f) AY
theorem Ac{x:V}:∀{xs:List V} {us:List Value},Vals xs us->xs.all Co=true->us.any (eqU x)=xs.any fun y=>eqV y x
 | _,_,.nil,_=>rfl
 | y::xs,u::us,.cons r t,f=>by
  rw[List.all_cons,BU]at f;rw[GV,GV,Vr r f.1,Ac t f.2]
theorem j7{A:Around}{s:Shared}{x:V}{v:Value}(rx:RelV x v)(fx:Co x=true):∀{xs:List V} {us:List Value},Vals xs us->xs.all Co=true->∀u∈us,SeqAt.EqAt A s u v (eqU x u)
 | _,_,.nil,_=>fun u hu=>by cases hu
 | y::xs,u::us,.cons r t,f=>fun u' hu=>by
  rw[List.all_cons,BU]at f;rcases BD.mp hu with rfl | hu
  .rw[Vr r f.1];exact Zv r rx f.1 fx
  .exact j7 rx fx t f.2 u' hu
def inV(x:V)(xs:List V):Bool:=xs.any fun y=>eqV y x
def rIn(K:PySem.W.Frag)(neg:Bool):R2:=fun x y H Q=>∃p xs,y = .ref p/\(SqL K H p xs\/SqT K H p xs)/\Co x=true/\xs.all Co=true/\Q (.bl (if neg then !inV x xs else inV x xs)) H
theorem Oq:OpR X (compareOp .In) (rIn X.K false):=by
 intro pins s σ H x y v u Q I rx ry h;obtain⟨p,xs,rfl,hq,fx,fs,q⟩:=h;cases ry;rcases hq with hq | hq
 .obtain⟨its,r,pl,hz⟩:=I.list hq;refine SeqAt.in_listAt (eqU x) pl.isList (fun w hw=>j7 rx fx r fs w (by simpa using hw)) ⟨.bl _,H,I,rfl,?_⟩;rw[show its.toArray.any (eqU x)=its.any (eqU x) by simp,Ac r fs];exact q
 .obtain⟨its,r,pl,hz⟩:=I.tuple hq;refine SeqAt.in_tupleAt (eqU x) pl (fun w hw=>j7 rx fx r fs w (by simpa using hw)) ⟨.bl _,H,I,rfl,?_⟩;rw[show its.toArray.any (eqU x)=its.any (eqU x) by simp,Ac r fs];exact q
theorem Gp:OpR X (compareOp .NotIn) (rIn X.K true):=by
 intro pins s σ H x y v u Q I rx ry h;obtain⟨p,xs,rfl,hq,fx,fs,q⟩:=h;cases ry;rcases hq with hq | hq
 .obtain⟨its,r,pl,hz⟩:=I.list hq;refine SeqAt.notIn_listAt (eqU x) pl.isList (fun w hw=>j7 rx fx r fs w (by simpa using hw)) ⟨.bl _,H,I,rfl,?_⟩;rw[show its.toArray.any (eqU x)=its.any (eqU x) by simp,Ac r fs];exact q
 .obtain⟨its,r,pl,hz⟩:=I.tuple hq;refine SeqAt.notIn_tupleAt (eqU x) pl (fun w hw=>j7 rx fx r fs w (by simpa using hw)) ⟨.bl _,H,I,rfl,?_⟩;rw[show its.toArray.any (eqU x)=its.any (eqU x) by simp,Ac r fs];exact q
theorem Fb:E8 X (.builtin "len") (fun xs H Q=>∃p ys,xs = [.ref p]/\(SqL X.K H p ys\/SqT X.K H p ys)/\Q (.int ys.length) H):=by
 intro pins s σ H xs us Q I r h;obtain⟨p,ys,rfl,hq,q⟩:=h;obtain⟨u,rfl,rx⟩:=W8 r;cases rx;have hn:=Cj;rcases hq with hq | hq
 .obtain⟨its,r',pl,hz⟩:=I.list hq;have hlen:=r'.length;exact Calls.call_len_list pl.isList (by simp only[BA]<;>omega) ⟨.int ys.length,H,I.tok _,⟨s.toks+1,by rw[BA,hlen]⟩,q⟩
 .obtain⟨its,r',pl,hz⟩:=I.tuple hq;have hlen:=r'.length;exact len_tuple pl (by simp only[BA]<;>omega) ⟨.int ys.length,H,I.tok _,⟨s.toks+1,by rw[BA,hlen]⟩,q⟩
theorem Gv:E8 X (.builtin "len") (fun xs H Q=>∃z,xs = [.str z]/\z.length<=sizeLine/\Q (.int z.length) H):=by
 intro pins s σ H xs us Q I r h;obtain⟨z,rfl,hz,q⟩:=h;obtain⟨u,rfl,t,rfl⟩:=W8 r;have hn:=Cj;exact len_str (by omega) ⟨.int z.length,H,I.tok _,⟨_,rfl⟩,q⟩
theorem Eu:E8 X (.type "list") (fun xs H Q=>∃p ys,xs = [.ref p]/\(SqL X.K H p ys\/SqT X.K H p ys)/\∀l,H l=none->Q (.ref l) (upd H l (.lst ys))):=by
 intro pins s σ H xs us Q I r h;obtain⟨p,ys,rfl,hq,q⟩:=h;obtain⟨u,rfl,rx⟩:=W8 r;cases rx;have fin:∀(its:List Value),Vals ys its->ys.length<=sizeLine->∀(h':Heap) (c':Nat),(∀b o',s.heap.get? b=some o'->h'.get? b=some o') ->
   h'.get? s.heap.objs.size=some { cls:=.type "list",dict:=none,data:=.seq its.toArray c',slots:=#[] }->EP X pins σ Q (.ref s.heap.objs.size) { s with heap:=h' }:=fun its r' hz h' c' kp e =>
  ⟨.ref s.heap.objs.size,_,I.laid (t':=s.toks) kp (Nat.le_refl _) (show ObjOk X.prog X.w _ h' _ (.lst ys)from⟨hz,its,c',r',e⟩),rfl,q _ (I.hok.fresh (Nat.le_refl _))⟩
 rcases hq with hq | hq
 .obtain⟨its,r',pl,hz⟩:=I.list hq;have hlen:=r'.length;obtain⟨o,ho,hc,n,hd⟩:=pl.isList;exact call_list_seq p (.inl rfl) ho hc hd (fun h' c' kp e=>fin its r' hz h' c' kp e) (by simp only[BA]<;>omega)
 .obtain⟨its,r',pl,hz⟩:=I.tuple hq;have hlen:=r'.length;obtain⟨o,ho,hc,n,hd⟩:=pl;exact call_list_seq p (.inr rfl) ho hc hd (fun h' c' kp e=>fin its r' hz h' c' kp e) (by simp only[BA]<;>omega)
def tyV(K:PySem.W.Frag)(T:String)(x:V)(H:Hp):Prop:=match x with
 | .str _=>T = "str"
 | .int _=>T = "int"
 | .ref p=>(T = "list"/\∃xs,SqL K H p xs)\/(T = "tuple"/\∃o,K.lookup p=some o/\o.cls = .type "tuple"/\o.dict=none) \/
   (T = "dict"/\((∃kvs,H p=some (.dK kvs))\/∃kvs,H p=some (.dT kvs)))\/(T = "set"/\∃S n,H p=some (.set S n))
 | _=>False
theorem Wp{pins:List (Addr×Obj)}{σ:St}{H:Hp}{s:Shared}{T:String}{x:V}{v:Value}(I:Inv X pins σ H s)(r:RelV x v)(ty:tyV X.K T x H) :
  s.TypeIs v T/\∀a,v = .ref a->∃ob,s.heap.get? a=some ob/\ob.dict=none:=by
 cases x with
 | str z =>
  obtain⟨t,rfl⟩:=r;cases(show T = "str" from ty);exact⟨typeIs_str s z t,fun _ e=>nomatch e⟩
 | int i =>
  obtain⟨t,rfl⟩:=r;cases(show T = "int" from ty);exact⟨typeIs_int s i t,fun _ e=>nomatch e⟩
 | ref p =>
  cases r;rcases ty with⟨rfl,xs,hq⟩ | ⟨rfl,o,hk,hc,hd⟩ | ⟨rfl,hk⟩ | ⟨rfl,S,n,hk⟩
  .obtain⟨its,_,pl,_⟩:=I.list hq;refine⟨pl.isList.typeIs,fun a e=>?_⟩;cases e;obtain⟨o,n,e,c,hd,_⟩:=pl;exact⟨o,e,hd⟩
  .refine⟨⟨o,I.kIn p o hk,hc⟩,fun a e=>?_⟩;cases e;exact⟨o,I.kIn _ o hk,hd⟩
  .have z:∃o,s.heap.get? p=some o/\o.ExactDict:=by
    rcases hk with⟨kvs,hk⟩ | ⟨kvs,hk⟩
    .obtain⟨_,_,_,_,o,_,_,e,ex,_⟩:=I.hok p _ hk;exact⟨o,e,ex⟩
    .obtain⟨_,_,_,_,o,_,_,e,ex,_⟩:=I.hok p _ hk;exact⟨o,e,ex⟩
   obtain⟨o,e,ex⟩:=z;refine⟨⟨o,e,ex.1⟩,fun a e2=>?_⟩;cases e2;exact⟨o,e,ex.2.1⟩
  .obtain⟨o,_,_,_,e,ex,_⟩:=I.hok p _ hk;refine⟨⟨o,e,ex.1⟩,fun a e2=>?_⟩;cases e2;exact⟨o,e,ex.2.1⟩
 | _=>exact False.elim ty
def zFr(K:PySem.W.Frag)(T:String)(r:V->List V->Hp->VK->Prop)(to:TE):TE:=fun σ H Q=>to σ H fun x H1=>tyV K T x H1/\r x [] H1 Q
def tBM(K:PySem.W.Frag)(T:String)(r:V->List V->Hp->VK->Prop)(to:TE)(t:TA):TE:=fun σ H Q=>to σ H fun x H1=>tyV K T x H1/\t σ H1 fun xs H2=>r x xs H2 Q
variable{o e:Expr}{es:List Expr}{to:TE}{t:TA}{name:Str}{apos cpos:Pos}{T id:String}{r:V->List V->Hp->VK->Prop}
theorem zBz(pa:PlainAttrs T)(slot:Slot T name id)(hty:typeOf (.builtin id)=pure (.type "method_descriptor"))(hm:MtR X id r)(ho:PE X o to)
  (hbase:attributeBase o name X.env (eval o X.env)=eval o X.env:=by rfl) (hline:(apos.endLine == cpos.line)=true:=by rfl):PE X (.Call (.Attribute o name apos) [] [] cpos) (zFr X.K T r to):=by
 intro pins s σ H Q I h;refine wpAny_Call_method0_late hbase hline (thn (ho pins s σ H _ I h) fun v s1 ⟨x,H1,I1,r1,ty,q1⟩=>?_);obtain⟨h1,h2⟩:=Wp I1 r1 ty;exact⟨T,id,pa,slot,hty,h1,h2,Calls.callWith_builtin rfl (PySem.evalArgs_none (hm pins s1 σ H1 x [] v [] Q I1 r1 .nil q1))⟩
theorem zEa(pa:PlainAttrs T)(slot:Slot T name id)(hty:typeOf (.builtin id)=pure (.type "method_descriptor"))(hm:MtR X id r)(ho:PE X o to)(ha:PA X (e::es) t)
  (hbase:attributeBase o name X.env (eval o X.env)=eval o X.env:=by rfl)
  (hfew:((backTo cpos (starEach (e::es) X.env)).all (fun x=>!x.1) &&(backToKw cpos (keywordEach [] X.env)).all (fun x=>x.1.isSome)
   && decide ((e::es).length +([]:List Keyword).length +(if([]:List Keyword).isEmpty then 0 else 1)<30))=true:=by rfl)
  (hline:(apos.endLine == cpos.line)=true:=by rfl) (hs:starEach (e::es) X.env =(false,eval e X.env)::starEach es X.env:=by rfl) (hplain:(backTo cpos (starEach es X.env)).any (·.1)=false:=by rfl) :
  PE X (.Call (.Attribute o name apos) (e::es) [] cpos) (tBM X.K T r to t):=by
 intro pins s σ H Q I h;refine wpAny_Call_method_late hbase hfew hline rfl (thn (ho pins s σ H _ I h) fun v s1 ⟨x,H1,I1,r1,ty,q1⟩=>?_);obtain⟨h1,h2⟩:=Wp I1 r1 ty;refine⟨T,id,pa,slot,hty,h1,h2,?_⟩;have hA:=ha cpos pins s1 σ H1 _ I1 q1;rw[hs]at hA⊢;refine Calls.callWith_builtin (by show(false||(backTo cpos (starEach es X.env)).any (·.1))=false;rw[hplain]<;>rfl) (Calls.evalArgs_plain ?_);exact thn hA fun us s2 ⟨vs,H2,I2,r2,q2⟩=>hm pins s2 σ H2 x vs v us Q I2 r1 r2 q2
end
def MtM(X:Cx)(id:String)(r:V->List V->Hp->VK->Prop):Prop :=
 ∀(pins:List (Addr×Obj)) (s:Shared) (σ:St) (H:Hp) (x:V) (xs:List V) (v:Value) (us:List Value) (Q:VK),Inv X pins σ H s->RelV x v->Vals xs us->r x xs H Q ->
  wpAny (model X.prog X.w) X.A (call (.builtin id) (v::us)) (EP X pins σ Q) X.xe s
theorem Vals.one:∀{x:V} {us:List Value},Vals [x] us->∃u,us = [u]/\RelV x u
 | _,_,.cons r .nil=>⟨_,rfl,r⟩
theorem Vals.two:∀{x y:V} {us:List Value},Vals [x,y] us->∃u v,us = [u,v]/\RelV x u/\RelV y v
 | _,_,_,.cons r (.cons q .nil)=>⟨_,_,rfl,r,q⟩
theorem Vals.zero:∀{us:List Value},Vals [] us->us = []
 | _,.nil=>rfl
theorem Vals.eraseIdx:∀{xs:List V} {us:List Value} (i:Nat),Vals xs us->Vals (xs.eraseIdx i) (us.eraseIdx i)
 | _,_,_,.nil=>.nil
 | _,_,0,.cons _ t=>t
 | _,_,i+1,.cons r t=>.cons r (Vals.eraseIdx i t)
theorem Vals.rep{xs:List V}{us:List Value}(h:Vals xs us):∀k:Nat,Vals (List.replicate k xs).flatten (List.replicate k us).flatten
 | 0=>.nil
 | k+1=>by
  rw[EO,EO,GZ,GZ];exact Vals.append h (Vals.rep h k)
theorem Fp{α:Type}:∀(l:List α) (i:Nat),(l.eraseIdx i).length<=l.length
 | [],_=>Nat.le_refl _
 | _::_,0=>DC _
 | _::r,i+1=>Nat.succ_le_succ (Fp r i)
theorem Fh(its:List Value):∀(k:Nat) (acc:List Value),
  List.foldl (fun x1 x2=>x1++x2) acc.toArray (List.replicate k its.toArray) =(acc ++(List.replicate k its).flatten).toArray
 | 0,acc=>by simp
 | k+1,acc=>by
  have e:acc.toArray++its.toArray =(acc++its).toArray:=by simp
  have e2:(acc++its) ++(List.replicate k its).flatten=acc ++(List.replicate (k+1) its).flatten:=by
   rw[EO,GZ,BE]
  rw[<-e2,<-Fh its k (acc++its),<-e,EO,List.foldl_cons]
section
variable{X:Cx}{pins:List (Addr×Obj)}{σ:St}{H:Hp}{s:Shared}{l b:Addr}{xs ys zs:List V}
theorem Inv.lset{its its':List Value}{n:Nat}{f:Array Value->Array Value}{t':Nat}(I:Inv X pins σ H s)(hH:H l=some (.lst xs))
  (e:s.heap.get? l=some { cls:=.type "list",data:=.seq its.toArray n }) (hf:f its.toArray=its'.toArray) (hv:Vals ys its') (hz:ys.length<=sizeLine) :
  Inv X pins σ (upd H l (.lst ys)) { s with heap:=s.heap.update l (Obj.mapSeq f),toks:=t' }:=by
 have q:=PySem.IsL.update e f;rw[hf]at q;refine I.write (x:=l) (e:=l) (by rw[hH];exact trivial) (.inl rfl) (fun b' u hb hu=>(BR s.heap (Obj.mapSeq f) (Ne.symm hb)).trans hu) ⟨_,q⟩ ?_;exact⟨hz,its',_,hv,q⟩
theorem Inv.lnew{its:List Value}{t':Nat}(I:Inv X pins σ H s)(hv:Vals ys its)(hz:ys.length<=sizeLine) :
  Inv X pins σ (upd H s.heap.objs.size (.lst ys)) { s with heap:=s.heap.push { cls:=.type "list",data:=.seq its.toArray },toks:=t' } :=
 I.laid (fun _ _ q=>AD _ q) (Nat.le_refl _) ⟨hz,its,0,hv,AS _ rfl⟩
theorem Inv.fresh(I:Inv X pins σ H s):H s.heap.objs.size=none:=I.hok.fresh (Nat.le_refl _)
theorem Inv.lstM(I:Inv X pins σ H s)(hH:H l=some (.lst xs)):xs.length<=sizeLine/\∃(its:List Value) (n:Nat),Vals xs its/\xs.length=its.length/\s.heap.get? l=some { cls:=.type "list",data:=.seq its.toArray n }:=by
 obtain⟨z,its,n,r,e⟩:=I.hok l _ hH;exact⟨z,its,n,r,r.length,e⟩
theorem Sq{n:Nat}(h:n<=sizeLine):Builtin.List.listTooLong n=false:=by
 unfold Builtin.List.listTooLong;exact AN (by omega)
end
section
variable{X:Cx}
def Rv:V->List V->Hp->VK->Prop:=fun x vs H Q=>∃l xs y,x = .ref l/\vs = [y]/\H l=some (.lst xs)/\xs.length<sizeLine/\Q .non (upd H l (.lst (xs ++ [y])))
theorem D3:MtM X "list.append" Rv:=by
 intro pins s σ H x vs v us Q I rx rv h;obtain⟨l,xs,y,rfl,rfl,hH,hz,q⟩:=h;cases rx;obtain⟨u,rfl,ru⟩:=rv.one;obtain⟨z,its,n,r,hl,e⟩:=I.lstM hH;refine call_meets F.slot_list_append ⟨_,e,rfl⟩ F.entry_list_append (F.args_list_append_2 _ _) (PySem.list_append l its.toArray n u (by rw[BA];omega)) ⟨e,?_⟩;refine⟨.non,_,I.lset (its':=its ++ [u]) hH e (by simp) (r.append (.cons ru .nil)) ?_,rfl,q⟩;rw[AZ,GW];omega
def zDa:V->List V->Hp->VK->Prop:=fun x vs H Q=>∃l xs i k y,x = .ref l/\vs = [.int i]/\H l=some (.lst xs)/\-(2^63)<=i/\i<2^63/\seqIndex? i xs.length=some k/\xs[k]?=some y/\Q y (upd H l (.lst (xs.eraseIdx k)))
theorem Sv:MtM X "list.pop" zDa:=by
 intro pins s σ H x vs v us Q I rx rv h;obtain⟨l,xs,i,k,y,rfl,rfl,hH,h1,h2,hk,hy,q⟩:=h;cases rx;obtain⟨u,rfl,ru⟩:=rv.one;obtain⟨t,rfl⟩:=ru;obtain⟨z,its,n,r,hl,e⟩:=I.lstM hH;obtain⟨w,hw,rw'⟩:=r.get hy;refine call_meets F.slot_list_pop ⟨_,e,rfl⟩ F.entry_list_pop (F.args_list_pop_2 _ _)
  (MeetsSeq.list_pop_at l its.toArray n i t k w (fitsIndex_both h1 h2) (by rw[BA,<-hl];exact hk) (by rw[<-BP];exact hw) (by rw[BA];omega)) ⟨e,?_⟩
 refine⟨y,_,I.lset (its':=its.eraseIdx k) hH e ?_ (r.eraseIdx k) ?_,rw',q⟩
 .show its.toArray.eraseIdxIfInBounds k =(its.eraseIdx k).toArray;rw[List.eraseIdxIfInBounds_toArray]
 .have:=Fp xs k;omega
def zCt:V->List V->Hp->VK->Prop:=fun x vs H Q=>∃l xs,x = .ref l/\vs = []/\H l=some (.lst xs)/\Q .non (upd H l (.lst []))
theorem Ks:MtM X "list.clear" zCt:=by
 intro pins s σ H x vs v us Q I rx rv h;obtain⟨l,xs,rfl,rfl,hH,q⟩:=h;cases rx;have hus:=rv.zero;subst hus;obtain⟨z,its,n,r,hl,e⟩:=I.lstM hH;refine call_meets F.slot_list_clear ⟨_,e,rfl⟩ F.entry_list_clear (F.args_list_clear_1 _) (AutoSeq1.list_clear_list_0 l its.toArray n (by rw[BA];omega)) ⟨e,?_⟩;exact⟨.non,_,I.lset (its':=[]) (ys:=[]) hH e rfl .nil (CH _),rfl,q⟩
def zGm:R2:=fun x y H Q=>∃l k xs,x = .ref l/\y = .int k/\H l=some (.lst xs)/\-(2^63)<=k/\k<2^63/\xs.length*k.toNat<=sizeLine /\
 ∀p,H p=none->Q (.ref p) (upd H p (.lst (List.replicate k.toNat xs).flatten))
theorem Zd{α:Type}(xs:List α)(k:Nat):(List.replicate k xs).flatten.length=k*xs.length:=by
 induction k with
 | zero=>simp
 | succ k ih=>rw[EO,GZ,AZ,ih,Nat.succ_mul,Nat.add_comm]
theorem Wb:OpR X (binaryOp .Mult) zGm:=by
 intro pins s σ H x y v u Q I rx ry h;obtain⟨l,k,xs,rfl,rfl,hH,h1,h2,hz,q⟩:=h;cases rx;obtain⟨t,rfl⟩:=ry;obtain⟨z,its,n,r,hl,e⟩:=I.lstM hH;have hlen:its.toArray.size*k.toNat<=sizeLine:=by rw[BA,<-hl];exact hz
 have hcap:¬its.toArray.size*k.toNat >(2^63-1) / 8:=by
  have:(sizeLine:Nat)<=(2^63-1) / 8:=by decide
  omega
 have hfit:¬(!Builtin.List.listFitsIndex k)=true:=by
  rw[fitsIndex_both h1 h2];exact AY
 have hlong:¬Builtin.List.listTooLong (its.toArray.size*k.toNat)=true:=by
  rw[Sq hlen];exact AY
 have hnew:List.foldl (fun x1 x2=>x1++x2) #[] (List.replicate (if its.toArray.isEmpty=true then 0 else k.toNat) its.toArray) =(List.replicate k.toNat its).flatten.toArray:=by
  have f0:∀m:Nat,List.foldl (fun x1 x2=>x1++x2) #[] (List.replicate m its.toArray) =(List.replicate m its).flatten.toArray:=fun m=>by
   have:=Fh its m [];rw[GR]at this;exact this
  rw[f0];cases its with
  | nil=>simp
  | cons a r'=>rw[AJ (by simp)]
 refine wpAny_binaryOp_repeat_ref (T := "list") (U := "int") (by decide) ⟨_,e,rfl⟩ (fun s'=>typeIs_int s' k t) noFill_list_mul F.fills_int_mul F.slot_int_rmul repeat_list F.slot_int_index.lookup
  (call_meets F.slot_int_rmul (typeIs_int s k t) F.entry_int_rmul (F.args_int_rmul_2 _ _) (int___rmul___int_list k t l its.toArray n)
   ⟨e,rfl,⟨_,e,rfl⟩,call_meets F.slot_list_mul ⟨_,e,rfl⟩ F.entry_list_mul (F.args_list_mul_2 _ _) (AutoListH.list___mul___list_int_3 l its.toArray n k t hfit hcap hlong) ⟨e,?_⟩⟩)
 rw[hnew];exact⟨.ref _,_,I.lnew (t':=s.toks) (r.rep k.toNat) (by rw[Zd,Nat.mul_comm];exact hz),rfl,q _ I.fresh⟩
end
section
variable{Z:Type}[DecidableEq Z]
def P2(kvs:List (Z×V))(k:Z):Option V:=(kvs.find? fun kv=>decide (kv.1=k)).map (·.2)
def P5(kvs:List (Z×V))(k:Z)(v:V):List (Z×V) :=
 if(kvs.any fun kv=>decide (kv.1=k))=true then kvs.map (fun kv=>if kv.1=k then(kv.1,v)else kv)else kvs ++ [(k,v)]
theorem J2{p:Z×V}{r:List (Z×V)}{k:Z}(e:p.1=k):P2 (p::r) k=some p.2:=by simp[P2,FI,e]
theorem I9{p:Z×V}{r:List (Z×V)}{k:Z}(e:¬p.1=k):P2 (p::r) k=P2 r k:=by simp[P2,FI,e]
theorem d6(k:Z):∀kvs:List (Z×V),(kvs.any fun kv=>decide (kv.1=k)) =(P2 kvs k).isSome
 | []=>rfl
 | p::r=>by
  rw[GV];by_cases e:p.1=k
  .simp only[J2 e,AQ e,Bool.true_or,Option.isSome_some]
  .rw[I9 e,AN e,II];exact d6 k r
theorem Kf(k j:Z)(y:V):∀kvs:List (Z×V),P2 (kvs.map fun kv=>if kv.1=k then(kv.1,y)else kv) j =(P2 kvs j).map fun x=>if j=k then y else x
 | []=>rfl
 | p::r=>by
  have ih:=Kf k j y r;rw[AX];by_cases h:p.1=k
  .rw[AL h];by_cases e:p.1=j
   .rw[J2 (p:=(p.1,y)) e,J2 e,FJ,AL (e.symm.trans h)]
   .rw[I9 (p:=(p.1,y)) e,I9 e,ih]
  .rw[AJ h];by_cases e:p.1=j
   .rw[J2 (p:=p) e,J2 e,FJ,AJ (fun z=>h (e.trans z))]
   .rw[I9 (p:=p) e,I9 e,ih]
theorem Fd(k j:Z)(y:V):∀kvs:List (Z×V),P2 kvs k=none->P2 (kvs ++ [(k,y)]) j=if j=k then some y else P2 kvs j
 | [],_=>by
  by_cases e:k=j
  .rw[AL e.symm];exact J2 (p:=(k,y)) e
  .rw[AJ (fun z=>e z.symm)];exact I9 (p:=(k,y)) e
 | p::r,hn=>by
  rw[List.cons_append];have hk:¬p.1=k:=fun z=>by rw[J2 z]at hn;cases hn
  rw[I9 hk]at hn;have ih:=Fd k j y r hn;by_cases e:p.1=j
  .rw[J2 e,J2 e,AJ (fun z=>hk (e.trans z))]
  .rw[I9 e,I9 e,ih]
theorem Ss(kvs:List (Z×V))(k j:Z)(y:V):P2 (P5 kvs k y) j=if j=k then some y else P2 kvs j:=by
 unfold P5;by_cases a:(kvs.any fun kv=>decide (kv.1=k))=true
 .rw[AL a,Kf];rw[d6]at a;by_cases e:j=k
  .obtain⟨x,hx⟩:=EX.mp a;rw[AL e,e,hx,FJ,AL rfl]
  .rw[AJ e];cases P2 kvs j with
   | none=>rfl
   | some x=>rw[FJ,AJ e]
 .rw[AJ a];refine Fd k j y kvs ?_;rw[d6]at a;cases q:P2 kvs k with
  | none=>rfl
  | some x=>rw[q]at a;exact(a rfl).elim
theorem M9(kvs:List (Z×V))(k:Z)(v:V):(P5 kvs k v).length<=kvs.length+1:=by
 unfold P5;split
 .rw[AB];omega
 .rw[AZ,BM,FU];omega
theorem Ub{kvs:List (Z×V)}{k:Z}(v:V)(h:P2 kvs k=none):P5 kvs k v=kvs ++ [(k,v)]:=by
 unfold P5;rw[d6,h];exact AJ (by decide)
theorem RelO.isSome_eq{o:Option V}{u:Option Value}(r:RelO o u):o.isSome=u.isSome:=by
 cases o with
 | none=>cases u with
  | none=>rfl
  | some _=>exact(show False from r).elim
 | some _=>cases u with
  | none=>exact(show False from r).elim
  | some _=>rfl
theorem KV.val{kvs:List (Z×V)}{vs:List (Z×Value)}(r:KV kvs vs)(k:Z):RelO (P2 kvs k) (valueAt vs k):=by
 unfold KV at r
 induction r with
 | nil=>exact True.intro
 | @cons p q ps qs h t ih =>
  obtain⟨h1,h2⟩:=h;by_cases e:p.1=k
  .have e':q.1=k:=h1.symm.trans e;have b:valueAt (q::qs) k=some q.2:=by simp[valueAt,FI,e']
   rw[J2 e,b];exact h2
  .have e':¬q.1=k:=fun z=>e (h1.trans z);have b:valueAt (q::qs) k=valueAt qs k:=by simp[valueAt,FI,e']
   rw[I9 e,b];exact ih
theorem KV.any{kvs:List (Z×V)}{vs:List (Z×Value)}(r:KV kvs vs)(k:Z):(kvs.any fun kv=>decide (kv.1=k))=vs.any fun kv=>decide (kv.1=k):=by
 unfold KV at r
 induction r with
 | nil=>rfl
 | cons h t ih=>rw[GV,GV,ih,h.1]
theorem KV.repl{kvs:List (Z×V)}{vs:List (Z×Value)}(r:KV kvs vs)(k:Z){y:V}{u:Value}(ry:RelV y u) :
  KV (kvs.map fun kv=>if kv.1=k then(kv.1,y)else kv) (vs.map fun kv=>if kv.1=k then(kv.1,u)else kv):=by
 unfold KV at r⊢
 induction r with
 | nil=>exact .nil
 | @cons p q ps qs h t ih =>
  rw[AX,AX];refine .cons ?_ ih;obtain⟨h1,h2⟩:=h;by_cases e:p.1=k
  .rw[AL e,AL (h1.symm.trans e)];exact⟨h1,ry⟩
  .rw[AJ e,AJ (fun z=>e (h1.trans z))];exact⟨h1,h2⟩
theorem KV.put{kvs:List (Z×V)}{vs:List (Z×Value)}(r:KV kvs vs)(k:Z){y:V}{u:Value}(ry:RelV y u):KV (P5 kvs k y) (stored vs k u):=by
 unfold P5 stored;rw[r.any k];by_cases e:(vs.any fun kv=>decide (kv.1=k))=true
 .rw[AL e,AL e];exact r.repl k ry
 .rw[AJ e,AJ e];exact Paired.snoc r ⟨rfl,ry⟩
theorem KV.length{kvs:List (Z×V)}{vs:List (Z×Value)}(r:KV kvs vs):kvs.length=vs.length:=Paired.length r
end
theorem Jc{P:Program}{w:World}{k:Key}{u:Value}(r:RelV (kV k) u):(B9 P w).is k u=true:=by
 cases k with
 | inl i=>obtain⟨t,e⟩:=(show ∃t,u=Value.int i t from r);subst e;exact Ho P w i t
 | inr x=>obtain⟨t,e⟩:=(show ∃t,u=Value.str x t from r);subst e;exact Ii P w x t
theorem Gs{P:Program}{w:World}:∀{ks:List Key} {us:List Value},Vals (ks.map kV) us->ItemsAre (B9 P w) ks us
 | [],_,r=>by rw[HB]at r;cases r;exact .nil
 | k::ks,_,r=>by
  rw[AX]at r;cases r with
  | cons h t=>exact .cons (Jc h) (Gs t)
abbrev KT(H:Hp):List (List Key×V)->List (List Key×Addr×Value)->Prop:=Paired fun p q=>p.1=q.1/\H q.2.1=some (.tup (p.1.map kV))/\RelV p.2 q.2.2
theorem KT.val{H:Hp}{kvs:List (List Key×V)}{xs:List (List Key×Addr×Value)}(r:KT H kvs xs)(k:List Key):RelO (P2 kvs k) ((atKey xs k).map (·.2)):=by
 induction r with
 | nil=>exact True.intro
 | @cons p q ps qs h t ih =>
  obtain⟨h1,_,h2⟩:=h;by_cases e:p.1=k
  .have e':q.1=k:=h1.symm.trans e;have b:atKey (q::qs) k=some q.2:=by simp[atKey,FI,e']
   rw[J2 e,b];exact h2
  .have e':¬q.1=k:=fun z=>e (h1.trans z);have b:atKey (q::qs) k=atKey qs k:=by simp[atKey,FI,e']
   rw[I9 e,b];exact ih
theorem KT.repl{H:Hp}{kvs:List (List Key×V)}{xs:List (List Key×Addr×Value)}(r:KT H kvs xs)(k:List Key){y:V}{u:Value}(ry:RelV y u) :
  KT H (kvs.map fun kv=>if kv.1=k then(kv.1,y)else kv) (xs.map (putAt k u)):=by
 induction r with
 | nil=>exact .nil
 | @cons p q ps qs h t ih =>
  rw[AX,AX];refine .cons ?_ ih;obtain⟨h1,h2,h3⟩:=h;unfold putAt;by_cases e:p.1=k
  .rw[AL e,AL (h1.symm.trans e)];exact⟨h1,h2,ry⟩
  .rw[AJ e,AJ (fun z=>e (h1.trans z))];exact⟨h1,h2,h3⟩
theorem KT.put{H:Hp}{kvs:List (List Key×V)}{xs:List (List Key×Addr×Value)}(r:KT H kvs xs)(k:List Key){b:Addr}{y:V}{u:Value}(hb:H b=some (.tup (k.map kV)))(ry:RelV y u) :
  KT H (P5 kvs k y) (storedH xs k b u):=by
 have e:(kvs.any fun kv=>decide (kv.1=k)) =(atKey xs k).isSome:=by
  rw[d6,(r.val k).isSome_eq,Option.isSome_map]
 unfold P5 storedH;rw[e];by_cases q:(atKey xs k).isSome=true
 .rw[AL q,AL q];exact r.repl k ry
 .rw[AJ q,AJ q];exact Paired.snoc r ⟨rfl,hb,ry⟩
theorem KT.keeps{H H':Hp}{kvs:List (List Key×V)}{xs:List (List Key×Addr×Value)}(r:KT H kvs xs)(ht:∀b ys,H b=some (.tup ys)->H' b=some (.tup ys)):KT H' kvs xs :=
 Paired.mapP r fun _ _ z=>⟨z.1,ht _ _ z.2.1,z.2.2⟩
section
variable{P:Program}{w:World}{H:Hp}{h:Heap}{a:Addr}
theorem zCr{u:HO}(ok:HOk P w H h)(e:Rd H a u):ObjOk P w H h a u:=e.ok ok
theorem Vc{kvs:List (Key×V)}(ok:HOk P w H h)(e:Rd H a (.dK kvs)):kvs.length<=sizeLine/\(a == sysModules)=false/\∃vs,KV kvs vs/\h.DictOf (B9 P w) a vs :=
 show ObjOk P w H h a (.dK kvs)from zCr ok e
theorem Tw{kvs:List (Key×V)}(ok:HOk P w H h)(e:H a=some (.dK kvs)):kvs.length<=sizeLine/\(a == sysModules)=false/\∃vs,KV kvs vs/\h.DictOf (B9 P w) a vs:=Vc ok (.inl e)
theorem Bd{ks:List Key}(ok:HOk P w H h)(e:H a=some (.tup (ks.map kV))):(tupleKind (B9 P w)).is h ks a:=by
 obtain⟨_,its,r,o,h1,h2,n,h3⟩:=(show ObjOk P w H h a (.tup (ks.map kV))from ok a _ e);exact⟨o,its.toArray,n,h1,h2,h3,by simpa using Gs r⟩
theorem Ut{kvs:List (List Key×V)}(ok:HOk P w H h)(e:Rd H a (.dT kvs)):kvs.length<=sizeLine/\(a == sysModules)=false /\
  ∃xs,KT H kvs xs/\h.DictOfH (tupleKind (B9 P w)) a xs:=by
 obtain⟨z,y,xs,r,o,es,ep,h1,h2,h3,h4,h5⟩:=(show ObjOk P w H h a (.dT kvs)from zCr ok e);refine⟨z,y,xs,r,o,es,ep,h1,h2,h3,h4,fun x hx=>?_,h5⟩;have all:∀{l:List (List Key×V)} {m:List (List Key×Addr×Value)},KT H l m->∀x∈m,(tupleKind (B9 P w)).is h x.1 x.2.1:=by
  intro l m q
  induction q with
  | nil=>intro x hx;exact nomatch hx
  | @cons p q ps qs hq t ih =>
   intro x hx;rcases BD.mp hx with e | hx
   .subst e;exact Bd ok (by rw[<-hq.1];exact hq.2.1)
   .exact ih x hx
 exact all r x hx
theorem zEu{kvs:List (List Key×V)}(ok:HOk P w H h)(e:H a=some (.dT kvs)):kvs.length<=sizeLine/\(a == sysModules)=false /\
  ∃xs,KT H kvs xs/\h.DictOfH (tupleKind (B9 P w)) a xs:=Ut ok (.inl e)
end
def DGet(H:Hp)(a:Addr)(y:V)(r:Option V):Prop :=
 (∃kvs k,Rd H a (.dK kvs)/\y=kV k/\r=P2 kvs k)\/∃kvs k b,Rd H a (.dT kvs)/\y = .ref b/\H b=some (.tup (k.map kV))/\r=P2 kvs k
def zFg(H:Hp)(a:Addr)(y v:V)(H':Hp):Prop :=
 (∃kvs k,H a=some (.dK kvs)/\y=kV k/\kvs.length<sizeLine/\H'=upd H a (.dK (P5 kvs k v))) \/
 ∃kvs k b,H a=some (.dT kvs)/\y = .ref b/\H b=some (.tup (k.map kV))/\kvs.length<sizeLine/\H'=upd H a (.dT (P5 kvs k v))
theorem DGet.k{H:Hp}{a:Addr}{kvs:List (Key×V)}{k:Key}(e:H a=some (.dK kvs)):DGet H a (kV k) (P2 kvs k):=.inl ⟨kvs,k,.inl e,rfl,rfl⟩
section
variable{X:Cx}{pins:List (Addr×Obj)}{σ:St}{H:Hp}{s:Shared}{a:Addr}{y v:V}{u r:Value}{o:Option V}{A:Around}{E:Value->Shared->Prop}
theorem Inv.big(I:Inv X pins σ H s):sysModules<s.heap.objs.size:=by
 have h:mainGlobals<s.heap.objs.size:=(I.mod.glob.keeps I.bk).lt;exact Nat.lt_trans (by decide) h
theorem Rx{Q:Value->Shared->Prop}(hu:A.units+1<cLine)(I:Inv X pins σ H s)(g:DGet H a y (some v))(ry:RelV y u)(h:∀w' s',Inv X pins σ H s'->RelV v w'->Q w' s') :
  wpAny (model X.prog X.w) A (getItem (.ref a) u) Q E s:=by
 rcases g with⟨kvs,k,e,ey,l⟩ | ⟨kvs,k,b,e,ey,eb,l⟩
 .subst ey;obtain⟨z,hd,vs,rel,dd⟩:=Vc I.hok e;obtain⟨w',hw,rw'⟩:=RelO.some_of (v:=v) (o:=valueAt vs k) (by rw[l];exact rel.val k);exact wpAny_getItem_of (Jc ry) dd.mapOf hw (h w' _ (I.tok _) rw')
 .subst ey;cases(show u=Value.ref b from ry);obtain⟨z,hd,xs,rel,dd⟩:=Ut I.hok e;obtain⟨w',hw,rw'⟩:=RelO.some_of (v:=v) (o:=(atKey xs k).map (·.2)) (by rw[l];exact rel.val k);obtain⟨p,hp,hp2⟩:=CO.mp hw;refine wpAny_getItem_heap (tupleKind_room_in1 hu) (Bd I.hok eb) dd hp ?_;rw[hp2];exact h w' _ (I.tok _) rw'
theorem Dn{h':Heap}{t':Nat}{ob:HO}(I:Inv X pins σ H s)(mu:Mut (H a))(hs:Heap.SameBut a s.heap h')(he:∃q,h'.get? a=some q)(new:ObjOk X.prog X.w (upd H a ob) h' a ob) :
  Inv X pins σ (upd H a ob) { s with heap:=h',toks:=t' } :=
 I.write (x:=a) (e:=a) mu (.inl rfl) (fun b q hb z=>(hs.2 b hb).trans z) he new
theorem Oe{P:Program}{w:World}{H':Hp}{h':Heap}{kvs:List (Key×V)}{vs:List (Key×Value)}(z:kvs.length<=sizeLine)(hd:(a == sysModules)=false)(rel:KV kvs vs)(dd:h'.DictOf (B9 P w) a vs) :
  ObjOk P w H' h' a (.dK kvs):=⟨z,hd,vs,rel,dd⟩
theorem Qb{H':Hp}{Q:Unit->Shared->Prop}(hu:A.units+1<cLine)(I:Inv X pins σ H s)(g:zFg H a y v H')(ry:RelV y u)(rv:RelV v r)(h:∀s',Inv X pins σ H' s'->Q () s') :
  wpAny (model X.prog X.w) A (setItem (.ref a) u r) Q E s:=by
 rcases g with⟨kvs,k,e,ey,l,eH⟩ | ⟨kvs,k,b,e,ey,eb,l,eH⟩
 .subst ey eH;obtain⟨z,hd,vs,rel,dd⟩:=Tw I.hok e;have hz:vs.length<=sizeLine:=by rw[<-rel.length];exact z
  have hl:(P5 kvs k v).length<=sizeLine:=by have:=M9 kvs k v;omega
  refine wpAny_setItem_pairs (hsz:=hz) (Jc ry) dd fun h' dd' hs=>h _ ?_;have he:∃q,h'.get? a=some q:=let⟨q,_,_,hq,_⟩:=dd';⟨q,hq⟩;exact Dn I (by rw[e];exact True.intro) hs he (Oe hl hd (rel.put k rv) dd')
 .subst ey eH;cases(show u=Value.ref b from ry);obtain⟨z,hd,xs,rel,dd⟩:=zEu I.hok e;have hz:xs.length<=sizeLine:=by rw[<-Paired.length rel];exact z
  have hl:(P5 kvs k v).length<=sizeLine:=by have:=M9 kvs k v;omega
  refine wpAny_setItem_heap (hsz:=hz) (tupleKind_room_in1 hu) (Bd I.hok eb) dd fun h' dd' hs=>h _ ?_;obtain⟨q,es,ep,hq,h2,h3,h4,_,h5⟩:=dd';refine Dn I (by rw[e];exact True.intro) hs ⟨q,hq⟩ ⟨hl,hd,_,(rel.put k eb rv).keeps fun c ys ec=>?_,q,es,ep,hq,h2,h3,h4,h5⟩;rw[B3 (X0 ec e (fun z=>nomatch z))];exact ec
end
def zFl(i:Expr):Prop:=∀ov iv,subscripted i false ov iv=operate [ov,iv] (getItem ov iv)
theorem Zb{prog:Program}{w:World}{A:Around}{E:Value->Shared->Prop}{s:Shared}{env:Env}{value slice:Expr}{pos:Pos}{T id:String}{Q:Value->Shared->Prop}
  (hl:typeLookup (.type T) "__getitem__" = pure (some (.builtin id))) (hs:zFl slice)
  (h:wpAny (model prog w) A (eval value env) (fun o s₁=>wpAny (model prog w) A (eval slice env) (fun i s₂=>s₂.TypeIs o T/\wpAny (model prog w) A (getItem o i) Q E s₂) E s₁) E s) :
  wpAny (model prog w) A (eval (.Subscript value slice pos) env) Q E s:=by
 refine Subscript_ (BS h (fun o s₁ h₁=>BS h₁ (fun i s₂ h₂=>?_) fun _ _ x=>x) fun _ _ x=>x);obtain⟨hT,h₂⟩:=h₂;unfold subscriptTail;refine AA ?_;rw[getitemInPython_of_ne hT.not_modules];refine AA (wpAny_specialOf hT hl ?_);have fin:wpAny (model prog w) A (subscripted slice false o i) (fun r s₃=>wpAny (model prog w) A (letTemporaryGo value o r >>= fun _=>pure r) Q E s₃) E s₂:=by
  rw[hs o i];exact wpAny_operating (BS h₂ (fun r s₃ h₃=>AA (wpAny_letTemporaryGo (AF h₃))) fun _ _ x=>x)
 first
  | exact AF (AA fin)
  | exact AA (AF (AA fin))
  | exact AA fin
theorem Hm{X:Cx}{pins:List (Addr×Obj)}{σ:St}{H:Hp}{s:Shared}{a:Addr}{y:V}{o:Option V}(I:Inv X pins σ H s)(g:DGet H a y o):s.TypeIs (.ref a) "dict":=by
 rcases g with⟨kvs,k,e,_,_⟩ | ⟨kvs,k,b,e,_,_,_⟩
 .obtain⟨_,_,vs,_,dd⟩:=Vc I.hok e;exact dd.typeIs
 .obtain⟨_,_,xs,_,dd⟩:=Ut I.hok e;exact dd.typeIs
def zCp(td ty:TE):TE:=fun σ H Q=>td σ H fun x H1=>ty σ H1 fun y H2=>∃a v,x = .ref a/\DGet H2 a y (some v)/\Q v H2
def zEe(td ty tv:TE):TS:=fun D σ H=>tv σ H fun v H1=>td σ H1 fun x H2=>ty σ H2 fun y H3=>∃a H4,x = .ref a/\zFg H3 a y v H4/\D.nx σ H4
section
variable{X:Cx}{o i e value:Expr}{pos pos' tpos:Pos}{td ty tv:TE}
theorem J9(hu:X.A.units+1<cLine)(ho:PE X o td)(hi:PE X i ty)(hs:zFl i):PE X (.Subscript o i pos) (zCp td ty):=by
 intro pins s σ H Q I h;refine Zb PySem.F.slot_dict_getitem.lookup hs (thn (ho pins s σ H _ I h) fun u s1 ⟨x,H1,I1,rx,q1⟩=>thn (hi pins s1 σ H1 _ I1 q1) fun iv s2 ⟨y,H2,I2,ry,a,v,ex,g,q2⟩=>?_);subst ex;obtain rfl:u=Value.ref a:=rx;exact⟨Hm I2 g,Rx hu I2 g ry fun w' s3 I3 rw'=>⟨v,H2,I3,rw',q2⟩⟩
theorem Hz(hu:X.A.units+1<cLine)(ho:PE X o td)(hi:PE X i ty)(hv:PE X value tv)(hs:swapsWith value (some (.Subscript o i pos')) pos.line X.env=pure false) :
  PS X (.Assign [.Subscript o i pos'] value pos) (zEe td ty tv):=by
 intro pins s σ H D I h;refine wpAny_Assign_Subscript (thn (hv pins s σ H _ I h) fun r s1 ⟨v,H1,I1,rv,q1⟩=>thn (ho pins s1 σ H1 _ I1 q1) fun u s2 ⟨x,H2,I2,rx,q2⟩=>thn (hi pins s2 σ H2 _ I2 q2) fun iv s3 ⟨y,H3,I3,ry,a,H4,ex,g,q3⟩=>?_) hs;subst ex;obtain rfl:u=Value.ref a:=rx;exact Qb hu I3 g ry rv fun s4 I4=>⟨σ,H4,I4,q3⟩
end
theorem Jp{P:Program}{w:World}{H:Hp}(h:Heap)(hb:sysModules<h.objs.size):ObjOk P w H (h.push { cls:=.type "dict",data:=.dict #[] }) h.objs.size (.dK []) :=
 ⟨CH _,beq_eq_false_iff_ne.mpr (Ne.symm (BB hb)),[],.nil,Heap.DictOf.new h⟩
def Rk:List (TE×TE)->St->Hp->(List (V×V)->Hp->Prop)->Prop
 | [],_,H,Q=>Q [] H
 | (tk,tv)::r,σ,H,Q=>tk σ H fun x H1=>tv σ H1 fun y H2=>Rk r σ H2 fun ps H3=>Q ((x,y)::ps) H3
abbrev VV:List (V×V)->List (Value×Value)->Prop:=Paired fun p q=>RelV p.1 q.1/\RelV p.2 q.2
def PPs(X:Cx)(pos:Pos)(keys:List (Option Expr))(values:List Expr)(trs:List (TE×TE)):Prop :=
 ∀(pins:List (Addr×Obj)) (s:Shared) (σ:St) (H:Hp) (Q:List (V×V)->Hp->Prop),Inv X pins σ H s->Rk trs σ H Q ->
  wpAny (model X.prog X.w) X.A (evalPairs (pairTrees keys values X.env pos)) (fun vs s'=>∃ps H',Inv X pins σ H' s'/\VV ps vs/\Q ps H') X.xe s
theorem Zl{X:Cx}{pos:Pos}:PPs X pos [] [] []:=fun pins s σ H Q I h=>pairTrees_nil_walk ⟨[],H,I,.nil,h⟩
theorem Kw{X:Cx}{pos:Pos}{k v:Expr}{ks:List (Option Expr)}{vs:List Expr}{tk tv:TE}{trs:List (TE×TE)}(hk:PE X k tk)(hv:PE X v tv)(hr:PPs X pos ks vs trs) :
  PPs X pos (some k::ks) (v::vs) ((tk,tv)::trs):=fun pins s σ H Q I h =>
 pairTrees_cons_walk (thn (hk pins s σ H _ I h) fun u s1 ⟨x,H1,I1,rx,q1⟩=>thn (hv pins s1 σ H1 _ I1 q1) fun w2 s2 ⟨y,H2,I2,ry,q2⟩ =>
  thn (hr pins s2 σ H2 _ I2 q2) fun ws s3 ⟨ps,H3,I3,rel,q3⟩=>⟨(x,y)::ps,H3,I3,.cons ⟨rx,ry⟩ rel,q3⟩)
def P9(kvs more:List (Key×V)):List (Key×V):=more.foldl (fun acc kv=>P5 acc kv.1 kv.2) kvs
theorem KV.merge:∀{more:List (Key×V)} {rs:List (Key×Value)} {kvs:List (Key×V)} {vs:List (Key×Value)},KV more rs->KV kvs vs->KV (P9 kvs more) (merged vs rs):=by
 intro more rs kvs vs r;unfold KV at r
 induction r generalizing kvs vs with
 | nil=>intro q;exact q
 | @cons p q ps qs h t ih =>
  intro r0;have e:KV (P5 kvs p.1 p.2) (stored vs q.1 q.2):=by
   have:=r0.put p.1 h.2;rw[<-h.1];exact this
  exact ih e
theorem j4:∀(more kvs:List (Key×V)),(P9 kvs more).length<=kvs.length+more.length
 | [],kvs=>by show kvs.length<=kvs.length+0;omega
 | p::r,kvs=>by
  have h1:=j4 r (P5 kvs p.1 p.2);have h2:=M9 kvs p.1 p.2;show(P9 (P5 kvs p.1 p.2) r).length<=_;rw[BM];omega
theorem Bx{P:Program}{w:World}:∀{kvs:List (Key×V)} {ws:List (Value×Value)},VV (kvs.map fun kv=>(kV kv.1,kv.2)) ws->∃rs,Carries (B9 P w) ws rs/\KV kvs rs
 | [],_,r=>by rw[HB]at r;cases r;exact⟨[],True.intro,.nil⟩
 | p::kvs,_,r=>by
  rw[AX]at r;cases r with
  | @cons a b as bs h t =>
   obtain⟨rs,c,q⟩:=Bx (P:=P) (w:=w) t;obtain⟨b1,b2⟩:=b;exact⟨(p.1,b2)::rs,⟨Jc h.1,rfl,c⟩,.cons ⟨rfl,h.2⟩ q⟩
def zDx(trs:List (TE×TE)):TE:=fun σ H Q=>∀p,H p=none->Rk trs σ (upd H p (.dK [])) fun ps H2=>H2 p=some (.dK [])/\∃kvs:List (Key×V),ps=kvs.map (fun kv=>(kV kv.1,kv.2))/\kvs.length<=15/\Q (.ref p) (upd H2 p (.dK (P9 [] kvs)))
theorem Xw{X:Cx}{pos:Pos}{keys:List (Option Expr)}{values:List Expr}{trs:List (TE×TE)}(h:PPs X pos keys values trs)(hall:keys.all (·.isSome)=true)(hl:keys.length=values.length)(h0:keys≠[])
  (h15:keys.length<=15):PE X (.Dict keys values pos) (zDx trs):=by
 intro pins s σ H Q I q;have hn:=I.hok.fresh (Nat.le_refl s.heap.objs.size);have I1:=I.laid (a:=s.heap.objs.size) (o:=.dK []) (h':=s.heap.push { cls:=.type "dict",data:=.dict #[] }) (t':=s.toks) (fun _ _ q=>AD _ q) (Nat.le_refl _) (Jp s.heap I.big);refine wpAny_Dict_walk (knd:=B9 X.prog X.w) hall hl h0 h15 (thn (h pins _ σ _ _ I1 (q _ hn)) fun ws s2 ⟨ps,H2,I2,rel,e,kvs,ep,lk,q2⟩=>?_);subst ep;obtain⟨rs,c,rk⟩:=Bx (P:=X.prog) (w:=X.w) rel;obtain⟨z,hd,vs0,r0,dd⟩:=Tw I2.hok e;cases r0;refine⟨rs,c,dd,fun h' dd' hs=>⟨.ref s.heap.objs.size,_,?_,rfl,q2⟩⟩;have hz:(P9 [] kvs).length<=sizeLine:=by
  have h1:=j4 kvs [];rw[FU]at h1;rw[sizeLine_eq];omega
 have he:∃q,h'.get? s.heap.objs.size=some q:=let⟨q,_,_,hq,_⟩:=dd';⟨q,hq⟩;exact Dn I2 (by rw[e];exact True.intro) hs he (Oe hz hd (rk.merge .nil) dd')
def IsD(H:Hp)(a:Addr):Prop:=(∃kvs,Rd H a (.dK kvs))\/∃kvs,Rd H a (.dT kvs)
theorem zAd{X:Cx}{pins:List (Addr×Obj)}{σ:St}{H:Hp}{s:Shared}{a:Addr}(I:Inv X pins σ H s)(d:IsD H a) :
  s.TypeIs (.ref a) "dict"/\(∀b,Value.ref a = .ref b->∃ob,s.heap.get? b=some ob/\ob.dict=none)/\(a == sysModules)=false:=by
 rcases d with⟨kvs,e⟩ | ⟨kvs,e⟩
 .obtain⟨_,hd,vs,_,dd⟩:=Vc I.hok e;refine⟨dd.typeIs,fun b q=>?_,hd⟩;cases q;obtain⟨ob,_,_,h1,h2,_⟩:=dd;exact⟨ob,h1,h2.2.1⟩
 .obtain⟨_,hd,xs,_,dd⟩:=Ut I.hok e;refine⟨dd.typeIs,fun b q=>?_,hd⟩;cases q;obtain⟨ob,_,_,h1,h2,_⟩:=dd;exact⟨ob,h1,h2.2.1⟩
end L2
namespace Att
open PySem PySem.W PySem.Calls PyProof.Rows
theorem Ag{P:Params}{h:Heap}:∀(ns:List Int) (vs:List Value),WellAll P h vs (ns.map WData.int)->IntsAre vs ns:=by
 intro ns
 induction ns with
 | nil =>
  intro vs w;rw[HB]at w;cases w;exact .nil
 | cons n ns ih =>
  intro vs w;rw[AX]at w;cases w with
  | cons a b =>
   cases a;exact .cons _ _ (ih _ b)
theorem Qk{l:OpenLaw}{n:Nat}(hn:l.most=some n){P:Params}{h:Heap}{args:List WData}{vals:List Value}
  (hpre:l.row.toRowW.claim.pre args=true) (hwl:WellAll P h vals args) :
  ∃a vs ns,vals = [Value.ref a]/\args = [WData.list (ns.map WData.int)]/\h.get? a=some { cls:=.type "list",data:=.seq vs.toArray }/\IntsAre vs ns/\ns.length<=n:=by
 have hsh:WShape.hasAll [] args [.list .int]=true:=(pre_splitW hpre).1;have hc:l.pre.holds [] { args:=args }=true:=(pre_splitW hpre).2;obtain⟨d,r,rfl,h1,h2⟩:=hasAllW_cons hsh;obtain rfl:=hasAllW_nil h2;obtain⟨xs,rfl,h3⟩:=hasW_list h1;obtain⟨ns,rfl⟩:=items_int h3;have hlen:ns.length<=n:=by
  unfold OpenLaw.pre at hc;have h4:(WTm.not (.lt (.lit (.int (n:Int))) (.len (.arg 0)))).holds [] { args:=[.list (ns.map .int)] }=true:=by
   have h4:=(holds_andW hc).1;rw[hn]at h4;exact h4
  have h5:=condW_of h4 (w_not (w_lt w_lit (w_len_list (w_arg rfl))));rw[AB]at h5;refine Nat.le_of_not_lt fun q=>?_;have q':(n:Int) <((ns.length:Nat):Int):=by omega
  first
   | (rw[AQ q']at h5;exact absurd h5 (by decide))
   | (simp at h5;omega)
 cases hwl with
 | cons w1 w2 =>
  cases w2;cases w1 with
  | list ho hall=>exact⟨_,_,ns,rfl,rfl,ho,Ag ns _ hall,hlen⟩
theorem Rn(l:OpenLaw)(args:List WData):l.row.toRowW.claim.post args (.bool true) args=true :=
 postW_of (r:=l.row.toRowW) (X:=(true == true))
  (show WShape.has [] (.bool true) .bool=true by first | rfl | decide | simp[WShape.has,WShape.arms,WShape.armsAll])
  (show(WTm.eq .res (.lit (.bool true))).value [] { args:=args,res:=some (.bool true),after:=args }=some (.bool (true == true))from w_eq_bool (w_res rfl) w_lit) rfl
theorem attach_call{l:OpenLaw}{n:Nat}{q:Program}{loose:List Str}{XP:(Str->Option Value)->Heap->Prop}{YP:World->Heap->Prop}{d:DefRec}
  (hn:l.most=some n) (hdf:d.params.defaults = [])
  (call:∀(w:World) (s₀ s₁:Shared) (mg mb:Str->Option Value) (fa:Addr) (o:Obj) (pm cd doc:Value) (a:Addr) (vs:List Value) (ns:List Int),
   Ground q loose [] XP w s₀ mg mb s₁.heap->YP w s₁.heap ->
   s₁.heap.get? fa=some o->o.data = .func (docDef d.name d.params d.body d.scope pm cd doc)->s₁.heap.CodeRec cd d.name->mg d.name=some (.ref fa) ->
   s₁.heap.get? a=some { cls:=.type "list",data:=.seq vs.toArray }->IntsAre vs ns->ns.length<=n->s₁.gens = #[] ->
   codeAny (model l.prog w) callerA (.call (.ref fa) ⟨[.ref a],[]⟩) (fun r s'=>r = .ok (.ret (.bool true))/\OldK s₁.heap s'.heap/\s'.os=s₁.os/\AllBare s'.gens) s₁) :
  WalkO q loose XP YP l.row.toRowW d [] (fun f vs=>PySem.call f vs):=by
 intro w s₀ s₁ mg mb G Y fa o pm cd doc dV kV ho hd hcd hD hmg hg args vals as hpre hlay hrd hwl hlo;obtain rfl:dV = .none:=Dflts.none hD hdf;obtain rfl:kV = .none:=Dflts.noKw hD;obtain⟨a,vs,ns,rfl,rfl,hobj,hints,hlen⟩:=Qk hn hpre hwl;refine enter_call (codeAny_mono (call w s₀ s₁ mg mb fa o pm cd doc a vs ns G Y ho (fd_plain hd) hcd hmg hobj hints hlen hg) fun r s' hq=>?_);obtain⟨rfl,h2,h3,h4⟩:=hq;exact⟨.inl ⟨.bool true,.bool true,[],rfl,fun _=>rfl,.bool true,Rn l _,fun _=>⟨List.Pairwise.nil,fun _ hm=>(nomatch hm)⟩⟩,h2,h3,h4⟩
end Att
namespace L2
open PySem PySem.Spec PyProof.Rows
theorem Fm:∀{vs:List Value} {ns:List Int},IntsAre vs ns->Vals (ns.map V.int) vs
 | _,_,.nil=>.nil
 | _,_,.cons n t h=>.cons ⟨t,rfl⟩ (Fm h)
def zDs(H:Hp):Prop:=∀b,H b=none\/∃o xs,H b=some (.frz o (.lst xs))
theorem Te{P:Program}{w:World}{K:PySem.W.Frag}{mg mb:Str->Option Value}{CX:CXT}{k:Nat}{fa a:Addr}{fd:FuncData}{x:Str}{sp:Sp}{s₁:Shared}{vs:List Value}{ns:List Int}
  (KX:K.In s₁.heap) (hns:s₁.heap.Ns mainGlobals mg) (hb:s₁.heap.Ns builtinsNs mb) (hbb:∀x:Str,x≠ "__name__"->mb x=bootBuiltins x) (hlim:s₁.heap.NoLimit) (hg:s₁.gens = #[])
  (ha:s₁.heap.get? a=some { cls:=.type "list",data:=.seq vs.toArray }) (hi:IntsAre vs ns) (hl:ns.length<=sizeLine) (hr:Room k callerA)
  (F:∀base:Heap,K.In base->base.Ns mainGlobals mg->FnOk P w K mg base CX k fa fd [x] sp) (hbind:∀(s:Shared) (u:Value),BindsTo s fd ⟨[u],[]⟩ [(x,u)])
  (hsp:∀H:Hp,zDs H->SqL K H a (ns.map V.int)->sp [.ref a] H (fun v _=>v = .bl true) fun _ _ _=>False)
  (hCX:∀H e s',CX [] H s₁ (fun _ _ _=>False) e s'->False) :
  codeAny (model P w) callerA (.call (.ref fa) ⟨[.ref a],[]⟩) (fun r s'=>r = .ok (.ret (.bool true))/\OldK s₁.heap s'.heap/\s'.os=s₁.os/\AllBare s'.gens) s₁:=by
 have rv:=Fm hi;have lenV:=hi.length;have core:∀H:Hp,zDs H->SqL K H a (ns.map V.int)->HOk P w H s₁.heap->(∀b,H b≠none->b=a)->(H a≠none->K.lookup a=none) ->
   codeAny (model P w) callerA (.call (.ref fa) ⟨[.ref a],[]⟩) (fun r s'=>r = .ok (.ret (.bool true))/\OldK s₁.heap s'.heap/\s'.os=s₁.os/\AllBare s'.gens) s₁:=by
  intro H hO hS hok hA hK;have base_of:∀{b:Addr} {o:Obj},s₁.heap.get? b=some o->H b=none->(Uq s₁.heap H).get? b=some o:=fun e n=>Uc e n;have noA:∀{b:Addr} {o:Obj} {es:Array DictEntry} {ep:Nat},s₁.heap.get? b=some o->o.data = .dict es ep->H b=none:=fun{b o es ep} e d=>by
   cases q:H b with
   | none=>rfl
   | some u =>
    have e':b=a:=hA b (by rw[q];simp);subst e';rw[ha]at e;cases e;have d':Data.seq vs.toArray _=Data.dict es ep:=d;cases d'
  have nsK:∀{b:Addr} {m:Str->Option Value},s₁.heap.Ns b m->(Uq s₁.heap H).Ns b m:=fun{b m} ⟨o,es,ep,e,d,r⟩=>⟨o,es,ep,base_of e (noA e d),d,r⟩;have hKb:K.In (Uq s₁.heap H):=fun b o e=>base_of (KX b o e) (by
   cases q:H b with
   | none=>rfl
   | some u =>
    have e':b=a:=hA b (by rw[q];simp);subst e';rw[hK (by rw[q];simp)]at e;cases e)
  have hM:Mod K mg (Uq s₁.heap H):=⟨hKb,nsK hns,⟨mb,nsK hb,hbb⟩,let⟨mc,h1,h2⟩:=hlim;⟨mc,nsK h1,h2⟩⟩;have e0:Env0 P w K mg (Uq s₁.heap H) callerA [] s₁ H:=⟨rfl,hM,fun b o e=>Yr e,Nat.le_of_eq (Pr _ _),trivial,fun b hb=>absurd (show b∈([]:List Addr)from hb) (by simp),hok,.of_eq hg⟩;refine codeAny_mono ((F _ hKb (nsK hns)).run callerA [] s₁ H ⟨[.ref a],[]⟩ [.ref a] [.ref a] _ _ hr e0 (hbind s₁ (.ref a)) (.cons rfl .nil) (hsp H hO hS)) fun r s' h=>?_;cases r with
  | error e=>exact(hCX H e s' h).elim
  | ok fl =>
   cases fl with
   | next=>exact False.elim h
   | brk=>exact False.elim h
   | cont=>exact False.elim h
   | ret u =>
    obtain⟨v,H',os,bare,un,hok',r',q⟩:=h;have q':v = .bl true:=q;subst q';obtain rfl:u=Value.bool true:=r';refine⟨rfl,OldK.of_keep fun b o e=>?_,os,bare⟩;cases q:H b with
    | none=>exact un.keep b o e q (by intro z;exact absurd (show b∈([]:List Addr)from z) (by simp)) (by simp)
    | some u =>
     rcases hO b with z | ⟨ob,xs,z⟩
     .rw[q]at z;cases z
     .have z2:=un.frzs b ob _ z;obtain⟨e1,_⟩:=hok b _ z;obtain⟨e2,_⟩:=hok' b _ z2;rw[e]at e1;cases e1;exact e2
 cases hk:K.lookup a with
 | some o =>
  have e:=KX a o hk;rw[ha]at e;cases e;refine core (fun _=>none) (fun _=>.inl rfl) (.inr ⟨_,vs.toArray,_,hk,rfl,rfl,rfl,by rw[BA,lenV];exact hl,by simpa using rv⟩) (fun b u z=>by have z':(none:Option HO)=some u:=z;cases z') (fun b z=>absurd rfl z) fun z=>absurd rfl z
 | none =>
  refine core (fun b=>if b=a then some (.frz { cls:=.type "list",data:=.seq vs.toArray } (.lst (ns.map V.int)))else none) (fun b=>?_) (.inl (.inr ⟨{ cls:=.type "list",data:=.seq vs.toArray },AL rfl⟩)) (fun b u z=>?_) (fun b z=>?_) fun _=>hk
  .by_cases hb:b=a
   .exact .inr ⟨_,_,AL hb⟩
   .exact .inl (AJ hb)
  .by_cases hb:b=a
   .have z':=(AL hb).symm.trans z;cases z';subst hb;exact⟨ha,by rw[AB];exact hl,vs,_,rv,ha⟩
   .have z':=(AJ hb).symm.trans z;cases z'
  .by_cases hb:b=a
   .exact hb
   .exact absurd (AJ hb) z
theorem walk_of{l:PySem.W.OpenLaw}{n k:Nat}{q:Program}{loose:List Str}{XP:(Str->Option Value)->Heap->Prop}{YP:World->Heap->Prop}{d:DefRec}{K:Params->PySem.W.Frag}{CX:World->CXT}{sp:World->Sp}{x:Str}
  (hn:l.most=some n) (hn2:n<=sizeLine) (hdf:d.params.defaults = []) (hr:Room k callerA)
  (hY:∀(w:World) (h:Heap),YP w h->(K w.params).In h)
  (F:∀(w:World) (mg:Str->Option Value) (fa:Addr) (h:Heap),(K w.params).In h->h.Ns mainGlobals mg->mg d.name=some (.ref fa) ->
   ∃fd:FuncData,(∀(s:Shared) (u:Value),BindsTo s fd ⟨[u],[]⟩ [(x,u)]) /\
    ∀base:Heap,(K w.params).In base->base.Ns mainGlobals mg->FnOk l.prog w (K w.params) mg base (CX w) k fa fd [x] (sp w))
  (hsp:∀(w:World) (H:Hp) (a:Addr) (ns:List Int),ns.length<=n->zDs H->SqL (K w.params) H a (ns.map V.int)->sp w [.ref a] H (fun v _=>v = .bl true) fun _ _ _=>False)
  (hCX:∀(w:World) (H:Hp) (s:Shared) (e:Value) (s':Shared),CX w [] H s (fun _ _ _=>False) e s'->False) :
  PySem.W.WalkO q loose XP YP l.row.toRowW d [] (fun f vs=>PySem.call f vs):=by
 refine Att.attach_call hn hdf fun w s₀ s₁ mg mb fa o pm cd doc a vs ns G Y ho hd hcd hmg hobj hints hlen hg=>?_;have KX:=hY w _ Y;obtain⟨fd,hb,hF⟩:=F w mg fa _ KX G.T.g hmg;exact Te KX G.T.g G.T.b G.T.builtins G.T.nolimit hg hobj hints (Nat.le_trans hlen hn2) hr hF hb (fun H hO hS=>hsp w H a ns hlen hO hS) fun H e s'=>hCX w H s₁ e s'
def G0(s:Stmt)(j:Nat):Stmt:=match s with
 | .ClassDef _ _ _ body _ _ _ _ _ _ _=>body.getD j (.Pass ⟨0,0,0,0⟩)
 | _=>.Pass ⟨0,0,0,0⟩
def P4(s:Stmt):Arguments:=match s with
 | .FunctionDef _ a _ _ _ _ _ _ _ _=>a
 | _=>{ posonlyargs:=[],args:=[],vararg:=none,kwonlyargs:=[],kw_defaults:=[],kwarg:=none,defaults:=[] }
def K3(s:Stmt):List Stmt:=match s with
 | .FunctionDef _ _ b _ _ _ _ _ _ _=>b
 | _=>[]
def B4(s:Stmt):Scope:=match s with
 | .FunctionDef _ _ _ _ _ _ sc _ _ _=>sc
 | _=>{ kind:=.function,names:=[],isGenerator:=false,isCoroutine:=false }
abbrev CX0:CXT:=fun _ _ _ _ _ _=>False
abbrev E0:XK:=fun _ _ _=>False
theorem J8{X:Cx}:i6 CX0 X E0:=fun _ _ _ _ _ _ _ h=>h.elim
structure Fun(K:PySem.W.Frag)(x qual:Str)(st:Stmt)(f:Addr)(fd:FuncData):Prop where
 ex:∃(oc:Value) (od:Option Addr) (kV doc pm:Value) (an:Option Addr) (cdv ct:Value) (osl:Array (Option Value)),
  fd=PySem.W.fnOf x qual (P4 st) (K3 st) (B4 st) .none kV doc pm an cdv ct/\K.lookup f=some ⟨oc,od,.func fd,osl⟩/\PySem.W.codeIn K cdv qual=true
 kp:PySem.W.keepIn K (.ref f)=true
section
variable{P:Program}{w:World}{K:PySem.W.Frag}{mg:Str->Option Value}{base:Heap}
theorem Fun.ok{x qual:Str}{st:Stmt}{f:Addr}{fd:FuncData}{N ps:List Str}{k:Nat}{sp:Sp}(F:Fun K x qual st f fd)(S:FnScope N ps (B4 st))(len:∀vs H Q E,sp vs H Q E->vs.length=ps.length)
  (hbody:∀(cdv:Value) (A:Around) (outer:List Env) (s:Shared) (H:Hp) (vs:List V) (Q:VK) (E:XK),Room k (A.deeper (envOfC qual (B4 st) s.heap.objs.size f cdv))->sp vs H Q E ->
   ∃t,PSs (Wr CX0 P w K mg base N qual (B4 st) f cdv A outer s H E).nox (K3 st) t/\t { nx:=fun _ H'=>Q .non H',rt:=Q } (Ej N vs) H):FnOk P w K mg base CX0 (k+1) f fd ps sp:=by
 obtain⟨oc,od,kV,doc,pm,an,cdv,ct,osl,rfl,lk,hcd⟩:=F.ex;refine zCb lk hcd S len fun A outer s H vs Q E hr hsp=>?_;obtain⟨t,h,q⟩:=hbody cdv A outer s H vs Q E hr hsp;exact⟨t,h.nox,q⟩
theorem Fun.binds{x qual:Str}{st:Stmt}{f:Addr}{fd:FuncData}{ps:List Str}(F:Fun K x qual st f fd)
  (h:∀(kV doc pm:Value) (an:Option Addr) (cdv ct:Value) (us:List Value),us.length=ps.length->bindArgs (PySem.W.fnOf x qual (P4 st) (K3 st) (B4 st) .none kV doc pm an cdv ct) ⟨us,[]⟩=pure (ps.zip us)):Binds K fd ps []:=by
 obtain⟨oc,od,kV,doc,pm,an,cdv,ct,osl,rfl,lk,hcd⟩:=F.ex;exact .all (h kV doc pm an cdv ct)
theorem fun_mk{x qual:Str}{st:Stmt}{f:Addr}{oc:Value}{od an:Option Addr}{osl:Array (Option Value)}{kV doc pm cdv ct:Value}(l:K.lookup f=some ⟨oc,od,.func (PySem.W.fnOf x qual (P4 st) (K3 st) (B4 st) .none kV doc pm an cdv ct),osl⟩)
  (c:PySem.W.codeIn K cdv qual=true) (k:PySem.W.keepIn K (.ref f)=true):Fun K x qual st f (PySem.W.fnOf x qual (P4 st) (K3 st) (B4 st) .none kV doc pm an cdv ct):=⟨⟨oc,od,kV,doc,pm,an,cdv,ct,osl,rfl,l,c⟩,k⟩
end
theorem u7{A:Around}{k:Nat}(hr:Room k A):A.units+1<cLine:=Nat.lt_of_le_of_lt (GA (by decide:1<=64) _) hr.units
section
variable{X:Cx}
theorem pv(i:Nat){x:Str}{pos:Pos}(hN:X.N[i]?=some x:=by rfl)(hv:Vis X.env.scope x:=by first | exact Or.inl rfl | exact Or.inr (Or.inl rfl) | exact Or.inr (Or.inr rfl))(hd:(x ==("__debug__":Str))=false:=by decide)
  (hcd:(x ==("__classdict__":Str))=false:=by decide):PE X (.Name x pos) (Lq i):=Wj hN hv hd hcd
end
theorem X1{A B:Prop}(h:B):if false=true then A else B:=by
 rw[AJ AY];exact h
theorem Mh{A B:Prop}(h:A):if true=true then A else B:=by
 rw[AL rfl];exact h
theorem Q6{c A B:Prop}[Decidable c](h1:c->A)(h2:¬c->B):if c then A else B:=by
 by_cases h:c
 .rw[AL h];exact h1 h
 .rw[AJ h];exact h2 h
def Same(H H':Hp):Prop:=∀b o,H b=some o->H' b=some o
theorem Same.refl(H:Hp):Same H H:=fun _ _ h=>h
theorem Same.trans{H H1 H2:Hp}(a:Same H H1)(b:Same H1 H2):Same H H2:=fun c o h=>b c o (a c o h)
theorem Same.free{H H':Hp}(e:Same H H'){l:Addr}(h:H' l=Option.none):H l=Option.none:=by
 cases q:H l with
 | none=>rfl
 | some o =>
  rw[e l o q]at h;cases h
section
variable{Z:Type}[DecidableEq Z]
theorem Rb:∀{l:List Z} {k:Z},l.Nodup->¬k∈l->(l ++ [k]).Nodup
 | [],k,_,_=>by simp
 | a::r,k,h,hk=>by
  obtain⟨h1,h2⟩:=D_.mp h;show(a ::(r ++ [k])).Nodup;refine D_.mpr ⟨fun m=>?_,Rb h2 fun m=>hk (BD.mpr (Or.inr m))⟩;rcases AR.mp m with q | q
  .exact h1 q
  .exact hk (BD.mpr (Or.inl (AE.mp q).symm))
end
def cxC(X:Cx)(scope:Scope)(cl:List (Str×Addr))(N':List Str)(pins:List (Addr×Obj))(ex:List Addr)(s3:Shared)(H3:Hp):Cx where
 prog:=X.prog
 w:=X.w
 K:=X.K
 mg:=X.mg
 base:=X.base
 A:=X.A
 N:=N'
 s₀:=s3
 H₀:=H3
 env:=compEnvC scope cl s3.heap.objs.size X.env
 outer:=X.stack
 stack:=X.stack
 ex:=ex
 fn:=fun _=>false
 calm:=X.calm
 pn:=X.pn++pins
 xe:=fun _ _=>False
def Caps(X:Cx)(scope:Scope)(cl:List (Str×Addr)):List Str->List (Option Nat)->Prop
 | [],[]=>True
 | _::N,none::c=>Caps X scope cl N c
 | x::N,some j::c=>(X.N[j]?=some x/\X.env.scope.names.lookup x=some .cell/\(relabel scope X.env).names.lookup x=some .cell/\cl.lookup x=X.env.cells.lookup x)/\Caps X scope cl N c
 | _,_=>False
def ClIn(X:Cx):List (Str×Addr)->Prop
 | []=>True
 | p::r=>X.env.cells.lookup p.1=some p.2/\ClIn X r
structure CScope(X:Cx)(scope:Scope)(cl:List (Str×Addr))(N':List Str)(cap:List (Option Nat)):Prop where
 kind:scope.kind = .function
 nocell:∀y∈scope.names,y.2≠ .cell
 loc:∀y∈scope.names,y.2 = .local->scope.names.lookup y.1=some .local
 clos:closureFor scope X.env=pure cl
 cin:ClIn X cl
 has:((relabel scope X.env).names.all fun y=>!(y.2 == .cell||y.2 == .free)||(cl.lookup y.1).isSome)=true
 caps:Caps X scope cl N' cap
def Kv(cap:List (Option Nat))(σ:St):St:=cap.map fun o=>o.bind fun j=>(σ[j]?).join
theorem ClIn.get{X:Cx}:∀{cl:List (Str×Addr)} {x:Str} {c:Addr},ClIn X cl->cl.lookup x=some c->X.env.cells.lookup x=some c
 | [],_,_,_,h=>by simp at h
 | (y,d)::r,x,c,⟨h1,h2⟩,h=>by
  rw[IE]at h;cases e:x == y with
  | true =>
   rw[e]at h;cases h;rw[beq_iff_eq.mp e];exact h1
  | false =>
   rw[e]at h;exact ClIn.get h2 h
theorem Caps.len{X:Cx}{scope:Scope}{cl:List (Str×Addr)}:∀{N:List Str} {cap:List (Option Nat)},Caps X scope cl N cap->cap.length=N.length
 | [],[],_=>rfl
 | _::N,none::c,h=>by rw[BM,BM,Caps.len (N:=N) (cap:=c) h]
 | _::N,some j::c,h=>by rw[BM,BM,Caps.len h.2]
 | [],_::_,h=>h.elim
 | _::_,[],h=>h.elim
theorem Caps.get{X:Cx}{scope:Scope}{cl:List (Str×Addr)}{j:Nat}{x:Str}:∀{N:List Str} {cap:List (Option Nat)} {i:Nat},Caps X scope cl N cap->N[i]?=some x->cap[i]?=some (some j) ->
  X.N[j]?=some x/\X.env.scope.names.lookup x=some .cell/\(relabel scope X.env).names.lookup x=some .cell/\cl.lookup x=X.env.cells.lookup x
 | [],_,_,_,h,_=>by simp at h
 | _::_,[],_,_,_,h=>by simp at h
 | y::N,none::c,0,_,_,h=>by simp at h
 | y::N,none::c,i+1,h,h1,h2=>Caps.get (N:=N) (cap:=c) (i:=i) h (by simpa using h1) (by simpa using h2)
 | y::N,some k::c,0,h,h1,h2=>by
  simp at h1 h2;subst h1;subst h2;exact h.1
 | y::N,some k::c,i+1,h,h1,h2=>Caps.get (N:=N) (cap:=c) (i:=i) h.2 (by simpa using h1) (by simpa using h2)
section
variable{X:Cx}{scope:Scope}{cl:List (Str×Addr)}{N':List Str}{cap:List (Option Nat)}{pins:List (Addr×Obj)}{σ:St}{H3:Hp}{s3:Shared}{ex:List Addr}
theorem j8{p:NameKind->Bool}:∀{names:List (Str×NameKind)} {q:Str->NameKind->Bool} {x:Str} {k:NameKind},(names.all fun y=>q y.1 y.2)=true->names.lookup x=some k->q x k=true
 | [],_,_,_,_,h=>by simp at h
 | (y,d)::r,q,x,k,ha,h=>by
  rw[List.all_cons,BU]at ha;rw[IE]at h;cases e:x == y with
  | true =>
   rw[e]at h;cases h;rw[beq_iff_eq.mp e];exact ha.1
  | false =>
   rw[e]at h;exact j8 (p:=p) (names:=r) (q:=q) ha.2 h
theorem Inv.block(I:Inv X pins σ H3 s3)(S:CScope X scope cl N' cap)(hc:X.calm=true)(hex:∀b∈ex,Be X pins H3 b/\∃o,s3.heap.get? b=some o){h1:Heap}{tk:Nat}
  (hns:h1.Ns s3.heap.objs.size (fun _=>none)) (hk:∀b o,s3.heap.get? b=some o->h1.get? b=some o) :
  Inv (cxC X scope cl N' pins ex s3 H3) [] (Kv cap σ) H3 { s3 with heap:=h1,toks:=tk }:=by
 have lt3:∀b o,s3.heap.get? b=some o->b≠s3.heap.objs.size:=fun b o e=>BB (AI e);have hcell:∀x c,cl.lookup x=some c->∃v,s3.heap.IsCell c v:=fun x c e=>I.cell x c (S.cin.get e);have hfree:H3 s3.heap.objs.size=none:=I.hok.fresh (Nat.le_refl _);refine⟨⟨I.ok.mod,?_,I.ok.glob,I.ok.blt,Nat.le_refl _,fun x y c e1 e2=>I.ok.inj x y c (S.cin.get e1) (S.cin.get e2),fun x hx=>?_,fun x c h _=>absurd h AY,I.ok.hd,I.ok.frames,.inl rfl,fun b hb=>?_,I.bs,Nat.le_trans I.ok.bsz I.sz,fun b o e hb=>?_,fun b hb=>?_,I.stack,I.stkFree⟩,
  rfl,I.bare,Un.kept hk,⟨_,hns,fun i x v e1 e2 e3=>?_⟩,fun x c e=>?_,hfree,fun x c e=>I.freeC x c (S.cin.get e),fun p hp=>?_,I.hok.kept hk,?_⟩
 .exact S.kind
 .have q:∀k,(relabel scope X.env).names.lookup x=some k->(!(k == .cell||k == .free)||(cl.lookup x).isSome)=true:=fun k e=>j8 (p:=fun _=>true) (q:=fun a k=>!(k == .cell||k == .free)||(cl.lookup a).isSome) S.has e;have hx':(relabel scope X.env).names.lookup x=some .cell\/(relabel scope X.env).names.lookup x=some .free:=hx;have:(cl.lookup x).isSome=true:=by
   rcases hx' with e | e
   .exact q _ e
   .exact q _ e
  exact EX.mp this
 .obtain⟨⟨_,_,_,_,f4,_⟩,o,e⟩:=hex b hb;exact⟨lt3 b o e,fun x c ec=>f4 x c (S.cin.get ec)⟩
 .obtain⟨⟨f0,f1,f2,f3,_⟩,_⟩:=hex b hb;rcases f3 with f3 | f3
  .exact I.ok.noex b o e f3
  .have:=(I.ok.bs b o e).1;exact absurd (BF (AI this) f3) (CV _)
 .intro hf;obtain⟨⟨_,f1,f2,_⟩,_⟩:=hex b hb;rcases BD.mp (I.stkSub b hf)with z | z
  .exact f1 z
  .exact f2 z
 .unfold Kv at e2;rw[AH]at e2;cases ec:cap[i]? with
  | none=>rw[ec]at e2;cases e2
  | some o =>
   rw[ec]at e2;cases o with
   | none=>cases e2
   | some j =>
    have e2':(σ[j]?).join=some v:=BI e2;obtain⟨c1,c2,c3,c4⟩:=S.caps.get e1 ec;have ej:σ[j]?=some (some v):=by
     cases ej:σ[j]? with
     | none=>rw[ej]at e2';cases e2'
     | some z=>rw[ej]at e2';cases z with
      | none=>cases e2'
      | some z=>cases e2';rfl
    obtain⟨m,hn,hl⟩:=I.loc;obtain⟨u,r,l⟩:=hl j x v c1 ej (.inr (.inl c2));refine⟨u,r,?_⟩;rcases l with⟨k,_⟩ | ⟨_,c,hc',hcell'⟩
    .have:X.env.scope.names.lookup x=some .local:=k;rw[c2]at this;cases this
    .exact .inr ⟨.inl c3,c,c4.trans hc',let⟨o,ho,hd⟩:=hcell';⟨o,hk _ _ ho,hd⟩⟩
 .obtain⟨v,o,ho,hd⟩:=hcell x c e;exact⟨v,o,hk _ _ ho,hd⟩
 .have hp':p∈X.pn++pins:=by simpa [cxC] using hp
  obtain⟨e,n,ne,nf,d⟩:=I.pin p hp';refine⟨hk _ _ e,n,lt3 _ _ e,fun hf=>?_,d⟩;rcases BD.mp (I.stkSub p.1 hf)with z | z
  .exact ne z
  .exact nf z
 .unfold Kv;rw[AB];exact S.caps.len
theorem Inv.unblock{σ':St}{H':Hp}{s':Shared}{h':Heap}(I:Inv X pins σ H3 s3)(hex:∀b∈ex,Be X pins H3 b)(J:Inv (cxC X scope cl N' pins ex s3 H3) [] σ' H' s')(hb:Heap.SameBut s3.heap.objs.size s'.heap h') :
  Inv X pins σ H' { s' with heap:=h' }:=by
 have hfr:H' s3.heap.objs.size=none:=J.free;refine I.call' (ch:=ex) J.os ⟨fun b o e n h1 h2=>?_,fun b o e n h1 h2=>?_,fun b o e n h2=>?_,fun b o e h2=>?_,J.base.tups,J.base.frzs,J.base.tbls⟩ (fun b ob e=>?_) J.bare fun b hbx=>?_
 .exact(hb.2 b (BB (AI e))).trans (J.base.keep b o e n h1 h2)
 .obtain⟨sl,q⟩:=J.base.slot b o e n h1 h2;exact⟨sl,(hb.2 b (BB (AI e))).trans q⟩
 .exact J.base.free b o e n h2
 .obtain⟨o',q⟩:=J.base.there b o e h2;exact⟨o',(hb.2 b (BB (AI e))).trans q⟩
 .refine(J.hok b ob e).stay (fun c w' hc q=>(hb.2 c ?_).trans q) (fun _ q=>q) fun _ _ q=>q;rintro rfl;rcases hc with z | z
  .rw[<-z,hfr]at e;cases e
  .rw[hfr]at z;cases z
 .obtain⟨_,f1,_,f3,f4,f5⟩:=hex b hbx;exact⟨f3,f1,f4,f5⟩
end
def Bs(e:Expr)(d:Nat)(iter tg:Expr)(ifs:List Expr)(emit:Sem Fin->Sem Fin)(it acc:Value)(env:Env):Sem Fin:=do
 standAt iter.pos
 match <-pyNext it with
 | none=>pure (.done .next)
 | some v =>
  letOwnedTupleGo tg it v
  assign tg env v
  let mut ok:=true
  for c in ifs do
   if ok then ok <-isTrue c env (eval c env)
  if ok then emit (again (.compLoop e d it acc env))else again (.compLoop e d it acc env)
def emL(elt:Expr)(acc:Value)(env:Env)(k:Sem Fin):Sem Fin:=(do let _ <-call (.builtin "list.append") [acc,<-eval elt env]:Sem Unit) >>= fun _=>k
def emD(a b:Expr)(D:Addr)(env:Env)(k:Sem Fin):Sem Fin:=(do
   let kv <-eval a env
   let vv <-holding [kv] (eval b env)
   standAt { a.pos with endLine:=b.pos.endLine,endCol:=b.pos.endCol }
   holding [kv,vv] (dictSet D kv vv):Sem Unit) >>= fun _=>k
def emS(elt:Expr)(acc:Value)(env:Env)(k:Sem Fin):Sem Fin:=(do let v <-eval elt env;standAt elt.pos;let _ <-call (.builtin "set.add") [acc,v]:Sem Unit) >>= fun _=>k
def emN(e iter2:Expr)(d:Nat)(acc:Value)(env:Env)(k:Sem Fin):Sem Fin:=do
    let x <-eval iter2 env
    standAt iter2.pos
    let x <-foldedSetIterable iter2 env x
    let _ <-runOwn (.compStart e d (<-holding [x] (pyIter x)) acc env) env
    k
theorem l4(elt tg iter:Expr)(ifs:List Expr)(scope:Scope)(pos:Pos)(it acc:Value)(env:Env) :
  compTurn (.ListComp elt [⟨tg,iter,ifs,0⟩] scope pos) 0 it acc env=Bs (.ListComp elt [⟨tg,iter,ifs,0⟩] scope pos) 0 iter tg ifs (emL elt acc env) it acc env:=rfl
theorem Mv(k v tg iter:Expr)(ifs:List Expr)(scope:Scope)(pos:Pos)(it:Value)(D:Addr)(env:Env) :
  compTurn (.DictComp k v [⟨tg,iter,ifs,0⟩] scope pos) 0 it (.ref D) env=Bs (.DictComp k v [⟨tg,iter,ifs,0⟩] scope pos) 0 iter tg ifs (emD k v D env) it (.ref D) env:=rfl
theorem Nk(elt tg iter tg2 iter2:Expr)(ifs ifs2:List Expr)(scope:Scope)(pos:Pos)(it acc:Value)(env:Env) :
  compTurn (.SetComp elt [⟨tg,iter,ifs,0⟩,⟨tg2,iter2,ifs2,0⟩] scope pos) 1 it acc env=Bs (.SetComp elt [⟨tg,iter,ifs,0⟩,⟨tg2,iter2,ifs2,0⟩] scope pos) 1 iter2 tg2 ifs2 (emS elt acc env) it acc env:=rfl
theorem Mg(elt tg iter tg2 iter2:Expr)(ifs ifs2:List Expr)(scope:Scope)(pos:Pos)(it acc:Value)(env:Env) :
  compTurn (.SetComp elt [⟨tg,iter,ifs,0⟩,⟨tg2,iter2,ifs2,0⟩] scope pos) 0 it acc env=Bs (.SetComp elt [⟨tg,iter,ifs,0⟩,⟨tg2,iter2,ifs2,0⟩] scope pos) 0 iter tg ifs
   (emN (.SetComp elt [⟨tg,iter,ifs,0⟩,⟨tg2,iter2,ifs2,0⟩] scope pos) iter2 1 acc env) it acc env:=rfl
abbrev TEm:=St->Hp->(St->Hp->Prop)->Prop
def PEm(X:Cx)(emit:Sem Fin->Sem Fin)(t:TEm):Prop :=
 ∀(pins:List (Addr×Obj)) (s:Shared) (σ:St) (H:Hp) (Q:St->Hp->Prop) (k:Sem Fin) (F:Fin->Shared->Prop) (E:Value->Shared->Prop),Inv X pins σ H s->t σ H Q ->
  (∀s' σ' H',Inv X pins σ' H' s'->Q σ' H'->wpAny (model X.prog X.w) X.A k F E s')->wpAny (model X.prog X.w) X.A (emit k) F E s
def PTs(X:Cx)(ifs:List Expr)(t:TT):Prop :=
 ∀(pins:List (Addr×Obj)) (s:Shared) (σ:St) (H:Hp) (Q:Bool->Hp->Prop),Inv X pins σ H s->t σ H Q ->
  wpAny (model X.prog X.w) X.A (forIn ifs true fun c r=>if r=true then do let ok <-isTrue c X.env (eval c X.env);pure (ForInStep.yield ok)else pure (ForInStep.yield r)) (TP X pins σ Q) X.xe s
def Ee:TT:=fun _ H Q=>Q true H
theorem E5{X:Cx}:PTs X [] Ee:=fun _ _ _ H _ I h=>wpAny_tests_nil ⟨H,I,h⟩
theorem T7{X:Cx}{c:Expr}{t:TT}(h:PT X c t):PTs X [c] t:=fun pins s σ H Q I q=>wpAny_tests_one (h pins s σ H Q I q)
def Cl(g:TG)(tc:TT)(em:TEm)(J:It)(σ:St)(H:Hp)(Q:St->Hp->Prop):Prop :=
 ∃W:Nat->Nat->St->Hp->Prop,(∃m,W 0 m σ H)/\∀i m σ H,W i m σ H->(J.stop i H/\Q σ H)\/(J.go i H/\∀x H',J.yld i H x H'->g x σ H' fun σ2 H2=>tc σ2 H2 fun b H3 =>
  if b=true then em σ2 H3 fun σ3 H4=>∃m',m' < m/\W (i+1) m' σ3 H4 else ∃m',m' < m/\W (i+1) m' σ2 H3)
section
variable{X:Cx}{e tg iter:Expr}{d:Nat}{ifs:List Expr}{emit:Sem Fin->Sem Fin}{it:Addr}{acc:Value}{g:TG}{tc:TT}{em:TEm}{J:It}{fp:List Addr}{tn:Nat->Heap->Prop}{R:Result->Shared->Prop}
theorem Q4(hun:X.A.under (.compLoop e d (.ref it) acc X.env)=X.A)(hden:(model X.prog X.w).den (.compLoop e d (.ref it) acc X.env) =(compTurn e d (.ref it) acc X.env).onRaise (fun x=>do noteFrame x X.env;theTreesLotGoes x))(hc:X.calm=true)(hxe:X.xe=fun _ _=>False)(hct:compTurn e d (.ref it) acc X.env=Bs e d iter tg ifs emit (.ref it) acc X.env)(hg:PG X tg g)(ht:PTs X ifs tc)(hem:PEm X emit em)
  (T:Turn X.prog X.w X.K tg J fp it tn) {pins:List (Addr×Obj)} {s:Shared} {σ:St} {H:Hp} {Q:St->Hp->Prop} (I:Inv X pins σ H s) (st:tn 0 s.heap) (hf:∀b∈fp,Be X pins H b) (h:Cl g tc em J σ H Q)
  (hR:∀s' σ' H',Inv X pins σ' H' s'->Q σ' H'->R (.ok .next) s'):codeAny (model X.prog X.w) X.A (.compLoop e d (.ref it) acc X.env) R s:=by
 obtain⟨W,⟨m0,w0⟩,turn⟩:=h;have stat:∀{H':Hp},(∀b∈fp,H' b=none)->∀b∈fp,Be X pins H' b:=fun hn b hb=>⟨hn b hb,(hf b hb).2⟩;have no:∀{α:Type} {m:Sem α} {P:α->Shared->Prop} {E:Value->Shared->Prop} {s:Shared},wpAny (model X.prog X.w) X.A m P X.xe s->wpAny (model X.prog X.w) X.A m P E s:=fun q=>by
  rw[hxe]at q;exact BS q (fun _ _ z=>z) fun _ _ z=>z.elim
 refine codeAny_loop rfl (fun n s'=>∃i σ' H',Inv X pins σ' H' s'/\tn i s'.heap/\(∀b∈fp,H' b=none)/\W i n σ' H') (fun n s3 hI=>?_) m0 ⟨0,σ,H,I,st,fun b hb=>(hf b hb).1,w0⟩;obtain⟨i,σ3,H3,I3,st3,fr3,w3⟩:=hI;rw[hun,hden];refine wpAny_noted ?_;rw[hct];unfold Bs;refine AA (EH (AA ?_));rcases turn i n σ3 H3 w3 with⟨stop,qn⟩ | ⟨go,step⟩
 .refine BS (T.done X rfl rfl rfl hc i pins s3 σ3 H3 _ I3 (stat fr3) st3 stop) (fun r s4 ⟨hr,I4⟩=>?_) fun _ _ z=>z;subst hr;exact AF (hR s4 σ3 H3 I4 qn)
 .refine BS (T.item X rfl rfl rfl hc i pins s3 σ3 H3 _ I3 (stat fr3) st3 go) (fun r s4 ⟨u,hr,h4⟩=>?_) fun _ _ z=>z;subst hr;refine AA (BS h4 (fun _ s5 ⟨x,H5,I5,r5,y5,st5,fr5⟩=>?_) fun _ _ z=>z);have I5':=I5.pinned (stat fr5) (T.obj _ _ st5);have again:∀{σ7:St} {H7:Hp} {s7:Shared},Inv X (pins++Et fp s5.heap) σ7 H7 s7->(∃m',m' < n/\W (i+1) m' σ7 H7)->∃m,m<n/\∃i σ' H',Inv X pins σ' H' s7/\tn i s7.heap/\(∀b∈fp,H' b=none)/\W i m σ' H':=fun{σ7 H7 s7} I7 n7=>by
   obtain⟨m',hm,w7⟩:=n7;refine⟨m',hm,i+1,σ7,H7,I7.unpinned,T.keep _ _ _ st5 fun b hb o e=>(I7.pin (b,o) (BT _ (BT _ (U7 hb e)))).1,fun b hb=>?_,w7⟩;obtain⟨o,e,d⟩:=T.obj _ _ st5 b hb;exact(I7.pin (b,o) (BT _ (BT _ (U7 hb e)))).2.1
  refine AA (BS (no (hg _ s5 σ3 H5 x u _ I5' r5 (step x H5 y5))) (fun _ s6 ⟨σ6,H6,I6,q6⟩=>?_) fun _ _ z=>z);refine AA (BS (no (ht _ s6 σ6 H6 _ I6 q6)) (fun ok s7 ⟨H7,I7,q7⟩=>?_) fun _ _ z=>z);cases ok with
  | false=>exact AF ⟨rfl,again I7 q7⟩
  | true =>
   exact hem _ s7 σ6 H7 _ _ _ _ I7 q7 fun s8 σ8 H8 I8 q8=>AF ⟨rfl,again I8 q8⟩
theorem U6(hun:X.A.under (.compStart e d (.ref it) acc X.env)=X.A)(hden:(model X.prog X.w).den (.compStart e d (.ref it) acc X.env) =(compStart e d (.ref it) acc X.env).onRaise (fun x=>do noteFrame x X.env;standAt theWindowsPlace)){gs:List Comprehension}(hgs:clausesOf e=gs)(hd:gs[d]?=some ⟨tg,iter,ifs,0⟩){s:Shared}(T:Turn X.prog X.w X.K tg J fp it tn)(st:tn 0 s.heap)
  (h:codeAny (model X.prog X.w) X.A (.compLoop e d (.ref it) acc X.env) R s):codeAny (model X.prog X.w) X.A (.compStart e d (.ref it) acc X.env) R s:=by
 refine codeAny_of_tree ?_;rw[hun,hden];refine wpAny_notedAt ?_;unfold compStart;rw[hgs,hd];show wpAny _ X.A (ask >>= _) _ _ s;refine AA (HC (wpAny_ite ?_));have h1:=T.self X.A 0 s (fun it' s'=>codeAny (model X.prog X.w) X.A (.compLoop e d it' acc X.env) R s') (notedBy (model X.prog X.w) X.A X.env fun x s'=>R (.error x) s') st h;split
 .first
   | exact AA (AF (AF (And.intro rfl h)))
   | exact AF (And.intro rfl h)
 .first
   | exact AA (FG (AA (EH (AA (BS h1 (fun it' s' h'=>AF (And.intro rfl h')) fun _ _ x=>x)))))
   | (refine AA (FG ?_);show wpAny _ _ (standAt iter.pos >>= _) _ _ s;exact AA (EH (AA (BS h1 (fun it' s' h'=>AF (And.intro rfl h')) fun _ _ x=>x))))
end
section
variable{X:Cx}{tg iter:Expr}{ifs:List Expr}{g:TG}{tc:TT}{em:TEm}{scope:Scope}{cl:List (Str×Addr)}{N':List Str}{cap:List (Option Nat)}{pos:Pos}{wi:TI}
def Bi(wi:TI)(o:Addr->HO)(cap:List (Option Nat))(lp:Addr->It->St->Hp->(St->Hp->Prop)->Prop):TE:=fun σ H Q=>wi σ H fun J H1=>∀D,H1 D=none->lp D J (Kv cap σ) (upd H1 D (o D)) fun _ H2=>Q (.ref D) H2
theorem Cq{e:Expr}{gs:List Comprehension}{newAcc:Sem Value}{p2:Pos}(hcl:clausesOf e =⟨tg,iter,ifs,0⟩::gs)(o:Addr->HO)(hs:∀x,foldedSetIterable iter X.env x=pure x)(S:CScope X scope cl N' cap)(hc:X.calm=true)(hi:PI X tg iter wi)
  {lp:Addr->It->St->Hp->(St->Hp->Prop)->Prop}
  (hnew:∀(pins:List (Addr×Obj)) (s:Shared) (σ:St) (H:Hp) (Q:Value->Shared->Prop) (E:Value->Shared->Prop),Inv X pins σ H s->(∀s',Inv X pins σ (upd H s.heap.objs.size (o s.heap.objs.size)) s'->(∀b ob,s.heap.get? b=some ob->s'.heap.get? b=some ob)->Q (.ref s.heap.objs.size) s')->wpAny (model X.prog X.w) X.A newAcc Q E s)
  (hlp:∀(pins:List (Addr×Obj)) (ex:List Addr) (s3:Shared) (H3:Hp) (D it:Addr) (fp:List Addr) (tn:Nat->Heap->Prop) (J:It) (σ:St) (s:Shared) (H:Hp) (Q:St->Hp->Prop) (R:Result->Shared->Prop),
   Turn X.prog X.w X.K tg J fp it tn->Inv (cxC X scope cl N' pins ex s3 H3) [] σ H s->tn 0 s.heap->(∀b∈fp,Be (cxC X scope cl N' pins ex s3 H3) [] H b)->lp D J σ H Q ->
   (∀s' σ' H',Inv (cxC X scope cl N' pins ex s3 H3) [] σ' H' s'->Q σ' H'->R (.ok .next) s') ->
   codeAny (model X.prog X.w) X.A (.compLoop e 0 (.ref it) (.ref D) (compEnvC scope cl s3.heap.objs.size X.env)) R s)
  (hun:∀it D env,X.A.under (.compStart e 0 (.ref it) (.ref D) env)=X.A) (hden:∀it D env,(model X.prog X.w).den (.compStart e 0 (.ref it) (.ref D) env) =(compStart e 0 (.ref it) (.ref D) env).onRaise (fun x=>do noteFrame x env;standAt theWindowsPlace))
  (hev:∀E Q s,wpAny (model X.prog X.w) X.A (comprehension e scope X.env p2 newAcc false (eval iter X.env)) Q E s->wpAny (model X.prog X.w) X.A (eval e X.env) Q E s) :
  PE X e (Bi wi o cap lp):=by
 intro pins s σ H Q I h;refine hev _ _ _ (HL (use:=none) hcl hs S.clos S.kind S.loc (thn (hi pins s σ H _ I h) fun v s1 h1=>thn h1 fun itv s2 h2=>?_));obtain⟨it,fp,tn,J,H2,eit,I2,T,st2,f2,R2⟩:=h2;subst eit;refine hnew pins s2 σ H2 _ _ I2 fun s3 I3 k3=>?_;have hD:H2 s2.heap.objs.size=none:=I2.hok.fresh (Nat.le_refl _);have fok:∀b∈fp,Be X pins (upd H2 s2.heap.objs.size (o s2.heap.objs.size)) b/\∃ob,s3.heap.get? b=some ob:=fun b hb=>by
  obtain⟨ob,e,_⟩:=T.obj _ _ st2 b hb;obtain⟨f0,fr⟩:=f2 b hb;exact⟨⟨by rw[B3 (BB (AI e))];exact f0,fr⟩,ob,k3 b ob e⟩
 refine wpAny_newFunctionEnv S.nocell (by intro y hy;simp at hy) (fun h1 hns hsb=>?_) S.kind;have hk:∀b ob,s3.heap.get? b=some ob->h1.get? b=some ob:=fun b ob e=>(hsb.2 b (BB (AI e))).trans (AD _ e);have I4:Inv (cxC X scope cl N' pins fp s3 (upd H2 s2.heap.objs.size (o s2.heap.objs.size))) [] (Kv cap σ) (upd H2 s2.heap.objs.size (o s2.heap.objs.size)) { s3 with heap:=h1,toks:=s3.toks +([]:List (Str×Value)).length } :=
  I3.block S hc fok hns hk
 have st4:tn 0 h1:=T.keep 0 _ _ st2 fun b hb ob e=>hk b ob (k3 b ob e);refine U6 (X:=cxC X scope cl N' pins fp s3 (upd H2 s2.heap.objs.size (o s2.heap.objs.size))) (gs:=⟨tg,iter,ifs,0⟩::gs) (e:=e) (d:=0) (tg:=tg) (iter:=iter) (ifs:=ifs) (hun _ _ _) (hden _ _ _) hcl rfl T st4 ?_;refine hlp pins fp s3 _ s2.heap.objs.size it fp tn J (Kv cap σ) _ _ _ _ T I4 st4 (fun b hb=>?_) (R2 _ hD) fun s' σ' H' I' q'=>?_
 .obtain⟨⟨f0,f1,f2',f3,f4,f5⟩,ob,eo⟩:=fok b hb;refine⟨f0,BB (AI eo),fun hf=>?_,.inl hb,fun x c e=>f4 x c (S.cin.get e),fun p hp=>f5 p (by simpa [cxC] using hp)⟩;rcases BD.mp (I3.stkSub b hf)with z | z
  .exact f1 z
  .exact f2' z
 .obtain⟨m,hn,_⟩:=I'.loc;exact⟨m,hn,fun h' hb=>⟨.ref _,H',I3.unblock (fun b hb=>(fok b hb).1) I' hb,rfl,q'⟩⟩
end
section
variable{X:Cx}{tg iter elt:Expr}{ifs:List Expr}{g:TG}{tc:TT}{te:TE}{scope:Scope}{cl:List (Str×Addr)}{N':List Str}{cap:List (Option Nat)}{pos:Pos}{wi:TI}
def De(D:Addr)(te:TE):TEm:=fun σ H Q=>te σ H fun y H1=>∃ys,H1 D=some (.lst ys)/\ys.length<sizeLine/\Q σ (upd H1 D (.lst (ys ++ [y])))
theorem Cf{α:Type}{X:Cx}(hxe:X.xe=fun _ _=>False){m:Sem α}{P:α->Shared->Prop}{E:Value->Shared->Prop}{s:Shared}(q:wpAny (model X.prog X.w) X.A m P X.xe s):wpAny (model X.prog X.w) X.A m P E s:=by
 rw[hxe]at q;exact BS q (fun _ _ z=>z) fun _ _ z=>z.elim
theorem Dv{D:Addr}(hxe:X.xe=fun _ _=>False)(he:PE X elt te):PEm X (emL elt (.ref D) X.env) (De D te):=by
 intro pins s σ H Q k F E I h hk;unfold emL;refine AA (AA (BS (Cf hxe (he pins s σ H _ I h)) (fun u s1 ⟨y,H1,I1,r1,ys,e1,z1,q1⟩=>?_) fun _ _ z=>z));refine AA (BS (Cf hxe (D3 pins s1 σ H1 (.ref D) [y] (.ref D) [u] (fun v H2=>v = .non/\Q σ H2) I1 rfl (.cons r1 .nil) ⟨D,ys,y,rfl,rfl,e1,z1,rfl,q1⟩)) (fun v s2 ⟨y2,H2,I2,r2,_,q2⟩=>?_) fun _ _ z=>z);exact AF (hk s2 σ H2 I2 q2)
theorem T0(S:CScope X scope cl N' cap)(hc:X.calm=true)(hi:PI X tg iter wi)
  (hb:∀(pins:List (Addr×Obj)) (ex:List Addr) (s3:Shared) (H3:Hp),PG (cxC X scope cl N' pins ex s3 H3) tg g/\PTs (cxC X scope cl N' pins ex s3 H3) ifs tc/\PE (cxC X scope cl N' pins ex s3 H3) elt te)
  (hs:∀x,foldedSetIterable iter X.env x=pure x:=by intro _;rfl) :
  PE X (.ListComp elt [⟨tg,iter,ifs,0⟩] scope pos) (Bi wi (fun _=>.lst []) cap fun D J σ H Q=>Cl g tc (De D te) J σ H Q):=by
 refine Cq (newAcc:=newList []) (p2:=firstIterPos [⟨tg,iter,ifs,0⟩] pos) rfl (fun _=>.lst []) hs S hc hi (fun pins s σ H Q E I h=>?_) (fun pins ex s3 H3 D it fp tn J σ s H Q R T I st hf h hR=>?_) (fun _ _ _=>rfl) (fun _ _ _=>rfl) (fun E Q s h=>h)
 .refine GU ?_;exact h _ (I.lnew (t':=s.toks) (its:=[]) .nil (CH _)) fun b ob e=>AD _ e
 .obtain⟨b1,b2,b3⟩:=hb pins ex s3 H3;exact Q4 (X:=cxC X scope cl N' pins ex s3 H3) rfl rfl hc rfl (l4 elt tg iter ifs scope pos _ _ _) b1 b2 (Dv rfl b3) T I st hf h hR
def Vd(D:Addr)(tk tv:TE):TEm:=fun σ H Q=>tk σ H fun y H1=>tv σ H1 fun v H2=>∃kvs k,H2 D=some (.dK kvs)/\y=kV k/\kvs.length<sizeLine/\Q σ (upd H2 D (.dK (P5 kvs k v)))
theorem Tu{D:Addr}{a b:Expr}{ta tb:TE}(hxe:X.xe=fun _ _=>False)(ha:PE X a ta)(hb:PE X b tb):PEm X (emD a b D X.env) (Vd D ta tb):=by
 intro pins s σ H Q k F E I h hk;unfold emD;refine AA (AA (BS (Cf hxe (ha pins s σ H _ I h)) (fun u s1 ⟨y,H1,I1,r1,q1⟩=>?_) fun _ _ z=>z));refine AA (CU (BS (Cf hxe (hb pins s1 σ H1 _ I1 q1)) (fun r s2 ⟨v,H2,I2,rv,kvs,kk,e,ey,l,q2⟩=>?_) fun _ _ z=>z));refine AA (EH (CU ?_));subst ey;obtain⟨z,hd,vs,rel,dd⟩:=Tw I2.hok e;have hz:vs.length<=sizeLine:=by rw[<-rel.length];exact z
 have hl:(P5 kvs kk v).length<=sizeLine:=by have:=M9 kvs kk v;omega
 refine wpAny_dictSet_pairs (hsz:=hz) (Jc r1) dd fun h' dd' hs=>?_;have he:∃q,h'.get? D=some q:=let⟨q,_,_,hq,_⟩:=dd';⟨q,hq⟩;exact hk _ σ _ (Dn (t':=s2.toks+1) I2 (by rw[e];exact True.intro) hs he (Oe hl hd (rel.put kk rv) dd')) q2
theorem Pm{a b:Expr}{ta tb:TE}(S:CScope X scope cl N' cap)(hc:X.calm=true)(hi:PI X tg iter wi)
  (hb:∀(pins:List (Addr×Obj)) (ex:List Addr) (s3:Shared) (H3:Hp),PG (cxC X scope cl N' pins ex s3 H3) tg g/\PTs (cxC X scope cl N' pins ex s3 H3) ifs tc/\PE (cxC X scope cl N' pins ex s3 H3) a ta/\PE (cxC X scope cl N' pins ex s3 H3) b tb)
  (hs:∀x,foldedSetIterable iter X.env x=pure x:=by intro _;rfl) :
  PE X (.DictComp a b [⟨tg,iter,ifs,0⟩] scope pos) (Bi wi (fun _=>.dK []) cap fun D J σ H Q=>Cl g tc (Vd D ta tb) J σ H Q):=by
 refine Cq (newAcc:=newDict) (p2:=firstIterPos [⟨tg,iter,ifs,0⟩] pos) rfl (fun _=>.dK []) hs S hc hi (fun pins s σ H Q E I h=>?_) (fun pins ex s3 H3 D it fp tn J σ s H Q R T I st hf h hR=>?_) (fun _ _ _=>rfl) (fun _ _ _=>rfl) (fun E Q s h=>h)
 .refine DX ?_;exact h _ (I.laid (a:=s.heap.objs.size) (o:=.dK []) (t':=s.toks) (fun _ _ q=>AD _ q) (Nat.le_refl _) (Jp s.heap I.big)) fun b ob e=>AD _ e
 .obtain⟨b1,b2,b3,b4⟩:=hb pins ex s3 H3;exact Q4 (X:=cxC X scope cl N' pins ex s3 H3) rfl rfl hc rfl (Mv a b tg iter ifs scope pos _ _ _) b1 b2 (Tu rfl b3 b4) T I st hf h hR
end
instance:LawfulBEq Key where
 rfl {a}:=by cases a with
  | inl i=>show(i == i)=true;simp
  | inr x=>show(x == x)=true;simp
 eq_of_beq {a b} h:=by
  cases a with
  | inl i=>cases b with
   | inl j=>exact congrArg Sum.inl (eq_of_beq (show(i == j)=true from h))
   | inr j=>exact absurd h (by intro z;cases z)
  | inr i=>cases b with
   | inl j=>exact absurd h (by intro z;cases z)
   | inr j=>exact congrArg Sum.inr (eq_of_beq (show(i == j)=true from h))
def Nt(P:Program)(w:World)(a:Addr)(l:List Key):HO:=.ext fun h=>h.SetOf (B9 P w) a (fun k=>decide (k∈l)) l.length
section
variable{X:Cx}{pins:List (Addr×Obj)}{σ:St}{H:Hp}{s:Shared}{a:Addr}{l:List Key}
theorem zAt{P:Program}{w:World}{H:Hp}{h:Heap}(z:h.SetOf (B9 P w) a (fun k=>decide (k∈l)) l.length):ObjOk P w H h a (Nt P w a l) :=
 ⟨z,let⟨o,_,_,_,e,_⟩:=z;⟨o,e⟩,fun h1 h2 ⟨o,es,ep,t,e,r⟩ k=>⟨o,es,ep,t,k o e,r⟩⟩
theorem Inv.set(I:Inv X pins σ H s)(e:H a=some (Nt X.prog X.w a l)):s.heap.SetOf (B9 X.prog X.w) a (fun k=>decide (k∈l)) l.length:=by
 obtain⟨z,_⟩:=(show ObjOk X.prog X.w H s.heap a (Nt X.prog X.w a l)from I.hok a _ e);exact z
theorem Ly{k:Key}{u:Value}(r:RelV (kV k) u):u.scannable=true:=by
 cases k with
 | inl i=>obtain⟨t,rfl⟩:=r;rfl
 | inr x=>obtain⟨t,rfl⟩:=r;rfl
def zDb(l:List Key)(k:Key):List Key:=if k∈l then l else l ++ [k]
theorem Ic{P:Program}{w:World}{h:Heap}{S S':Key->Bool}{n n':Nat}(z:h.SetOf (B9 P w) a S n)(e:∀k,S' k=S k)(en:n'=n):h.SetOf (B9 P w) a S' n':=by
 have:S'=S:=funext e;subst this;subst en;exact z
theorem Ov:E8 X (.type "set") (fun xs H Q=>xs = []/\∀p,H p=none->Q (.ref p) (upd H p (Nt X.prog X.w p []))):=by
 intro pins s σ H xs us Q I r h;obtain⟨rfl,q⟩:=h;cases r;refine call_set_0 fun led=>⟨.ref s.heap.objs.size,_,I.laid (t':=s.toks) (fun b o e=>AD _ e) (Nat.le_refl _) (zAt ?_),rfl,q _ (I.hok.fresh (Nat.le_refl _))⟩;exact(setObjOf_fresh led).setOf (AS _ rfl) (by decide)
def zCy(P:Program)(w:World):V->List V->Hp->VK->Prop:=fun x vs H Q=>∃a l k,x = .ref a/\vs = [kV k]/\H a=some (Nt P w a l)/\l.length+1<4096/\Q .non (upd H a (Nt P w a (zDb l k)))
theorem zAh:MtM X "set.add" (zCy X.prog X.w):=by
 intro pins s σ H x vs v us Q I rx rv h;obtain⟨a,l,k,rfl,rfl,hH,hz,q⟩:=h;cases rx;obtain⟨u,rfl,ru⟩:=rv.one;refine call_set_add (Jc ru) (Ly ru) (I.set hH) hz fun h' hs z=>?_;refine⟨.non,_,I.write (x:=a) (e:=a) (t':=s.toks+1) (by rw[hH];exact True.intro) (.inl rfl) (fun b q hb e=>(hs.2 b hb).trans e) (let⟨o,_,_,_,e,_⟩:=z;⟨o,e⟩) (zAt (Ic z (fun k'=>?_) ?_)),rfl,q⟩
 .unfold zDb;by_cases e:k∈l
  .rw[AL e];by_cases ek:k'=k
   .subst ek;simp[e]
   .simp[ek]
  .rw[AJ e];simp
 .unfold zDb;by_cases e:k∈l
  .rw[AL e];simp[e]
  .rw[AJ e];simp[e]
def zFn(P:Program)(w:World)(neg:Bool):R2:=fun x y H Q=>∃a l k,y = .ref a/\x=kV k/\H a=some (Nt P w a l)/\Q (.bl (if neg then !decide (k∈l)else decide (k∈l))) H
theorem Si:OpR X (compareOp .In) (zFn X.prog X.w false):=by
 intro pins s σ H x y v u Q I rx ry h;obtain⟨a,l,k,rfl,rfl,hH,q⟩:=h;cases ry;exact wpAny_inSet_of (Jc rx) (Ly rx) (I.set hH) ⟨.bl (decide (k∈l)),H,I.tok _,rfl,q⟩
end
section
variable{X:Cx}{tg iter elt tg2 iter2:Expr}{g g2:TG}{tc tc2:TT}{te:TE}{ifs ifs2:List Expr}{scope:Scope}{cl:List (Str×Addr)}{N':List Str}{cap:List (Option Nat)}{pos:Pos}{wi wi2:TI}
def zDz(wi:TI)(lp:It->St->Hp->(St->Hp->Prop)->Prop):TEm:=fun σ H Q=>wi σ H fun J H1=>lp J σ H1 Q
end
def Its(x:Str):It:=⟨fun i _=>i<x.cps.size,fun i H v H'=>H'=H/\∃c,x.cps[i]?=some c/\v = .str ⟨#[c]⟩,fun i _=>i=x.cps.size⟩
theorem Kb{P:Program}{w:World}{K:PySem.W.Frag}{tg:Expr}(it:Addr)(x:Str)(t:Tok)(ty:String)(hty:["enumerate", "zip", "dict_itemiterator", "dict_reverseitemiterator", "odict_iterator", "itertools.zip_longest", "itertools.pairwise"].contains ty=false)
  (W:∀A':Around,A'.handled=none->Walks P w A' it [it] [it] x.cps.size (SignAt x) (fun i h=>h.IsStrIter it ty x t i))
  (hself:∀(A:Around) (i:Nat) (s:Shared) (Q:Value->Shared->Prop) (E:Value->Shared->Prop),s.heap.IsStrIter it ty x t i->Q (.ref it) s->wpAny (model P w) A (pyIter (.ref it)) Q E s):Turn P w K tg (Its x) [it] it (fun i h=>h.IsStrIter it ty x t i) where
 mem:=by simp
 obj:=fun i h st b hb=>by
  have e:b=it:=by simpa using hb
  subst e;obtain⟨o,e,c,d⟩:=st;exact⟨o,e,fun v z=>by rw[d]at z;cases z⟩
 keep:=fun i h h' st k=>let⟨o,e,r⟩:=st;⟨o,k it (by simp) o e,r⟩
 item:=by
  intro X hP hw hK hc i pins s σ H E I hf st hg;subst hP hw hK;obtain⟨f0,f1,f2,f3,f4,f5⟩:=hf it (by simp);refine(W X.A (I.ok.hd hc)).item i s _ _ hg st fun v h' tk hv st' k=>?_;obtain⟨c,u,ec,ev⟩:=hv;have I1:Inv X pins σ H { s with heap:=h',toks:=tk }:=I.turned (fun b o hb e=>k b o (by simpa using hb) e) f0 f1 f3 f4 f5;obtain⟨o,e,c',d⟩:=id st';exact⟨v,rfl,Lz (s:={ s with heap:=h',toks:=tk }) e c' d hty ⟨.str ⟨#[c]⟩,H,I1,⟨u,ev⟩,⟨rfl,c,ec,rfl⟩,st',fun b hb=>(hf b hb).1⟩⟩
 done:=by
  intro X hP hw hK hc i pins s σ H E I hf st hg;subst hP hw hK;obtain⟨f0,f1,f2,f3,f4,f5⟩:=hf it (by simp);have hg':i=x.cps.size:=hg;subst hg';exact(W X.A (I.ok.hd hc)).done s _ _ st fun h' tk k=>⟨rfl,I.turned (fun b o hb e=>k b o (by simpa using hb) e) f0 f1 f3 f4 f5⟩
 self:=fun A i s Q E st h=>hself A i s Q E st h
section
variable{X:Cx}{tg:Expr}
def zFw(te:TE):TI:=fun σ H R=>te σ H fun x H1=>∃z,x = .str z/\R (Its z) H1
theorem zBg{l:Expr}{tl:TE}(hl:PE X l tl):PI X tg l (zFw tl):=by
 intro pins s σ H R I h;refine thn (hl pins s σ H _ I h) fun v s1 ⟨x,H1,I1,r1,q1⟩=>?_;obtain⟨z,e,q⟩:=q1;subst e;obtain⟨t,rfl⟩:=r1;have fin:∀(o:Obj) (ty:String),o.cls = .type ty->o.data = .fields #[.str z t,.int (0:Nat) 0]->o.isFreed=false->Turn X.prog X.w X.K tg (Its z) [s1.heap.objs.size] s1.heap.objs.size (fun i h=>h.IsStrIter s1.heap.objs.size ty z t i) ->
   PIE X pins σ tg R (.ref s1.heap.objs.size) { s1 with heap:=s1.heap.push o }:=fun o ty c d hf T=>by
  refine⟨s1.heap.objs.size,[s1.heap.objs.size],_,_,H1,rfl,I1.kept (t':=s1.toks) fun b o e=>AD _ e,T,⟨o,AS _ hf,c,d⟩,fun b hb=>?_,q⟩;have e:b=s1.heap.objs.size:=by simpa using hb
  subst e;exact I1.fpOk (Nat.le_refl _) (I1.hok.fresh (Nat.le_refl _))
 cases ha:z.cps.all (· < 128)
 .exact wpAny_pyIter_wide ha (fin _ _ rfl rfl rfl (Kb _ z t "str_iterator" (by decide) (fun A' hA=>Walks.strWide hA _ z t) fun A i s Q E st h=>wpAny_pyIter_striter_wide st h))
 .exact wpAny_pyIter_ascii ha (fin _ _ rfl rfl rfl (Kb _ z t "str_ascii_iterator" (by decide) (fun A' hA=>Walks.strAscii hA _ z t) fun A i s Q E st h=>wpAny_pyIter_striter_ascii st h))
end
section
variable{X:Cx}
theorem Tf(hc:X.calm=true):E8 X (.builtin "all") (fun xs H Q=>∃(p:Addr) (bs:List Bool),xs = [.ref p]/\SqL X.K H p (bs.map V.bl)/\Q (.bl (bs.all id)) H):=by
 intro pins s σ H xs us Q I r h;obtain⟨p,bs,rfl,hq,q⟩:=h;obtain⟨u,rfl,ru⟩:=W8 r;cases ru;obtain⟨its,rv,pl,hz⟩:=I.list hq;refine call_all_walk (HX pl.isList ?_);have hne:p≠s.heap.objs.size:=by
  obtain⟨o,n,e,_⟩:=pl;exact BB (AI e)
 refine⟨s.heap.objs.size,_,_,_,_,_,fun i=>bs.getD i true,rfl,Walks.list (A:=X.A.in1) (show X.A.in1.handled=none from I.ok.hd hc) _ p hne its.toArray,⟨⟨_,AS _ rfl,rfl,rfl⟩,?_⟩,fun i v s' Q' E' hv q'=>?_,fun h' tk k=>?_⟩
 .obtain⟨o,n,e,c,d,e2⟩:=pl;exact⟨o,AD _ e,c,n,e2⟩
 .have hb:(bs.map V.bl)[i]?=some (V.bl (bs.getD i true))/\RelV (V.bl (bs.getD i true)) v:=by
   have hv':its[i]?=some v:=by simpa using hv
   have hi:i<its.length:=(AG.mp hv').1;have hl:=rv.length;rw[AB]at hl;have e:(bs.map V.bl)[i]?=some (V.bl (bs.getD i true)):=by
    rw[AH,AC (by omega)];simp[BG,AC (show i<bs.length by omega)]
   obtain⟨u,hu,ru⟩:=rv.get e;rw[hv']at hu;cases hu;exact⟨e,ru⟩
  cases hb.2;exact DM q'
 .have hl:=rv.length;rw[AB]at hl;have e:(List.range its.toArray.size).all (fun i=>bs.getD i true)=bs.all id:=by
   rw[BA,<-hl];rw[CN,GH,GH];constructor
   .intro z b hb;obtain⟨i,hi,rfl⟩:=FW.mp hb;have:=z i (CI.mpr hi);simpa [BG,AC hi] using this
   .intro z i hi;have hi':=CI.mp hi;have:=z bs[i] (GI hi');simpa [BG,AC hi'] using this
  rw[e];exact⟨.bl (bs.all id),H,I.kept fun b o eb=>k b o (by
   intro hb;have:b=s.heap.objs.size:=by simpa using hb
   exact absurd (AI eb) (by rw[this];exact CV _)) (AD _ eb),rfl,q⟩
theorem Ca:∀{ss:List Str} {us:List Value},Vals (ss.map V.str) us->StrsAre us ss
 | [],_,.nil=>.nil
 | _::_,_,.cons ⟨t,e⟩ r=>by subst e;exact .cons _ _ (Ca r)
def leS(a b:Str):Prop:=¬b.cps.toList<a.cps.toList
theorem Hk:E8 X (.builtin "sorted") (fun xs H Q=>∃(p:Addr) (ss:List Str),xs = [.ref p]/\SqL X.K H p (ss.map V.str)/\∀(l:Addr) (ss':List Str),H l=none->ss'.Perm ss->ss'.Pairwise leS->Q (.ref l) (upd H l (.lst (ss'.map V.str)))):=by
 intro pins s σ H xs us Q I r h;obtain⟨p,ss,rfl,hq,q⟩:=h;obtain⟨u,rfl,ru⟩:=W8 r;cases ru;obtain⟨its,rv,pl,hz⟩:=I.list hq;have hS:=Ca rv;have hl:=rv.length;refine TS.sorted_gen (collect_list (vs:=its) pl.isList ?_ (by omega));refine⟨rfl,by omega,strKind,oneType',fun s2 _=>TS.keys_strs hS,fun out h' e ho k hg=>?_⟩;have hsz:((s.heap.push (seqObj "list" #[] 0)).update s.heap.objs.size (Obj.mapSeq (· ++ its.toArray))).objs.size=s.heap.objs.size+1:=by rw[ET,size_push']
 obtain⟨hp,hs⟩:=ho;have hm:∀v∈out.toList,∃x t,v = .str x t:=fun v hv=>hS.all v (hp.mem_iff.mp hv);have hv:Vals ((out.toList.map strOf).map V.str) out.toList:=by
  have:∀us:List Value,(∀v∈us,∃x t,v = .str x t)->Vals ((us.map strOf).map V.str) us:=by
   intro us
   induction us with
   | nil=>exact fun _=>.nil
   | cons v r ih =>
    intro h;obtain⟨x,t,rfl⟩:=h v (A_ ..);exact .cons ⟨t,rfl⟩ (ih fun u hu=>h u (AO _ hu))
  exact this _ hm
 have hperm:(out.toList.map strOf).Perm ss:=by
  have:=hp.map strOf
  rwa [hS.strs]at this
 have hpw:(out.toList.map strOf).Pairwise leS:=by
  rw[CD];refine(FS.mp hs).imp fun{u v} ⟨hu,hv',q⟩=>?_;obtain⟨x,t,rfl⟩:=hm u hu;obtain⟨y,t',rfl⟩:=hm v hv';have q':decide (y.cps.toList<x.cps.toList)=false:=q;exact of_decide_eq_false q'
 have hk0:∀b o,s.heap.get? b=some o->h'.get? b=some o:=fun b o eb=>k b o (by
  rw[HH _ _ _ _ (BB (AI eb))];exact AD _ eb)
 have hn:H (s.heap.objs.size+1)=none:=I.hok.fresh (DC _);have hg':h'.get? (s.heap.objs.size+1)=some (seqObj "list" out e):=by rw[<-hsz];exact hg
 refine⟨.ref (s.heap.objs.size+1),upd H (s.heap.objs.size+1) (.lst ((out.toList.map strOf).map V.str)),?_,by show Value.ref _=_;rw[<-hsz],q _ _ hn hperm hpw⟩;refine I.laid (t':=s.toks) hk0 (DC _) ⟨?_,out.toList,e,hv,by simpa using hg'⟩;rw[AB,AB,hp.length_eq];omega
end
theorem U1{α β:Type}(f:α->β){l m:List β}(h:l.Perm m):∀ps:List α,m=ps.map f->∃ps':List α,ps'.Perm ps/\l=ps'.map f:=by
 induction h with
 | nil=>intro ps e;exact⟨ps,.refl _,e⟩
 | cons x _ ih =>
  intro ps e;cases ps with
  | nil=>cases e
  | cons p ps =>
   rw[AX]at e;obtain⟨rfl,e2⟩:=FZ e;obtain⟨ps',h1,h2⟩:=ih ps e2;exact⟨p::ps',.cons _ h1,by rw[AX,h2]⟩
 | swap x y l =>
  intro ps e
  match ps,e with
  | p::q::ps,e =>
   rw[AX,AX]at e;obtain⟨rfl,e2⟩:=FZ e;obtain⟨rfl,e3⟩:=FZ e2;exact⟨q::p::ps,.swap _ _ _,by rw[AX,AX,e3]⟩
 | trans _ _ ih1 ih2 =>
  intro ps e;obtain⟨ps1,h1,h2⟩:=ih2 ps e;obtain⟨ps2,h3,h4⟩:=ih1 ps1 h2;exact⟨ps2,h3.trans h1,h4⟩
abbrev PA2:=Addr×Str×Str
def zFa(q:PA2):List Nat×List Nat:=(q.2.1.cps.toList,q.2.2.cps.toList)
def leP(q r:PA2):Prop:=TS.pairLt (zFa r) (zFa q)=false
def E2(H:Hp)(q:PA2):Prop:=H q.1=some (.tup [.str q.2.1,.str q.2.2])
theorem Al:∀{ps:List PA2} {us:List Value},Vals (ps.map fun q=>V.ref q.1) us->us=ps.map fun q=>Value.ref q.1
 | [],_,.nil=>rfl
 | _::_,_,.cons r t=>by rw[AX,Al t];cases r;rfl
theorem Gb:∀(ps:List PA2),Vals (ps.map fun q=>V.ref q.1) (ps.map fun q=>Value.ref q.1)
 | []=>.nil
 | _::ps=>.cons rfl (Gb ps)
section
variable{X:Cx}
theorem Inv.pairAt{pins:List (Addr×Obj)}{σ:St}{H:Hp}{s:Shared}{q:PA2}(I:Inv X pins σ H s)(h:E2 H q):TS.PairAt s.heap (.ref q.1) q.2.1 q.2.2:=by
 obtain⟨its,rv,⟨o,e,c,n,d⟩,_⟩:=I.tuple (SqT.of h);obtain⟨u1,u2,rfl,⟨t,rfl⟩,⟨t',rfl⟩⟩:=rv.two;exact⟨q.1,o,n,t,t',rfl,e,c,d⟩
theorem Gx:E8 X (.builtin "sorted") (fun xs H Q=>∃(p:Addr) (ps:List PA2),xs = [.ref p]/\SqL X.K H p (ps.map fun q=>V.ref q.1)/\(∀q∈ps,E2 H q) /\
  ∀(l:Addr) (ps':List PA2),H l=none->ps'.Perm ps->ps'.Pairwise leP->Q (.ref l) (upd H l (.lst (ps'.map fun q=>V.ref q.1)))):=by
 intro pins s σ H xs us Q I r h;obtain⟨p,ps,rfl,hq,hpi,q⟩:=h;obtain⟨u,rfl,ru⟩:=W8 r;cases ru;obtain⟨its,rv,pl,hz⟩:=I.list hq;have ei:=Al rv;have hl:=rv.length;refine TS.sorted_gen (collect_list (vs:=its) pl.isList ?_ (by omega));have hsz:((s.heap.push (seqObj "list" #[] 0)).update s.heap.objs.size (Obj.mapSeq (· ++ its.toArray))).objs.size=s.heap.objs.size+1:=by rw[ET,size_push']
 have hk1:∀b o,s.heap.get? b=some o->((s.heap.push (seqObj "list" #[] 0)).update s.heap.objs.size (Obj.mapSeq (· ++ its.toArray))).get? b=some o:=fun b o eb=>by
  rw[HH _ _ _ _ (BB (AI eb))];exact AD _ eb
 have hpa:∀q∈ps,TS.PairAt s.heap (.ref q.1) q.2.1 q.2.2:=fun q hq=>I.pairAt (hpi q hq);refine⟨rfl,by omega,TS.pairKind s.heap,tuples' true,fun s2 hE=>TS.keys_pairs (fun v hv=>?_) (fun b o eb=>?_),fun out h' e ho k hg=>?_⟩
 .rw[ei]at hv;obtain⟨q,hq,rfl⟩:=AK.mp hv;exact⟨_,_,hpa q hq⟩
 .have hne:b≠((s.heap.push (seqObj "list" #[] 0)).update s.heap.objs.size (Obj.mapSeq (· ++ its.toArray))).objs.size:=by
   rw[hsz];exact BB (DG (AI eb))
  exact⟨hne,hE b o hne (hk1 b o eb)⟩
 .obtain⟨hp,hs⟩:=ho;rw[ei]at hp;obtain⟨ps',h1,h2⟩:=U1 (fun q:PA2=>Value.ref q.1) hp ps rfl;have hpw:ps'.Pairwise leP:=by
   rw[h2,CD]at hs;refine(FS.mp hs).imp fun{a b} ⟨ha,hb,z⟩=>?_;have ka:=(hpa a (h1.mem_iff.mp ha)).key;have kb:=(hpa b (h1.mem_iff.mp hb)).key;have z':TS.pairLt ((TS.pairOf s.heap (.ref b.1)).getD ([],[])) ((TS.pairOf s.heap (.ref a.1)).getD ([],[]))=false:=z;rw[ka,kb]at z';exact z'
  have hn:H (s.heap.objs.size+1)=none:=I.hok.fresh (DC _);have hg':h'.get? (s.heap.objs.size+1)=some (seqObj "list" out e):=by rw[<-hsz];exact hg
  refine⟨.ref (s.heap.objs.size+1),upd H (s.heap.objs.size+1) (.lst (ps'.map fun q=>V.ref q.1)),?_,by show Value.ref _=_;rw[<-hsz],q _ _ hn h1 hpw⟩;refine I.laid (t':=s.toks) (fun b o eb=>k b o (hk1 b o eb)) (DC _) ⟨?_,out.toList,e,by rw[h2];exact Gb ps',by simpa using hg'⟩;rw[AB,h1.length_eq];rw[AB]at hz;exact hz
end
theorem Inv.turnLaid{X:Cx}{pins:List (Addr×Obj)}{σ:St}{H:Hp}{s:Shared}{h':Heap}{t':Nat}{fp:List Addr}{T:Addr}{o:HO}(I:Inv X pins σ H s)(k:∀b ob,b∉fp->s.heap.get? b=some ob->h'.get? b=some ob)
  (hf:∀b∈fp,Be X pins H b) (hfo:∀b∈fp,∃ob,s.heap.get? b=some ob) (hT:s.heap.objs.size<=T) (new:ObjOk X.prog X.w (upd H T o) h' T o):Inv X pins σ (upd H T o) { s with heap:=h',toks:=t' }:=by
 have hn:=I.hok.fresh hT;have nT:∀b ob,s.heap.get? b=some ob->b≠T:=fun b ob e=>BB (BF (AI e) hT);have nf:∀b u,H b=some u->b∉fp:=fun b u e hb=>by rw[(hf b hb).1]at e;cases e
 refine I.step (g':=s.gens) (d':=s.drawn) (ch:=fp) (fun b hb=>let⟨_,f1,_,f3,f4,f5⟩:=hf b hb;⟨f3,f1,f4,f5⟩) (fun b ob _ _ hc e _=>k b ob hc e) (fun b ob _ _ hc e _=>⟨ob.slots,k b ob hc e⟩) (fun b ob _ e n=>by rw[B3 (nT b ob e)];exact n)
  (fun b ob hc e=>⟨ob,k b ob hc e⟩) (fun b xs e=>by rw[B3 (A9 e hn)];exact e) (fun b u xs e=>by rw[B3 (A9 e hn)];exact e) (fun b ps e=>⟨#[],by rw[B3 (A9 e hn),e];simp⟩) (fun m hm=>?_) (fun b u e=>?_) I.bare
 .obtain⟨ob,es,ep,ho,r⟩:=hm;exact⟨ob,es,ep,k _ ob (fun hb=>(hf _ hb).2.1 rfl) ho,r⟩
 .by_cases hb:b=T
  .subst hb;rw[upd_same]at e;cases e;exact new
  .rw[B3 hb]at e;refine(I.hok b u e).stay (fun c v hc q=>k c v ?_ q) (fun c q=>by rw[B3 (A9 q hn)];exact q) fun c xs q=>by rw[B3 (A9 q hn)];exact q
   rcases hc with z | z
   .rw[z];exact nf b u e
   .exact nf c _ z
def Ite(K:PySem.W.Frag)(a:Addr):It :=
 ⟨fun i H=>∃xs x,SqL K H a xs/\xs[i]?=some x,fun i H v H'=>∃T x,v = .ref T/\H T=none/\H'=upd H T (.tup [.int i,x])/\∀xs,SqL K H a xs->xs[i]?=some x,fun i H=>∃xs,SqL K H a xs/\xs.length=i⟩
theorem Oj{P:Program}{w:World}{K:PySem.W.Frag}{elts:List Expr}{kk:Nat}{tp:Pos}(a it e:Addr)(hei:e≠it):Turn P w K (.Tuple elts kk tp) (Ite K a) [e,it] e (fun i h=>(∃old,IsEnum h e it i old)/\h.IsListIter it a i) where
 mem:=by simp
 obj:=fun i h st b hb=>by
  obtain⟨⟨old,h1⟩,o,h2,c,d⟩:=st;rcases BD.mp hb with rfl | hb
  .exact⟨_,h1,fun v z=>by cases z⟩
  .rw[AE.mp hb];exact⟨o,h2,fun v z=>by rw[d]at z;cases z⟩
 keep:=fun i h h' st k=>⟨let⟨old,h1⟩:=st.1;⟨old,k e (by simp) _ h1⟩,st.2.at fun o x=>k it (by simp) o x⟩
 item:=by
  intro X hP hw hK hc i pins s σ H E I hf st hg;subst hP hw hK;obtain⟨xs,x,hq,hx⟩:=hg;obtain⟨its,rv,p,hz⟩:=I.list hq;obtain⟨u,hu,ru⟩:=rv.get hx;obtain⟨f0,f1,f2,f3,f4,f5⟩:=hf e (by simp);obtain⟨g0,g1,g2,g3,g4,g5⟩:=hf it (by simp);have hae:a≠e:=fun z=>by
   obtain⟨old,h1⟩:=st.1;obtain⟨o,n,e1,c,_⟩:=p;rw[z,h1]at e1;cases e1;exact absurd c (by show ¬Value.type "enumerate" = Value.type "list";decide)
  have hai:a≠it:=fun z=>by
   obtain⟨o2,h2,c2,d2⟩:=st.2;obtain⟨o,n,e1,c,_⟩:=p;rw[z,h2]at e1;cases e1;rw[c2]at c;exact absurd c (by decide)
  have hi:i<its.toArray.size:=by
   rw[BA];exact(AG.mp hu).1
  have W:=WalksT.enumerate (prog:=X.prog) (w:=X.w) (A:=X.A) (I.ok.hd hc) e it a hei hae hai its.toArray;refine W.item i s _ _ hi ⟨st.1,st.2,p.isList⟩ fun T vals h' tk hv hT ht hm k=>?_;obtain⟨t,x',hx',rfl⟩:=hv;have:x'=u:=by
   have:its.toArray[i]?=some u:=by simpa using hu
   rw[this]at hx';exact(BI hx').symm
  subst this;refine⟨.ref T,rfl,W.go elts kk tp i T _ _ _ hm fun h2 st2 k2=>?_⟩;have hTn:H T=none:=I.hok.fresh hT;have hTe:T≠e:=fun z=>W.apart i T h' hm (by simp[z]);have hTi:T≠it:=fun z=>W.apart i T h' hm (by simp[z]);have kk2:∀b o,b≠e->b≠it->s.heap.get? b=some o->h2.get? b=some o:=fun b o b1 b2 eb=>k2 b o (by simp[b1,b2]) (k b o (by simp[b1,b2]) eb);have hT2:h2.IsTuple T #[.int i t,x']:=by
   obtain⟨o,e1,r⟩:=ht;exact⟨o,k2 T o (by simp[hTe,hTi]) e1,r⟩
  refine⟨.ref T,upd H T (.tup [.int i,x]),I.turnLaid (fp:=[e,it]) (fun b o hb eb=>kk2 b o (fun z=>hb (by simp[z])) (fun z=>hb (by simp[z])) eb) hf (fun b hb=>?_) hT ⟨?_,[.int i t,x'],.cons ⟨t,rfl⟩ (.cons ru .nil),hT2⟩,rfl,⟨T,x,rfl,hTn,rfl,fun ys hy=>by rw[I.list_inj hy hq];exact hx⟩,⟨st2.1,st2.2.1⟩,fun b hb=>?_⟩
  .rcases BD.mp hb with rfl | hb
   .obtain⟨old,h1⟩:=st.1;exact⟨_,h1⟩
   .rw[AE.mp hb];obtain⟨o,h1,_⟩:=st.2;exact⟨o,h1⟩
  .show 2<=sizeLine;decide
  .rcases BD.mp hb with rfl | hb
   .rw[B3 (Ne.symm hTe)];exact f0
   .rw[AE.mp hb,B3 (Ne.symm hTi)];exact g0
 done:=by
  intro X hP hw hK hc i pins s σ H E I hf st hg;subst hP hw hK;obtain⟨xs,hq,hx⟩:=hg;obtain⟨its,rv,p,hz⟩:=I.list hq;obtain⟨f0,f1,f2,f3,f4,f5⟩:=hf e (by simp);obtain⟨g0,g1,g2,g3,g4,g5⟩:=hf it (by simp);have hae:a≠e:=fun z=>by
   obtain⟨old,h1⟩:=st.1;obtain⟨o,n,e1,c,_⟩:=p;rw[z,h1]at e1;cases e1;exact absurd c (by show ¬Value.type "enumerate" = Value.type "list";decide)
  have hai:a≠it:=fun z=>by
   obtain⟨o2,h2,c2,d2⟩:=st.2;obtain⟨o,n,e1,c,_⟩:=p;rw[z,h2]at e1;cases e1;rw[c2]at c;exact absurd c (by decide)
  have W:=WalksT.enumerate (prog:=X.prog) (w:=X.w) (A:=X.A) (I.ok.hd hc) e it a hei hae hai its.toArray;have hl:=rv.length;have hi:i=its.toArray.size:=by rw[BA];omega
  rw[hi]at st;refine W.done s _ _ ⟨st.1,st.2,p.isList⟩ fun h' tk k=>⟨rfl,?_⟩;have I1:=I.step (h':=h') (H':=H) (t':=tk) (g':=s.gens) (d':=s.drawn) (ch:=[e,it]) (fun b hb=>let⟨_,f1,_,f3,f4,f5⟩:=hf b hb;⟨f3,f1,f4,f5⟩) (fun b ob _ _ hc e _=>k b ob hc e) (fun b ob _ _ hc e _=>⟨ob.slots,k b ob hc e⟩) (fun _ _ _ _ n=>n)
   (fun b ob hc e=>⟨ob,k b ob hc e⟩) (fun _ _ e=>e) (fun _ _ _ e=>e) (fun b ps e=>⟨#[],by rw[e];simp⟩) (fun m hm=>?_) (fun b u eb=>?_) I.bare
  .exact I1
  .obtain⟨ob,es,ep,ho,r⟩:=hm;exact⟨ob,es,ep,k _ ob (fun hb=>(hf _ hb).2.1 rfl) ho,r⟩
  .have nf:∀b u,H b=some u->b∉[e,it]:=fun b u e hb=>by rw[(hf b hb).1]at e;cases e
   refine(I.hok b u eb).stay (fun c v hc q=>k c v ?_ q) (fun _ q=>q) fun _ _ q=>q;rcases hc with z | z
   .rw[z];exact nf b u eb
   .exact nf c _ z
 self:=fun A i s Q E st h=>by
  obtain⟨old,he⟩:=st.1;exact wpAny_pyIter_enum he h
section
variable{X:Cx}{elts:List Expr}{kk:Nat}{tp:Pos}
def zAx(K:PySem.W.Frag)(ta:TA):TI:=fun σ H R=>ta σ H fun vs H1=>∃a xs,vs = [.ref a]/\SqL K H1 a xs/\R (Ite K a) H1
theorem Ww{a:Expr}{ta:TA}{p pos:Pos}(hg:Gl X "enumerate")(hm:X.mg "enumerate" = none)(hv:bootBuiltins "enumerate" = some (.type "enumerate"))(ha:PA X [a] ta)(hs:starEach [a] X.env = [(false,eval a X.env)]:=by rfl):PI X (.Tuple elts kk tp) (.Call (.Name "enumerate" p) [a] [] pos) (zAx X.K ta):=by
 intro pins s σ H R I h;refine Call_ (Ar I hg hm hv (PyProof.Rows.callWith_type1 (thn (ha pos pins s σ H _ I h) fun us s1 ⟨vs,H1,I1,r1,q1⟩=>?_) hs rfl));obtain⟨l,xs,e,hq,q⟩:=q1;subst e;obtain⟨u,rfl,ru⟩:=W8 r1;cases ru;obtain⟨its,rv,pl,hz⟩:=I1.list hq;refine call_enumerate_list pl.isList fun h' he hit hsz k=>wpAny_pyIter_enum he ?_;have I2:Inv X pins σ H1 { s1 with heap:=h' }:=I1.kept (t':=s1.toks) k;refine⟨s1.heap.objs.size+1,[s1.heap.objs.size+1,s1.heap.objs.size],_,_,H1,rfl,I2,Oj l s1.heap.objs.size (s1.heap.objs.size+1) (Nat.succ_ne_self _),⟨⟨_,he⟩,hit⟩,fun b hb=>?_,q⟩;rcases BD.mp hb with z | hb
 .rw[z];exact I1.fpOk (DC _) (I1.hok.fresh (DC _))
 .rw[AE.mp hb];exact I1.fpOk (Nat.le_refl _) (I1.hok.fresh (Nat.le_refl _))
end
end L2
namespace ST
open PySem
def stp(mask i:Nat):Nat:=(5*i+1) %(mask+1)
def itr(mask:Nat):Nat->Nat->Nat
 | 0,i=>i
 | t+1,i=>itr mask t (stp mask i)
def orb(mask:Nat):Nat->Nat->List Nat
 | 0,_=>[]
 | n+1,i=>i::orb mask n (stp mask i)
theorem Ik(mask a b i:Nat):itr mask (a+b) i=itr mask b (itr mask a i):=by
 induction a generalizing i with
 | zero=>rw[EK];rfl
 | succ a ih=>rw[Nat.succ_add];exact ih (stp mask i)
theorem Pz{mask j:Nat}:∀{n i:Nat},j∈orb mask n i->∃t,t<n/\itr mask t i=j
 | 0,_,h=>by simp[orb]at h
 | n+1,i,h=>by
  rcases BD.mp h with rfl | h
  .exact⟨0,by omega,rfl⟩
  .obtain⟨t,h1,h2⟩:=Pz h;exact⟨t+1,by omega,h2⟩
def Msk(mask:Nat):Prop:=mask=7\/mask=31\/mask=127\/mask=511
def full(mask:Nat):Bool:=(List.range (mask+1)).all (fun j=>(orb mask (mask+1) 0).contains j)&&itr mask (mask+1) 0 == 0
theorem zEj:full 7=true:=by decide +kernel
theorem zBl:full 31=true:=by decide +kernel
theorem Yg:full 127=true:=by decide +kernel
theorem Zi:full 511=true:=by decide +kernel
theorem Msk.full{mask:Nat}(h:Msk mask):full mask=true:=by
 rcases h with rfl | rfl | rfl | rfl
 .exact zEj
 .exact zBl
 .exact Yg
 .exact Zi
theorem cyc{mask:Nat}(h:Msk mask){i j:Nat}(hi:i<=mask)(hj:j<=mask):∃t,t<=mask/\itr mask t i=j:=by
 have f:=h.full;unfold ST.full at f;rw[BU,GH]at f;obtain⟨f1,f2⟩:=f;have f2:itr mask (mask+1) 0=0:=by simpa using f2
 have at_:∀k,k<=mask->∃t,t<mask+1/\itr mask t 0=k:=fun k hk=>Pz (by simpa using f1 k (CI.mpr (by omega)));obtain⟨a,ha,ea⟩:=at_ i hi;obtain⟨b,hb,eb⟩:=at_ j hj;by_cases hab:a<=b
 .refine⟨b-a,by omega,?_⟩;rw[<-ea,<-Ik,show a +(b-a)=b by omega,eb]
 .refine⟨mask+1-a+b,by omega,?_⟩;rw[<-ea,<-Ik,show a +(mask+1-a+b) =(mask+1)+b by omega,Ik,f2,eb]
def lps(mask:Nat):Nat->Nat×Nat->Nat×Nat
 | 0,x=>x
 | t+1,x=>lps mask t (SetTable.leap mask x.1 x.2)
theorem Xy(mask a b:Nat)(x:Nat×Nat):lps mask (a+b) x=lps mask b (lps mask a x):=by
 induction a generalizing x with
 | zero=>rw[EK];rfl
 | succ a ih=>rw[Nat.succ_add];exact ih _
theorem Lp(mask:Nat):∀(t:Nat) (x:Nat×Nat),(lps mask t x).2=x.2 / 32^t
 | 0,x=>by simp[lps]
 | t+1,x=>by
  show(lps mask t (SetTable.leap mask x.1 x.2)).2=_;rw[Lp mask t];show x.2 / 32 / 32^t=_;rw[Nat.div_div_eq_div_mul,Nat.pow_succ,Nat.mul_comm]
theorem Vl(mask:Nat):∀(t:Nat) (x:Nat×Nat),x.1<=mask->(lps mask t x).1<=mask
 | 0,_,h=>h
 | t+1,x,_=>Vl mask t _ (Nat.lt_succ_iff.mp (Nat.mod_lt _ (Nat.succ_pos _)))
theorem Jw(mask:Nat):∀(t i:Nat),lps mask t (i,0) =(itr mask t i,0)
 | 0,_=>rfl
 | t+1,i=>by
  show lps mask t ((i*5+1+0 / 32) %(mask+1),0 / 32)=_;rw[Nat.zero_div,Nat.add_zero,Jw mask t,Nat.mul_comm];rfl
theorem Ph{mask:Nat}(h:Msk mask){i j p:Nat}(hi:i<=mask)(hj:j<=mask)(hp:p<2^64):∃t,t<=mask+13/\(lps mask t (i,p)).1=j:=by
 have e2:(lps mask 13 (i,p)).2=0:=by
  rw[Lp];exact Nat.div_eq_of_lt (BF hp (by decide))
 obtain⟨t,ht,et⟩:=cyc h (Vl mask 13 (i,p) hi) hj;refine⟨13+t,by omega,?_⟩;rw[Xy];have:lps mask 13 (i,p) =((lps mask 13 (i,p)).1,0):=Prod.ext rfl e2;rw[this,Jw];exact et
def adv(t:SetTable):Nat->SetTable.Probe->SetTable.Probe
 | 0,p=>p
 | n+1,p=>adv t n (t.advance p)
theorem Sj(t:SetTable)(a b:Nat)(p:SetTable.Probe):adv t (a+b) p=adv t b (adv t a p):=by
 induction a generalizing p with
 | zero=>rw[EK];rfl
 | succ a ih=>rw[Nat.succ_add];exact ih _
theorem Ot(t:SetTable):∀(m:Nat) (p:SetTable.Probe),p.more=m->∃p',adv t (m+1) p=p'/\p'.i =(SetTable.leap t.mask p.i p.perturb).1/\p'.perturb =(SetTable.leap t.mask p.i p.perturb).2/\p'.j=p'.i/\p'.more=SetTable.runEnd t.mask p'.i-p'.i/\p'.dummy=p.dummy
 | 0,p,h=>by
  have ea:t.advance p ={ p with j:=(SetTable.leap t.mask p.i p.perturb).1,more:=SetTable.runEnd t.mask (SetTable.leap t.mask p.i p.perturb).1-(SetTable.leap t.mask p.i p.perturb).1,i:=(SetTable.leap t.mask p.i p.perturb).1,perturb:=(SetTable.leap t.mask p.i p.perturb).2 }:=by
   unfold SetTable.advance;rw[AJ (by omega)]
  refine⟨t.advance p,rfl,?_⟩;rw[ea];exact⟨rfl,rfl,rfl,rfl,rfl⟩
 | m+1,p,h=>by
  have ea:t.advance p ={ p with j:=p.j+1,more:=p.more-1 }:=by unfold SetTable.advance;rw[AL (by omega)]
  obtain⟨p',h1,h2⟩:=Ot t m (t.advance p) (by rw[ea];show p.more-1=m;omega);rw[ea]at h2;exact⟨p',h1,h2⟩
theorem zCm(mask i:Nat):SetTable.runEnd mask i-i<=9:=by unfold SetTable.runEnd;split<;>omega
theorem Qc(t:SetTable):∀(n:Nat) (p:SetTable.Probe),p.j=p.i->p.more=SetTable.runEnd t.mask p.i-p.i->∃k,k<=10*n/\(adv t k p).j =(lps t.mask n (p.i,p.perturb)).1
 | 0,p,h1,_=>⟨0,by omega,h1⟩
 | n+1,p,h1,h2=>by
  obtain⟨p',e,a1,a2,a3,a4,_⟩:=Ot t p.more p rfl;obtain⟨k,hk,ek⟩:=Qc t n p' a3 a4;have:=zCm t.mask p.i;refine⟨p.more+1+k,by omega,?_⟩;rw[Sj,e,ek,a1,a2];rfl
theorem Gu(t:SetTable):∀(n:Nat) (p:SetTable.Probe),(adv t n p).dummy=p.dummy
 | 0,_=>rfl
 | n+1,p=>by
  show(adv t n (t.advance p)).dummy=_;rw[Gu t n];unfold SetTable.advance;split<;>rfl
theorem Qz{t:SetTable}(hm:Msk t.mask)(h:Int){j:Nat}(hj:j<=t.mask):∃n,n<10*SetTable.turns t.mask/\(adv t n (t.probeStart h)).j=j:=by
 have hb:SetTable.bits h<2^64:=by
  unfold SetTable.bits;have h1:0<=h %(2^64:Int):=GS _ (by decide);have h2:h %(2^64:Int)<2^64:=FQ _ (by decide);omega
 have hi:SetTable.bits h %(t.mask+1)<=t.mask:=Nat.lt_succ_iff.mp (Nat.mod_lt _ (Nat.succ_pos _));obtain⟨n,hn,en⟩:=Ph hm hi hj hb;obtain⟨k,hk,ek⟩:=Qc t n (t.probeStart h) rfl rfl;refine⟨k,by unfold SetTable.turns;omega,ek.trans en⟩
theorem m9{t:SetTable}(hd:t.dummies = #[])(j:Nat):t.slot j = .empty\/∃i,t.slot j = .live i/\t.place[i]?=some j:=by
 unfold SetTable.slot;dsimp only;by_cases h:(t.place[SetTable.below t.place j]? == some j)=true
 .rw[AL h];exact .inr ⟨_,rfl,by simpa using h⟩
 .rw[AJ h];have:SetTable.has t.dummies j=false:=by
   rw[hd];unfold SetTable.has;simp
  rw[this];exact .inl rfl
theorem Mn{t:SetTable}(hd:t.dummies = #[])(hs:t.place.size<=t.mask):∃j,j<=t.mask/\t.slot j = .empty:=by
 by_cases h:∃j,j<=t.mask/\t.slot j = .empty
 .exact h
 .exfalso;have all:∀j∈List.range (t.mask+1),j∈t.place.toList:=fun j hj=>by
   have hj':j<=t.mask:=by have:=CI.mp hj;omega
   rcases m9 hd j with e | ⟨i,_,e⟩
   .exact absurd ⟨j,hj',e⟩ h
   .exact BN (by rw[BP];exact e)
  have:=(IG (n:=t.mask+1)).length_le_of_subset all;rw[B_,AM]at this;omega
theorem Wa{t:SetTable}(hd:t.dummies = #[])(hashAt:Nat->Int)(h:Int)(p:SetTable.Probe)(hpd:p.dummy=none):∀(k m n fuel:Nat),m+k=n->t.slot (adv t n p).j = .empty->k<fuel ->
  (∃j,SetTable.probe.go t hashAt h fuel (adv t m p)=some (.empty j none)/\t.slot j = .empty) \/
   ∃l i,m<=l/\l<n/\t.slot (adv t l p).j = .live i/\hashAt i=h/\SetTable.probe.go t hashAt h fuel (adv t m p)=some (.candidate (adv t l p).j i (adv t (l+1) p))
 | k,m,n,0,_,_,hf=>absurd hf (HR _)
 | k,m,n,fuel+1,e,he,hf=>by
  have hdm:(adv t m p).dummy=none:=(Gu t m p).trans hpd;have nx:adv t (m+1) p=t.advance (adv t m p):=Sj t m 1 p;rcases m9 hd (adv t m p).j with es | ⟨i,es,ep⟩
  .refine .inl ⟨(adv t m p).j,?_,es⟩;unfold SetTable.probe.go;rw[es,hdm]
  .have hk:k≠0:=by
    rintro rfl;have:m=n:=by omega
    subst this;rw[he]at es;cases es
   by_cases hh:hashAt i=h
   .refine .inr ⟨m,i,Nat.le_refl _,by omega,es,hh,?_⟩;unfold SetTable.probe.go;rw[es];dsimp only;rw[AL (by simpa using hh),nx]
   .have eg:SetTable.probe.go t hashAt h (fuel+1) (adv t m p)=SetTable.probe.go t hashAt h fuel (adv t (m+1) p):=by
     conv=>lhs;unfold SetTable.probe.go
     rw[es];dsimp only;rw[AJ (by simpa using hh),nx]
    rcases Wa hd hashAt h p hpd (k-1) (m+1) n fuel (by omega) he (by omega)with⟨j,h1,h2⟩ | ⟨l,i',h1,h2,h3,h4,h5⟩
    .exact .inl ⟨j,eg.trans h1,h2⟩
    .exact .inr ⟨l,i',by omega,h2,h3,h4,eg.trans h5⟩
theorem Dk{α β:Type}{f g:α->Option β}:∀{l:List α},(∀x∈l,f x=g x)->l.filterMap f=l.filterMap g
 | [],_=>rfl
 | a::r,h=>by
  have h1:=h a (A_ ..);have h2:=Dk (l:=r) fun x hx=>h x (AO _ hx);rw[DH,DH,h1,h2]
theorem Wn{α:Type}{f g:Nat->Option α}{j:Nat}{k:α}(hg:g j=some k)(hf:f j=none):∀{l:List Nat},l.Nodup->j∈l->(∀i,i≠j->g i=f i)->(l.filterMap g).Perm (k::l.filterMap f)
 | [],_,h,_=>by simp at h
 | i::r,nd,h,he=>by
  obtain⟨n1,n2⟩:=D_.mp nd;by_cases e:i=j
  .subst e;have er:r.filterMap g=r.filterMap f:=Dk fun x hx=>he x fun z=>n1 (z▸hx);rw[EY hg,HM hf,er]
  .have hr:=Wn hg hf n2 ((BD.mp h).resolve_left fun z=>e z.symm) he;cases ef:f i with
   | none=>rw[HM ((he i e).trans ef),HM ef];exact hr
   | some b =>
    rw[EY ((he i e).trans ef),EY ef];exact(List.Perm.cons b hr).trans (List.Perm.swap _ _ _)
def ocs(mask:Nat)(ow:Array (Option Nat)):List Nat:=(List.range (mask+1)).filterMap fun j=>ow.getD j none
structure LI(mask:Nat)(ow:Array (Option Nat))(k:Nat):Prop where
 sz:ow.size=mask+1
 pm:(ocs mask ow).Perm (List.range k)
theorem Ny{mask:Nat}{ow:Array (Option Nat)}{j:Nat}(hj:ow[j]?=some none):∀(t fuel i p:Nat),(lps mask t (i,p)).1=j->t<fuel->∃j',SetTable.layClean.free mask ow fuel i p=some j'/\ow[j']?=some none
 | t,0,_,_,_,h=>absurd h (HR _)
 | t,fuel+1,i,p,e,h=>by
  unfold SetTable.layClean.free;cases q:(List.range (SetTable.runEnd mask i+1-i)).find? fun k=>(ow.getD (i+k) (some 0)).isNone with
  | some k =>
   refine⟨i+k,rfl,?_⟩;have:=List.find?_some q;rw[C_]at this;cases g:ow[i+k]? with
   | none=>rw[g]at this;simp at this
   | some z=>rw[g]at this;simp at this;rw[this]
  | none =>
   dsimp only;cases t with
   | zero =>
    exfalso;have e':i=j:=e;subst e';have hr:0∈List.range (SetTable.runEnd mask i+1-i):=CI.mpr (by unfold SetTable.runEnd;split<;>omega);have:=List.find?_eq_none.mp q 0 hr;rw[C_,Nat.add_zero,hj]at this;simp at this
   | succ t=>exact Ny hj t fuel _ _ e (by omega)
theorem LI.room{mask:Nat}{ow:Array (Option Nat)}{k:Nat}(h:LI mask ow k)(hk:k<=mask):∃j,j<=mask/\ow[j]?=some none:=by
 by_cases q:∃j,j<=mask/\ow[j]?=some none
 .exact q
 .exfalso;have all:∀j∈List.range (mask+1),∃v,ow.getD j none=some v:=fun j hj=>by
   have hj':j<ow.size:=by rw[h.sz];exact CI.mp hj
   cases e:ow[j]? with
   | none=>rw[Array.getElem?_eq_none_iff]at e;omega
   | some v =>
    cases v with
    | none=>exact absurd ⟨j,by have:=CI.mp hj;omega,e⟩ q
    | some v=>exact⟨v,by rw[C_,e];rfl⟩
  have hl:∀l:List Nat,(∀j∈l,∃v,ow.getD j none=some v)->(l.filterMap fun j=>ow.getD j none).length=l.length:=by
   intro l
   induction l with
   | nil=>intro _;rfl
   | cons j r ih =>
    intro ha;obtain⟨v,hv⟩:=ha j (A_ ..);rw[EY (f:=fun j=>ow.getD j none) hv,BM,BM,ih fun x hx=>ha x (AO _ hx)]
  have:=h.pm.length_eq;unfold ocs at this;rw[hl _ all,B_,B_]at this;omega
theorem LI.put{mask:Nat}{ow:Array (Option Nat)}{k j:Nat}(h:LI mask ow k)(hj:ow[j]?=some none):LI mask (ow.setIfInBounds j (some k)) (k+1):=by
 have hlt:j<ow.size:=by
  obtain⟨h1,_⟩:=CP.mp hj;exact h1
 refine⟨by rw[HJ];exact h.sz,?_⟩;have p:=Wn (f:=fun j=>ow.getD j none) (g:=fun i=>(ow.setIfInBounds j (some k)).getD i none) (j:=j) (k:=k) (by rw[C_,Array.getElem?_setIfInBounds_self_of_lt hlt];rfl) (by rw[C_,hj];rfl)
  (l:=List.range (mask+1)) IG (CI.mpr (by rw[<-h.sz];exact hlt)) fun i hi=>by
   rw[C_,Array.getElem?_setIfInBounds_ne (Ne.symm hi),<-C_]
 have e:List.range (k+1)=List.range k ++ [k]:=DN;refine p.trans ?_;rw[e];exact(List.Perm.cons k h.pm).trans (DB (l₁:=[k]))
theorem Yt(h:Int):SetTable.bits h<2^64:=by
 unfold SetTable.bits;have h1:0<=h %(2^64:Int):=GS _ (by decide);have h2:h %(2^64:Int)<2^64:=FQ _ (by decide);omega
theorem Vm{mask:Nat}(hm:Msk mask):∀(hs:List Int) (ow:Array (Option Nat)) (k:Nat),LI mask ow k->k+hs.length<=mask->∃ow',(hs.foldl (init:=some (ow,k)) fun acc h=>do
   let(owner,k) <-acc
   let j <-SetTable.layClean.free mask owner (SetTable.turns mask) (SetTable.bits h %(mask+1)) (SetTable.bits h)
   pure (owner.setIfInBounds j (some k),k+1))=some (ow',k+hs.length)/\LI mask ow' (k+hs.length)
 | [],ow,k,h,_=>⟨ow,rfl,h⟩
 | x::r,ow,k,h,hk=>by
  rw[BM]at hk;obtain⟨j,hj,ej⟩:=h.room (by omega);obtain⟨t,ht,et⟩:=Ph hm (i:=SetTable.bits x %(mask+1)) (j:=j) (Nat.lt_succ_iff.mp (Nat.mod_lt _ (Nat.succ_pos _))) hj (Yt x);obtain⟨j',h1,h2⟩:=Ny ej t (SetTable.turns mask) _ _ et (by unfold SetTable.turns;omega);obtain⟨ow',h3,h4⟩:=Vm hm r (ow.setIfInBounds j' (some k)) (k+1) (h.put h2) (by omega);refine⟨ow',?_,by rw[BM,show k +(r.length+1)=k+1+r.length by omega];exact h4⟩;rw[List.foldl_cons];show List.foldl _ ((SetTable.layClean.free mask ow (SetTable.turns mask) (SetTable.bits x %(mask+1)) (SetTable.bits x)).bind fun j=>some (ow.setIfInBounds j (some k),k+1)) r=_;rw[h1];show List.foldl _ (some (ow.setIfInBounds j' (some k),k+1)) r=_;rw[BM,show k +(r.length+1)=k+1+r.length by omega];exact h3
theorem Yl{mask:Nat}(hm:Msk mask)(finger moves:Nat)(led plain:Bool)(hs:Array Int)(hn:hs.size<=mask) :
  ∃place order,SetTable.laid mask finger moves led plain hs=some ({ mask,place,dummies:=#[],finger,led,moves,plain },order)/\place.size=hs.size/\order.toList.Perm (List.range hs.size):=by
 have h0:LI mask (Array.replicate (mask+1) none) 0:=by
  refine⟨Array.size_replicate,?_⟩;have:ocs mask (Array.replicate (mask+1) none) = []:=by
   unfold ocs;rw[List.filterMap_eq_nil_iff];intro j hj;rw[C_,Array.getElem?_replicate];split<;>rfl
  rw[this];exact GD _
 obtain⟨ow,h1,h2⟩:=Vm hm hs.toList _ 0 h0 (by rw[AM];omega);rw[EK,AM]at h1 h2;have hc:SetTable.layClean mask hs=some ow:=by
  unfold SetTable.layClean;rw[<-Array.foldl_toList,h1];rfl
 have e2:((List.range (mask+1)).filterMap fun j=>(ow.getD j none).map (j,·)).map (·.2)=ocs mask ow:=by
  unfold ocs;rw[List.map_filterMap];refine Dk fun j _=>?_;cases ow.getD j none<;>rfl
 refine⟨(((List.range (mask+1)).filterMap fun j=>(ow.getD j none).map (j,·)).map (·.1)).toArray,(((List.range (mask+1)).filterMap fun j=>(ow.getD j none).map (j,·)).map (·.2)).toArray,?_,?_,?_⟩
 .unfold SetTable.laid;rw[hc];rfl
 .rw[BA,AB,<-AB (f:=(·.2)),e2,h2.pm.length_eq,B_]
 .show(((List.range (mask+1)).filterMap fun j=>(ow.getD j none).map (j,·)).map (·.2)).Perm _;rw[e2];exact h2.pm
theorem Td{es:Array (Int×Value)}{order:Array Nat}(h:order.toList.Perm (List.range es.size)):(order.filterMap (es[·]?)).toList.Perm es.toList:=by
 rw[Array.toList_filterMap];refine(h.filterMap _).trans (List.Perm.of_eq ?_);refine FE fun t=>?_;have:(List.range es.size).filterMap (fun x=>es[x]?)=es.toList:=by
  have:∀(l:List (Int×Value)),(List.range l.length).filterMap (fun x=>l[x]?)=l:=by
   intro l
   induction l with
   | nil=>rfl
   | cons a r ih =>
    rw[BM,List.range_succ_eq_map,EY (by rfl:(a::r)[0]?=some a),List.filterMap_map];congr 1
  have q:=this es.toList;rw[AM]at q;simpa using q
 rw[this]
section
variable{prog:Program}{w:World}{K:Type}[DecidableEq K]{knd:KeyKind prog w K}{A:Around}{E:Value->Shared->Prop}{s:Shared}
structure Tab(t:SetTable)(n:Nat):Prop where
 dm:t.dummies = #[]
 pl:t.place.size=n
 mm:Msk t.mask
 rm:n*5<t.mask*3
theorem Tab.fits{t:SetTable}{n:Nat}(h:Tab t n):t.fits n=true:=by
 have:=h.rm;have:=h.pl;unfold SetTable.fits SetTable.fill;rw[h.dm];simp;omega
theorem Tab.odd{t:SetTable}{n:Nat}(h:Tab t n):t.gaveWay=false:=by
 unfold SetTable.gaveWay;rcases h.mm with e | e | e | e<;>rw[e]<;>rfl
def Els(knd:KeyKind prog w K)(es:Array (Int×Value))(ks:List (List K×Addr)):Prop:=es.toList.Perm (ks.map fun q=>((tupleKind knd).hash q.1,Value.ref q.2))
def TSet(knd:KeyKind prog w K)(h:Heap)(a:Addr)(ks:List (List K×Addr)):Prop:=∃o es ep t,h.get? a=some o/\o.ExactSet/\o.data = .set es ep t/\Els knd es ks/\Tab t es.size
theorem Els.get{es:Array (Int×Value)}{ks:List (List K×Addr)}(h:Els knd es ks){i:Nat}{e:Int×Value}(he:es[i]?=some e):∃k p,(k,p)∈ks/\e =((tupleKind knd).hash k,.ref p):=by
 have:e∈es.toList:=BN (by rw[BP];exact he);obtain⟨q,hq,rfl⟩:=AK.mp (h.mem_iff.mp this);exact⟨q.1,q.2,hq,rfl⟩
theorem y9{β:Type}{c:β}{f:Value->β->Sem (ForInStep β)}:∀{l:List Value},(∀y∈l,f y c=pure (.yield c))->forIn l c f=pure c
 | [],_=>List.forIn_nil
 | a::r,h=>by
  rw[List.forIn_cons,h a (A_ ..),pure_bind];exact y9 fun y hy=>h y (AO _ hy)
theorem Fg{ks:List K}{vs:List Value}(h:ItemsAre knd ks vs):∀v∈vs,∃x,knd.is x v=true:=by
 induction h with
 | nil=>intro v hv;simp at hv
 | cons h1 _ ih =>
  intro v hv;rcases BD.mp hv with rfl | hv
  .exact⟨_,h1⟩
  .exact ih v hv
def Flat(knd:KeyKind prog w K):Prop:=∀v,(∃x,knd.is x v=true)->carriedByValue v=true
theorem Flat.no{v:Value}(hF:Flat knd)(h:∃x,knd.is x v=true)(d:Nat):ofAClassStatement d v=pure false:=by
 have:=hF v h;cases v<;>first
  | (cases d<;>rfl)
  | (exact absurd this (by intro z;cases z))
theorem Wc{k:List K}{p:Addr}{Q:Bool->Shared->Prop}(hF:Flat knd)(hk:(tupleKind knd).is s.heap k p)(h:Q false s):wpAny (model prog w) A (ofAClassStatement 8 (.ref p)) Q E s:=by
 obtain⟨o,items,n,ho,hc,hd,hi⟩:=hk;have hT:s.TypeIs (.ref p) "tuple":=⟨o,ho,hc⟩;unfold ofAClassStatement;refine AA (wpAny_typeOf hT ?_);dsimp only;rw[AL (by rfl)];refine AA (AF ?_);simp only[EW,AV,DA];refine AA (wpAny_seqItems ho hd ?_);dsimp only;rw[<-Array.forIn_toList,y9 fun y hy=>by rw[hF.no (Fg hi y hy)];rfl];exact AA (AF (AF h))
theorem zAn{kx:List K}{px:Addr}{Q:Bool->Shared->Prop}(hF:Flat knd)(hx:(tupleKind knd).is s.heap kx px)(h:Q false s){l:List Value}(hl:∀v∈l,∃k p,v = .ref p/\(tupleKind knd).is s.heap k p) :
  wpAny (model prog w) A (searchCouldBeSeen (.ref px) l) Q E s:=by
 unfold searchCouldBeSeen;refine AA (wpAny_forIn_list _ (fun rest c s'=>s'=s/\c =(none,())/\∀v∈rest,v∈l) _ ?_ ?_ l _ ⟨rfl,rfl,fun _ h=>h⟩)
 .rintro v rest c s' ⟨rfl,rfl,hr⟩;obtain⟨k,p,rfl,hk⟩:=hl v (hr v (A_ ..));dsimp only;have hc:carriedByValue (Value.ref px)=false:=rfl;rw[hc,DZ,HN];split
  .exact AF ⟨rfl,rfl,fun u hu=>hr u (AO _ hu)⟩
  .refine AA ((tupleKind knd).quiet hx ?_);simp only[EW,AV,DA];refine AA ((tupleKind knd).quiet hk ?_);simp only[EW,AV,DA];refine AA (Wc hF hx ?_);simp only[AV,DA];refine AA (Wc hF hk ?_);simp only[AV,DA];exact AF ⟨rfl,rfl,fun u hu=>hr u (AO _ hu)⟩
 .rintro c s' ⟨rfl,rfl,_⟩;exact AF h
theorem Up(t:SetTable):t.sameMemory t.moves t.mask=some true:=by
 unfold SetTable.sameMemory;simp
theorem Ir{a:Addr}{o:Obj}{es:Array (Int×Value)}{ep:Nat}{t:SetTable}{ks:List (List K×Addr)}{kx:List K}{px:Addr}{adding:Bool}{Q:SetFound->Shared->Prop}{n:Nat}
  (hr:(tupleKind knd).room A) (hF:Flat knd) (ho:s.heap.get? a=some o) (hd:o.data = .set es ep t) (hE:Els knd es ks) (hT:Tab t es.size)
  (hks:∀q∈ks,(tupleKind knd).is s.heap q.1 q.2) (hx:(tupleKind knd).is s.heap kx px) (hne:∀q∈ks,q.1≠kx) (hn:n<10*SetTable.turns t.mask)
  (he:t.slot (adv t n (t.probeStart ((tupleKind knd).hash kx))).j = .empty) (h:∀j,t.slot j = .empty->Q (.free j false) s) :
  ∀(k m fuel:Nat) (stand:Option SetTable.Probe),stand.getD (t.probeStart ((tupleKind knd).hash kx))=adv t m (t.probeStart ((tupleKind knd).hash kx))->m+k=n->k<fuel ->
   wpAny (model prog w) A (setSearchFrom a (.ref px) ((tupleKind knd).hash kx) adding fuel stand) Q E s:=by
 intro k
 induction k using Nat.strongRecOn with
 | _ k ih =>
  intro m fuel stand hst hmk hf;cases fuel with
  | zero=>omega
  | succ fuel =>
   unfold setSearchFrom;refine AA (CK ho hd hT.fits ?_);dsimp only;rw[hT.odd];simp only[AV,DA];rw[hst];unfold SetTable.probe;rcases Wa hT.dm _ ((tupleKind knd).hash kx) (t.probeStart ((tupleKind knd).hash kx)) rfl k m n (10*SetTable.turns t.mask) hmk he (by omega)with⟨j,e1,e2⟩ | ⟨l,i,h1,h2,e1,e2,e3⟩
   .rw[e1];dsimp only;exact AF (h j e2)
   .rw[e3];dsimp only;obtain⟨i',hi',hpl⟩:∃i',t.slot (adv t l (t.probeStart ((tupleKind knd).hash kx))).j = .live i'/\t.place[i']?=some (adv t l (t.probeStart ((tupleKind knd).hash kx))).j:=by
     rcases m9 hT.dm (adv t l (t.probeStart ((tupleKind knd).hash kx))).j with z | z
     .rw[z]at e1;cases e1
     .exact z
    rw[e1]at hi';cases hi';have hlt:i<es.size:=by
     have:=(CP.mp hpl).1;rw[hT.pl]at this;exact this
    obtain⟨ent,hent⟩:∃ent,es[i]?=some ent:=⟨es[i],CP.mpr ⟨hlt,rfl⟩⟩;obtain⟨k',p',hm',rfl⟩:=hE.get hent;have hseen:∀v∈(es.filter (·.1 ==(tupleKind knd).hash kx)).toList.map (·.2),∃k p,v = .ref p/\(tupleKind knd).is s.heap k p:=by
     intro v hv;obtain⟨z,hz,rfl⟩:=AK.mp hv;have hz':z∈es.toList:=by
      rw[Array.toList_filter]at hz;exact(BC.mp hz).1
     obtain⟨q,hq,rfl⟩:=AK.mp (hE.mem_iff.mp hz');exact⟨q.1,q.2,rfl,hks q hq⟩
    have rest:wpAny (model prog w) A (do
      let some (_,y):=es[i]? | unsupported "internal:set-entry"
      let equal <-holding [y] (eqBool y (.ref px))
      let(es',_,t') <-setState a
      if adding&&equal then return .there none
      let some same:=t'.sameMemory t.moves t.mask | unsupported "set.changed-during-lookup:is-the-new-block-at-the-old-address"
      let still <-match(if same then t'.slot (adv t l (t.probeStart ((tupleKind knd).hash kx))).j else .empty)with
       | .live i'=>match es'[i']? with
        | some (_,y')=>do pure (if <-isSame y' y then some i' else none)
        | none=>pure none
       | _=>pure none
      match still with
      | none=>rule "set.search.anew";setSearchFrom a (.ref px) ((tupleKind knd).hash kx) adding fuel none
      | some i'=>if equal then return .there (some i')else setSearchFrom a (.ref px) ((tupleKind knd).hash kx) adding fuel (some (adv t (l+1) (t.probeStart ((tupleKind knd).hash kx))))) Q E s:=by
     rw[hent];dsimp only;refine AA (CU ((tupleKind knd).eqBool hr (hks _ hm') hx ?_));rw[AN (hne _ hm')];refine AA (CK ho hd hT.fits ?_);dsimp only;rw[Up,HY];simp only[AV,DA,FB];rw[e1];dsimp only;rw[hent];dsimp only;refine AA (wpAny_isSame_ref_self (AA (AF ?_)));simp only[FB];exact ih (n-(l+1)) (by omega) (l+1) fuel _ rfl (by omega) (by omega)
    cases hled:t.led with
    | true =>
     simp only[EW,AV,DA];exact rest
    | false =>
     simp only[HZ,FB];refine AA (zAn hF hx ?_ hseen);simp only[AV,DA];exact rest
theorem y6{a:Addr}{o:Obj}{es:Array (Int×Value)}{ep:Nat}{t:SetTable}{ks:List (List K×Addr)}{kx:List K}{px:Addr}{adding:Bool}{Q:SetFound->Shared->Prop}
  (hr:(tupleKind knd).room A) (hF:Flat knd) (ho:s.heap.get? a=some o) (hd:o.data = .set es ep t) (hE:Els knd es ks) (hT:Tab t es.size)
  (hks:∀q∈ks,(tupleKind knd).is s.heap q.1 q.2) (hx:(tupleKind knd).is s.heap kx px) (hne:∀q∈ks,q.1≠kx) (h:∀j,t.slot j = .empty->Q (.free j false) s) :
  wpAny (model prog w) A (setSearch a (.ref px) ((tupleKind knd).hash kx) adding) Q E s:=by
 obtain⟨j,hj,hs⟩:=Mn hT.dm (by rw[hT.pl];have:=hT.rm;omega);obtain⟨n,hn,e⟩:=Qz hT.mm ((tupleKind knd).hash kx) hj;unfold setSearch;refine Ir hr hF ho hd hE hT hks hx hne hn (by rw[e];exact hs) h n 0 100000 none rfl (by omega) ?_;have:SetTable.turns t.mask<=526:=by
  unfold SetTable.turns;rcases hT.mm with e | e | e | e<;>omega
 omega
theorem TSet.typeIs{a:Addr}{ks:List (List K×Addr)}(h:TSet knd s.heap a ks):s.TypeIs (.ref a) "set":=let⟨o,_,_,_,ho,hc,_⟩:=h;⟨o,ho,hc.1⟩
theorem Oa{px:Addr}{es:Array (Int×Value)}:byScan (.ref px) es=false:=rfl
theorem Ol{a:Addr}{ks:List (List K×Addr)}{kx:List K}{px:Addr}{Q:Option Nat->Shared->Prop}(hr:(tupleKind knd).room A)(hF:Flat knd)(hS:TSet knd s.heap a ks)
  (hks:∀q∈ks,(tupleKind knd).is s.heap q.1 q.2) (hx:(tupleKind knd).is s.heap kx px) (hne:∀q∈ks,q.1≠kx) (h:Q none s):wpAny (model prog w) A (setFind a (.ref px) ((tupleKind knd).hash kx)) Q E s:=by
 obtain⟨o,es,ep,t,ho,_,hd,hE,hT⟩:=hS;unfold setFind setFindIn;refine AA (CK ho hd hT.fits ?_);dsimp only;rw[Oa];simp only[AV,DA];refine AA (y6 hr hF ho hd hE hT hks hx hne fun j _=>?_);dsimp only;exact AF h
theorem in_free{neg:Bool}{a:Addr}{ks:List (List K×Addr)}{kx:List K}{px:Addr}{Q:Value->Shared->Prop}(hr:A.units+1<cLine)(hF:Flat knd)(hS:TSet knd s.heap a ks)
  (hks:∀q∈ks,(tupleKind knd).is s.heap q.1 q.2) (hx:(tupleKind knd).is s.heap kx px) (hne:∀q∈ks,q.1≠kx) (h:Q (.bool false) { s with toks:=s.toks +(tupleKind knd).draws kx }) :
  wpAny (model prog w) A (compareOp .In (.ref px) (.ref a)) Q E s:=by
 show wpAny _ _ (do return .bool (<-contains (.ref a) (.ref px))) Q E s;refine AA ?_;unfold contains
 try with_reducible refine CU ?_
 refine AA (wpAny_specialOf hS.typeIs F.slot_set_contains.lookup ?_);show wpAny _ _ (if(some (Value.builtin "set.__contains__") == some Value.none)=true then _ else _) _ E s;rw[AJ (by rw[beq_builtin_none];exact AY)];refine AA (wpAny_callSpecialUnlessNone?_slot (name:=Str.ofString "__contains__") hS.typeIs F.slot_set_contains
  (EG F.slot_set_contains hS.typeIs entry_set_contains ?_ (F.args_set_contains_2 _ _)))
 unfold Builtin.«frozenset.__contains__» Builtin.Frozenset.oneOther;simp only[List.isEmpty_nil,bind_assoc];unfold Builtin.Frozenset.addrOf Builtin.Frozenset.withSetAsKey setContains;refine AA (AF ?_)
 try dsimp only
 refine AA (AF ?_)
 try dsimp only
 refine AA (wpAny_tryCatch ?_);refine CU ?_;refine AA ((tupleKind knd).pyHash ?hroom hx ?_)
 case hroom=>exact hr
 refine AA (Ol (s:={ s with toks:=s.toks +(tupleKind knd).draws kx }) ?hroom hF hS hks hx hne ?_)
 case hroom=>exact hr
 refine AF ?_;show wpAny _ _ (ret (Value.bool false)) _ _ _;exact AF ⟨_,rfl,DM (AF h)⟩
def Scan(knd:KeyKind prog w K):Prop:=∀v,(∃x,knd.is x v=true)->v.scannable=true
theorem hbv{kx:List K}{px:Addr}{Q:Bool->Shared->Prop}(hB:Scan knd)(hx:(tupleKind knd).is s.heap kx px)(h:∀b,Q b s):wpAny (model prog w) A (hashByValue 8 (.ref px)) Q E s:=by
 obtain⟨o,items,n,ho,hc,hd,hi⟩:=hx;have hT:s.TypeIs (.ref px) "tuple":=⟨o,ho,hc⟩;unfold hashByValue;refine AA (wpAny_specialOf hT F.slot_tuple_hash.lookup ?_);dsimp only;refine AA (wpAny_seqItems ho hd ?_);dsimp only[Option.getD_some];rw[<-Array.forIn_toList];refine AA (BS (wpAny_forIn_list _ (fun rest c s'=>s'=s/\c =(none,())/\∀v∈rest,v∈items.toList) (fun c s'=>s'=s/\(c =(none,())\/c =(some false,()))) ?_ ?_ _ _ ⟨rfl,rfl,fun _ z=>z⟩) ?_ fun _ _ q=>q)
 .rintro v rest c s' ⟨rfl,rfl,hr⟩;rw[hashByValue_scannable _ (hB v (Fg hi v (hr v (A_ ..))))];refine AA (AF ?_);cases plainKind v with
  | true =>
   simp only[EW,AV,DA];exact AF ⟨rfl,rfl,fun u hu=>hr u (AO _ hu)⟩
  | false =>
   simp only[HZ,FB];exact AF ⟨rfl,.inr rfl⟩
 .rintro c s' ⟨rfl,rfl,_⟩;exact⟨rfl,.inl rfl⟩
 .rintro c s' ⟨rfl,rfl | rfl⟩
  .exact AF (h _)
  .exact AF (h _)
theorem g7{α:Type}(xs:Array α)(p:Nat)(x:α)(hp:p<=xs.size):(SetTable.insertAt xs p x).size=xs.size+1:=by
 unfold SetTable.insertAt;rw[Array.size_append,Array.size_push,GN,GN];omega
theorem Dp{α:Type}(xs:Array α)(p:Nat)(x:α)(hp:p<=xs.size):(SetTable.insertAt xs p x).toList.Perm (xs.toList ++ [x]):=by
 unfold SetTable.insertAt;rw[BW,DL,FA,FA];simp only[ES,E_,Nat.sub_zero];have e:List.take (xs.size-p) (List.drop p xs.toList)=List.drop p xs.toList:=by
  rw[CZ];rw[DJ,AM];omega
 rw[e];have e2:xs.toList=xs.toList.take p++xs.toList.drop p:=(CA ..).symm
 conv=>rhs;rw[e2]
 rw[BE,BE];exact DV _ DB
theorem X9(xs:Array Nat)(j:Nat):∀(f lo hi:Nat),lo<=hi->SetTable.below.go xs j f lo hi<=hi
 | 0,lo,hi,h=>h
 | f+1,lo,hi,h=>by
  unfold SetTable.below.go;split
  .rename_i h';dsimp only;split
   .exact X9 xs j f _ _ (by omega)
   .exact Nat.le_trans (X9 xs j f _ _ (by omega)) (by omega)
  .exact h
theorem Uf(xs:Array Nat)(j:Nat):SetTable.below xs j<=xs.size:=X9 xs j _ _ _ (CH _)
theorem zAl{t:SetTable}(hd:t.dummies = #[])(j:Nat):t.put j =({ t with place:=SetTable.insertAt t.place (SetTable.below t.place j) j },SetTable.below t.place j):=by
 unfold SetTable.put;have:SetTable.has t.dummies j=false:=by
  rw[hd];unfold SetTable.has;simp
 rw[this];rfl
theorem zGk:SetTable.sizeAbove 20=32:=by decide
theorem zFz:SetTable.sizeAbove 76=128:=by decide
theorem zEw:SetTable.sizeAbove 308=512:=by decide
theorem Us{f:Array (Int×Value)->Option (SetTable×Array Nat)->Sem (Array (Int×Value)×SetTable)}(hf:∀es laid,f es laid =(do
  let some (t,order):=laid | unsupported "internal:set-table-without-room"
  let es':=order.filterMap (es[·]?)
  if es'.size != es.size then unsupported "internal:set-table-lost-an-element"
  pure (es',t)))
  {a:Addr} {o:Obj} {es:Array (Int×Value)} {ep:Nat} {t:SetTable} {n m:Nat} {Q:Unit->Shared->Prop} (ho:s.heap.get? a=some o) (hd:o.data = .set es ep t) (hdm:t.dummies = #[]) (hfit:t.fits es.size=true)
  (hm:SetTable.sizeAbove n=m+1) (hmm:Msk m) (hsz:es.size*5<m*3)
  (h:∀(es':Array (Int×Value)) (t':SetTable),es'.toList.Perm es.toList->Tab t' es'.size->Q () { s with heap:=s.heap.update a (Obj.putSet es' t') }) :
  wpAny (model prog w) A (do
   let(es,_,t) <-setState a
   if SetTable.sizeAbove n>sizeLine then unsupported "set:memory"
   let(es,t) <-f es (t.relaid (es.map (·.1)) n)
   storeSet a es t) Q E s:=by
 refine AA (CK ho hd hfit ?_);dsimp only;have hm512:m<=511:=by rcases hmm with e | e | e | e<;>omega
 rw[hm,AJ (by rw[sizeLine_eq];omega)];rw[hf];have hs:(es.map (·.1)).size<=m:=by rw[GE];omega
 obtain⟨place,order,e1,e2,e3⟩:=Yl hmm t.finger (t.movedTo (SetTable.sizeAbove n-1)) t.led t.plain (es.map (·.1)) hs;have e0:t.relaid (es.map (·.1)) n=some ({ mask:=m,place,dummies:=#[],finger:=t.finger,led:=t.led,moves:=t.movedTo (SetTable.sizeAbove n-1),plain:=t.plain },order):=by
  unfold SetTable.relaid;rw[hm];rw[hm]at e1;exact e1
 rw[e0];dsimp only;have hp:(order.filterMap (es[·]?)).toList.Perm es.toList:=Td (by rw[GE]at e3;exact e3);have hz:(order.filterMap (es[·]?)).size=es.size:=by rw[<-AM,hp.length_eq,AM]
 rw[AJ (by rw[hz];simp)];refine AA (AF ?_);dsimp only;refine H_ ho hd (h _ _ hp ⟨rfl,?_,hmm,?_⟩) (by rw[hz,sizeLine_eq];omega)
 .rw[hz,e2,GE]
 .rw[hz];exact hsz
theorem Eh{h:Heap}{a:Addr}{o:Obj}{es:Array (Int×Value)}{ep:Nat}{t:SetTable}(ho:h.get? a=some o)(hd:o.data = .set es ep t)(es':Array (Int×Value))(t':SetTable) :
  (h.update a (Obj.putSet es' t')).get? a=some { o with data:=.set es' (ep+1) t' }:=by
 have:=CY (Obj.putSet es' t') ho (by rw[putSet_of es' t' hd];rfl);rw[putSet_of es' t' hd]at this;exact this
theorem Mi{a:Addr}{ks:List (List K×Addr)}{kx:List K}{px:Addr}{Q:Bool->Shared->Prop}(hr:(tupleKind knd).room A)(hF:Flat knd)(hB:Scan knd)(hS:TSet knd s.heap a ks)
  (hks:∀q∈ks,(tupleKind knd).is s.heap q.1 q.2) (hx:(tupleKind knd).is s.heap kx px) (hne:∀q∈ks,q.1≠kx) (hl:ks.length+1<=300)
  (h:∀h',Heap.SameBut a s.heap h'->TSet knd h' a (ks ++ [(kx,px)])->Q true { s with heap:=h' }) :
  wpAny (model prog w) A (setAddHashed a (.ref px) ((tupleKind knd).hash kx)) Q E s:=by
 obtain⟨o,es,ep,t,ho,hex,hd,hE,hT⟩:=hS;have hsz:es.size=ks.length:=by
  have:=hE.length_eq;rw[AM,AB]at this;exact this
 unfold setAddHashed setAddHashedIn;refine CU ?_;refine AA (CK ho hd hT.fits ?_);dsimp only;rw[Oa];simp only[AV,DA];refine AA (y6 hr hF ho hd hE hT hks hx hne fun j hj=>?_);dsimp only;refine AA (CK ho hd hT.fits ?_);dsimp only;rw[zAl hT.dm];dsimp only;have hb:=Uf t.place j;have hb':SetTable.below t.place j<=es.size:=by rw[hT.pl]at hb;exact hb
 have hrm:=hT.rm;have hmm:=hT.mm;have hsz1:=g7 es (SetTable.below t.place j) ((tupleKind knd).hash kx,Value.ref px) hb';have hpm:=Dp es (SetTable.below t.place j) ((tupleKind knd).hash kx,Value.ref px) hb';have hE1:∀es':Array (Int×Value),es'.toList.Perm (SetTable.insertAt es (SetTable.below t.place j) ((tupleKind knd).hash kx,Value.ref px)).toList->Els knd es' (ks ++ [(kx,px)]):=fun es' hp=>by
  unfold Els;rw[AU];exact hp.trans (hpm.trans (hE.append_right _))
 have key:∀t1:SetTable,t1.dummies = #[]->t1.mask=t.mask->t1.place.size=es.size+1->wpAny (model prog w) A (do
   storeSet a (SetTable.insertAt es (SetTable.below t.place j) ((tupleKind knd).hash kx,Value.ref px)) t1
   if(!false&&t1.tooFull)=true then do
    setRelay a (SetTable.grown (es.size+1))
    pure true
   else pure true) Q E s:=by
  intro t1 d1 m1 p1;refine AA (H_ ho hd ?_ (by rw[hsz1,sizeLine_eq];omega));have ho1:=Eh ho hd (SetTable.insertAt es (SetTable.below t.place j) ((tupleKind knd).hash kx,Value.ref px)) t1;have sb1:=EQ s.heap a (Obj.putSet (SetTable.insertAt es (SetTable.below t.place j) ((tupleKind knd).hash kx,Value.ref px)) t1);have htf:t1.tooFull=decide ((es.size+1)*5 ≥ t.mask*3):=by
   unfold SetTable.tooFull SetTable.fill;rw[d1,m1,p1];rfl
  rw[htf,HZ,IJ];by_cases hfull:(es.size+1)*5 ≥ t.mask*3
  .rw[AQ hfull,AL rfl];have hcase:∃m,SetTable.sizeAbove (SetTable.grown (es.size+1))=m+1/\Msk m/\(es.size+1)*5<m*3:=by
    have hg:SetTable.grown (es.size+1) =(es.size+1)*4:=by
     unfold SetTable.grown;rw[AJ (by omega)]
    rw[hg];rcases hmm with e | e | e | e
    .have:es.size+1=5:=by omega
     rw[this];exact⟨31,zGk,.inr (.inl rfl),by decide⟩
    .have:es.size+1=19:=by omega
     rw[this];exact⟨127,zFz,.inr (.inr (.inl rfl)),by decide⟩
    .have:es.size+1=77:=by omega
     rw[this];exact⟨511,zEw,.inr (.inr (.inr rfl)),by decide⟩
    .omega
   obtain⟨m,c1,c2,c3⟩:=hcase;refine AA ?_;unfold setRelay;refine Us (fun _ _=>rfl) (s:={ s with heap:=_ }) ho1 rfl d1 ?_ c1 c2 (by rw[hsz1];exact c3) fun es' t' hp ht=>?_
   .unfold SetTable.fits SetTable.fill;rw[hsz1,p1,d1,m1];have h300:es.size+1+0<=t.mask:=by rcases hmm with e | e | e | e<;>omega
    simp;omega
   .refine AF (h _ (sb1.trans (EQ _ a _)) ?_);exact⟨_,es',_,t',Eh ho1 rfl es' t',hex,rfl,hE1 es' hp,ht⟩
  .rw[AN hfull,AJ (by decide)];refine AF (h _ sb1 ⟨_,_,_,t1,ho1,hex,rfl,hE1 _ (.refl _),⟨d1,?_,?_,?_⟩⟩)
   .rw[p1,hsz1]
   .rw[m1];exact hmm
   .rw[m1,hsz1];omega
 have hps:(SetTable.insertAt t.place (SetTable.below t.place j) j).size=es.size+1:=by rw[g7 _ _ _ hb,hT.pl]
 cases hpl:t.plain with
 | true =>
  simp only[FB];refine AA (hbv hB hx fun b=>?_);cases b with
  | true =>
   simp only[FB];exact key _ hT.dm rfl hps
  | false =>
   simp only[AV,DA];exact key _ hT.dm rfl hps
 | false =>
  simp only[AV,DA];refine AA (AF ?_);simp only[FB];exact key _ hT.dm rfl hps
theorem call_add{a:Addr}{ks:List (List K×Addr)}{kx:List K}{px:Addr}{Q:Value->Shared->Prop}(hr:A.units+1<cLine)(hF:Flat knd)(hB:Scan knd)(hS:TSet knd s.heap a ks)
  (hks:∀q∈ks,(tupleKind knd).is s.heap q.1 q.2) (hx:(tupleKind knd).is s.heap kx px) (hne:∀q∈ks,q.1≠kx) (hl:ks.length+1<=300)
  (h:∀h',Heap.SameBut a s.heap h'->TSet knd h' a (ks ++ [(kx,px)])->Q .none { s with heap:=h',toks:=s.toks +(tupleKind knd).draws kx }) :
  wpAny (model prog w) A (call (.builtin "set.add") [.ref a,.ref px]) Q E s:=by
 refine EG F.slot_set_add hS.typeIs F.entry_set_add ?_ (F.args_set_add_2 _ _);unfold Builtin.«set.add» Builtin.Frozenset.oneOther;simp only[List.isEmpty_nil,bind_assoc];unfold Builtin.Frozenset.addrOf setAdd;refine AA (AF ?_)
 try dsimp only
 refine AA (AF ?_)
 try dsimp only
 refine AA ?_;refine CU ?_;refine AA ((tupleKind knd).pyHash ?hroom hx ?_)
 case hroom=>exact hr
 refine Mi (s:={ s with toks:=s.toks +(tupleKind knd).draws kx }) ?hroom hF hB hS hks hx hne hl fun h' hsb hS'=>?_
 case hroom=>exact hr
 show wpAny _ _ (ret Value.none) _ _ _;exact AF ⟨_,rfl,h h' hsb hS'⟩
end
theorem Lf:Manifest.owners.lookup (String.ofList ['r','o','t','a','r','e','t','i','_','t','e','s'].reverse)=some Manifest.sig_set_iterator:=by kernel_rfl
theorem slot_si_next:Slot "set_iterator" "__next__" "set_iterator.__next__" :=
 .of (owner := "set_iterator") (n := "__next__") (by rw[typeLookup_type,builtinLookup_eq_fast];kernel_rfl) (by decide +kernel) (by decide +kernel) (by decide +kernel) (by first | exact .inl (by decide +kernel) | exact .inr (by decide +kernel)) (by rw[isSubtype_type];kernel_rfl)
theorem f9:entryFor table "set_iterator.__next__" = some Builtin.«set_iterator.__next__»:=entryFor_of_tree (by kernel_rfl)
theorem o7(a:Value):argsOk "set_iterator.__next__" ⟨[a],[]⟩:=by
 unfold argsOk;rw[signature?_of (id := "set_iterator.__next__") (n:=['_','_','t','x','e','n','_','_']) (o:=['r','o','t','a','r','e','t','i','_','t','e','s']) (by kernel_rfl) Lf];kernel_rfl
theorem p9:Slot "set_iterator" "__iter__" "set_iterator.__iter__" :=
 .of (owner := "set_iterator") (n := "__iter__") (by rw[typeLookup_type,builtinLookup_eq_fast];kernel_rfl) (by decide +kernel) (by decide +kernel) (by decide +kernel) (by first | exact .inl (by decide +kernel) | exact .inr (by decide +kernel)) (by rw[isSubtype_type];kernel_rfl)
theorem Fo(a:Value):argsOk "set_iterator.__iter__" ⟨[a],[]⟩:=by
 unfold argsOk;rw[signature?_of (id := "set_iterator.__iter__") (n:=['_','_','r','e','t','i','_','_']) (o:=['r','o','t','a','r','e','t','i','_','t','e','s']) (by kernel_rfl) Lf];kernel_rfl
theorem Ei:entryFor table "set_iterator.__iter__" = some Builtin.«dict_keyiterator.__iter__» :=
 entryFor_alias (id' := "dict_keyiterator.__iter__") (by kernel_rfl) (by first | rfl | decide +kernel | (unfold String.splitOn;simp +decide [String.splitOnAux])) (by decide +kernel) (by kernel_rfl)
theorem Ge:entryFor table "set.__iter__" = some Builtin.«frozenset.__iter__» :=
 entryFor_alias (id' := "frozenset.__iter__") (by kernel_rfl) rfl (by decide +kernel) (by kernel_rfl)
theorem zDt:typeLookup (.type "set") "__len__" = pure (some (.builtin "set.__len__")):=by rw[typeLookup_type,builtinLookup_eq_fast];kernel_rfl
section
variable{prog:Program}{w:World}{A:Around}{E:Value->Shared->Prop}{s:Shared}
theorem Pi{n:Nat}{Q:Nat->Shared->Prop}(hn:n≠0)(h:∀i d,i<n->Q i { s with drawn:=d }):wpAny (model prog w) A (choose .order n) Q E s:=fun Γ p hΓ=>by
 unfold choose;rw[Sem.wp_choose];exact⟨hn,h _ _ (Nat.mod_lt _ (Nat.pos_of_ne_zero hn))⟩
theorem erase_perm{α:Type}:∀{l:List α} {i:Nat} {x:α},l[i]?=some x->(x::l.eraseIdx i).Perm l
 | [],i,x,h=>by simp at h
 | y::l,0,x,h=>by
  have:y=x:=by simpa using h
  subst this;exact .refl _
 | y::l,i+1,x,h=>by
  have h':l[i]?=some x:=by simpa using h
  exact(List.Perm.swap y x _).trans ((erase_perm h').cons y)
theorem Gf{α:Type}{l:List α}{i:Nat}{x:α}(h:l[i]?=some x):(l.eraseIdx i).length+1=l.length:=(erase_perm h).length_eq
theorem Qg{α:Type}:∀(n:Nat) (l:List α) (s:Shared) (Q:List α->Shared->Prop),l.length=n->(∀l' d,l'.Perm l->Q l' { s with drawn:=d })->wpAny (model prog w) A (drawOrder n l) Q E s
 | 0,l,s,Q,hl,h=>by
  unfold drawOrder;obtain rfl:=List.length_eq_zero_iff.mp hl;exact AF (h [] s.drawn (.refl _))
 | n+1,[],s,Q,hl,h=>by simp at hl
 | n+1,x::xs,s,Q,hl,h=>by
  unfold drawOrder;refine AA (Pi (by simp) fun i d hi=>?_);have e:(x::xs)[i]?=some ((x::xs)[i]):=AC hi;rw[e];dsimp only;have hp:=erase_perm e;refine AA (Qg n _ _ _ (by have:=Gf e;omega) fun l' d' hp'=>?_);exact AF (h _ d' ((hp'.cons _).trans hp))
theorem Pk{α:Type}(nx:Nat->Nat):∀(f k:Nat) (left:List α) (out:Array α),left.length=f->(pickOrder.go nx f k left out).toList.Perm (out.toList++left)
 | 0,k,left,out,h=>by
  obtain rfl:=List.length_eq_zero_iff.mp h;unfold pickOrder.go;simp
 | f+1,k,left,out,h=>by
  have hlt:nx k % left.length<left.length:=Nat.mod_lt _ (by omega);have e:left[nx k % left.length]?=some left[nx k % left.length]:=AC hlt;unfold pickOrder.go;rw[e];dsimp only;have hp:=erase_perm e;refine(Pk nx f (k+1) _ _ (by have:=Gf e;omega)).trans ?_;rw[DL,BE];exact hp.append_left _
theorem Ah{α:Type}(nx:Nat->Nat)(xs:Array α):(pickOrder nx xs).toList.Perm xs.toList:=by
 unfold pickOrder;have:=Pk nx xs.size 0 xs.toList #[] (AM ..);simpa using this
structure SAt(w:World)(h:Heap)(a:Addr)(o:Obj)(es:Array (Int×Value))(ep:Nat)(t:SetTable):Prop where
 ho:h.get? a=some o
 ex:o.ExactSet
 hd:o.data = .set es ep t
 ft:t.fits es.size=true
 led:t.led=!(w.params.followText "set-order")
 pln:t.plain=true->es.size=0
 few:es.size<4096
def sIt(first:Value)(i n ep:Nat)(a:Addr):Obj:={ cls:=.type "set_iterator",data:=.fields #[first,rawInt i,.ref a,rawInt n,rawInt ep] }
theorem O6{Q:Bool->Shared->Prop}(h:Q (w.params.followText "set-order") s):wpAny (model prog w) A setsByText Q E s:=by
 unfold setsByText;exact AA (HC (AF h))
variable{a it:Addr}{o:Obj}{es:Array (Int×Value)}{ep:Nat}{t:SetTable}
theorem w5{i sl:Nat}{r:Option (Value×Nat)}{Q:Option Value->Shared->Prop}(hh:A.handled=none)(S:SAt w s.heap a o es ep t)(hne:it≠a)(hi:s.heap.get? it=some (sIt (rawInt sl) i es.size ep a))
  (hin:∀(Q':Option (Value×Nat)->Shared->Prop) (A':Around) (E':Value->Shared->Prop),Q' r s->wpAny (model prog w) A' (setNext a sl i ep) Q' E' s)
  (hQ1:∀x nx h',r=some (x,nx)->h'.get? it=some (sIt (rawInt nx) (i+1) es.size ep a)->Heap.SameBut it s.heap h'->Q (some x) { s with heap:=h' })
  (hQ0:r=none->∀h',Heap.ExtBut it s.heap h'->Q none { s with heap:=h' }):wpAny (model prog w) A (pyNext (.ref it)) Q E s:=by
 have hT:s.TypeIs (.ref it) "set_iterator":=⟨_,hi,rfl⟩;unfold pyNext;refine AA (wpAny_attempt (wpAny_callSpecial?_slot (name:=Str.ofString "__next__") hT slot_si_next (EG slot_si_next hT f9 ?_ (o7 _))));unfold Builtin.«set_iterator.__next__»;refine AA (GK (a:=(Value.ref it,[])) rfl ?_);dsimp only;refine AA (wpAny_fieldsOf hi rfl ?_);dsimp only[rawInt];refine AA (wpAny_setEntries_of S.ho S.hd S.ft ?_);rw[AJ (by simp)];simp only[CQ];refine AA (hin _ _ _ ?_);cases r with
 | some p =>
  obtain⟨x,nx⟩:=p;dsimp only;refine AA (FR hi rfl (by simp) ?_);have h1:=CY (Obj.mapFields (·.setIfInBounds 0 (rawInt (nx:Nat)))) hi rfl;refine AA (FR h1 rfl (by simp) ?_);have h2:=CY (Obj.mapFields (·.setIfInBounds 1 (rawInt ((i:Int)+1)))) h1 rfl;refine AF ⟨x,rfl,AF (hQ1 x nx _ rfl ?_ ((EQ ..).trans (EQ ..)))⟩;exact h2
 | none =>
  dsimp only;refine AA (FR hi rfl (by simp) ?_);refine AA ?_;simp only[newExc,newTuple];refine AA (DX ?_ (by size_fits));refine AA (m:=firstArgMember _ _) (GK (a:=Value.none) (by first | rfl | (simp only[firstArgMember];rfl)) ?_);refine DX ?_ (by size_fits);simp only[raiseNew];refine AA (wpAny_handled ?_)
  first | rw[show A.in1.handled=none from hh] | rw[hh]
  refine AA (AF (wpAny_throw ?_));refine AA (wpAny_isInstance (T := "StopIteration") (b:=true) ⟨_,AS _ rfl,rfl⟩ isSubtype_stop ?_);exact AF (hQ0 rfl _ ((IH (IH (fun b o hb e=>(BR _ _ (Ne.symm hb)).trans e) _)) _))
end
def zBx(ps:List Nat):Obj:={ cls:=.type "tuple",data:=.seq (ps.map fun(i:Nat)=>rawInt i).toArray }
section
variable{prog:Program}{w:World}{A:Around}{E:Value->Shared->Prop}{s:Shared}{a it T:Addr}{o:Obj}{es:Array (Int×Value)}{ep:Nat}{t:SetTable}
theorem Lc{i:Nat}{ps:List Nat}{Q:Option Value->Shared->Prop}(hh:A.handled=none)(S:SAt w s.heap a o es ep t)(hi:s.heap.get? it=some (sIt (.ref T) i es.size ep a))(hT:s.heap.get? T=some (zBx ps))
  (hQ1:∀p x h',ps[i]?=some p->es[p]?=some x->h'.get? it=some (sIt (.ref T) (i+1) es.size ep a)->Heap.SameBut it s.heap h'->Q (some x.2) { s with heap:=h' }) (hps:∀p∈ps,p<es.size)
  (hQ0:ps.length<=i->∀h',Heap.ExtBut it s.heap h'->Q none { s with heap:=h' }):wpAny (model prog w) A (pyNext (.ref it)) Q E s:=by
 have hTy:s.TypeIs (.ref it) "set_iterator":=⟨_,hi,rfl⟩;unfold pyNext;refine AA (wpAny_attempt (wpAny_callSpecial?_slot (name:=Str.ofString "__next__") hTy slot_si_next (EG slot_si_next hTy f9 ?_ (o7 _))));unfold Builtin.«set_iterator.__next__»;refine AA (GK (a:=(Value.ref it,[])) rfl ?_);dsimp only;refine AA (wpAny_fieldsOf hi rfl ?_);dsimp only[rawInt];refine AA (wpAny_setEntries_of S.ho S.hd S.ft ?_);rw[AJ (by simp)];simp only[CQ];refine AA (wpAny_seqItems hT rfl ?_);dsimp only;cases e:ps[i]? with
 | some p =>
  have e':(ps.map fun(i:Nat)=>Value.int (i:Int) 0).toArray[i]?=some (.int (p:Int) 0):=by
   rw[List.getElem?_toArray,AH,e];rfl
  have e'':(ps.map fun(i:Nat)=>rawInt i).toArray[i]?=some (.int (p:Int) 0):=e';rw[e''];have hp:p<es.size:=hps p (BN e);obtain⟨x,hx⟩:∃x,es[p]?=some x:=⟨es[p],CP.mpr ⟨hp,rfl⟩⟩;dsimp only;simp only[CQ];unfold setNextDrawn;refine AA (AA (CK S.ho S.hd S.ft ?_));dsimp only;rw[AJ (by simp),hx];dsimp only;refine AF ?_;refine AA (FR hi rfl (by simp) ?_);have h2:=CY (Obj.mapFields (·.setIfInBounds 1 (rawInt ((i:Int)+1)))) hi rfl;exact AF ⟨x.2,rfl,AF (hQ1 p x _ e hx h2 (EQ ..))⟩
 | none =>
  have e'':(ps.map fun(i:Nat)=>rawInt i).toArray[i]?=none:=by
   rw[List.getElem?_toArray,AH,e];rfl
  rw[e''];dsimp only;refine AA (FR hi rfl (by simp) ?_);have h1:=CY (Obj.mapFields (·.setIfInBounds 0 (rawInt 0))) hi rfl;refine AA (FR h1 rfl (by simp) ?_);refine AA ?_;simp only[newExc,newTuple];refine AA (DX ?_ (by size_fits));refine AA (m:=firstArgMember _ _) (GK (a:=Value.none) (by first | rfl | (simp only[firstArgMember];rfl)) ?_);refine DX ?_ (by size_fits);simp only[raiseNew];refine AA (wpAny_handled ?_);rw[show A.in1.handled=none from hh];refine AA (AF (wpAny_throw ?_));refine AA (wpAny_isInstance (T := "StopIteration") (b:=true) ⟨_,AS _ rfl,rfl⟩ isSubtype_stop ?_);refine AF (hQ0 (List.getElem?_eq_none_iff.mp e) _ (IH (IH (fun b ob hb eb=>?_) _) _));exact(BR _ _ (Ne.symm hb)).trans ((BR _ _ (Ne.symm hb)).trans eb)
def zFs(w:World)(a T:Addr)(es:Array (Int×Value))(ep:Nat)(t:SetTable)(order:List Value)(i:Nat)(h:Heap)(first:Value):Prop :=
 (w.params.followText "set-order" = true/\first=rawInt (0:Nat)/\order =(pickOrder (w.params.setOrder a ep) es).toList.map (·.2)) \/
 (w.params.followText "set-order" = false/\∃ps:List Nat,first = .ref T/\h.get? T=some (zBx ps)/\ps.Perm (List.range es.size)/\order=ps.filterMap fun p=>es[p]?.map (·.2)) \/
 (w.params.followText "set-order" = false/\es.size<=1/\order=es.toList.map (·.2)/\∃sl:Nat,first=rawInt sl/\(i=0->sl=0)/\(i=1->∃j,t.place = #[j]/\sl=j+1))
def SSt(w:World)(a it T:Addr)(o:Obj)(es:Array (Int×Value))(ep:Nat)(t:SetTable)(order:List Value)(i:Nat)(h:Heap):Prop :=
 SAt w h a o es ep t/\∃first,h.get? it=some (sIt first i es.size ep a)/\zFs w a T es ep t order i h first
theorem SAt.at{h h':Heap}(S:SAt w h a o es ep t)(e:h'.get? a=some o):SAt w h' a o es ep t:=⟨e,S.ex,S.hd,S.ft,S.led,S.pln,S.few⟩
theorem Zu(j:Nat):SetTable.below #[j] 0=0:=by simp[SetTable.below,SetTable.below.go]
theorem Zw(j:Nat):SetTable.below #[j] (j+1)=1:=by simp[SetTable.below,SetTable.below.go]
theorem Uh(S:SAt w s.heap a o es ep t):t.place.size=es.size:=by
 have:=S.ft;unfold SetTable.fits at this;rw[BU]at this;simpa using this.1
theorem Pt(hh:A.handled=none){order:List Value}(hia:it≠a)(hiT:it≠T):Walks prog w A it [it,a,T] [it] es.size (fun i v=>order[i]?=some v) (SSt w a it T o es ep t order) where
 sub:=fun b hb=>by simp at hb;simp[hb]
 frame:=fun i h h' ⟨S,first,hi,hm⟩ k=>by
  refine⟨S.at (k a (by simp) _ S.ho),first,k it (by simp) _ hi,?_⟩;rcases hm with z | ⟨z1,ps,z2,z3,z4,z5⟩ | z
  .exact .inl z
  .exact .inr (.inl ⟨z1,ps,z2,k T (by simp) _ z3,z4,z5⟩)
  .exact .inr (.inr z)
 item:=fun i s Q E hlt ⟨S,first,hi,hm⟩ hQ=>by
  have keep:∀h',Heap.SameBut it s.heap h'->∀b ob,b∉[it]->s.heap.get? b=some ob->h'.get? b=some ob:=fun h' hs b ob hb e=>(hs.2 b (by simpa using hb)).trans e;rcases hm with⟨z1,rfl,z3⟩ | ⟨z1,ps,rfl,z3,z4,z5⟩ | ⟨z1,z2,z3,sl,rfl,z5,z6⟩
  .have hpk:=Ah (w.params.setOrder a ep) es;have hlen:(pickOrder (w.params.setOrder a ep) es).size=es.size:=by rw[<-AM,hpk.length_eq,AM]
   obtain⟨x,hx⟩:∃x,(pickOrder (w.params.setOrder a ep) es)[i]?=some x:=⟨_,CP.mpr ⟨by rw[hlen];exact hlt,rfl⟩⟩;refine w5 (r:=some (x.2,0)) hh S hia hi (fun Q' A' E' q=>?_) (fun y nx h' e1 e2 hs=>?_) (fun e=>nomatch e)
   .unfold setNext setWalk;refine AA (CK S.ho S.hd S.ft ?_);dsimp only;refine AA (O6 ?_);rw[z1,AL rfl,AJ (by simp)];refine AA (AA (CK S.ho S.hd S.ft ?_));dsimp only;refine AA (O6 ?_);rw[z1,AL rfl];refine AA (HC (AF (AF ?_)));show Q' (((pickOrder (w.params.setOrder a ep) es)[i]?).map fun e=>(e.2,0)) s;rw[hx];exact q
   .cases e1;have:=hQ x.2 h' s.toks (by rw[z3,AH,BP,hx];rfl) ⟨S.at ((hs.2 a (Ne.symm hia)).trans S.ho),_,e2,.inl ⟨z1,rfl,z3⟩⟩ (keep h' hs);exact this
  .refine Lc hh S hi z3 (fun p x h' e1 e2 e3 hs=>?_) (fun p hp=>CI.mp (z4.mem_iff.mp hp)) (fun hle=>?_)
   .have hall:∀q∈ps,(es[q]?.map (·.2)).isSome=true:=fun q hq=>by
     have:q<es.size:=CI.mp (z4.mem_iff.mp hq);rw[CP.mpr ⟨this,rfl⟩];rfl
    refine hQ x.2 h' s.toks ?_ ⟨S.at ((hs.2 a (Ne.symm hia)).trans S.ho),_,e3,.inr (.inl ⟨z1,ps,rfl,(hs.2 T (Ne.symm hiT)).trans z3,z4,z5⟩)⟩ (keep h' hs);have gen:∀(l:List Nat) (i p:Nat),(∀q∈l,(es[q]?.map (·.2)).isSome=true)->l[i]?=some p->(l.filterMap fun p=>es[p]?.map (·.2))[i]?=es[p]?.map (·.2):=by
     intro l
     induction l with
     | nil=>intro i p _ e;simp at e
     | cons q r ih =>
      intro i p hl e;obtain⟨v,hv⟩:=EX.mp (hl q (A_ ..));rw[DH,hv];dsimp only;cases i with
      | zero =>
       have:q=p:=by simpa using e
       subst this;simpa using hv.symm
      | succ i=>simpa using ih i p (fun q hq=>hl q (AO _ hq)) (by simpa using e)
    rw[z5,gen ps i p hall e1,e2];rfl
   .have:=z4.length_eq;rw[B_]at this;omega
  .have h0:i=0:=by omega
   have h1:es.size=1:=by omega
   obtain⟨j,hj⟩:∃j,t.place = #[j]:=Array.size_eq_one_iff.mp ((Uh S).trans h1);obtain⟨x,hx⟩:∃x,es = #[x]:=Array.size_eq_one_iff.mp h1;have hs0:=z5 h0;subst hs0;have hx0:es[0]?=some x:=by rw[hx];rfl
   refine w5 (r:=some (x.2,j+1)) hh S hia hi (fun Q' A' E' q=>?_) (fun y nx h' e1 e2 hs=>?_) (fun e=>nomatch e)
   .unfold setNext;refine AA (CK S.ho S.hd S.ft ?_);dsimp only;refine AA (O6 ?_);rw[z1,AJ (by decide)];show wpAny _ _ (if(!t.plain&&decide (es.size>1))=true then _ else _) _ _ _;rw[AJ (by rw[h1];simp)];show wpAny _ _ (do (if(!t.led&&!es.isEmpty)=true then unsupported "set:maker-not-led" else pure ());_) _ _ _;rw[S.led,z1,AJ (by simp)];refine AA (AF ?_);rw[hj,Zu,hx0];exact AF q
   .cases e1;refine hQ x.2 h' s.toks (by rw[z3,h0,hx];rfl) ⟨S.at ((hs.2 a (Ne.symm hia)).trans S.ho),_,e2,.inr (.inr ⟨z1,z2,z3,j+1,rfl,fun e=>by omega,fun _=>⟨j,hj,rfl⟩⟩)⟩ (keep h' hs)
 done:=fun s Q E ⟨S,first,hi,hm⟩ hQ=>by
  have keep:∀h',Heap.ExtBut it s.heap h'->∀b ob,b∉[it]->s.heap.get? b=some ob->h'.get? b=some ob:=fun h' hs b ob hb e=>hs b ob (by simpa using hb) e;rcases hm with⟨z1,rfl,z3⟩ | ⟨z1,ps,rfl,z3,z4,z5⟩ | ⟨z1,z2,z3,sl,rfl,z5,z6⟩
  .have hpk:=Ah (w.params.setOrder a ep) es;have hlen:(pickOrder (w.params.setOrder a ep) es).size=es.size:=by rw[<-AM,hpk.length_eq,AM]
   refine w5 (r:=none) hh S hia hi (fun Q' A' E' q=>?_) (fun y nx h' e1=>nomatch e1) (fun _ h' hs=>hQ h' s.toks (keep h' hs));unfold setNext setWalk;refine AA (CK S.ho S.hd S.ft ?_);dsimp only;refine AA (O6 ?_);rw[z1,AL rfl,AJ (by simp)];refine AA (AA (CK S.ho S.hd S.ft ?_));dsimp only;refine AA (O6 ?_);rw[z1,AL rfl];refine AA (HC (AF (AF ?_)));show Q' (((pickOrder (w.params.setOrder a ep) es)[es.size]?).map fun e=>(e.2,0)) s;rw[GO (by rw[hlen];exact Nat.le_refl _)];exact q
  .have hl:=z4.length_eq;rw[B_]at hl;refine Lc hh S hi z3 (fun p x h' e1 e2 e3 hs=>?_) (fun p hp=>CI.mp (z4.mem_iff.mp hp)) (fun _ h' hs=>hQ h' s.toks (keep h' hs));have:=(AG.mp e1).1;omega
  .refine w5 (r:=none) hh S hia hi (fun Q' A' E' q=>?_) (fun y nx h' e1=>nomatch e1) (fun _ h' hs=>hQ h' s.toks (keep h' hs));unfold setNext;refine AA (CK S.ho S.hd S.ft ?_);dsimp only;refine AA (O6 ?_);rw[z1,AJ (by decide)];show wpAny _ _ (if(!t.plain&&decide (es.size>1))=true then _ else _) _ _ _;rw[AJ (by simp;intro _;omega)];show wpAny _ _ (do (if(!t.led&&!es.isEmpty)=true then unsupported "set:maker-not-led" else pure ());_) _ _ _;rw[S.led,z1,AJ (by simp)];refine AA (AF ?_);have hnone:es[SetTable.below t.place sl]?=none:=by
    by_cases h0:es.size=0
    .exact GO (by rw[h0];exact CH _)
    .obtain⟨j,hj,rfl⟩:=z6 (by omega);rw[hj,Zw];exact GO (by omega)
   rw[hnone];exact AF q
 self:=fun i s Q E ⟨S,first,hi,hm⟩ h=>by
  have hT:s.TypeIs (.ref it) "set_iterator":=⟨_,hi,rfl⟩;refine wpAny_pyIter_slot hT p9 (EG p9 hT Ei ?_ (Fo _));show wpAny _ _ (ret (.ref it)) _ _ s;exact AF ⟨_,rfl, "set_iterator",_,hT,slot_si_next.lookup,h⟩
theorem Tq{Q:Value->Shared->Prop}(S:SAt w s.heap a o es ep t)
  (h:∀(it T:Addr) (order:List Value) (h':Heap) (d:Drawn),it≠a->it≠T->(T=a\/s.heap.objs.size<=T)->s.heap.objs.size<=it->(∀b ob,s.heap.get? b=some ob->h'.get? b=some ob)->order.Perm (es.toList.map (·.2))->SSt w a it T o es ep t order 0 h'->(∀b∈[it,a,T],b<h'.objs.size) ->
   (∀A':Around,A'.handled=none->Walks prog w A' it [it,a,T] [it] es.size (fun i v=>order[i]?=some v) (SSt w a it T o es ep t order))->Q (.ref it) { s with heap:=h',drawn:=d }):wpAny (model prog w) A (pyIter (.ref a)) Q E s:=by
 have hT:s.TypeIs (.ref a) "set":=⟨_,S.ho,S.ex.1⟩;have ha:=AI S.ho;refine wpAny_pyIter_slot hT F.slot_set_iter (EG F.slot_set_iter hT Ge ?_ (F.args_set_iter_1 _));unfold Builtin.«frozenset.__iter__» Builtin.Frozenset.slot0 Builtin.Frozenset.sizeOf;refine AA (AA (GK (a:=(Value.ref a,[])) rfl ?_));dsimp only;refine GK (a:=a) rfl ?_;refine AA (AA (wpAny_setEntries_of S.ho S.hd S.ft (AF ?_)));have fin:∀(first:Value) (T:Addr) (order:List Value) (h1:Heap) (d:Drawn),(∀b ob,s.heap.get? b=some ob->h1.get? b=some ob)->s.heap.objs.size<=h1.objs.size->order.Perm (es.toList.map (·.2))->T<h1.objs.size->(T=a\/s.heap.objs.size<=T) ->
   (∀h2:Heap,(∀b ob,h1.get? b=some ob->h2.get? b=some ob)->zFs w a T es ep t order 0 h2 first) ->
   wpAny (model prog w) A.in1 (do let e <-setEpoch a;let x <-newFields "set_iterator" [first,rawInt 0,.ref a,rawInt (es.size:Nat),rawInt (e:Nat)];ret x) (fun r s'=>∃v,r=Fin.done (Flow.ret v)/\∃T' r,s'.TypeIs v T'/\typeLookup (Value.type T') (Str.ofString "__next__")=pure (some r)/\Q v s') E { s with heap:=h1,drawn:=d }:=by
  intro first T order h1 d k hsz hp hTl hTa hm
  refine AA (wpAny_setEpoch_of (s:={ s with heap:=h1,drawn:=d }) (k a o S.ho) S.hd S.ft ?_);refine AA (DX ?_);have hg:(h1.push (sIt first 0 es.size ep a)).get? h1.objs.size=some (sIt first 0 es.size ep a):=AS _ rfl;have k2:∀b ob,h1.get? b=some ob->(h1.push (sIt first 0 es.size ep a)).get? b=some ob:=fun b ob e=>AD _ e;have hia:h1.objs.size≠a:=fun e=>absurd (BF ha hsz) (by rw[<-e];exact CV _);have hiT:h1.objs.size≠T:=fun e=>absurd hTl (by rw[<-e];exact CV _);refine AF ⟨.ref h1.objs.size,rfl, "set_iterator",_,⟨_,hg,rfl⟩,slot_si_next.lookup,?_⟩;refine h h1.objs.size T order (h1.push (sIt first 0 es.size ep a)) d hia hiT hTa hsz (fun b ob e=>k2 b ob (k b ob e)) hp ⟨S.at (k2 a o (k a o S.ho)),first,hg,hm _ k2⟩ (fun b hb=>?_) fun A' hh=>Pt hh hia hiT;rw[EC];simp only[BD,BV,or_false]at hb;rcases hb with rfl | rfl | rfl
  .exact GG _
  .exact DG (BF ha hsz)
  .exact DG hTl
 unfold setDrawn;refine AA (AA (CK S.ho S.hd S.ft ?_));dsimp only;refine AA (O6 (AF ?_));cases hb:w.params.followText "set-order" with
 | true =>
  show wpAny _ _ (if(!true &&(!t.plain&&decide (es.size>1)))=true then _ else _) _ _ _;rw[EW,DZ,AJ (by decide)];refine AA (AF ?_);exact fin _ a _ s.heap s.drawn (fun _ _ e=>e) (Nat.le_refl _) ((Ah _ es).map _) ha (.inl rfl) fun h2 _=>.inl ⟨hb,rfl,rfl⟩
 | false =>
  show wpAny _ _ (if(!false &&(!t.plain&&decide (es.size>1)))=true then _ else _) _ _ _;by_cases hdr:(!t.plain&&decide (es.size>1))=true
  .rw[HZ,IJ,AL hdr];refine AA (Qg es.size (List.range es.size) s _ (B_ ..) fun ps d hp=>AA ?_);unfold newTuple;refine DX ?_ ?_
   .have hg:(s.heap.push (zBx ps)).get? s.heap.objs.size=some (zBx ps):=AS _ rfl;refine fin _ s.heap.objs.size (ps.filterMap fun p=>es[p]?.map (·.2)) (s.heap.push (zBx ps)) d (fun b ob e=>AD _ e) (by rw[EC];exact DC _) ?_ (by rw[EC];exact GG _) (.inr (Nat.le_refl _)) fun h2 k2=>.inr (.inl ⟨hb,ps,rfl,k2 _ _ hg,hp,rfl⟩);refine(hp.filterMap _).trans (List.Perm.of_eq ?_);have:=filterMap_getElem?_range es;rw[<-this,List.map_filterMap]
   .have h1:=hp.length_eq;have h2:=S.few;rw[B_]at h1;show(List.map _ ps).toArray.size<=sizeLine;rw[BA,AB,sizeLine_eq];omega
  .rw[HZ,IJ,AJ hdr];refine AA (AF ?_);have hle:es.size<=1:=by
    by_cases hp:t.plain=true
    .have:=S.pln hp;omega
    .have hp':t.plain=false:=by simpa using hp
     rw[hp']at hdr;simp at hdr;omega
   exact fin _ a _ s.heap s.drawn (fun _ _ e=>e) (Nat.le_refl _) (.refl _) ha (.inl rfl) fun h2 _=>.inr (.inr ⟨hb,hle,rfl,0,rfl,fun _=>rfl,fun e=>absurd e (by decide)⟩)
end
section
variable{prog:Program}{w:World}{A:Around}{E:Value->Shared->Prop}{s:Shared}{a:Addr}{o:Obj}{es:Array (Int×Value)}{ep:Nat}{t:SetTable}
theorem Ti{order:List Value}{acc:Array Value}(h:ItemsOf (fun i v=>order[i]?=some v) acc order.length):acc.toList=order:=by
 refine FE fun i=>?_;rw[BP];by_cases hi:i<acc.size
 .have e:acc[i]?=some acc[i]:=CP.mpr ⟨hi,rfl⟩;rw[e,h.2 i _ e]
 .rw[GO (by omega),DW (by have:=h.1;omega)]
theorem collect_set{Q:List Value->Shared->Prop}(hh:A.handled=none)(S:SAt w s.heap a o es ep t)
  (hQ:∀s' acc,(∀b ob,s.heap.get? b=some ob->s'.heap.get? b=some ob)->s'.gens=s.gens->s'.os=s.os->s.heap.objs.size<s'.heap.objs.size->acc.Perm (es.toList.map (·.2))->Q acc s'):wpAny (model prog w) A (collect (.ref a)) Q E s:=by
 have ha:=AI S.ho;unfold collect;refine AA (wpAny_runValue (GT F.entry_proto_collect ?_));rw[Around.under_plainId F.plain_proto_collect _];show wpAny _ A.in1 (newList [] >>= fun l=>again (.builtin "list.__iadd__" ⟨[l,.ref a],[]⟩)) _ _ s;refine AA (DX ?_);refine AF ⟨plainId_quiet F.plain_list_iadd _,GT F.entry_list_iadd ?_⟩;rw[Around.under_plainId F.plain_list_iadd _];show wpAny _ A.in1 (Builtin.List.listExtendWith (.ref s.heap.objs.size) (.ref a) (.ref s.heap.objs.size)) _ _ _;unfold Builtin.List.listExtendWith;have hne:s.heap.objs.size≠a:=fun e=>absurd ha (by rw[<-e];exact CV _);generalize hH:s.heap.push { cls:=.type "list",data:=.seq ([]:List Value).toArray }=H;have kH:∀b ob,s.heap.get? b=some ob->H.get? b=some ob:=fun b ob e=>by rw[<-hH];exact AD _ e
 have hHs:H.objs.size=s.heap.objs.size+1:=by rw[<-hH,EC]
 have hS:H.get? s.heap.objs.size=some { cls:=.type "list",data:=.seq ([]:List Value).toArray }:=by rw[<-hH];exact AS _ rfl
 have hT:Shared.TypeIs { s with heap:=H } (.ref a) "set":=⟨o,kH a o S.ho,S.ex.1⟩;refine AA (wpAny_typeOf hT ?_);have h1:Builtin.List.listSameRef (.ref s.heap.objs.size) (.ref a)=false:=by simp[Builtin.List.listSameRef,hne]
 have h2:(Value.type "set" == Value.type "list")=false:=by decide
 have h3:(Value.type "set" == Value.type "tuple")=false:=by decide
 simp only[h1,h2,h3,HN,AV,DA];refine AA (Tq (s:={ s with heap:=H }) (S.at (kH a o S.ho)) fun it T order h' d hia hiT hTa hsz k hp st hlt W=>?_);have hT':Shared.TypeIs { s with heap:=h',drawn:=d } (.ref a) "set":=⟨o,k a o (kH a o S.ho),S.ex.1⟩;refine AA (CU ?_);unfold Builtin.List.listLengthHint;refine AA (wpAny_specialOf hT' zDt ?_);wp_delta;refine AA (wpAny_isInstance hT' (b:=true) (by rw[isSubtype_type];kernel_rfl) ?_);show wpAny _ A.in1 (typeOf (Value.ref a) >>= _) _ _ _;refine AA (wpAny_typeOf hT' ?_);refine AF ?_;rw[AL (by decide)];refine AA (FG ?_);have hS1:h'.get? s.heap.objs.size=some { cls:=.type "list",data:=.seq ([]:List Value).toArray }:=k _ _ hS;refine AA ?_;show wpAny _ A.in1 (updateSeq s.heap.objs.size (·.push .none) >>= fun _=>updateSeq s.heap.objs.size (·.pop)) _ _ _;refine AA (wpAny_updateSeq hS1 rfl ?_);have hS2:=CY (Obj.mapSeq (·.push Value.none)) hS1 rfl;refine wpAny_updateSeq hS2 rfl ?_;have hS3:=CY (Obj.mapSeq (·.pop)) hS2 rfl;have oth:∀b ob,b≠s.heap.objs.size->h'.get? b=some ob->((h'.update s.heap.objs.size (Obj.mapSeq (·.push Value.none))).update s.heap.objs.size (Obj.mapSeq (·.pop))).get? b=some ob :=
  fun b ob hb e=>(BR _ _ (Ne.symm hb)).trans ((BR _ _ (Ne.symm hb)).trans e)
 have hSf:s.heap.objs.size∉[it,a,T]:=by
  have e1:s.heap.objs.size≠it:=fun e=>absurd hsz (by
   show ¬H.objs.size<=it;rw[hHs,<-e];exact Nat.not_succ_le_self _)
  have e2:s.heap.objs.size≠T:=fun e=>by
   rcases hTa with z | z
   .exact hne (e.trans z)
   .exact absurd z (by
     show ¬H.objs.size<=T;rw[hHs,<-e];exact Nat.not_succ_le_self _)
  simp only[BD,BV,or_false,not_or];exact⟨e1,hne,e2⟩
 have hle:es.size=order.length:=by
  have:=hp.length_eq;rw[AB,AM]at this;exact this.symm
 have hfew:=S.few;refine AF ⟨plainId_quiet F.plain_extend_loop _,codeAny_extend_loopS (W A.in1 hh).toS (by rw[sizeLine_eq];omega) _ hSf _ es.size 0 _ _ _ rfl (CH _)
  ((W A.in1 hh).frame 0 h' _ st fun b hb ob e=>oth b ob (fun z=>hSf (z▸hb)) e) hS3 (ItemsOf.nil _) fun s' acc' c' hm hS' hacc=>?_⟩
 show wpAny _ A (load s.heap.objs.size >>= _) _ _ s';refine AA (wpAny_load hS' ?_);rw[hle]at hacc;refine AF (hQ s' acc'.toList (fun b ob e=>hm.heap b ob (fun hb=>?_) (oth b ob (fun z=>?_) (k b ob (kH b ob e)))) hm.gens hm.os (AI hS') (by rw[Ti hacc];exact hp))
 .have hbl:=AI e;rcases BD.mp hb with z | z
  .exact absurd hbl (by rw[z];exact CV _)
  .rw[AE.mp z]at hbl;have:H.objs.size<=it:=hsz;rw[hHs]at this;exact absurd (BF hbl (EJ this)) (CV _)
 .exact absurd (AI e) (by rw[z];exact CV _)
end
end ST
namespace ST
open PySem L2
theorem zBo(t:SetTable)(n:Nat):(t.orStandIn n).led=t.led:=by
 unfold SetTable.orStandIn;split<;>rfl
theorem Yi(t:SetTable)(es:Array (Int×Value))(h:Int)(x:Value):(layNew t es h x).2.1.led=t.led:=by
 unfold layNew;split
 .rename_i sl wd e;show((t.put sl).1.orStandIn _).led=_;rw[zBo];rfl
 .rfl
theorem Mr{t t':SetTable}{hs:Array Int}{n:Nat}{ord:Array Nat}(h:t.relaid hs n=some (t',ord)):t'.led=t.led/\t'.plain=t.plain:=by
 unfold SetTable.relaid SetTable.laid at h;cases e:SetTable.layClean (SetTable.sizeAbove n-1) hs with
 | none=>rw[e]at h;cases h
 | some ow =>
  rw[e]at h;cases h;exact⟨rfl,rfl⟩
theorem Pc(t:SetTable)(es:Array (Int×Value))(n:Nat)(hp:t.plain=false):(relayAll t es n).2.1.led=t.led/\(relayAll t es n).2.1.plain=false:=by
 unfold relayAll;split
 .rename_i t' ord e;obtain⟨e1,e2⟩:=Mr e;dsimp only;split
  .exact⟨e1,e2.trans hp⟩
  .exact⟨rfl,rfl⟩
 .exact⟨rfl,rfl⟩
def zGc:Value->Str
 | .str x _=>x
 | _=>Str.empty
section
variable{prog:Program}{w:World}{A:Around}{E:Value->Shared->Prop}{s:Shared}{a:Addr}
structure TxtEs(w:World)(es:Array (Int×Value))(ss:List Str):Prop where
 el:∀e∈es.toList,∃x tk,e =(hashStr w x,Value.str x tk)
 pm:(es.toList.map fun e=>zGc e.2).Perm ss
 nd:ss.Nodup
def WS(w:World)(h:Heap)(a:Addr)(ss:List Str):Prop:=∃o es ep t,SAt w h a o es ep t/\TxtEs w es ss
theorem TxtEs.elems{es:Array (Int×Value)}{ss:List Str}(h:TxtEs w es ss):ElemsOf (B9 prog w) es.toList:=fun e he=>by
 obtain⟨x,tk,rfl⟩:=h.el e he;exact⟨⟨.inr x,Z7 x tk,rfl⟩,rfl⟩
theorem TxtEs.mem{es:Array (Int×Value)}{ss:List Str}(h:TxtEs w es ss)(x:Str):x∈ss↔∃e∈es.toList,(B9 prog w).is (.inr x) e.2=true:=by
 rw[<-h.pm.mem_iff];constructor
 .intro hm;obtain⟨e,he,rfl⟩:=AK.mp hm;obtain⟨y,tk,rfl⟩:=h.el e he;exact⟨_,he,Z7 y tk⟩
 .rintro⟨e,he,hk⟩;obtain⟨y,tk,rfl⟩:=h.el e he;have:y=x:=by
   rcases D8 (show Ep (.inr x) (.str y tk)=true from hk)with⟨i,t,e1,e2⟩ | ⟨z,t,e1,e2⟩
   .cases e2
   .cases e1;cases e2;rfl
  subst this;exact AK.mpr ⟨_,he,rfl⟩
theorem TxtEs.len{es:Array (Int×Value)}{ss:List Str}(h:TxtEs w es ss):es.size=ss.length:=by
 have:=h.pm.length_eq;rw[AB,AM]at this;exact this
theorem add_txt{ss:List Str}{x:Str}{tk:Tok}{Q:Bool->Shared->Prop}(S:WS w s.heap a ss)(hl:ss.length+1<4096)
  (h:∀h' b,Heap.SameBut a s.heap h'->WS w h' a (if x∈ss then ss else ss ++ [x])->Q b { s with heap:=h' }) :
  wpAny (model prog w) A (setAddHashed a (.str x tk) (hashStr w x)) Q E s:=by
 obtain⟨o,es,ep,t,S,T⟩:=id S;have hkey:(B9 prog w).is (.inr x) (.str x tk)=true:=Z7 x tk;have hsz:=T.len;unfold setAddHashed setAddHashedIn;refine CU (AA (CK S.ho S.hd S.ft ?_));dsimp only;rw[byScan_of (knd:=B9 prog w) rfl S.few T.elems,AL rfl];unfold setAddByScan;refine AA (AA (FG ?_));refine AA (wpAny_setScan_of hkey S.ho S.hd S.ft T.elems ?_);cases hr:List.findIdx? (fun e=>(B9 prog w).is (.inr x) e.2) es.toList with
 | some j =>
  dsimp only;obtain⟨hj,hpj,_⟩:=List.findIdx?_eq_some_iff_getElem.mp hr;have hx:x∈ss:=(T.mem (prog:=prog) x).mpr ⟨es.toList[j],GI hj,hpj⟩;refine AF (AF ?_);have:=h s.heap false (Heap.SameBut.refl a s.heap) (by rw[AL hx];exact⟨o,es,ep,t,S,T⟩);exact this
 | none =>
  dsimp only;have hx:¬x∈ss:=fun hx=>by
   obtain⟨e,he,hp⟩:=(T.mem (prog:=prog) x).mp hx;have:=List.findIdx?_eq_none_iff.mp hr e he;rw[hp]at this;exact Bool.noConfusion this
  have hgw:∀(b:Bool) {s1:Shared} {Q':Unit->Shared->Prop},Q' () s1->wpAny (model prog w) A (match b with | true=>rule "set.scan.the-table-gave-way" | false=>pure ()) Q' E s1 :=
   fun b s1 Q' hq=>by cases b<;>first | exact AF hq | exact FG hq
  have hperm:=layNew_perm t es (hashStr w x) (.str x tk);have hfits:=layNew_fits t es (hashStr w x) (.str x tk);have hled:=Yi t es (hashStr w x) (.str x tk);show wpAny _ _ (match layNew t es (hashStr w x) (.str x tk)with | (es,t,wasDummy,gave)=>_) _ _ _;generalize layNew t es (hashStr w x) (.str x tk)=L at hperm hfits hled⊢;obtain⟨es1,t1,wasDummy,gave⟩:=L;dsimp only at hperm hfits hled⊢;rw[DL]at hperm;have hT1:∀es2:Array (Int×Value),es2.toList.Perm es1.toList->TxtEs w es2 (ss ++ [x]):=fun es2 hp2=>by
   refine⟨fun e he=>?_,?_,?_⟩
   .rcases AR.mp (hperm.mem_iff.mp (hp2.mem_iff.mp he))with z | z
    .exact T.el e z
    .exact⟨x,tk,AE.mp z⟩
   .refine((hp2.trans hperm).map _).trans ?_;rw[AU];exact T.pm.append (.refl _)
   .rw[FY];refine⟨T.nd,by simp,fun y hy z hz=>?_⟩;rw[AE.mp hz];rintro rfl;exact hx hy
  have hsz1:es1.size=ss.length+1:=by
   have:=(hT1 es1 (.refl _)).len;rw[AZ]at this;exact this
  refine AA (hgw _ ?_);have key:∀t2:SetTable,t2.led=t.led->t2.plain=false->t2.fits es1.size=true->wpAny (model prog w) A (do
    storeSet a es1 t2
    if(!wasDummy&&t2.tooFull)=true then do
      (match(relayAll t2 es1 (SetTable.grown es1.size)).2.2 with | true=>rule "set.scan.the-table-gave-way" | false=>pure ())
      storeSet a (relayAll t2 es1 (SetTable.grown es1.size)).1 (relayAll t2 es1 (SetTable.grown es1.size)).2.1
      pure (some true)
     else pure (some true)) (fun r s'=>wpAny (model prog w) A (match r with | some added=>pure added | none=>setAddHashedIn a (.str x tk) (hashStr w x) 99999) Q E s') E s:=by
   intro t2 l2 p2 f2;refine AA (H_ S.ho S.hd ?_ (by rw[hsz1,sizeLine_eq];omega));have ho1:=Eh S.ho S.hd es1 t2;have sb1:=EQ s.heap a (Obj.putSet es1 t2);split
   .have hp:=relayAll_perm t2 es1 (SetTable.grown es1.size);have hf:=relayAll_fits t2 es1 (SetTable.grown es1.size);obtain⟨hl3,hp3⟩:=Pc t2 es1 (SetTable.grown es1.size) p2;have hz2:(relayAll t2 es1 (SetTable.grown es1.size)).1.size=es1.size:=by rw[<-AM,hp.length_eq,AM]
    refine AA (hgw _ ?_);refine AA (H_ ho1 rfl ?_ (by rw[hz2,hsz1,sizeLine_eq];omega));refine AF (AF (h _ true (sb1.trans (EQ _ a _)) ?_));rw[AJ hx];exact⟨_,_,_,_,⟨Eh ho1 rfl _ _,S.ex,rfl,hf,hl3.trans (l2.trans S.led),(fun z=>by rw[hp3]at z;cases z),by rw[hz2,hsz1];omega⟩,hT1 _ hp⟩
   .refine AF (AF (h _ true sb1 ?_));rw[AJ hx];exact⟨_,es1,_,t2,⟨ho1,S.ex,rfl,f2,l2.trans S.led,(fun z=>by rw[p2]at z;cases z),by rw[hsz1];omega⟩,hT1 _ (.refl _)⟩
  cases hpl:t1.plain with
  | true =>
   rw[AL rfl,hashByValue_scannable 8 (x:=Value.str x tk) rfl];refine AA (AF ?_);exact key { t1 with plain:=false } hled rfl (SetTable.fits_plain_off hfits)
  | false =>
   rw[AJ (by decide)];refine AA (AF ?_);exact key t1 hled hpl hfits
end
end ST
namespace L2
open PySem PySem.Spec PyProof.Rows
def Gh(w:World)(a:Addr)(ss:List Str):HO:=.ext fun h=>ST.WS w h a ss
section
variable{X:Cx}{pins:List (Addr×Obj)}{σ:St}{H:Hp}{s:Shared}{a:Addr}{ss:List Str}
theorem Vp{P:Program}{w:World}{H:Hp}{h:Heap}(z:ST.WS w h a ss):ObjOk P w H h a (Gh w a ss) :=
 ⟨z,let⟨o,_,_,_,S,_⟩:=z;⟨o,S.ho⟩,fun h1 h2 ⟨o,es,ep,t,S,r⟩ k=>⟨o,es,ep,t,S.at (k o S.ho),r⟩⟩
theorem Inv.setw(I:Inv X pins σ H s)(e:H a=some (Gh X.w a ss)):ST.WS X.w s.heap a ss:=by
 obtain⟨z,_⟩:=(show ObjOk X.prog X.w H s.heap a (Gh X.w a ss)from I.hok a _ e);exact z
def Tk(l:List Str)(x:Str):List Str:=if x∈l then l else l ++ [x]
def zEo(w:World):V->List V->Hp->VK->Prop:=fun x vs H Q=>∃a l k,x = .ref a/\vs = [.str k]/\H a=some (Gh w a l)/\l.length+1<4096/\Q .non (upd H a (Gh w a (Tk l k)))
theorem WS.typeIs{ss:List Str}(z:ST.WS X.w s.heap a ss):s.TypeIs (.ref a) "set":=let⟨o,_,_,_,S,_⟩:=z;⟨o,S.ho,S.ex.1⟩
theorem Xf:MtM X "set.add" (zEo X.w):=by
 intro pins s σ H x vs v us Q I rx rv h;obtain⟨a,l,k,rfl,rfl,hH,hz,q⟩:=h;cases rx;obtain⟨u,rfl,⟨tk,rfl⟩⟩:=rv.one;have z:=I.setw hH;refine EG F.slot_set_add (WS.typeIs z) F.entry_set_add ?_ (F.args_set_add_2 _ _);unfold Builtin.«set.add» Builtin.Frozenset.oneOther;simp only[List.isEmpty_nil,bind_assoc];unfold Builtin.Frozenset.addrOf setAdd;refine AA (AF ?_)
 try dsimp only
 refine AA (AF ?_)
 try dsimp only
 refine AA ?_;refine CU ?_;refine AA (wpAny_pyHash_str ?_);refine ST.add_txt (s:={ s with toks:=s.toks+1 }) z hz fun h' b hsb z'=>?_;show wpAny _ _ (ret Value.none) _ _ _;refine AF ⟨_,rfl,.non,_,I.write (x:=a) (e:=a) (t':=s.toks+1) (by rw[hH];exact True.intro) (.inl rfl) (fun b q hb e=>(hsb.2 b hb).trans e) (let⟨o,_,_,_,S,_⟩:=z';⟨o,S.ho⟩) (Vp z'),rfl,q⟩
theorem Ug{Q:Value->Shared->Prop}{A:Around}{E:Value->Shared->Prop}{prog:Program}{w:World}
  (h:ST.WS w (s.heap.push { cls:=.type "set",dict:=none,data:=.set #[] 0 (.fresh 0 0 (!(w.params.followText "set-order"))) }) s.heap.objs.size [] ->
   Q (.ref s.heap.objs.size) { s with heap:=s.heap.push { cls:=.type "set",dict:=none,data:=.set #[] 0 (.fresh 0 0 (!(w.params.followText "set-order"))) } }):wpAny (model prog w) A (newSet (.type "set")) Q E s:=by
 unfold newSet setsByText;refine AA (AA (HC (AF ?_)));dsimp only;simp only[newObj];refine AA (wpAny_alloc (AF (h ⟨_,#[],0,_,⟨AS _ rfl,⟨rfl,rfl,rfl⟩,rfl,by rfl,rfl,fun _=>rfl,by decide⟩,⟨fun e he=>by simp at he,by simp,IA⟩⟩)))
end
section
variable{X:Cx}{tg iter elt tg2 iter2:Expr}{g g2:TG}{tc tc2:TT}{te:TE}{ifs ifs2:List Expr}{scope:Scope}{cl:List (Str×Addr)}{N':List Str}{cap:List (Option Nat)}{pos:Pos}{wi wi2:TI}
def Hb(w:World)(D:Addr)(te:TE):TEm:=fun σ H Q=>te σ H fun y H1=>∃l k,y = .str k/\H1 D=some (Gh w D l)/\l.length+1<4096/\Q σ (upd H1 D (Gh w D (Tk l k)))
theorem Vb{D:Addr}(hxe:X.xe=fun _ _=>False)(he:PE X elt te):PEm X (emS elt (.ref D) X.env) (Hb X.w D te):=by
 intro pins s σ H Q k F E I h hk;unfold emS;refine AA (AA (BS (Cf hxe (he pins s σ H _ I h)) (fun u s1 ⟨y,H1,I1,r1,l,kk,e1,e2,z1,q1⟩=>?_) fun _ _ z=>z));subst e1;refine AA (EH (AA (BS (Cf hxe (Xf pins s1 σ H1 (.ref D) [.str kk] (.ref D) [u] (fun v H2=>v = .non/\Q σ H2) I1 rfl (.cons r1 .nil) ⟨D,l,kk,rfl,rfl,e2,z1,rfl,q1⟩)) (fun v s2 ⟨y2,H2,I2,r2,_,q2⟩=>?_) fun _ _ z=>z)));exact AF (hk s2 σ H2 I2 q2)
theorem Xh{D:Addr}(hc:X.calm=true)(hxe:X.xe=fun _ _=>False)(hi:PI X tg2 iter2 wi2)(hg:PG X tg2 g2)(ht:PTs X ifs2 tc2)(he:PE X elt te)(hs:∀x,foldedSetIterable iter2 X.env x=pure x) :
  PEm X (emN (.SetComp elt [⟨tg,iter,ifs,0⟩,⟨tg2,iter2,ifs2,0⟩] scope pos) iter2 1 (.ref D) X.env) (zDz wi2 fun J σ H Q=>Cl g2 tc2 (Hb X.w D te) J σ H Q):=by
 intro pins s σ H Q k F E I h hk;unfold emN;have h0:=hi pins s σ H _ I h;rw[hxe]at h0;refine AA (BS h0 (fun v s1 h1=>?_) fun _ _ z=>z.elim);refine AA (EH (AA (GK (hs v) (AA (CU (BS h1 (fun itv s2 h2=>?_) fun _ _ z=>z.elim))))));obtain⟨it,fp,tn,J,H2,eit,I2,T,st2,f2,R2⟩:=h2;subst eit;refine AA (wpAny_runOwn ?_);refine U6 (X:=X) (e:=.SetComp elt [⟨tg,iter,ifs,0⟩,⟨tg2,iter2,ifs2,0⟩] scope pos) (d:=1) (tg:=tg2) (iter:=iter2) (ifs:=ifs2) rfl rfl (gs:=[⟨tg,iter,ifs,0⟩,⟨tg2,iter2,ifs2,0⟩]) rfl rfl T st2 ?_;exact Q4 (X:=X) rfl rfl hc hxe (Nk elt tg iter tg2 iter2 ifs ifs2 scope pos _ _ _) hg ht (Vb hxe he) T I2 st2 f2 R2 fun s' σ' H' I' q'=>hk s' σ' H' I' q'
theorem Yq(S:CScope X scope cl N' cap)(hc:X.calm=true)(hi:PI X tg iter wi)
  (hb:∀(pins:List (Addr×Obj)) (ex:List Addr) (s3:Shared) (H3:Hp),PG (cxC X scope cl N' pins ex s3 H3) tg g/\PTs (cxC X scope cl N' pins ex s3 H3) ifs tc/\PI (cxC X scope cl N' pins ex s3 H3) tg2 iter2 wi2 /\
   PG (cxC X scope cl N' pins ex s3 H3) tg2 g2/\PTs (cxC X scope cl N' pins ex s3 H3) ifs2 tc2/\PE (cxC X scope cl N' pins ex s3 H3) elt te)
  (hs:∀x,foldedSetIterable iter X.env x=pure x:=by intro _;rfl) (hs2:∀env x,foldedSetIterable iter2 env x=pure x:=by intro _ _;rfl) :
  PE X (.SetComp elt [⟨tg,iter,ifs,0⟩,⟨tg2,iter2,ifs2,0⟩] scope pos) (Bi wi (fun D=>Gh X.w D []) cap fun D J σ H Q=>Cl g tc (zDz wi2 fun J σ H Q=>Cl g2 tc2 (Hb X.w D te) J σ H Q) J σ H Q):=by
 refine Cq (newAcc:=newSet (.type "set")) (p2:=firstIterPos [⟨tg,iter,ifs,0⟩,⟨tg2,iter2,ifs2,0⟩] pos) rfl (fun D=>Gh X.w D []) hs S hc hi (fun pins s σ H Q E I h=>?_) (fun pins ex s3 H3 D it fp tn J σ s H Q R T I st hf h hR=>?_) (fun _ _ _=>rfl) (fun _ _ _=>rfl) (fun E Q s h=>h)
 .refine Ug fun z=>h _ (I.laid (t':=s.toks) (fun b o e=>AD _ e) (Nat.le_refl _) (Vp z)) fun b ob e=>AD _ e
 .obtain⟨b1,b2,b3,b4,b5,b6⟩:=hb pins ex s3 H3;exact Q4 (X:=cxC X scope cl N' pins ex s3 H3) rfl rfl hc rfl (Mg elt tg iter tg2 iter2 ifs ifs2 scope pos _ _ _) b1 b2 (Xh (X:=cxC X scope cl N' pins ex s3 H3) hc rfl b3 b4 b5 b6 (hs2 _)) T I st hf h hR
end
theorem Inv.drawn{X:Cx}{pins:List (Addr×Obj)}{σ:St}{H:Hp}{s:Shared}(I:Inv X pins σ H s)(d:Drawn):Inv X pins σ H { s with drawn:=d } :=
 ⟨I.ok,I.os,I.bare,I.base,I.loc,I.cell,I.free,I.freeC,I.pin,I.hok,I.len⟩
section
variable{X:Cx}
theorem Fk(hc:X.calm=true):E8 X (.builtin "sorted") (fun xs H Q=>∃(p:Addr) (ss:List Str),xs = [.ref p]/\H p=some (Gh X.w p ss)/\∀(l:Addr) (ss':List Str),H l=none->ss'.Perm ss->ss'.Pairwise leS->Q (.ref l) (upd H l (.lst (ss'.map V.str)))):=by
 intro pins s σ H xs us Q I r h;obtain⟨p,ss,rfl,hq,q⟩:=h;obtain⟨u,rfl,ru⟩:=W8 r;cases ru;obtain⟨o,es,ep,t,S,T⟩:=I.setw hq;refine TS.sorted_gen (ST.collect_set (show X.A.in1.handled=none from I.ok.hd hc) S fun s1 its k1 g1 o1 tk1 hpi=>?_);have hS:∀v∈its,∃x tk,v=Value.str x tk:=fun v hv=>by
  obtain⟨e,he,rfl⟩:=AK.mp (hpi.mem_iff.mp hv);obtain⟨x,tk,rfl⟩:=T.el e he;exact⟨x,tk,rfl⟩
 have hstr:StrsAre its (its.map strOf):=by
  have:∀l:List Value,(∀v∈l,∃x tk,v=Value.str x tk)->StrsAre l (l.map strOf):=by
   intro l
   induction l with
   | nil=>exact fun _=>.nil
   | cons v r ih =>
    intro h;obtain⟨x,tk,rfl⟩:=h v (A_ ..);exact .cons _ _ (ih fun u hu=>h u (AO _ hu))
  exact this its hS
 have hlen:its.length=es.size:=by rw[hpi.length_eq,AB,AM]
 have hfew:=S.few;have hss:(its.map strOf).Perm ss:=by
  refine(hpi.map strOf).trans ?_;rw[BZ];refine List.Perm.trans (List.Perm.of_eq ?_) T.pm;refine GB fun e he=>?_;obtain⟨x,tk,rfl⟩:=T.el e he;rfl
 refine⟨o1,by rw[sizeLine_eq];omega,strKind,oneType',fun s2 _=>TS.keys_strs hstr,fun out h' e ho k hg=>?_⟩;obtain⟨hp,hs⟩:=ho;have hm:∀v∈out.toList,∃x t,v = .str x t:=fun v hv=>hS v (hp.mem_iff.mp hv);have hv:Vals ((out.toList.map strOf).map V.str) out.toList:=by
  have:∀us:List Value,(∀v∈us,∃x t,v = .str x t)->Vals ((us.map strOf).map V.str) us:=by
   intro us
   induction us with
   | nil=>exact fun _=>.nil
   | cons v r ih =>
    intro h;obtain⟨x,t,rfl⟩:=h v (A_ ..);exact .cons ⟨t,rfl⟩ (ih fun u hu=>h u (AO _ hu))
  exact this _ hm
 have hperm:(out.toList.map strOf).Perm ss:=(hp.map strOf).trans hss;have hpw:(out.toList.map strOf).Pairwise leS:=by
  rw[CD];refine(FS.mp hs).imp fun{u v} ⟨hu,hv',q⟩=>?_;obtain⟨x,t,rfl⟩:=hm u hu;obtain⟨y,t',rfl⟩:=hm v hv';have q':decide (y.cps.toList<x.cps.toList)=false:=q;exact of_decide_eq_false q'
 have k0:∀b o,s.heap.get? b=some o->h'.get? b=some o:=fun b o eb=>k b o (k1 b o eb);have hge:s.heap.objs.size<=s1.heap.objs.size:=EV tk1;have hn:H s1.heap.objs.size=none:=I.hok.fresh hge;obtain⟨h1,g',d',t',o'⟩:=s1;have eo:o'=s.os:=o1;have eg:g'=s.gens:=g1;subst eo;subst eg;refine⟨.ref h1.objs.size,upd H h1.objs.size (.lst ((out.toList.map strOf).map V.str)),?_,rfl,q _ _ hn hperm hpw⟩;exact(I.laid (a:=h1.objs.size) (o:=.lst ((out.toList.map strOf).map V.str)) (t':=t') k0 hge ⟨by rw[AB,AB,hp.length_eq,sizeLine_eq];omega,out.toList,e,hv,by simpa using hg⟩).drawn d'
end
def Nr(P:Program)(w:World)(a:Addr)(ks:List (List Key×Addr)):HO:=.ext fun h=>ST.TSet (B9 P w) h a ks
def Jv(H:Hp)(ks:List (List Key×Addr)):Prop:=∀q∈ks,H q.2=some (.tup (q.1.map kV))
section
variable{X:Cx}{pins:List (Addr×Obj)}{σ:St}{H:Hp}{s:Shared}{a:Addr}{ks:List (List Key×Addr)}
theorem Lg(P:Program)(w:World):ST.Flat (B9 P w):=fun v ⟨x,h⟩=>(B9 P w).byValue x v h
theorem Vj(P:Program)(w:World):ST.Scan (B9 P w):=fun v ⟨x,h⟩=>by
 rcases D8 (show Ep x v=true from h)with⟨i,t,_,rfl⟩ | ⟨y,t,_,rfl⟩<;>rfl
theorem Vq{P:Program}{w:World}{H:Hp}{h:Heap}(z:ST.TSet (B9 P w) h a ks):ObjOk P w H h a (Nr P w a ks) :=
 ⟨z,let⟨o,_,_,_,e,_⟩:=z;⟨o,e⟩,fun h1 h2 ⟨o,es,ep,t,e,r⟩ k=>⟨o,es,ep,t,k o e,r⟩⟩
theorem Inv.sett(I:Inv X pins σ H s)(e:H a=some (Nr X.prog X.w a ks)):ST.TSet (B9 X.prog X.w) s.heap a ks:=by
 obtain⟨z,_⟩:=(show ObjOk X.prog X.w H s.heap a (Nr X.prog X.w a ks)from I.hok a _ e);exact z
theorem Mo:E8 X (.type "set") (fun xs H Q=>xs = []/\∀p,H p=none->Q (.ref p) (upd H p (Nr X.prog X.w p []))):=by
 intro pins s σ H xs us Q I r h;obtain⟨rfl,q⟩:=h;cases r;refine call_set_0 fun led=>⟨.ref s.heap.objs.size,_,I.laid (t':=s.toks) (fun b o e=>AD _ e) (Nat.le_refl _) (Vq ?_),rfl,q _ (I.hok.fresh (Nat.le_refl _))⟩;exact⟨_,#[],0,_,AS _ rfl,⟨rfl,rfl,rfl⟩,rfl,.refl _,⟨rfl,rfl,.inl rfl,by show 0*5<7*3;decide⟩⟩
def zFm(P:Program)(w:World):R2:=fun x y H Q=>∃a p ks k,y = .ref a/\x = .ref p/\H a=some (Nr P w a ks)/\H p=some (.tup (k.map kV))/\Jv H ks/\(∀q∈ks,q.1≠k)/\Q (.bl false) H
theorem Mp(hu:X.A.units+1<cLine):OpR X (compareOp .In) (zFm X.prog X.w):=by
 intro pins s σ H x y v u Q I rx ry h;obtain⟨a,p,ks,k,rfl,rfl,hH,hp,ht,hn,q⟩:=h;cases ry;cases rx;exact ST.in_free (neg:=false) hu (Lg _ _) (I.sett hH) (fun z hz=>Bd I.hok (ht z hz)) (Bd I.hok hp) hn ⟨.bl false,H,I.tok _,rfl,q⟩
def zCq(P:Program)(w:World):V->List V->Hp->VK->Prop:=fun x vs H Q=>∃a p ks k,x = .ref a/\vs = [.ref p]/\H a=some (Nr P w a ks)/\H p=some (.tup (k.map kV))/\Jv H ks/\(∀q∈ks,q.1≠k)/\ks.length+1<=300/\Q .non (upd H a (Nr P w a (ks ++ [(k,p)])))
theorem Zf(hu:X.A.units+1<cLine):MtM X "set.add" (zCq X.prog X.w):=by
 intro pins s σ H x vs v us Q I rx rv h;obtain⟨a,p,ks,k,rfl,rfl,hH,hp,ht,hn,hl,q⟩:=h;cases rx;obtain⟨u,rfl,ru⟩:=rv.one;cases ru;refine ST.call_add hu (Lg _ _) (Vj _ _) (I.sett hH) (fun z hz=>Bd I.hok (ht z hz)) (Bd I.hok hp) hn hl fun h' hs z=>?_;exact⟨.non,_,I.write (x:=a) (e:=a) (by rw[hH];exact True.intro) (.inl rfl) (fun b q hb e=>(hs.2 b hb).trans e) (let⟨o,_,_,_,e,_⟩:=z;⟨o,e⟩) (Vq z),rfl,q⟩
end
section
variable{X:Cx}{tg:Expr}
def zDe(K:PySem.W.Frag)(tl:TE):TI:=fun σ H R=>tl σ H fun x H1=>∃a,x = .ref a/\(((∃xs,SqL K H1 a xs)/\R (Itl K a) H1)\/((∃xs,SqT K H1 a xs)/\R (Itt K a) H1))
theorem zCw{l:Expr}{tl:TE}(hl:PE X l tl):PI X tg l (zDe X.K tl):=by
 intro pins s σ H R I h;refine thn (hl pins s σ H _ I h) fun v s1 ⟨x,H1,I1,r1,q1⟩=>?_;obtain⟨a,e,q1⟩:=q1;subst e;cases r1;have fin:∀b,b∈[s1.heap.objs.size]->Be X pins H1 b:=fun b hb=>by
  have e:b=s1.heap.objs.size:=by simpa using hb
  subst e;exact I1.fpOk (Nat.le_refl _) (I1.hok.fresh (Nat.le_refl _))
 rcases q1 with⟨⟨xs,hq⟩,q⟩ | ⟨⟨xs,hq⟩,q⟩
 .obtain⟨its,rv,p,hz⟩:=I1.list hq;refine HX p.isList ?_;exact⟨s1.heap.objs.size,[s1.heap.objs.size],_,_,H1,rfl,I1.kept (t':=s1.toks) fun b o e=>AD _ e,Ha a _,⟨_,AS _ rfl,rfl,rfl⟩,fin,q⟩
 .obtain⟨its,rv,p,hz⟩:=I1.tuple hq;refine wpAny_pyIter_tuple (show s1.heap.IsTuple a its.toArray from p) ?_;exact⟨s1.heap.objs.size,[s1.heap.objs.size],_,_,H1,rfl,I1.kept (t':=s1.toks) fun b o e=>AD _ e,Na a _,⟨_,AS _ rfl,rfl,rfl⟩,fin,q⟩
end
section
variable{X:Cx}
theorem Pa:E8 X (.builtin "isinstance") (fun xs H Q=>∃x n t b,xs = [x,.ty n]/\TyOf X.K H x t/\PySem.W.kitOne X.K t (.type n)=some b/\Q (.bl b) H):=by
 intro pins s σ H xs us Q I r h;obtain⟨x,n,t,b,rfl,ht,he,q⟩:=h;obtain⟨u,v,rfl,ru,rv⟩:=r.two;cases rv;exact Sc I ru ht he fun tk=>⟨.bl b,H,I.tok _,rfl,q⟩
end
mutual
def Rp(K:PySem.W.Frag)(H:Hp):PyData->V->Prop
 | .none,v=>v = .non
 | .bool b,v=>v = .bl b
 | .int i,v=>v = .int i
 | .str x,v=>v = .str x
 | .list ds,v=>∃a xs,v = .ref a/\SqL K H a xs/\Rps K H ds xs
 | .tuple ds,v=>∃a xs,v = .ref a/\SqT K H a xs/\Rps K H ds xs
 | .dict _,_=>False
def Rps(K:PySem.W.Frag)(H:Hp):List PyData->List V->Prop
 | [],vs=>vs = []
 | d::ds,vs=>∃v r,vs=v::r/\Rp K H d v/\Rps K H ds r
end
section
variable{X:Cx}{pins:List (Addr×Obj)}{σ:St}{H:Hp}{s:Shared}
mutual
theorem Inv.reads(I:Inv X pins σ H s):∀(d:PyData) (v:V) (u:Value),Rp X.K H d v->RelV v u->∃as,Reads s.heap u d as
 | .none,v,u,h,r=>by
  cases(show v = .non by simpa [Rp] using h);cases r;exact⟨_,.none⟩
 | .bool b,v,u,h,r=>by
  cases(show v = .bl b by simpa [Rp] using h);cases r;exact⟨_,.bool b⟩
 | .int i,v,u,h,r=>by
  cases(show v = .int i by simpa [Rp] using h);obtain⟨t,rfl⟩:=r;exact⟨_,.int i t⟩
 | .str x,v,u,h,r=>by
  cases(show v = .str x by simpa [Rp] using h);obtain⟨t,rfl⟩:=r;exact⟨_,.str x t⟩
 | .list ds,v,u,h,r=>by
  obtain⟨a,xs,e,hq,hs⟩:=(show ∃a xs,v=V.ref a/\SqL X.K H a xs/\Rps X.K H ds xs by simpa [Rp] using h);subst e;cases r;obtain⟨its,rv,⟨o,n,e,hc,hd,hda⟩,_⟩:=I.list hq;obtain⟨as,z⟩:=I.readsAll ds xs its hs rv;exact⟨_,.list e hc hda (by simpa using z)⟩
 | .tuple ds,v,u,h,r=>by
  obtain⟨a,xs,e,hq,hs⟩:=(show ∃a xs,v=V.ref a/\SqT X.K H a xs/\Rps X.K H ds xs by simpa [Rp] using h);subst e;cases r;obtain⟨its,rv,⟨o,e,hc,n,hda⟩,_⟩:=I.tuple hq;obtain⟨as,z⟩:=I.readsAll ds xs its hs rv;exact⟨_,.tuple e hc hda (by simpa using z)⟩
 | .dict _,v,u,h,r=>by simp[Rp]at h
theorem Inv.readsAll(I:Inv X pins σ H s):∀(ds:List PyData) (vs:List V) (us:List Value),Rps X.K H ds vs->Vals vs us->∃as,ReadsAll s.heap us ds as
 | [],vs,us,h,r=>by
  cases(show vs = [] by simpa [Rps] using h);cases r;exact⟨_,.nil⟩
 | d::ds,vs,us,h,r=>by
  obtain⟨v,vr,e,h1,h2⟩:=(show ∃v r,vs=v::r/\Rp X.K H d v/\Rps X.K H ds r by simpa [Rps] using h);subst e;cases r with
  | cons r1 r2 =>
   obtain⟨as,z⟩:=I.reads d v _ h1 r1;obtain⟨bs,z'⟩:=I.readsAll ds vr _ h2 r2;exact⟨_,.cons z z'⟩
end
def Pl(d:PyData):Prop:=d.canLay0=true/\d.depth<=50
def zEk(K:PySem.W.Frag):R2:=fun x y H Q=>∃d e,Rp K H d x/\Rp K H e y/\Pl d/\Pl e/\Q (.bl (PyData.eqv d e)) H
def zDg(K:PySem.W.Frag):R2:=fun x y H Q=>∃d e,Rp K H d x/\Rp K H e y/\Pl d/\Pl e/\Q (.bl (!PyData.eqv d e)) H
theorem zCo(hu:X.A.units+64<cLine):OpR X (compareOp .Eq) (zEk X.K):=by
 intro pins s σ H x y v u Q I rx ry h;obtain⟨d,e,h1,h2,p1,p2,q⟩:=h;obtain⟨as,z1⟩:=I.reads d x v h1 rx;obtain⟨bs,z2⟩:=I.reads e y u h2 ry;exact PySem.SeqAt.compareEq_reads z1 z2 p1.1 p2.1 (by have:=p1.2;have:=p2.2;omega) ⟨.bl (PyData.eqv d e),H,I,rfl,q⟩
theorem zCe(hu:X.A.units+64<cLine):OpR X (compareOp .NotEq) (zDg X.K):=by
 intro pins s σ H x y v u Q I rx ry h;obtain⟨d,e,h1,h2,p1,p2,q⟩:=h;obtain⟨as,z1⟩:=I.reads d x v h1 rx;obtain⟨bs,z2⟩:=I.reads e y u h2 ry;exact PySem.SeqAt.compareNe_reads z1 z2 p1.1 p2.1 (by have:=p1.2;have:=p2.2;omega) ⟨.bl (!PyData.eqv d e),H,I,rfl,q⟩
def zDk(K:PySem.W.Frag)(neg:Bool):R2:=fun x y H Q=>∃d ds,Rp K H d x/\(Rp K H (.list ds) y\/Rp K H (.tuple ds) y)/\Pl d/\PyData.canLayAll0 ds=true/\Q (.bl (if neg then !(ds.any fun z=>PyData.eqv z d)else ds.any fun z=>PyData.eqv z d)) H
theorem Oz(hu:X.A.units+64<cLine):OpR X (compareOp .NotIn) (zDk X.K true):=by
 intro pins s σ H x y v u Q I rx ry h;obtain⟨d,ds,h1,h2,p1,p2,q⟩:=h;obtain⟨as,z1⟩:=I.reads d x v h1 rx;have hu':X.A.units+1+min (PyData.depthAll ds) d.depth<cLine:=by have:=p1.2;omega
 rcases h2 with h2 | h2
 .obtain⟨bs,z2⟩:=I.reads (.list ds) y u h2 ry;exact PySem.SeqAt.notIn_list_reads z2 z1 p2 p1.1 hu' ⟨.bl _,H,I,rfl,q⟩
 .obtain⟨bs,z2⟩:=I.reads (.tuple ds) y u h2 ry;exact PySem.SeqAt.notIn_tuple_reads z2 z1 p2 p1.1 hu' ⟨.bl _,H,I,rfl,q⟩
end
section
variable{X:Cx}
theorem Vals.insert{xs:List V}{us:List Value}{x:V}{u:Value}(h:Vals xs us)(r:RelV x u)(k:Nat):Vals (xs.take k++x::xs.drop k) (us.take k++u::us.drop k):=(h.take k).append (.cons r (h.drop k))
def Ze:V->List V->Hp->VK->Prop:=fun x vs H Q=>∃l xs i k y,x = .ref l/\vs = [.int i,y]/\i =((k:Nat):Int)/\H l=some (.lst xs)/\k<=xs.length/\xs.length<sizeLine/\Q .non (upd H l (.lst (xs.take k++y::xs.drop k)))
theorem zEh{k:Nat}{i:Int}(e:i =(k:Int))(h:k<=sizeLine):¬(!Builtin.List.listFitsIndex i)=true:=by
 rw[sizeLine_eq]at h;have h1:-(2^63:Int)<=i:=by omega
 have h2:i<2^63:=by omega
 have:=fitsIndex_both h1 h2;simpa using this
theorem Om:MtM X "list.insert" Ze:=by
 intro pins s σ H x vs v us Q I rx rv h;obtain⟨l,xs,i,k,y,rfl,rfl,hi,hH,hk,hz,q⟩:=h;cases rx;obtain⟨u1,u2,rfl,⟨t,rfl⟩,ru⟩:=rv.two;obtain⟨z,its,n,r,hl,e⟩:=I.lstM hH;have h0:k<=sizeLine:=by omega
 have h1:=zEh hi h0;have h2:its.toArray.size<=sizeLine:=by rw[BA];omega
 have hM:=@PySem.AutoListH.list_insert_list_int_val_1 l its.toArray n i t u2 h1 h2;refine call_meets F.slot_list_insert ⟨_,e,rfl⟩ F.entry_list_insert (F.args_list_insert_3 _ _ _) hM ⟨e,?_⟩;refine⟨.non,_,I.lset (its':=its.take k++u2::its.drop k) hH e ?_ (r.insert ru k) ?_,rfl,q⟩
 .have hmin:min k its.length=k:=by omega
  have hn:¬((k:Int)<0):=by omega
  subst hi;have hneg:¬((k:Int)+0<0):=by omega
  have e3:List.take (its.length-k) (List.drop k its)=List.drop k its:=CZ (by simp);simp[hmin,hn,e3]
 .rw[AZ,BM,AW,DJ];omega
def Qd(K:PySem.W.Frag):V->List V->Hp->VK->Prop:=fun x vs H Q=>∃(l:Addr) (ss:List Str) (y:Str) (j:Nat),x = .ref l/\vs = [.str y]/\SqL K H l (ss.map V.str)/\ss[j]?=some y/\(∀m,m<j->ss[m]?≠some y)/\Q (.int (j:Nat)) H
theorem U0{ss:List Str}{us:List Value}(h:Vals (ss.map V.str) us){i:Nat}(hi:i<us.length):∃x t,ss[i]?=some x/\us[i] = .str x t:=by
 have hl:=h.length;rw[AB]at hl;obtain⟨x,hx⟩:∃x,ss[i]?=some x:=⟨ss[i]'(by omega),AC (by omega)⟩;obtain⟨u,hu,t,rfl⟩:=h.get (i:=i) (x:=.str x) (by rw[AH,hx];rfl);refine⟨x,t,hx,?_⟩;have:=AC hi;rw[hu]at this;exact(BI this).symm
theorem Oi:MtM X "list.index" (Qd X.K):=by
 intro pins s σ H x vs v us Q I rx rv h;obtain⟨l,ss,y,j,rfl,rfl,hq,hj,hno,q⟩:=h;cases rx;obtain⟨u,rfl,⟨tk,rfl⟩⟩:=rv.one;obtain⟨its,r,⟨o,n,e,hc,hd,hda⟩,hz⟩:=I.list hq;have hlen:=r.length;rw[AB]at hlen hz;have hjl:j<its.length:=by
  have:=(AG.mp hj).1;omega
 obtain⟨cls,dd,data,sl⟩:=o;simp only at hc hd hda;subst hc hda
 let ev:Value->Bool:=fun v=>match v with | .str x _=>x == y | _=>false
 have hM:=PySem.SeqAt.list_indexAt l its.toArray n dd sl (.str y tk) ev j (by simpa using hjl) (by rw[sizeLine_eq]at hz;omega) ?_ ?_
 .refine call_meets F.slot_list_index ⟨_,e,rfl⟩ F.entry_list_index (F.args_list_index_2 _ _) hM ⟨e,?_,?_⟩
  .intro v hv;have hv':v∈its:=by simpa using hv
   obtain⟨i,hi,rfl⟩:=EB hv';obtain⟨x,t,_,e2⟩:=U0 r hi;rw[e2];exact PySem.SeqAt.EqAt.str_str x t y tk
  .exact⟨.int (j:Nat),H,I.tok _,⟨_,rfl⟩,q⟩
 .obtain⟨x,t,e1,e2⟩:=U0 r hjl;rw[hj]at e1;cases e1;show ev (its.toArray[j]'(by simpa using hjl))=true;rw[show its.toArray[j]'(by simpa using hjl)=its[j]from by simp,e2];exact beq_self_eq_true y
 .intro m hm hmj;have hm':m<its.length:=by simpa using hm
  obtain⟨x,t,e1,e2⟩:=U0 r hm';show ev (its.toArray[m]'hm)=false;rw[show its.toArray[m]'hm=its[m]from by simp,e2];show(x == y)=false;rw[beq_eq_false_iff_ne];rintro rfl;exact hno m hmj e1
def Wi:V->List V->Hp->VK->Prop:=fun x vs H Q=>∃z y ps,x = .str z/\vs = [.str y]/\(decide (z.length<y.length)||decide (Builtin.Str.strKind z<Builtin.Str.strKind y))=false/\(y.length == 0)=false /\
 (Builtin.Str.occurrences z y 0 z.length (z.length+1)).isEmpty=false/\z.length<=4000/\Builtin.Str.partsBetween z (Builtin.Str.occurrences z y 0 z.length (z.length+1)) y.length=ps/\ps.length<=4000/\∀l,H l=none->Q (.ref l) (upd H l (.lst (ps.map V.str)))
theorem Ft:∀(ps:List Str) (tk:Nat),Vals (ps.map V.str) (strsFrom tk ps)
 | [],_=>.nil
 | _::r,tk=>.cons ⟨tk,rfl⟩ (Ft r (tk+1))
theorem Ue:MtM X "str.split" Wi:=by
 intro pins s σ H x vs v us Q I rx rv h;obtain⟨z,y,ps,rfl,rfl,h1,h2,h3,h4,rfl,h6,q⟩:=h;obtain⟨t,rfl⟩:=rx;obtain⟨u,rfl,⟨tk,rfl⟩⟩:=rv.one;have hz:z.length<=sizeLine:=by rw[sizeLine_eq];omega
 have hp:(Builtin.Str.partsBetween z (Builtin.Str.occurrences z y 0 z.length (z.length+1)) y.length).length<=sizeLine:=by rw[sizeLine_eq];omega
 refine call_meets F.slot_str_split (typeIs_str _ _ _) F.entry_str_split (F.args_str_split_2 _ _) (PySem.meets_str_split_sep z y t tk h1 h2 h3 hz hp) ?_;exact⟨.ref s.heap.objs.size,_,I.lnew (Ft _ _) (by rw[AB];exact hp),rfl,q _ I.fresh⟩
end
end L2
namespace L2
open PySem PySem.Spec PyProof.Rows
structure Fn(K:PySem.W.Frag)(mg:Str->Option Value)(x:Str)(st:Stmt)(ps:List Str) where
 f:Addr
 fd:FuncData
 F:Fun K x x st f fd
 b:Binds K fd ps []
 m:mg x=some (.ref f)
structure Mt(K:PySem.W.Frag)(C:Addr)(m qual:Str)(st:Stmt)(ps:List Str) where
 f:Addr
 fd:FuncData
 F:Fun K m qual st f fd
 b:Binds K fd ps []
 m:Meth K C m f
section
variable{X:Cx}
theorem D0{x:Str}{st:Stmt}{ps:List Str}{k:Nat}{sp:Sp}{e:Expr}{es:List Expr}{t:TA}{p pos:Pos}(D:Fn X.K X.mg x st ps)(G:FnOk X.prog X.w X.K X.mg X.base CX0 k D.f D.fd ps sp)(hr:Room k X.A)(ha:PA X (e::es) t)
  (hg:Gl X x:=by rfl) (hdb:(x ==("__debug__":Str))=false:=by decide) (hs:starEach (e::es) X.env =(false,eval e X.env)::starEach es X.env:=by rfl) (hpl:(backTo pos (starEach es X.env)).any (·.1)=false:=by rfl) :
  PE X (.Call (.Name x p) (e::es) [] pos) (Sa sp [] E0 t):=Qt G hr hg D.m D.F.kp D.b .nil J8 ha hdb hs hpl
def Qn(P:Program)(w:World)(x:V)(H:Hp):Prop:=∃p,x = .ref p/\((∃l,H p=some (Nt P w p l))\/(∃l,H p=some (Gh w p l))\/∃ks,H p=some (Nr P w p ks))
theorem zAc{pins:List (Addr×Obj)}{σ:St}{H:Hp}{s:Shared}{x:V}{v:Value}(I:Inv X pins σ H s)(r:RelV x v)(ty:Qn X.prog X.w x H):s.TypeIs v "set"/\∀a,v = .ref a->∃ob,s.heap.get? a=some ob/\ob.dict=none:=by
 obtain⟨p,rfl,h⟩:=ty;cases r;have z:∃o,s.heap.get? p=some o/\o.ExactSet:=by
  rcases h with⟨l,h⟩ | ⟨l,h⟩ | ⟨l,h⟩
  .obtain⟨o,_,_,_,e,ex,_⟩:=I.set h;exact⟨o,e,ex⟩
  .obtain⟨o,_,_,_,S,_⟩:=I.setw h;exact⟨o,S.ho,S.ex⟩
  .obtain⟨o,_,_,_,e,ex,_⟩:=I.sett h;exact⟨o,e,ex⟩
 obtain⟨o,e,ex⟩:=z;refine⟨⟨o,e,ex.1⟩,fun a e2=>?_⟩;cases e2;exact⟨o,e,ex.2.1⟩
def zFd(P:Program)(w:World)(r:V->List V->Hp->VK->Prop)(to:TE)(t:TA):TE:=fun σ H Q=>to σ H fun x H1=>Qn P w x H1/\t σ H1 fun xs H2=>r x xs H2 Q
theorem Zg{o e:Expr}{to:TE}{t:TA}{apos cpos:Pos}{r:V->List V->Hp->VK->Prop}(hm:MtM X "set.add" r)(ho:PE X o to)(ha:PA X [e] t)
  (hbase:attributeBase o "add" X.env (eval o X.env)=eval o X.env:=by rfl)
  (hfew:((backTo cpos (starEach [e] X.env)).all (fun x=>!x.1) &&(backToKw cpos (keywordEach [] X.env)).all (fun x=>x.1.isSome)
   && decide ([e].length +([]:List Keyword).length +(if([]:List Keyword).isEmpty then 0 else 1)<30))=true:=by rfl)
  (hline:(apos.endLine == cpos.line)=true:=by rfl) (hs:starEach [e] X.env = [(false,eval e X.env)]:=by rfl) :
  PE X (.Call (.Attribute o "add" apos) [e] [] cpos) (zFd X.prog X.w r to t):=by
 intro pins s σ H Q I h;refine wpAny_Call_method_late hbase hfew hline rfl (thn (ho pins s σ H _ I h) fun v s1 ⟨x,H1,I1,r1,ty,q1⟩=>?_);obtain⟨h1,h2⟩:=zAc I1 r1 ty;refine⟨"set", "set.add",F.plainAttrs_set,F.slot_set_add,F.type_set_add,h1,h2,?_⟩;have hA:=ha cpos pins s1 σ H1 _ I1 q1;rw[hs]at hA⊢;refine Calls.callWith_builtin rfl (Calls.evalArgs_plain ?_);exact thn hA fun us s2 ⟨vs,H2,I2,r2,q2⟩=>hm pins s2 σ H2 x vs v us Q I2 r1 r2 q2
theorem Wv{x:Str}{i:Int}{pos:Pos}(h:∃t,X.mg x=some (.int i t))(hg:Gl X x:=by rfl)(hd:(x ==("__debug__":Str))=false:=by decide):PE X (.Name x pos) (tC (.int i)):=by
 obtain⟨t,e⟩:=h;exact Hr hg e ⟨t,rfl⟩ hd
theorem zDi{x y:Str}{pos:Pos}(h:∃t,X.mg x=some (.str y t))(hg:Gl X x:=by rfl)(hd:(x ==("__debug__":Str))=false:=by decide):PE X (.Name x pos) (tC (.str y)):=by
 obtain⟨t,e⟩:=h;exact Hr hg e ⟨t,rfl⟩ hd
theorem Yh{x:Str}{n:String}{pos:Pos}(hm:X.mg x=none)(hv:bootBuiltins x=some (.type n))(hg:Gl X x:=by rfl)(hn:x≠ "__name__":=by decide)(hd:(x ==("__debug__":Str))=false:=by decide):PE X (.Name x pos) (tC (.ty n)) :=
 Yp hg hm hv rfl hn hd
theorem E6{x:Str}{id:String}{r:List V->Hp->VK->Prop}{e:Expr}{es:List Expr}{t:TA}{p pos:Pos}(hc:E8 X (.builtin id) r)(hm:X.mg x=none)(hv:bootBuiltins x=some (.builtin id))(ha:PA X (e::es) t)(hg:Gl X x:=by rfl)(hn:x≠ "__name__":=by decide)(hdb:(x ==("__debug__":Str))=false:=by decide)
  (hs:starEach (e::es) X.env =(false,eval e X.env)::starEach es X.env:=by rfl) (hpl:(backTo pos (starEach es X.env)).any (·.1)=false:=by rfl):PE X (.Call (.Name x p) (e::es) [] pos) (tCB r t):=To hc hg hm hv ha hn hdb hs hpl
theorem Hl{x:Str}{T:String}{r:List V->Hp->VK->Prop}{e:Expr}{es:List Expr}{t:TA}{p pos:Pos}(hc:E8 X (.type T) r)(hm:X.mg x=none)(hv:bootBuiltins x=some (.type T))(ha:PA X (e::es) t)(hg:Gl X x:=by rfl)(hn:x≠ "__name__":=by decide)(hdb:(x ==("__debug__":Str))=false:=by decide)
  (hs:starEach (e::es) X.env =(false,eval e X.env)::starEach es X.env:=by rfl) (hpl:(backTo pos (starEach es X.env)).any (·.1)=false:=by rfl):PE X (.Call (.Name x p) (e::es) [] pos) (tCB r t):=Rl hc hg hm hv ha hn hdb hs hpl
theorem K0{scope:Scope}{cl:List (Str×Addr)}{N':List Str}{cap:List (Option Nat)}(caps:Caps X scope cl N' cap)(cin:ClIn X cl)(clos:closureFor scope X.env=pure cl:=by rfl)(kind:scope.kind = .function:=by rfl)(nocell:∀y∈scope.names,y.2≠ .cell:=by decide +kernel)
  (loc:∀y∈scope.names,y.2 = .local->scope.names.lookup y.1=some .local:=by decide +kernel) (has:((relabel scope X.env).names.all fun y=>!(y.2 == .cell||y.2 == .free)||(cl.lookup y.1).isSome)=true:=by rfl):CScope X scope cl N' cap:=⟨kind,nocell,loc,clos,cin,has,caps⟩
theorem pgC{scope:Scope}{cl:List (Str×Addr)}{N':List Str}{pins:List (Addr×Obj)}{ex:List Addr}{s3:Shared}{H3:Hp}{x:Str}{pos:Pos}(i:Nat)(hN:N'.Nodup:=by decide +kernel)(hi:N'[i]?=some x:=by rfl)(hx:Loc (cxC X scope cl N' pins ex s3 H3).env.scope x:=by exact Or.inl rfl)
  (hf:(cxC X scope cl N' pins ex s3 H3).env.scope.names.lookup x=some .local:=by rfl):PG (cxC X scope cl N' pins ex s3 H3) (.Name x pos) (S8 i):=C3 (X:=cxC X scope cl N' pins ex s3 H3) hN hi hx (.inr hf)
end
theorem O3:bootBuiltins "len" = some (.builtin "len"):=by decide +kernel
theorem Hh:bootBuiltins "enumerate" = some (.type "enumerate"):=by decide +kernel
theorem zBc:bootBuiltins "min" = some (.builtin "min"):=by decide +kernel
theorem zAv:bootBuiltins "max" = some (.builtin "max"):=by decide +kernel
theorem Wd:bootBuiltins "abs" = some (.builtin "abs"):=by decide +kernel
theorem J3:bootBuiltins "sorted" = some (.builtin "sorted"):=by decide +kernel
theorem zAu:bootBuiltins "int" = some (.type "int"):=by decide +kernel
theorem zCh:bootBuiltins "str" = some (.type "str"):=by decide +kernel
theorem X6:bootBuiltins "list" = some (.type "list"):=by decide +kernel
theorem Tn:bootBuiltins "tuple" = some (.type "tuple"):=by decide +kernel
theorem Vw:bootBuiltins "set" = some (.type "set"):=by decide +kernel
theorem R8:bootBuiltins "isinstance" = some (.builtin "isinstance"):=by decide +kernel
theorem zBt:bootBuiltins "all" = some (.builtin "all"):=by decide +kernel
def KeepAt(a:Addr)(H0 H:Hp):Prop:=∀o,H0 a=some o->H a=some o
def Sm(D:List Addr)(H H':Hp):Prop:=∀b o,H b=some o->b∉D->H' b=some o
theorem Same.at{H0 H:Hp}(h:Same H0 H)(a:Addr):KeepAt a H0 H:=fun o e=>h a o e
theorem Same.new{H:Hp}{p:Addr}{o:HO}(h:H p=none):Same H (upd H p o):=fun b u e=>by rw[B3 (A9 e h)];exact e
theorem Same.upd{H0 H:Hp}{p:Addr}{o:HO}(s:Same H0 H)(h:H0 p=none):Same H0 (upd H p o):=fun b u e=>by rw[B3 (A9 e h)];exact s b u e
theorem Same.sm{D:List Addr}{H H':Hp}(h:Same H H'):Sm D H H':=fun b o e _=>h b o e
theorem Sm.refl(D:List Addr)(H:Hp):Sm D H H:=fun _ _ e _=>e
theorem Sm.trans{D:List Addr}{H H1 H2:Hp}(a:Sm D H H1)(b:Sm D H1 H2):Sm D H H2:=fun c o h n=>b c o (a c o h n) n
theorem Sm.new{D:List Addr}{H H1:Hp}{p:Addr}{o:HO}(a:Sm D H H1)(h:H1 p=none):Sm D H (L2.upd H1 p o):=fun b u e n=>by
 have:=a b u e n;rw[B3 (A9 this h)];exact this
theorem Sm.upd{D:List Addr}{H H1:Hp}{p:Addr}{o:HO}(a:Sm D H H1)(h:p∈D):Sm D H (L2.upd H1 p o):=fun b u e n=>by
 rw[B3 (show b≠p from fun z=>n (by rw[z];exact h))];exact a b u e n
theorem Sm.updN{D:List Addr}{H H1:Hp}{p:Addr}{o:HO}(a:Sm D H H1)(h:H p=none):Sm D H (L2.upd H1 p o):=fun b u e n=>by rw[B3 (A9 e h)];exact a b u e n
theorem Sm.at{D:List Addr}{H H':Hp}(h:Sm D H H'){a:Addr}(n:a∉D):KeepAt a H H':=fun o e=>h a o e n
theorem Sm.none{D:List Addr}{H H':Hp}(h:Sm D H H'){a:Addr}(n:a∉D)(e:H' a=Option.none):H a=Option.none:=by
 cases q:H a with
 | none=>rfl
 | some o=>rw[h a o q n]at e;cases e
theorem KeepAt.seqL{K:PySem.W.Frag}{H H':Hp}{a:Addr}{xs:List V}(e:KeepAt a H H')(h:SqL K H a xs):SqL K H' a xs:=by
 rcases h with(h | ⟨o,h⟩) | h
 .exact .inl (.inl (e _ h))
 .exact .inl (.inr ⟨o,e _ h⟩)
 .exact .inr h
theorem KeepAt.seqT{K:PySem.W.Frag}{H H':Hp}{a:Addr}{xs:List V}(e:KeepAt a H H')(h:SqT K H a xs):SqT K H' a xs:=by
 rcases h with(h | ⟨o,h⟩) | h
 .exact .inl (.inl (e _ h))
 .exact .inl (.inr ⟨o,e _ h⟩)
 .exact .inr h
def Sqs(K:PySem.W.Frag)(H:Hp)(a:Addr)(xs:List V):Prop:=SqL K H a xs\/SqT K H a xs
theorem KeepAt.seq{K:PySem.W.Frag}{H H':Hp}{a:Addr}{xs:List V}(e:KeepAt a H H')(h:Sqs K H a xs):Sqs K H' a xs:=h.imp e.seqL e.seqT
structure AsSeq(J:It)(xs:List V)(a:Addr)(H0:Hp):Prop where
 go:∀H i,KeepAt a H0 H->i<xs.length->J.go i H
 stop:∀H,KeepAt a H0 H->J.stop xs.length H
 yld:∀H i x H',KeepAt a H0 H->i<xs.length->J.yld i H x H'->H'=H/\xs[i]?=some x
theorem asL{K:PySem.W.Frag}{H0:Hp}{a:Addr}{xs:List V}(h:SqL K H0 a xs):AsSeq (Itl K a) xs a H0 :=
 ⟨fun H i k hi=>⟨xs,xs[i],k.seqL h,AC hi⟩,fun H k=>⟨xs,k.seqL h,Nat.le_refl _⟩,fun H i x H' k hi ⟨e,y⟩=>⟨e,y xs (k.seqL h)⟩⟩
theorem asT{K:PySem.W.Frag}{H0:Hp}{a:Addr}{xs:List V}(h:SqT K H0 a xs):AsSeq (Itt K a) xs a H0 :=
 ⟨fun H i k hi=>⟨xs,xs[i],k.seqT h,AC hi⟩,fun H k=>⟨xs,k.seqT h,Nat.le_refl _⟩,fun H i x H' k hi ⟨e,y⟩=>⟨e,y xs (k.seqT h)⟩⟩
theorem zAi{K:PySem.W.Frag}{H:Hp}{σ:St}{a:Addr}{xs:List V}{R:It->Hp->Prop}{i:Nat}(hv:σ[i]?=some (some (.ref a)))(h:Sqs K H a xs)(r:∀J,AsSeq J xs a H->R J H):zDe K (Lq i) σ H R:=by
 refine⟨_,hv,a,rfl,?_⟩;rcases h with h | h
 .exact .inl ⟨⟨xs,h⟩,r _ (asL h)⟩
 .exact .inr ⟨⟨xs,h⟩,r _ (asT h)⟩
theorem Ua{K:PySem.W.Frag}{o:Addr->HO}{cap:List (Option Nat)}{lp:Addr->It->St->Hp->(St->Hp->Prop)->Prop}{σ:St}{H:Hp}{Q:VK}{a:Addr}{xs:List V}{i:Nat}(hv:σ[i]?=some (some (.ref a)))(h:Sqs K H a xs)
  (r:∀J,AsSeq J xs a H->∀D,H D=none->lp D J (Kv cap σ) (upd H D (o D)) fun _ H2=>Q (.ref D) H2):Bi (zDe K (Lq i)) o cap lp σ H Q:=zAi hv h r
theorem Pn{J:It}{n:Nat}{g:TG}{tb:TS}{D:Ends}{σ:St}{H:Hp}(Pv:Nat->St->Hp->Prop)(h0:Pv 0 σ H)(hgo:∀i σ H,i<n->Pv i σ H->J.go i H)(hst:∀σ H,Pv n σ H->J.stop n H)
  (hs:∀i σ H x H',i<n->Pv i σ H->J.yld i H x H'->g x σ H' fun σ2 H2=>tb { D with nx:=Pv (i+1),ct:=Pv (i+1),bk:=D.nx } σ2 H2) (hd:∀σ H,Pv n σ H->D.nx σ H) :
  ∃W:Nat->Nat->St->Hp->Prop,(∃m,W 0 m σ H)/\∀i m σ H,W i m σ H ->
   (J.stop i H/\D.nx σ H)\/(J.go i H/\∃N:St->Hp->Prop,(∀σ' H',N σ' H'->∃m',m' < m/\W (i+1) m' σ' H')/\∀x H',J.yld i H x H'->g x σ H' fun σ2 H2=>tb { D with nx:=N,ct:=N,bk:=D.nx } σ2 H2):=by
 refine⟨fun i m σ H=>m=n-i/\i<=n/\Pv i σ H,⟨n,by simp,CH _,h0⟩,?_⟩;rintro i m σ H ⟨rfl,hi,p⟩;by_cases hlt:i<n
 .exact .inr ⟨hgo i σ H hlt p,Pv (i+1),fun σ' H' p'=>⟨n-(i+1),by omega,rfl,hlt,p'⟩,fun x H' y=>hs i σ H x H' hlt p y⟩
 .have e:i=n:=by omega
  subst e;exact .inl ⟨hst σ H p,hd σ H p⟩
theorem zBp{J:It}{xs:List V}{a:Addr}{H0:Hp}(as:AsSeq J xs a H0){g:TG}{tb:TS}{D:Ends}{σ:St}{H:Hp}(Pv:Nat->St->Hp->Prop)(h0:Pv 0 σ H)(hk:∀i σ H,i<=xs.length->Pv i σ H->KeepAt a H0 H)
  (hs:∀i σ H x,xs[i]?=some x->Pv i σ H->g x σ H fun σ2 H2=>tb { D with nx:=Pv (i+1),ct:=Pv (i+1),bk:=D.nx } σ2 H2) (hd:∀σ H,Pv xs.length σ H->D.nx σ H) :
  ∃W:Nat->Nat->St->Hp->Prop,(∃m,W 0 m σ H)/\∀i m σ H,W i m σ H ->
   (J.stop i H/\D.nx σ H)\/(J.go i H/\∃N:St->Hp->Prop,(∀σ' H',N σ' H'->∃m',m' < m/\W (i+1) m' σ' H')/\∀x H',J.yld i H x H'->g x σ H' fun σ2 H2=>tb { D with nx:=N,ct:=N,bk:=D.nx } σ2 H2) :=
 Pn (n:=xs.length) Pv h0 (fun i σ H hi p=>as.go H i (hk i σ H (EV hi) p) hi) (fun σ H p=>as.stop H (hk _ σ H (Nat.le_refl _) p)) (fun i σ H x H' hi p y=>by
  obtain⟨rfl,e⟩:=as.yld H i x H' (hk i σ H (EV hi) p) hi y;exact hs i σ _ x e p) hd
theorem Bw{J:It}{n:Nat}{g:TG}{tc:TT}{em:TEm}{σ:St}{H:Hp}{Q:St->Hp->Prop}(Pv:Nat->St->Hp->Prop)(h0:Pv 0 σ H)(hgo:∀i σ H,i<n->Pv i σ H->J.go i H)(hst:∀σ H,Pv n σ H->J.stop n H)
  (hs:∀i σ H x H' (N:St->Hp->Prop),i<n->Pv i σ H->J.yld i H x H'->(∀σ' H',Pv (i+1) σ' H'->N σ' H')->g x σ H' fun σ2 H2=>tc σ2 H2 fun b H3=>if b=true then em σ2 H3 N else N σ2 H3)
  (hd:∀σ H,Pv n σ H->Q σ H):Cl g tc em J σ H Q:=by
 refine⟨fun i m σ H=>m=n-i/\i<=n/\Pv i σ H,⟨n,by simp,CH _,h0⟩,?_⟩;rintro i m σ H ⟨rfl,hi,p⟩;by_cases hlt:i<n
 .exact .inr ⟨hgo i σ H hlt p,fun x H' y=>hs i σ H x H' _ hlt p y fun σ3 H4 p'=>⟨n-(i+1),by omega,rfl,hlt,p'⟩⟩
 .have e:i=n:=by omega
  subst e;exact .inl ⟨hst σ H p,hd σ H p⟩
theorem T9{J:It}{xs:List V}{a:Addr}{H0:Hp}(as:AsSeq J xs a H0){g:TG}{tc:TT}{em:TEm}{σ:St}{H:Hp}{Q:St->Hp->Prop}(Pv:Nat->St->Hp->Prop)(h0:Pv 0 σ H)(hk:∀i σ H,i<=xs.length->Pv i σ H->KeepAt a H0 H)
  (hs:∀i σ H x (N:St->Hp->Prop),xs[i]?=some x->Pv i σ H->(∀σ' H',Pv (i+1) σ' H'->N σ' H')->g x σ H fun σ2 H2=>tc σ2 H2 fun b H3=>if b=true then em σ2 H3 N else N σ2 H3)
  (hd:∀σ H,Pv xs.length σ H->Q σ H):Cl g tc em J σ H Q :=
 Bw (n:=xs.length) Pv h0 (fun i σ H hi p=>as.go H i (hk i σ H (EV hi) p) hi) (fun σ H p=>as.stop H (hk _ σ H (Nat.le_refl _) p)) (fun i σ H x H' N hi p y hN=>by
  obtain⟨rfl,e⟩:=as.yld H i x H' (hk i σ H (EV hi) p) hi y;exact hs i σ _ x N e p hN) hd
theorem Au{em:TEm}{N:St->Hp->Prop}{σ:St}{H:Hp}{i:Nat}{x:V}(h:em (σ.set i (some x)) H N):S8 i x σ H fun σ2 H2=>Ee σ2 H2 fun b H3=>if b=true then em σ2 H3 N else N σ2 H3:=by
 show if true=true then em (σ.set i (some x)) H N else N (σ.set i (some x)) H
 rw[AL rfl];exact h
theorem Xa{em:TEm}{N:St->Hp->Prop}{σ:St}{H:Hp}(h:em σ H N):Ee σ H fun b H3=>if b=true then em σ H3 N else N σ H3:=by
 show if true=true then em σ H N else N σ H
 rw[AL rfl];exact h
section
variable{X:Cx}(K:PySem.W.Frag)(P:Program)(w:World){tg:Expr}
theorem piL{l:Expr}{tl:TE}(hl:PE X l tl)(hK:X.K=K:=by rfl):PI X tg l (zBq K tl):=by subst hK;exact Yj hl
theorem piS{l:Expr}{tl:TE}(hl:PE X l tl)(hK:X.K=K:=by rfl):PI X tg l (zDe K tl):=by subst hK;exact zCw hl
theorem piE{elts:List Expr}{kk:Nat}{tp:Pos}{a:Expr}{ta:TA}{p pos:Pos}(hm:X.mg "enumerate" = none)(ha:PA X [a] ta)(hg:Gl X "enumerate":=by rfl)(hs:starEach [a] X.env = [(false,eval a X.env)]:=by rfl)(hK:X.K=K:=by rfl) :
  PI X (.Tuple elts kk tp) (.Call (.Name "enumerate" p) [a] [] pos) (zAx K ta):=by subst hK;exact Ww hg hm Hh ha hs
theorem zCd{a:Expr}{ta:TA}{p pos:Pos}(hm:X.mg "range" = none)(ha:PA X [a] ta)(hg:Gl X "range":=by rfl)(hs:starEach [a] X.env = [(false,eval a X.env)]:=by rfl):PI X tg (.Call (.Name "range" p) [a] [] pos) (zCs ta):=Pb hg hm ha hs
theorem pgT{es:List Expr}{k:Nat}{t:TGs}{n:Nat}{pos:Pos}(h:PGs X es t)(hc:X.calm=true:=by rfl)(hn:(assignEach es X.env).length=n:=by rfl)(hst:(assignEach es X.env).findIdx? (·.1)=none:=by rfl)(hK:X.K=K:=by rfl):PG X (.Tuple es k pos) (zEz K n t):=by subst hK;exact zAy hc h hn hst
theorem peF{e:Expr}{ta:TE}{f:Str}{pos:Pos}(he:PE X e ta)(hb:attributeBase e f X.env (eval e X.env)=eval e X.env:=by rfl)(hK:X.K=K:=by rfl):PE X (.Attribute e f pos) (zFh K ta f):=by subst hK;exact Zx he hb
theorem psF{o value:Expr}{ta tv:TE}{f:Str}{pos pos':Pos}(ha:PE X o ta)(hv:PE X value tv)(hs:swapsWith value (some (.Attribute o f pos')) pos.line X.env=pure false:=by rfl)(hK:X.K=K:=by rfl):PS X (.Assign [.Attribute o f pos'] value pos) (zEx K ta tv f):=by subst hK;exact zCf ha hv hs
theorem P3(hK:X.K=K:=by rfl):E8 X (.builtin "len") (fun xs H Q=>∃p ys,xs = [.ref p]/\(SqL K H p ys\/SqT K H p ys)/\Q (.int ys.length) H):=by subst hK;exact Fb
theorem n8(hK:X.K=K:=by rfl):E8 X (.type "list") (fun xs H Q=>∃p ys,xs = [.ref p]/\(SqL K H p ys\/SqT K H p ys)/\∀l,H l=none->Q (.ref l) (upd H l (.lst ys))):=by subst hK;exact Eu
theorem zBd(hc:X.calm=true:=by rfl)(hK:X.K=K:=by rfl):E8 X (.builtin "all") (fun xs H Q=>∃(p:Addr) (bs:List Bool),xs = [.ref p]/\SqL K H p (bs.map V.bl)/\Q (.bl (bs.all id)) H):=by subst hK;exact Tf hc
theorem Lu(hK:X.K=K:=by rfl):E8 X (.builtin "sorted") (fun xs H Q=>∃(p:Addr) (ss:List Str),xs = [.ref p]/\SqL K H p (ss.map V.str)/\∀(l:Addr) (ss':List Str),H l=none->ss'.Perm ss->ss'.Pairwise leS->Q (.ref l) (upd H l (.lst (ss'.map V.str)))):=by subst hK;exact Hk
theorem Uk(hK:X.K=K:=by rfl):E8 X (.builtin "sorted") (fun xs H Q=>∃(p:Addr) (ps:List PA2),xs = [.ref p]/\SqL K H p (ps.map fun q=>V.ref q.1)/\(∀q∈ps,E2 H q)/\∀(l:Addr) (ps':List PA2),H l=none->ps'.Perm ps->ps'.Pairwise leP->Q (.ref l) (upd H l (.lst (ps'.map fun q=>V.ref q.1)))):=by subst hK;exact Gx
theorem Ul(hc:X.calm=true:=by rfl)(hw:X.w=w:=by rfl):E8 X (.builtin "sorted") (fun xs H Q=>∃(p:Addr) (ss:List Str),xs = [.ref p]/\H p=some (Gh w p ss)/\∀(l:Addr) (ss':List Str),H l=none->ss'.Perm ss->ss'.Pairwise leS->Q (.ref l) (upd H l (.lst (ss'.map V.str)))):=by subst hw;exact Fk hc
theorem Je(hK:X.K=K:=by rfl):E8 X (.builtin "isinstance") (fun xs H Q=>∃x n t b,xs = [x,.ty n]/\TyOf K H x t/\PySem.W.kitOne K t (.type n)=some b/\Q (.bl b) H):=by subst hK;exact Pa
theorem Yz(hP:X.prog=P:=by rfl)(hw:X.w=w:=by rfl):E8 X (.type "set") (fun xs H Q=>xs = []/\∀p,H p=none->Q (.ref p) (upd H p (Nt P w p []))):=by subst hP;subst hw;exact Ov
theorem Sx(hP:X.prog=P:=by rfl)(hw:X.w=w:=by rfl):E8 X (.type "set") (fun xs H Q=>xs = []/\∀p,H p=none->Q (.ref p) (upd H p (Nr P w p []))):=by subst hP;subst hw;exact Mo
theorem Ef(hu:X.A.units+64<cLine)(hK:X.K=K:=by rfl):OpR X (compareOp .NotIn) (zDk K true):=by subst hK;exact Oz hu
theorem zEp(hu:X.A.units+64<cLine)(hK:X.K=K:=by rfl):OpR X (compareOp .Eq) (zEk K):=by subst hK;exact zCo hu
theorem zAz(hu:X.A.units+64<cLine)(hK:X.K=K:=by rfl):OpR X (compareOp .NotEq) (zDg K):=by subst hK;exact zCe hu
theorem Tt(hK:X.K=K:=by rfl):OpR X (compareOp .In) (rIn K false):=by subst hK;exact Oq
theorem Uv(hK:X.K=K:=by rfl):OpR X (compareOp .NotIn) (rIn K true):=by subst hK;exact Gp
theorem zDm(hP:X.prog=P:=by rfl)(hw:X.w=w:=by rfl):OpR X (compareOp .In) (zFn P w false):=by subst hP;subst hw;exact Si
theorem zEg(hu:X.A.units+1<cLine)(hP:X.prog=P:=by rfl)(hw:X.w=w:=by rfl):OpR X (compareOp .In) (zFm P w):=by subst hP;subst hw;exact Mp hu
theorem zBy(hP:X.prog=P:=by rfl)(hw:X.w=w:=by rfl):MtM X "set.add" (zCy P w):=by subst hP;subst hw;exact zAh
theorem zAq(hu:X.A.units+1<cLine)(hP:X.prog=P:=by rfl)(hw:X.w=w:=by rfl):MtM X "set.add" (zCq P w):=by subst hP;subst hw;exact Zf hu
theorem Vk{o e:Expr}{to:TE}{t:TA}{apos cpos:Pos}{r:V->List V->Hp->VK->Prop}(hm:MtM X "set.add" r)(ho:PE X o to)(ha:PA X [e] t)
  (hbase:attributeBase o "add" X.env (eval o X.env)=eval o X.env:=by rfl)
  (hfew:((backTo cpos (starEach [e] X.env)).all (fun x=>!x.1) &&(backToKw cpos (keywordEach [] X.env)).all (fun x=>x.1.isSome)
   && decide ([e].length +([]:List Keyword).length +(if([]:List Keyword).isEmpty then 0 else 1)<30))=true:=by rfl)
  (hline:(apos.endLine == cpos.line)=true:=by rfl) (hs:starEach [e] X.env = [(false,eval e X.env)]:=by rfl) (hP:X.prog=P:=by rfl) (hw:X.w=w:=by rfl) :
  PE X (.Call (.Attribute o "add" apos) [e] [] cpos) (zFd P w r to t):=by subst hP;subst hw;exact Zg hm ho ha hbase hfew hline hs
theorem ixL(hK:X.K=K:=by rfl):IxR X (zFo K):=by subst hK;exact Zc
theorem ixT(hK:X.K=K:=by rfl):IxR X (zEy K):=by subst hK;exact zBa
theorem slL(hK:X.K=K:=by rfl):SlR X (zFi K):=by subst hK;exact Xp
theorem Lh(hK:X.K=K:=by rfl):MtM X "list.index" (Qd K):=by subst hK;exact Oi
theorem ptV{a:Expr}{ta:TE}(ha:PE X a ta)(he:∀whole,isTrue a X.env whole =(do let v <-whole;standAt a.pos;holding [v] (truthy v)):=by intro _;rfl)(hK:X.K=K:=by rfl):PT X a (fun σ H Q=>ta σ H fun x H'=>∃k,zDr K x H' k/\Q k H'):=by subst hK;exact So ha he
theorem Bn{T id:String}{name:Str}{o e:Expr}{es:List Expr}{to:TE}{t:TA}{apos cpos:Pos}{r:V->List V->Hp->VK->Prop}(pa:PlainAttrs T)(slot:Slot T name id)(hty:typeOf (.builtin id)=pure (.type "method_descriptor"))(hm:MtM X id r)(ho:PE X o to)(ha:PA X (e::es) t)
  (hbase:attributeBase o name X.env (eval o X.env)=eval o X.env:=by rfl)
  (hfew:((backTo cpos (starEach (e::es) X.env)).all (fun x=>!x.1) &&(backToKw cpos (keywordEach [] X.env)).all (fun x=>x.1.isSome)
   && decide ((e::es).length +([]:List Keyword).length +(if([]:List Keyword).isEmpty then 0 else 1)<30))=true:=by rfl)
  (hline:(apos.endLine == cpos.line)=true:=by rfl) (hs:starEach (e::es) X.env =(false,eval e X.env)::starEach es X.env:=by rfl) (hplain:(backTo cpos (starEach es X.env)).any (·.1)=false:=by rfl) (hK:X.K=K:=by rfl) :
  PE X (.Call (.Attribute o name apos) (e::es) [] cpos) (tBM K T r to t):=by subst hK;exact zEa pa slot hty hm ho ha hbase hfew hline hs hplain
theorem zAj{T id:String}{name:Str}{o:Expr}{to:TE}{apos cpos:Pos}{r:V->List V->Hp->VK->Prop}(pa:PlainAttrs T)(slot:Slot T name id)(hty:typeOf (.builtin id)=pure (.type "method_descriptor"))(hm:MtM X id r)(ho:PE X o to)
  (hbase:attributeBase o name X.env (eval o X.env)=eval o X.env:=by rfl) (hline:(apos.endLine == cpos.line)=true:=by rfl) (hK:X.K=K:=by rfl):PE X (.Call (.Attribute o name apos) [] [] cpos) (zFr K T r to):=by subst hK;exact zBz pa slot hty hm ho hbase hline
end
section
variable{X:Cx}{tg iter elt tg2 iter2:Expr}{g g2:TG}{tc tc2:TT}{te:TE}{ifs ifs2:List Expr}{scope:Scope}{cl:List (Str×Addr)}{N':List Str}{cap:List (Option Nat)}{pos:Pos}{wi wi2:TI}
theorem zEc(w:World)(S:CScope X scope cl N' cap)(hi:PI X tg iter wi)
  (hb:∀(pins:List (Addr×Obj)) (ex:List Addr) (s3:Shared) (H3:Hp),PG (cxC X scope cl N' pins ex s3 H3) tg g/\PTs (cxC X scope cl N' pins ex s3 H3) ifs tc/\PI (cxC X scope cl N' pins ex s3 H3) tg2 iter2 wi2 /\
   PG (cxC X scope cl N' pins ex s3 H3) tg2 g2/\PTs (cxC X scope cl N' pins ex s3 H3) ifs2 tc2/\PE (cxC X scope cl N' pins ex s3 H3) elt te)
  (hc:X.calm=true:=by rfl) (hs:∀x,foldedSetIterable iter X.env x=pure x:=by intro _;rfl) (hs2:∀env x,foldedSetIterable iter2 env x=pure x:=by intro _ _;rfl) (hw:X.w=w:=by rfl) :
  PE X (.SetComp elt [⟨tg,iter,ifs,0⟩,⟨tg2,iter2,ifs2,0⟩] scope pos) (Bi wi (fun D=>Gh w D []) cap fun D J σ H Q=>Cl g tc (zDz wi2 fun J σ H Q=>Cl g2 tc2 (Hb w D te) J σ H Q) J σ H Q):=by
 subst hw;exact Yq S hc hi hb hs hs2
end
section
variable{X:Cx}{tg iter elt:Expr}{ifs:List Expr}{scope:Scope}{cl:List (Str×Addr)}{N':List Str}{cap:List (Option Nat)}{wi:TI}{pos:Pos}
theorem Se{e:Expr}{gs:List Comprehension}{newAcc:Sem Value}{p2:Pos}{use:Option (Value->Sem Unit)}{Qv:Value->Shared->Prop}(hcl:clausesOf e =⟨tg,iter,ifs,0⟩::gs)(o:Addr->HO)(hs:∀x,foldedSetIterable iter X.env x=pure x)(S:CScope X scope cl N' cap)(hc:X.calm=true)(hi:PI X tg iter wi)
  {lp:Addr->It->St->Hp->(St->Hp->Prop)->Prop}
  (hnew:∀(pins:List (Addr×Obj)) (s:Shared) (σ:St) (H:Hp) (Q:Value->Shared->Prop) (E:Value->Shared->Prop),Inv X pins σ H s->(∀s',Inv X pins σ (upd H s.heap.objs.size (o s.heap.objs.size)) s'->(∀b ob,s.heap.get? b=some ob->s'.heap.get? b=some ob)->Q (.ref s.heap.objs.size) s')->wpAny (model X.prog X.w) X.A newAcc Q E s)
  (hlp:∀(pins:List (Addr×Obj)) (ex:List Addr) (s3:Shared) (H3:Hp) (D it:Addr) (fp:List Addr) (tn:Nat->Heap->Prop) (J:It) (σ:St) (s:Shared) (H:Hp) (Q:St->Hp->Prop) (R:Result->Shared->Prop),
   Turn X.prog X.w X.K tg J fp it tn->Inv (cxC X scope cl N' pins ex s3 H3) [] σ H s->tn 0 s.heap->(∀b∈fp,Be (cxC X scope cl N' pins ex s3 H3) [] H b)->lp D J σ H Q ->
   (∀s' σ' H',Inv (cxC X scope cl N' pins ex s3 H3) [] σ' H' s'->Q σ' H'->R (.ok .next) s') ->
   codeAny (model X.prog X.w) X.A (.compLoop e 0 (.ref it) (.ref D) (compEnvC scope cl s3.heap.objs.size X.env)) R s)
  (hun:∀it D env,X.A.under (.compStart e 0 (.ref it) (.ref D) env)=X.A) (hden:∀it D env,(model X.prog X.w).den (.compStart e 0 (.ref it) (.ref D) env) =(compStart e 0 (.ref it) (.ref D) env).onRaise (fun x=>do noteFrame x env;standAt theWindowsPlace))
  {pins:List (Addr×Obj)} {s:Shared} {σ:St} {H:Hp} {Q:V->Hp->Prop} (I:Inv X pins σ H s) (h:Bi wi o cap lp σ H Q)
  (hend:∀(D:Addr) (fp:List Addr) (H2:Hp) (s3 s':Shared) (σ':St) (H':Hp),Inv X pins σ H2 s3->(∀b∈fp,Be X pins H2 b)->Inv (cxC X scope cl N' pins fp s3 H2) [] σ' H' s'->Q (.ref D) H'->compPost (model X.prog X.w) X.A X.xe use Qv (.ref D) s3.heap.objs.size (.ok .next) s') :
  wpAny (model X.prog X.w) X.A (comprehension e scope X.env p2 newAcc false (eval iter X.env) use) Qv X.xe s:=by
 refine HL hcl hs S.clos S.kind S.loc (thn (hi pins s σ H _ I h) fun v s1 h1=>thn h1 fun itv s2 h2=>?_);obtain⟨it,fp,tn,J,H2,eit,I2,T,st2,f2,R2⟩:=h2;subst eit;refine hnew pins s2 σ H2 _ _ I2 fun s3 I3 k3=>?_;have hD:H2 s2.heap.objs.size=none:=I2.hok.fresh (Nat.le_refl _);have fok:∀b∈fp,Be X pins (upd H2 s2.heap.objs.size (o s2.heap.objs.size)) b/\∃ob,s3.heap.get? b=some ob:=fun b hb=>by
  obtain⟨ob,e,_⟩:=T.obj _ _ st2 b hb;obtain⟨f0,fr⟩:=f2 b hb;exact⟨⟨by rw[B3 (BB (AI e))];exact f0,fr⟩,ob,k3 b ob e⟩
 refine wpAny_newFunctionEnv S.nocell (by intro y hy;simp at hy) (fun h1 hns hsb=>?_) S.kind;have hk:∀b ob,s3.heap.get? b=some ob->h1.get? b=some ob:=fun b ob e=>(hsb.2 b (BB (AI e))).trans (AD _ e);have I4:Inv (cxC X scope cl N' pins fp s3 (upd H2 s2.heap.objs.size (o s2.heap.objs.size))) [] (Kv cap σ) (upd H2 s2.heap.objs.size (o s2.heap.objs.size)) { s3 with heap:=h1,toks:=s3.toks +([]:List (Str×Value)).length } :=
  I3.block S hc fok hns hk
 have st4:tn 0 h1:=T.keep 0 _ _ st2 fun b hb ob e=>hk b ob (k3 b ob e);refine U6 (X:=cxC X scope cl N' pins fp s3 (upd H2 s2.heap.objs.size (o s2.heap.objs.size))) (gs:=⟨tg,iter,ifs,0⟩::gs) (e:=e) (d:=0) (tg:=tg) (iter:=iter) (ifs:=ifs) (hun _ _ _) (hden _ _ _) hcl rfl T st4 ?_;refine hlp pins fp s3 _ s2.heap.objs.size it fp tn J (Kv cap σ) _ _ _ _ T I4 st4 (fun b hb=>?_) (R2 _ hD) fun s' σ' H' I' q'=>?_
 .obtain⟨⟨f0,f1,f2',f3,f4,f5⟩,ob,eo⟩:=fok b hb;refine⟨f0,BB (AI eo),fun hf=>?_,.inl hb,fun x c e=>f4 x c (S.cin.get e),fun p hp=>f5 p (by simpa [cxC] using hp)⟩;rcases BD.mp (I3.stkSub b hf)with z | z
  .exact f1 z
  .exact f2' z
 .exact hend _ fp _ s3 s' σ' H' I3 (fun b hb=>(fok b hb).1) I' q'
theorem Jn{i:Nat}{x:Str}{pos' cpos:Pos}{g:TG}{tc:TT}{te:TE}(hN:X.N.Nodup)(hi:X.N[i]?=some x)(hx:Loc X.env.scope x)(S:CScope X scope cl N' cap)(hc:X.calm=true)(hI:PI X tg iter wi)
  (hb:∀(pins:List (Addr×Obj)) (ex:List Addr) (s3:Shared) (H3:Hp),PG (cxC X scope cl N' pins ex s3 H3) tg g/\PTs (cxC X scope cl N' pins ex s3 H3) ifs tc/\PE (cxC X scope cl N' pins ex s3 H3) elt te)
  (hs:∀x,foldedSetIterable iter X.env x=pure x:=by intro _;rfl)
  (hsw:swapsWith (.ListComp elt [⟨tg,iter,ifs,0⟩] scope cpos) (some (.Name x pos')) pos.line X.env=pure true:=by rfl)
  (hf:X.fn x=true\/X.env.scope.names.lookup x=some .local:=by first | exact .inl rfl | exact .inr rfl | assumption) :
  PS X (.Assign [.Name x pos'] (.ListComp elt [⟨tg,iter,ifs,0⟩] scope cpos) pos) (Zr (Bi wi (fun _=>.lst []) cap fun D J σ H Q=>Cl g tc (De D te) J σ H Q) (S8 i)):=by
 intro pins s σ H D I h;rw[exec_Assign];refine AA (EH (AA (GK hsw (wpAny_ite_true rfl (AA (AA ?_))))));refine Se (newAcc:=newList []) (p2:=firstIterPos [⟨tg,iter,ifs,0⟩] cpos) rfl (fun _=>.lst []) hs S hc hI (fun pins s σ H Q E I h=>?_) (fun pins ex s3 H3 D it fp tn J σ s H Q R T I st hf h hR=>?_) (fun _ _ _=>rfl) (fun _ _ _=>rfl) I h fun E fp H2 s3 s' σ' H' I3 fok I' q=>?_
 .refine GU ?_;exact h _ (I.lnew (t':=s.toks) (its:=[]) .nil (CH _)) fun b ob e=>AD _ e
 .obtain⟨b1,b2,b3⟩:=hb pins ex s3 H3;exact Q4 (X:=cxC X scope cl N' pins ex s3 H3) rfl rfl hc rfl (l4 elt tg iter ifs scope cpos _ _ _) b1 b2 (Dv rfl b3) T I st hf h hR
 .have IX:Inv X pins σ H' s':=I3.unblock fok I' ⟨rfl,fun _ _=>rfl⟩;have fC:Be X pins H' s3.heap.objs.size:=I3.fpOk (Nat.le_refl _) I'.free;obtain⟨m,hn,_⟩:=I'.loc;show wpAny _ _ (assign (.Name x pos') X.env (.ref E)) _ _ _;refine wpAny_assign_Name (Ex (v:=.ref E) IX hN hi hx rfl (fun s2 I2 ⟨a,hsb,ha⟩=>?_) hf);have nC:s3.heap.objs.size≠a:=by
   rcases ha with rfl | ha
   .exact fC.2.1
   .exact(fC.2.2.2.2.1 _ _ ha).symm
  refine⟨m,?_,fun h' hsb'=>AF (AF ?_)⟩
  .obtain⟨ob,es,ep,e1,r⟩:=hn;exact⟨ob,es,ep,(hsb.2 _ nC).trans e1,r⟩
  refine⟨_,H',?_,q⟩;have k:∀b ob,b∉[s3.heap.objs.size]->s2.heap.get? b=some ob->h'.get? b=some ob:=fun b ob hb e=>(hsb'.2 b fun z=>hb (AE.mpr z)).trans e;refine I2.step (h':=h') (H':=H') (t':=s2.toks) (g':=s2.gens) (d':=s2.drawn) (ch:=[s3.heap.objs.size]) (fun b hb=>by rw[AE.mp hb];exact⟨fC.2.2.2.1,fC.2.1,fC.2.2.2.2⟩) (fun b ob _ _ hc e _=>k b ob hc e) (fun b ob _ _ hc e _=>⟨ob.slots,k b ob hc e⟩) (fun _ _ _ _ n=>n)
   (fun b ob hc e=>⟨ob,k b ob hc e⟩) (fun _ _ e=>e) (fun _ _ _ e=>e) (fun b ps e=>⟨#[],by rw[e];simp⟩) (fun m hm=>?_) (fun b u eb=>?_) I2.bare
  .obtain⟨ob,es,ep,ho,r⟩:=hm;exact⟨ob,es,ep,k _ ob (fun hb=>fC.2.1 (AE.mp hb).symm) ho,r⟩
  .have nf:∀b u,H' b=some u->b∉[s3.heap.objs.size]:=fun b u e hb=>by rw[AE.mp hb,fC.1]at e;cases e
   refine(I2.hok b u eb).stay (fun c v hc q=>k c v ?_ q) (fun _ q=>q) fun _ _ q=>q;rcases hc with z | z
   .rw[z];exact nf b u eb
   .exact nf c _ z
end
structure IsC(K:PySem.W.Frag)(C:Addr):Prop where
 ha:PySem.W.findIn K (.ref C) "__class__" = some (some (.builtin "object.__class__"))
 hn:PySem.W.specialIn K (.builtin "object.__class__") "__get__" = some (some (.builtin "getset_descriptor.__get__"))
 htk:PySem.W.takesIn K (.builtin "object.__class__")=some true
 hm:PySem.W.mroIn K C (.type "object")=some true
 one:PySem.W.kitOne K (.ref C) (.ref C)=some true
theorem kit_same(K:PySem.W.Frag)(a:Addr):PySem.W.kitOne K (.ref a) (.ref a)=some true:=AL (beq_self_eq_true _)
section
variable{X:Cx}
theorem Sz{x:Str}{C:Addr}{pos:Pos}(h:X.mg x=some (.ref C))(hg:Gl X x:=by rfl)(hd:(x ==("__debug__":Str))=false:=by decide):PE X (.Name x pos) (tC (.ref C)):=Hr hg h rfl hd
theorem Ts(hc:X.calm=true):E8 X (.builtin "any") (fun xs H Q=>∃(p:Addr) (bs:List Bool),xs = [.ref p]/\SqL X.K H p (bs.map V.bl)/\Q (.bl (bs.any id)) H):=by
 intro pins s σ H xs us Q I r h;obtain⟨p,bs,rfl,hq,q⟩:=h;obtain⟨u,rfl,ru⟩:=W8 r;cases ru;obtain⟨its,rv,pl,hz⟩:=I.list hq;refine call_any_walk (HX pl.isList ?_);have hne:p≠s.heap.objs.size:=by
  obtain⟨o,n,e,_⟩:=pl;exact BB (AI e)
 refine⟨s.heap.objs.size,_,_,_,_,_,fun i=>bs.getD i false,rfl,Walks.list (A:=X.A.in1) (show X.A.in1.handled=none from I.ok.hd hc) _ p hne its.toArray,⟨⟨_,AS _ rfl,rfl,rfl⟩,?_⟩,fun i v s' Q' E' hv q'=>?_,fun h' tk k=>?_⟩
 .obtain⟨o,n,e,c,d,e2⟩:=pl;exact⟨o,AD _ e,c,n,e2⟩
 .have hb:(bs.map V.bl)[i]?=some (V.bl (bs.getD i false))/\RelV (V.bl (bs.getD i false)) v:=by
   have hv':its[i]?=some v:=by simpa using hv
   have hi:i<its.length:=(AG.mp hv').1;have hl:=rv.length;rw[AB]at hl;have e:(bs.map V.bl)[i]?=some (V.bl (bs.getD i false)):=by
    rw[AH,AC (by omega)];simp[BG,AC (show i<bs.length by omega)]
   obtain⟨u,hu,ru⟩:=rv.get e;rw[hv']at hu;cases hu;exact⟨e,ru⟩
  cases hb.2;exact DM q'
 .have hl:=rv.length;rw[AB]at hl;have e:(List.range its.toArray.size).any (fun i=>bs.getD i false)=bs.any id:=by
   rw[BA,<-hl,CN,HD,HD];constructor
   .rintro⟨i,hi,z⟩;have hi':=CI.mp hi;refine⟨bs[i],GI hi',?_⟩;simpa [BG,AC hi'] using z
   .rintro⟨b,hb,z⟩;obtain⟨i,hi,rfl⟩:=FW.mp hb;refine⟨i,CI.mpr hi,?_⟩;simpa [BG,AC hi] using z
  rw[e];exact⟨.bl (bs.any id),H,I.kept fun b o eb=>k b o (by
   intro hb;have:b=s.heap.objs.size:=by simpa using hb
   exact absurd (AI eb) (by rw[this];exact CV _)) (AD _ eb),rfl,q⟩
theorem Rc:bootBuiltins "any" = some (.builtin "any"):=by decide +kernel
variable(K:PySem.W.Frag)
theorem Ri(hc:X.calm=true:=by rfl)(hK:X.K=K:=by rfl):E8 X (.builtin "any") (fun xs H Q=>∃(p:Addr) (bs:List Bool),xs = [.ref p]/\SqL K H p (bs.map V.bl)/\Q (.bl (bs.any id)) H):=by subst hK;exact Ts hc
end
theorem Lk:bootBuiltins "sum" = some (.builtin "sum"):=by decide +kernel
section
variable{X:Cx}
theorem Ox(hc:X.calm=true):E8 X (.builtin "sum") (fun xs H Q=>∃(p:Addr) (ns:List Int),xs = [.ref p]/\SqL X.K H p (ns.map V.int)/\Q (.int ns.sum) H):=by
 intro pins s σ H xs us Q I r h;obtain⟨p,ns,rfl,hq,q⟩:=h;obtain⟨u,rfl,ru⟩:=W8 r;cases ru;obtain⟨its,rv,pl,hz⟩:=I.list hq;have hi:=Nm rv;obtain⟨xs,ex⟩:=hi.allInts.items;refine sum_intListG (xs:=xs) (I.ok.hd hc) (by rw[<-ex];exact pl.isList) fun h' tk t' k=>⟨.int ns.sum,H,I.kept k,⟨t',?_⟩,q⟩;have e:numsOf its=ns:=hi.numsOf;have e2:numsOf (intItems xs).toList=numsOf its:=by rw[<-ex]
 rw[preSum_eq,CZ (by simp),<-nums_intItems,e2,e]
theorem Qe(K:PySem.W.Frag)(hK:X.K=K:=by rfl)(hc:X.calm=true:=by rfl):E8 X (.builtin "sum") (fun xs H Q=>∃(p:Addr) (ns:List Int),xs = [.ref p]/\SqL K H p (ns.map V.int)/\Q (.int ns.sum) H):=by subst hK;exact Ox hc
end
theorem Xc{α:Type}:∀{ps:List (Addr×α)} {us:List Value},Vals (ps.map fun q=>V.ref q.1) us->us=ps.map fun q=>Value.ref q.1
 | [],_,.nil=>rfl
 | _::_,_,.cons r t=>by rw[AX,Xc t];cases r;rfl
theorem Yb{α:Type}:∀(ps:List (Addr×α)),Vals (ps.map fun q=>V.ref q.1) (ps.map fun q=>Value.ref q.1)
 | []=>.nil
 | _::ps=>.cons rfl (Yb ps)
def Itd(d:Addr)(o:Obj)(kvs:List (Key×V)):It :=
 ⟨fun i H=>H d=some (.frz o (.dK kvs))/\i<kvs.length,fun i H x H'=>H'=H/\∃k v,kvs[i]?=some (k,v)/\x=kV k,fun i H=>H d=some (.frz o (.dK kvs))/\kvs.length<=i⟩
theorem KV.at{kvs:List (Key×V)}{vs:List (Key×Value)}(h:KV kvs vs):∀{i:Nat} {k:Key} {v:V},kvs[i]?=some (k,v)->∃u,vs[i]?=some (k,u):=by
 induction h with
 | nil=>intro i k v e;rw[List.getElem?_nil]at e;cases e
 | cons r _ ih =>
  intro i k v e;cases i with
  | zero =>
   rw[HU]at e⊢;cases e;obtain⟨a,b⟩:=r;exact⟨_,by rw[show k=_ from a]⟩
  | succ i=>exact ih e
theorem Xb{k:Key}{u:Value}(h:Ep k u=true):RelV (kV k) u:=by
 cases k with
 | inl i=>obtain⟨t,rfl⟩:=Value.isInt_shape h;exact⟨t,rfl⟩
 | inr x=>obtain⟨t,rfl⟩:=Value.isStrOf_shape h;exact⟨t,rfl⟩
section
variable{X:Cx}{tg:Expr}
theorem Sb{P:Program}{w:World}{K:PySem.W.Frag}{d it:Addr}{o:Obj}{kvs:List (Key×V)}{es:Array DictEntry}{ep:Nat}(hd:o.data = .dict es ep):Turn P w K tg (Itd d o kvs) [it] it (fun i h=>h.IsKeyIter it d i kvs.length ep) where
 mem:=by simp
 obj:=fun i h st b hb=>by
  have e:b=it:=by simpa using hb
  subst e;obtain⟨o,e,c,d⟩:=st;exact⟨o,e,fun v z=>by rw[d]at z;cases z⟩
 keep:=fun i h h' st k=>by
  obtain⟨o,e,r⟩:=st;exact⟨o,k it (by simp) o e,r⟩
 item:=by
  intro X hP hw hK hc i pins s σ H E I hf st hg;subst hP hw hK;obtain⟨hq,hi⟩:=hg;obtain⟨f0,f1,f2,f3,f4,f5⟩:=hf it (by simp);obtain⟨ho,hz,hS,vs,r,ob,es',ep',e1,c1,d1,m1⟩:=(show ObjOk X.prog X.w H s.heap d (.frz o (.dK kvs))from I.hok d _ hq);rw[ho]at e1;cases e1;rw[hd]at d1;cases d1;have hx:kvs[i]?=some (kvs[i].1,kvs[i].2):=AC hi;obtain⟨u,hu⟩:=r.at hx;have hl:kvs.length=vs.length:=r.length;rw[hl]at st;refine wpAny_pyNext_dict_item (knd:=B9 X.prog X.w) st ⟨o,es,ho,c1,hd,m1⟩ hu fun key h' hkey st' sb=>?_;have I1:Inv X pins σ H { s with heap:=h' }:=I.turned (t':=s.toks) (fun b o hb e=>(sb.2 b hb).trans e) f0 f1 f3 f4 f5;obtain⟨oi,ei,ci,di⟩:=id st';rw[<-hl]at st';exact⟨key,rfl,Lz (s:={ s with heap:=h' }) ei ci di (by decide) ⟨kV kvs[i].1,H,I1,Xb hkey,⟨rfl,_,_,hx,rfl⟩,st',fun b hb=>(hf b hb).1⟩⟩
 done:=by
  intro X hP hw hK hc i pins s σ H E I hf st hg;subst hP hw hK;obtain⟨hq,hi⟩:=hg;obtain⟨f0,f1,f2,f3,f4,f5⟩:=hf it (by simp);obtain⟨ho,hz,hS,vs,r,ob,es',ep',e1,c1,d1,m1⟩:=(show ObjOk X.prog X.w H s.heap d (.frz o (.dK kvs))from I.hok d _ hq);rw[ho]at e1;cases e1;rw[hd]at d1;cases d1;have hl:kvs.length=vs.length:=r.length;rw[hl]at st hi;exact wpAny_pyNext_dict_end (knd:=B9 X.prog X.w) (I.ok.hd hc) st ⟨o,es,ho,c1,hd,m1⟩ (DW hi) fun h' eb=>⟨rfl,I.turned (t':=s.toks) (fun b o hb e=>eb b o hb e) f0 f1 f3 f4 f5⟩
 self:=fun _ _ _ _ _ st h=>wpAny_pyIter_keyiter st h
end
end L2
namespace TS
open PySem PyProof.Rows
section
variable{prog:Program}{w:World}{A:Around}{E:Value->Shared->Prop}{s:Shared}{Z:KeyKind}{kd:SortKind}
structure Keys2(prog:Program)(w:World)(a:Addr)(s:Shared)(Z:KeyKind)(kd:SortKind)(vs:List Value):Prop where
 cmp:∀(A:Around) (s':Shared),A.units+4<cLine->Ext a s s'->Cmp prog w A s' Z kd
 key:∀v∈vs,∃k,Z.keyOf v=some k
 kind:2<=vs.length->∀(A:Around) (E:Value->Shared->Prop) (s':Shared) (Q:SortKind->Shared->Prop),Ext a s s'->Q kd s'->wpAny (model prog w) A (keyKind' vs.toArray) Q E s'
theorem Bm{a:Addr}{vs:List Value}{n:Nat}{P:Fin->Shared->Prop}(hu:A.units+4<cLine)(ho:s.heap.get? a=some (seqObj "list" vs.toArray n))(hz:vs.length<=sizeLine)(K:Keys2 prog w a s Z kd vs)
  (h:∀out:Array Value,Out Z vs out->P (.done (.ret .none)) { s with heap:=sortedHeap s.heap a vs out }) :
  wpAny (model prog w) A (Builtin.«list.sort» ⟨[.ref a],[]⟩) P E s:=by
 rw[list_sort_plain];have ha:a<s.heap.objs.size:=AI ho;have hsz:vs.toArray.size=vs.length:=by simp
 refine AA (listItems_at ho rfl ?_);refine AA (listUpdate_at ho rfl ?_ (by rw[hsz];exact hz) (by simp));obtain⟨e1,ho1⟩:∃e1,(s.heap.update a (Obj.mapSeq fun _=>#[])).get? a=some (seqObj "list" #[] e1):=⟨_,get?_update_seq ho (fun _=>#[])⟩;refine AA (seqEpoch_at ho1 rfl ?_);refine AA (wpAny_newTuple ?_ (by simpa using hz));refine AA (GU ?_);refine CU ?_;have ho6:(((s.heap.update a (Obj.mapSeq fun _=>#[])).push (seqObj "tuple" vs.toArray 0)).push (seqObj "list" #[] 0)).get? a=some (seqObj "list" #[] e1):=by
  rw[HV _ _ _ (by rw[size_push',ET];exact BB (DG ha)),HV _ _ _ (by rw[ET];exact BB ha)];exact ho1
 show wpAny (model prog w) A _ P E { s with heap:=((s.heap.update a (Obj.mapSeq fun _=>#[])).push (seqObj "tuple" vs.toArray 0)).push (seqObj "list" #[] 0) };dsimp only;have hE:Ext a s { s with heap:=((s.heap.update a (Obj.mapSeq fun _=>#[])).push (seqObj "tuple" vs.toArray 0)).push (seqObj "list" #[] 0) }:=fun b o hb e =>
  AD _ (AD _ ((BR s.heap _ (Ne.symm hb)).trans e))
 by_cases h2:vs.toArray.size<2
 .rw[AL h2,AL h2];refine AA (AF ?_);rw[StateT.run_pure];refine AA (AF ?_);dsimp only;refine AA (seqEpoch_at ho6 rfl ?_);refine AA (listUpdate_at ho6 rfl ?_ (by simp) (by rw[GE];show(pairsOf vs).size<=_;rw[pairsOf_size];omega));simp only[bne_self_eq_false,AV,DA];refine AF (h _ (Lr (Z:=Z) (xs:=pairsOf vs) (GD _) ?_));rw[pairsOf_toList];rw[hsz]at h2
  match vs,h2 with
  | [],_=>exact List.Pairwise.nil
  | [v],_=>exact DK _ _
  | _::_::_,h2=>simp at h2;omega
 .rw[AJ h2,AJ h2];refine AA (K.kind (by omega) A E _ _ hE ?_);refine AA (BS (Z9 (K.cmp A _ hu hE) (a₀:=pairsOf vs) (st:=SortSt.mk' kd (vs.toArray.zip vs.toArray) #[] 7 none)
   (Q:=fun _ st'=>St Z kd (pairsOf vs) st'/\Sor Z (arrOf st').toList)
   (fun p hp=>?_) ⟨GD _,rfl,rfl⟩ rfl fun st' a1 a2=>⟨a1,a2⟩) ?_ fun _ _ e=>e)
  .rw[pairsOf_toList]at hp;exact K.key _ (mem_zip_self hp).2
  rintro⟨⟨⟩,st'⟩ s' ⟨rfl,hp,hs⟩;dsimp only;refine AA (seqEpoch_at ho6 rfl ?_);refine AA (listUpdate_at ho6 rfl ?_ (by simp) (by rw[GE];show(arrOf st').size<=_;rw[hp.size,pairsOf_size];omega));rw[show failedOf st'=none from hp.failed];simp only[bne_self_eq_false,AV,DA];exact AF (h _ (Lr hp.perm hs))
theorem sorted_gen2{x:Value}{Q:Value->Shared->Prop}(hu:A.units+6<cLine)
  (hc:wpAny (model prog w) A.in1 (collect x) (fun vs s1=>s1.os=s.os/\vs.length<=sizeLine/\(∃(Z:KeyKind) (kd:SortKind),(∀s2:Shared,Ext s1.heap.objs.size s1 s2->Keys2 prog w s1.heap.objs.size s2 Z kd vs) /\
   ∀(out:Array Value) (h':Heap) (e:Nat),Out Z vs out->(∀b o,s1.heap.get? b=some o->h'.get? b=some o)->h'.get? s1.heap.objs.size=some (seqObj "list" out e)->Q (.ref s1.heap.objs.size) { s1 with heap:=h' })) E s) :
  wpAny (model prog w) A (call (.builtin "sorted") [x]) Q E s:=by
 refine Calls.call_function_entry kind_sorted plain_sorted entry_sorted (args_sorted1 _) ?_;unfold Builtin.«sorted»;refine AA (m:=checkCount "sorted" 1 1 _) (AF ?_);refine AA (BS hc (fun vs s1 ⟨eos,hz,Z,kd,K,q⟩=>?_) fun _ _ z=>z);refine AA (GU ?_);have hoL:(s1.heap.push (seqObj "list" vs.toArray 0)).get? s1.heap.objs.size=some (seqObj "list" vs.toArray 0):=AS _ rfl;show wpAny _ _ _ _ _ { s1 with heap:=s1.heap.push (seqObj "list" vs.toArray 0) };have hE:Ext s1.heap.objs.size s1 { s1 with heap:=s1.heap.push (seqObj "list" vs.toArray 0) }:=fun b o _ e=>AD _ e;refine AA (CU (EG slot_list_sort ⟨_,hoL,rfl⟩ entry_list_sort (Bm (s:={ s1 with heap:=s1.heap.push (seqObj "list" vs.toArray 0) }) (by simp only[Around.in1_units];omega) hoL hz (K _ hE) fun out ho=>⟨_,rfl,?_⟩) (args_list_sort _)));obtain⟨e,he⟩:=sortedHeap_at (h:=s1.heap.push (seqObj "list" vs.toArray 0)) (out:=out) hoL;refine AF ⟨_,rfl,q out _ e ho (fun b o eb=>?_) he⟩;have hlt:=AI eb;rw[sortedHeap_old (BB hlt) (by rw[size_push'];exact DG hlt)];exact AD _ eb
open PySem.SeqAt PySem.MeetsSeq PySem.MeetsSeq3
open AutoSeq1 (wpAny_loadPart')
theorem oneLt_lists{l b:Addr}{items items2:Array Value}{n n2:Nat}{r:Bool}{Q:Bool->Shared->Prop}(hu:A.units<cLine)(hl:s.heap.get? l=some (seqObj "list" items n))(hb:s.heap.get? b=some (seqObj "list" items2 n2))
  (hm:Meets (Builtin.«list.__lt__» ⟨[.ref l,.ref b],[]⟩) (fun A R s=>s.heap.get? l=some (seqObj "list" items n)/\s.heap.get? b=some (seqObj "list" items2 n2)/\R (.ok (.ret (.bool r))) s)) (h:Q r s) :
  wpAny (model prog w) A (oneLt' true (.ref l) (.ref b)) Q E s:=by
 rw[oneLt'_eq];simp only[FB];refine AA (wpAny_cRoomFor hu ?_);refine AA (wpAny_callSpecialIfBound?_slot (T := "list") ⟨_,hl,rfl⟩ F.slot_list_lt (call_meets F.slot_list_lt ⟨_,hl,rfl⟩ F.entry_list_lt (F.args_list_lt_2 _ _) hm ⟨hl,hb,?_⟩));exact DM h
end
end TS
namespace L2
open PySem PySem.Spec PyProof.Rows
def LAt(h:Heap)(p:Addr)(us:List Value):Prop:=∃n,h.get? p=some (seqObj "list" us.toArray n)
theorem Ku:∀{a b:List Str},a.map V.str=b.map V.str->a=b
 | [],[],_=>rfl
 | [],_::_,h=>(by cases h)
 | _::_,[],h=>(by cases h)
 | x::r,y::t,h=>by
  rw[AX,AX]at h;injection h with h1 h2;injection h1 with h1;rw[h1,Ku h2]
def XO(x C:Addr)(d:Option Addr):HO:=.ext fun h=>∃o vs,h.get? x=some o/\o.cls = .ref C/\o.dict=d/\o.data = .fields vs
theorem XO.ok{P:Program}{w:World}{H:Hp}{h:Heap}{x C:Addr}{d:Option Addr}{o:Obj}{vs:Array Value}(e:h.get? x=some o)(hc:o.cls = .ref C)(hd:o.dict=d)(hv:o.data = .fields vs):ObjOk P w H h x (XO x C d) :=
 ⟨⟨o,vs,e,hc,hd,hv⟩,⟨o,e⟩,fun h1 h2 ⟨o,vs,e,r⟩ k=>⟨o,vs,k o e,r⟩⟩
def Fl(H:Hp)(n:Nat)(x:Addr)(h:Heap):Prop :=
 ∃o vs,h.get? x=some o/\o.data = .fields vs/\1<vs.size/\(vs[1]?=some .none\/∃T oT ts,vs[1]?=some (.ref T)/\T≠x/\n<=T/\H T=none/\h.get? T=some oT/\oT.data = .fields ts/\3<ts.size)
structure RX(P:Program)(w:World)(base:Heap)(fs:List Env)(env:Env)(outer:List Env)(H0:Hp)(s0:Shared)(x C:Addr)(d:Option Addr)(H:Hp)(s:Shared):Prop where
 os:s.os=s0.os
 bare:AllBare s.gens
 un:Un (frs fs) [] H0 H s0.heap s.heap
 hok:HOk P w H s.heap
 bsz:base.objs.size<=s0.heap.objs.size
 bs:∀b o,base.get? b=some o->s.heap.get? b=some o/\H b=none
 funs:s.heap.FunFrames base (env::outer)
 frf:∀b∈frs (env::outer),H b=none
 loc:∃L,env.frame=some L
 old:∀b o,s0.heap.get? b=some o->b∉frs fs->b∉frs (env::outer)
 sub:∀b∈frs fs,b∈frs (env::outer)
 hx:H x=some (XO x C d)
 nx:s0.heap.objs.size<=x
 fl:Fl H s0.heap.objs.size x s.heap
section
variable{P:Program}{w:World}{base:Heap}{env:Env}{fs outer:List Env}{H0 H:Hp}{s0 s:Shared}{x C:Addr}{d:Option Addr}{h':Heap}
theorem RX.chg(r:RX P w base fs env outer H0 s0 x C d H s){TT:List Addr}(tt:∀T∈TT,H T=none/\s0.heap.objs.size<=T/\∃o ts,s.heap.get? T=some o/\o.data = .fields ts)
  (keep:∀b o,b≠x->b∉TT->b∉frs (env::outer)->s.heap.get? b=some o->h'.get? b=some o)
  (slot:∀b o,b∈frs (env::outer)->s.heap.get? b=some o->∃sl,h'.get? b=some { o with slots:=sl })
  (ht:∀T∈TT,∃o,h'.get? T=some o) (hxo:∀o,s.heap.get? x=some o->∃vs,h'.get? x=some { o with data:=.fields vs }) (fl:Fl H s0.heap.objs.size x h') :
  RX P w base fs env outer H0 s0 x C d H { s with heap:=h' }:=by
 obtain⟨ox,vx,ex,hcx,hdx,hvx⟩:∃o vs,s.heap.get? x=some o/\o.cls = .ref C/\o.dict=d/\o.data = .fields vs:=(r.hok x _ r.hx).1;obtain⟨vx',ex'⟩:=hxo ox ex;have nfr:∀b,b∈frs (env::outer)->b≠x:=fun b hb z=>by
  have:=r.frf b hb;rw[z,r.hx]at this;cases this
 have nft:∀b,b∈frs (env::outer)->b∉TT:=fun b hb z=>by
  obtain⟨_,o,ho,hnf⟩:=r.funs.mem hb;obtain⟨_,_,o',ts,ho',hd'⟩:=tt b z;rw[ho]at ho';cases ho';exact hnf ts hd'
 have old:∀b o,s0.heap.get? b=some o->b≠x/\b∉TT:=fun b o e=>⟨fun z=>absurd (AI e) (by rw[z];exact Nat.not_lt.mpr r.nx),fun z=>absurd (AI e) (Nat.not_lt.mpr (tt b z).2.1)⟩;have there:∀b o,s.heap.get? b=some o->∃o',h'.get? b=some o':=fun b o e=>by
  by_cases c1:b=x
  .rw[c1];exact⟨_,ex'⟩
  by_cases c2:b∈TT
  .exact ht b c2
  by_cases c3:b∈frs (env::outer)
  .obtain⟨sl,q⟩:=slot b o c3 e;exact⟨_,q⟩
  .exact⟨_,keep b o c1 c2 c3 e⟩
 have trk:∀b u,H b=some u->b≠x->∀o,s.heap.get? b=some o->h'.get? b=some o:=fun b u e c o ho =>
  keep b o c (fun z=>by rw[(tt b z).1]at e;cases e) (fun z=>by rw[r.frf b z]at e;cases e) ho
 refine⟨r.os,r.bare,⟨fun b o e n hb hx=>?_,fun b o e n hb hx=>?_,r.un.free,fun b o e hx=>?_,r.un.tups,r.un.frzs,r.un.tbls⟩,fun b u e=>?_,r.bsz,fun b o e=>?_,?_,r.frf,r.loc,r.old,r.sub,r.hx,r.nx,fl⟩
 .exact keep b o (old b o e).1 (old b o e).2 (r.old b o e hb) (r.un.keep b o e n hb hx)
 .obtain⟨sl,q⟩:=r.un.slot b o e n hb hx;obtain⟨sl',q'⟩:=slot b _ (r.sub b hb) q;exact⟨sl',q'⟩
 .obtain⟨o',q⟩:=r.un.there b o e hx;exact there b o' q
 .by_cases c:b=x
  .subst c;rw[r.hx]at e;cases e;exact XO.ok ex' hcx hdx rfl
  .refine(r.hok b u e).stay (fun b' o hb q=>?_) (fun _ q=>q) fun _ _ q=>q;rcases hb with z | z
   .subst z;exact trk b' u e c o q
   .refine trk b' _ z (fun q'=>?_) o q;rw[q',r.hx]at z;cases z
 .refine⟨keep b o (fun z=>?_) (fun z=>?_) (fun z=>?_) (r.bs b o e).1,(r.bs b o e).2⟩
  .have:=(r.bs b o e).2;rw[z,r.hx]at this;cases this
  .exact absurd (AI e) (Nat.not_lt.mpr (Nat.le_trans r.bsz (tt b z).2.1))
  .have:=(r.funs.mem z).1;rw[e]at this;cases this
 .refine r.funs.of_keeps fun b o e hnf=>?_;by_cases c1:b=x
  .subst c1;rw[ex]at e;cases e;exact absurd hvx (hnf _)
  by_cases c2:b∈TT
  .obtain⟨_,_,o',ts,ho',hd'⟩:=tt b c2;rw[e]at ho';cases ho';exact absurd hd' (hnf _)
  by_cases c3:b∈frs (env::outer)
  .obtain⟨sl,q⟩:=slot b o c3 e;exact⟨_,q,rfl⟩
  .exact⟨o,keep b o c1 c2 c3 e,rfl⟩
def Tb(H:Hp)(n:Nat)(x:Addr)(h:Heap):Prop :=
 ∃o vs T oT ts,h.get? x=some o/\o.data = .fields vs/\vs[1]?=some (.ref T)/\T≠x/\n<=T/\H T=none/\h.get? T=some oT/\oT.data = .fields ts/\3<ts.size
theorem Tb.fl{H:Hp}{n:Nat}{x:Addr}{h:Heap}(t:Tb H n x h):Fl H n x h:=by
 obtain⟨o,vs,T,oT,ts,e,hd,h1,r⟩:=t;exact⟨o,vs,e,hd,(CP.mp h1).1,.inr ⟨T,oT,ts,h1,r⟩⟩
theorem zFx{o:Obj}{vs:Array Value}(f:Array Value->Array Value)(e:o.data = .fields vs):Obj.mapFields f o ={ o with data:=.fields (f vs) }:=by
 obtain⟨a,b,c,d⟩:=o;have e:c = .fields vs:=e;subst e;rfl
section
variable{M:Model}{A:Around}{E:Value->Shared->Prop}{Q:Unit->Shared->Prop}
theorem RX.entry(r:RX P w base fs env outer H0 s0 x C d H s)(hfr:A.frames=some (env::outer)){L:Addr}(hf:env.frame=some L){head:Value}{hadNext:Bool}
  (h:∀h',RX P w base fs env outer H0 s0 x C d H { s with heap:=h' }->Tb H s0.heap.objs.size x h'->Q () { s with heap:=h' }) :
  wpAny M A (do let a <-frameOf env;let pl <-entryPlaceOf L hadNext;let b <-EntryCells.newEntry head a .none (rawInt L) .none pl;setField (.ref x) 1 b) Q E s:=by
 obtain⟨o,vs,he,hd,hsz,_⟩:=id r.fl;have nfr:∀b,b∈frs (env::outer)->b≠x:=fun b hb z=>by
  have:=r.frf b hb;rw[z,r.hx]at this;cases this
 refine AA (wpAny_frameOf_fun hfr r.funs hf fun h₁ hs₁=>?_);refine AA (wpAny_entryPlaceOf fun pl hpl=>?_);unfold EntryCells.newEntry newFields;refine AA (DX ?_ (hpl.sizeOk5 _ _ _ _ _));have he₁:h₁.get? x=some o:=(hs₁.2.1 x fun hm=>nfr x hm rfl).trans he;have ht5:3 <([head,Value.ref L,.none,rawInt L,.none] ++(if pl.isEmpty then List.replicate 6 Value.none else pl)).toArray.size:=by
  simp only[BA,AZ,BM,FU];omega
 generalize ([head,Value.ref L,.none,rawInt L,.none] ++(if pl.isEmpty then List.replicate 6 Value.none else pl)).toArray=ts at ht5;have he₂:=AD (h:=h₁) { cls:=.type "traceback",dict:=none,data:=.fields ts } he₁;have hTx:h₁.objs.size≠x:=Nat.ne_of_gt (AI he₁);have hT₃:=(BR (h₁.push { cls:=.type "traceback",dict:=none,data:=.fields ts }) (Obj.mapFields (·.setIfInBounds 1 (Value.ref h₁.objs.size))) (Ne.symm hTx)).trans (AS h₁ rfl);have he₃:=CY (Obj.mapFields (·.setIfInBounds 1 (Value.ref h₁.objs.size))) he₂ (Obj.isFreed_of_fields (Obj.data_mapFields hd _));rw[zFx _ hd]at he₃;have tb:Tb H s0.heap.objs.size x ((h₁.push { cls:=.type "traceback",dict:=none,data:=.fields ts }).update x (Obj.mapFields (·.setIfInBounds 1 (Value.ref h₁.objs.size)))) :=
  ⟨_,_,h₁.objs.size,_,ts,he₃,rfl,by simp[hsz],hTx,Nat.le_trans r.nx (EV (AI he₁)),r.hok.fresh (by rw[hs₁.1];exact Nat.le_refl _),hT₃,rfl,ht5⟩
 refine FR he₂ hd hsz (h _ (r.chg (TT:=[]) (fun _ z=>nomatch z) (fun b o' hb _ hb' q=>?_) (fun b o' hb q=>?_) (fun _ z=>nomatch z) (fun o' q=>?_) tb.fl) tb)
 .rw[BR _ _ (Ne.symm hb)];exact AD _ ((hs₁.2.1 b hb').trans q)
 .obtain⟨sl,q'⟩:=hs₁.2.2 b o' q;refine⟨sl,?_⟩;rw[BR _ _ (Ne.symm (nfr b hb))];exact AD _ q'
 .rw[he]at q;cases q;exact⟨_,he₃⟩
theorem RX.setT(r:RX P w base fs env outer H0 s0 x C d H s){o oT:Obj}{vs ts:Array Value}{T:Addr}{v:Value}(he:s.heap.get? x=some o)(hd:o.data = .fields vs)(h1:vs[1]?=some (.ref T))(hT:T≠x)(hn:s0.heap.objs.size<=T)(hH:H T=none)(e:s.heap.get? T=some oT)(hdT:oT.data = .fields ts)(h3:3<ts.size)
  (h:∀h',RX P w base fs env outer H0 s0 x C d H { s with heap:=h' }->Tb H s0.heap.objs.size x h'->Q () { s with heap:=h' }):wpAny M A (setField (.ref T) 3 v) Q E s:=by
 have he':=(BR s.heap (Obj.mapFields (·.setIfInBounds 3 v)) hT).trans he;have hT':=CY (Obj.mapFields (·.setIfInBounds 3 v)) e (Obj.isFreed_of_fields (Obj.data_mapFields hdT _));have tb:Tb H s0.heap.objs.size x (s.heap.update T (Obj.mapFields (·.setIfInBounds 3 v))):=⟨o,vs,T,_,_,he',hd,h1,hT,hn,hH,hT',Obj.data_mapFields hdT _,by simpa using h3⟩;refine FR e hdT h3 (h _ (r.chg (TT:=[T]) (fun b z=>?_) (fun b o' hb hb' _ q=>?_) (fun b o' hb q=>?_) (fun b z=>?_) (fun o' q=>?_) tb.fl) tb)
 .rw[AE.mp z];exact⟨hH,hn,_,_,e,hdT⟩
 .rw[BR _ _ (fun z=>hb' (by rw[z];exact AE.mpr rfl))];exact q
 .refine⟨o'.slots,?_⟩;rw[BR _ _ (fun z=>by
   obtain⟨_,o2,ho,hnf⟩:=r.funs.mem hb;rw[<-z,e]at ho;cases ho;exact hnf _ hdT)]
  exact q
 .rw[AE.mp z];exact⟨_,hT'⟩
 .rw[he]at q;cases q;exact⟨vs,by rw[he',<-hd]⟩
theorem RX.note(r:RX P w base fs env outer H0 s0 x C d H s)(hfr:A.frames=some (env::outer))
  (h:∀h',RX P w base fs env outer H0 s0 x C d H { s with heap:=h' }->Tb H s0.heap.objs.size x h'->Q () { s with heap:=h' }):wpAny M A (noteFrame (.ref x) env) Q E s:=by
 obtain⟨L,hf⟩:=r.loc;obtain⟨o,vs,he,hd,hsz,c⟩:=id r.fl;unfold noteFrame;simp only[hf];rcases c with h1 | ⟨T,oT,ts,h1,hT,hn,hH,e,hdT,h3⟩
 .refine AA (IL he hd h1 ?_);rw[AJ (by decide)];exact r.entry hfr hf h
 .refine AA (IL he hd h1 ?_);rw[AL (show(Value.ref T != Value.none)=true from by simp)];refine AA (IL e hdT (Array.getElem?_eq_getElem h3) ?_);split
  .exact AF (h s.heap r ⟨o,vs,T,oT,ts,he,hd,h1,hT,hn,hH,e,hdT,h3⟩)
  .refine AA (r.setT he hd h1 hT hn hH e hdT h3 fun h' r' _=>?_);exact r'.entry hfr hf h
theorem RX.flight(r:RX P w base fs env outer H0 s0 x C d H s){fr:Option Addr}
  (h:∀h',RX P w base fs env outer H0 s0 x C d H { s with heap:=h' }->(Tb H s0.heap.objs.size x s.heap->Tb H s0.heap.objs.size x h')->Q () { s with heap:=h' }):wpAny M A (setFlight (.ref x) fr) Q E s:=by
 obtain⟨o,vs,he,hd,hsz,c⟩:=id r.fl;unfold setFlight;rcases c with h1 | ⟨T,oT,ts,h1,hT,hn,hH,e,hdT,h3⟩
 .refine AA (IL he hd h1 ?_);rw[AJ (by decide)];exact AF (h s.heap r id)
 .refine AA (IL he hd h1 ?_);rw[AL (show(Value.ref T != Value.none)=true from by simp)];exact r.setT he hd h1 hT hn hH e hdT h3 fun h' r' t'=>h h' r' fun _=>t'
theorem RX.leave(r:RX P w base fs env outer H0 s0 x C d H s)(hfr:A.frames=some (env::outer))
  (h:∀h',RX P w base fs env outer H0 s0 x C d H { s with heap:=h' }->Tb H s0.heap.objs.size x h'->Q () { s with heap:=h' }):wpAny M A (leaving env (.ref x)) Q E s:=by
 unfold leaving;exact AA (r.note hfr fun h' r' t'=>r'.flight fun h2 r2 t2=>h h2 r2 (t2 t'))
end
end
def CXe(P:Program)(w:World):CXT:=fun outer H s E e s' =>
 ∃x C d H',e = .ref x/\s'.os=s.os/\AllBare s'.gens/\Un (frs outer) [] H H' s.heap s'.heap/\HOk P w H' s'.heap/\H' x=some (XO x C d)/\s.heap.objs.size<=x/\Tb H' s.heap.objs.size x s'.heap/\E (.ref C) d H'
def XE(X:Cx)(E:XK):Value->Shared->Prop:=fun e s'=>∃x C d H',e = .ref x/\RX X.prog X.w X.base X.outer X.env X.outer X.H₀ X.s₀ x C d H' s'/\E (.ref C) d H'
section
variable{prog:Program}{w:World}{A:Around}{E:Value->Shared->Prop}{h:Heap}{g:Array GenState}{d:Drawn}{t:Nat}{os:OsState}
variable{nm q:Str}{C N:Addr}{bs bm bmB:List Value}{hdct:Bool}{sn:List Str}{sub:List Value}{ab:Bool}{col:Option Bool}{dd:Option Addr}{k0 k1 k2 k3 k5:Option Value}{B newId initId:String}
abbrev exObj(C t:Addr):Obj:={ cls:=.ref C,data:=.fields #[.ref t,.none,.none,.none,.bool false,.none] }
abbrev exHeap(h:Heap)(C:Addr)(rest:List Value):Heap:=(h.push { cls:=.type "tuple",data:=.seq rest.toArray }).push (exObj C h.objs.size)
end
def XN(x C:Addr)(d:Option Addr):HO:=.ext fun h=>∃vs sl,h.get? x=some ⟨.ref C,d,.fields vs,sl⟩/\vs[1]?=some .none
theorem XN.ok{P:Program}{w:World}{H:Hp}{h:Heap}{x C:Addr}{d:Option Addr}{vs:Array Value}{sl:Array (Option Value)}(e:h.get? x=some ⟨.ref C,d,.fields vs,sl⟩)(h1:vs[1]?=some .none):ObjOk P w H h x (XN x C d) :=
 ⟨⟨vs,sl,e,h1⟩,⟨_,e⟩,fun h1 h2 ⟨vs,sl,e,r⟩ k=>⟨vs,sl,k _ e,r⟩⟩
section
variable{M:Model}{A:Around}{E:Value->Shared->Prop}{env:Env}
variable{nm q:Str}{C N:Addr}{bs bm:List Value}{hdct:Bool}{sn:List Str}{sub:List Value}{ab:Bool}{col:Option Bool}{dd:Option Addr}{k0 k1 k2 k3 k5:Option Value}{newId:String}
theorem Qu{s:Shared}{x:Sem Value}{Q:Flow->Shared->Prop}(hbase:bm.contains (.type "BaseException")=true)(hh:A.handled=none)
  (h:wpAny M A x (fun v s₁=>∃e dct vs sl,v = .ref e/\s₁.heap.get? C=some (excClassObj nm q C N bs bm hdct sn sub ab col dd k0 k1 k2 k3 k5 newId) /\
   s₁.heap.get? e=some ⟨.ref C,dct,.fields vs,sl⟩/\vs[1]?=some .none/\E (.ref e) s₁) E s) :
  wpAny M A (raiseStmt env (some x) none) Q E s:=by
 have hcB:(Value.ref C::bm).contains (.type "BaseException")=true:=by rw[List.contains_cons,hbase,HE]
 unfold raiseStmt;refine AA (BS h (fun v s₁ h₁=>?_) fun _ _ x=>x);obtain⟨e,dct,vs,sl,rfl,hC,he,h1,hE⟩:=h₁;obtain⟨hp,g,d,tk,os⟩:=s₁
 repeat (first | with_reducible refine EL he ?_ | with_reducible refine EL hC ?_ | (with_reducible refine HI hC ?_;rw[hcB]) | with_reducible refine IL he rfl h1 ?_ | wp_step)
 exact wpAny_raiseNew_none hh hE
end
structure XC(K:PySem.W.Frag)(C:Addr)(bm:List Value):Prop where
 obj:∃nm q N bs hdct sn sub ab col dd k0 k1 k2 k3 k5,K.lookup C=some (excClassObj nm q C N bs bm hdct sn sub ab col dd k0 k1 k2 k3 k5 "ValueError.__new__")
 tail:PySem.W.tailIn K [.type "ValueError",.type "Exception",.type "BaseException",.type "object"] bm=true
 kp:PySem.W.keepIn K (.ref C)=true
 sa:PySem.W.findIn K (.ref C) "__setattr__" = some (some (.builtin "object.__setattr__"))
 hd:PySem.W.hasDictIn K C=true
theorem XC.base{K:PySem.W.Frag}{C:Addr}{bm:List Value}(c:XC K C bm){h:Heap}(X:K.In h):bm.contains (.type "BaseException")=true:=(PySem.W.tail_of_in X c.tail).hasType rfl
structure BX(X:Cx)(E:XK):Prop where
 xe:X.xe=XE X E
 st:X.stack=X.env::X.outer
 fr:X.env.frame=some X.env.locals
 ex:X.ex = []
 calm:X.calm=true
section
variable{X:Cx}{pins:List (Addr×Obj)}{σ:St}{H:Hp}{s:Shared}{x C:Addr}{E:XK}
theorem Inv.rx{d:Option Addr}(I:Inv X pins σ H s)(b:BX X E)(hx:H x=some (XO x C d))(nx:X.s₀.heap.objs.size<=x)(fl:Fl H X.s₀.heap.objs.size x s.heap):RX X.prog X.w X.base X.outer X.env X.outer X.H₀ X.s₀ x C d H s:=by
 refine⟨I.os,I.bare,by have:=I.base;rw[b.ex]at this;exact this,I.hok,I.ok.bsz,I.bs,by have:=I.stack;rw[b.st]at this;exact this,by have:=I.stkFree;rw[b.st]at this;exact this,⟨_,b.fr⟩,fun c o e hc z=>?_,fun c hc=>?_,hx,nx,fl⟩
 .unfold frs at z hc;rw[DH,b.fr]at z;rcases BD.mp z with q | q
  .exact absurd (AI e) (by rw[q];exact Nat.not_lt.mpr I.ok.above)
  .exact hc q
 .unfold frs at hc⊢;rw[DH,b.fr];exact AO _ hc
theorem Tb.mono{n m:Nat}{h:Heap}(t:Tb H n x h)(k:m<=n):Tb H m x h:=by
 obtain⟨o,vs,T,oT,ts,e,hd,h1,h2,h3,r⟩:=t;exact⟨o,vs,T,oT,ts,e,hd,h1,h2,Nat.le_trans k h3,r⟩
theorem BX.passes(b:BX X E):i6 (CXe X.prog X.w) X E:=by
 rintro pins σ H s e s' I ⟨x,C,d,H',rfl,os,bare,un,hok,hx,nx,tb,q⟩;have I':=I.call' os un hok bare (fun b z=>absurd z (by simp));rw[b.xe];exact⟨x,C,d,H',rfl,I'.rx b hx (Nat.le_trans I.sz nx) (tb.mono I.sz).fl,q⟩
end
section
variable{X:Cx}{C f:Addr}{fd:FuncData}{ps:List Str}{sp:Sp}{E:XK}{bm:List Value}{k:Nat}{n:Str}{p pos cpos:Pos}{e:Expr}{es:List Expr}{t:TA}
theorem BX.made{pins:List (Addr×Obj)}{σ:St}{H:Hp}{s:Shared}{x:Addr}{d:Option Addr}(b:BX X E)(I:Inv X pins σ H s)(hx:H x=some (XN x C d))(nx:X.s₀.heap.objs.size<=x)(q:E (.ref C) d (upd H x (XO x C d))) :
  ∃vs sl,s.heap.get? x=some ⟨.ref C,d,.fields vs,sl⟩/\vs[1]?=some .none/\X.xe (.ref x) s:=by
 obtain⟨vs,sl,ex,h1⟩:∃vs sl,s.heap.get? x=some ⟨.ref C,d,.fields vs,sl⟩/\vs[1]?=some .none:=(I.hok x _ hx).1;refine⟨vs,sl,ex,h1,?_⟩;have I4:Inv X pins σ (upd H x (XO x C d)) s:=I.write (x:=x) (e:=x) (h':=s.heap) (t':=s.toks) (by rw[hx];exact True.intro) (.inl rfl) (fun _ _ _ z=>z) ⟨_,ex⟩ (XO.ok ex rfl rfl rfl);rw[b.xe];exact⟨x,C,d,_,rfl,I4.rx b upd_same nx ⟨_,vs,ex,rfl,(CP.mp h1).1,.inl h1⟩,q⟩
end
section
variable{P:Program}{w:World}{K:PySem.W.Frag}{mg:Str->Option Value}{base:Heap}
abbrev cxE(P:Program)(w:World)(K:PySem.W.Frag)(mg:Str->Option Value)(base:Heap)(N:List Str)(qual:Str)(scope:Scope)(f:Addr)(cd:Value)(A:Around)(outer:List Env)(s:Shared)(H:Hp)(E:XK):Cx :=
 (Wr (CXe P w) P w K mg base N qual scope f cd A outer s H E).wish (XE (Wr (CXe P w) P w K mg base N qual scope f cd A outer s H E) E)
theorem cxE.bx{N:List Str}{qual:Str}{scope:Scope}{f:Addr}{cd:Value}{A:Around}{outer:List Env}{s:Shared}{H:Hp}{E:XK}:BX (cxE P w K mg base N qual scope f cd A outer s H E) E:=⟨rfl,rfl,rfl,rfl,rfl⟩
theorem PSs.wishI{X:Cx}{E:Value->Shared->Prop}{st:List Stmt}{t:TS}(k:X.A.frames=some X.stack->∀e s,E e s->X.xe e s)(h:PSs (X.wish E) st t):PSs X st t:=fun pins s σ H D I hw =>
 BS (h pins s σ H D (I.wish _) hw) (fun _ _ q=>q.unwish) (k I.ok.frames)
theorem Fun.okE{x qual:Str}{st:Stmt}{f:Addr}{fd:FuncData}{N ps:List Str}{k:Nat}{sp:Sp}(F:Fun K x qual st f fd)(S:FnScope N ps (B4 st))(len:∀vs H Q E,sp vs H Q E->vs.length=ps.length)
  (hbody:∀(cdv:Value) (A:Around) (outer:List Env) (s:Shared) (H:Hp) (vs:List V) (Q:VK) (E:XK),Room k (A.deeper (envOfC qual (B4 st) s.heap.objs.size f cdv))->sp vs H Q E ->
   ∃t,PSs (cxE P w K mg base N qual (B4 st) f cdv A outer s H E) (K3 st) t/\t { nx:=fun _ H'=>Q .non H',rt:=Q } (Ej N vs) H):FnOk P w K mg base (CXe P w) (k+1) f fd ps sp:=by
 obtain⟨oc,od,kV,doc,pm,an,cdv,ct,osl,rfl,lk,hcd⟩:=F.ex;refine zCb lk hcd S len fun A outer s H vs Q E hr hsp=>?_;obtain⟨t,h,q⟩:=hbody cdv A outer s H vs Q E hr hsp;refine⟨t,h.wishI fun hf e s' z=>?_,q⟩;obtain⟨x,C,d,H',rfl,r,q⟩:=z;exact RX.leave r hf fun h' r' t'=>⟨x,C,d,H',rfl,r'.os,r'.bare,r'.un,r'.hok,r'.hx,r'.nx,t',q⟩
end
def PEx(X:Cx)(e:Expr)(t:XK->TE):Prop:=∀(pins:List (Addr×Obj)) (s:Shared) (σ:St) (H:Hp) (Q:VK) (E:XK),Inv X pins σ H s->t E σ H Q ->
 wpAny (model X.prog X.w) X.A (eval e X.env) (EP X pins σ Q) (fun ev s'=>∃s1 H1,Inv X pins σ H1 s1/\CXe X.prog X.w X.stack H1 s1 E ev s') s
section
variable{X:Cx}{k:Nat}{f C:Addr}{fd:FuncData}{ps:List Str}{sp:Sp}{x m:Str}{p pos apos:Pos}{e o:Expr}{es:List Expr}{ta:TE}{t:TA}
theorem i9(nox:∀e s,¬X.xe e s)(F:FnOk X.prog X.w X.K X.mg X.base (CXe X.prog X.w) k f fd ps sp)(hr:Room k X.A)(hg:Gl X x)(hm:X.mg x=some (.ref f))(hk:PySem.W.keepIn X.K (.ref f)=true)(hb:Binds X.K fd ps [])
  (ha:PA X (e::es) t) (hdb:(x ==("__debug__":Str))=false:=by decide) (he:starEach (e::es) X.env =(false,eval e X.env)::starEach es X.env:=by rfl) (hpl:(backTo pos (starEach es X.env)).any (·.1)=false:=by rfl) :
  PEx X (.Call (.Name x p) (e::es) [] pos) (fun E=>Sa sp [] E t):=by
 intro pins s σ H Q E I h;refine EE (l8 I hg hm ?_ hdb);refine PySem.W.callWith_K (h₀:=X.base) I.ok.mod.kin hk (BS (ha pos pins s σ H _ I h) (fun us s1 ⟨vs,H1,I1,r,q⟩=>⟨I1.kIn,?_⟩) fun _ _ z=>(nox _ _ z).elim) he hpl;have q:sp vs H1 Q E:=by
  have:sp (vs ++ []) H1 Q E:=q
  rwa [CJ]at this
 have hl:us.length=ps.length:=by rw[<-r.length];exact F.len _ _ _ _ q
 have bd:=hb s1 us I1.kIn (by rw[CJ];exact hl);rw[CJ]at bd;refine wpAny_call (codeAny_mono (F.run X.A X.stack s1 H1 ⟨us,[]⟩ us vs Q E hr I1.env0 bd r q) fun r s' hq=>?_);cases r with
 | error e=>exact⟨_,_,I1,hq⟩
 | ok fl =>
  cases fl with
  | ret u=>exact I1.after hq
  | next=>exact False.elim hq
  | brk=>exact False.elim hq
  | cont=>exact False.elim hq
end
section
variable{M:Model}{A:Around}{E:Value->Shared->Prop}{h:Heap}{g:Array GenState}{dn:Drawn}{tk:Nat}{os:OsState}
variable{nm q nm' q':Str}{C N S N':Addr}{bs bm bs' bm':List Value}{hdct hdct':Bool}{sn sn':List Str}{sub sub':List Value}{ab ab':Bool}{col col':Option Bool}{dd dd':Option Addr}{k0 k1 k2 k3 k5 j0 j1 j2 j3 j5:Option Value}{newId newId':String}
theorem zGh{e:Addr}{oe:Obj}{Q:Bool->Shared->Prop}(hC:h.get? C=some (excClassObj nm q C N bs bm hdct sn sub ab col dd k0 k1 k2 k3 k5 newId))(hS:h.get? S=some (excClassObj nm' q' S N' bs' bm' hdct' sn' sub' ab' col' dd' j0 j1 j2 j3 j5 newId'))(he:h.get? e=some oe)(hcls:oe.cls = .ref C)
  (hb:bm'.contains (.type "BaseException")=true) (hc:(Value.ref C::bm).contains (.ref S)=true) (hq:Q true ⟨h,g,dn,tk,os⟩):wpAny M A (excMatches (.ref e) (.ref S)) Q E ⟨h,g,dn,tk,os⟩:=by
 have hcB:(Value.ref S::bm').contains (.type "BaseException")=true:=by rw[List.contains_cons,hb,HE]
 have f:=tc_notTuple;unfold excMatches
 repeat (first | (with_reducible refine EL he ?_;rw[hcls]) | with_reducible refine EL hS ?_ | with_reducible refine EL hC ?_ | (with_reducible refine HI hS ?_;rw[hcB]) | (with_reducible refine HI hC ?_;rw[hc]) | wp_step)
 exact hq
end
abbrev Xm(X:Cx)(ev:Value):Cx:={ X with A:=X.A.mark (some ev),calm:=false }
section
variable{X:Cx}{pins:List (Addr×Obj)}{σ:St}{H:Hp}{s:Shared}{ev:Value}
theorem Inv.mark(I:Inv X pins σ H s)(ev:Value):Inv (Xm X ev) pins σ H s :=
 ⟨⟨I.ok.mod,I.ok.kind,I.ok.glob,I.ok.blt,I.ok.above,I.ok.inj,I.ok.has,I.ok.cab,fun z=>absurd z (by simp),I.ok.frames,I.ok.stk,I.ok.exf,I.ok.bs,I.ok.bsz,I.ok.noex,I.ok.exfs,I.ok.funs,I.ok.frf⟩,I.os,I.bare,I.base,I.loc,I.cell,I.free,I.freeC,I.pin,I.hok,I.len⟩
theorem Inv.unmark(ok:X.Ok)(I:Inv (Xm X ev) pins σ H s):Inv X pins σ H s:=⟨ok,I.os,I.bare,I.base,I.loc,I.cell,I.free,I.freeC,I.pin,I.hok,I.len⟩
end
structure XG(K:PySem.W.Frag)(C:Addr):Prop where
 ga:PySem.W.findIn K (.ref C) "__getattribute__" = some (some (.builtin "BaseException.__getattribute__"))
 gn:PySem.W.findIn K (.ref C) "__getattr__" = some none
 mb:PySem.W.mroIn K C (.type "BaseException")=some true
 hd:PySem.W.hasDictIn K C=true
theorem xc_mk{K:PySem.W.Frag}{nm q:Str}{C N:Addr}{bs bm:List Value}{hdct:Bool}{sn:List Str}{sub:List Value}{ab:Bool}{col:Option Bool}{dd:Option Addr}{k0 k1 k2 k3 k5:Option Value}
  (l:K.lookup C=some (excClassObj nm q C N bs bm hdct sn sub ab col dd k0 k1 k2 k3 k5 "ValueError.__new__")) (t:PySem.W.tailIn K [.type "ValueError",.type "Exception",.type "BaseException",.type "object"] bm=true) (k:PySem.W.keepIn K (.ref C)=true)
  (s:PySem.W.findIn K (.ref C) "__setattr__" = some (some (.builtin "object.__setattr__"))) (d:PySem.W.hasDictIn K C=true):XC K C bm:=⟨⟨_,_,_,_,_,_,_,_,_,_,_,_,_,_,_,l⟩,t,k,s,d⟩
section
variable{X:Cx}{E:XK}
theorem U4{x:Str}{st:Stmt}{ps:List Str}{k:Nat}{sp:Sp}{e:Expr}{es:List Expr}{t:TA}{p pos:Pos}(b:BX X E)(D:Fn X.K X.mg x st ps)(G:FnOk X.prog X.w X.K X.mg X.base (CXe X.prog X.w) k D.f D.fd ps sp)(hr:Room k X.A)(ha:PA X (e::es) t)
  (hg:Gl X x:=by rfl) (hdb:(x ==("__debug__":Str))=false:=by decide) (hs:starEach (e::es) X.env =(false,eval e X.env)::starEach es X.env:=by rfl) (hpl:(backTo pos (starEach es X.env)).any (·.1)=false:=by rfl) :
  PE X (.Call (.Name x p) (e::es) [] pos) (Sa sp [] E t):=Qt G hr hg D.m D.F.kp D.b .nil b.passes ha hdb hs hpl
end
section
variable{prog:Program}{w:World}{A:Around}{E:Value->Shared->Prop}{h:Heap}{g:Array GenState}{d:Drawn}{t:Nat}{os:OsState}
variable{nm q:Str}{C N:Addr}{bs bm bmB:List Value}{hdct:Bool}{sn:List Str}{sub:List Value}{ab:Bool}{col:Option Bool}{dd:Option Addr}{k0 k1 k2 k3 k5:Option Value}{B newId initId:String}
theorem Oo{K:PySem.W.Frag}{rest:List Value}{Q:Fin->Shared->Prop}(F:ExcBaseFacts B newId initId bmB)(T:OwnTail h bmB bm)(X:K.In h)
  (hC:h.get? C=some (excClassObj nm q C N bs bm hdct sn sub ab col dd k0 k1 k2 k3 k5 newId)) (hi:PySem.W.findIn K (.ref C) "__init__" = some (some (.builtin initId)))
  (hrest:rest.length<=sizeLine) (hq:∀h',(∀b o,h.get? b=some o->h'.get? b=some o)->(∃tt,h'.get? (h.objs.size+1)=some { cls:=.ref C,data:=.fields #[.ref tt,.none,.none,.none,.bool false,.none] })->Q (.done (.ret (.ref (h.objs.size+1)))) ⟨h',g,d,t,os⟩) :
  wpAny (model prog w) A (Builtin.«type.__call__» ⟨.ref C::rest,[]⟩) Q E ⟨h,g,d,t,os⟩:=by
 have kp:∀b o,h.get? b=some o->(exHeap h C rest).get? b=some o:=fun b o e=>AD _ (AD _ e);have hC₁:(exHeap h C rest).get? C=some (excClassObj nm q C N bs bm hdct sn sub ab col dd k0 k1 k2 k3 k5 newId):=kp _ _ hC;have hget:(exHeap h C rest).get? (h.objs.size+1)=some (exObj C h.objs.size):=by unfold exHeap;heap_get
 have hcC:(Value.ref C::bm).contains (.ref C)=true:=by simp
 have X₁:K.In (exHeap h C rest):=X.keeps kp;have T₁:=T.keeps kp
 repeat (first | with_reducible refine EL hC ?_ | with_reducible refine wpAny_madeBy_exc hC ?_ | wp_step)
 refine codeAny_call_builtin_code (Code.quiet_builtin _ F.quiet) (wpAny_check_new_subT F T hC (codeAny_exc_new_subT F T hC ?_ hrest));show wpAny _ _ _ _ _ ⟨exHeap h C rest,g,d,t,os⟩;have hM:∀h2,(∀b o,(exHeap h C rest).get? b=some o->b≠h.objs.size+1->h2.get? b=some o)->(∃tt,h2.get? (h.objs.size+1)=some { cls:=.ref C,data:=.fields #[.ref tt,.none,.none,.none,.bool false,.none] }) ->
   Q (.done (.ret (.ref (h.objs.size+1)))) ⟨h2,g,d,t,os⟩:=fun h2 k th=>hq h2 (fun b o e=>k b o (kp b o e) (fun z=>by rw[z]at e;exact absurd (AI e) (Nat.not_lt.mpr (DC _)))) th
 have hsz:(exHeap h C rest).objs.size=h.objs.size+2:=by unfold exHeap;simp only[EC]
 generalize exHeap h C rest=h1 at hC₁ hget X₁ T₁ hM hsz⊢;unfold isInstance
 repeat (first | with_reducible refine EL hget ?_ | (with_reducible refine HI hC₁ ?_;rw[hcC]) | wp_step)
 show wpAny _ _ (typeLookup (.ref C) _) _ _ _;refine PySem.W.Looks.here (s:=⟨h1,g,d,t,os⟩) (PySem.W.looks_findIn X₁ hi) ?_;refine CU (AA (GK (F.init.bind _) ?_));refine AA (wpAny_call (codeAny_call_builtin F.init.plain F.initEntry (wpAny_check_init_subT F T₁ hC₁ hget rfl ?_)));wp_walk;refine hM _ (fun b o e hb=>?_) ⟨h.objs.size+2,?_⟩
 .rw[BR _ _ (Ne.symm hb)];exact AD _ e
 .rw[CY _ (AD _ hget) rfl,hsz];rfl
theorem Nw{K:PySem.W.Frag}{rest:List Value}{Q:Value->Shared->Prop}(F:ExcBaseFacts B newId initId bmB)(T:OwnTail h bmB bm)(X:K.In h)
  (hC:h.get? C=some (excClassObj nm q C N bs bm hdct sn sub ab col dd k0 k1 k2 k3 k5 newId)) (hi:PySem.W.findIn K (.ref C) "__init__" = some (some (.builtin initId)))
  (hrest:rest.length<=sizeLine) (hq:∀h',(∀b o,h.get? b=some o->h'.get? b=some o)->(∃tt,h'.get? (h.objs.size+1)=some { cls:=.ref C,data:=.fields #[.ref tt,.none,.none,.none,.bool false,.none] })->Q (.ref (h.objs.size+1)) ⟨h',g,d,t,os⟩) :
  wpAny (model prog w) A (call (.ref C) rest) Q E ⟨h,g,d,t,os⟩:=by
 have f1:=tc_lookup;have f2:=tc_bind (.ref C);have hT:(⟨h,g,d,t,os⟩:Shared).TypeIs (.ref C) "type":=⟨_,hC,rfl⟩;refine wpAny_call (codeAny_of_tree ?_);show wpAny _ _ (callAny (.ref C) _) _ _ _
 repeat (any_goals (first | assumption | with_reducible refine EL hC ?_ | wp_step))
 refine⟨rfl,?_⟩;exact codeAny_call_builtin_at (Code.quiet_builtin _ (by decide +kernel)) entry_typeCall (wpAny_check_type_call_sub hC (Oo F T X hC hi hrest hq))
end
def Wf(K:PySem.W.Frag)(C:Addr):Prop:=PySem.W.findIn K (.ref C) "__init__" = some (some (.builtin "ValueError.__init__"))
section
variable{X:Cx}{pins:List (Addr×Obj)}{σ:St}{H:Hp}{s:Shared}{C:Addr}{bm:List Value}{E:Value->Shared->Prop}
theorem Uj{us:List Value}{Q:Value->Shared->Prop}(c:XC X.K C bm)(ni:Wf X.K C)(I:Inv X pins σ H s)(hus:us.length<=sizeLine)(h:∀x s',H x=none->X.s₀.heap.objs.size<=x->Inv X pins σ (upd H x (XN x C none)) s'->Q (.ref x) s') :
  wpAny (model X.prog X.w) X.A (call (.ref C) us) Q E s:=by
 obtain⟨nm,q,N,bs,hdct,sn,sub,ab,col,dd,k0,k1,k2,k3,k5,hobj⟩:=c.obj;have sz:=I.sz;obtain⟨hp,g,dn,tk,os⟩:=s;refine Nw PySem.F.excBase_ValueError (PySem.W.tail_of_in I.kIn c.tail) I.kIn (I.kIn _ _ hobj) ni hus fun h' kp ⟨tt,he⟩=>?_;exact h _ _ (I.hok.fresh (DC _)) (Nat.le_trans sz (DC _)) (I.laid (t':=tk) kp (DC _) (XN.ok he rfl))
end
def Yx(C:Addr)(E:XK)(t:TA):TS:=fun _ σ H=>t σ H fun vs H1=>vs.length<=sizeLine/\∀x,H1 x=none->E (.ref C) none (upd H1 x (XO x C none))
section
variable{X:Cx}{C f:Addr}{fd:FuncData}{ps:List Str}{sp:Sp}{E:XK}{bm:List Value}{k:Nat}{n:Str}{p pos cpos:Pos}{e:Expr}{es:List Expr}{t:TA}
theorem Ew(b:BX X E)(c:XC X.K C bm)(ni:Wf X.K C)(hg:Gl X n)(hm:X.mg n=some (.ref C))(ha:PA X (e::es) t)
  (hdb:(n ==("__debug__":Str))=false:=by decide) (he:starEach (e::es) X.env =(false,eval e X.env)::starEach es X.env:=by rfl) (hpl:(backTo cpos (starEach es X.env)).any (·.1)=false:=by rfl) :
  PS X (.Raise (some (.Call (.Name n p) (e::es) [] cpos)) none pos) (Yx C E t):=by
 intro pins s σ H D I h;obtain⟨nm,q,N,bs,hdct,sn,sub,ab,col,dd,k0,k1,k2,k3,k5,hobj⟩:=c.obj;have hh:X.A.handled=none:=I.ok.hd b.calm;rw[arm_exec_Raise];refine AA (EH (Qu (C:=C) (nm:=nm) (q:=q) (N:=N) (bs:=bs) (bm:=bm) (hdct:=hdct) (sn:=sn) (sub:=sub) (ab:=ab) (col:=col) (dd:=dd) (k0:=k0) (k1:=k1) (k2:=k2) (k3:=k3) (k5:=k5) (newId := "ValueError.__new__") (c.base I.kIn) hh (AA (BS ?_ (fun v s₃ h₃=>AA (EH (AF h₃))) fun _ _ x=>x))));refine EE (l8 I hg hm ?_ hdb);refine PySem.W.callWith_K (h₀:=X.base) I.ok.mod.kin c.kp (thn (ha cpos pins s σ H _ I h) fun us s1 ⟨vs,H1,I1,r,hl,q⟩=>⟨I1.kIn,?_⟩) he hpl;refine Uj (us:=us) c ni I1 (by rw[<-r.length];exact hl) fun x s2 hx nx I2=>?_;obtain⟨vs',sl,ex,h1,z⟩:=b.made (d:=none) I2 upd_same nx (by rw[Zk];exact q x hx);exact⟨_,none,vs',sl,rfl,I2.kIn _ _ hobj,ex,h1,z⟩
end
def PSx(X:Cx)(st:List Stmt)(t:XK->TS):Prop:=∀(pins:List (Addr×Obj)) (s:Shared) (σ:St) (H:Hp) (D:Ends) (E:XK),Inv X pins σ H s->t E D σ H ->
 wpAny (model X.prog X.w) X.A (execs st X.env) (SP X pins D) (fun ev s'=>∃s1 H1,Inv X pins σ H1 s1/\CXe X.prog X.w X.stack H1 s1 E ev s') s
section
variable{X:Cx}{c e:Expr}{pos p1:Pos}{a b:List Stmt}
theorem Ln{tc:TT}{t u:XK->TS}(nox:∀e s,¬X.xe e s)(hc:PT X c tc)(ha:PSx X a t)(hb:PSx X b u):PSx X [.If c a b pos] (fun E=>zFk tc (t E) (u E)):=by
 intro pins s σ H D E I h;refine ID (wpAny_If (BS (hc pins s σ H _ I h) (fun d s1 ⟨H1,I1,q1⟩=>?_) fun _ _ z=>(nox _ _ z).elim));have fin:∀fl s',SP X pins D fl s'->_:=fun fl s' z=>z;cases d with
 | true =>
  refine BS (ha pins s1 σ H1 D E I1 q1) (fun fl s2 z=>?_) fun ev s' z=>?_
  .cases fl with
   | next=>exact FH z
   | brk=>exact z
   | cont=>exact z
   | ret u=>exact z
  .exact z
 | false =>
  refine BS (hb pins s1 σ H1 D E I1 q1) (fun fl s2 z=>?_) fun ev s' z=>?_
  .cases fl with
   | next=>exact FH z
   | brk=>exact z
   | cont=>exact z
   | ret u=>exact z
  .exact z
end
def own(scope:Scope)(cl:List (Str×Addr))(n:Nat):List (Str×Addr):=cellsFrom (n+1) scope.names cl
theorem M0:∀(names:List (Str×NameKind)) (n:Nat) (acc:List (Str×Addr)),cellsFrom n names acc=cellsFrom n names []++acc
 | [],_,_=>rfl
 | (y,k)::r,n,acc=>by
  unfold cellsFrom;split
  .rw[M0 r (n+1) ((y,n)::acc),M0 r (n+1) [(y,n)],BE];rfl
  .exact M0 r n acc
theorem Cd{α:Type}(x:Str):∀(l m:List (Str×α)),(l++m).lookup x =(l.lookup x).or (m.lookup x)
 | [],m=>rfl
 | (y,c)::r,m=>by
  rw[List.cons_append,IE,IE];cases x == y with
  | true=>rfl
  | false=>exact Cd x r m
theorem Y3{scope:Scope}{cl:List (Str×Addr)}{n:Nat}{x:Str}{c:Addr}(h:(own scope cl n).lookup x=some c):(cellsFrom (n+1) scope.names []).lookup x=some c\/((cellsFrom (n+1) scope.names []).lookup x=none/\cl.lookup x=some c):=by
 unfold own at h;rw[M0,Cd]at h;cases e:(cellsFrom (n+1) scope.names []).lookup x with
 | some d=>rw[e]at h;exact .inl h
 | none=>rw[e]at h;exact .inr ⟨rfl,h⟩
def cxD(X:Cx)(scope:Scope)(cl:List (Str×Addr))(N':List Str)(pins:List (Addr×Obj))(ex:List Addr)(s3:Shared)(H3:Hp):Cx where
 prog:=X.prog
 w:=X.w
 K:=X.K
 mg:=X.mg
 base:=X.base
 A:=X.A
 N:=N'
 s₀:=s3
 H₀:=H3
 env:=compEnvC scope (own scope cl s3.heap.objs.size) s3.heap.objs.size X.env
 outer:=X.stack
 stack:=X.stack
 ex:=ex
 fn:=fun x=>scope.names.lookup x == some .cell
 calm:=X.calm
 pn:=X.pn++pins
 xe:=fun _ _=>False
structure DScope(X:Cx)(scope:Scope)(cl:List (Str×Addr))(N':List Str)(cap:List (Option Nat)):Prop where
 kind:scope.kind = .function
 loc:∀y∈scope.names,y.2 = .local->scope.names.lookup y.1=some .local
 clos:closureFor scope X.env=pure cl
 cin:ClIn X cl
 has:∀n,((relabel scope X.env).names.all fun y=>!(y.2 == .cell||y.2 == .free)||((own scope cl n).lookup y.1).isSome)=true
 caps:∀n,Caps X scope (own scope cl n) N' cap
section
variable{X:Cx}{scope:Scope}{cl:List (Str×Addr)}{N':List Str}{cap:List (Option Nat)}{pins:List (Addr×Obj)}{σ:St}{H3:Hp}{s3:Shared}{ex:List Addr}
theorem Inv.blockD(I:Inv X pins σ H3 s3)(S:DScope X scope cl N' cap)(hc:X.calm=true)(hex:∀b∈ex,Be X pins H3 b/\∃o,s3.heap.get? b=some o){h1:Heap}{tk:Nat}
  (hns:h1.Ns s3.heap.objs.size (fun _=>none)) (hk:∀b o,s3.heap.get? b=some o->h1.get? b=some o) (ok:CellsOk h1 (s3.heap.objs.size+1) (cellsFrom (s3.heap.objs.size+1) scope.names [])) :
  Inv (cxD X scope cl N' pins ex s3 H3) [] (Kv cap σ) H3 { s3 with heap:=h1,toks:=tk }:=by
 have lt3:∀b o,s3.heap.get? b=some o->b≠s3.heap.objs.size:=fun b o e=>BB (AI e);have old:∀x c,cl.lookup x=some c->∃v,s3.heap.IsCell c v:=fun x c e=>I.cell x c (S.cin.get e);have new:∀{x c},(cellsFrom (s3.heap.objs.size+1) scope.names []).lookup x=some c->h1.IsCell c none/\s3.heap.objs.size+1<=c:=fun e=>ok.empty _ _ (PySem.mem_of_lookup e);have hfree:H3 s3.heap.objs.size=none:=I.hok.fresh (Nat.le_refl _);have olt:∀x c,cl.lookup x=some c->c<s3.heap.objs.size:=fun x c e=>let⟨_,h⟩:=old x c e;h.lt;refine⟨⟨I.ok.mod,?_,I.ok.glob,I.ok.blt,Nat.le_refl _,fun x y c e1 e2=>?_,fun x hx=>?_,fun x c h e=>?_,I.ok.hd,I.ok.frames,.inl rfl,fun b hb=>?_,I.bs,Nat.le_trans I.ok.bsz I.sz,fun b o e hb=>?_,fun b hb=>?_,I.stack,I.stkFree⟩,
  rfl,I.bare,Un.kept hk,⟨_,hns,fun i x v e1 e2 e3=>?_⟩,fun x c e=>?_,hfree,fun x c e=>?_,fun p hp=>?_,I.hok.kept hk,?_⟩
 .exact S.kind
 .rcases Y3 e1 with a | ⟨_,a⟩<;>rcases Y3 e2 with b | ⟨_,b⟩
  .exact name_of_addr ok.apart (PySem.mem_of_lookup a) (PySem.mem_of_lookup b)
  .exact absurd (BF (olt _ _ b) (EJ (new a).2)) (CV _)
  .exact absurd (BF (olt _ _ a) (EJ (new b).2)) (CV _)
  .exact I.ok.inj x y c (S.cin.get a) (S.cin.get b)
 .have q:∀k,(relabel scope X.env).names.lookup x=some k->(!(k == .cell||k == .free)||((own scope cl s3.heap.objs.size).lookup x).isSome)=true:=fun k e=>j8 (p:=fun _=>true) (q:=fun a k=>!(k == .cell||k == .free)||((own scope cl s3.heap.objs.size).lookup a).isSome) (S.has _) e;have hx':(relabel scope X.env).names.lookup x=some .cell\/(relabel scope X.env).names.lookup x=some .free:=hx;have:((own scope cl s3.heap.objs.size).lookup x).isSome=true:=by
   rcases hx' with e | e
   .exact q _ e
   .exact q _ e
  exact EX.mp this
 .have h:scope.names.lookup x=some .cell:=beq_iff_eq.mp h;have q:=PySem.W.cellsFrom_some scope.names (s3.heap.objs.size+1) [] (.inl h);rcases Y3 e with a | ⟨a,_⟩
  .exact EJ (new a).2
  .rw[a]at q;cases q
 .obtain⟨⟨_,_,_,_,f4,_⟩,o,e⟩:=hex b hb;refine⟨lt3 b o e,fun x c ec=>?_⟩;rcases Y3 ec with a | ⟨_,a⟩
  .exact Nat.ne_of_gt (BF (AI e) (EJ (new a).2))
  .exact f4 x c (S.cin.get a)
 .obtain⟨⟨f0,f1,f2,f3,_⟩,_⟩:=hex b hb;rcases f3 with f3 | f3
  .exact I.ok.noex b o e f3
  .have:=(I.ok.bs b o e).1;exact absurd (BF (AI this) f3) (CV _)
 .intro hf;obtain⟨⟨_,f1,f2,_⟩,_⟩:=hex b hb;rcases BD.mp (I.stkSub b hf)with z | z
  .exact f1 z
  .exact f2 z
 .unfold Kv at e2;rw[AH]at e2;cases ec:cap[i]? with
  | none=>rw[ec]at e2;cases e2
  | some o =>
   rw[ec]at e2;cases o with
   | none=>cases e2
   | some j =>
    have e2':(σ[j]?).join=some v:=BI e2;obtain⟨c1,c2,c3,c4⟩:=(S.caps s3.heap.objs.size).get e1 ec;have ej:σ[j]?=some (some v):=by
     cases ej:σ[j]? with
     | none=>rw[ej]at e2';cases e2'
     | some z=>rw[ej]at e2';cases z with
      | none=>cases e2'
      | some z=>cases e2';rfl
    obtain⟨m,hn,hl⟩:=I.loc;obtain⟨u,r,l⟩:=hl j x v c1 ej (.inr (.inl c2));refine⟨u,r,?_⟩;rcases l with⟨k,_⟩ | ⟨_,c,hc',hcell'⟩
    .have:X.env.scope.names.lookup x=some .local:=k;rw[c2]at this;cases this
    .exact .inr ⟨.inl c3,c,c4.trans hc',let⟨o,ho,hd⟩:=hcell';⟨o,hk _ _ ho,hd⟩⟩
 .rcases Y3 e with a | ⟨_,a⟩
  .exact⟨_,(new a).1⟩
  .obtain⟨v,o,ho,hd⟩:=old x c a;exact⟨v,o,hk _ _ ho,hd⟩
 .rcases Y3 e with a | ⟨_,a⟩
  .exact I.hok.fresh (EJ (new a).2)
  .exact I.freeC x c (S.cin.get a)
 .have hp':p∈X.pn++pins:=by simpa [cxD] using hp
  obtain⟨e,n,ne,nf,d⟩:=I.pin p hp';refine⟨hk _ _ e,n,lt3 _ _ e,fun hf=>?_,d⟩;rcases BD.mp (I.stkSub p.1 hf)with z | z
  .exact ne z
  .exact nf z
 .unfold Kv;rw[AB];exact(S.caps 0).len
theorem Inv.unblockD{σ':St}{H':Hp}{s':Shared}{h':Heap}(I:Inv X pins σ H3 s3)(hex:∀b∈ex,Be X pins H3 b)(J:Inv (cxD X scope cl N' pins ex s3 H3) [] σ' H' s')(hb:Heap.SameBut s3.heap.objs.size s'.heap h') :
  Inv X pins σ H' { s' with heap:=h' }:=by
 have hfr:H' s3.heap.objs.size=none:=J.free;refine I.call' (ch:=ex) J.os ⟨fun b o e n h1 h2=>?_,fun b o e n h1 h2=>?_,fun b o e n h2=>?_,fun b o e h2=>?_,J.base.tups,J.base.frzs,J.base.tbls⟩ (fun b ob e=>?_) J.bare fun b hbx=>?_
 .exact(hb.2 b (BB (AI e))).trans (J.base.keep b o e n h1 h2)
 .obtain⟨sl,q⟩:=J.base.slot b o e n h1 h2;exact⟨sl,(hb.2 b (BB (AI e))).trans q⟩
 .exact J.base.free b o e n h2
 .obtain⟨o',q⟩:=J.base.there b o e h2;exact⟨o',(hb.2 b (BB (AI e))).trans q⟩
 .refine(J.hok b ob e).stay (fun c w' hc q=>(hb.2 c ?_).trans q) (fun _ q=>q) fun _ _ q=>q;rintro rfl;rcases hc with z | z
  .rw[<-z,hfr]at e;cases e
  .rw[hfr]at z;cases z
 .obtain⟨_,f1,_,f3,f4,f5⟩:=hex b hbx;exact⟨f3,f1,f4,f5⟩
end
theorem Mw{M:Model}{A:Around}{E:Value->Shared->Prop}{s:Shared}{scope:Scope}{globals:Addr}{cl:List (Str×Addr)}{qual:Str}{env:Env}{Q:Env->Shared->Prop}
  (hQ:∀b,Q (newEnv scope s.heap.objs.size globals (own scope cl s.heap.objs.size) qual none .none (some env) b) { s with heap:=pushCells (s.heap.push { cls:=.type "dict",data:=.dict #[] }) scope.names }) :
  wpAny M A (newFunctionEnv scope globals cl [] qual none .none (some env)) Q E s:=by
 simp only[newFunctionEnv,Option.isSome_some,FB];refine AA (wpAny_alloc ?_);refine AA (wpAny_layCells _ (fun name kind cells=>by cases hkc:kind == NameKind.cell<;>simp[hkc]) _ _ _ _ ?_);rw[show({ s with heap:=s.heap.push { cls:=.type "dict",data:=.dict #[] } }:Shared).heap.objs.size=s.heap.objs.size+1 from EC ..];rw[List.forIn_nil];exact AA (AF (AF (hQ 0)))
section
variable{X:Cx}{tg iter:Expr}{ifs:List Expr}{g:TG}{tc:TT}{em:TEm}{scope:Scope}{cl:List (Str×Addr)}{N':List Str}{cap:List (Option Nat)}{pos:Pos}{wi:TI}
theorem Qo{e:Expr}{gs:List Comprehension}{newAcc:Sem Value}{p2:Pos}(hcl:clausesOf e =⟨tg,iter,ifs,0⟩::gs)(o:Addr->HO)(hs:∀x,foldedSetIterable iter X.env x=pure x)(S:DScope X scope cl N' cap)(hc:X.calm=true)(hi:PI X tg iter wi)
  {lp:Addr->It->St->Hp->(St->Hp->Prop)->Prop}
  (hnew:∀(pins:List (Addr×Obj)) (s:Shared) (σ:St) (H:Hp) (Q:Value->Shared->Prop) (E:Value->Shared->Prop),Inv X pins σ H s->(∀s',Inv X pins σ (upd H s.heap.objs.size (o s.heap.objs.size)) s'->(∀b ob,s.heap.get? b=some ob->s'.heap.get? b=some ob)->Q (.ref s.heap.objs.size) s')->wpAny (model X.prog X.w) X.A newAcc Q E s)
  (hlp:∀(pins:List (Addr×Obj)) (ex:List Addr) (s3:Shared) (H3:Hp) (D it:Addr) (fp:List Addr) (tn:Nat->Heap->Prop) (J:It) (σ:St) (s:Shared) (H:Hp) (Q:St->Hp->Prop) (R:Result->Shared->Prop),
   Turn X.prog X.w X.K tg J fp it tn->Inv (cxD X scope cl N' pins ex s3 H3) [] σ H s->tn 0 s.heap->(∀b∈fp,Be (cxD X scope cl N' pins ex s3 H3) [] H b)->lp D J σ H Q ->
   (∀s' σ' H',Inv (cxD X scope cl N' pins ex s3 H3) [] σ' H' s'->Q σ' H'->R (.ok .next) s') ->
   codeAny (model X.prog X.w) X.A (.compLoop e 0 (.ref it) (.ref D) (compEnvC scope (own scope cl s3.heap.objs.size) s3.heap.objs.size X.env)) R s)
  (hun:∀it D env,X.A.under (.compStart e 0 (.ref it) (.ref D) env)=X.A) (hden:∀it D env,(model X.prog X.w).den (.compStart e 0 (.ref it) (.ref D) env) =(compStart e 0 (.ref it) (.ref D) env).onRaise (fun x=>do noteFrame x env;standAt theWindowsPlace))
  (hev:∀E Q s,wpAny (model X.prog X.w) X.A (comprehension e scope X.env p2 newAcc false (eval iter X.env)) Q E s->wpAny (model X.prog X.w) X.A (eval e X.env) Q E s) :
  PE X e (Bi wi o cap lp):=by
 intro pins s σ H Q I h;refine hev _ _ _ (HL (use:=none) hcl hs S.clos S.kind S.loc (thn (hi pins s σ H _ I h) fun v s1 h1=>thn h1 fun itv s2 h2=>?_));obtain⟨it,fp,tn,J,H2,eit,I2,T,st2,f2,R2⟩:=h2;subst eit;refine hnew pins s2 σ H2 _ _ I2 fun s3 I3 k3=>?_;have hD:H2 s2.heap.objs.size=none:=I2.hok.fresh (Nat.le_refl _);have fok:∀b∈fp,Be X pins (upd H2 s2.heap.objs.size (o s2.heap.objs.size)) b/\∃ob,s3.heap.get? b=some ob:=fun b hb=>by
  obtain⟨ob,e,_⟩:=T.obj _ _ st2 b hb;obtain⟨f0,fr⟩:=f2 b hb;exact⟨⟨by rw[B3 (BB (AI e))];exact f0,fr⟩,ob,k3 b ob e⟩
 refine Mw fun bb=>?_;have hk:∀b ob,s3.heap.get? b=some ob->(pushCells (s3.heap.push { cls:=.type "dict",data:=.dict #[] }) scope.names).get? b=some ob:=fun b ob e=>pushCells_keeps _ _ b ob (AD _ e);have hns:(pushCells (s3.heap.push { cls:=.type "dict",data:=.dict #[] }) scope.names).Ns s3.heap.objs.size (fun _=>none):=(Heap.Ns.new s3.heap (.type "dict")).keeps (pushCells_keeps _ _);have ok:=cellsFrom_ok scope.names (s3.heap.push { cls:=.type "dict",data:=.dict #[] }) (s3.heap.objs.size+1) [] ⟨fun _ _ hm=>(nomatch hm),List.Pairwise.nil⟩ (by rw[EC];exact Nat.le_refl _);rw[EC]at ok;generalize pushCells (s3.heap.push { cls:=.type "dict",data:=.dict #[] }) scope.names=h1 at hk hns ok⊢;have I4:Inv (cxD X scope cl N' pins fp s3 (upd H2 s2.heap.objs.size (o s2.heap.objs.size))) [] (Kv cap σ) (upd H2 s2.heap.objs.size (o s2.heap.objs.size)) { s3 with heap:=h1,toks:=s3.toks } :=
  I3.blockD S hc fok hns hk ok
 have st4:tn 0 h1:=T.keep 0 _ _ st2 fun b hb ob e=>hk b ob (k3 b ob e);refine U6 (X:=cxD X scope cl N' pins fp s3 (upd H2 s2.heap.objs.size (o s2.heap.objs.size))) (gs:=⟨tg,iter,ifs,0⟩::gs) (e:=e) (d:=0) (tg:=tg) (iter:=iter) (ifs:=ifs) (hun _ _ _) (hden _ _ _) hcl rfl T st4 ?_;refine hlp pins fp s3 _ s2.heap.objs.size it fp tn J (Kv cap σ) _ _ _ _ T I4 st4 (fun b hb=>?_) (R2 _ hD) fun s' σ' H' I' q'=>?_
 .obtain⟨⟨f0,f1,f2',f3,f4,f5⟩,ob,eo⟩:=fok b hb;refine⟨f0,BB (AI eo),fun hf=>?_,.inl hb,fun x c e=>?_,fun p hp=>f5 p (by simpa [cxD] using hp)⟩
  .rcases BD.mp (I3.stkSub b hf)with z | z
   .exact f1 z
   .exact f2' z
  .rcases Y3 e with a | ⟨_,a⟩
   .exact Nat.ne_of_gt (BF (AI eo) (EJ (ok.empty _ _ (PySem.mem_of_lookup a)).2))
   .exact f4 x c (S.cin.get a)
 .obtain⟨m,hn,_⟩:=I'.loc;exact⟨m,hn,fun h' hb=>⟨.ref _,H',I3.unblockD (fun b hb=>(fok b hb).1) I' hb,rfl,q'⟩⟩
theorem zBv{elt:Expr}{te:TE}(S:DScope X scope cl N' cap)(hc:X.calm=true)(hi:PI X tg iter wi)
  (hb:∀(pins:List (Addr×Obj)) (ex:List Addr) (s3:Shared) (H3:Hp),PG (cxD X scope cl N' pins ex s3 H3) tg g/\PTs (cxD X scope cl N' pins ex s3 H3) ifs tc/\PE (cxD X scope cl N' pins ex s3 H3) elt te)
  (hs:∀x,foldedSetIterable iter X.env x=pure x:=by intro _;rfl) :
  PE X (.ListComp elt [⟨tg,iter,ifs,0⟩] scope pos) (Bi wi (fun _=>.lst []) cap fun D J σ H Q=>Cl g tc (De D te) J σ H Q):=by
 refine Qo (newAcc:=newList []) (p2:=firstIterPos [⟨tg,iter,ifs,0⟩] pos) rfl (fun _=>.lst []) hs S hc hi (fun pins s σ H Q E I h=>?_) (fun pins ex s3 H3 D it fp tn J σ s H Q R T I st hf h hR=>?_) (fun _ _ _=>rfl) (fun _ _ _=>rfl) (fun E Q s h=>h)
 .refine GU ?_;exact h _ (I.lnew (t':=s.toks) (its:=[]) .nil (CH _)) fun b ob e=>AD _ e
 .obtain⟨b1,b2,b3⟩:=hb pins ex s3 H3;exact Q4 (X:=cxD X scope cl N' pins ex s3 H3) rfl rfl hc rfl (l4 elt tg iter ifs scope pos _ _ _) b1 b2 (Dv rfl b3) T I st hf h hR
theorem zDy(caps:∀n,Caps X scope (own scope cl n) N' cap)(cin:ClIn X cl)(clos:closureFor scope X.env=pure cl:=by rfl)(kind:scope.kind = .function:=by rfl)
  (loc:∀y∈scope.names,y.2 = .local->scope.names.lookup y.1=some .local:=by decide +kernel) (has:∀n,((relabel scope X.env).names.all fun y=>!(y.2 == .cell||y.2 == .free)||((own scope cl n).lookup y.1).isSome)=true:=by intro _;rfl):DScope X scope cl N' cap:=⟨kind,loc,clos,cin,has,caps⟩
theorem pgD{pins:List (Addr×Obj)}{ex:List Addr}{s3:Shared}{H3:Hp}{x:Str}{pos:Pos}(i:Nat)(hN:N'.Nodup:=by decide +kernel)(hi:N'[i]?=some x:=by rfl)(hx:Loc (cxD X scope cl N' pins ex s3 H3).env.scope x:=by first | exact Or.inl rfl | exact Or.inr rfl)
  (hf:(cxD X scope cl N' pins ex s3 H3).fn x=true\/(cxD X scope cl N' pins ex s3 H3).env.scope.names.lookup x=some .local:=by first | exact Or.inr rfl | exact Or.inl rfl):PG (cxD X scope cl N' pins ex s3 H3) (.Name x pos) (S8 i):=C3 (X:=cxD X scope cl N' pins ex s3 H3) hN hi hx hf
end
def zCl(i:Nat)(f:Addr)(sp:Sp)(E:XK)(t:TA):TE:=fun σ H Q=>σ[i]?=some (some (.ref f))/\Sa sp [] E t σ H Q
section
variable{X:Cx}{CX:CXT}{k:Nat}{f:Addr}{fd:FuncData}{ps:List Str}{sp:Sp}{x:Str}{e:Expr}{es:List Expr}{t:TA}{p pos:Pos}{E:XK}{ds:List Value}
theorem Jo{i:Nat}(F:FnOk X.prog X.w X.K X.mg X.base CX k f fd ps sp)(hr:Room k X.A)(hk:PySem.W.keepIn X.K (.ref f)=true)(hb:Binds X.K fd ps [])(hx:i6 CX X E)
  (ha:PA X (e::es) t) (hN:X.N[i]?=some x:=by rfl) (hv:Vis X.env.scope x:=by first | exact Or.inl rfl | exact Or.inr (Or.inl rfl) | exact Or.inr (Or.inr rfl)) (hdb:(x ==("__debug__":Str))=false:=by decide) (hcd:(x ==("__classdict__":Str))=false:=by decide)
  (he:starEach (e::es) X.env =(false,eval e X.env)::starEach es X.env:=by rfl) (hpl:(backTo pos (starEach es X.env)).any (·.1)=false:=by rfl) :
  PE X (.Call (.Name x p) (e::es) [] pos) (zCl i f sp E t):=by
 intro pins s σ H Q I h;obtain⟨e1,h⟩:=h;refine EE (thn (Wj (i:=i) (pos:=p) hN hv hdb hcd pins s σ H (fun v H'=>v = .ref f/\H'=H) I ⟨_,e1,rfl,rfl⟩) fun u s1 ⟨v,H1,I1,r1,e2,e3⟩=>?_);subst e2 e3;cases r1;refine PySem.W.callWith_K (h₀:=X.base) I1.ok.mod.kin hk (thn (ha pos pins s1 σ H1 _ I1 h) fun us s2 ⟨vs,H2,I2,r,q⟩=>⟨I2.kIn,?_⟩) he hpl;exact La F hr hb .nil hx I2 r q
end
end L2
namespace TS
open PySem PyProof.Rows
def lexB:List (List Nat)->List (List Nat)->Bool
 | _,[]=>false
 | [],_::_=>true
 | x::a,y::b=>decide (x<y)||(decide (x=y)&&lexB a b)
theorem lexB_cons{x y:List Nat}{a b:List (List Nat)}:lexB (x::a) (y::b)=true↔x<y\/(x=y/\lexB a b=true):=by
 rw[lexB];simp
theorem i8(a:List (List Nat)):lexB a []=false:=by cases a<;>rfl
theorem An:∀a,lexB a a=false
 | []=>rfl
 | x::a=>by
  rw[BJ];intro z;rcases lexB_cons.mp z with z | ⟨_,z⟩
  .exact FP _ z
  .rw[An a]at z;cases z
theorem Ch:∀a b c,lexB a b=true->lexB b c=true->lexB a c=true
 | _,[],_,h,_=>by rw[i8]at h;cases h
 | _,_::_,[],_,h=>by rw[i8]at h;cases h
 | [],_::_,_::_,_,_=>rfl
 | x::a,y::b,z::c,h1,h2=>by
  rw[lexB_cons]at *;rcases h1 with h1 | ⟨h1,h1'⟩
  .rcases h2 with h2 | ⟨h2,_⟩
   .exact .inl (HK h1 h2)
   .exact .inl (h2▸h1)
  .rcases h2 with h2 | ⟨h2,h2'⟩
   .exact .inl (h1▸h2)
   .exact .inr ⟨h1.trans h2,Ch a b c h1' h2'⟩
theorem Kg:∀a b c,lexB a c=true->lexB a b=true\/lexB b c=true
 | _,_,[],h=>by rw[i8]at h;cases h
 | [],[],_::_,_=>.inr rfl
 | _::_,[],_::_,_=>.inr rfl
 | [],_::_,_::_,_=>.inl rfl
 | x::a,y::b,z::c,h=>by
  rw[lexB_cons]at h;simp only[lexB_cons];rcases tri x y with q | q | q
  .exact .inl (.inl q)
  .rcases h with h | ⟨h,h'⟩
   .exact .inr (.inl (q▸h))
   .rcases Kg a b c h' with r | r
    .exact .inl (.inr ⟨q,r⟩)
    .exact .inr (.inr ⟨q▸h,r⟩)
  .rcases h with h | ⟨h,_⟩
   .exact .inr (.inl (HK q h))
   .exact .inr (.inl (h▸q))
theorem lexB_total:∀a b,lexB a b=false->lexB b a=false->a=b
 | [],[],_,_=>rfl
 | [],_::_,h,_=>by cases h
 | _::_,[],_,h=>by cases h
 | x::a,y::b,h1,h2=>by
  rw[BJ]at h1 h2;rcases tri x y with q | q | q
  .exact absurd (lexB_cons.mpr (.inl q)) h1
  .rw[q,lexB_total a b (BJ.mpr fun z=>h1 (lexB_cons.mpr (.inr ⟨q,z⟩))) (BJ.mpr fun z=>h2 (lexB_cons.mpr (.inr ⟨q.symm,z⟩)))]
  .exact absurd (lexB_cons.mpr (.inl q)) h2
def lexKey(tab:List (Addr×List (List Nat))):Value->Option (List (List Nat))
 | .ref a=>(tab.find? fun q=>decide (q.1=a)).map fun q=>q.2
 | _=>none
@[reducible] def lexKind(tab:List (Addr×List (List Nat))):PyProof.Rows.KeyKind where
 α:=List (List Nat)
 blt:=lexB
 irrefl:=An
 trans:=Ch
 negTrans:=Kg
 total:=lexB_total
 keyOf:=lexKey tab
 dflt:=[]
theorem lexKey_mem{tab:List (Addr×List (List Nat))}{v:Value}{k:List (List Nat)}(h:lexKey tab v=some k):∃q∈tab,v = .ref q.1/\q.2=k:=by
 match v,h with
 | .ref a,h =>
  obtain⟨q,e,hk⟩:=CO.mp h;exact⟨q,List.mem_of_find?_eq_some e,by rw[BL (List.find?_some (p:=fun q:Addr×List (List Nat)=>decide (q.1=a)) e)],hk⟩
theorem lexKey_some{tab:List (Addr×List (List Nat))}{q:Addr×List (List Nat)}(h:q∈tab):∃k,lexKey tab (.ref q.1)=some k:=by
 show ∃k,(tab.find? fun r=>decide (r.1=q.1)).map (fun r=>r.2)=some k;cases e:tab.find? fun r=>decide (r.1=q.1)with
 | none=>exact absurd (AQ rfl) (List.find?_eq_none.mp e _ h)
 | some r=>exact⟨r.2,rfl⟩
open PySem.SeqAt PySem.MeetsSeq PySem.MeetsSeq3
open AutoSeq1 (wpAny_loadPart')
def Its(items:Array Value)(as:List Str):Prop:=items.size=as.length/\∀(j:Nat) (x:Str),as[j]?=some x->∃t,items[j]?=some (.str x t)
abbrev kyS(as:List Str):List (List Nat):=as.map fun x=>x.cps.toList
theorem Hu(l b:Addr)(items items2:Array Value)(n n2:Nat)(as bs:List Str)(ha:Its items as)(hb:Its items2 bs)(k:Nat) :
  ∀i:Nat,as.length-i=k->i<=as.length->i<=bs.length->Meets (Builtin.«list.__eq__.loop» ⟨[.ref l,.ref b,rawInt i,rawInt 0],[]⟩)
   (fun A R s=>s.heap.get? l=some (seqObj "list" items n)/\s.heap.get? b=some (seqObj "list" items2 n2)/\R (.ok (.ret (.bool (lexB (kyS (as.drop i)) (kyS (bs.drop i)))))) s):=by
 induction k with
 | zero =>
  intro i hk h1 h2 prog w A R s h;obtain⟨hp,g,d,tk,os⟩:=s;obtain⟨hl,hbb,h⟩:=h;wp_walk using BH hl,BH hbb;have hi1:items[((i:Nat):Int).toNat]?=none:=by have:=ha.1;simp;omega
  rw[hi1];have e:lexB (kyS (as.drop i)) (kyS (bs.drop i))=decide (items.size<items2.size):=by
   rw[ha.1,hb.1,EM (by omega)];by_cases c:i<bs.length
   .rw[AQ (by omega),CF c];rfl
   .rw[AN (by omega),EM (by omega)];rfl
  rw[e]at h;wp_walk using BH hl,BH hbb;exact h
 | succ k ih =>
  intro i hk h1 h2 prog w A R s h;obtain⟨hp,g,d,tk,os⟩:=s;obtain⟨hl,hbb,h⟩:=h;wp_walk using BH hl,BH hbb;have hlt:i<as.length:=by omega
  obtain⟨t,et⟩:=ha.2 i as[i] (AC hlt);have hi1:items[((i:Nat):Int).toNat]?=some (.str as[i] t):=by simpa using et
  by_cases c:i<bs.length
  .obtain⟨u,eu⟩:=hb.2 i bs[i] (AC c);have hi2:items2[((i:Nat):Int).toNat]?=some (.str bs[i] u):=by simpa using eu
   have hc:((i:Int)+1) =((i+1:Nat):Int):=by push_cast;rfl
   rw[CF hlt,CF c]at h;have h:R (.ok (.ret (.bool (decide (as[i].cps.toList<bs[i].cps.toList)||(decide (as[i].cps.toList=bs[i].cps.toList)&&lexB (kyS (as.drop (i+1))) (kyS (bs.drop (i+1)))))))) _:=h;rw[hi1,hi2];refine AA (GF ?_);by_cases e:as[i]=bs[i]
   .rw[AQ e];rw[e,AN (FP _),AQ rfl,II,IJ]at h;wp_walk;rw[hc];exact⟨plainId_quiet plain_eq_loop _,GT entry_eq_loop (by
     rw[Around.under_plainId plain_eq_loop _];exact ih (i+1) (by omega) (by omega) (by omega) prog w A R _ ⟨hl,hbb,h⟩)⟩
   .rw[AN e];have ne:as[i].cps.toList≠bs[i].cps.toList:=fun z=>e (by
     have z':=IC.mp z;cases hx:as[i];cases hy:bs[i];rw[hx,hy]at z';exact congrArg Str.mk z')
    rw[AN ne,DZ,HN]at h;wp_walk using BH hl,BH hbb;rw[hi1,hi2];show wpAny _ _ (richCompare CmpOp.Lt (.str as[i] t) (.str bs[i] u) >>= fun r=>ret r) _ _ _;refine AA (IB (typeIs_str _ _ _) (typeIs_str _ _ _) slot_str_lt (call_str_lt ⟨(by intro z;cases z),AF h⟩) rfl)
  .have hi2:items2[((i:Nat):Int).toNat]?=none:=by have:=hb.1;simp;omega
   rw[hi1,hi2];have e:lexB (kyS (as.drop i)) (kyS (bs.drop i))=decide (items.size<items2.size):=by
    rw[ha.1,hb.1,EM (l:=bs) (by omega),AN (by omega)];exact i8 _
   rw[e]at h;wp_walk using BH hl,BH hbb;exact h
theorem list_lt_gen(l b:Addr)(items items2:Array Value)(n n2:Nat)(as bs:List Str)(ha:Its items as)(hb:Its items2 bs) :
  Meets (Builtin.«list.__lt__» ⟨[.ref l,.ref b],[]⟩)
   (fun A R s=>s.heap.get? l=some (seqObj "list" items n)/\s.heap.get? b=some (seqObj "list" items2 n2)/\R (.ok (.ret (.bool (lexB (kyS as) (kyS bs))))) s):=by
 intro prog w A R s h;obtain⟨hp,g,d,tk,os⟩:=s;obtain⟨hl,hbb,h⟩:=h;have f3:=AutoSeq1.sub_list_list;wp_walk using BH hl,BH hbb;exact⟨plainId_quiet plain_eq_loop _,GT entry_eq_loop (by
  rw[Around.under_plainId plain_eq_loop _];exact Hu l b items items2 n n2 as bs ha hb _ 0 rfl (CH _) (CH _) prog w A R _ ⟨hl,hbb,h⟩)⟩
end TS
namespace L2
open PySem PySem.Spec PyProof.Rows
theorem Vz{l:List Str}{us:List Value}(r:Vals (l.map V.str) us):TS.Its us.toArray l:=by
 induction l generalizing us with
 | nil =>
  cases r;exact⟨rfl,fun j x h=>by rw[List.getElem?_nil]at h;cases h⟩
 | cons y l ih =>
  cases r with
  | cons r1 r2 =>
   obtain⟨t0,rfl⟩:=r1;obtain⟨h1,h2⟩:=ih r2;refine⟨by simp only[BA,BM]at h1⊢;rw[h1],fun j x h=>?_⟩;cases j with
   | zero =>
    rw[HU]at h;cases h;exact⟨t0,rfl⟩
   | succ j =>
    rw[List.getElem?_cons_succ]at h;obtain⟨t,e⟩:=h2 j x h;exact⟨t,by simpa using e⟩
def Zm(ts:List (Addr×List Str)):List (Addr×List (List Nat)):=ts.map fun q=>(q.1,TS.kyS q.2)
theorem Mf{P:Program}{w:World}{s:Shared}{a:Addr}{ts:List (Addr×List Str)}{h0:Heap}(hv:∀q∈ts,∃us,Vals (q.2.map V.str) us/\LAt h0 q.1 us)(hk:∀b o,h0.get? b=some o->b≠a/\s.heap.get? b=some o) :
  TS.Keys2 P w a s (TS.lexKind (Zm ts)) oneType' (ts.map fun q=>Value.ref q.1):=by
 refine⟨fun A s' hu hE=>⟨fun x y k l Q E hx hy q=>?_⟩,fun v hvm=>?_,fun h2 A E s' Q hE q=>?_⟩
 .obtain⟨_,m1,rfl,rfl⟩:=TS.lexKey_mem hx;obtain⟨_,m2,rfl,rfl⟩:=TS.lexKey_mem hy;obtain⟨x,mx,rfl⟩:=AK.mp m1;obtain⟨y,my,rfl⟩:=AK.mp m2;obtain⟨us,v1,n1,e1⟩:=hv x mx;obtain⟨vs,v2,n2,e2⟩:=hv y my;have e1':=hE _ _ (hk _ _ e1).1 (hk _ _ e1).2;have e2':=hE _ _ (hk _ _ e2).1 (hk _ _ e2).2;rw[keyLt'_oneType];exact TS.oneLt_lists (by omega) e1' e2' (TS.list_lt_gen _ _ _ _ _ _ _ _ (Vz v1) (Vz v2)) q
 .obtain⟨q,hq,rfl⟩:=AK.mp hvm;exact TS.lexKey_some (q:=(q.1,TS.kyS q.2)) (AK.mpr ⟨q,hq,rfl⟩)
 .refine PySem.W.kas_kind (T:=.type "list") h2 (fun v hvm=>?_) (by decide) (by decide) q;obtain⟨q,hq,rfl⟩:=AK.mp hvm;obtain⟨us,v1,n1,e1⟩:=hv q hq;exact(PySem.W.Looks.ld (hE _ _ (hk _ _ e1).1 (hk _ _ e1).2)).andThen .now
section
variable{X:Cx}
def Vx(K:PySem.W.Frag):List V->Hp->VK->Prop:=fun xs H Q=>∃(p:Addr) (ts:List (Addr×List Str)),xs = [.ref p]/\SqL K H p (ts.map fun q=>V.ref q.1)/\(∀q∈ts,H q.1=some (.lst (q.2.map V.str))) /\
  ∀(l:Addr) (ts':List (Addr×List Str)),H l=none->ts'.Perm ts->ts'.Pairwise (fun a b=>TS.lexB (TS.kyS b.2) (TS.kyS a.2)=false)->Q (.ref l) (upd H l (.lst (ts'.map fun q=>V.ref q.1)))
theorem Gn(hu:X.A.units+64<cLine):E8 X (.builtin "sorted") (Vx X.K):=by
 intro pins s σ H xs us Q I r h;obtain⟨p,ts,rfl,hq,hpi,q⟩:=h;obtain⟨u,rfl,ru⟩:=W8 r;cases ru;obtain⟨its,rv,pl,hz⟩:=I.list hq;have ei:=Xc rv;have hl:=rv.length;refine TS.sorted_gen2 (by omega) (collect_list (vs:=its) pl.isList ?_ (by omega));have hsz:((s.heap.push (seqObj "list" #[] 0)).update s.heap.objs.size (Obj.mapSeq (· ++ its.toArray))).objs.size=s.heap.objs.size+1:=by rw[ET,size_push']
 have hk1:∀b o,s.heap.get? b=some o->((s.heap.push (seqObj "list" #[] 0)).update s.heap.objs.size (Obj.mapSeq (· ++ its.toArray))).get? b=some o:=fun b o eb=>by
  rw[HH _ _ _ _ (BB (AI eb))];exact AD _ eb
 have hpa:∀q∈ts,∃us,Vals (q.2.map V.str) us/\LAt s.heap q.1 us:=fun q hq=>by
  obtain⟨z,its,n,rv,e⟩:=I.hok _ _ (hpi q hq);exact⟨its,rv,n,e⟩
 refine⟨rfl,by omega,TS.lexKind (Zm ts),oneType',fun s2 hE=>?_,fun out h' e ho k hg=>?_⟩
 .rw[ei];refine Mf hpa fun b o eb=>?_;rw[<-ei];have hne:b≠((s.heap.push (seqObj "list" #[] 0)).update s.heap.objs.size (Obj.mapSeq (· ++ its.toArray))).objs.size:=by
   rw[hsz];exact BB (DG (AI eb))
  exact⟨hne,hE b o hne (hk1 b o eb)⟩
 .obtain⟨hp,hs⟩:=ho;rw[ei]at hp;obtain⟨ts',h1,h2⟩:=U1 (fun q:Addr×List Str=>Value.ref q.1) hp ts rfl;have ky:∀q∈ts,TS.lexKey (Zm ts) (.ref q.1)=some (TS.kyS q.2):=fun q hq=>by
   obtain⟨k,e⟩:=TS.lexKey_some (tab:=Zm ts) (q:=(q.1,TS.kyS q.2)) (AK.mpr ⟨q,hq,rfl⟩);obtain⟨_,m,e1,e2⟩:=TS.lexKey_mem e;obtain⟨r,mr,rfl⟩:=AK.mp m;have e1:q.1=r.1:=Value.ref.inj e1;have e3:=(hpi q hq).symm.trans ((congrArg H e1).trans (hpi r mr));have e4:q.2=r.2:=Ku (HO.lst.inj (BI e3));rw[e,<-e2,e4]
  have hpw:ts'.Pairwise (fun a b=>TS.lexB (TS.kyS b.2) (TS.kyS a.2)=false):=by
   rw[h2,CD]at hs;refine(FS.mp hs).imp fun{a b} ⟨ha,hb,z⟩=>?_;have z':TS.lexB ((TS.lexKey (Zm ts) (.ref b.1)).getD []) ((TS.lexKey (Zm ts) (.ref a.1)).getD [])=false:=z;rw[ky a (h1.mem_iff.mp ha),ky b (h1.mem_iff.mp hb)]at z';exact z'
  have hn:H (s.heap.objs.size+1)=none:=I.hok.fresh (DC _);have hg':h'.get? (s.heap.objs.size+1)=some (seqObj "list" out e):=by rw[<-hsz];exact hg
  refine⟨.ref (s.heap.objs.size+1),upd H (s.heap.objs.size+1) (.lst (ts'.map fun q=>V.ref q.1)),?_,by show Value.ref _=_;rw[<-hsz],q _ _ hn h1 hpw⟩;refine I.laid (t':=s.toks) (fun b o eb=>k b o (hk1 b o eb)) (DC _) ⟨?_,out.toList,e,by rw[h2];exact Yb ts',by simpa using hg'⟩;rw[AB,h1.length_eq];rw[AB]at hz;exact hz
theorem Db(K:PySem.W.Frag)(hu:X.A.units+64<cLine)(hK:X.K=K:=by rfl):E8 X (.builtin "sorted") (Vx K):=by subst hK;exact Gn hu
end
def Jx(v d:Addr):HO:=.ext fun h=>h.IsValuesView v d
def Itv(d:Addr)(o:Obj)(kvs:List (Key×V)):It :=
 ⟨fun i H=>H d=some (.frz o (.dK kvs))/\i<kvs.length,fun i H x H'=>H'=H/\∃k,kvs[i]?=some (k,x),fun i H=>H d=some (.frz o (.dK kvs))/\kvs.length<=i⟩
theorem KV.atV{kvs:List (Key×V)}{vs:List (Key×Value)}(h:KV kvs vs):∀{i:Nat} {k:Key} {v:V},kvs[i]?=some (k,v)->∃u,vs[i]?=some (k,u)/\RelV v u:=by
 induction h with
 | nil=>intro i k v e;rw[List.getElem?_nil]at e;cases e
 | cons r _ ih =>
  intro i k v e;cases i with
  | zero =>
   rw[HU]at e⊢;cases e;obtain⟨a,b⟩:=r;exact⟨_,by rw[show k=_ from a],b⟩
  | succ i=>exact ih e
section
variable{X:Cx}{tg:Expr}
def zEv(td:TE):TE:=fun σ H Q=>td σ H fun x H1=>∃a kvs,x = .ref a/\H1 a=some (.dK kvs)/\∀v,H1 v=none->Q (.ref v) (upd H1 v (Jx v a))
theorem Op{o:Expr}{apos cpos:Pos}{td:TE}(ho:PE X o td)(hbase:attributeBase o "values" X.env (eval o X.env)=eval o X.env:=by rfl)(hline:(apos.endLine == cpos.line)=true:=by rfl):PE X (.Call (.Attribute o "values" apos) [] [] cpos) (zEv td):=by
 intro pins s σ H Q I h;refine wpAny_Call_method0_late hbase hline (thn (ho pins s σ H _ I h) fun v s1 ⟨x,H1,I1,r1,a,kvs,ex,ea,q1⟩=>?_);subst ex;obtain rfl:v=Value.ref a:=r1;obtain⟨z,hd,vs,rel,dd⟩:=Tw I1.hok ea;obtain⟨t1,t2,_⟩:=zAd I1 (.inl ⟨kvs,.inl ea⟩);refine⟨"dict", "dict.values",PySem.F.plainAttrs_dict,PySem.F.slot_dict_values,PySem.F.type_dict_values,t1,t2,Calls.callWith_builtin rfl (PySem.evalArgs_none ?_)⟩;refine call_meetsIn PySem.F.slot_dict_values dd.typeIs PySem.F.entry_dict_values (PySem.F.args_dict_values_1 _) (meets_dict_values (B9 X.prog X.w) a hd) ⟨⟨vs,dd⟩,?_⟩;exact⟨.ref s1.heap.objs.size,upd H1 _ (Jx _ a),I1.laid (t':=s1.toks) (fun b o eb=>AD _ eb) (Nat.le_refl _) ⟨⟨_,AS _ rfl,rfl,rfl⟩,⟨_,AS _ rfl⟩,fun h1 h2 ⟨o,e,r⟩ k=>⟨o,k o e,r⟩⟩,rfl,q1 _ I1.fresh⟩
theorem Qf{P:Program}{w:World}{K:PySem.W.Frag}{d it:Addr}{o:Obj}{kvs:List (Key×V)}{es:Array DictEntry}{ep:Nat}(hd:o.data = .dict es ep):Turn P w K tg (Itv d o kvs) [it] it (fun i h=>h.IsValIter it d i kvs.length ep) where
 mem:=by simp
 obj:=fun i h st b hb=>by
  have e:b=it:=by simpa using hb
  subst e;obtain⟨o,e,c,d⟩:=st;exact⟨o,e,fun v z=>by rw[d]at z;cases z⟩
 keep:=fun i h h' st k=>by
  obtain⟨o,e,r⟩:=st;exact⟨o,k it (by simp) o e,r⟩
 item:=by
  intro X hP hw hK hc i pins s σ H E I hf st hg;subst hP hw hK;obtain⟨hq,hi⟩:=hg;obtain⟨f0,f1,f2,f3,f4,f5⟩:=hf it (by simp);obtain⟨ho,hz,hS,vs,r,ob,es',ep',e1,c1,d1,m1⟩:=(show ObjOk X.prog X.w H s.heap d (.frz o (.dK kvs))from I.hok d _ hq);rw[ho]at e1;cases e1;rw[hd]at d1;cases d1;have hx:kvs[i]?=some (kvs[i].1,kvs[i].2):=AC hi;obtain⟨u,hu,ru⟩:=r.atV hx;have hl:kvs.length=vs.length:=r.length;rw[hl]at st;refine wpAny_pyNext_values_item (knd:=B9 X.prog X.w) st ⟨o,es,ho,c1,hd,m1⟩ hu fun h' st' sb=>?_;have I1:Inv X pins σ H { s with heap:=h' }:=I.turned (t':=s.toks) (fun b o hb e=>(sb.2 b hb).trans e) f0 f1 f3 f4 f5;obtain⟨oi,ei,ci,di⟩:=id st';rw[<-hl]at st';exact⟨u,rfl,Lz (s:={ s with heap:=h' }) ei ci di (by decide) ⟨kvs[i].2,H,I1,ru,⟨rfl,_,hx⟩,st',fun b hb=>(hf b hb).1⟩⟩
 done:=by
  intro X hP hw hK hc i pins s σ H E I hf st hg;subst hP hw hK;obtain⟨hq,hi⟩:=hg;obtain⟨f0,f1,f2,f3,f4,f5⟩:=hf it (by simp);obtain⟨ho,hz,hS,vs,r,ob,es',ep',e1,c1,d1,m1⟩:=(show ObjOk X.prog X.w H s.heap d (.frz o (.dK kvs))from I.hok d _ hq);rw[ho]at e1;cases e1;rw[hd]at d1;cases d1;have hl:kvs.length=vs.length:=r.length;rw[hl]at st hi;exact wpAny_pyNext_values_end (knd:=B9 X.prog X.w) (I.ok.hd hc) st ⟨o,es,ho,c1,hd,m1⟩ (DW hi) fun h' eb=>⟨rfl,I.turned (t':=s.toks) (fun b o hb e=>eb b o hb e) f0 f1 f3 f4 f5⟩
 self:=fun _ _ _ _ _ st h=>wpAny_pyIter_valiter st h
def zFt(tl:TE):TI:=fun σ H R=>tl σ H fun x H1=>∃v d kvs,x = .ref v/\H1 v=some (Jx v d)/\H1 d=some (.dK kvs)/\∀o,R (Itv d o kvs) (upd H1 d (.frz o (.dK kvs)))
theorem Zz{l:Expr}{tl:TE}(hl:PE X l tl):PI X tg l (zFt tl):=by
 intro pins s σ H R I h;refine thn (hl pins s σ H _ I h) fun v s1 ⟨x,H1,I1,r1,q1⟩=>?_;obtain⟨vw,d,kvs,e,hv,hq,q⟩:=q1;subst e;cases r1;obtain⟨hview,_⟩:=(show ObjOk X.prog X.w H1 s1.heap vw (Jx vw d)from I1.hok vw _ hv);obtain⟨hz,hS,vs,r,o,es,ep,ho,c1,d1,m1⟩:=(show ObjOk X.prog X.w H1 s1.heap d (.dK kvs)from I1.hok d _ hq);have I2:Inv X pins σ (upd H1 d (.frz o (.dK kvs))) { s1 with heap:=s1.heap,toks:=s1.toks }:=I1.write (t':=s1.toks) (by rw[hq];trivial) (.inl rfl) (fun b u _ e=>e) ⟨_,ho⟩ ⟨ho,hz,hS,vs,r,o,es,ep,ho,c1,d1,m1⟩;have hl:kvs.length=vs.length:=r.length;refine wpAny_pyIter_values (knd:=B9 X.prog X.w) (ep:=ep) hview ⟨o,es,ho,c1,d1,m1⟩ ?_;refine⟨s1.heap.objs.size,[s1.heap.objs.size],_,_,upd H1 d (.frz o (.dK kvs)),rfl,I2.kept (t':=s1.toks) fun b o e=>AD _ e,Qf d1,?_,fun b hb=>?_,q o⟩
 .rw[hl];exact⟨_,AS _ rfl,rfl,rfl⟩
 have e:b=s1.heap.objs.size:=by simpa using hb
 subst e;exact I2.fpOk (Nat.le_refl _) (I2.hok.fresh (Nat.le_refl _))
theorem Bc(ns:List Int):∀{n:Nat},n<=ns.length->preSum (fun i=>ns.getD i 0) n =(ns.take n).sum
 | 0,_=>rfl
 | n+1,h=>by
  have e:ns[n]?=some ns[n]:=AC (by omega);show preSum (fun i=>ns.getD i 0) n+ns.getD n 0=_;rw[Bc ns (by omega),List.take_succ,List.sum_append,BG,e];simp
def zDu:List V->Hp->VK->Prop:=fun xs H Q=>∃(v d:Addr) (kvs:List (Key×V)) (ns:List Int),xs = [.ref v]/\H v=some (Jx v d)/\H d=some (.dK kvs)/\(kvs.map fun q=>q.2)=ns.map V.int/\Q (.int ns.sum) H
theorem Xv(hc:X.calm=true:=by rfl):E8 X (.builtin "sum") zDu:=by
 intro pins s σ H xs us Q I r h;obtain⟨v,d,kvs,ns,rfl,hv,hq,hn,q⟩:=h;obtain⟨u,rfl,ru⟩:=W8 r;cases ru;obtain⟨hview,_⟩:=(show ObjOk X.prog X.w H s.heap v (Jx v d)from I.hok v _ hv);obtain⟨hz,hS,vs,r,o,es,ep,ho,c1,d1,m1⟩:=(show ObjOk X.prog X.w H s.heap d (.dK kvs)from I.hok d _ hq);have hl:kvs.length=vs.length:=r.length;have hln:kvs.length=ns.length:=by have:=congrArg List.length hn;rw[AB,AB]at this;exact this
 refine call_sum_walkG (wpAny_pyIter_values (knd:=B9 X.prog X.w) (ep:=ep) hview ⟨o,es,ho,c1,d1,m1⟩ ?_);have hdI:d≠s.heap.objs.size:=BB (AI ho);refine⟨s.heap.objs.size,_,_,vs.length,_,_,fun i=>ns.getD i 0,rfl,Walks.dictValues (knd:=B9 X.prog X.w) (by simp only[Around.in1_handled];exact I.ok.hd hc) s.heap.objs.size d hdI vs ep,⟨⟨_,AS _ rfl,rfl,rfl⟩,o,es,AD _ ho,c1,d1,m1⟩,fun b hb=>?_,fun i u ⟨k,hk⟩=>?_,fun h' tk t' kp=>⟨.int ns.sum,H,I.kept (t':=tk) fun b o e=>kp b o (by simpa using BB (AI e)) (AD _ e),⟨t',?_⟩,q⟩⟩
 .rw[EC];rcases BD.mp hb with rfl | hb
  .exact GG _
  .rw[AE.mp hb];exact DG (AI ho)
 .have hi:i<vs.length:=(AG.mp hk).1;have hx:kvs[i]?=some (kvs[i].1,kvs[i].2):=AC (by omega);obtain⟨u',hu,ru⟩:=r.atV hx;rw[hk]at hu;cases hu;have e:=congrArg (fun l=>l[i]?) hn;rw[AH,AH,hx,AC (by omega:i<ns.length)]at e;have e:kvs[i].2=V.int ns[i]:=BI e;rw[e]at ru;obtain⟨t,rfl⟩:=ru;exact⟨t,by show Value.int ns[i] t=Value.int (ns.getD i 0) t;rw[BG,AC (by omega:i<ns.length)];rfl⟩
 .have:preSum (fun i=>ns.getD i 0) vs.length=ns.sum:=by
   rw[Bc _ (by omega),CZ (by omega)]
  rw[this]
end
section
variable{X:Cx}{i:Nat}{x:Str}{e:Expr}{pos pos':Pos}
theorem Ao{t:XK->TE}(hN:X.N.Nodup)(hi:X.N[i]?=some x)(hx:Loc X.env.scope x)(he:PEx X e t)(hs:swapsWith e (some (.Name x pos')) pos.line X.env=pure false:=by rfl)(hf:X.fn x=true\/X.env.scope.names.lookup x=some .local:=by first | exact .inl rfl | exact .inr rfl | assumption) :
  PSx X [.Assign [.Name x pos'] e pos] (fun E=>Zr (t E) (S8 i)):=by
 intro pins s σ H D E I h;refine ID (wpAny_Assign_Name (BS (he pins s σ H _ E I h) (fun v s1 ⟨y,H1,I1,r1,q1⟩=>?_) fun _ _ z=>z) hs);exact W7 I1 hN hi hx r1 (fun s2 I2=>FH ⟨_,H1,I2,q1⟩) hf
end
def zEm(K:PySem.W.Frag)(S:Addr)(t:XK->TS)(th:TS):TS:=fun D σ H =>
 t (fun Cv d H'=>∃C bm,Cv = .ref C/\XC K C bm/\(Value.ref C::bm).contains (.ref S)=true/\∀x,H' x=some (XO x C d)->th D σ H') D σ H
theorem Yu{X:Cx}{S:Addr}{bmS:List Value}{c:Str}{cp hp pos:Pos}{b₀:Stmt}{tb body:List Stmt}{t:XK->TS}{th:TS}(nox:∀e s,¬X.xe e s)(st:X.stack=X.env::X.outer)(fr:X.env.frame=some X.env.locals)
  (hg:Gl X c) (hm:X.mg c=some (.ref S)) (cS:XC X.K S bmS) (he:PSx X tb t) (hh:∀ev,PSs (Xm X ev) (b₀::body) th) (hdb:(c ==("__debug__":Str))=false:=by decide) :
  PS X (.Try tb [.ExceptHandler (some (.Name c cp)) none (b₀::body) hp] [] [] pos) (zEm X.K S t th):=by
 intro pins s σ H D I h;refine wpAny_Try_except ?_;refine BS (he pins s σ H _ _ I h) (fun fl s1 z=>?_) fun ev s' z=>?_
 .cases fl with
  | next=>exact FH z
  | brk=>exact z
  | cont=>exact z
  | ret u=>exact z
 obtain⟨s1,H1,I1,x,C,d,H',rfl,os,bare,un,hok,hx,nx,tb,C',bm,ec,cC,hcon,q⟩:=z;cases ec;have I2:Inv X pins σ H' s':=I1.call' os un hok bare (fun b z=>absurd z (by simp));have r:RX X.prog X.w X.base X.stack X.env X.outer H1 s1 x C d H' s':=⟨os,bare,un,hok,Nat.le_trans I1.ok.bsz I1.sz,I2.bs,by have:=I2.stack;rw[st]at this;exact this,by have:=I2.stkFree;rw[st]at this;exact this,⟨_,fr⟩,fun b o _ hb=>by rw[st]at hb;exact hb,fun b hb=>by rw[st]at hb;exact hb,hx,nx,tb.fl⟩;have hfr:X.A.frames=some (X.env::X.outer):=by rw[I.ok.frames,st]
 refine r.note hfr fun h' r' t'=>r'.flight fun h2 r2 _=>?_;have I3:Inv X pins σ H' { s' with heap:=h2 }:=I1.call' r2.os r2.un r2.hok r2.bare (fun b z=>absurd z (by simp));refine wpAny_handleBy_cons (codeAny_handlers_test ?_) (by intro q;cases q);refine l8 (I3.mark (.ref x)) hg hm ?_ hdb;obtain⟨nm,q1,N,bs,hdct,sn,sub,ab,col,dd,k0,k1,k2,k3,k5,hobj⟩:=cC.obj;obtain⟨nm',q1',N',bs',hdct',sn',sub',ab',col',dd',j0,j1,j2,j3,j5,hobj'⟩:=cS.obj;obtain⟨ox,vx,ex,hcx,_⟩:∃o vs,h2.get? x=some o/\o.cls = .ref C/\o.dict=d/\o.data = .fields vs:=(r2.hok x _ r2.hx).1;refine zGh (I3.kIn _ _ hobj) (I3.kIn _ _ hobj') ex hcx (cS.base I3.kIn) hcon ?_;refine codeAny_handlers_suite (r2.flight fun h4 r4 _=>?_);have I4:Inv X pins σ H' { s' with heap:=h4 }:=I1.call' r4.os r4.un r4.hok r4.bare (fun b z=>absurd z (by simp));refine BS (hh (.ref x) pins _ _ H' D (I4.mark _) (q x hx)) (fun f s6 z=>?_) fun _ _ z=>(nox _ _ z).elim;cases f with
 | next =>
  obtain⟨σ',H6,I6,q6⟩:=z;exact⟨_,_,I6.unmark I.ok,q6⟩
 | brk =>
  obtain⟨σ',H6,I6,q6⟩:=z;exact⟨_,_,I6.unmark I.ok,q6⟩
 | cont =>
  obtain⟨σ',H6,I6,q6⟩:=z;exact⟨_,_,I6.unmark I.ok,q6⟩
 | ret u =>
  obtain⟨v,σ',H6,I6,r6,q6⟩:=z;exact⟨v,_,_,I6.unmark I.ok,r6,q6⟩
section
variable{X:Cx}
theorem zEr:PIp X .BitOr (ipI fun i j=>Builtin.bitOr i j):=by
 intro pins s σ H x y v u Q I r1 r2 h;obtain⟨i,j,e1,e2,q⟩:=h;subst e1;subst e2;obtain⟨t,rfl⟩:=r1;obtain⟨t',rfl⟩:=r2;exact ior_int ⟨.int _,H,I.tok _,⟨_,rfl⟩,q⟩
end
section
variable{X:Cx}{tg:Expr}
def zDq(tl:TE):TI:=fun σ H R=>tl σ H fun x H1=>∃d kvs,x = .ref d/\Rd H1 d (.dK kvs)/\∀o,R (Itd d o kvs) (upd H1 d (.frz o (.dK kvs)))
theorem Uu{H:Hp}{d:Addr}{o:HO}(h:H d=some o):upd H d o=H:=funext fun b=>by
 by_cases e:b=d
 .subst e;rw[upd_same,h]
 .rw[B3 e]
theorem Ye{l:Expr}{tl:TE}(hl:PE X l tl):PI X tg l (zDq tl):=by
 intro pins s σ H R I h;refine thn (hl pins s σ H _ I h) fun v s1 ⟨x,H1,I1,r1,q1⟩=>?_;obtain⟨d,kvs,e,hq,q⟩:=q1;subst e;cases r1;obtain⟨o,I2,hz,hS,vs,r,es,ep,ho,c1,d1,m1⟩:∃o,Inv X pins σ (upd H1 d (.frz o (.dK kvs))) { s1 with heap:=s1.heap,toks:=s1.toks }/\kvs.length<=sizeLine/\(d == sysModules)=false/\∃vs,KV kvs vs/\∃es ep,s1.heap.get? d=some o/\o.ExactDict/\o.data = .dict es ep/\(PySem.KeysOf (B9 X.prog X.w) es/\Pairs (B9 X.prog X.w) es.toList vs/\(vs.map (·.1)).Nodup):=by
  rcases hq with hq | ⟨o,hq⟩
  .obtain⟨hz,hS,vs,r,o,es,ep,ho,c1,d1,m1⟩:=(show ObjOk X.prog X.w H1 s1.heap d (.dK kvs)from I1.hok d _ hq);exact⟨o,I1.write (t':=s1.toks) (by rw[hq];trivial) (.inl rfl) (fun b u _ e=>e) ⟨_,ho⟩ ⟨ho,hz,hS,vs,r,o,es,ep,ho,c1,d1,m1⟩,hz,hS,vs,r,es,ep,ho,c1,d1,m1⟩
  .obtain⟨ho,hz,hS,vs,r,o',es,ep,ho',c1,d1,m1⟩:=(show ObjOk X.prog X.w H1 s1.heap d (.frz o (.dK kvs))from I1.hok d _ hq);rw[ho]at ho';cases ho';exact⟨o,by rw[Uu hq];exact I1,hz,hS,vs,r,es,ep,ho,c1,d1,m1⟩
 have hl:kvs.length=vs.length:=r.length;refine wpAny_pyIter_dict (knd:=B9 X.prog X.w) (ep:=ep) hS ⟨o,es,ho,c1,d1,m1⟩ ?_;refine⟨s1.heap.objs.size,[s1.heap.objs.size],_,_,upd H1 d (.frz o (.dK kvs)),rfl,I2.kept (t':=s1.toks) fun b o e=>AD _ e,Sb d1,?_,fun b hb=>?_,q o⟩
 .rw[hl];exact⟨_,AS _ rfl,rfl,rfl⟩
 have e:b=s1.heap.objs.size:=by simpa using hb
 subst e;exact I2.fpOk (Nat.le_refl _) (I2.hok.fresh (Nat.le_refl _))
end
end L2
namespace TS
open PySem PyProof.Rows
open PySem.SeqAt PySem.MeetsSeq PySem.MeetsSeq3
open AutoSeq1 (wpAny_loadPart')
theorem str_ne{a b:Str}(e:a≠b):a.cps.toList≠b.cps.toList:=fun z=>e (by
 have z':=IC.mp z;cases a;cases b;exact congrArg Str.mk z')
set_option maxHeartbeats 2000000 in
theorem Sf(p q:Addr)(n n2:Nat)(dd dd2:Option Addr)(sl sl2:Array (Option Value))(x1 y1 x2 y2:Str)(t1 u1 t2 u2:Tok) :
  Meets (Builtin.«tuple.__lt__» ⟨[.ref p,.ref q],[]⟩)
   (fun A R s=>s.heap.get? p=some { cls:=.type "tuple",dict:=dd,data:=.seq #[.str x1 t1,.str y1 u1] n,slots:=sl }/\s.heap.get? q=some { cls:=.type "tuple",dict:=dd2,data:=.seq #[.str x2 t2,.str y2 u2] n2,slots:=sl2 } /\
    R (.ok (.ret (.bool (pairLt (x1.cps.toList,y1.cps.toList) (x2.cps.toList,y2.cps.toList))))) s):=by
 intro prog w A R s h;obtain⟨hp,g,d,tk,os⟩:=s;obtain⟨hl,hbb,h⟩:=h;have f3:=AutoSeq1.sub_tuple_tuple;wp_walk using BH hl,BH hbb;show wpAny _ _ (eqBool (.str x1 t1) (.str x2 t2)) _ _ _;refine GF ?_;by_cases e:x1=x2
 .rw[AQ e];wp_walk using BH hl,BH hbb;show wpAny _ _ (eqBool (.str y1 u1) (.str y2 u2)) _ _ _;refine GF ?_;by_cases e':y1=y2
  .rw[AQ e'];wp_walk using BH hl,BH hbb;have hz:pairLt (x1.cps.toList,y1.cps.toList) (x2.cps.toList,y2.cps.toList)=false:=by
    unfold pairLt;rw[e,e'];simp[FP]
   rw[hz]at h;exact h
  .rw[AN e'];have hz:pairLt (x1.cps.toList,y1.cps.toList) (x2.cps.toList,y2.cps.toList)=decide (y1.cps.toList<y2.cps.toList):=by
    unfold pairLt;rw[e];simp[FP]
   rw[hz]at h;show wpAny _ _ (richCompare CmpOp.Lt (.str y1 u1) (.str y2 u2) >>= fun r=>ret r >>= fun r=>pure (ForInStep.done (some r,()))) _ _ _;refine AA (IB (typeIs_str _ _ _) (typeIs_str _ _ _) slot_str_lt (call_str_lt ⟨(by intro z;cases z),?_⟩) rfl);exact AF (AF (AF h))
 .rw[AN e];have hz:pairLt (x1.cps.toList,y1.cps.toList) (x2.cps.toList,y2.cps.toList)=decide (x1.cps.toList<x2.cps.toList):=by
   unfold pairLt;simp[str_ne e]
  rw[hz]at h;show wpAny _ _ (richCompare CmpOp.Lt (.str x1 t1) (.str x2 t2) >>= fun r=>ret r >>= fun r=>pure (ForInStep.done (some r,()))) _ _ _;refine AA (IB (typeIs_str _ _ _) (typeIs_str _ _ _) slot_str_lt (call_str_lt ⟨(by intro z;cases z),?_⟩) rfl);exact AF (AF (AF h))
section
variable{prog:Program}{w:World}{A:Around}{E:Value->Shared->Prop}{s:Shared}
theorem Xl{v v2:Value}{x1 y1 x2 y2:Str}{Q:Value->Shared->Prop}(hl:PairAt s.heap v x1 y1)(hb:PairAt s.heap v2 x2 y2)(hu:A.units<cLine)
  (h:Q (.bool (pairLt (x1.cps.toList,y1.cps.toList) (x2.cps.toList,y2.cps.toList))) s):wpAny (model prog w) A (richCompare .Lt v v2) Q E s:=by
 obtain⟨p,⟨cls,dd,data,sl⟩,n,t,u,rfl,ho,hc,hd⟩:=hl;obtain⟨p2,⟨cls2,dd2,data2,sl2⟩,n2,t2,u2,rfl,ho2,hc2,hd2⟩:=hb;simp only at hc hd hc2 hd2;subst hc hd hc2 hd2;exact richCompare_meets_room (op:=.Lt) ⟨_,ho,rfl⟩ ⟨_,ho2,rfl⟩ PySem.F.slot_tuple_lt PySem.F.entry_tuple_lt (PySem.F.args_tuple_lt_2 _ _) (Sf p p2 n n2 dd dd2 sl sl2 x1 y1 x2 y2 t u t2 u2)
  ⟨ho,ho2,show Value.bool _≠Value.notImplemented/\_ from⟨(fun x=>nomatch x),h⟩⟩ hu
theorem PairAt.tk{h:Heap}{p:Addr}{x y:Str}(z:PairAt h (.ref p) x y):IsTupleKey (strKind prog w) h [x,y] p:=by
 obtain⟨p,o,n,t,u,e,ho,hc,hd⟩:=z;cases e;exact⟨o,_,n,ho,hc,hd,.cons (show(x == x)=true by simp) (.cons (show(y == y)=true by simp) .nil)⟩
theorem Xs{v v2:Value}{x1 y1 x2 y2:Str}{Q:Bool->Shared->Prop}(hl:PairAt s.heap v x1 y1)(hb:PairAt s.heap v2 x2 y2)(hu:A.units<cLine)
  (h:Q (decide ((x1,y1) =(x2,y2))) s):wpAny (model prog w) A (eqBool v v2) Q E s:=by
 obtain⟨p,o,n,t,u,rfl,_⟩:=id hl;obtain⟨p2,o2,n2,t2,u2,rfl,_⟩:=id hb;refine wpAny_eqBool_tuple hu hl.tk hb.tk ?_;have e:decide ([x1,y1] = [x2,y2])=decide ((x1,y1) =(x2,y2)):=by simp
 rw[e];exact h
end
abbrev kyP(as:List (Str×Str)):List (List Nat):=as.flatMap fun q=>[q.1.cps.toList,q.2.cps.toList]
theorem Rt(p q:Str×Str)(as bs:List (Str×Str)):lexB (kyP (p::as)) (kyP (q::bs)) =(pairLt (p.1.cps.toList,p.2.cps.toList) (q.1.cps.toList,q.2.cps.toList)||(decide (p=q)&&lexB (kyP as) (kyP bs))):=by
 have e1:kyP (p::as)=p.1.cps.toList::p.2.cps.toList::kyP as:=rfl;have e2:kyP (q::bs)=q.1.cps.toList::q.2.cps.toList::kyP bs:=rfl;rw[e1,e2,lexB,lexB];unfold pairLt;obtain⟨a,b⟩:=p;obtain⟨c,d⟩:=q;by_cases h1:a=c
 .subst h1;by_cases h2:b=d
  .subst h2;simp[Bool.or_assoc]
  .simp[h2,str_ne h2]
 .simp[h1,str_ne h1]
def ItsP(h:Heap)(items:Array Value)(as:List (Str×Str)):Prop:=items.size=as.length/\∀(j:Nat) (q:Str×Str),as[j]?=some q->∃v,items[j]?=some v/\PairAt h v q.1 q.2
theorem Um(l b:Addr)(items items2:Array Value)(n n2:Nat)(as bs:List (Str×Str))(k:Nat) :
  ∀i:Nat,as.length-i=k->i<=as.length->i<=bs.length->Meets (Builtin.«list.__eq__.loop» ⟨[.ref l,.ref b,rawInt i,rawInt 0],[]⟩)
   (fun A R s=>s.heap.get? l=some (seqObj "list" items n)/\s.heap.get? b=some (seqObj "list" items2 n2)/\A.units+1<cLine/\ItsP s.heap items as/\ItsP s.heap items2 bs/\R (.ok (.ret (.bool (lexB (kyP (as.drop i)) (kyP (bs.drop i)))))) s):=by
 induction k with
 | zero =>
  intro i hk h1 h2 prog w A R s h;obtain⟨hp,g,d,tk,os⟩:=s;obtain⟨hl,hbb,hu,ha,hb,h⟩:=h;wp_walk using BH hl,BH hbb;have hi1:items[((i:Nat):Int).toNat]?=none:=by have:=ha.1;simp;omega
  rw[hi1];have e:lexB (kyP (as.drop i)) (kyP (bs.drop i))=decide (items.size<items2.size):=by
   rw[ha.1,hb.1,EM (by omega)];by_cases c:i<bs.length
   .rw[AQ (by omega),CF c];rfl
   .rw[AN (by omega),EM (by omega)];rfl
  rw[e]at h;wp_walk using BH hl,BH hbb;exact h
 | succ k ih =>
  intro i hk h1 h2 prog w A R s h;obtain⟨hp,g,d,tk,os⟩:=s;obtain⟨hl,hbb,hu,ha,hb,h⟩:=h;wp_walk using BH hl,BH hbb;have hlt:i<as.length:=by omega
  obtain⟨v,et,pa⟩:=ha.2 i as[i] (AC hlt);have hi1:items[((i:Nat):Int).toNat]?=some v:=by simpa using et
  by_cases c:i<bs.length
  .obtain⟨v2,eu,pb⟩:=hb.2 i bs[i] (AC c);have hi2:items2[((i:Nat):Int).toNat]?=some v2:=by simpa using eu
   have hc:((i:Int)+1) =((i+1:Nat):Int):=by push_cast;rfl
   rw[CF hlt,CF c,Rt]at h;rw[hi1,hi2];refine AA (Xs pa pb (show A.units+1<cLine from hu) ?_);by_cases e:as[i]=bs[i]
   .rw[AQ (show(as[i].1,as[i].2) =(bs[i].1,bs[i].2)from e)];have hz:pairLt (as[i].1.cps.toList,as[i].2.cps.toList) (bs[i].1.cps.toList,bs[i].2.cps.toList)=false:=by
     rw[e];unfold pairLt;simp[FP]
    rw[hz,AQ e,II,IJ]at h;wp_walk;rw[hc];exact⟨plainId_quiet plain_eq_loop _,GT entry_eq_loop (by
     rw[Around.under_plainId plain_eq_loop _];exact ih (i+1) (by omega) (by omega) (by omega) prog w A R _ ⟨hl,hbb,hu,ha,hb,h⟩)⟩
   .rw[AN (show ¬(as[i].1,as[i].2) =(bs[i].1,bs[i].2)from e)];rw[AN e,DZ,HN]at h;wp_walk using BH hl,BH hbb;rw[hi1,hi2];show wpAny _ _ (richCompare CmpOp.Lt v v2 >>= fun r=>ret r) _ _ _;exact AA (Xl pa pb (show A.units+1<cLine from hu) (AF h))
  .have hi2:items2[((i:Nat):Int).toNat]?=none:=by have:=hb.1;simp;omega
   rw[hi1,hi2];have e:lexB (kyP (as.drop i)) (kyP (bs.drop i))=decide (items.size<items2.size):=by
    rw[ha.1,hb.1,EM (l:=bs) (by omega),AN (by omega)];exact i8 _
   rw[e]at h;wp_walk using BH hl,BH hbb;exact h
theorem Tz(l b:Addr)(items items2:Array Value)(n n2:Nat)(as bs:List (Str×Str)) :
  Meets (Builtin.«list.__lt__» ⟨[.ref l,.ref b],[]⟩)
   (fun A R s=>s.heap.get? l=some (seqObj "list" items n)/\s.heap.get? b=some (seqObj "list" items2 n2)/\A.units+1<cLine/\ItsP s.heap items as/\ItsP s.heap items2 bs/\R (.ok (.ret (.bool (lexB (kyP as) (kyP bs))))) s):=by
 intro prog w A R s h;obtain⟨hp,g,d,tk,os⟩:=s;obtain⟨hl,hbb,h⟩:=h;have f3:=AutoSeq1.sub_list_list;wp_walk using BH hl,BH hbb;exact⟨plainId_quiet plain_eq_loop _,GT entry_eq_loop (by
  rw[Around.under_plainId plain_eq_loop _];exact Um l b items items2 n n2 as bs _ 0 rfl (CH _) (CH _) prog w A R _ ⟨hl,hbb,h⟩)⟩
section
variable{prog:Program}{w:World}{A:Around}{E:Value->Shared->Prop}{s:Shared}
theorem oneLt_listsP{l b:Addr}{items items2:Array Value}{n n2:Nat}{as bs:List (Str×Str)}{Q:Bool->Shared->Prop}(hu:A.units+3<cLine)(hl:s.heap.get? l=some (seqObj "list" items n))(hb:s.heap.get? b=some (seqObj "list" items2 n2))
  (ha:ItsP s.heap items as) (hc:ItsP s.heap items2 bs) (h:Q (lexB (kyP as) (kyP bs)) s) :
  wpAny (model prog w) A (oneLt' true (.ref l) (.ref b)) Q E s:=by
 rw[oneLt'_eq];simp only[FB];refine AA (wpAny_cRoomFor (by omega) ?_);refine AA (wpAny_callSpecialIfBound?_slot (T := "list") ⟨_,hl,rfl⟩ F.slot_list_lt (call_meets F.slot_list_lt ⟨_,hl,rfl⟩ F.entry_list_lt (F.args_list_lt_2 _ _) (Tz l b items items2 n n2 as bs) ⟨hl,hb,?_,ha,hc,?_⟩))
 .show A.units+1<cLine;omega
 exact DM h
end
end TS
namespace L2
open PySem PySem.Spec PyProof.Rows
abbrev LP:=Addr×List PA2
abbrev nw(l:List PA2):List (Str×Str):=l.map fun q=>q.2
def Zn(ts:List LP):List (Addr×List (List Nat)):=ts.map fun q=>(q.1,TS.kyP (nw q.2))
theorem Ru{h:Heap}{l:List PA2}(hp:∀q∈l,TS.PairAt h (.ref q.1) q.2.1 q.2.2):TS.ItsP h (l.map fun q=>Value.ref q.1).toArray (nw l):=by
 refine⟨by simp,fun j q e=>?_⟩;rw[AH]at e;obtain⟨r,er,rfl⟩:=CO.mp e;exact⟨.ref r.1,by simp[er],hp r (BN er)⟩
def zDl(h:Heap)(q:LP):Prop:=LAt h q.1 (q.2.map fun r=>Value.ref r.1)/\∀r∈q.2,TS.PairAt h (.ref r.1) r.2.1 r.2.2
theorem PairAt.keeps{h h':Heap}{v:Value}{x y:Str}(z:TS.PairAt h v x y)(k:∀b o,h.get? b=some o->h'.get? b=some o):TS.PairAt h' v x y:=by
 obtain⟨p,o,n,t,u,e,ho,r⟩:=z;exact⟨p,o,n,t,u,e,k _ _ ho,r⟩
theorem Nf{P:Program}{w:World}{s:Shared}{a:Addr}{ts:List LP}{h0:Heap}(hv:∀q∈ts,zDl h0 q)(hk:∀b o,h0.get? b=some o->b≠a/\s.heap.get? b=some o) :
  TS.Keys2 P w a s (TS.lexKind (Zn ts)) oneType' (ts.map fun q=>Value.ref q.1):=by
 refine⟨fun A s' hu hE=>⟨fun x y k l Q E hx hy q=>?_⟩,fun v hvm=>?_,fun h2 A E s' Q hE q=>?_⟩
 .obtain⟨_,m1,rfl,rfl⟩:=TS.lexKey_mem hx;obtain⟨_,m2,rfl,rfl⟩:=TS.lexKey_mem hy;obtain⟨x,mx,rfl⟩:=AK.mp m1;obtain⟨y,my,rfl⟩:=AK.mp m2;have kp:∀b o,h0.get? b=some o->s'.heap.get? b=some o:=fun b o e=>hE _ _ (hk _ _ e).1 (hk _ _ e).2;obtain⟨⟨n1,e1⟩,v1⟩:=hv x mx;obtain⟨⟨n2,e2⟩,v2⟩:=hv y my;rw[keyLt'_oneType];exact TS.oneLt_listsP (by omega) (kp _ _ e1) (kp _ _ e2) (Ru fun q hq=>PairAt.keeps (v1 q hq) kp) (Ru fun q hq=>PairAt.keeps (v2 q hq) kp) q
 .obtain⟨q,hq,rfl⟩:=AK.mp hvm;exact TS.lexKey_some (q:=(q.1,TS.kyP (nw q.2))) (AK.mpr ⟨q,hq,rfl⟩)
 .refine PySem.W.kas_kind (T:=.type "list") h2 (fun v hvm=>?_) (by decide) (by decide) q;obtain⟨q,hq,rfl⟩:=AK.mp hvm;obtain⟨⟨n1,e1⟩,v1⟩:=hv q hq;exact(PySem.W.Looks.ld (hE _ _ (hk _ _ e1).1 (hk _ _ e1).2)).andThen .now
section
variable{X:Cx}
def LPIn(H:Hp)(q:LP):Prop:=H q.1=some (.lst (q.2.map fun r=>V.ref r.1))/\∀r∈q.2,E2 H r
theorem LPIn.same{H:Hp}{q r:LP}(hq:LPIn H q)(hr:LPIn H r)(e:q.1=r.1):nw q.2=nw r.2:=by
 have e3:=hq.1.symm.trans ((congrArg H e).trans hr.1);have e4:=HO.lst.inj (BI e3);have h1:=hq.2;have h2:=hr.2;obtain⟨a,l⟩:=q;obtain⟨b,m⟩:=r;clear hq hr e e3;simp only at e4 h1 h2⊢
 induction l generalizing m with
 | nil=>cases m with
  | nil=>rfl
  | cons _ _=>cases e4
 | cons x l ih=>cases m with
  | nil=>cases e4
  | cons y m =>
   rw[AX,AX]at e4;obtain⟨e5,e6⟩:=FZ e4;have e5:x.1=y.1:=V.ref.inj e5;have e7:=(h1 x A_).symm.trans ((congrArg H e5).trans (h2 y A_));have e8:=HO.tup.inj (BI e7);simp only[List.cons.injEq,V.str.injEq,and_true]at e8;show x.2::nw l=y.2::nw m;rw[ih (fun r hr=>h1 r (AO _ hr)) m (fun r hr=>h2 r (AO _ hr)) e6,Prod.ext e8.1 e8.2]
theorem Inv.plAt{pins:List (Addr×Obj)}{σ:St}{H:Hp}{s:Shared}{q:LP}(I:Inv X pins σ H s)(h:LPIn H q):zDl s.heap q:=by
 obtain⟨z,its,n,rv,e⟩:=I.hok _ _ h.1;have ei:=Al rv;subst ei;exact⟨⟨n,e⟩,fun r hr=>I.pairAt (h.2 r hr)⟩
def Ra(K:PySem.W.Frag):List V->Hp->VK->Prop:=fun xs H Q=>∃(p:Addr) (ts:List LP),xs = [.ref p]/\SqL K H p (ts.map fun q=>V.ref q.1)/\(∀q∈ts,LPIn H q) /\
  ∀(l:Addr) (ts':List LP),H l=none->ts'.Perm ts->ts'.Pairwise (fun a b=>TS.lexB (TS.kyP (nw b.2)) (TS.kyP (nw a.2))=false)->Q (.ref l) (upd H l (.lst (ts'.map fun q=>V.ref q.1)))
theorem Df(hu:X.A.units+64<cLine):E8 X (.builtin "sorted") (Ra X.K):=by
 intro pins s σ H xs us Q I r h;obtain⟨p,ts,rfl,hq,hpi,q⟩:=h;obtain⟨u,rfl,ru⟩:=W8 r;cases ru;obtain⟨its,rv,pl,hz⟩:=I.list hq;have ei:=Xc rv;have hl:=rv.length;refine TS.sorted_gen2 (by omega) (collect_list (vs:=its) pl.isList ?_ (by omega));have hsz:((s.heap.push (seqObj "list" #[] 0)).update s.heap.objs.size (Obj.mapSeq (· ++ its.toArray))).objs.size=s.heap.objs.size+1:=by rw[ET,size_push']
 have hk1:∀b o,s.heap.get? b=some o->((s.heap.push (seqObj "list" #[] 0)).update s.heap.objs.size (Obj.mapSeq (· ++ its.toArray))).get? b=some o:=fun b o eb=>by
  rw[HH _ _ _ _ (BB (AI eb))];exact AD _ eb
 have hpa:∀q∈ts,zDl s.heap q:=fun q hq=>I.plAt (hpi q hq);refine⟨rfl,by omega,TS.lexKind (Zn ts),oneType',fun s2 hE=>?_,fun out h' e ho k hg=>?_⟩
 .rw[ei];refine Nf hpa fun b o eb=>?_;rw[<-ei];have hne:b≠((s.heap.push (seqObj "list" #[] 0)).update s.heap.objs.size (Obj.mapSeq (· ++ its.toArray))).objs.size:=by
   rw[hsz];exact BB (DG (AI eb))
  exact⟨hne,hE b o hne (hk1 b o eb)⟩
 .obtain⟨hp,hs⟩:=ho;rw[ei]at hp;obtain⟨ts',h1,h2⟩:=U1 (fun q:LP=>Value.ref q.1) hp ts rfl;have ky:∀q∈ts,TS.lexKey (Zn ts) (.ref q.1)=some (TS.kyP (nw q.2)):=fun q hq=>by
   obtain⟨k,e⟩:=TS.lexKey_some (tab:=Zn ts) (q:=(q.1,TS.kyP (nw q.2))) (AK.mpr ⟨q,hq,rfl⟩);obtain⟨_,m,e1,e2⟩:=TS.lexKey_mem e;obtain⟨r,mr,rfl⟩:=AK.mp m;have e1:q.1=r.1:=Value.ref.inj e1;rw[e,<-e2,(hpi q hq).same (hpi r mr) e1]
  have hpw:ts'.Pairwise (fun a b=>TS.lexB (TS.kyP (nw b.2)) (TS.kyP (nw a.2))=false):=by
   rw[h2,CD]at hs;refine(FS.mp hs).imp fun{a b} ⟨ha,hb,z⟩=>?_;have z':TS.lexB ((TS.lexKey (Zn ts) (.ref b.1)).getD []) ((TS.lexKey (Zn ts) (.ref a.1)).getD [])=false:=z;rw[ky a (h1.mem_iff.mp ha),ky b (h1.mem_iff.mp hb)]at z';exact z'
  have hn:H (s.heap.objs.size+1)=none:=I.hok.fresh (DC _);have hg':h'.get? (s.heap.objs.size+1)=some (seqObj "list" out e):=by rw[<-hsz];exact hg
  refine⟨.ref (s.heap.objs.size+1),upd H (s.heap.objs.size+1) (.lst (ts'.map fun q=>V.ref q.1)),?_,by show Value.ref _=_;rw[<-hsz],q _ _ hn h1 hpw⟩;refine I.laid (t':=s.toks) (fun b o eb=>k b o (hk1 b o eb)) (DC _) ⟨?_,out.toList,e,by rw[h2];exact Yb ts',by simpa using hg'⟩;rw[AB,h1.length_eq];rw[AB]at hz;exact hz
theorem Hj(K:PySem.W.Frag)(hu:X.A.units+64<cLine)(hK:X.K=K:=by rfl):E8 X (.builtin "sorted") (Ra K):=by subst hK;exact Df hu
end
theorem Rz{α:Type}(xs:List α):((List.range xs.length).filterMap fun k=>xs[xs.length-1-k]?)=xs.reverse:=by
 have h:∀n,n<=xs.length->((List.range n).filterMap fun k=>xs[xs.length-1-k]?) =(xs.drop (xs.length-n)).reverse:=by
  intro n
  induction n with
  | zero=>intro _;rw[Nat.sub_zero,List.drop_length];rfl
  | succ n ih =>
   intro hn;have hi:xs.length-1-n<xs.length:=by omega
   have e:xs.length-(n+1)=xs.length-1-n:=by omega
   rw[DN,GX,ih (by omega),e,CF hi,List.reverse_cons];congr 1
   .congr 2;omega
   .simp only[DH,List.filterMap_nil,AC hi]
 have:=h xs.length (Nat.le_refl _)
 rwa [Nat.sub_self,E_]at this
theorem Do(its:List Value):slicePick its.toArray none none (some (-1))=its.reverse.toArray:=by
 have e:(if(-1:Int)>0 then(if((its.length:Int)-1) < -1 then(-1-((its.length:Int)-1) +(-1)-1) / (-1)else 0)else(if((its.length:Int)-1) > -1 then(((its.length:Int)-1)-(-1)-(-1)-1) / (-(-1))else 0)).toNat=its.length:=by
  rw[AJ (by decide)];by_cases h:((its.length:Int)-1) > -1
  .rw[AL h];have:(((its.length:Int)-1)-(-1)-(-1)-1) / (-(-1)) =(its.length:Int):=by
    rw[show -(-1:Int)=1 from rfl,Int.ediv_one];omega
   rw[this];omega
  .rw[AJ h];omega
 have hb:sliceBounds none none (some (-1)) its.toArray.size =((its.length:Int)-1,-1,-1):=by
  simp[sliceBounds]
 unfold slicePick sliceRange;rw[hb];simp only[];rw[e,List.filterMap_map,<-Rz];congr 1;have:∀n,n<=its.length->(List.range n).filterMap ((fun x=>its.toArray[x]?)∘fun k:Nat=>((its.length:Int)-1 + -1 *(k:Int)).toNat) =(List.range n).filterMap fun k=>its[its.length-1-k]?:=by
  intro n
  induction n with
  | zero=>intro _;rfl
  | succ n ih =>
   intro hn;rw[DN,GX,GX,ih (by omega)];congr 1;have e2:((its.length:Int)-1 + -1 *(n:Int)).toNat=its.length-1-n:=by omega
   simp only[DH,List.filterMap_nil,Function.comp,e2];simp
 exact this _ (Nat.le_refl _)
theorem Ui{xs:List V}{us:List Value}(r:Vals xs us):Vals xs.reverse us.reverse:=by
 have app:∀{a c:List V} {b d:List Value},Vals a b->Vals c d->Vals (a++c) (b++d):=by
  intro a c b d h1 h2
  induction h1 with
  | nil=>exact h2
  | cons r _ ih=>exact .cons r ih
 induction r with
 | nil=>exact .nil
 | cons r _ ih=>rw[List.reverse_cons,List.reverse_cons];exact app ih (.cons r .nil)
def zGl(K:PySem.W.Frag)(te:TE)(ts:TO):TE:=fun σ H Q=>te σ H fun x H1=>ts σ H1 fun c H3=>c=some (-1)/\∃a xs,x = .ref a/\SqL K H3 a xs/\∀p,H3 p=none->Q (.ref p) (upd H3 p (.lst xs.reverse))
theorem Gw{X:Cx}(K:PySem.W.Frag){e:Expr}{te:TE}{st:Expr}{ts:TO}{pos p2:Pos}(he:PE X e te)(hst:PO X (some st) ts)(hK:X.K=K:=by rfl):PE X (.Subscript e (.Slice none none (some st) p2) pos) (zGl K te ts):=by
 subst hK;intro pins s σ H Q I h;refine Subscript_ (thn (he pins s σ H _ I h) fun v s1 ⟨x,H1,I1,r1,q1⟩=>?_);refine wpAny_Slice ?_;rw[evalPart_none];refine AF (AF (thn (hst pins s1 σ H1 _ I1 q1) fun vs s3 ⟨c,H3,I3,ps,hc,a,xs,ex,hx,q⟩=>?_));subst ex;cases r1;have I4:Inv X pins σ H3 { s3 with heap:=s3.heap.push { cls:=.type "slice",data:=.fields #[.none,.none,vs] } }:=I3.kept (t':=s3.toks) fun b ob q=>AD _ q;obtain⟨its,r,ht,hz⟩:=I4.list hx;have hlen:=r.length;have hg:wpAny (model X.prog X.w) X.A (getItem (.ref a) (.ref s3.heap.objs.size)) (EP X pins σ Q) X.xe { s3 with heap:=s3.heap.push { cls:=.type "slice",data:=.fields #[.none,.none,vs] } }:=by
  refine wpAny_getItem_list_slice ht.isList (Heap.IsSliceOf.new ..) .none .none ps (by rw[hc];decide) ?_ (by rw[BA]<;>omega);rw[hc,Do its];refine⟨.ref _,_,I4.laid (t':=s3.toks) (o:=.lst xs.reverse) (fun b ob q=>AD _ q) (Nat.le_refl _) ?_,rfl,q _ (I4.hok.fresh (Nat.le_refl _))⟩;exact⟨by rw[List.length_reverse];exact hz,_,0,Ui r,AS _ rfl⟩
 show wpAny (model X.prog X.w) X.A (subscriptTail e (.Slice none none (some st) p2) (.ref a) (.ref s3.heap.objs.size)) (EP X pins σ Q) X.xe { s3 with heap:=s3.heap.push { cls:=.type "slice",data:=.fields #[.none,.none,vs] } };exact tail_any (ops:=[.ref a,.ref s3.heap.objs.size]) ht.isList.typeIs slot_list_getitem.lookup hg (by with_unfolding_all rfl)
end L2
namespace Sw
open PySem L2
def top(i:Nat):Stmt:=PySem.Challenge.pw_strikeweave_k28_lists_by_turns.main.body.getD i (.Pass ⟨0,0,0,0⟩)
abbrev s_struck_by_any:Stmt:=top 8
abbrev s_words_by:Stmt:=top 9
abbrev s_joined:Stmt:=top 13
abbrev s_first_bit:Stmt:=top 14
abbrev s_standing_sets:Stmt:=top 15
abbrev s_whole_sets:Stmt:=top 16
abbrev s_greatest_sets:Stmt:=top 17
abbrev s_outright_sets:Stmt:=top 18
abbrev s_tellings:Stmt:=top 19
abbrev s_all_found:Stmt:=top 20
abbrev s_gather:Stmt:=top 21
abbrev s_settle_standing:Stmt:=top 22
abbrev s_settle_whole:Stmt:=top 23
abbrev s_settle_outright:Stmt:=top 24
abbrev s_is_name:Stmt:=top 29
abbrev s_check_names:Stmt:=top 30
abbrev s_check_strikes:Stmt:=top 31
abbrev s_is_strike:Stmt:=top 32
abbrev s_law_mix:Stmt:=top 34
abbrev s_law_left:Stmt:=top 35
abbrev s_law_pick:Stmt:=top 36
abbrev s_law_names:Stmt:=top 37
abbrev s_law_size:Stmt:=top 38
abbrev s_law_strikes:Stmt:=top 39
abbrev s_law_web:Stmt:=top 40
abbrev s_law_masks:Stmt:=top 41
abbrev s_law_set_of:Stmt:=top 42
abbrev s_law_hit:Stmt:=top 43
abbrev s_law_kept:Stmt:=top 44
abbrev s_law_is_quiet:Stmt:=top 45
abbrev s_law_stands:Stmt:=top 46
abbrev s_law_all_standing:Stmt:=top 47
abbrev s_law_sets:Stmt:=top 48
abbrev s_law_greatest:Stmt:=top 49
abbrev s_law_is_outright:Stmt:=top 50
abbrev s_law_words:Stmt:=top 51
abbrev s_law_due:Stmt:=top 52
abbrev s_law_asked:Stmt:=top 53
abbrev s_law_right:Stmt:=top 54
abbrev s_law:Stmt:=top 55
abbrev s_BadName___init__:Stmt:=G0 (top 3) 0
abbrev s_BadStrike___init__:Stmt:=G0 (top 4) 0
abbrev s_Marks___init__:Stmt:=G0 (top 12) 0
abbrev s_Marks_bits_in:Stmt:=G0 (top 12) 1
abbrev s_Marks_names_in:Stmt:=G0 (top 12) 2
abbrev s_Marks_first_name:Stmt:=G0 (top 12) 3
abbrev s_Marks_set_of:Stmt:=G0 (top 12) 4
abbrev s_Marks_struck_by:Stmt:=G0 (top 12) 5
abbrev s_Marks_strikers_at:Stmt:=G0 (top 12) 6
abbrev s_Marks_unstruck_by:Stmt:=G0 (top 12) 7
abbrev s_Marks_kept:Stmt:=G0 (top 12) 8
abbrev s_Web___init__:Stmt:=G0 (top 28) 0
abbrev s_Web_all_names:Stmt:=G0 (top 28) 1
abbrev s_Web_all_strikes:Stmt:=G0 (top 28) 2
abbrev s_Web_strikers:Stmt:=G0 (top 28) 3
abbrev s_Web_struck:Stmt:=G0 (top 28) 4
abbrev s_Web_check_has:Stmt:=G0 (top 28) 5
structure Tx(K:PySem.W.Frag)(mg:Str->Option Value) where
 aO:Fn K mg "struck_by_any" s_struck_by_any ["web", "some"]
 bd:Fn K mg "words_by" s_words_by ["web", "some"]
 bg:Fn K mg "joined" s_joined ["sets"]
 as:Fn K mg "first_bit" s_first_bit ["some"]
 au:Fn K mg "standing_sets" s_standing_sets ["web"]
 aD:Fn K mg "whole_sets" s_whole_sets ["web"]
 av:Fn K mg "greatest_sets" s_greatest_sets ["web"]
 aw:Fn K mg "outright_sets" s_outright_sets ["web"]
 aS:Fn K mg "tellings" s_tellings ["web"]
 ag:Fn K mg "all_found" s_all_found ["web", "settle", "greatest"]
 ai:Fn K mg "gather" s_gather ["marks", "settle", "greatest", "chosen", "barred", "found"]
 ae:Fn K mg "settle_standing" s_settle_standing ["marks", "chosen", "barred"]
 aj:Fn K mg "settle_whole" s_settle_whole ["marks", "chosen", "barred"]
 am:Fn K mg "settle_outright" s_settle_outright ["marks", "chosen", "barred"]
 bi:Fn K mg "is_name" s_is_name ["thing"]
 aW:Fn K mg "check_names" s_check_names ["names"]
 aP:Fn K mg "check_strikes" s_check_strikes ["names", "strikes"]
 a4:Fn K mg "is_strike" s_is_strike ["names", "thing"]
 bc:Fn K mg "_law_mix" s_law_mix ["_law_cell", "_law_k"]
 a0:Fn K mg "_law_left" s_law_left ["_law_script", "_law_k"]
 al:Fn K mg "_law_pick" s_law_pick ["_law_left_here", "_law_many"]
 a5:Fn K mg "_law_names" s_law_names ["_law_left_here", "_law_many"]
 be:Fn K mg "_law_size" s_law_size ["_law_left_here"]
 aX:Fn K mg "_law_strikes" s_law_strikes ["_law_left_here", "_law_names_here"]
 bj:Fn K mg "_law_web" s_law_web ["_law_left_here"]
 a6:Fn K mg "_law_masks" s_law_masks ["_law_names_here", "_law_strikes_here"]
 a1:Fn K mg "_law_set_of" s_law_set_of ["_law_view", "_law_mask"]
 aR:Fn K mg "_law_hit" s_law_hit ["_law_view", "_law_mask"]
 a2:Fn K mg "_law_kept" s_law_kept ["_law_view", "_law_mask"]
 aA:Fn K mg "_law_is_quiet" s_law_is_quiet ["_law_view", "_law_mask"]
 a3:Fn K mg "_law_stands" s_law_stands ["_law_view", "_law_mask"]
 aG:Fn K mg "_law_all_standing" s_law_all_standing ["_law_view"]
 aM:Fn K mg "_law_sets" s_law_sets ["_law_view", "_law_masks_here"]
 aT:Fn K mg "_law_greatest" s_law_greatest ["_law_masks_here"]
 aJ:Fn K mg "_law_is_outright" s_law_is_outright ["_law_view", "_law_mask"]
 a7:Fn K mg "_law_words" s_law_words ["_law_view", "_law_mask"]
 bk:Fn K mg "_law_due" s_law_due ["_law_names_here", "_law_strikes_here"]
 a8:Fn K mg "_law_asked" s_law_asked ["_law_word", "_law_web_here"]
 a9:Fn K mg "_law_right" s_law_right ["_law_found", "_law_due_here"]
 aa:Addr
 ab:Cls K aa
 bt:mg "Marks" = some (.ref aa)
 aK:NoAttr K aa "names"
 ax:NoAttr K aa "full"
 bm:NoAttr K aa "bit_of"
 aB:NoAttr K aa "strikers_of"
 bf:NoAttr K aa "struck_of"
 ba:NoAttr K aa "loops"
 aV:Addr
 aU:FuncData
 br:Fun K "__init__" "Marks.__init__" s_Marks___init__ aV aU
 bh:Binds K aU ["self", "web"] []
 bu:Mk K aa aV
 ao:Mt K aa "bits_in" "Marks.bits_in" s_Marks_bits_in ["self", "some"]
 af:Mt K aa "names_in" "Marks.names_in" s_Marks_names_in ["self", "some"]
 bM:Mt K aa "first_name" "Marks.first_name" s_Marks_first_name ["self", "some"]
 bN:Mt K aa "set_of" "Marks.set_of" s_Marks_set_of ["self", "some"]
 ad:Mt K aa "struck_by" "Marks.struck_by" s_Marks_struck_by ["self", "some"]
 ar:Mt K aa "strikers_at" "Marks.strikers_at" s_Marks_strikers_at ["self", "some"]
 ah:Mt K aa "unstruck_by" "Marks.unstruck_by" s_Marks_unstruck_by ["self", "some"]
 aN:Mt K aa "kept" "Marks.kept" s_Marks_kept ["self", "some"]
 ac:Addr
 an:Cls K ac
 bA:mg "Web" = some (.ref ac)
 aQ:NoAttr K ac "names"
 bo:NoAttr K ac "strikes"
 aH:NoAttr K ac "strikers_by_name"
 aL:NoAttr K ac "struck_by_name"
 bw:Addr
 bv:FuncData
 bx:Fun K "__init__" "Web.__init__" s_Web___init__ bw bv
 bn:Binds K bv ["self", "names", "strikes"] []
 bB:Mk K ac bw
 ap:Mt K ac "all_names" "Web.all_names" s_Web_all_names ["self"]
 bO:Mt K ac "all_strikes" "Web.all_strikes" s_Web_all_strikes ["self"]
 aF:Mt K ac "strikers" "Web.strikers" s_Web_strikers ["self", "name"]
 ay:Mt K ac "struck" "Web.struck" s_Web_struck ["self", "name"]
 aq:Mt K ac "check_has" "Web.check_has" s_Web_check_has ["self", "name"]
 bP:Addr
 bQ:List Value
 bR:XC K bP bQ
 bS:mg "StrikeError" = some (.ref bP)
 bT:Addr
 bU:List Value
 bV:XC K bT bU
 bW:mg "BadName" = some (.ref bT)
 bX:Addr
 bY:List Value
 bZ:XC K bX bY
 b0:mg "BadStrike" = some (.ref bX)
 b1:Addr
 b2:List Value
 b3:XC K b1 b2
 b4:mg "NoName" = some (.ref b1)
 ak:Addr
 b5:List Value
 aI:XC K ak b5
 bl:mg "TooMany" = some (.ref ak)
 b6:XG K bT
 b7:IsC K bT
 b8:NoAttr K bT "place"
 b9:Addr
 ca:FuncData
 cb:Fun K "__init__" "BadName.__init__" s_BadName___init__ b9 ca
 cc:Binds K ca ["self", "place"] []
 cd:Meth K bT "__init__" b9
 ce:XG K bX
 cf:IsC K bX
 cg:NoAttr K bX "place"
 ch:Addr
 ci:FuncData
 cj:Fun K "__init__" "BadStrike.__init__" s_BadStrike___init__ ch ci
 ck:Binds K ci ["self", "place"] []
 cl:Meth K bX "__init__" ch
 cm:XG K b1
 cn:IsC K b1
 co:PySem.W.findIn K (.ref b1) "__init__" = some (some (.builtin "ValueError.__init__"))
 cp:XG K ak
 cq:IsC K ak
 cr:(Value.ref ak::b5).contains (.ref ak)=true
 bq:PySem.W.findIn K (.ref ak) "__init__" = some (some (.builtin "ValueError.__init__"))
 bC:∃t,mg "MOST" = some (.int 300 t)
 bF:∃t,mg "LETTERS" = some (.str "abcdefghijklmnopqrstuvwxyz" t)
 bz:∃t,mg "LONGEST_NAME" = some (.int 8 t)
 az:mg "len" = none
 aY:mg "range" = none
 aE:mg "enumerate" = none
 bH:mg "min" = none
 bI:mg "max" = none
 bp:mg "sum" = none
 bD:mg "abs" = none
 aC:mg "sorted" = none
 bJ:mg "int" = none
 bK:mg "str" = none
 aZ:mg "list" = none
 bG:mg "tuple" = none
 bE:mg "set" = none
 bb:mg "isinstance" = none
 bL:mg "all" = none
 bs:mg "any" = none
 cs:mg "ValueError" = none
end Sw
namespace L2
open PySem
theorem fsc{N ps:List Str}{sc:Scope}(h1:sc.kind = .function:=by rfl)(h2:sc.isCoroutine=false:=by rfl)(h3:sc.isGenerator=false:=by rfl)(h4:N.Nodup:=by decide +kernel)(h5:N.take ps.length=ps:=by rfl)(h6:∀x∈ps,sc.names.lookup x=some .local\/sc.names.lookup x=some .cell:=by decide +kernel)(h7:∀y∈sc.names,y.2≠ .free:=by decide +kernel):FnScope N ps sc:=⟨h1,h2,h3,h4,h5,h6,h7⟩
theorem Rm{j k:Nat}{A:Around}(h:Room k A)(e:j<=k:=by decide):Room j A:=h.mono e
theorem Y4{J:It}{xs:List V}{a:Addr}{H0:Hp}(as:AsSeq J xs a H0){g:TG}{tb:TS}{D:Ends}{σ:St}{H:Hp}(Pv:Nat->St->Hp->Prop)(h0:Pv 0 σ H)(hk:∀i σ H,i<=xs.length->Pv i σ H->KeepAt a H0 H)
  (hs:∀i σ H x,xs[i]?=some x->Pv i σ H->∀D':Ends,(∀σ' H',Pv (i+1) σ' H'->D'.nx σ' H')->D'.rt=D.rt->g x σ H fun σ2 H2=>tb D' σ2 H2) (hd:∀σ H,Pv xs.length σ H->D.nx σ H) :
  ∃W:Nat->Nat->St->Hp->Prop,(∃m,W 0 m σ H)/\∀i m σ H,W i m σ H ->
   (J.stop i H/\D.nx σ H)\/(J.go i H/\∃N:St->Hp->Prop,(∀σ' H',N σ' H'->∃m',m' < m/\W (i+1) m' σ' H')/\∀x H',J.yld i H x H'->g x σ H' fun σ2 H2=>tb { D with nx:=N,ct:=N,bk:=D.nx } σ2 H2) :=
 zBp as Pv h0 hk (fun i σ H x hx hp=>hs i σ H x hx hp _ (fun _ _ z=>z) rfl) hd
theorem M6{lo:Int}{n:Nat}{g:TG}{tb:TS}{D:Ends}{σ:St}{H:Hp}(Pv:Nat->St->Hp->Prop)(h0:Pv 0 σ H)
  (hs:∀i σ H,i<n->Pv i σ H->∀D':Ends,(∀σ' H',Pv (i+1) σ' H'->D'.nx σ' H')->D'.rt=D.rt->g (.int (lo+i)) σ H fun σ2 H2=>tb D' σ2 H2) (hd:∀σ H,Pv n σ H->D.nx σ H) :
  ∃W:Nat->Nat->St->Hp->Prop,(∃m,W 0 m σ H)/\∀i m σ H,W i m σ H ->
   ((Itr lo n).stop i H/\D.nx σ H)\/((Itr lo n).go i H/\∃N:St->Hp->Prop,(∀σ' H',N σ' H'->∃m',m' < m/\W (i+1) m' σ' H')/\∀x H',(Itr lo n).yld i H x H'->g x σ H' fun σ2 H2=>tb { D with nx:=N,ct:=N,bk:=D.nx } σ2 H2) :=
 Pj Pv h0 (fun i σ H hi hp=>hs i σ H hi hp _ (fun _ _ z=>z) rfl) hd
theorem ex1{α:Type}{A C:α->Prop}{a:α}(e:A a)(h:C a):∃v,A v/\C v:=⟨a,e,h⟩
theorem Dl{α0 α1 α2:Type}{A0 A1 A2 A3 A4 A5:α0->α1->α2->Prop}{a:α0}{b:α1}{c:α2}(h0:A0 a b c)(h1:A1 a b c)(h2:A2 a b c)(h3:A3 a b c)(h4:A4 a b c)(h5:A5 a b c):∃a b c,A0 a b c/\A1 a b c/\A2 a b c/\A3 a b c/\A4 a b c/\A5 a b c:=⟨a,b,c,h0,h1,h2,h3,h4,h5⟩
theorem Th{α0 α1 α2 α3 α4 α5 α6:Type}{A0 A1 A2 A3:α0->α1->α2->α3->α4->α5->α6->Prop}{a:α0}{b:α1}{c:α2}{d:α3}{e:α4}{f:α5}{g:α6}(h0:A0 a b c d e f g)(h1:A1 a b c d e f g)(h2:A2 a b c d e f g)(h3:A3 a b c d e f g):∃a b c d e f g,A0 a b c d e f g/\A1 a b c d e f g/\A2 a b c d e f g/\A3 a b c d e f g:=⟨a,b,c,d,e,f,g,h0,h1,h2,h3⟩
theorem zDw{α0 α1 α2 α3 α4:Type}{A0 A1 A2 A3 A4:α0->α1->α2->α3->α4->Prop}{a:α0}{b:α1}{c:α2}{d:α3}{e:α4}(h0:A0 a b c d e)(h1:A1 a b c d e)(h2:A2 a b c d e)(h3:A3 a b c d e)(h4:A4 a b c d e):∃a b c d e,A0 a b c d e/\A1 a b c d e/\A2 a b c d e/\A3 a b c d e/\A4 a b c d e:=⟨a,b,c,d,e,h0,h1,h2,h3,h4⟩
theorem zBs{α0 α1 α2 α3 α4 α5:Type}{A0 A1 A2 A3 A4 A5 A6 A7:α0->α1->α2->α3->α4->α5->Prop}{a:α0}{b:α1}{c:α2}{d:α3}{e:α4}{f:α5}(h0:A0 a b c d e f)(h1:A1 a b c d e f)(h2:A2 a b c d e f)(h3:A3 a b c d e f)(h4:A4 a b c d e f)(h5:A5 a b c d e f)(h6:A6 a b c d e f)(h7:A7 a b c d e f):∃a b c d e f,A0 a b c d e f/\A1 a b c d e f/\A2 a b c d e f/\A3 a b c d e f/\A4 a b c d e f/\A5 a b c d e f/\A6 a b c d e f/\A7 a b c d e f:=⟨a,b,c,d,e,f,h0,h1,h2,h3,h4,h5,h6,h7⟩
theorem zEq{α0 α1 α2 α3:Type}{A0 A1 A2 A3 A4 A5 A6:α0->α1->α2->α3->Prop}{a:α0}{b:α1}{c:α2}{d:α3}(h0:A0 a b c d)(h1:A1 a b c d)(h2:A2 a b c d)(h3:A3 a b c d)(h4:A4 a b c d)(h5:A5 a b c d)(h6:A6 a b c d):∃a b c d,A0 a b c d/\A1 a b c d/\A2 a b c d/\A3 a b c d/\A4 a b c d/\A5 a b c d/\A6 a b c d:=⟨a,b,c,d,h0,h1,h2,h3,h4,h5,h6⟩
theorem B7{α0 α1:Type}{A0 A1 A2:α0->α1->Prop}{a:α0}{b:α1}(h0:A0 a b)(h1:A1 a b)(h2:A2 a b):∃a b,A0 a b/\A1 a b/\A2 a b:=⟨a,b,h0,h1,h2⟩
theorem B5{t u:TS}{D:Ends}{σ:St}{H:Hp}(h:∀N:St->Hp->Prop,(∀σ' H',u D σ' H'->N σ' H')->t { D with nx:=N } σ H):Zq t u D σ H:=h _ fun _ _ z=>z
theorem zAw{i:Nat}{v:V}{t u:TS}{D:Ends}{σ:St}{H:Hp}(h:∀N:St->Hp->Prop,(∀σ' H',u D σ' H'->N σ' H')->t { D with nx:=N } (σ.set i (some v)) H):S8 i v σ H (fun σ2 H2=>Zq t u D σ2 H2):=h _ fun _ _ z=>z
end L2
namespace Sw
open PySem L2
section
variable{P:Program}{w:World}{K:PySem.W.Frag}{mg:Str->Option Value}{base:Heap}
def Xu(c:Nat):Bool:=decide (97<=c)&&decide (c<=122)
def Q7(x:Str):Bool:=decide (1<=x.length)&&decide (x.length<=8)&&x.cps.toList.all Xu
theorem Ji:("abcdefghijklmnopqrstuvwxyz":Str).cps.toList=List.range' 97 26:=by decide +kernel
theorem Wy(c:Nat):decide (c∈("abcdefghijklmnopqrstuvwxyz":Str).cps.toList)=Xu c:=by
 rw[Ji];unfold Xu;by_cases h1:97<=c
 .by_cases h2:c<=122
  .rw[AQ (List.mem_range'_1.mpr (by omega)),AQ h1,AQ h2];rfl
  .rw[AN (fun z=>by have:=List.mem_range'_1.mp z;omega),AN h2,HY]
 .rw[AN (fun z=>by have:=List.mem_range'_1.mp z;omega),AN h1,DZ]
theorem Ml:FnScope ["thing"] ["thing"] (B4 s_is_name):=fsc
def Mm:Sp:=fun vs H Q _=>∃x,vs = [.str x]/\x.length<=1000/\∀H',Same H H'->Q (.bl (Q7 x)) H'
theorem Mu(T:Tx K mg):FnOk P w K mg base CX0 1 T.bi.f T.bi.fd ["thing"] Mm:=by
 refine T.bi.F.ok Ml (fun vs H Q E h=>?_) (fun cdv A outer s H vs Q E hr h=>?_)
 .obtain⟨x,rfl,_⟩:=h;rfl
 .obtain⟨x,rfl,hx,k⟩:=h;refine⟨_,(B1 (G9 (PW.pt (Iu (X4 (K2 (E6 (Je K) T.bb R8 (A8 (pv 0) (A8 (Yh T.bK zCh) B0))))) (Av (X4 (Vh zCi zCi B6 (E6 Gv T.az O3 (A8 (pv 0) B0)) (Wv T.bz)))))) (B2 (C1 f7)) C9)
   (B2 (C1 (E6 (zBd K) T.bL zBt (A8 (T0 (N':=["letter"]) (cap:=[none]) (cl:=[]) (K0 trivial trivial) rfl (zBg (pv 0)) (fun _ _ _ _=>by exact⟨(pgC 0),E5,(K4 Qa (pv 0) (zDi T.bF) rfl)⟩)) B0))))),?_⟩
  have h64:x.length<=sizeLine:=by rw[sizeLine_eq];omega
  have hlen:x.cps.size=x.length:=rfl;refine ex1 rfl ⟨.str x, "str",_,true,rfl,.str x,rfl,ex1 rfl ?_⟩;refine X1 ?_;refine ex1 rfl ⟨x,rfl,h64,B7 rfl rfl (ex1 rfl ?_)⟩;refine Q6 (fun c1=>?_) (fun c1=>?_)
  .have c1:(1:Int)<=(x.length:Int):=BL c1;refine B7 rfl rfl (ex1 rfl ?_);by_cases c2:(x.length:Int)<=8
   .rw[AQ c2];refine X1 ?_;refine ex1 rfl ⟨x,rfl,fun D hD=>?_⟩;refine Bw (n:=x.cps.size) (fun i σ H'=>(∃v,σ = [v])/\Same H H'/\H' D=some (.lst ((x.cps.toList.take i).map fun c=>V.bl (Xu c)))) ⟨⟨_,rfl⟩,Same.new hD,upd_same⟩ (fun i _ _ hi _=>hi) (fun _ _ _=>rfl) ?_ ?_
    .rintro i σ H1 v H' N hi ⟨⟨v0,rfl⟩,s1,e1⟩ ⟨rfl,c,hc,rfl⟩ hN;refine Au ?_;refine ex1 rfl (B7 rfl rfl ⟨_,e1,?_,?_⟩)
     .rw[AB,AW,sizeLine_eq];omega
     .rw[PySem.StrLaws.found_one,Wy];refine hN _ _ ⟨⟨_,rfl⟩,s1.upd hD,?_⟩;rw[upd_same];have:x.cps.toList[i]?=some c:=by rw[BP];exact hc
      rw[List.take_add_one,this,AU];rfl
    .rintro σ H1 ⟨_,s1,e1⟩;refine⟨D,x.cps.toList.map Xu,rfl,SqL.of ?_,?_⟩
     .rw[e1,<-AM,CS,BZ];rfl
     .have e:(x.cps.toList.map Xu).all id=Q7 x:=by
       unfold Q7;rw[AQ (show 1<=x.length by omega),AQ (show x.length<=8 by omega),List.all_map];rfl
      rw[e];exact k _ s1
   .rw[AN c2];refine Mh ?_;have e:Q7 x=false:=by
     unfold Q7;rw[AN (show ¬x.length<=8 by omega),HY,DZ]
    have:=k H (Same.refl H);rw[e]at this;exact this
  .have c1:¬(1:Int)<=(x.length:Int):=fun z=>c1 (AQ z);refine ex1 rfl ?_;refine Mh ?_;have e:Q7 x=false:=by
    unfold Q7;rw[AN (show ¬1<=x.length by omega),DZ,DZ]
   have:=k H (Same.refl H);rw[e]at this;exact this
theorem take_succ{α:Type}{l:List α}{i:Nat}{x:α}(h:l[i]?=some x):l.take (i+1)=l.take i ++ [x]:=by
 rw[List.take_add_one,h];rfl
theorem Bp{α:Type}{l:List α}{i:Nat}{x:α}(nd:l.Nodup)(h:l[i]?=some x):x∉l.take i:=by
 intro hm;obtain⟨j,hj,e⟩:=EB hm;have hj':j<i:=by rw[AW]at hj;omega
 rw[List.getElem_take]at e;obtain⟨hi,e'⟩:=AG.mp h;have:=(List.getElem_inj nd).mp (e.trans e'.symm);omega
theorem X3:FnScope ["names", "seen", "place", "name"] ["names"] (B4 s_check_names):=fsc
def M8(ss:List Str):Prop:=(∀x∈ss,Q7 x=true)/\ss.Nodup/\ss.length<=100
def Bg(K:PySem.W.Frag):Sp:=fun vs H Q _=>∃(p:Addr) (ss:List Str),vs = [.ref p]/\SqL K H p (ss.map V.str)/\M8 ss/\∀H',Same H H'->Q .non H'
theorem Po{x:Str}(h:Q7 x=true):1<=x.length/\x.length<=8:=by
 unfold Q7 at h;rw[BU,BU]at h;exact⟨BL h.1.1,BL h.1.2⟩
theorem Bh(T:Tx K mg):FnOk P w K mg base CX0 2 T.aW.f T.aW.fd ["names"] (Bg K):=by
 have G_is_name:=Mu (P:=P) (w:=w) (base:=base) T;have sc:=X3;refine T.aW.F.ok X3 (fun vs H Q E h=>?_) (fun cdv A outer s H vs Q E hr h=>?_)
 .obtain⟨p,ss,rfl,_⟩:=h;rfl
 .obtain⟨a,ss,rfl,hS,⟨hN,hD,hL⟩,k⟩:=h;have hu:=u7 hr;refine⟨_,(B1 (C4 (i:=1) sc.nd rfl (.inl rfl) (Ce (Yz P w) (by rfl) T.bE Vw))
   (B2 (K1 PassesOwn.never rfl (piE K T.aE (A8 (pv 0) B0)) (pgT K (n:=2) (C5 (C3 (i:=2) sc.nd rfl (.inl rfl)) (C5 (C3 (i:=3) sc.nd rfl (.inl rfl)) J1)))
   (B1 (G9 (PW.pt (Iu (X4 (K2 (D0 T.bi G_is_name (Rm hr) (A8 (pv 3) B0)))) (Av (C6 (zDm P w) (pv 3) (pv 1) rfl)))) (B2 Dt) C9)
   (B2 (C7 (Vk P w (zBy P w) (pv 1) (A8 (pv 3) B0)))))))),?_⟩
  refine⟨rfl,fun p hp=>?_⟩;have s0:Same H (upd H p (Nt P w p [])):=Same.new hp;refine ex1 rfl ⟨a,ex1 rfl ⟨(s0.at a).seqL hS,Pn (n:=ss.length) (fun i σ H1=>∃v2 v3,σ = [some (.ref a),some (.ref p),v2,v3]/\Same H H1/\H1 p=some (Nt P w p ((ss.take i).map Sum.inr))) ⟨_,_,rfl,s0,upd_same⟩ ?_ ?_ ?_ ?_⟩⟩
  .rintro i σ H1 hi ⟨v2,v3,rfl,s1,e1⟩;exact⟨_,_,(s1.at a).seqL hS,by rw[AH,AC hi];rfl⟩
  .rintro σ H1 ⟨v2,v3,rfl,s1,e1⟩;exact⟨_,(s1.at a).seqL hS,by rw[AB]⟩
  .rintro i σ H1 v H' hi ⟨v2,v3,rfl,s1,e1⟩ ⟨t,x,rfl,ht,rfl,hx⟩;have hx:=hx _ ((s1.at a).seqL hS);have hi':ss[i]?=some ss[i]:=AC hi;rw[AH,hi']at hx;cases hx;have hm:ss[i]∈ss:=GI hi;have hnb:=hN _ hm;have hlen:=Po hnb;have npt:p≠t:=A9 e1 ht;refine⟨t,ex1 rfl ⟨SqT.of upd_same,rfl,_,ex1 rfl (B7 rfl rfl ?_)⟩⟩;refine ex1 rfl ⟨ss[i],rfl,by omega,fun H2 s2=>⟨_,rfl,?_⟩⟩;rw[hnb];refine X1 ?_;have s12:Same H H2:=(s1.trans (Same.new ht)).trans s2;have e2:H2 p=some (Nt P w p ((ss.take i).map Sum.inr)):=s2 _ _ (by rw[B3 npt];exact e1);have hnin:¬(Sum.inr ss[i]:Key)∈(ss.take i).map Sum.inr:=fun z=>by
    obtain⟨y,hy,e⟩:=AK.mp z;cases e;exact Bp hD hi' hy
   refine ex1 rfl (ex1 rfl ⟨p,_,Sum.inr ss[i],rfl,rfl,e2,ex1 rfl ?_⟩);rw[AJ (by decide),AN hnin];refine X1 ?_;refine ex1 rfl ⟨⟨p,rfl,.inl ⟨_,e2⟩⟩,ex1 rfl ⟨p,_,Sum.inr ss[i],rfl,rfl,e2,?_,?_⟩⟩
   .rw[AB,AW];omega
   .refine⟨_,ex1 rfl ⟨s12.upd hp,?_⟩⟩;rw[upd_same];unfold zDb;rw[AJ hnin,take_succ hi',AU];rfl
  .rintro σ H1 ⟨v2,v3,rfl,s1,e1⟩;exact k H1 s1
end
theorem Ga(ss:List Str):(ss.map V.str).all Co=true:=by
 rw[GH];intro v hv;obtain⟨x,_,rfl⟩:=AK.mp hv;rfl
theorem Og(x:Str)(ss:List Str):inV (.str x) (ss.map V.str)=decide (x∈ss):=by
 unfold inV;rw[List.any_map]
 induction ss with
 | nil=>rfl
 | cons y r ih =>
  rw[GV,ih];show((y == x)||decide (x∈r))=decide (x∈y::r);by_cases e:x=y
  .subst e;simp
  .have:(y == x)=false:=by simpa using fun z=>e z.symm
   rw[this,II];by_cases h:x∈r
   .rw[AQ h,AQ (AO _ h)]
   .rw[AN h,AN (fun z=>(BD.mp z).elim e h)]
theorem Ed{K:PySem.W.Frag}{H:Hp}{p:Addr}{x:Str}{ss:List Str}{Q:VK}(h:Sqs K H p (ss.map V.str))(q:Q (.bl (decide (x∈ss))) H):rIn K false (.str x) (.ref p) H Q :=
 ⟨p,_,rfl,h,rfl,Ga ss,by rw[AJ (by decide),Og];exact q⟩
theorem Nc{K:PySem.W.Frag}{H:Hp}{p:Addr}{x:Str}{ss:List Str}{Q:VK}(h:Sqs K H p (ss.map V.str))(q:Q (.bl (!decide (x∈ss))) H):rIn K true (.str x) (.ref p) H Q :=
 ⟨p,_,rfl,h,rfl,Ga ss,by rw[AL rfl,Og];exact q⟩
section
variable{P:Program}{w:World}{K:PySem.W.Frag}{mg:Str->Option Value}{base:Heap}
theorem Fr:FnScope ["names", "thing"] ["names", "thing"] (B4 s_is_strike):=fsc
def Gq(K:PySem.W.Frag):Sp:=fun vs H Q _=>∃(p:Addr) (ss:List Str) (t:Addr) (x y:Str),vs = [.ref p,.ref t]/\SqL K H p (ss.map V.str)/\H t=some (.tup [.str x,.str y])/\x∈ss/\y∈ss/\Q (.bl true) H
theorem Hf(T:Tx K mg):FnOk P w K mg base CX0 1 T.a4.f T.a4.fd ["names", "thing"] (Gq K):=by
 refine T.a4.F.ok Fr (fun vs H Q E h=>?_) (fun cdv A outer s H vs Q E hr h=>?_)
 .obtain⟨p,ss,t,x,y,rfl,_⟩:=h;rfl
 .obtain⟨p,ss,t,x,y,rfl,hS,ht,hx,hy,k⟩:=h;refine⟨_,(B1 (G9 (PW.pt (Iu (X4 (K2 (E6 (Je K) T.bb R8 (A8 (pv 1) (A8 (Yh T.bG Tn) B0))))) (Av (C6 Yn (E6 (P3 K) T.az O3 (A8 (pv 1) B0)) B6 (D6 _))))) (B2 (C1 f7)) C9)
   (B2 (C1 (Lv (K4 (Tt K) (J7 (ixT K) (pv 1) B6 (fun _ _=>rfl)) (pv 0) rfl) (Ka (K4 (Tt K) (J7 (ixT K) (pv 1) B6 (fun _ _=>rfl)) (pv 0) rfl)))))),?_⟩
  refine ex1 rfl ⟨_, "tuple",_,true,rfl,.tup ht,rfl,ex1 rfl ?_⟩;refine X1 ?_;refine ex1 rfl (B7 (a:=t) rfl (.inr (SqT.of ht)) ⟨rfl,ex1 rfl ?_⟩);refine X1 ?_;refine ex1 rfl ⟨t,_,B7 rfl rfl ⟨SqT.of ht,rfl,ex1 rfl (Ed (.inl hS) ⟨_,rfl,?_⟩)⟩⟩;rw[AQ hx];refine Mh ?_;refine ex1 rfl ⟨t,_,B7 rfl rfl ⟨SqT.of ht,rfl,ex1 rfl (Ed (.inl hS) ?_)⟩⟩;rw[AQ hy];exact k
structure StrkOk(ss:List Str)(ps:List PA2):Prop where
 nm:∀q∈ps,q.2.1∈ss/\q.2.2∈ss
 nd:(ps.map fun q=>q.2).Nodup
 len:ps.length<=200
def G6(ps:List PA2):List V:=ps.map fun q=>V.ref q.1
def Ip(ps:List PA2):List (List Key×Addr):=ps.map fun q=>([.inr q.2.1,.inr q.2.2],q.1)
theorem Ux{H:Hp}{ps:List PA2}(h:∀q∈ps,E2 H q):Jv H (Ip ps):=fun k hk=>by
 obtain⟨q,hq,rfl⟩:=AK.mp hk;exact h q hq
theorem G8{H H':Hp}{ps:List PA2}(s:Same H H')(h:∀q∈ps,E2 H q):∀q∈ps,E2 H' q:=fun q hq=>s _ _ (h q hq)
theorem S2:FnScope ["names", "strikes", "seen", "place", "strike"] ["names", "strikes"] (B4 s_check_strikes):=fsc
def u5(K:PySem.W.Frag):Sp:=fun vs H Q _=>∃(p:Addr) (ss:List Str) (a:Addr) (ps:List PA2),vs = [.ref p,.ref a]/\SqL K H p (ss.map V.str)/\SqL K H a (G6 ps)/\(∀q∈ps,E2 H q)/\StrkOk ss ps/\∀H',Same H H'->Q .non H'
theorem u6(T:Tx K mg):FnOk P w K mg base CX0 2 T.aP.f T.aP.fd ["names", "strikes"] (u5 K):=by
 have G_is_strike:=Hf (P:=P) (w:=w) (base:=base) T;have sc:=S2;refine T.aP.F.ok S2 (fun vs H Q E h=>?_) (fun cdv A outer s H vs Q E hr h=>?_)
 .obtain⟨p,ss,t,x,rfl,_⟩:=h;rfl
 .obtain⟨n,ss,a,ps,rfl,hS,hP,hI,⟨hN,hD,hL⟩,k⟩:=h;have hu:=u7 hr;refine⟨_,(B1 (C4 (i:=2) sc.nd rfl (.inl rfl) (Ce (Sx P w) (by rfl) T.bE Vw))
   (B2 (K1 PassesOwn.never rfl (piE K T.aE (A8 (pv 1) B0)) (pgT K (n:=2) (C5 (C3 (i:=3) sc.nd rfl (.inl rfl)) (C5 (C3 (i:=4) sc.nd rfl (.inl rfl)) J1)))
   (B1 (G9 (PW.pt (Iu (X4 (K2 (D0 T.a4 G_is_strike (Rm hr) (A8 (pv 0) (A8 (pv 4) B0))))) (Av (C6 (zEg P w hu) (pv 4) (pv 2) rfl)))) (B2 Dt) C9)
   (B2 (C7 (Vk P w (zAq P w hu) (pv 2) (A8 (pv 4) B0)))))))),?_⟩
  refine⟨rfl,fun p hp=>?_⟩;have s0:Same H (upd H p (Nr P w p [])):=Same.new hp;refine ex1 rfl ⟨a,ex1 rfl ⟨(s0.at a).seqL hP,Pn (n:=ps.length) (fun i σ H1=>∃v3 v4,σ = [some (.ref n),some (.ref a),some (.ref p),v3,v4]/\Same H H1/\H1 p=some (Nr P w p (Ip (ps.take i)))) ⟨_,_,rfl,s0,upd_same⟩ ?_ ?_ ?_ ?_⟩⟩
  .rintro i σ H1 hi ⟨v2,v3,rfl,s1,e1⟩;exact⟨_,_,(s1.at a).seqL hP,by unfold G6;rw[AH,AC hi];rfl⟩
  .rintro σ H1 ⟨v2,v3,rfl,s1,e1⟩;exact⟨_,(s1.at a).seqL hP,by unfold G6;rw[AB]⟩
  .rintro i σ H1 v H' hi ⟨v2,v3,rfl,s1,e1⟩ ⟨t,x,rfl,ht,rfl,hx⟩;have hx:=hx _ ((s1.at a).seqL hP);have hi':ps[i]?=some ps[i]:=AC hi;unfold G6 at hx;rw[AH,hi']at hx;cases hx;have hm:ps[i]∈ps:=GI hi;obtain⟨hn1,hn2⟩:=hN _ hm;have npt:p≠t:=A9 e1 ht;have s2:Same H (upd H1 t (.tup [.int i,.ref ps[i].1])):=s1.trans (Same.new ht);have hq:=s2 _ _ (hI _ hm);refine⟨t,ex1 rfl ⟨SqT.of upd_same,rfl,_,ex1 rfl (B7 rfl rfl ?_)⟩⟩;refine ex1 rfl (ex1 rfl ⟨n,ss,ps[i].1,ps[i].2.1,ps[i].2.2,rfl,(s2.at n).seqL hS,hq,hn1,hn2,ex1 rfl ?_⟩);refine X1 ?_;have e2:(upd H1 t (.tup [.int i,.ref ps[i].1])) p=some (Nr P w p (Ip (ps.take i))):=by rw[B3 npt];exact e1
   have hin:Jv (upd H1 t (.tup [.int i,.ref ps[i].1])) (Ip (ps.take i)):=Ux (G8 s2 fun q hq=>hI q (DF hq));have hne:∀q∈Ip (ps.take i),q.1≠[.inr ps[i].2.1,.inr ps[i].2.2]:=fun q hq e=>by
    obtain⟨z,hz,rfl⟩:=AK.mp hq;have e':z.2=ps[i].2:=by
     obtain⟨z1,z2,z3⟩:=z;simp only[List.cons.injEq,Sum.inr.injEq,and_true]at e;exact Prod.ext e.1 e.2
    have h1:(ps.map fun q=>q.2)[i]?=some ps[i].2:=by rw[AH,hi'];rfl
    refine Bp hD h1 ?_;rw[<-List.map_take,<-e'];exact AK.mpr ⟨z,hz,rfl⟩
   refine ex1 rfl (ex1 rfl ⟨p,ps[i].1,_,[.inr ps[i].2.1,.inr ps[i].2.2],rfl,rfl,e2,hq,hin,hne,ex1 rfl ?_⟩);refine X1 ?_;refine ex1 rfl ⟨⟨p,rfl,.inr (.inr ⟨_,e2⟩)⟩,ex1 rfl ⟨p,ps[i].1,_,[.inr ps[i].2.1,.inr ps[i].2.2],rfl,rfl,e2,hq,hin,hne,?_,?_⟩⟩
   .unfold Ip;rw[AB,AW];omega
   .refine⟨_,ex1 rfl ⟨s2.upd hp,?_⟩⟩;rw[upd_same,take_succ hi'];unfold Ip;rw[AU];rfl
  .rintro σ H1 ⟨v2,v3,rfl,s1,e1⟩;exact k H1 s1
end
def la(kvs:List (Key×V))(n:Str):Addr:=match P2 kvs (.inr n)with | some (.ref l)=>l | _=>0
theorem Pe(kvs:List (Key×V))(n m:Str)(v:V):P2 (P5 kvs (Sum.inr n:Key) v) (.inr m)=if m=n then some v else P2 kvs (.inr m):=by
 rw[Ss];by_cases e:m=n
 .rw[AL e,AL (by rw[e])]
 .rw[AJ e,AJ (fun z=>e (Sum.inr.inj z))]
theorem Bu(kvs:List (Key×V))(n m:Str)(p:Addr):la (P5 kvs (.inr n) (.ref p)) m=if m=n then p else la kvs m:=by
 unfold la;rw[Pe];by_cases e:m=n
 .rw[AL e,AL e]
 .rw[AJ e,AJ e]
structure DOk(H0:Hp)(kvs:List (Key×V))(ns:List Str):Prop where
 val:∀n∈ns,P2 kvs (.inr n)=some (.ref (la kvs n))
 inj:∀n∈ns,∀m∈ns,la kvs n=la kvs m->n=m
 fr:∀n∈ns,H0 (la kvs n)=none
theorem Wq{K:PySem.W.Frag}{J:It}{a:Addr}{ns:List Str}{H:Hp}{σ:St}{Q:St->Hp->Prop}(as:AsSeq J (ns.map V.str) a H)(hσ:∃v,σ = [v])(nd:ns.Nodup)(hl:ns.length<=1000){D:Addr}(hD:H D=none)
  (q:∀σ kvs H',Same H H'->H' D=some (.dK kvs)->DOk H kvs ns->(∀n∈ns,H' (la kvs n)=some (.lst []))->(∀n∈ns,la kvs n≠D)->Q σ H') :
  Cl (S8 0) Ee (Vd D (Lq 0) (zFj Sh)) J σ (upd H D (.dK [])) Q:=by
 obtain⟨v,rfl⟩:=hσ;refine T9 as (fun i σ H1=>(∃v,σ = [v])/\∃kvs,Same H H1/\H1 D=some (.dK kvs)/\kvs.length<=i/\DOk H kvs (ns.take i)/\(∀n∈ns.take i,H1 (la kvs n)=some (.lst []))/\∀n∈ns.take i,la kvs n≠D)
  ⟨⟨v,rfl⟩,[],Same.new hD,upd_same,CH _,⟨fun n h=>by simp at h,fun n h=>by simp at h,fun n h=>by simp at h⟩,fun n h=>by simp at h,fun n h=>by simp at h⟩ (fun i σ H1 _ ⟨_,kvs,s1,_⟩=>s1.at a) ?_ ?_
 .rintro i σ H1 x N hx ⟨⟨v,rfl⟩,kvs,s1,e1,l1,D1,c1,n1⟩ hN;rw[AH]at hx;have hi:i<ns.length:=by
   rcases Nat.lt_or_ge i ns.length with z | z
   .exact z
   .rw[DW z]at hx;cases hx
  have hi':ns[i]?=some ns[i]:=AC hi;rw[hi']at hx;cases hx;refine Au ?_;refine ex1 rfl ⟨CH _,fun p hp=>?_⟩;have npD:D≠p:=A9 e1 hp;refine⟨kvs,.inr ns[i],by rw[B3 npD];exact e1,rfl,by rw[sizeLine_eq];omega,hN _ _ ⟨⟨_,rfl⟩,P5 kvs (.inr ns[i]) (.ref p),?_,upd_same,?_,⟨?_,?_,?_⟩,?_,?_⟩⟩
  .exact(s1.trans (Same.new hp)).upd hD
  .have:=M9 kvs (Sum.inr ns[i]:Key) (.ref p);omega
  all_goals rw[take_succ hi']
  .intro n hn;rw[Pe,Bu];by_cases e:n=ns[i]
   .rw[AL e,AL e]
   .rw[AJ e,AJ e];rcases AR.mp hn with z | z
    .exact D1.val n z
    .exact absurd (AE.mp z) e
  .intro n hn m hm;rw[Bu,Bu];have old:∀k∈ns.take i ++ [ns[i]],k≠ns[i]->k∈ns.take i:=fun k hk e=>(AR.mp hk).elim id fun z=>absurd (AE.mp z) e;by_cases e:n=ns[i]
   .by_cases e':m=ns[i]
    .exact fun _=>e.trans e'.symm
    .rw[AL e,AJ e'];intro z;have:=c1 m (old m hm e');rw[<-z,hp]at this;cases this
   .by_cases e':m=ns[i]
    .rw[AJ e,AL e'];intro z;have:=c1 n (old n hn e);rw[z,hp]at this;cases this
    .rw[AJ e,AJ e'];exact D1.inj n (old n hn e) m (old m hm e')
  .intro n hn;rw[Bu];by_cases e:n=ns[i]
   .rw[AL e];exact s1.free hp
   .rw[AJ e];rcases AR.mp hn with z | z
    .exact D1.fr n z
    .exact absurd (AE.mp z) e
  .intro n hn;rw[Bu];by_cases e:n=ns[i]
   .rw[AL e,B3 npD.symm,upd_same]
   .rw[AJ e];rcases AR.mp hn with z | z
    .rw[B3 (n1 n z),B3 (A9 (c1 n z) hp)];exact c1 n z
    .exact absurd (AE.mp z) e
  .intro n hn;rw[Bu];by_cases e:n=ns[i]
   .rw[AL e];exact npD.symm
   .rw[AJ e];rcases AR.mp hn with z | z
    .exact n1 n z
    .exact absurd (AE.mp z) e
 .rintro σ H1 ⟨_,kvs,s1,e1,l1,D1,c1,n1⟩;rw[AB]at *;rw[CS]at *;exact q σ kvs H1 s1 e1 D1 c1 n1
def C0(qs:List PA2)(n:Str):List Str:=(qs.filter fun q=>decide (q.2.2=n)).map fun q=>q.2.1
def B8(qs:List PA2)(n:Str):List Str:=(qs.filter fun q=>decide (q.2.1=n)).map fun q=>q.2.2
theorem Aq(qs:List PA2)(q:PA2)(n:Str):C0 (qs ++ [q]) n=C0 qs n ++(if q.2.2=n then [q.2.1]else []):=by
 unfold C0;rw[EU,AU];by_cases e:q.2.2=n
 .rw[AL e,DR,AL (AQ e)];rfl
 .rw[AJ e,DR,AJ (by simp[e])];rfl
theorem Eb(qs:List PA2)(q:PA2)(n:Str):B8 (qs ++ [q]) n=B8 qs n ++(if q.2.1=n then [q.2.2]else []):=by
 unfold B8;rw[EU,AU];by_cases e:q.2.1=n
 .rw[AL e,DR,AL (AQ e)];rfl
 .rw[AJ e,DR,AJ (by simp[e])];rfl
def wf(a b c d:Addr):List (Str×V):=[("names",.ref a),("strikes",.ref b),("strikers_by_name",.ref c),("struck_by_name",.ref d)]
structure WebOk(ns:List Str)(qs:List PA2):Prop where
 nd:ns.Nodup
 len:ns.length<=100
 srt:ns.Pairwise leS
 mem:∀q∈qs,q.2.1∈ns/\q.2.2∈ns
 ndq:(qs.map fun q=>q.2).Nodup
 lenq:qs.length<=200
 srq:qs.Pairwise leP
structure WebAt(C:Addr)(H:Hp)(x:Addr)(ns:List Str)(qs:List PA2):Prop where
 ok:WebOk ns qs
 ex:∃dx a b c d kc kd,H x=some (.ins C dx (wf a b c d))/\H a=some (.lst (ns.map V.str))/\H b=some (.lst (G6 qs))/\(∀q∈qs,E2 H q)/\H c=some (.dK kc)/\H d=some (.dK kd) /\
  (∀n∈ns,∃l,P2 kc (.inr n)=some (.ref l)/\H l=some (.lst ((C0 qs n).map V.str)))/\∀n∈ns,∃l,P2 kd (.inr n)=some (.ref l)/\H l=some (.lst ((B8 qs n).map V.str))
section
variable{P:Program}{w:World}{K:PySem.W.Frag}{mg:Str->Option Value}{base:Heap}
theorem U3:FnScope ["self", "names", "strikes", "one", "other"] ["self", "names", "strikes"] (B4 s_Web___init__):=fsc
end
theorem WebAt.same{C:Addr}{H H':Hp}{x:Addr}{ns:List Str}{qs:List PA2}(h:WebAt C H x ns qs)(s:Same H H'):WebAt C H' x ns qs:=by
 obtain⟨ok,dx,a,b,c,d,kc,kd,e1,e2,e3,e4,e5,e6,e7,e8⟩:=h;exact⟨ok,dx,a,b,c,d,kc,kd,s _ _ e1,s _ _ e2,s _ _ e3,G8 s e4,s _ _ e5,s _ _ e6,fun n hn=>let⟨l,v,e⟩:=e7 n hn;⟨l,v,s _ _ e⟩,fun n hn=>let⟨l,v,e⟩:=e8 n hn;⟨l,v,s _ _ e⟩⟩
section
variable{P:Program}{w:World}{K:PySem.W.Frag}{mg:Str->Option Value}{base:Heap}
theorem t6:FnScope ["self"] ["self"] (B4 s_Web_all_names):=fsc
def Fx(C:Addr):Sp:=fun vs H Q _=>∃(x:Addr) (ns:List Str) (qs:List PA2),vs = [.ref x]/\WebAt C H x ns qs/\∀l,H l=none->Q (.ref l) (upd H l (.lst (ns.map V.str)))
theorem S6(T:Tx K mg):FnOk P w K mg base CX0 1 T.ap.f T.ap.fd ["self"] (Fx T.ac):=by
 refine T.ap.F.ok t6 (fun vs H Q E h=>?_) (fun cdv A outer s H vs Q E hr h=>?_)
 .obtain⟨x,ns,qs,rfl,_⟩:=h;rfl
 .obtain⟨x,ns,qs,rfl,⟨ok,dx,a,b,c,d,kc,kd,e1,e2,e3,e4,e5,e6,e7,e8⟩,k⟩:=h;refine⟨_,(B2 (C1 (Hl (n8 K) T.aZ X6 (A8 (peF K (pv 0)) B0)))),?_⟩;exact⟨_,rfl,x,T.ac,dx,_,_,rfl,e1,T.an,T.aQ,rfl,a,_,rfl,.inl (SqL.of e2),k⟩
theorem u4:FnScope ["self", "name"] ["self", "name"] (B4 s_Web_check_has):=fsc
def Gz(C:Addr):Sp:=fun vs H Q _=>∃(x:Addr) (n:Str) (ns:List Str) (qs:List PA2),vs = [.ref x,.str n]/\WebAt C H x ns qs/\n∈ns/\Q .non H
theorem S5(T:Tx K mg):FnOk P w K mg base CX0 1 T.aq.f T.aq.fd ["self", "name"] (Gz T.ac):=by
 refine T.aq.F.ok u4 (fun vs H Q E h=>?_) (fun cdv A outer s H vs Q E hr h=>?_)
 .obtain⟨x,n,ns,qs,rfl,_⟩:=h;rfl
 .obtain⟨x,n,ns,qs,rfl,⟨ok,dx,a,b,c,d,kc,kd,e1,e2,e3,e4,e5,e6,e7,e8⟩,hn,k⟩:=h;refine⟨_,(B2 (G9 (C6 (Uv K) (pv 1) (peF K (pv 0)) rfl) (B2 Dt) C9)),?_⟩;refine ex1 rfl (ex1 rfl ⟨x,T.ac,dx,_,ex1 rfl ⟨e1,T.an,T.aQ,rfl,Nc (.inl (SqL.of e2)) ⟨_,rfl,?_⟩⟩⟩);rw[AQ hn];exact X1 k
theorem Dz:FnScope ["self", "name"] ["self", "name"] (B4 s_Web_struck):=fsc
def Nv(C:Addr):Sp:=fun vs H Q _=>∃(x:Addr) (n:Str) (ns:List Str) (qs:List PA2),vs = [.ref x,.str n]/\WebAt C H x ns qs/\n∈ns/\∀l,H l=none->Q (.ref l) (upd H l (.lst ((B8 qs n).map V.str)))
theorem b9(T:Tx K mg):FnOk P w K mg base CX0 2 T.ay.f T.ay.fd ["self", "name"] (Nv T.ac):=by
 have G_Web_check_has:=S5 (P:=P) (w:=w) (base:=base) T;refine T.ay.F.ok Dz (fun vs H Q E h=>?_) (fun cdv A outer s H vs Q E hr h=>?_)
 .obtain⟨x,n,ns,qs,rfl,_⟩:=h;rfl
 .obtain⟨x,n,ns,qs,rfl,hW,hn,k⟩:=h;have hu:=u7 hr;obtain⟨ok,dx,a,b,c,d,kc,kd,e1,e2,e3,e4,e5,e6,e7,e8⟩:=id hW;refine⟨_,(B1 (C7 (E9 (pv 0) T.an T.aq.m G_Web_check_has (Rm hr) T.aq.b .nil J8 (A8 (pv 1) B0)))
   (B2 (C1 (Hl (n8 K) T.aZ X6 (A8 (J9 hu (peF K (pv 0)) (pv 1) (fun _ _=>rfl)) B0))))),?_⟩
  refine ex1 rfl ⟨x,dx,ex1 rfl ⟨e1,rfl,ex1 rfl ⟨x,n,ns,qs,rfl,hW,hn,?_⟩⟩⟩;obtain⟨l,v,e⟩:=e8 n hn;exact⟨_,rfl,x,T.ac,dx,_,_,rfl,e1,T.an,T.aL,rfl,_,rfl,d,_,rfl,by rw[<-v];exact DGet.k (k:=Sum.inr n) e6,l,_,rfl,.inl (SqL.of e),k⟩
theorem y4:FnScope ["self", "name"] ["self", "name"] (B4 s_Web_strikers):=fsc
def Jm(C:Addr):Sp:=fun vs H Q _=>∃(x:Addr) (n:Str) (ns:List Str) (qs:List PA2),vs = [.ref x,.str n]/\WebAt C H x ns qs/\n∈ns/\∀l,H l=none->Q (.ref l) (upd H l (.lst ((C0 qs n).map V.str)))
theorem Ai(T:Tx K mg):FnOk P w K mg base CX0 2 T.aF.f T.aF.fd ["self", "name"] (Jm T.ac):=by
 have G_Web_check_has:=S5 (P:=P) (w:=w) (base:=base) T;refine T.aF.F.ok y4 (fun vs H Q E h=>?_) (fun cdv A outer s H vs Q E hr h=>?_)
 .obtain⟨x,n,ns,qs,rfl,_⟩:=h;rfl
 .obtain⟨x,n,ns,qs,rfl,hW,hn,k⟩:=h;have hu:=u7 hr;obtain⟨ok,dx,a,b,c,d,kc,kd,e1,e2,e3,e4,e5,e6,e7,e8⟩:=id hW;refine⟨_,(B1 (C7 (E9 (pv 0) T.an T.aq.m G_Web_check_has (Rm hr) T.aq.b .nil J8 (A8 (pv 1) B0)))
   (B2 (C1 (Hl (n8 K) T.aZ X6 (A8 (J9 hu (peF K (pv 0)) (pv 1) (fun _ _=>rfl)) B0))))),?_⟩
  refine ex1 rfl ⟨x,dx,ex1 rfl ⟨e1,rfl,ex1 rfl ⟨x,n,ns,qs,rfl,hW,hn,?_⟩⟩⟩;obtain⟨l,v,e⟩:=e7 n hn;exact⟨_,rfl,x,T.ac,dx,_,_,rfl,e1,T.an,T.aH,rfl,_,rfl,c,_,rfl,by rw[<-v];exact DGet.k (k:=Sum.inr n) e5,l,_,rfl,.inl (SqL.of e),k⟩
end
theorem Ve{l:List Str}{k y:Str}:y∈Tk l k↔y∈l\/y=k:=by
 unfold Tk;by_cases h:k∈l
 .rw[AL h];exact⟨.inl,fun z=>z.elim id fun e=>e▸h⟩
 .rw[AJ h,AR,AE]
theorem Zh{l:List Str}{k:Str}(nd:l.Nodup):(Tk l k).Nodup:=by
 unfold Tk;by_cases h:k∈l
 .rw[AL h];exact nd
 .rw[AJ h];exact Rb nd h
theorem Tv(l:List Str)(k:Str):(Tk l k).length<=l.length+1:=by
 unfold Tk;split
 .omega
 .rw[AZ];simp
theorem Yk{w:World}{J:It}{a D:Addr}{ys:List Str}{H0 H:Hp}{n:Nat}{σ:St}{Q:St->Hp->Prop}{Sg:St->Prop}{i0:Nat}(as:AsSeq J (ys.map V.str) a H)(hσ:Sg σ)(hS:∀σ v,Sg σ->Sg (σ.set i0 (some v))/\(σ.set i0 (some v))[i0]?=some (some v)){l:List Str}(hD:H D=some (Gh w D l))(haD:a≠D)(nd:l.Nodup)(hl:l.length+ys.length<=4000)
  (hs:Same H0 H) (hD0:H0 D=none) (q:∀σ l' H',Sg σ->Same H0 H'->H' D=some (Gh w D l')->l'.Nodup->l'.length<=l.length+ys.length->(∀y,y∈l'↔y∈l\/y∈ys)->Q σ H') :
  Cl (S8 i0) Ee (Hb w D (Lq i0)) J σ H Q:=by
 refine T9 as (fun i σ H1=>Sg σ/\Same H0 H1/\(∀o,H a=some o->H1 a=some o)/\∃l',H1 D=some (Gh w D l')/\l'.Nodup/\l'.length<=l.length+i/\∀y,y∈l'↔y∈l\/y∈ys.take i)
  ⟨hσ,hs,fun _ e=>e,l,hD,nd,Nat.le_refl _,fun y=>by simp⟩ (fun i σ H1 _ ⟨_,_,k,_⟩=>k) ?_ ?_
 .rintro i σ H1 x N hx ⟨hσ1,s1,ka,l',e1,n1,l1,m1⟩ hN;rw[AH]at hx;cases hy:ys[i]? with
  | none=>rw[hy]at hx;cases hx
  | some y =>
   rw[hy]at hx;cases hx;have hi:=(AG.mp hy).1;refine Au ?_;refine⟨_,(hS σ _ hσ1).2,l',y,rfl,e1,by omega,hN _ _ ⟨(hS σ _ hσ1).1,s1.upd hD0,fun o e=>?_,Tk l' y,upd_same,Zh n1,?_,fun z=>?_⟩⟩
   .rw[B3 haD];exact ka o e
   .have:=Tv l' y;omega
   .rw[Ve,m1,take_succ hy,AR,AE,or_assoc]
 .rintro σ H1 ⟨hσ1,s1,ka,l',e1,n1,l1,m1⟩;rw[AB]at l1 m1;rw[CS]at m1;exact q σ l' H1 hσ1 s1 e1 n1 l1 m1
theorem mem_struckOf{qs:List PA2}{n y:Str}:y∈B8 qs n↔∃q∈qs,q.2.1=n/\q.2.2=y:=by
 unfold B8;rw[AK];constructor
 .rintro⟨q,hq,e⟩;obtain⟨h1,h2⟩:=BC.mp hq;exact⟨q,h1,BL h2,e⟩
 .rintro⟨q,h1,h2,h3⟩;exact⟨q,BC.mpr ⟨h1,AQ h2⟩,h3⟩
theorem Fe(qs:List PA2)(n:Str):(B8 qs n).length<=qs.length:=by
 unfold B8;rw[AB];exact CB ..
section
variable{P:Program}{w:World}{K:PySem.W.Frag}{mg:Str->Option Value}{base:Heap}
theorem t9:FnScope ["web", "some"] ["web", "some"] (B4 s_struck_by_any):=fsc
def zCv(K:PySem.W.Frag)(C:Addr)(f:List PA2->Str->List Str):Sp:=fun vs H Q _=>∃(x a:Addr) (ss ns:List Str) (qs:List PA2),vs = [.ref x,.ref a]/\WebAt C H x ns qs/\Sqs K H a (ss.map V.str)/\(∀n∈ss,n∈ns) /\
 ∀l (hs:List Str) H',H l=none->Same H H'->H' l=some (.lst (hs.map V.str))->(∀y,y∈hs↔∃n∈ss,y∈f qs n)->hs.Pairwise leS->hs.Nodup->hs.length<=100->Q (.ref l) H'
theorem t8(T:Tx K mg):FnOk P w K mg base CX0 3 T.aO.f T.aO.fd ["web", "some"] (zCv K T.ac B8):=by
 have G_Web_struck:=b9 (P:=P) (w:=w) (base:=base) T;refine T.aO.F.ok t9 (fun vs H Q E h=>?_) (fun cdv A outer s H vs Q E hr h=>?_)
 .obtain⟨x,a,ss,ns,qs,rfl,_⟩:=h;rfl
 .obtain⟨x,a,ss,ns,qs,rfl,hW,hS,hM,k⟩:=h;have hu:=u7 hr;obtain⟨ok,dx,a1,b,c,d,kc,kd,e1,_⟩:=id hW;have hsub:∀l:List Str,l.Nodup->(∀y∈l,∃n∈ss,y∈B8 qs n)->l.length<=100:=fun l nd h=>by
   refine Nat.le_trans (nd.length_le_of_subset fun y hy=>?_) ok.len;obtain⟨n,_,hy'⟩:=h y hy;obtain⟨q,hq,_,e⟩:=mem_struckOf.mp hy';rw[<-e];exact(ok.mem q hq).2
  refine⟨_,(B2 (C1 (E6 (Ul w) T.aC J3 (A8 (zEc w (N':=["name", "other", "web"]) (cap:=[none,none,some 0]) (cl:=[("web",_)]) (K0 ⟨⟨rfl,rfl,rfl,rfl⟩,trivial⟩ ⟨rfl,trivial⟩) (piS K (pv 1)) (fun _ _ _ _=>by exact⟨(pgC 0),E5,(piL K (E9 (pv 2) T.an T.ay.m G_Web_struck (Rm hr) T.ay.b .nil J8 (A8 (pv 0) B0))),(pgC 1),E5,(pv 1)⟩)) B0)))),?_⟩;dsimp only[Zq,Zr,S8,Zo,tCB,As,Sh];refine Ua (by rfl) hS ?_;intro J as D hD;refine T9 as (fun i σ H1=>(∃v0 v1,σ = [v0,v1,some (.ref x)])/\Same H H1/\∃l,H1 D=some (Gh w D l)/\l.Nodup/\∀y,y∈l↔∃n∈ss.take i,y∈B8 qs n)
   ⟨⟨_,_,rfl⟩,Same.new hD,[],upd_same,IA,fun y=>by simp⟩ (fun i σ H1 _ ⟨_,s1,_⟩=>s1.at a) ?_ ?_
  .rintro i σ H1 v N hx ⟨⟨v0,v1,rfl⟩,s1,l,e2,n2,m2⟩ hN;rw[AH]at hx;cases hy:ss[i]? with
   | none=>rw[hy]at hx;cases hx
   | some n =>
    rw[hy]at hx;cases hx;have hn:n∈ns:=hM n (BN hy);have hl100:l.length<=100:=hsub l n2 fun y hy=>by
     obtain⟨m,hm,h⟩:=(m2 y).mp hy;exact⟨m,DF hm,h⟩
    refine Au ?_;refine ex1 rfl ⟨x,dx,ex1 rfl ⟨s1 _ _ e1,rfl,ex1 rfl ⟨x,n,ns,qs,rfl,hW.same s1,hn,fun p hp=>?_⟩⟩⟩;have npD:D≠p:=A9 e2 hp;refine⟨p,rfl,⟨_,SqL.of upd_same⟩,Yk (H0:=H) (n:=0) (asL (SqL.of upd_same)) (Sg:=fun σ=>∃v0 v1,σ = [v0,v1,some (.ref x)]) ⟨_,_,rfl⟩ (fun σ v ⟨v0,v1,e⟩=>by rw[e];exact⟨⟨_,_,rfl⟩,rfl⟩) (by rw[B3 npD];exact e2) npD.symm n2 ?_ (s1.trans (Same.new hp)) hD ?_⟩
    .have:=Fe qs n;have:=ok.lenq;omega
    .rintro σ l' H2 hσ s2 e3 n3 _ m3;refine hN _ _ ⟨hσ,s2,l',e3,n3,fun y=>?_⟩;rw[m3,m2,take_succ hy];constructor
     .rintro(⟨m,hm,h⟩ | h)
      .exact⟨m,DY _ hm,h⟩
      .exact⟨n,BT _ (AE.mpr rfl),h⟩
     .rintro⟨m,hm,h⟩;rcases AR.mp hm with z | z
      .exact .inl ⟨m,z,h⟩
      .rw[AE.mp z]at h;exact .inr h
  .rintro σ H1 ⟨_,s1,l,e2,n2,m2⟩;rw[AB,CS]at m2;refine⟨D,l,rfl,e2,fun p hs hp pm srt=>?_⟩;have s2:Same H (upd H1 p (.lst (hs.map V.str))):=s1.trans (Same.new hp);exact k p hs _ (s1.free hp) s2 upd_same (fun y=>by rw[pm.mem_iff];exact m2 y) srt (pm.nodup_iff.mpr n2) (by rw[pm.length_eq];exact hsub l n2 fun y hy=>(m2 y).mp hy)
theorem Cm:FnScope ["_law_cell", "_law_k", "_law_m"] ["_law_cell", "_law_k"] (B4 s_law_mix):=fsc
def zBf:Sp:=fun vs H Q _=>∃(cell k:Int),vs = [.int cell,.int k]/\0<=k/\k<=2000000/\∀m:Int,0<=m->m<1999999973->Q (.int m) H
theorem Nd(T:Tx K mg):FnOk P w K mg base CX0 1 T.bc.f T.bc.fd ["_law_cell", "_law_k"] zBf:=by
 have sc:=Cm;refine T.bc.F.ok Cm (fun vs H Q E h=>?_) (fun cdv A outer s H vs Q E hr h=>?_)
 .obtain⟨c,k,rfl,_⟩:=h;rfl
 .obtain⟨cell,k,rfl,k0,k1,q⟩:=h;refine⟨_,(B1 (C4 (i:=2) sc.nd rfl (.inl rfl) (C2 Go (C2 Cg (C2 Y8 (C2 Y8 (C2 Go (pv 0) B6) (C2 Cg (C2 Cg (pv 1) (pv 1)) B6)) B6) B6) B6))
   (B2 (C1 (C2 Go (C2 Cg (pv 2) (pv 2)) B6)))),?_⟩
  refine ex1 rfl (B7 rfl rfl ⟨(show(0:Int)<2147483629 by decide),ex1 rfl (ex1 rfl (B7 rfl rfl ⟨.inl ⟨by omega,by omega⟩,B7 rfl rfl ⟨.inr ⟨by decide,by decide⟩,B7 rfl rfl (B7 rfl rfl (B7 rfl rfl ⟨.inr ⟨by decide,by decide⟩,B7 rfl rfl ⟨(show(0:Int)<2147483647 by decide),?_⟩⟩))⟩⟩))⟩);generalize hm:(cell % 2147483629+k*k*7919+11)*48271 % 2147483647=m;have h1:0<=m:=by rw[<-hm];exact GS _ (by decide)
  have h2:m<2147483647:=by rw[<-hm];exact FQ _ (by decide)
  exact⟨_,rfl,_,rfl,_,_,rfl,rfl,.inl ⟨by omega,by omega⟩,_,_,rfl,rfl,(show(0:Int)<1999999973 by decide),q _ (GS _ (by decide)) (FQ _ (by decide))⟩
def LeftAt(H:Hp)(p:Addr)(c:Int):Prop:=∃a b:Int,H p=some (.lst [.int a,.int b,.int c])/\0<=c
theorem LeftAt.isS{H:Hp}{p:Addr}{c:Int}(h:LeftAt H p c):(H p).isSome=true:=by
 obtain⟨_,_,e,_⟩:=h;rw[e];rfl
theorem LeftAt.get{H:Hp}{p:Addr}{c:Int}(h:LeftAt H p c):H p=some ((H p).get h.isS):=(Option.some_get _).symm
theorem LeftAt.cast{H:Hp}{p:Addr}{c c':Int}(h:LeftAt H p c)(e:c=c'):LeftAt H p c':=e▸h
theorem LeftAt.upd{H:Hp}{p a:Addr}{c:Int}{o:HO}(h:LeftAt H p c)(n:p≠a):LeftAt (L2.upd H a o) p c:=by
 obtain⟨x,y,e,z⟩:=h;exact⟨x,y,by rw[B3 n];exact e,z⟩
theorem LeftAt.same{H H':Hp}{p:Addr}{c:Int}(h:LeftAt H p c)(s:Same H H'):LeftAt H' p c:=by
 obtain⟨x,y,e,z⟩:=h;exact⟨x,y,s _ _ e,z⟩
theorem zFe(c:Bool):-(2^64) <(if c=true then(1:Int)else 0)/\(if c=true then(1:Int)else 0)<2^64:=by cases c<;>exact⟨by decide,by decide⟩
theorem At:FnScope ["_law_script", "_law_k", "_law_cell"] ["_law_script", "_law_k"] (B4 s_law_left):=fsc
def Wu(K:PySem.W.Frag):Sp:=fun vs H Q _=>∃(p:Addr) (xs:List Int) (k:Nat),vs = [.ref p,.int (k:Int)]/\SqL K H p (xs.map V.int)/\k<=1000/\∀l H',H l=none->Same H H'->LeftAt H' l 0->Q (.ref l) H'
theorem Iz(T:Tx K mg):FnOk P w K mg base CX0 1 T.a0.f T.a0.fd ["_law_script", "_law_k"] (Wu K):=by
 have sc:=At;refine T.a0.F.ok At (fun vs H Q E h=>?_) (fun cdv A outer s H vs Q E hr h=>?_)
 .obtain⟨p,xs,k,rfl,_⟩:=h;rfl
 .obtain⟨p,xs,k,rfl,hS,hk,q⟩:=h;refine⟨_,(B1 (C4 (i:=2) sc.nd rfl (.inl rfl) (Cu (C6 zEf (pv 1) (E6 (P3 K) T.az O3 (A8 (pv 0) B0)) (D6 _)) (J7 (ixL K) (pv 0) (pv 1) (fun _ _=>rfl)) B6))
   (B2 (C1 (J5 (A8 (C2 Cg (E6 Kn T.bD Wd (A8 (pv 2) B0)) (Hl Rh T.bJ zAu (A8 (K4 zDh (E6 Kn T.bD Wd (A8 (pv 2) B0)) (C2 zCn B6 B6) (D6 _)) B0))) (A8 (C2 Y8 (pv 2) (C2 Cg B6 (pv 1))) (A8 B6 B0))))))),?_⟩
  refine ex1 rfl (ex1 rfl (B7 (a:=p) rfl (.inl hS) (B7 rfl rfl (ex1 rfl ?_))));have at1:decide ((k:Int) <((xs.map V.int).length:Int))=true->∃c:Int,atI (xs.map V.int) (k:Int)=some (.int c):=fun c1=>by
   have c1:(k:Int) <((xs.map V.int).length:Int):=BL c1;rw[AB]at c1;have hk':xs[k]?=some (xs[k]'(by omega)):=AC (by omega);exact⟨_,G7 (by rw[AH,hk'];rfl)⟩
  refine Q6 (fun c1=>?_) (fun c1=>?_)
  .obtain⟨c,hc⟩:=at1 c1;refine ex1 rfl (ex1 rfl ⟨p,_,B7 rfl rfl ⟨hS,hc,?_⟩⟩)
   (repeat first | refine⟨_,rfl,?_⟩ | refine⟨_,_,rfl,rfl,?_⟩)
   refine⟨⟨by decide,by decide,by decide⟩,?_⟩
   (repeat first | refine⟨_,rfl,?_⟩ | refine⟨_,_,rfl,rfl,?_⟩)
   refine .inr ⟨_,rfl,?_⟩
   (repeat first | refine⟨_,rfl,?_⟩ | refine⟨_,_,rfl,rfl,?_⟩)
   refine⟨.inr ?_,?_⟩
   .exact zFe _
   (repeat first | refine⟨_,rfl,?_⟩ | refine⟨_,_,rfl,rfl,?_⟩)
   refine⟨.inl ⟨by decide,by decide⟩,?_⟩
   (repeat first | refine⟨_,rfl,?_⟩ | refine⟨_,_,rfl,rfl,?_⟩)
   exact⟨by show 3<=sizeLine;decide,fun l hl=>q l _ hl (Same.new hl) ⟨_,_,upd_same,by decide⟩⟩
  .skip;(repeat first | refine⟨_,rfl,?_⟩ | refine⟨_,_,rfl,rfl,?_⟩)
   refine⟨⟨by decide,by decide,by decide⟩,?_⟩
   (repeat first | refine⟨_,rfl,?_⟩ | refine⟨_,_,rfl,rfl,?_⟩)
   refine .inr ⟨_,rfl,?_⟩
   (repeat first | refine⟨_,rfl,?_⟩ | refine⟨_,_,rfl,rfl,?_⟩)
   refine⟨.inr ?_,?_⟩
   .exact zFe _
   (repeat first | refine⟨_,rfl,?_⟩ | refine⟨_,_,rfl,rfl,?_⟩)
   refine⟨.inl ⟨by decide,by decide⟩,?_⟩
   (repeat first | refine⟨_,rfl,?_⟩ | refine⟨_,_,rfl,rfl,?_⟩)
   exact⟨by show 3<=sizeLine;decide,fun l hl=>q l _ hl (Same.new hl) ⟨_,_,upd_same,by decide⟩⟩
theorem Aa:FnScope ["_law_left_here", "_law_many", "_law_digit"] ["_law_left_here", "_law_many"] (B4 s_law_pick):=fsc
def Xg:Sp:=fun vs H Q _=>∃(p:Addr) (c many:Int),vs = [.ref p,.int many]/\LeftAt H p c/\c<=1000000/\0<many/\many<=1000000 /\
 ∀(d:Nat) H',(d:Int)<many->Sm [p] H H'->LeftAt H' p (c+1)->Q (.int (d:Int)) H'
theorem Q9(T:Tx K mg):FnOk P w K mg base CX0 2 T.al.f T.al.fd ["_law_left_here", "_law_many"] Xg:=by
 have G_law_mix:=Nd (P:=P) (w:=w) (base:=base) T;have sc:=Aa;refine T.al.F.ok Aa (fun vs H Q E h=>?_) (fun cdv A outer s H vs Q E hr h=>?_)
 .obtain⟨p,c,m,rfl,_⟩:=h;rfl
 .obtain⟨p,c,many,rfl,⟨a,b,e,c0⟩,c1,m0,m1,q⟩:=h;refine⟨_,(B1 (X2 (C2 Y8 (J7 (ixL K) (pv 0) B6 (fun _ _=>rfl)) B6) (Kj (pv 0) B6 w6))
   (B1 (G9 (C6 zCu (J7 (ixL K) (pv 0) B6 (fun _ _=>rfl)) B6 (D6 _)) (B1 (C4 (i:=2) sc.nd rfl (.inl rfl) (C2 Go (J7 (ixL K) (pv 0) B6 (fun _ _=>rfl)) (pv 1)))
   (B1 (X2 (C2 Ob (J7 (ixL K) (pv 0) B6 (fun _ _=>rfl)) (pv 1)) (Kj (pv 0) B6 w6))
   (B2 (C1 (pv 2))))) C9)
   (B2 (C1 (C2 Go (C2 Ob (D0 T.bc G_law_mix (Rm hr) (A8 (D0 T.bc G_law_mix (Rm hr) (A8 (J7 (ixL K) (pv 0) B6 (fun _ _=>rfl)) (A8 (J7 (ixL K) (pv 0) B6 (fun _ _=>rfl)) B0))) (A8 (C2 Y8 (J7 (ixL K) (pv 0) B6 (fun _ _=>rfl)) B6) B0))) B6) (pv 1)))))),?_⟩
  have nn:∀d:Int,0<=d->d<many->∀a' b',Q (.int d) (upd (upd H p (.lst [.int a,.int b,.int (c+1)])) p (.lst [.int a',.int b',.int (c+1)]))/\Q (.int d) (upd H p (.lst [.int a',.int b',.int (c+1)])):=fun d h0 h1 a' b'=>by
   obtain⟨n,rfl⟩:=Int.eq_ofNat_of_zero_le h0;exact⟨q n _ h1 (((Sm.refl _ _).upd (by simp)).upd (by simp)) ⟨a',b',upd_same,by omega⟩,q n _ h1 ((Sm.refl _ _).upd (by simp)) ⟨a',b',upd_same,by omega⟩⟩
  refine ex1 rfl ⟨p,_,B7 rfl rfl ⟨SqL.of e,rfl,B7 rfl rfl (ex1 rfl ⟨p,_,_,2,rfl,rfl,e,rfl,?_⟩)⟩⟩;refine ex1 rfl ⟨p,_,B7 rfl rfl ⟨SqL.of upd_same,rfl,B7 rfl rfl (ex1 rfl ?_)⟩⟩;refine Q6 (fun h1=>?_) (fun h1=>?_)
  .have h1:(0:Int)<a:=BL h1;refine ex1 rfl ⟨p,_,B7 rfl rfl ⟨SqL.of upd_same,rfl,ex1 rfl (B7 rfl rfl ⟨m0,?_⟩)⟩⟩;refine ex1 rfl ⟨p,_,B7 rfl rfl ⟨SqL.of upd_same,rfl,ex1 rfl (B7 rfl rfl ⟨⟨m0,by omega⟩,ex1 rfl ⟨p,_,_,0,rfl,rfl,upd_same,rfl,?_⟩⟩)⟩⟩;exact⟨_,rfl,(nn _ (GS _ (by omega)) (FQ _ m0) _ _).1⟩
  .refine ex1 rfl ⟨p,_,B7 rfl rfl ⟨SqL.of upd_same,rfl,ex1 rfl ⟨p,_,B7 rfl rfl ⟨SqL.of upd_same,rfl,_,ex1 rfl ⟨by omega,by omega,fun m2 h2 h3=>?_⟩⟩⟩⟩⟩;refine ex1 rfl ⟨p,_,B7 rfl rfl ⟨SqL.of upd_same,rfl,B7 rfl rfl ⟨_,ex1 rfl ⟨by omega,by omega,fun m3 h4 h5=>?_⟩⟩⟩⟩;refine B7 rfl rfl ⟨⟨by decide,by decide⟩,ex1 rfl (B7 rfl rfl ⟨m0,?_⟩)⟩;exact(nn _ (GS _ (by omega)) (FQ _ m0) _ _).2
end
theorem six{d n:Nat}(h:d<n):seqIndex? (d:Int) n=some d:=by
 unfold seqIndex?;simp;omega
theorem erase_perm{α:Type}{l:List α}{i:Nat}{x:α}(h:l[i]?=some x):(x::l.eraseIdx i).Perm l:=ST.erase_perm h
theorem Gd{α β:Type}(f:α->β):∀(l:List α) (i:Nat),(l.map f).eraseIdx i =(l.eraseIdx i).map f
 | [],_=>rfl
 | _::_,0=>rfl
 | a::l,i+1=>by
  show f a ::(l.map f).eraseIdx i=f a ::(l.eraseIdx i).map f;rw[Gd f l i]
theorem Tm{all rest got:List Str}(pm:(rest++got).Perm all)(h1:∀x∈all,Q7 x=true)(h2:all.Nodup)(h3:all.length<=100):M8 got:=by
 refine⟨fun x hx=>h1 x (pm.mem_iff.mp (BT _ hx)),?_,?_⟩
 .exact(FY.mp (pm.nodup_iff.mpr h2)).2.1
 .have:=pm.length_eq;rw[AZ]at this;omega
theorem Uw{all rest got:List Str}{d:Nat}{x:Str}(pm:(rest++got).Perm all)(h:rest[d]?=some x):(rest.eraseIdx d ++(got ++ [x])).Perm all:=by
 refine List.Perm.trans ?_ pm;rw[<-BE];refine DB.trans ?_;rw[<-BE];exact(erase_perm h).append_right got
theorem Sm1{p b:Addr}{H H':Hp}{o:HO}(h:Sm [p] H H')(e:H b=some o)(n:b≠p):H' b=some o:=h b o e fun z=>n (AE.mp z)
section
variable{P:Program}{w:World}{K:PySem.W.Frag}{mg:Str->Option Value}{base:Heap}
def all20:List Str:=["b", "aa", "zebra", "c", "quartzes", "ab", "m", "knows", "d", "mm", "likes", "z", "a", "ba", "abcdefgh", "y", "zz", "e", "x", "f"]
abbrev txt20:Str := "b aa zebra c quartzes ab m knows d mm likes z a ba abcdefgh y zz e x f"
theorem Xq:Builtin.Str.partsBetween txt20 (Builtin.Str.occurrences txt20 " " 0 txt20.length (txt20.length+1)) (" ":Str).length=all20:=by decide +kernel
theorem all20_ok:(∀x∈all20,Q7 x=true)/\all20.Nodup:=⟨by decide +kernel,by decide +kernel⟩
theorem Hq:∃all:List Str,all.length=20/\(∀x∈all,Q7 x=true)/\all.Nodup/\∀(Q:VK) (H:Hp),(∀l,H l=none->Q (.ref l) (upd H l (.lst (all.map V.str))))->Wi (.str txt20) [.str " "] H Q :=
 ⟨all20,rfl,all20_ok.1,all20_ok.2,fun Q H h=>⟨txt20, " ",all20,rfl,rfl,by decide +kernel,by decide +kernel,by decide +kernel,by decide +kernel,Xq,by decide +kernel,h⟩⟩
theorem q9:FnScope ["_law_left_here", "_law_many", "_law_some", "_law_names_here", "_law_k"] ["_law_left_here", "_law_many"] (B4 s_law_names):=fsc
def Sn:Sp:=fun vs H Q _=>∃(p:Addr) (c:Int) (many:Nat),vs = [.ref p,.int (many:Int)]/\LeftAt H p c/\c<=900000/\many<=20 /\
 ∀l (ss:List Str) H',H l=none->Sm [p] H H'->H' l=some (.lst (ss.map V.str))->ss.length=many->M8 ss->LeftAt H' p (c+many)->Q (.ref l) H'
set_option maxHeartbeats 2000000 in
theorem Gy(T:Tx K mg):FnOk P w K mg base CX0 3 T.a5.f T.a5.fd ["_law_left_here", "_law_many"] Sn:=by
 have G_law_pick:=Q9 (P:=P) (w:=w) (base:=base) T;have sc:=q9;refine T.a5.F.ok q9 (fun vs H Q E h=>?_) (fun cdv A outer s H vs Q E hr h=>?_)
 .obtain⟨p,c,m,rfl,_⟩:=h;rfl
 .obtain⟨p,c,many,rfl,hL,c1,m1,q⟩:=h;obtain⟨a0,b0,e0,c0⟩:=id hL;refine⟨_,(B1 (C4 (i:=2) sc.nd rfl (.inl rfl) (Bn K PySem.F.plainAttrs_str PySem.F.slot_str_split PySem.F.type_str_split Ue E3 (A8 E3 B0)))
   (B1 (C4 (i:=3) sc.nd rfl (.inl rfl) (J5 B0))
   (B1 (K1 PassesOwn.never rfl (zCd T.aY (A8 (pv 1) B0)) (C3 (i:=4) sc.nd rfl (.inl rfl))
   (B2 (C7 (Bn K PySem.F.plainAttrs_list PySem.F.slot_list_append PySem.F.type_list_append D3 (pv 3) (A8 (Bn K PySem.F.plainAttrs_list PySem.F.slot_list_pop PySem.F.type_list_pop Sv (pv 2) (A8 (D0 T.al G_law_pick (Rm hr) (A8 (pv 0) (A8 (E6 (P3 K) T.az O3 (A8 (pv 2) B0)) B0))) B0)) B0)))))
   (B2 (C1 (pv 3)))))),?_⟩
  obtain⟨all,al,a1,a2,hspl⟩:=Hq;refine⟨rfl,?_⟩;dsimp only[As,tC,Sh];refine hspl _ _ fun a ha=>?_;refine⟨CH _,fun b hb=>?_⟩;have hb':H b=none:=(Same.new ha).free hb;have nab:a≠b:=A9 upd_same hb;have npa:p≠a:=A9 e0 ha;have npb:p≠b:=A9 e0 hb';refine ex1 rfl (ex1 rfl ⟨by omega,by omega,?_⟩);rw[CQ];refine M6 (fun i σ H1=>(∃v4,σ = [some (.ref p),some (.int (many:Int)),some (.ref a),some (.ref b),v4])/\Sm [p] H H1/\LeftAt H1 p (c+i)/\∃rest got:List Str,H1 a=some (.lst (rest.map V.str))/\H1 b=some (.lst (got.map V.str))/\(rest++got).Perm all/\got.length=i) ?_ ?_ ?_
  .refine⟨⟨_,rfl⟩,((Same.new ha).trans (Same.new hb)).sm,((hL.cast (by omega)).upd npa).upd npb,all,[],by rw[B3 nab,upd_same],by rw[upd_same];rfl,by rw[CJ],rfl⟩
  .rintro i σ H1 hi ⟨⟨v4,rfl⟩,k1,L1,rest,got,ea,eb,pm,hg⟩ D1 hD1 _;have hlen:rest.length=20-i:=by
    have:=pm.length_eq;rw[AZ,hg,al]at this;omega
   refine ex1 rfl ⟨.inl ⟨rfl,_,SqL.of eb⟩,ex1 rfl ⟨.inl ⟨rfl,_,SqL.of ea⟩,ex1 rfl (ex1 rfl (B7 (a:=a) rfl (.inl (SqL.of ea)) (Dl (a:=p) (b:=c+i) rfl L1 (by omega) ?_ ?_ fun d H2 hd k2 L2=>?_)))⟩⟩
   .rw[AB];omega
   .rw[AB];omega
   rw[AB]at hd;have hd':d<rest.length:=by omega
   have hx:rest[d]?=some rest[d]:=AC hd';have ea2:=Sm1 k2 ea npa.symm;have eb2:=Sm1 k2 eb npb.symm;refine⟨a,_,_,d,.str rest[d],rfl,rfl,ea2,by omega,by omega,six (by rw[AB];exact hd'),by rw[AH,hx];rfl,b,B7 rfl rfl ⟨by rw[B3 nab.symm];exact eb2,?_,?_⟩⟩
   .rw[AB,sizeLine_eq];omega
   refine hD1 _ _ ⟨⟨_,rfl⟩,?_,?_,rest.eraseIdx d,got ++ [rest[d]],?_,?_,Uw pm hx,by rw[AZ,hg];rfl⟩
   .exact((k1.trans k2).updN ha).updN hb'
   .exact((L2.cast (by omega)).upd npa).upd npb
   .rw[B3 nab,upd_same,Gd]
   .rw[upd_same,AU];rfl
  .rintro σ H1 ⟨⟨v4,rfl⟩,k1,L1,rest,got,ea,eb,pm,hg⟩;exact⟨_,rfl,q b got H1 hb' k1 eb hg (Tm pm a1 a2 (by omega)) L1⟩
end
def pd(k:Str×Str):PyData:=.tuple [.str k.1,.str k.2]
theorem Du{x:Str}(h:Q7 x=true):PySem.PyData.strOk x=true:=by
 unfold Q7 at h;rw[BU]at h;unfold PySem.PyData.strOk;rw[<-Array.all_toList,GH];intro c hc;have:=(GH.mp h.2) c hc;unfold Xu at this;rw[BU]at this;have:=BL this.2;exact AQ (by omega)
theorem Ow{K:PySem.W.Frag}{H:Hp}{t:Addr}{k:Str×Str}(h:H t=some (.tup [.str k.1,.str k.2])):Rp K H (pd k) (.ref t):=by
 unfold pd;simp only[Rp,Rps];exact⟨t,_,rfl,SqT.of h,_,_,rfl,rfl,_,_,rfl,rfl,rfl⟩
theorem Gc{K:PySem.W.Frag}{H:Hp}:∀{ps:List PA2},(∀q∈ps,E2 H q)->Rps K H (ps.map fun q=>pd q.2) (G6 ps)
 | [],_=>by simp[Rps,G6]
 | q::r,h=>by
  show Rps K H (pd q.2::r.map fun q=>pd q.2) (V.ref q.1::G6 r);simp only[Rps];exact⟨_,_,rfl,Ow (h q (A_ ..)),Gc fun z hz=>h z (AO _ hz)⟩
theorem Kd{K:PySem.W.Frag}{H:Hp}{l:Addr}{ps:List PA2}(hl:H l=some (.lst (G6 ps)))(h:∀q∈ps,E2 H q):Rp K H (.list (ps.map fun q=>pd q.2)) (.ref l):=by
 simp only[Rp];exact⟨l,_,rfl,SqL.of hl,Gc h⟩
theorem zCg(a b:Str×Str):PyData.eqv (pd a) (pd b)=decide (a=b):=by
 unfold pd;rw[PyData.eqv,PyData.eqvAll,PyData.eqvAll,PyData.eqvAll,PyData.eqv,PyData.eqv];by_cases h1:a.1=b.1
 .by_cases h2:a.2=b.2
  .rw[AQ (Prod.ext h1 h2),h1,h2];simp
  .rw[AN fun z=>h2 (congrArg Prod.snd z)];simp[h2]
 .rw[AN fun z=>h1 (congrArg Prod.fst z)];simp[h1]
theorem Gj(k:Str×Str):∀ps:List PA2,((ps.map fun q=>pd q.2).any fun z=>PyData.eqv z (pd k))=decide (k∈ps.map fun q=>q.2)
 | []=>rfl
 | q::r=>by
  rw[AX,GV,Gj k r,zCg,AX];by_cases e:q.2=k
  .rw[AQ e,Bool.true_or,AQ (show k∈q.2::_ from by rw[<-e];exact A_ ..)]
  .rw[AN e,II];by_cases h:k∈r.map fun q=>q.2
   .rw[AQ h,AQ (AO _ h)]
   .rw[AN h,AN fun z=>(BD.mp z).elim (fun z=>e z.symm) h]
theorem Wh{k:Str×Str}(h1:PySem.PyData.strOk k.1=true)(h2:PySem.PyData.strOk k.2=true):(pd k).canLay0=true:=by
 unfold pd;simp[PyData.canLay0,PyData.canLayAll0,h1,h2]
theorem Im:∀{ps:List PA2},(∀q∈ps,PySem.PyData.strOk q.2.1=true/\PySem.PyData.strOk q.2.2=true)->PyData.canLayAll0 (ps.map fun q=>pd q.2)=true
 | [],_=>rfl
 | q::r,h=>by
  rw[AX,PyData.canLayAll0,Wh (h q (A_ ..)).1 (h q (A_ ..)).2,Im fun z hz=>h z (AO _ hz)];rfl
theorem l7{K:PySem.W.Frag}{H:Hp}{t l:Addr}{k:Str×Str}{ps:List PA2}{Q:VK}(ht:H t=some (.tup [.str k.1,.str k.2]))(hl:H l=some (.lst (G6 ps)))(hp:∀q∈ps,E2 H q)
  (hk:PySem.PyData.strOk k.1=true/\PySem.PyData.strOk k.2=true) (hs:∀q∈ps,PySem.PyData.strOk q.2.1=true/\PySem.PyData.strOk q.2.2=true) (q:Q (.bl (!decide (k∈ps.map fun q=>q.2))) H):zDk K true (.ref t) (.ref l) H Q :=
 ⟨pd k,_,Ow ht,.inl (Kd hl hp),⟨Wh hk.1 hk.2,by simp[pd,PyData.depth,PyData.depthAll]⟩,Im hs,by rw[AL rfl,Gj];exact q⟩
structure FL(H:Hp)(l:Addr)(ps:List PA2)(ss:List Str):Prop where
 at_:H l=some (.lst (G6 ps))
 pin:∀q∈ps,E2 H q
 nm:∀q∈ps,q.2.1∈ss/\q.2.2∈ss
 nd:(ps.map fun q=>q.2).Nodup
theorem FL.sm{H H':Hp}{p l:Addr}{c:Int}{ps:List PA2}{ss:List Str}(h:FL H l ps ss)(L:LeftAt H p c)(n:l≠p)(s:Sm [p] H H'):FL H' l ps ss:=by
 obtain⟨x,y,e,_⟩:=L;exact⟨Sm1 s h.at_ n,fun q hq=>Sm1 s (h.pin q hq) (X0 (h.pin q hq) e (by intro z;cases z)),h.nm,h.nd⟩
theorem FL.new{H:Hp}{l t:Addr}{o:HO}{ps:List PA2}{ss:List Str}(h:FL H l ps ss)(n:H t=none):FL (upd H t o) l ps ss :=
 ⟨by rw[B3 (A9 h.at_ n)];exact h.at_,fun q hq=>by unfold E2;rw[B3 (A9 (h.pin q hq) n)];exact h.pin q hq,h.nm,h.nd⟩
theorem FL.put{H:Hp}{l t:Addr}{ps:List PA2}{ss:List Str}{x y:Str}(h:FL H l ps ss)(k:Nat)(ht:H t=some (.tup [.str x,.str y]))(hx:x∈ss)(hy:y∈ss)(hn:(x,y)∉ps.map fun q=>q.2) :
  FL (upd H l (.lst ((G6 ps).take k++V.ref t ::(G6 ps).drop k))) l (ps.take k ++(t,x,y)::ps.drop k) ss:=by
 have pm:(ps.take k ++(t,x,y)::ps.drop k).Perm ((t,x,y)::ps):=by
  refine List.perm_middle.trans (List.Perm.cons _ ?_);rw[CA]
 have mm:∀q∈ps.take k ++(t,x,y)::ps.drop k,q =(t,x,y)\/q∈ps:=fun q hq=>BD.mp (pm.mem_iff.mp hq);refine⟨?_,fun q hq=>?_,fun q hq=>?_,?_⟩
 .rw[upd_same];unfold G6;rw[AU,List.map_take,AX,IK]
 .unfold E2;rcases mm q hq with rfl | z
  .rw[B3 (X0 ht h.at_ (by intro z;cases z))];exact ht
  .rw[B3 (X0 (h.pin q z) h.at_ (by intro z;cases z))];exact h.pin q z
 .rcases mm q hq with rfl | z
  .exact⟨hx,hy⟩
  .exact h.nm q z
 .rw[(pm.map _).nodup_iff];show((x,y)::ps.map fun q=>q.2).Nodup;exact D_.mpr ⟨hn,h.nd⟩
theorem FL.app{H:Hp}{l t:Addr}{ps:List PA2}{ss:List Str}{x y:Str}(h:FL H l ps ss)(ht:H t=some (.tup [.str x,.str y]))(hx:x∈ss)(hy:y∈ss)(hn:(x,y)∉ps.map fun q=>q.2) :
  FL (upd H l (.lst (G6 ps ++ [V.ref t]))) l (ps ++ [(t,x,y)]) ss:=by
 have:=h.put ps.length ht hx hy hn;have e:(G6 ps).length=ps.length:=by unfold G6;rw[AB]
 rw[<-e,CS,List.drop_length,e,CS,List.drop_length]at this;exact this
theorem Kz(ss:List Str):∀tt:List Str,(tt.flatMap fun a=>ss.map fun b=>(a,b)).length=tt.length*ss.length
 | []=>by simp
 | a::r=>by rw[List.flatMap_cons,AZ,AB,Kz ss r,BM,Nat.succ_mul];omega
theorem FL.len{H:Hp}{l:Addr}{ps:List PA2}{ss:List Str}(h:FL H l ps ss):ps.length<=ss.length*ss.length:=by
 have:=h.nd.length_le_of_subset (l₂:=ss.flatMap fun a=>ss.map fun b=>(a,b)) (fun k hk=>by
  obtain⟨q,hq,rfl⟩:=AK.mp hk;obtain⟨h1,h2⟩:=h.nm q hq;exact GJ.mpr ⟨q.2.1,h1,AK.mpr ⟨q.2.2,h2,rfl⟩⟩)
 rw[Kz,AB]at this;exact this
section
variable{P:Program}{w:World}{K:PySem.W.Frag}{mg:Str->Option Value}{base:Heap}
theorem Ya(d1 d2 d:Nat)(h1:d1<3)(h2:d2<4)(h:d<8):∃n:Nat,n<=10/\atI [V.int (8 +(d1:Int)),V.int d2,V.int 4,V.int 5,V.int 6,V.int 7,V.int 5,V.int 6] (d:Int)=some (.int (n:Int)):=by
 suffices ∃n:Nat,n<=10/\[V.int (8 +(d1:Int)),V.int d2,V.int 4,V.int 5,V.int 6,V.int 7,V.int 5,V.int 6][d]?=some (.int (n:Int)) by
  obtain⟨n,h,e⟩:=this;exact⟨n,h,G7 e⟩
 match d,h with
 | 0,_=>exact⟨8+d1,by omega,by show some (V.int _)=_;rw[Int.natCast_add];rfl⟩
 | 1,_=>exact⟨d2,by omega,rfl⟩
 | 2,_=>exact⟨4,by omega,rfl⟩
 | 3,_=>exact⟨5,by omega,rfl⟩
 | 4,_=>exact⟨6,by omega,rfl⟩
 | 5,_=>exact⟨7,by omega,rfl⟩
 | 6,_=>exact⟨5,by omega,rfl⟩
 | 7,_=>exact⟨6,by omega,rfl⟩
theorem y8:FnScope ["_law_left_here", "_law_way"] ["_law_left_here"] (B4 s_law_size):=fsc
def Zj:Sp:=fun vs H Q _=>∃(p:Addr) (c:Int),vs = [.ref p]/\LeftAt H p c/\c<=900000 /\
 ∀(n:Nat) H',n<=10->Sm [p] H H'->LeftAt H' p (c+3)->Q (.int (n:Int)) H'
theorem Hy(T:Tx K mg):FnOk P w K mg base CX0 3 T.be.f T.be.fd ["_law_left_here"] Zj:=by
 have G_law_pick:=Q9 (P:=P) (w:=w) (base:=base) T;have sc:=y8;refine T.be.F.ok y8 (fun vs H Q E h=>?_) (fun cdv A outer s H vs Q E hr h=>?_)
 .obtain⟨p,c,rfl,_⟩:=h;rfl
 .obtain⟨p,c,rfl,hL,c1,q⟩:=h;refine⟨_,(B1 (C4 (i:=1) sc.nd rfl (.inl rfl) (D0 T.al G_law_pick (Rm hr) (A8 (pv 0) (A8 B6 B0))))
   (@B2 _ _ _ (@C1 _ _ _ _ (@J7 _ _ _ _ _ _ _ (ixL K) (@J5 _ _ _ _ (@A8 _ _ _ _ _ (C2 Y8 B6 (D0 T.al G_law_pick (Rm hr) (A8 (pv 0) (A8 B6 B0)))) (@A8 _ _ _ _ _ (D0 T.al G_law_pick (Rm hr) (A8 (pv 0) (A8 B6 B0))) (@A8 _ _ _ _ _ B6 (@A8 _ _ _ _ _ B6 (@A8 _ _ _ _ _ B6 (@A8 _ _ _ _ _ B6 (@A8 _ _ _ _ _ B6 (@A8 _ _ _ _ _ B6 B0 (by rfl)) (by rfl)) (by rfl)) (by rfl)) (by rfl)) (by rfl)) (by rfl)) (by rfl))) (pv 1) (fun _ _=>rfl))))),?_⟩
  refine ex1 rfl (Dl (a:=p) rfl hL (by omega) (by decide) (by decide) fun d H1 hd k1 L1=>?_);refine ex1 rfl (Dl (a:=p) rfl L1 (by omega) (by decide) (by decide) fun d1 H2 hd1 k2 L2=>?_);refine B7 rfl rfl ?_;refine ex1 rfl (Dl (a:=p) rfl L2 (by omega) (by decide) (by decide) fun d2 H3 hd2 k3 L3=>?_);refine⟨by show 8<=sizeLine;decide,fun l hl=>?_⟩;obtain⟨n,hn,e⟩:=Ya d1 d2 d (by omega) (by omega) (by omega);have e3:=L3.get;refine ex1 rfl ⟨l,_,B7 rfl rfl ⟨SqL.of upd_same,e,?_⟩⟩;exact q n _ hn (((k1.trans k2).trans k3).new hl) ((L3.cast (by omega)).upd (A9 e3 hl))
theorem LeftAt.ne{H:Hp}{p n:Addr}{c:Int}{ss:List Str}(h:LeftAt H p c)(hn:H n=some (.lst (ss.map V.str))):n≠p:=by
 rintro rfl;obtain⟨a,b,e,_⟩:=h;rw[hn]at e;cases ss with
 | nil=>cases e
 | cons x r=>cases e
theorem Tr(d:Nat)(h:d<4):∃n:Nat,0<n/\n<=9/\atI [V.int 4,V.int 6,V.int 9,V.int 3] (d:Int)=some (.int (n:Int)):=by
 suffices ∃n:Nat,0<n/\n<=9/\[V.int 4,V.int 6,V.int 9,V.int 3][d]?=some (.int (n:Int)) by
  obtain⟨n,h1,h2,e⟩:=this;exact⟨n,h1,h2,G7 e⟩
 match d,h with
 | 0,_=>exact⟨4,by omega,by omega,rfl⟩
 | 1,_=>exact⟨6,by omega,by omega,rfl⟩
 | 2,_=>exact⟨9,by omega,by omega,rfl⟩
 | 3,_=>exact⟨3,by omega,by omega,rfl⟩
theorem X5:FnScope ["_law_left_here", "_law_names_here", "_law_found", "_law_often", "_law_one", "_law_other"] ["_law_left_here", "_law_names_here"] (B4 s_law_strikes):=fsc
def Np(K:PySem.W.Frag):Sp:=fun vs H Q _=>∃(p n:Addr) (c:Int) (ss:List Str),vs = [.ref p,.ref n]/\LeftAt H p c/\c<=900000/\H n=some (.lst (ss.map V.str))/\M8 ss/\ss.length<=10 /\
 ∀l (ps:List PA2) c' H',H l=none->Sm [p] H H'->H' l=some (.lst (G6 ps))->(∀q∈ps,E2 H' q)->StrkOk ss ps->c'<=c+1000->LeftAt H' p c'->Q (.ref l) H'
def SI(H:Hp)(p f:Addr)(ss:List Str)(b:Int)(H1:Hp):Prop:=Sm [p] H H1/\(∃c',c'<=b/\LeftAt H1 p c')/\∃ps,FL H1 f ps ss
set_option maxHeartbeats 4000000 in
theorem Bf(T:Tx K mg):FnOk P w K mg base CX0 3 T.aX.f T.aX.fd ["_law_left_here", "_law_names_here"] (Np K):=by
 have G_law_pick:=Q9 (P:=P) (w:=w) (base:=base) T;have sc:=X5;refine T.aX.F.ok X5 (fun vs H Q E h=>?_) (fun cdv A outer s H vs Q E hr h=>?_)
 .obtain⟨p,n,c,ss,rfl,_⟩:=h;rfl
 .obtain⟨p,n,c,ss,rfl,hL,c1,hn,hN,hlen,q⟩:=h;obtain⟨a0,b0,e0,c0⟩:=id hL;refine⟨_,(B1 (C4 (i:=2) sc.nd rfl (.inl rfl) (J5 B0))
   (B1 (C4 (i:=3) sc.nd rfl (.inl rfl) (J7 (ixL K) (J5 (A8 B6 (A8 B6 (A8 B6 (A8 B6 B0))))) (D0 T.al G_law_pick (Rm hr) (A8 (pv 0) (A8 B6 B0))) (fun _ _=>rfl)))
   (B1 (K1 PassesOwn.never rfl (piL K (pv 1)) (C3 (i:=4) sc.nd rfl (.inl rfl))
   (B1 (K1 PassesOwn.never rfl (piL K (pv 1)) (C3 (i:=5) sc.nd rfl (.inl rfl))
   (B2 (G9 (PW.pt (Cc (C6 Yn (pv 4) (pv 5) (D6 _)) (Cc (C6 K6 (D0 T.al G_law_pick (Rm hr) (A8 (pv 0) (A8 (pv 3) B0))) B6 (D6 _)) (y7 (C6 (Ef K hr.units) (O1 (A8 (pv 4) (A8 (pv 5) B0))) (pv 2) rfl))))) (B1 (C7 (Bn K PySem.F.plainAttrs_list PySem.F.slot_list_insert PySem.F.type_list_insert Om (pv 2) (A8 (D0 T.al G_law_pick (Rm hr) (A8 (pv 0) (A8 (C2 Y8 (E6 (P3 K) T.az O3 (A8 (pv 2) B0)) B6) B0))) (A8 (O1 (A8 (pv 4) (A8 (pv 5) B0))) B0))))
   (B2 (G9 (PW.pt (Cc (C6 K6 (D0 T.al G_law_pick (Rm hr) (A8 (pv 0) (A8 B6 B0))) B6 (D6 _)) (y7 (C6 (Ef K hr.units) (O1 (A8 (pv 5) (A8 (pv 4) B0))) (pv 2) rfl)))) (B2 (C7 (Bn K PySem.F.plainAttrs_list PySem.F.slot_list_append PySem.F.type_list_append D3 (pv 2) (A8 (O1 (A8 (pv 5) (A8 (pv 4) B0))) B0)))) C9))) C9)))
   (B2 (G9 (PW.pt (Cc (C6 K6 (D0 T.al G_law_pick (Rm hr) (A8 (pv 0) (A8 B6 B0))) B6 (D6 _)) (y7 (C6 (Ef K hr.units) (O1 (A8 (pv 4) (A8 (pv 4) B0))) (pv 2) rfl)))) (B2 (C7 (Bn K PySem.F.plainAttrs_list PySem.F.slot_list_append PySem.F.type_list_append D3 (pv 2) (A8 (O1 (A8 (pv 4) (A8 (pv 4) B0))) B0)))) C9))))
   (B2 (C1 (pv 2)))))),?_⟩
  refine⟨CH _,fun f hf=>?_⟩;have npf:p≠f:=A9 e0 hf;have nnf:n≠f:=A9 hn hf;have nnp:n≠p:=hL.ne hn;have nnD:n∉[p]:=by simpa using nnp
  have nm:∀x∈ss,PySem.PyData.strOk x=true:=fun x hx=>Du (hN.1 x hx);refine⟨by show 4<=sizeLine;decide,fun t ht=>?_⟩;have s1:Same H (upd (upd H f (.lst [])) t (.lst [.int 4,.int 6,.int 9,.int 3])):=(Same.new hf).trans (Same.new ht);have ef:(upd (upd H f (.lst [])) t (.lst [.int 4,.int 6,.int 9,.int 3])) f=some (.lst []):=by rw[B3 (A9 upd_same ht),upd_same]
  refine ex1 rfl (Dl (a:=p) (b:=c) rfl (hL.same s1) (by omega) (by decide) (by decide) fun d H1 hd k1 L1=>?_);obtain⟨often,o1,o2,eo⟩:=Tr d (by omega);have hpt:p≠t:=A9 ((Same.new hf) _ _ e0) ht;refine⟨t,_,B7 rfl rfl ⟨SqL.of (Sm1 k1 upd_same hpt.symm),eo,?_⟩⟩;have i0:SI H p f ss (c+1) H1:=⟨s1.sm.trans k1,⟨_,Int.le_refl _,L1⟩,[],Sm1 k1 ef npf.symm,by simp,by simp,by simp⟩;have hseq:∀{H1 b},SI H p f ss b H1->SqL K H1 n (ss.map V.str):=fun h=>(h.1.at nnD).seqL (SqL.of hn);refine ex1 rfl ⟨n,rfl,⟨_,hseq i0⟩,?_⟩;refine Y4 (asL (K:=K) (SqL.of hn)) (fun i σ H1=>(∃v4 v5,σ = [some (.ref p),some (.ref n),some (.ref f),some (.int (often:Int)),v4,v5])/\SI H p f ss (c+1+31*i) H1) ?_ ?_ ?_ ?_
  .exact⟨⟨_,_,rfl⟩,by simpa using i0⟩
  .rintro i σ H1 hi ⟨_,h1⟩;exact h1.1.at nnD
  .rintro i σ H1 x hx ⟨⟨v4,v5,rfl⟩,h1⟩ D1 hD1 _;rw[AH]at hx;obtain⟨one,ho,rfl⟩:∃y,ss[i]?=some y/\V.str y=x:=by
    cases e:ss[i]? with
    | none=>rw[e]at hx;cases hx
    | some y=>rw[e]at hx;exact⟨y,rfl,by injection hx⟩
   have hone:one∈ss:=BN ho;have hi:i<ss.length:=(AG.mp ho).1;refine ex1 rfl ⟨n,rfl,⟨_,hseq h1⟩,?_⟩;refine Y4 (asL (K:=K) (SqL.of hn)) (fun j σ H1=>(∃v5,σ = [some (.ref p),some (.ref n),some (.ref f),some (.int (often:Int)),some (.str one),v5])/\SI H p f ss (c+1+31*i+3*j) H1) ?_ ?_ ?_ ?_
   .exact⟨⟨_,rfl⟩,by simpa using h1⟩
   .rintro i σ H1 hi ⟨_,h1⟩;exact h1.1.at nnD
   .rintro j σ H1 x hx ⟨⟨v5,rfl⟩,h1⟩ D2 hD2 _;rw[AH]at hx;obtain⟨oth,ho,rfl⟩:∃y,ss[j]?=some y/\V.str y=x:=by
     cases e:ss[j]? with
     | none=>rw[e]at hx;cases hx
     | some y=>rw[e]at hx;exact⟨y,rfl,by injection hx⟩
    have hoth:oth∈ss:=BN ho;have hj:j<ss.length:=(AG.mp ho).1;obtain⟨k1,⟨c',hc',L1⟩,ps,F1⟩:=h1;have done:∀{H2 c2 ps2},Sm [p] H H2->c2<=c'+3->LeftAt H2 p c2->FL H2 f ps2 ss->SI H p f ss (c+1+31*i+3 *((j+1:Nat):Int)) H2:=fun{H2 c2 ps2} a b d e=>⟨a,⟨c2,by omega,d⟩,ps2,e⟩;refine ex1 rfl (ex1 rfl ⟨rfl,ex1 rfl ?_⟩);refine Q6 (fun h1=>?_) (fun h1=>X1 (hD2 _ _ ⟨⟨_,rfl⟩,done k1 (by omega) L1 F1⟩));refine ex1 rfl (ex1 rfl (Dl (a:=p) (b:=c') rfl L1 (by omega) (by omega) (by omega) fun d1 H2 hd1 k2 L2=>⟨rfl,_,rfl,?_⟩));have F2:=F1.sm L1 npf.symm k2;refine Q6 (fun h2=>?_) (fun h2=>X1 (hD2 _ _ ⟨⟨_,rfl⟩,done (k1.trans k2) (by omega) L2 F2⟩));refine ex1 rfl (ex1 rfl ⟨by show 2<=sizeLine;decide,fun t2 ht2=>?_⟩);have F3:=F2.new (o:=.tup [.str one,.str oth]) ht2;have e2:=L2.get;have L3:=L2.upd (o:=.tup [.str one,.str oth]) (A9 e2 ht2);have k3:=(k1.trans k2).new (o:=.tup [.str one,.str oth]) ht2;refine ex1 rfl (l7 (k:=(one,oth)) upd_same F3.at_ F3.pin ⟨nm _ hone,nm _ hoth⟩ (fun q hq=>⟨nm _ (F3.nm q hq).1,nm _ (F3.nm q hq).2⟩) ⟨_,rfl,?_⟩);refine Q6 (fun h3=>?_) (fun h3=>hD2 _ _ ⟨⟨_,rfl⟩,done k3 (by omega) L3 F3⟩);have h3':(one,oth)∉ps.map fun q=>q.2:=by simpa using h3
    have lps:=F3.len;have lps':ps.length<=100:=Nat.le_trans lps (Nat.mul_le_mul hlen hlen);have rl:(G6 ps).length=ps.length:=by unfold G6;rw[AB]
    refine ex1 rfl ⟨.inl ⟨rfl,_,SqL.of F3.at_⟩,ex1 rfl (ex1 rfl (B7 (a:=f) rfl (.inl (SqL.of F3.at_)) (B7 rfl rfl (Dl (a:=p) (b:=c'+1) rfl L3 (by omega) (by omega) (by omega) fun d2 H4 hd2 k4 L4=>?_))))⟩;have F4:=F3.sm L3 npf.symm k4;refine ex1 rfl (ex1 rfl ⟨by show 2<=sizeLine;decide,fun t3 ht3=>?_⟩);have F5:=F4.new (o:=.tup [.str one,.str oth]) ht3;have e4:=L4.get;have L5:=L4.upd (o:=.tup [.str one,.str oth]) (A9 e4 ht3);have k5:=(k3.trans k4).new (o:=.tup [.str one,.str oth]) ht3;refine⟨f,_,_,d2,ex1 rfl ⟨rfl,rfl,F5.at_,by omega,by rw[sizeLine_eq];omega,?_⟩⟩;have F6:=F5.put d2 upd_same hone hoth h3';have L6:=L5.upd (o:=.lst ((G6 ps).take d2++V.ref t3 ::(G6 ps).drop d2)) npf;have k6:=k5.updN (o:=.lst ((G6 ps).take d2++V.ref t3 ::(G6 ps).drop d2)) hf;generalize hps:ps.take d2 ++(t3,one,oth)::ps.drop d2=ps' at F6;refine ex1 rfl (Dl (a:=p) rfl L6 (by omega) (by decide) (by decide) fun d3 H7 hd3 k7 L7=>⟨rfl,_,rfl,?_⟩);have F7:=F6.sm L6 npf.symm k7;refine Q6 (fun h4=>?_) (fun h4=>X1 (hD2 _ _ ⟨⟨_,rfl⟩,done (k6.trans k7) (by omega) L7 F7⟩));refine ex1 rfl (ex1 rfl ⟨by show 2<=sizeLine;decide,fun t4 ht4=>?_⟩);have F8:=F7.new (o:=.tup [.str oth,.str one]) ht4;have e7:=L7.get;have L8:=L7.upd (o:=.tup [.str oth,.str one]) (A9 e7 ht4);have k8:=(k6.trans k7).new (o:=.tup [.str oth,.str one]) ht4;refine ex1 rfl (l7 (k:=(oth,one)) upd_same F8.at_ F8.pin ⟨nm _ hoth,nm _ hone⟩ (fun q hq=>⟨nm _ (F8.nm q hq).1,nm _ (F8.nm q hq).2⟩) ⟨_,rfl,?_⟩);refine Q6 (fun h5=>?_) (fun h5=>hD2 _ _ ⟨⟨_,rfl⟩,done k8 (by omega) L8 F8⟩);have h5':(oth,one)∉ps'.map fun q=>q.2:=by simpa using h5
    have lps:=F8.len;have lps':ps'.length<=100:=Nat.le_trans lps (Nat.mul_le_mul hlen hlen);have rl:(G6 ps').length=ps'.length:=by unfold G6;rw[AB]
    refine ex1 rfl ⟨.inl ⟨rfl,_,SqL.of F8.at_⟩,ex1 rfl (ex1 rfl ⟨by show 2<=sizeLine;decide,fun t5 ht5=>?_⟩)⟩;have F9:=F8.new (o:=.tup [.str oth,.str one]) ht5;have e8:=L8.get;have L9:=L8.upd (o:=.tup [.str oth,.str one]) (A9 e8 ht5);have k9:=k8.new (o:=.tup [.str oth,.str one]) ht5;refine⟨f,B7 rfl rfl ⟨F9.at_,by rw[sizeLine_eq];omega,hD2 _ _ ⟨⟨_,rfl⟩,done (k9.updN hf) (by omega) (L9.upd npf) (F9.app upd_same hoth hone h5')⟩⟩⟩
   .rintro σ H1 ⟨⟨v5,rfl⟩,k1,⟨c',hc',L1⟩,ps,F1⟩;simp only[AB]at hc';have done:∀{H2 c2 ps2},Sm [p] H H2->c2<=c'+1->LeftAt H2 p c2->FL H2 f ps2 ss->SI H p f ss (c+1+31 *((i+1:Nat):Int)) H2:=fun{H2 c2 ps2} a b d e=>⟨a,⟨c2,by omega,d⟩,ps2,e⟩;refine ex1 rfl (Dl (a:=p) (b:=c') rfl L1 (by omega) (by decide) (by decide) fun d3 H7 hd3 k7 L7=>⟨rfl,_,rfl,?_⟩);have F7:=F1.sm L1 npf.symm k7;refine Q6 (fun h4=>?_) (fun h4=>X1 (hD1 _ _ ⟨⟨_,_,rfl⟩,done (k1.trans k7) (by omega) L7 F7⟩));refine ex1 rfl (ex1 rfl ⟨by show 2<=sizeLine;decide,fun t4 ht4=>?_⟩);have F8:=F7.new (o:=.tup [.str one,.str one]) ht4;have e7:=L7.get;have L8:=L7.upd (o:=.tup [.str one,.str one]) (A9 e7 ht4);have k8:=(k1.trans k7).new (o:=.tup [.str one,.str one]) ht4;refine ex1 rfl (l7 (k:=(one,one)) upd_same F8.at_ F8.pin ⟨nm _ hone,nm _ hone⟩ (fun q hq=>⟨nm _ (F8.nm q hq).1,nm _ (F8.nm q hq).2⟩) ⟨_,rfl,?_⟩);refine Q6 (fun h5=>?_) (fun h5=>hD1 _ _ ⟨⟨_,_,rfl⟩,done k8 (by omega) L8 F8⟩);have h5':(one,one)∉ps.map fun q=>q.2:=by simpa using h5
    have lps:=F8.len;have lps':ps.length<=100:=Nat.le_trans lps (Nat.mul_le_mul hlen hlen);have rl:(G6 ps).length=ps.length:=by unfold G6;rw[AB]
    refine ex1 rfl ⟨.inl ⟨rfl,_,SqL.of F8.at_⟩,ex1 rfl (ex1 rfl ⟨by show 2<=sizeLine;decide,fun t5 ht5=>?_⟩)⟩;have F9:=F8.new (o:=.tup [.str one,.str one]) ht5;have e8:=L8.get;have L9:=L8.upd (o:=.tup [.str one,.str one]) (A9 e8 ht5);have k9:=k8.new (o:=.tup [.str one,.str one]) ht5;refine⟨f,B7 rfl rfl ⟨F9.at_,by rw[sizeLine_eq];omega,hD1 _ _ ⟨⟨_,_,rfl⟩,done (k9.updN hf) (by omega) (L9.upd npf) (F9.app upd_same hone hone h5')⟩⟩⟩
  .rintro σ H1 ⟨⟨v4,v5,rfl⟩,k1,⟨c',hc',L1⟩,ps,F1⟩;simp only[AB]at hc';have lps:=F1.len;have lps':ps.length<=100:=Nat.le_trans lps (Nat.mul_le_mul hlen hlen);exact⟨_,rfl,q f ps c' H1 hf k1 F1.at_ F1.pin ⟨F1.nm,F1.nd,by omega⟩ (by omega) L1⟩
end
theorem bor(x y:Nat):Builtin.bitOr (x:Int) (y:Int) =((x ||| y:Nat):Int):=by
 have h1:¬0<=Builtin.bitNot (x:Int):=by unfold Builtin.bitNot;omega
 have h2:¬0<=Builtin.bitNot (y:Int):=by unfold Builtin.bitNot;omega
 have h3:∀z:Int,Builtin.bitNot (Builtin.bitNot z)=z:=fun z=>by unfold Builtin.bitNot;omega
 rw[Builtin.bitOr,PyProof.Rows.bitAnd_nn h1 h2,h3,h3,h3];rfl
theorem Wk(x y:Nat):Builtin.bitAnd (x:Int) (y:Int) =((x &&& y:Nat):Int):=by simp[Builtin.bitAnd]
theorem Yf(k:Nat):(1:Int)*2 ^((k:Int).toNat) =((2^k:Nat):Int):=by rw[Int.one_mul,CQ,Int.natCast_pow];rfl
theorem Ju(m k:Nat):decide (V.int (Builtin.bitAnd ((m:Int) / 2 ^((k:Int).toNat)) 1)=V.int 1)=m.testBit k:=by
 have e1:(m:Int) / 2 ^((k:Int).toNat) =((m / 2^k:Nat):Int):=by rw[CQ,Int.natCast_ediv,Int.natCast_pow];rfl
 have e2:Builtin.bitAnd ((m / 2^k:Nat):Int) 1 =((m / 2^k % 2:Nat):Int):=by
  rw[show(1:Int) =((1:Nat):Int)from rfl,Wk,Nat.and_one_is_mod]
 rw[e1,e2,Nat.testBit_eq_decide_div_mod_eq];refine decide_eq_decide.mpr ⟨fun h=>?_,fun h=>?_⟩
 .injection h with h;omega
 .rw[h];rfl
def E4(m:Nat):V:=.int (m:Int)
structure MB(ns:List Str)(ks:List (Str×Str))(B:List Nat):Prop where
 len:B.length=ns.length
 bit:∀i j,(B.getD i 0).testBit j=true↔∃k∈ks,ns[i]?=some k.1/\ns[j]?=some k.2
theorem MB.zero(ns:List Str):MB ns [] (List.replicate ns.length 0):=by
 refine⟨List.length_replicate,fun i j=>?_⟩;have e:(List.replicate ns.length 0).getD i 0=0:=by
  rw[BG,List.getElem?_replicate];by_cases h:i<ns.length
  .rw[AL h];rfl
  .rw[AJ h];rfl
 rw[e,CL];simp
theorem V0{α:Type}{l:List α}(h:l.Nodup){i j:Nat}{x:α}(hi:l[i]?=some x)(hj:l[j]?=some x):i=j:=by
 obtain⟨a,e⟩:=AG.mp hi;obtain⟨b,e'⟩:=AG.mp hj;exact(List.getElem_inj h).mp (e.trans e'.symm)
theorem MB.step{ns:List Str}{ks:List (Str×Str)}{B:List Nat}(h:MB ns ks B)(nd:ns.Nodup){a b:Nat}{x y:Str}(ha:ns[a]?=some x)(hb:ns[b]?=some y):MB ns (ks ++ [(x,y)]) (B.set a (B.getD a 0 ||| 2^b)):=by
 have hlt:a<B.length:=by rw[h.len];exact(AG.mp ha).1
 refine⟨by rw[List.length_set];exact h.len,fun i j=>?_⟩;by_cases e:a=i
 .subst e;have e:(B.set a (B.getD a 0 ||| 2^b)).getD a 0=B.getD a 0 ||| 2^b:=by
   rw[BG,HW hlt];rfl
  rw[e,BO,CC,h.bit,DU,BK];constructor
  .rintro(⟨k,hk,h1,h2⟩ | rfl)
   .exact⟨k,DY _ hk,h1,h2⟩
   .exact⟨(x,y),BT _ (AE.mpr rfl),ha,hb⟩
  .rintro⟨k,hk,h1,h2⟩;rcases AR.mp hk with hk | hk
   .exact .inl ⟨k,hk,h1,h2⟩
   .rw[AE.mp hk]at h2;exact .inr (V0 nd hb h2)
 .have e':(B.set a (B.getD a 0 ||| 2^b)).getD i 0=B.getD i 0:=by
   rw[BG,List.getElem?_set_ne e,<-BG]
  rw[e',h.bit];constructor
  .rintro⟨k,hk,h1,h2⟩;exact⟨k,DY _ hk,h1,h2⟩
  .rintro⟨k,hk,h1,h2⟩;rcases AR.mp hk with hk | hk
   .exact⟨k,hk,h1,h2⟩
   .rw[AE.mp hk]at h1;exact absurd (V0 nd ha h1) e
theorem MB.mono{ns:List Str}{ks ks':List (Str×Str)}{B:List Nat}(h:MB ns ks B)(e:∀k,k∈ks↔k∈ks'):MB ns ks' B :=
 ⟨h.len,fun i j=>by rw[h.bit];exact⟨fun⟨k,a,b⟩=>⟨k,(e k).mp a,b⟩,fun⟨k,a,b⟩=>⟨k,(e k).mpr a,b⟩⟩⟩
theorem Wm{x y:Str}(h:x.cps.toList=y.cps.toList):x=y:=by
 cases x;cases y;exact congrArg Str.mk (IC.mp h)
theorem Ur{x y:Str}(h1:leS x y)(h2:leS y x):x=y:=Wm (List.le_antisymm (as:=x.cps.toList) (bs:=y.cps.toList) h1 h2)
theorem Bq{a b:List Str}(h1:a.Pairwise leS)(h2:b.Pairwise leS)(h:a.Perm b):a=b:=HP (fun _ _ _ _=>Ur) h1 h2 h
structure ViewAt(H:Hp)(p v:Addr)(ns:List Str)(ks:List (Str×Str))(A B:List Nat):Prop where
 ex:∃a s t,H v=some (.lst [.ref a,.ref s,.ref t])/\H a=some (.lst (ns.map V.str))/\H s=some (.lst (A.map E4))/\H t=some (.lst (B.map E4))/\v≠p/\a≠p/\s≠p/\t≠p
 mA:MB ns (ks.map fun k=>(k.2,k.1)) A
 mB:MB ns ks B
theorem ViewAt.sm{H H':Hp}{p v:Addr}{ns:List Str}{ks:List (Str×Str)}{A B:List Nat}(h:ViewAt H p v ns ks A B)(s:Sm [p] H H'):ViewAt H' p v ns ks A B:=by
 obtain⟨⟨a,b,c,e1,e2,e3,e4,n1,n2,n3,n4⟩,h1,h2⟩:=h;exact⟨⟨a,b,c,Sm1 s e1 n1,Sm1 s e2 n2,Sm1 s e3 n3,Sm1 s e4 n4,n1,n2,n3,n4⟩,h1,h2⟩
theorem ViewAt.same{H H':Hp}{p v:Addr}{ns:List Str}{ks:List (Str×Str)}{A B:List Nat}(h:ViewAt H p v ns ks A B)(s:Same H H'):ViewAt H' p v ns ks A B:=h.sm s.sm
theorem Rg{n j:Nat}(h:j<n):ixN n (j:Int)=some j:=by
 unfold ixN;rw[AL (by omega),AL (by omega),CQ]
theorem Dr{B:List Nat}{a:Nat}(h:a<B.length):atI (B.map E4) (a:Int)=some (.int ((B.getD a 0:Nat):Int)):=by
 refine G7 ?_;rw[AH,AC h,BG,AC h];rfl
theorem Ke(n:Nat):(List.replicate ((n:Int).toNat) [V.int 0]).flatten =(List.replicate n 0).map E4:=by
 rw[CQ]
 induction n with
 | zero=>rfl
 | succ n ih =>
  rw[EO,GZ,ih,EO,AX];rfl
theorem Kq(B:List Nat)(a m:Nat):(B.map E4).set a (.int (m:Int)) =(B.set a m).map E4:=by
 rw[List.map_set];rfl
section
variable{P:Program}{w:World}{K:PySem.W.Frag}{mg:Str->Option Value}{base:Heap}
theorem o9:FnScope ["_law_names_here", "_law_strikes_here", "_law_strikers", "_law_struck", "_law_one", "_law_other", "_law_a", "_law_b"] ["_law_names_here", "_law_strikes_here"] (B4 s_law_masks):=fsc
def Ta:Sp:=fun vs H Q _=>∃(n a:Addr) (ss:List Str) (ps:List PA2),vs = [.ref n,.ref a]/\H n=some (.lst (ss.map V.str))/\M8 ss/\H a=some (.lst (G6 ps))/\(∀q∈ps,E2 H q)/\StrkOk ss ps /\
 ∀v ns A B H',H v=none->Same H H'->ns.Perm ss->ns.Pairwise leS->(∀p o,H p=some o->ViewAt H' p v ns (ps.map fun q=>q.2) A B)->Q (.ref v) H'
set_option maxHeartbeats 2000000 in
theorem Gk(T:Tx K mg):FnOk P w K mg base CX0 1 T.a6.f T.a6.fd ["_law_names_here", "_law_strikes_here"] Ta:=by
 have sc:=o9;refine T.a6.F.ok o9 (fun vs H Q E h=>?_) (fun cdv A outer s H vs Q E hr h=>?_)
 .obtain⟨n,a,ss,ps,rfl,_⟩:=h;rfl
 .obtain⟨n,a,ss,ps,rfl,hn,hN,ha,hP,hO,q⟩:=h;refine⟨_,(B1 (C4 (i:=0) sc.nd rfl (.inl rfl) (E6 (Lu K) T.aC J3 (A8 (pv 0) B0)))
   (B1 (Ps (i:=2) (j:=3) rfl sc.nd rfl rfl (by decide) rfl rfl (A8 (C2 Wb (J5 (A8 B6 B0)) (E6 (P3 K) T.az O3 (A8 (pv 0) B0))) (A8 (C2 Wb (J5 (A8 B6 B0)) (E6 (P3 K) T.az O3 (A8 (pv 0) B0))) B0)) rfl)
   (B1 (K1 PassesOwn.never rfl (piL K (pv 1)) (pgT K (n:=2) (C5 (C3 (i:=4) sc.nd rfl (.inl rfl)) (C5 (C3 (i:=5) sc.nd rfl (.inl rfl)) J1)))
   (B1 (Ps (i:=6) (j:=7) rfl sc.nd rfl rfl (by decide) rfl rfl (A8 (Bn K PySem.F.plainAttrs_list PySem.F.slot_list_index PySem.F.type_list_index (Lh K) (pv 0) (A8 (pv 4) B0)) (A8 (Bn K PySem.F.plainAttrs_list PySem.F.slot_list_index PySem.F.type_list_index (Lh K) (pv 0) (A8 (pv 5) B0)) B0)) rfl)
   (B1 (X2 (C2 Q2 (J7 (ixL K) (pv 2) (pv 7) (fun _ _=>rfl)) (C2 y0 B6 (pv 6))) (Kj (pv 2) (pv 7) w6))
   (B2 (X2 (C2 Q2 (J7 (ixL K) (pv 3) (pv 6) (fun _ _=>rfl)) (C2 y0 B6 (pv 7))) (Kj (pv 3) (pv 6) w6))))))
   (B2 (C1 (J5 (A8 (pv 0) (A8 (pv 2) (A8 (pv 3) B0))))))))),?_⟩
  refine ex1 rfl ⟨n,ss,rfl,SqL.of hn,fun l ns hl pm srt=>?_⟩;have nd:ns.Nodup:=pm.nodup_iff.mpr hN.2.1;have lm:(ns.map V.str).length=ns.length:=AB ..;have ln:ns.length<=100:=by rw[pm.length_eq];exact hN.2.2
  have s1:Same H (upd H l (.lst (ns.map V.str))):=Same.new hl;refine⟨by show 1<=sizeLine;decide,fun t1 ht1=>?_⟩;have s2:=s1.trans (Same.new (o:=.lst [V.int 0]) ht1);refine ex1 rfl (B7 (a:=l) rfl (.inl (SqL.of ((Same.new ht1) _ _ upd_same))) ⟨t1,B7 rfl rfl ⟨upd_same,by omega,by omega,by rw[lm,CQ,sizeLine_eq];show 1*ns.length<=_;omega,fun s hs=>?_⟩⟩);rw[lm,Ke];have hs1:upd H l (.lst (ns.map V.str)) s=none:=(Same.new ht1).free hs;have hs0:H s=none:=s2.free hs;have nls:l≠s:=A9 upd_same hs1;have s3:=s2.trans (Same.new (o:=.lst ((List.replicate ns.length 0).map E4)) hs);refine⟨by show 1<=sizeLine;decide,fun t2 ht2=>?_⟩;have s4:=s3.trans (Same.new (o:=.lst [V.int 0]) ht2);have el:(upd (upd (upd (upd H l (.lst (ns.map V.str))) t1 (.lst [V.int 0])) s (.lst ((List.replicate ns.length 0).map E4))) t2 (.lst [V.int 0])) l=some (.lst (ns.map V.str)) :=
   (Same.new ht2) _ _ ((Same.new hs) _ _ ((Same.new ht1) _ _ upd_same))
  have es:(upd (upd (upd (upd H l (.lst (ns.map V.str))) t1 (.lst [V.int 0])) s (.lst ((List.replicate ns.length 0).map E4))) t2 (.lst [V.int 0])) s=some (.lst ((List.replicate ns.length 0).map E4)):=(Same.new ht2) _ _ upd_same;generalize hG:upd (upd (upd (upd H l (.lst (ns.map V.str))) t1 (.lst [V.int 0])) s (.lst ((List.replicate ns.length 0).map E4))) t2 (.lst [V.int 0])=H4 at s4 el es⊢;have et2:H4 t2=some (.lst [V.int 0]):=by rw[<-hG];exact upd_same
  refine ex1 rfl (B7 (a:=l) rfl (.inl (SqL.of el)) ⟨t2,B7 rfl rfl ⟨et2,by omega,by omega,by rw[lm,CQ,sizeLine_eq];show 1*ns.length<=_;omega,fun t ht=>?_⟩⟩);rw[lm,Ke];have nlt:l≠t:=A9 el ht;have nst:s≠t:=A9 es ht;have s5:=s4.trans (Same.new (o:=.lst ((List.replicate ns.length 0).map E4)) ht);have ht0:H t=none:=s4.free ht;refine⟨_,ex1 rfl (ex1 rfl ⟨a,rfl,⟨_,SqL.of (s5 _ _ ha)⟩,?_⟩)⟩;refine Y4 (asL (K:=K) (SqL.of ha)) (fun i σ H1=>(∃v4 v5 v6 v7,σ = [some (.ref l),some (.ref a),some (.ref s),some (.ref t),v4,v5,v6,v7])/\Same H H1/\H1 l=some (.lst (ns.map V.str)) /\
   ∃A B:List Nat,H1 s=some (.lst (A.map E4))/\H1 t=some (.lst (B.map E4))/\MB ns ((ps.take i).map fun q=>(q.2.2,q.2.1)) A/\MB ns ((ps.take i).map fun q=>q.2) B) ?_ ?_ ?_ ?_
  .exact⟨⟨_,_,_,_,rfl⟩,s5,by rw[B3 nlt];exact el,_,_,by rw[B3 nst];exact es,upd_same,MB.zero ns,MB.zero ns⟩
  .rintro i σ H1 hi ⟨_,h1,_⟩;exact h1.at a
  .rintro i σ H1 v hv ⟨⟨v4,v5,v6,v7,rfl⟩,h1,h2,A,B,h3,h4,h5,h6⟩ D1 hD1 _;unfold G6 at hv;rw[AH]at hv;cases hq:ps[i]? with
   | none=>rw[hq]at hv;cases hv
   | some q =>
    rw[hq]at hv;cases hv;have hm:q∈ps:=BN hq;obtain⟨m1,m2⟩:=hO.nm q hm;have m1:q.2.1∈ns:=pm.mem_iff.mpr m1;have m2:q.2.2∈ns:=pm.mem_iff.mpr m2;obtain⟨j,hj⟩:=List.mem_iff_getElem?.mp m1;obtain⟨k,hk⟩:=List.mem_iff_getElem?.mp m2;have lj:j<ns.length:=(AG.mp hj).1;have lk:k<ns.length:=(AG.mp hk).1;refine⟨q.1,ex1 rfl ⟨SqT.of (h1 _ _ (hP q hm)),rfl,_,ex1 rfl (B7 rfl rfl ?_)⟩⟩;refine ex1 rfl ⟨.inl ⟨rfl,_,SqL.of h2⟩,ex1 rfl ⟨l,ns,q.2.1,j,rfl,rfl,SqL.of h2,hj,fun m hm z=>by have:=V0 nd z hj;omega,?_⟩⟩;refine ex1 rfl ⟨.inl ⟨rfl,_,SqL.of h2⟩,ex1 rfl ⟨l,ns,q.2.2,k,rfl,rfl,SqL.of h2,hk,fun m hm z=>by have:=V0 nd z hk;omega,?_⟩⟩;refine⟨_,ex1 rfl ?_⟩;refine ex1 rfl (ex1 rfl ⟨s,_,B7 rfl rfl ⟨SqL.of h3,Dr (by rw[h5.len];exact lk),ex1 rfl (B7 rfl rfl ⟨⟨by omega,by omega,by decide⟩,B7 rfl rfl ?_⟩)⟩⟩);dsimp only;rw[Yf,bor];refine ex1 rfl (ex1 rfl ⟨s,_,_,k,rfl,rfl,h3,Rg (by rw[AB,h5.len];exact lk),?_⟩);rw[Kq];refine ex1 rfl (ex1 rfl ⟨t,_,B7 rfl rfl ⟨SqL.of (by rw[B3 nst.symm];exact h4),Dr (by rw[h6.len];exact lj),ex1 rfl (B7 rfl rfl ⟨⟨by omega,by omega,by decide⟩,B7 rfl rfl ?_⟩)⟩⟩);dsimp only;rw[Yf,bor];refine ex1 rfl (ex1 rfl ⟨t,_,_,j,rfl,rfl,by rw[B3 nst.symm];exact h4,Rg (by rw[AB,h6.len];exact lj),?_⟩);rw[Kq];refine hD1 _ _ ⟨⟨_,_,_,_,rfl⟩,(h1.upd hs0).upd ht0,?_,A.set k (A.getD k 0 ||| 2^j),_,?_,upd_same,?_,?_⟩
    .rw[B3 nlt,B3 nls];exact h2
    .rw[B3 nst,upd_same]
    .rw[take_succ hq,AU];exact h5.step nd hk hj
    .rw[take_succ hq,AU];exact h6.step nd hj hk
  .rintro σ H1 ⟨⟨v4,v5,v6,v7,rfl⟩,h1,h2,A,B,h3,h4,h5,h6⟩;have lr:(G6 ps).length=ps.length:=by unfold G6;rw[AB]
   rw[lr,CS]at h5 h6;refine ex1 rfl (ex1 rfl (ex1 rfl ⟨by show 3<=sizeLine;decide,fun v hv=>?_⟩));have s9:=Same.new (o:=.lst [.ref l,.ref s,.ref t]) hv;refine q v ns A B _ (h1.free hv) (h1.trans s9) pm srt fun p o hp=>⟨⟨l,s,t,upd_same,s9 _ _ h2,s9 _ _ h3,s9 _ _ h4,(A9 (h1 _ _ hp) hv).symm,(A9 hp hl).symm,(A9 hp hs0).symm,(A9 hp ht0).symm⟩,?_,h6⟩;rw[BZ];exact h5
end
def Dc(ns:List Str)(m i:Nat):List Str:=(List.range i).filterMap fun k=>if m.testBit k=true then ns[k]? else none
def setOf(ns:List Str)(m:Nat):List Str:=Dc ns m ns.length
theorem Q0{ns:List Str}{m i:Nat}{x:Str}(h:ns[i]?=some x):Dc ns m (i+1)=Dc ns m i++if m.testBit i=true then [x]else []:=by
 unfold Dc;rw[DN,GX];congr 1;by_cases e:m.testBit i=true
 .rw[AL e];simp[e,h]
 .rw[AJ e];simp[e]
theorem mem_setOf{ns:List Str}{m:Nat}{x:Str}:x∈setOf ns m↔∃k,m.testBit k=true/\ns[k]?=some x:=by
 unfold setOf Dc;rw[List.mem_filterMap];constructor
 .rintro⟨k,hk,e⟩;by_cases h:m.testBit k=true
  .rw[AL h]at e;exact⟨k,h,e⟩
  .rw[AJ h]at e;cases e
 .rintro⟨k,h,e⟩;exact⟨k,CI.mpr (AG.mp e).1,by rw[AL h];exact e⟩
theorem Z8(ns:List Str)(m:Nat):∀i,i<=ns.length->(Dc ns m i).Sublist (ns.take i)
 | 0,_=>by simp[Dc]
 | i+1,h=>by
  have hi:ns[i]?=some ns[i]:=AC (by omega);rw[Q0 hi,take_succ hi];refine(Z8 ns m i (by omega)).append ?_;by_cases e:m.testBit i=true
  .rw[AL e];exact List.Sublist.refl _
  .rw[AJ e];exact List.nil_sublist _
theorem He(ns:List Str)(m:Nat):(setOf ns m).Sublist ns:=by
 have:=Z8 ns m ns.length (Nat.le_refl _)
 rwa [CS]at this
section
variable{P:Program}{w:World}{K:PySem.W.Frag}{mg:Str->Option Value}{base:Heap}
theorem Y9:FnScope ["_law_view", "_law_mask"] ["_law_view", "_law_mask"] (B4 s_law_set_of):=fsc
def On:Sp:=fun vs H Q _=>∃(p v:Addr) (m:Nat) (ns:List Str) (ks:List (Str×Str)) (A B:List Nat),vs = [.ref v,.int (m:Int)]/\ViewAt H p v ns ks A B/\ns.length<=100 /\
 ∀l H',H l=none->Same H H'->H' l=some (.lst ((setOf ns m).map V.str))->Q (.ref l) H'
theorem Ct(T:Tx K mg):FnOk P w K mg base CX0 1 T.a1.f T.a1.fd ["_law_view", "_law_mask"] On:=by
 have sc:=Y9;refine T.a1.F.ok Y9 (fun vs H Q E h=>?_) (fun cdv A outer s H vs Q E hr h=>?_)
 .obtain⟨p,n,a,ss,ps,A,B,rfl,_⟩:=h;rfl
 .obtain⟨p,v,m,ns,ks,A,B,rfl,hV,ln,q⟩:=h;obtain⟨⟨a,s,t,e1,e2,e3,e4,_⟩,mA,mB⟩:=id hV;refine⟨_,(B2 (C1 (T0 (N':=["_law_k", "_law_name", "_law_mask"]) (cap:=[none,none,some 1]) (cl:=[("_law_mask",_)]) (K0 ⟨⟨rfl,rfl,rfl,rfl⟩,trivial⟩ ⟨rfl,trivial⟩) rfl (piE K T.aE (A8 (J7 (ixL K) (pv 0) B6 (fun _ _=>rfl)) B0)) (fun _ _ _ _=>by exact⟨(pgT K (n:=2) (C5 (pgC 0) (C5 (pgC 1) J1))),(T7 (C6 K6 (C2 J6 (C2 Kc (pv 2) (pv 0)) B6) B6 (D6 _))),(pv 1)⟩)))),?_⟩;dsimp only[Zq,Zr,S8,Zo,tCB,As,Sh];refine ex1 rfl ⟨v,_,B7 rfl rfl ⟨SqL.of e1,rfl,a,ex1 rfl ⟨SqL.of e2,fun D hD=>?_⟩⟩⟩;refine Bw (n:=ns.length) (fun i σ H1=>(∃v0 v1,σ = [v0,v1,some (.int (m:Int))])/\Same H H1/\H1 D=some (.lst ((Dc ns m i).map V.str))) ⟨⟨_,_,rfl⟩,Same.new hD,upd_same⟩ ?_ ?_ ?_ ?_
  .rintro i σ H1 hi ⟨_,s1,e5⟩;exact⟨_,_,(s1.at a).seqL (SqL.of e2),by rw[AH,AC hi];rfl⟩
  .rintro σ H1 ⟨_,s1,e5⟩;exact⟨_,(s1.at a).seqL (SqL.of e2),by rw[AB]⟩
  .rintro i σ H1 x H' N hi ⟨⟨v0,v1,rfl⟩,s1,e5⟩ ⟨t,x,rfl,ht,rfl,hx⟩ hN;have hx:=hx _ ((s1.at a).seqL (SqL.of e2));have hi':ns[i]?=some ns[i]:=AC hi;rw[AH,hi']at hx;cases hx;refine⟨t,ex1 rfl ⟨SqT.of upd_same,rfl,_,ex1 rfl (B7 rfl rfl ?_)⟩⟩;have nDt:D≠t:=A9 e5 ht;have s2:Same H (upd H1 t (.tup [.int i,.str ns[i]])):=s1.trans (Same.new ht);refine ex1 rfl (ex1 rfl (B7 rfl rfl ⟨(show(0:Int)<=(i:Int) by omega),B7 rfl rfl ⟨rfl,ex1 rfl ?_⟩⟩));dsimp only;rw[Ju];have hle:=(Z8 ns m i (by omega)).length_le;rw[AW]at hle;refine Q6 (fun hb=>?_) (fun hb=>?_)
   .refine ex1 rfl ⟨_,by rw[B3 nDt];exact e5,by rw[AB,sizeLine_eq];omega,hN _ _ ⟨⟨_,_,rfl⟩,s2.upd hD,?_⟩⟩;rw[upd_same,Q0 hi',AL hb,AU];rfl
   .refine hN _ _ ⟨⟨_,_,rfl⟩,s2,?_⟩;rw[B3 nDt,Q0 hi',AJ hb,CJ];exact e5
  .rintro σ H1 ⟨_,s1,e5⟩;exact q D H1 hD s1 e5
end
def X7(B:List Nat)(m j:Nat):Prop:=∃k,m.testBit k=true/\(B.getD k 0).testBit j=true
def S9(n:Nat)(A B:List Nat)(m j:Nat):Prop:=j<n/\∀b,(A.getD j 0).testBit b=true->X7 B m b
def QuietB(B:List Nat)(m:Nat):Prop:=∀i j,m.testBit i=true->m.testBit j=true->¬(B.getD i 0).testBit j=true
theorem T3(a h:Nat):decide (V.int (Builtin.bitAnd (a:Int) (Builtin.bitNot (h:Int)))=V.int 0)=true↔∀b,a.testBit b=true->h.testBit b=true:=by
 rw[BK,PyProof.Rows.bitAnd_not,Wk];constructor
 .intro e b hb;injection e with e;have e:a=a &&& h:=by omega
  rw[e,DI,BU]at hb;exact hb.2
 .intro k;have e:a &&& h=a:=BQ fun b=>by
   rw[DI];cases hb:a.testBit b with
   | false=>rfl
   | true=>rw[k b hb];rfl
  rw[e,Int.sub_self]
theorem Uz(a m:Nat):decide (V.int (Builtin.bitAnd (a:Int) (m:Int))=V.int 0)=true↔∀b,a.testBit b=true->¬m.testBit b=true:=by
 rw[BK,Wk];constructor
 .intro e b hb hm;injection e with e;have e:a &&& m=0:=by omega
  have:(a &&& m).testBit b=true:=by rw[DI,hb,hm];rfl
  rw[e,CL]at this;cases this
 .intro k;have e:a &&& m=0:=BQ fun b=>by
   rw[DI,CL];cases hb:a.testBit b with
   | false=>rfl
   | true =>
    have:=k b hb;cases hm:m.testBit b with
    | false=>rfl
    | true=>exact absurd hm this
  rw[e];rfl
theorem Ad(d k j:Nat):(d ||| 2^k).testBit j=true↔d.testBit j=true\/j=k:=by
 rw[BO,CC,DU,BK];exact⟨fun h=>h.imp id Eq.symm,fun h=>h.imp id Eq.symm⟩
section
variable{P:Program}{w:World}{K:PySem.W.Frag}{mg:Str->Option Value}{base:Heap}
theorem By:FnScope ["_law_view", "_law_mask", "_law_hit_here", "_law_k"] ["_law_view", "_law_mask"] (B4 s_law_hit):=fsc
def zCz:Sp:=fun vs H Q _=>∃(p v:Addr) (m:Nat) (ns:List Str) (ks:List (Str×Str)) (A B:List Nat),vs = [.ref v,.int (m:Int)]/\ViewAt H p v ns ks A B/\ns.length<=100 /\
 ∀h:Nat,(∀j,h.testBit j=true↔X7 B m j)->Q (.int (h:Int)) H
theorem U8(T:Tx K mg):FnOk P w K mg base CX0 1 T.aR.f T.aR.fd ["_law_view", "_law_mask"] zCz:=by
 have sc:=By;refine T.aR.F.ok By (fun vs H Q E h=>?_) (fun cdv A outer s H vs Q E hr h=>?_)
 .obtain⟨p,n,a,ss,ps,A,B,rfl,_⟩:=h;rfl
 .obtain⟨p,v,m,ns,ks,A,B,rfl,hV,ln,q⟩:=h;obtain⟨⟨a,s,t,e1,e2,e3,e4,_⟩,mA,mB⟩:=id hV;refine⟨_,(B1 (C4 (i:=2) sc.nd rfl (.inl rfl) B6)
   (B1 (K1 PassesOwn.never rfl (zCd T.aY (A8 (E6 (P3 K) T.az O3 (A8 (J7 (ixL K) (pv 0) B6 (fun _ _=>rfl)) B0)) B0)) (C3 (i:=3) sc.nd rfl (.inl rfl))
   (B2 (G9 (C6 K6 (C2 J6 (C2 Kc (pv 1) (pv 3)) B6) B6 (D6 _)) (B2 (C4 (i:=2) sc.nd rfl (.inl rfl) (C2 Q2 (pv 2) (J7 (ixL K) (J7 (ixL K) (pv 0) B6 (fun _ _=>rfl)) (pv 3) (fun _ _=>rfl))))) C9)))
   (B2 (C1 (pv 2))))),?_⟩
  refine ex1 rfl ⟨v,_,B7 rfl rfl ⟨SqL.of e1,rfl,B7 (a:=a) rfl (.inl (SqL.of e2)) (ex1 rfl ⟨?_,?_,?_⟩)⟩⟩
  .omega
  .rw[AB];omega
  rw[AB,CQ];refine M6 (fun i σ H1=>H1=H/\∃(h:Nat) (v3:Option V),σ = [some (.ref v),some (.int (m:Int)),some (.int (h:Int)),v3]/\∀j,h.testBit j=true↔∃k,k<i/\m.testBit k=true/\(B.getD k 0).testBit j=true) ?_ ?_ ?_
  .exact⟨rfl,0,_,rfl,fun j=>by rw[CL];simp⟩
  .rintro i σ H1 hi ⟨rfl,h,v3,rfl,hh⟩ D1 hD1 _;rw[Int.zero_add];refine ex1 rfl (ex1 rfl (B7 rfl rfl ⟨(show(0:Int)<=(i:Int) by omega),B7 rfl rfl ⟨rfl,ex1 rfl ?_⟩⟩));dsimp only;rw[Ju];refine Q6 (fun hb=>?_) (fun hb=>?_)
   .refine ex1 rfl (ex1 rfl ⟨v,_,B7 rfl rfl ⟨SqL.of e1,rfl,ex1 rfl ⟨t,_,B7 rfl rfl ⟨SqL.of e4,Dr (by rw[mB.len];exact hi),B7 rfl rfl ?_⟩⟩⟩⟩);dsimp only;rw[bor];refine hD1 _ _ ⟨rfl,_,_,rfl,fun j=>?_⟩;rw[BO,CC,hh];constructor
    .rintro(⟨k,h1,h2⟩ | h2)
     .exact⟨k,by omega,h2⟩
     .exact⟨i,by omega,hb,h2⟩
    .rintro⟨k,h1,h2⟩;by_cases e:k=i
     .rw[e]at h2;exact .inr h2.2
     .exact .inl ⟨k,by omega,h2⟩
   .refine hD1 _ _ ⟨rfl,h,_,rfl,fun j=>?_⟩;rw[hh];constructor
    .rintro⟨k,h1,h2⟩;exact⟨k,by omega,h2⟩
    .rintro⟨k,h1,h2⟩;by_cases e:k=i
     .rw[e]at h2;exact absurd h2.1 hb
     .exact⟨k,by omega,h2⟩
  .rintro σ H1 ⟨rfl,h,v3,rfl,hh⟩;refine ex1 rfl (q h fun j=>?_);rw[hh];constructor
   .rintro⟨k,h1,h2⟩;exact⟨k,h2⟩
   .rintro⟨k,h1,h2⟩;refine⟨k,?_,h1,h2⟩;obtain⟨z,_,hz,_⟩:=(mB.bit k j).mp h2;exact(AG.mp hz).1
theorem Ab:FnScope ["_law_view", "_law_mask", "_law_hit_here", "_law_kept_here", "_law_k"] ["_law_view", "_law_mask"] (B4 s_law_kept):=fsc
def Wt:Sp:=fun vs H Q _=>∃(p v:Addr) (m:Nat) (ns:List Str) (ks:List (Str×Str)) (A B:List Nat),vs = [.ref v,.int (m:Int)]/\ViewAt H p v ns ks A B/\ns.length<=100 /\
 ∀h:Nat,(∀j,h.testBit j=true↔S9 ns.length A B m j)->Q (.int (h:Int)) H
theorem w8(T:Tx K mg):FnOk P w K mg base CX0 2 T.a2.f T.a2.fd ["_law_view", "_law_mask"] Wt:=by
 have G_law_hit:=U8 (P:=P) (w:=w) (base:=base) T;have sc:=Ab;refine T.a2.F.ok Ab (fun vs H Q E h=>?_) (fun cdv A outer s H vs Q E hr h=>?_)
 .obtain⟨p,n,a,ss,ps,A,B,rfl,_⟩:=h;rfl
 .obtain⟨p,v,m,ns,ks,A,B,rfl,hV,ln,q⟩:=h;obtain⟨⟨a,s,t,e1,e2,e3,e4,_⟩,mA,mB⟩:=id hV;refine⟨_,(B1 (C4 (i:=2) sc.nd rfl (.inl rfl) (D0 T.aR G_law_hit (Rm hr) (A8 (pv 0) (A8 (pv 1) B0))))
   (B1 (C4 (i:=3) sc.nd rfl (.inl rfl) B6)
   (B1 (K1 PassesOwn.never rfl (zCd T.aY (A8 (E6 (P3 K) T.az O3 (A8 (J7 (ixL K) (pv 0) B6 (fun _ _=>rfl)) B0)) B0)) (C3 (i:=4) sc.nd rfl (.inl rfl))
   (B2 (G9 (C6 K6 (C2 J6 (J7 (ixL K) (J7 (ixL K) (pv 0) B6 (fun _ _=>rfl)) (pv 4) (fun _ _=>rfl)) (Mb Py (pv 2))) B6 (D6 _)) (B2 (C4 (i:=3) sc.nd rfl (.inl rfl) (C2 Q2 (pv 3) (C2 y0 B6 (pv 4))))) C9)))
   (B2 (C1 (pv 3)))))),?_⟩
  refine ex1 rfl (ex1 rfl (Th (a:=p) (b:=v) (c:=m) (d:=ns) (e:=ks) (f:=A) (g:=B) rfl hV ln fun hit hhit=>?_));refine ex1 rfl ⟨v,_,B7 rfl rfl ⟨SqL.of e1,rfl,B7 (a:=a) rfl (.inl (SqL.of e2)) (ex1 rfl ⟨?_,?_,?_⟩)⟩⟩
  .omega
  .rw[AB];omega
  rw[AB,CQ];refine M6 (fun i σ H1=>H1=H/\∃(h:Nat) (v3:Option V),σ = [some (.ref v),some (.int (m:Int)),some (.int (hit:Int)),some (.int (h:Int)),v3]/\∀j,h.testBit j=true↔S9 i A B m j) ?_ ?_ ?_
  .exact⟨rfl,0,_,rfl,fun j=>by rw[CL];exact⟨fun z=>(by cases z),fun z=>absurd z.1 (HR _)⟩⟩
  .rintro i σ H1 hi ⟨rfl,h,v3,rfl,hh⟩ D1 hD1 _;rw[Int.zero_add];refine ex1 rfl ⟨v,_,B7 rfl rfl ⟨SqL.of e1,rfl,ex1 rfl ⟨s,_,B7 rfl rfl ⟨SqL.of e3,Dr (by rw[mA.len];exact hi),ex1 rfl (ex1 rfl (B7 rfl rfl ⟨rfl,ex1 rfl ?_⟩))⟩⟩⟩⟩;dsimp only;have ek:=T3 (A.getD i 0) hit;refine Q6 (fun hb=>?_) (fun hb=>?_)
   .refine ex1 rfl (ex1 rfl (B7 rfl rfl ⟨⟨by omega,by omega,by decide⟩,B7 rfl rfl ?_⟩));dsimp only;rw[Yf,bor];refine hD1 _ _ ⟨rfl,_,_,rfl,fun j=>?_⟩;rw[Ad,hh];constructor
    .rintro(⟨h1,h2⟩ | rfl)
     .exact⟨by omega,h2⟩
     .exact⟨by omega,fun b hb'=>(hhit b).mp (ek.mp hb b hb')⟩
    .rintro⟨h1,h2⟩;by_cases e:j=i
     .exact .inr e
     .exact .inl ⟨by omega,h2⟩
   .refine hD1 _ _ ⟨rfl,h,_,rfl,fun j=>?_⟩;rw[hh];constructor
    .rintro⟨h1,h2⟩;exact⟨by omega,h2⟩
    .rintro⟨h1,h2⟩;by_cases e:j=i
     .subst e;exact absurd (ek.mpr fun b hb'=>(hhit b).mpr (h2 b hb')) hb
     .exact⟨by omega,h2⟩
  .rintro σ H1 ⟨rfl,h,v3,rfl,hh⟩;exact⟨_,rfl,q h hh⟩
theorem T6:FnScope ["_law_view", "_law_mask"] ["_law_view", "_law_mask"] (B4 s_law_is_quiet):=fsc
def Qx:Sp:=fun vs H Q _=>∃(p v:Addr) (m:Nat) (ns:List Str) (ks:List (Str×Str)) (A B:List Nat),vs = [.ref v,.int (m:Int)]/\ViewAt H p v ns ks A B/\ns.length<=100 /\
 ∀b:Bool,(b=true↔QuietB B m)->Q (.bl b) H
theorem N9(T:Tx K mg):FnOk P w K mg base CX0 2 T.aA.f T.aA.fd ["_law_view", "_law_mask"] Qx:=by
 have G_law_hit:=U8 (P:=P) (w:=w) (base:=base) T;have sc:=T6;refine T.aA.F.ok T6 (fun vs H Q E h=>?_) (fun cdv A outer s H vs Q E hr h=>?_)
 .obtain⟨p,n,a,ss,ps,A,B,rfl,_⟩:=h;rfl
 .obtain⟨p,v,m,ns,ks,A,B,rfl,hV,ln,q⟩:=h;refine⟨_,(B2 (C1 (K4 K6 (C2 J6 (D0 T.aR G_law_hit (Rm hr) (A8 (pv 0) (A8 (pv 1) B0))) (pv 1)) B6 (D6 _)))),?_⟩;refine ex1 rfl (ex1 rfl (Th (a:=p) (b:=v) (c:=m) (d:=ns) (e:=ks) (f:=A) (g:=B) rfl hV ln fun hit hhit=>?_));refine ex1 rfl (B7 rfl rfl ⟨rfl,?_⟩);refine q _ ?_;dsimp only;rw[Uz];constructor
  .intro h i j hi hj hb;exact h j ((hhit j).mpr ⟨i,hi,hb⟩) hj
  .intro h j hj hm;obtain⟨i,hi,hb⟩:=(hhit j).mp hj;exact h i j hi hm hb
end
def sd(ss:List Str):PyData:=.list (ss.map PyData.str)
theorem Kt{K:PySem.W.Frag}{H:Hp}:∀ss:List Str,Rps K H (ss.map PyData.str) (ss.map V.str)
 | []=>by simp[Rps]
 | x::r=>by
  simp only[AX,Rps,Rp];exact⟨_,_,rfl,rfl,Kt r⟩
theorem Xk{K:PySem.W.Frag}{H:Hp}{l:Addr}{ss:List Str}(h:SqL K H l (ss.map V.str)):Rp K H (sd ss) (.ref l):=by
 unfold sd;simp only[Rp];exact⟨l,_,rfl,h,Kt ss⟩
theorem n9:∀ss:List Str,PyData.depthAll (ss.map PyData.str)<=1
 | []=>by simp[PyData.depthAll]
 | x::r=>by
  have:=n9 r;simp only[AX,PyData.depthAll,PyData.depth];omega
theorem z8:∀ps:List PA2,PyData.depthAll (ps.map fun q=>pd q.2)<=3
 | []=>by simp[PyData.depthAll]
 | x::r=>by
  have:=z8 r;have e:(pd x.2).depth<=3:=by simp[pd,PyData.depth,PyData.depthAll]
  rw[AX,PyData.depthAll];omega
theorem Kl:∀{ss:List Str},(∀x∈ss,PySem.PyData.strOk x=true)->PyData.canLayAll0 (ss.map PyData.str)=true
 | [],_=>rfl
 | x::r,h=>by
  rw[AX,PyData.canLayAll0,Kl fun z hz=>h z (AO _ hz)];simp[PyData.canLay0,h x (A_ ..)]
theorem Wz{ss:List Str}(h:∀x∈ss,Q7 x=true):Pl (sd ss):=by
 refine⟨?_,?_⟩
 .unfold sd;rw[PyData.canLay0];exact Kl fun x hx=>Du (h x hx)
 .unfold sd;rw[PyData.depth];have:=n9 ss;omega
theorem Nz{K:PySem.W.Frag}{x y:V}{d:PyData}{H:Hp}{Q:VK}(h1:Rp K H d x)(h2:Rp K H d y)(p:Pl d)(q:Q (.bl false) H):zDg K x y H Q :=
 ⟨d,d,h1,h2,p,p,by rw[PySem.SeqAt.eqv_refl d p.1];exact q⟩
theorem Xo{K:PySem.W.Frag}{x y:V}{d:PyData}{H:Hp}{Q:VK}(h1:Rp K H d x)(h2:Rp K H d y)(p:Pl d)(q:Q (.bl true) H):zEk K x y H Q :=
 ⟨d,d,h1,h2,p,p,by rw[PySem.SeqAt.eqv_refl d p.1];exact q⟩
section
variable{P:Program}{w:World}{K:PySem.W.Frag}{mg:Str->Option Value}{base:Heap}
theorem Ci:FnScope ["_law_left_here", "_law_names_here"] ["_law_left_here"] (B4 s_law_web):=fsc
end
theorem Qm:∀(j a b:Nat),(∀j,a.testBit j=true->¬b.testBit j=true)->(a+b).testBit j =(a.testBit j||b.testBit j)
 | 0,a,b,h=>by
  have h0:=h 0;rw[DE,DE,BK,BK]at h0;rw[DE,DE,DE,<-Bool.decide_or];exact decide_eq_decide.mpr ⟨fun z=>by omega,fun z=>by omega⟩
 | j+1,a,b,h=>by
  have h0:=h 0;rw[DE,DE,BK,BK]at h0;rw[DT,DT,DT,show(a+b) / 2=a / 2+b / 2 by omega];exact Qm j (a / 2) (b / 2) fun i=>by have:=h (i+1);rw[DT,DT]at this;exact this
theorem Ia:∀{l:List Nat},l.Nodup->∀j,((l.map fun k=>2^k).sum).testBit j=true↔j∈l
 | [],_,j=>by simp
 | k::l,nd,j=>by
  obtain⟨n1,n2⟩:=D_.mp nd;have ih:=Ia n2;rw[AX,List.sum_cons,Nat.add_comm,Qm j _ _ fun i z y=>?_,CC,ih,DU,BK,BD];rotate_left
  .rw[DU,BK]at y;exact n1 (y▸(ih i).mp z)
  exact⟨fun h=>h.elim .inr fun e=>.inl e.symm,fun h=>h.elim (fun e=>.inr e.symm) .inl⟩
theorem Ym:∀(s:Nat),0<s->∃k,s.testBit k=true/\s-(s &&&(s-1))=2^k:=by
 intro s
 induction s using Nat.strongRecOn with
 | _ s ih =>
  intro h;by_cases o:s % 2=1
  .refine⟨0,by rw[DE];exact AQ o,?_⟩;have e:s &&&(s-1)=s-1:=BQ fun i=>by
    rw[DI];cases i with
    | zero=>rw[DE,DE,AN (by omega:¬(s-1) % 2=1),HY]
    | succ i=>rw[DT,DT,show(s-1) / 2=s / 2 by omega,Bool.and_self]
   rw[e];omega
  .obtain⟨k,h1,h2⟩:=ih (s / 2) (by omega) (by omega);refine⟨k+1,by rw[DT];exact h1,?_⟩;have e:s &&&(s-1)=2 *(s / 2 &&&(s / 2-1)):=BQ fun i=>by
    rw[DI];cases i with
    | zero=>rw[DE,DE,AN o,DZ,DE,AN (by omega)]
    | succ i=>rw[DT,DT,DT,Nat.mul_div_cancel_left _ (by decide),DI,show(s-1) / 2=s / 2-1 by omega]
   have:s / 2 &&&(s / 2-1)<=s / 2:=Nat.and_le_left;rw[e,Nat.pow_succ];omega
def Low(n m:Nat):Prop:=∀j,m.testBit j=true->j<n
theorem Low.or{n m k:Nat}(h:Low n m)(hk:k<n):Low n (m ||| 2^k):=fun j hj=>((Ad m k j).mp hj).elim (h j) fun e=>by omega
theorem Low.zero(n:Nat):Low n 0:=fun j hj=>by rw[CL]at hj;cases hj
theorem Low.lt{n m:Nat}(h:Low n m):m<2^n:=Nat.lt_pow_two_of_testBit m fun i hi=>BJ.mpr fun z=>by have:=h i z;omega
structure Net(n:Nat)(A B:List Nat):Prop where
 tr:∀i j,(A.getD i 0).testBit j=true↔(B.getD j 0).testBit i=true
 lt:∀i j,(B.getD i 0).testBit j=true->i<n/\j<n
theorem MB.net{ns:List Str}{ks:List (Str×Str)}{A B:List Nat}(a:MB ns (ks.map fun k=>(k.2,k.1)) A)(b:MB ns ks B):Net ns.length A B:=by
 refine⟨fun i j=>?_,fun i j h=>?_⟩
 .rw[a.bit,b.bit];constructor
  .rintro⟨_,hk,h1,h2⟩;obtain⟨k,hk',rfl⟩:=AK.mp hk;exact⟨k,hk',h2,h1⟩
  .rintro⟨k,hk,h1,h2⟩;exact⟨_,AK.mpr ⟨k,hk,rfl⟩,h2,h1⟩
 .obtain⟨k,_,h1,h2⟩:=(b.bit i j).mp h;exact⟨(AG.mp h1).1,(AG.mp h2).1⟩
def StandM(n:Nat)(A B:List Nat)(m:Nat):Prop:=Low n m/\QuietB B m/\∀j,m.testBit j=true->S9 n A B m j
def Fits(c b m:Nat):Prop:=(∀j,c.testBit j=true->m.testBit j=true)/\∀j,m.testBit j=true->¬b.testBit j=true
def Sub(c c':Nat):Prop:=∀j,c.testBit j=true->c'.testBit j=true
theorem Fits.mono{c c' b b' m:Nat}(h:Fits c' b' m)(hc:Sub c c')(hb:Sub b b'):Fits c b m:=⟨fun j z=>h.1 j (hc j z),fun j z y=>h.2 j z (hb j y)⟩
def Qy(n:Nat)(A B:List Nat)(c b:Nat):Prop:=(∀j,X7 B c j->b.testBit j=true)/\(∀j,X7 A c j->b.testBit j=true) /\
 ∀i j,i<n->(¬∃k,k<n/\¬b.testBit k=true/\(B.getD k 0).testBit i=true)->(B.getD i 0).testBit j=true->b.testBit j=true
theorem Of{n:Nat}{A B:List Nat}(N:Net n A B){c b m:Nat}(h:StandM n A B m)(f:Fits c b m):(∀j,X7 B c j->¬m.testBit j=true)/\(∀j,X7 A c j->¬m.testBit j=true) /\
  ∀i j,i<n->(¬∃k,k<n/\¬b.testBit k=true/\(B.getD k 0).testBit i=true)->(B.getD i 0).testBit j=true->¬m.testBit j=true:=by
 obtain⟨lo,qu,kp⟩:=h;refine⟨fun j ⟨k,hk,e⟩ z=>qu k j (f.1 k hk) z e,fun j ⟨k,hk,e⟩ z=>qu j k z (f.1 k hk) ((N.tr k j).mp e),fun i j hi nk e z=>?_⟩;obtain⟨k,hk,e'⟩:=(kp j z).2 i ((N.tr j i).mpr e);exact nk ⟨k,lo k hk,f.2 k hk,e'⟩
theorem j9{n:Nat}{A B:List Nat}(N:Net n A B){c b:Nat}(lo:Low n c)(s:Qy n A B c b)(dis:∀j,c.testBit j=true->¬b.testBit j=true)(all:∀j,j<n->c.testBit j=true\/b.testBit j=true):StandM n A B c:=by
 obtain⟨s1,s2,s3⟩:=s;refine⟨lo,fun i j hi hj e=>dis j hj (s1 j ⟨i,hi,e⟩),fun j hj=>⟨lo j hj,fun x hx=>?_⟩⟩;have hx':=(N.tr j x).mp hx;by_cases hh:X7 B c x
 .exact hh
 .refine absurd (s3 x j (N.lt x j hx').1 (fun⟨k,hk,nb,e⟩=>hh ⟨k,(all k hk).resolve_right nb,e⟩) hx') (dis j hj)
theorem Ev{n c b m:Nat}(lo:Low n m)(all:∀j,j<n->c.testBit j=true\/b.testBit j=true)(f:Fits c b m):m=c:=BQ fun j=>by
 rw[CN];exact⟨fun h=>(all j (lo j h)).resolve_right (f.2 j h),f.1 j⟩
theorem fits_or{c b m k:Nat}:Fits (c ||| 2^k) b m↔Fits c b m/\m.testBit k=true:=by
 constructor
 .rintro⟨h1,h2⟩;exact⟨⟨fun j z=>h1 j (by rw[BO,z];rfl),h2⟩,h1 k (by rw[BO,EZ,HE])⟩
 .rintro⟨⟨h1,h2⟩,h3⟩;exact⟨fun j z=>((Ad c k j).mp z).elim (h1 j) fun e=>e▸h3,h2⟩
theorem fits_bar{c b m k:Nat}:Fits c (b ||| 2^k) m↔Fits c b m/\¬m.testBit k=true:=by
 constructor
 .rintro⟨h1,h2⟩;exact⟨⟨h1,fun j z y=>h2 j z (by rw[BO,y];rfl)⟩,fun z=>h2 k z (by rw[BO,EZ,HE])⟩
 .rintro⟨⟨h1,h2⟩,h3⟩;exact⟨h1,fun j z y=>((Ad b k j).mp y).elim (h2 j z) fun e=>h3 (e▸z)⟩
def und(n c b:Nat):Nat:=(List.range n).countP fun i=>!c.testBit i&&!b.testBit i
theorem Kr{n c c' b b':Nat}(hc:Sub c c')(hb:Sub b b'):und n c' b'<=und n c b:=List.countP_mono_left fun i _ h=>by
 rw[BU,EI,EI]at h⊢;exact⟨BJ.mpr fun z=>BJ.mp h.1 (hc i z),BJ.mpr fun z=>BJ.mp h.2 (hb i z)⟩
theorem Lb{n c c' b b' k:Nat}(hc:Sub c c')(hb:Sub b b')(hk:k<n)(h0:¬c.testBit k=true/\¬b.testBit k=true)(h1:c'.testBit k=true\/b'.testBit k=true):und n c' b' < und n c b:=by
 unfold und;have hm:=CI.mpr hk;obtain⟨l1,l2,e⟩:=List.append_of_mem hm;rw[e,List.countP_append,List.countP_append,List.countP_cons,List.countP_cons];have m1:=fun l:List Nat=>List.countP_mono_left (l:=l) (p:=fun i=>!c'.testBit i&&!b'.testBit i) (q:=fun i=>!c.testBit i&&!b.testBit i) fun i _ h=>by
  rw[BU,EI,EI]at h⊢;exact⟨BJ.mpr fun z=>BJ.mp h.1 (hc i z),BJ.mpr fun z=>BJ.mp h.2 (hb i z)⟩
 have a1:=m1 l1;have a2:=m1 l2;have x1:(!c'.testBit k&&!b'.testBit k)=false:=by
  rcases h1 with h | h<;>rw[h]<;>simp
 have x2:(!c.testBit k&&!b.testBit k)=true:=by
  rw[BJ.mpr h0.1,BJ.mpr h0.2];rfl
 rw[x1,x2,AJ (by decide),AL rfl];omega
def chs:Nat->List (List Nat)
 | 0=>[[0]]
 | n+1=>((chs n).flatMap fun c=>[c ++(c.getLast?.map fun m=>m ||| 2^n).toList,c.dropLast.map fun m=>m ||| 2^n]).filter fun c=>!c.isEmpty
theorem Af:∀n m,Low n m->∃c∈chs n,m∈c
 | 0,m,h=>⟨[0],AE.mpr rfl,by
  have:m=0:=BQ fun j=>by rw[CL];exact BJ.mpr fun z=>absurd (h j z) (HR _)
  rw[this];exact AE.mpr rfl⟩
 | n+1,m,h=>by
  have put:∀c d,c∈chs n->d∈[c ++(c.getLast?.map fun m=>m ||| 2^n).toList,c.dropLast.map fun m=>m ||| 2^n]->m∈d->∃c∈chs (n+1),m∈c:=fun c d hc hd hm=>by
   refine⟨d,BC.mpr ⟨GJ.mpr ⟨c,hc,hd⟩,?_⟩,hm⟩;cases d with
   | nil=>exact absurd hm BV
   | cons _ _=>rfl
  by_cases cn:m.testBit n=true
  .have lo:Low n (m % 2^n):=fun j z=>by
    rw[FF,BU,BK]at z;exact z.1
   have e:m % 2^n ||| 2^n=m:=BQ fun j=>by
    rw[BO,FF,DU,CN,CC,BU,BK,BK];constructor
    .rintro(⟨_,z⟩ | rfl)
     .exact z
     .exact cn
    .intro z;by_cases cj:j<n
     .exact .inl ⟨cj,z⟩
     .have:=h j z;exact .inr (by omega)
   obtain⟨c,hc,hm⟩:=Af n _ lo;have ne:c≠[]:=fun z=>by rw[z]at hm;exact absurd hm BV
   rw[<-List.dropLast_concat_getLast ne]at hm;rcases AR.mp hm with hm | hm
   .exact put c _ hc (AO _ (AE.mpr rfl)) (AK.mpr ⟨_,hm,e⟩)
   .refine put c _ hc (A_ ..) (BT _ ?_);rw[List.getLast?_eq_getLast ne];rw[AE]at hm;rw[hm]at e;simp only[FJ,Option.toList_some,AE];exact e.symm
  .have lo:Low n m:=fun j z=>by
    have:=h j z;rcases Nat.lt_or_ge j n with y | y
    .exact y
    .exact absurd (show m.testBit n=true by rw[show n=j by omega];exact z) cn
   obtain⟨c,hc,hm⟩:=Af n m lo;exact put c _ hc (A_ ..) (DY _ hm)
theorem zAm{a b n:Nat}(h:Sub a b):Sub (a ||| 2^n) (b ||| 2^n):=fun j z=>by
 rw[BO,CC]at z⊢;exact z.imp (h j) id
theorem Js:∀n,∀c∈chs n,c.Pairwise Sub
 | 0,c,h=>by rw[AE.mp h];exact DK _ _
 | n+1,d,h=>by
  obtain⟨c,hc,hd⟩:=GJ.mp (BC.mp h).1;have ih:=Js n c hc;rcases BD.mp hd with rfl | hd
  .refine CG.mpr ⟨ih,?_,fun a ha b hb=>?_⟩
   .cases c.getLast?<;>simp
   .cases hl:c.getLast? with
    | none=>rw[hl]at hb;simp at hb
    | some l =>
     rw[hl]at hb;simp only[FJ,Option.toList_some,AE]at hb;subst hb;have ne:c≠[]:=fun z=>by rw[z]at ha;exact absurd ha BV
     have el:c.getLast ne=l:=by rw[List.getLast?_eq_getLast ne]at hl;exact BI hl
     have sl:Sub a l:=by
      rw[<-List.dropLast_concat_getLast ne,el]at ha ih;rcases AR.mp ha with ha | ha
      .exact(CG.mp ih).2.2 a ha l (AE.mpr rfl)
      .rw[AE.mp ha];exact fun j z=>z
     exact fun j z=>by rw[BO,sl j z];rfl
  .rw[AE.mp hd];exact CD.mpr ((ih.sublist (List.dropLast_sublist c)).imp zAm)
theorem Ez(p:Nat->Bool):∀L:List Nat,L.length =(L.filter p).length +(L.filter fun m=>!p m).length
 | []=>rfl
 | a::L=>by
  have:=Ez p L;rw[DR,DR];cases h:p a<;>simp<;>omega
theorem Vu:∀(Cs:List (List Nat)) (L:List Nat),L.Nodup->(∀m∈L,∃c∈Cs,m∈c)->(∀c∈Cs,∀a∈L,∀b∈L,a∈c->b∈c->a=b)->L.length<=Cs.length
 | [],L,_,h,_=>by
  cases L with
  | nil=>exact Nat.le_refl _
  | cons a _=>obtain⟨_,z,_⟩:=h a (A_ ..);exact absurd z BV
 | c::Cs,L,nd,h,one=>by
  have ih:=Vu Cs (L.filter fun m=>!decide (m∈c)) (nd.sublist DD) (fun m hm=>by
   obtain⟨h1,h2⟩:=BC.mp hm;obtain⟨d,hd,hmd⟩:=h m h1;rcases BD.mp hd with rfl | hd
   .rw[AQ hmd]at h2;cases h2
   .exact⟨d,hd,hmd⟩) fun d hd a ha b hb=>one d (AO _ hd) a (BC.mp ha).1 b (BC.mp hb).1
  have le1:(L.filter fun m=>decide (m∈c)).length<=1:=by
   have nd':=nd.sublist (DD (p:=fun m=>decide (m∈c)))
   match e:L.filter (fun m=>decide (m∈c)),nd' with
   | [],_=>exact CH _
   | [_],_=>exact Nat.le_refl _
   | a::b::r,nd' =>
    have ha:a∈L.filter (fun m=>decide (m∈c)):=by rw[e];exact A_ ..
    have hb:b∈L.filter (fun m=>decide (m∈c)):=by rw[e];exact AO _ (A_ ..)
    have:=one c (A_ ..) a (BC.mp ha).1 b (BC.mp hb).1 (BL (BC.mp ha).2) (BL (BC.mp hb).2);exact absurd (this▸A_ ..) (D_.mp nd').1
  have:=Ez (fun m=>decide (m∈c)) L;rw[BM];omega
theorem Xz:∀n,n<=10->(chs n).length<=300:=by decide +kernel
theorem Lw{n:Nat}(hn:n<=10){L:List Nat}(nd:L.Nodup)(lo:∀m∈L,Low n m)(anti:∀a∈L,∀b∈L,Sub a b->a=b):L.length<=300:=by
 refine Nat.le_trans (Vu (chs n) L nd (fun m hm=>Af n m (lo m hm)) fun c hc a ha b hb h1 h2=>?_) (Xz n hn);obtain⟨i,hi,ei⟩:=EB h1;obtain⟨j,hj,ej⟩:=EB h2;have pw:=ER.mp (Js n c hc);rcases Nat.lt_trichotomy i j with z | z | z
 .have:=pw i j hi hj z;rw[ei,ej]at this;exact anti a ha b hb this
 .subst z;rw[<-ei,<-ej]
 .have:=pw j i hj hi z;rw[ei,ej]at this;exact(anti b hb a ha this).symm
theorem Ht(m i:Nat):((Builtin.bitAnd ((2^i:Nat):Int) (m:Int)) != 0)=m.testBit i:=by
 rw[Wk];have e:(2^i &&& m)=if m.testBit i=true then 2^i else 0:=BQ fun j=>by
  rw[DI,DU];by_cases h:m.testBit i=true
  .rw[AL h,DU];by_cases c:i=j
   .subst c;rw[h,Bool.and_true]
   .rw[AN c,DZ]
  .rw[AJ h,CL];by_cases c:i=j
   .subst c;rw[BJ.mpr h,HY]
   .rw[AN c,DZ]
 rw[e];have p:0<2^i:=Nat.pow_pos (by decide);by_cases h:m.testBit i=true
 .rw[AL h,h,bne_iff_ne];omega
 .rw[AJ h,BJ.mpr h];rfl
theorem Zp(x y:Nat)(h:∀j,y.testBit j=true->x.testBit j=true):∃z:Nat,Builtin.bitXor (x:Int) (y:Int) =(z:Int)/\∀j,z.testBit j=true↔x.testBit j=true/\¬y.testBit j=true:=by
 have hz:∀j,(x ^^^ y).testBit j=true↔x.testBit j=true/\¬y.testBit j=true:=fun j=>by
  rw[Nat.testBit_xor];cases hx:x.testBit j<;>cases hy:y.testBit j<;>simp;exact absurd (h j hy) (by rw[hx];decide)
 refine⟨x ^^^ y,?_,hz⟩;have e:(x ^^^ y)+y=x:=BQ fun j=>by
  rw[Qm j _ _ fun i z=>((hz i).mp z).2,CN,CC,hz];exact⟨fun z=>z.elim (·.1) (h j),fun z=>by by_cases c:y.testBit j=true<;>simp[z,c]⟩
 have a:x &&& y=y:=BQ fun j=>by
  rw[DI,CN,BU];exact⟨(·.2),fun z=>⟨h j z,z⟩⟩
 rw[PyProof.Rows.bitXor_and,Wk,a];omega
def bK(M:List Nat)(n:Nat):List (Key×V):=(List.range n).map fun i=>((Sum.inl ((2^i:Nat):Int):Key),E4 (M.getD i 0))
theorem Pu{i j:Nat}(h:((2^i:Nat):Int) =((2^j:Nat):Int)):i=j:=(Nat.pow_right_inj (by decide)).mp (Int.ofNat_inj.mp h)
theorem Jy(M:List Nat):∀{n i:Nat},i<n->P2 (bK M n) (.inl ((2^i:Nat):Int))=some (E4 (M.getD i 0))
 | n+1,i,h=>by
  unfold P2 bK;rw[DN,AU,List.find?_append];by_cases c:i<n
  .have ih:=Jy M c;unfold P2 bK at ih;cases e:(List.find? (fun kv:Key×V=>decide (kv.1=Sum.inl ((2^i:Nat):Int))) ((List.range n).map fun i=>((Sum.inl ((2^i:Nat):Int):Key),E4 (M.getD i 0))))with
   | none=>rw[e]at ih;cases ih
   | some q=>rw[e]at ih;rw[Option.some_or];exact ih
  .have e:i=n:=by omega
   subst e;rw[List.find?_eq_none.mpr fun q hq z=>?_,Option.none_or]
   .rw[AX,FI,AQ rfl];rfl
   .obtain⟨k,hk,rfl⟩:=AK.mp hq;have:=Pu (Sum.inl.inj (BL z));have:=CI.mp hk;omega
def mf(a b c d:Addr)(n L:Nat):List (Str×V):=[("names",.ref a),("full",E4 (2^n-1)),("bit_of",.ref b),("strikers_of",.ref c),("struck_of",.ref d),("loops",E4 L)]
structure MarksAt(C:Addr)(H:Hp)(x c:Addr)(ns:List Str)(A B:List Nat)(L:Nat):Prop where
 ex:∃dx a b d kb,H x=some (.ins C dx (mf a b c d ns.length L))/\H a=some (.lst (ns.map V.str))/\Rd H b (.dK kb)/\(∀i n,ns[i]?=some n->P2 kb (.inr n)=some (E4 (2^i)))/\Rd H c (.dK (bK A ns.length))/\H d=some (.dK (bK B ns.length))/\d≠c/\b≠c
 net:Net ns.length A B
 nd:ns.Nodup
 len:ns.length<=100
 loops:∀j,L.testBit j=true↔(A.getD j 0).testBit j=true
theorem Tc{H:Hp}{a c:Addr}{kvs:List (Key×V)}{o:HO}(r:Rd H c (.dK kvs))(h:H a=some o)(n1:∀kvs,o≠ .dK kvs)(n2:∀ob u,o≠ .frz ob u):a≠c:=by
 rintro rfl;rcases r with r | ⟨ob,r⟩
 .rw[h]at r;exact n1 _ (BI r)
 .rw[h]at r;exact n2 _ _ (BI r)
theorem zDn{H H':Hp}{b c:Addr}{u:HO}(r:Rd H b u)(s:Sm [c] H H')(n:b≠c):Rd H' b u:=r.imp (fun h=>Sm1 s h n) fun⟨o,h⟩=>⟨o,Sm1 s h n⟩
theorem MarksAt.fz{C:Addr}{H H':Hp}{x c:Addr}{ns:List Str}{A B:List Nat}{L:Nat}(h:MarksAt C H x c ns A B L)(s:Sm [c] H H')(r:Rd H' c (.dK (bK A ns.length))):MarksAt C H' x c ns A B L:=by
 obtain⟨⟨dx,a,b,d,kb,e1,e2,e3,e4,e5,e6,n1,n2⟩,h1,h2,h3,h4⟩:=h;exact⟨⟨dx,a,b,d,kb,Sm1 s e1 (Tc e5 e1 (fun _ z=>by cases z) fun _ _ z=>by cases z),Sm1 s e2 (Tc e5 e2 (fun _ z=>by cases z) fun _ _ z=>by cases z),zDn e3 s n2,e4,r,Sm1 s e6 n1,n1,n2⟩,h1,h2,h3,h4⟩
theorem MarksAt.same{C:Addr}{H H':Hp}{x c:Addr}{ns:List Str}{A B:List Nat}{L:Nat}(h:MarksAt C H x c ns A B L)(s:Same H H'):MarksAt C H' x c ns A B L :=
 h.fz s.sm (let⟨_,_,_,_,_,_,_,_,_,e5,_⟩:=h.ex;e5.imp (s _ _) fun⟨o,e⟩=>⟨o,s _ _ e⟩)
def T1(m i:Nat):List Nat:=(List.range i).filter fun k=>m.testBit k
theorem Am(m i:Nat):T1 m (i+1)=T1 m i++if m.testBit i=true then [i]else []:=by
 unfold T1;rw[DN,EU,DR,HS]
theorem Aj(m i:Nat):(T1 m i).length<=i:=Nat.le_trans (CB ..) (by rw[B_];exact Nat.le_refl _)
section
variable{P:Program}{w:World}{K:PySem.W.Frag}{mg:Str->Option Value}{base:Heap}
theorem R9:FnScope ["self", "some"] ["self", "some"] (B4 s_Marks_bits_in):=fsc
def Nn(C:Addr):Sp:=fun vs H Q _=>∃(x c:Addr) (ns:List Str) (A B:List Nat) (L m:Nat),vs = [.ref x,.int (m:Int)]/\MarksAt C H x c ns A B L/\∀l H',H l=none->Sm [c] H H'->MarksAt C H' x c ns A B L->H' l=some (.lst ((T1 m ns.length).map fun k=>E4 (2^k)))->Q (.ref l) H'
theorem S4(T:Tx K mg):FnOk P w K mg base CX0 1 T.ao.f T.ao.fd ["self", "some"] (Nn T.aa):=by
 have sc:=R9;refine T.ao.F.ok R9 (fun vs H Q E h=>?_) (fun cdv A outer s H vs Q E hr h=>?_)
 .obtain⟨x,c,ns,A,B,L,m,rfl,_⟩:=h;rfl
 .obtain⟨x,c,ns,A,B,L,m,rfl,hM,q⟩:=h;obtain⟨dx,a,b,d,kb,e1,e2,e3,e4,e5,e6,n1,n2⟩:=hM.ex;have ln:=hM.len;refine⟨_,(B2 (C1 (T0 (N':=["bit", "some"]) (cap:=[none,some 1]) (cl:=[("some",_)]) (K0 ⟨⟨rfl,rfl,rfl,rfl⟩,trivial⟩ ⟨rfl,trivial⟩) rfl (Ye (peF K (pv 0))) (fun _ _ _ _=>by exact⟨(pgC 0),(T7 (ptV K (C2 J6 (pv 0) (pv 1)))),(pv 0)⟩)))),?_⟩;refine ex1 rfl ⟨x,T.aa,dx,_,ex1 rfl ⟨e1,T.ab,T.aB,rfl,c,_,rfl,e5,fun o D hD=>?_⟩⟩;have hDc:D≠c:=fun z=>by rw[z,upd_same]at hD;cases hD
  have kz:Sm [c] H (upd H c (.frz o (.dK (bK A ns.length)))):=(Sm.refl _ _).upd (by simp);have rz:Rd (upd H c (.frz o (.dK (bK A ns.length)))) c (.dK (bK A ns.length)):=.inr ⟨o,upd_same⟩;have fz:(upd H c (.frz o (.dK (bK A ns.length)))) c=some (.frz o (.dK (bK A ns.length))):=upd_same;have hD0:H D=none:=by rw[B3 hDc]at hD;exact hD
  have M1:=hM.fz kz rz;generalize upd H c (.frz o (.dK (bK A ns.length)))=H1 at hD kz rz fz M1⊢;have lb:(bK A ns.length).length=ns.length:=by unfold bK;rw[AB,B_]
  refine Bw (n:=ns.length) (fun i σ G=>(∃v0,σ = [v0,some (.int (m:Int))])/\Same H1 G/\G D=some (.lst ((T1 m i).map fun k=>E4 (2^k)))) ⟨⟨_,rfl⟩,Same.new hD,upd_same⟩ ?_ ?_ ?_ ?_
  .rintro i σ G hi ⟨_,sG,_⟩;exact⟨sG _ _ fz,by rw[lb];exact hi⟩
  .rintro σ G ⟨_,sG,_⟩;exact⟨sG _ _ fz,by rw[lb];exact Nat.le_refl _⟩
  .rintro i σ G y H' N hi ⟨⟨v0,rfl⟩,sG,eG⟩ ⟨rfl,k,v,hk,rfl⟩ hN;unfold bK at hk;rw[AH,List.getElem?_range hi]at hk;obtain⟨rfl,rfl⟩:=Prod.mk.inj (BI hk);refine ex1 rfl (ex1 rfl (B7 rfl rfl ⟨_,rfl,?_⟩));dsimp only;rw[Ht];have hl:=Aj m i;refine Q6 (fun z=>ex1 rfl ⟨_,eG,by rw[AB,sizeLine_eq];omega,hN _ _ ⟨⟨_,rfl⟩,sG.upd hD,?_⟩⟩) (fun z=>hN _ _ ⟨⟨_,rfl⟩,sG,?_⟩)
   .rw[upd_same,Am,AL z,AU];rfl
   .rw[Am,AJ z,CJ];exact eG
  .rintro σ G ⟨_,sG,eG⟩;exact q D G hD0 (kz.trans sG.sm) (M1.same sG) eG
end
theorem zEi{α:Type}{J:It}{ys:List α}{r:α->V}(f:α->V){a D:Addr}{H:Hp}(as:AsSeq J (ys.map r) a H){tc:TT}{te:TE}{c:St}{v0:Option V}{Q:St->Hp->Prop}(p:α->Bool)(len:ys.length<=5000)(hD:H D=none)
  (ht:∀y∈ys,∀G,Same H G->∀M:Bool->Hp->Prop,(∀G',Same G G'->M (p y) G')->tc (some (r y)::c) G M) (he:∀y∈ys,∀G,Same H G->∀M:VK,(∀G',Same G G'->M (f y) G')->te (some (r y)::c) G M)
  (q:∀σ G,Same H G->G D=some (.lst ((ys.filter p).map f))->Q σ G):Cl (S8 0) tc (De D te) J (v0::c) (upd H D (.lst [])) Q:=by
 refine T9 as (fun i σ G=>(∃v,σ=v::c)/\Same H G/\G D=some (.lst (((ys.take i).filter p).map f))) ⟨⟨_,rfl⟩,Same.new hD,upd_same⟩ (fun i σ G _ h=>h.2.1.at a) ?_ ?_
 .rintro i σ G v N hx ⟨⟨v0,rfl⟩,sG,eG⟩ hN;rw[AH]at hx;obtain⟨y,hy,rfl⟩:=CO.mp hx;have my:=BN hy;refine ht y my G sG _ fun G' s'=>?_;have eG:=s' _ _ eG;have sG:=sG.trans s';have hs:(ys.take (i+1)).filter p =(ys.take i).filter p++if p y=true then [y]else []:=by
   rw[take_succ hy,EU,DR,HS]
  have hl:=CB p (ys.take i);rw[AW]at hl;refine Q6 (fun c=>he y my G' sG _ fun G2 s2=>⟨_,s2 _ _ eG,by rw[AB,sizeLine_eq];omega,hN _ _ ⟨⟨_,rfl⟩,(sG.trans s2).upd hD,?_⟩⟩) (fun c=>hN _ _ ⟨⟨_,rfl⟩,sG,?_⟩)
  .rw[upd_same,hs,AL c,AU];rfl
  .rw[hs,AJ c,CJ];exact eG
 .rintro σ G ⟨_,sG,eG⟩;rw[AB,CS]at eG;exact q σ G sG eG
theorem Dy{α:Type}{J:It}{ys:List α}{r:α->V}(f:α->V){a D:Addr}{H:Hp}(as:AsSeq J (ys.map r) a H){tc:TT}{te:TE}{c:St}{v0:Option V}{Q:St->Hp->Prop}(p:α->Bool)(len:ys.length<=5000)(hD:H D=none)
  (ht:∀y∈ys,∀G,Same H G->∀M:Bool->Hp->Prop,(∀G',Same G G'->M (p y) G')->tc (some (r y)::c) G M) (he:∀y∈ys,∀G,Same H G->∀M:VK,M (f y) G->te (some (r y)::c) G M)
  (q:∀σ G,Same H G->G D=some (.lst ((ys.filter p).map f))->Q σ G):Cl (S8 0) tc (De D te) J (v0::c) (upd H D (.lst [])) Q :=
 zEi f as p len hD ht (fun y hy G s M hM=>he y hy G s M (hM G fun b o e=>e)) q
theorem mem_bitsTo{m n k:Nat}:k∈T1 m n↔k<n/\m.testBit k=true:=by
 unfold T1;rw[BC,CI]
theorem F0(n j:Nat):(2^n-1).testBit j=true↔j<n:=by rw[G_,BK]
section
variable{P:Program}{w:World}{K:PySem.W.Frag}{mg:Str->Option Value}{base:Heap}
theorem Q1:FnScope ["self", "some"] ["self", "some"] (B4 s_Marks_names_in):=fsc
def Y1(C:Addr):Sp:=fun vs H Q _=>∃(x c:Addr) (ns:List Str) (A B:List Nat) (L m:Nat),vs = [.ref x,.int (m:Int)]/\MarksAt C H x c ns A B L/\∀l H',H l=none->Same H H'->H' l=some (.lst ((setOf ns m).map V.str))->Q (.ref l) H'
theorem Q5(T:Tx K mg):FnOk P w K mg base CX0 1 T.af.f T.af.fd ["self", "some"] (Y1 T.aa):=by
 have sc:=Q1;refine T.af.F.ok Q1 (fun vs H Q E h=>?_) (fun cdv A outer s H vs Q E hr h=>?_)
 .obtain⟨x,c,ns,A,B,L,m,rfl,_⟩:=h;rfl
 .obtain⟨x,c,ns,A,B,L,m,rfl,hM,q⟩:=h;have hu:=u7 hr;obtain⟨dx,a,b,d,kb,e1,e2,e3,e4,e5,e6,n1,n2⟩:=hM.ex;have ln:=hM.len;refine⟨_,(B2 (C1 (T0 (N':=["name", "some", "self"]) (cap:=[none,some 1,some 0]) (cl:=[("some",_),("self",_)]) (K0 ⟨⟨rfl,rfl,rfl,rfl⟩,⟨⟨rfl,rfl,rfl,rfl⟩,trivial⟩⟩ ⟨rfl,⟨rfl,trivial⟩⟩) rfl (piL K (peF K (pv 0))) (fun _ _ _ _=>by exact⟨(pgC 0),(T7 (ptV K (C2 J6 (J9 hu (peF K (pv 2)) (pv 0) (fun _ _=>rfl)) (pv 1)))),(pv 0)⟩)))),?_⟩;refine ex1 rfl ⟨x,T.aa,dx,_,ex1 rfl ⟨e1,T.ab,T.aK,rfl,a,rfl,⟨_,SqL.of e2⟩,fun D hD=>?_⟩⟩;refine T9 (asL (SqL.of e2)) (fun i σ G=>(∃v0,σ = [v0,some (.int (m:Int)),some (.ref x)])/\Same H G/\G D=some (.lst ((Dc ns m i).map V.str))) ⟨⟨_,rfl⟩,Same.new hD,upd_same⟩ (fun i σ G _ h=>h.2.1.at a) ?_ ?_
  .rintro i σ G y N hx ⟨⟨v0,rfl⟩,sG,eG⟩ hN;rw[AH]at hx;obtain⟨n,hn,rfl⟩:=CO.mp hx;have li:=(AG.mp hn).1;have rb:Rd G b (.dK kb):=e3.imp (sG _ _) fun⟨o,e⟩=>⟨o,sG _ _ e⟩;refine ex1 rfl ⟨x,T.aa,dx,_,ex1 rfl ⟨sG _ _ e1,T.ab,T.bm,rfl,ex1 rfl ⟨b,_,rfl,.inl ⟨kb,.inr n,rb,rfl,(e4 i n hn).symm⟩,ex1 rfl (B7 rfl rfl ⟨_,rfl,?_⟩)⟩⟩⟩;dsimp only;rw[Ht];have hle:=(Z8 ns m i (by omega)).length_le;rw[AW]at hle;refine Q6 (fun z=>ex1 rfl ⟨_,eG,by rw[AB,sizeLine_eq];omega,hN _ _ ⟨⟨_,rfl⟩,sG.upd hD,?_⟩⟩) (fun z=>hN _ _ ⟨⟨_,rfl⟩,sG,?_⟩)
   .rw[upd_same,Q0 hn,AL z,AU];rfl
   .rw[Q0 hn,AJ z,CJ];exact eG
  .rintro σ G ⟨_,sG,eG⟩;rw[AB]at eG;exact q D G hD sG eG
theorem Hi:FnScope ["sets", "whole", "one"] ["sets"] (B4 s_joined):=fsc
def Nx(K:PySem.W.Frag):Sp:=fun vs H Q _=>∃(l:Addr) (zs:List Nat),vs = [.ref l]/\H l=some (.lst (zs.map E4))/\∀r:Nat,(∀j,r.testBit j=true↔∃z∈zs,z.testBit j=true)->Q (.int (r:Int)) H
theorem Gg(T:Tx K mg):FnOk P w K mg base CX0 1 T.bg.f T.bg.fd ["sets"] (Nx K):=by
 have sc:=Hi;refine T.bg.F.ok Hi (fun vs H Q E h=>?_) (fun cdv A outer s H vs Q E hr h=>?_)
 .obtain⟨l,zs,rfl,_⟩:=h;rfl
 .obtain⟨l,zs,rfl,el,q⟩:=h;refine⟨_,(B1 (C4 (i:=1) sc.nd rfl (.inl rfl) B6)
   (B1 (K1 PassesOwn.never rfl (piL K (pv 0)) (C3 (i:=2) sc.nd rfl (.inl rfl))
   (B2 (zCk (i:=1) sc.nd rfl (Or.inl rfl) (pv 2) zEr)))
   (B2 (C1 (pv 1))))),?_⟩
  refine B5 fun N0 hN0=>?_;refine hN0 _ _ (B5 fun N1 hN1=>?_);refine ex1 rfl ⟨l,rfl,⟨_,SqL.of el⟩,?_⟩;refine Y4 (asL (K:=K) (SqL.of el)) (fun i σ G=>G=H/\∃(r:Nat) (v2:Option V),σ = [some (.ref l),some (.int (r:Int)),v2]/\∀j,r.testBit j=true↔∃z∈zs.take i,z.testBit j=true) ⟨rfl,0,_,rfl,fun j=>by simp⟩ (fun i σ G _ h=>by rw[h.1];exact fun o e=>e) ?_ ?_
  .rintro i σ G y hx ⟨rfl,r,v2,rfl,hr⟩ D' hD' _;rw[AH]at hx;obtain⟨z,hz,rfl⟩:=CO.mp hx;refine ex1 rfl (ex1 rfl (B7 rfl rfl ?_));dsimp only;rw[bor];refine hD' _ _ ⟨rfl,_,_,rfl,fun j=>?_⟩;rw[BO,CC,hr,take_succ hz];constructor
   .rintro(⟨z',h1,h2⟩ | h)
    .exact⟨z',DY _ h1,h2⟩
    .exact⟨z,BT _ (AE.mpr rfl),h⟩
   .rintro⟨z',h1,h2⟩;rcases AR.mp h1 with h1 | h1
    .exact .inl ⟨z',h1,h2⟩
    .rw[AE.mp h1]at h2;exact .inr h2
  .rintro σ G ⟨rfl,r,v2,rfl,hr⟩;rw[AB,CS]at hr;exact hN1 _ _ (ex1 rfl (q r hr))
def Qw(C:Addr)(f:List Nat->List Nat->List Nat):Sp:=fun vs H Q _=>∃(x c:Addr) (ns:List Str) (A B:List Nat) (L m:Nat),vs = [.ref x,.int (m:Int)]/\MarksAt C H x c ns A B L/\∀(r:Nat) H',Sm [c] H H'->MarksAt C H' x c ns A B L->(∀j,r.testBit j=true↔X7 (f A B) m j)->Q (.int (r:Int)) H'
theorem Ou{n m r:Nat}{M:List Nat}(lt:∀k j,(M.getD k 0).testBit j=true->k<n)(h:∀j,r.testBit j=true↔∃z∈(T1 m n).map (fun k=>M.getD k 0),z.testBit j=true)(j:Nat):r.testBit j=true↔X7 M m j:=by
 rw[h];constructor
 .rintro⟨z,hz,e⟩;obtain⟨k,hk,rfl⟩:=AK.mp hz;exact⟨k,(mem_bitsTo.mp hk).2,e⟩
 .rintro⟨k,hk,e⟩;exact⟨_,AK.mpr ⟨k,mem_bitsTo.mpr ⟨lt k j e,hk⟩,rfl⟩,e⟩
theorem O7:FnScope ["self", "some"] ["self", "some"] (B4 s_Marks_struck_by):=fsc
theorem J0(T:Tx K mg):FnOk P w K mg base CX0 2 T.ad.f T.ad.fd ["self", "some"] (Qw T.aa fun _ B=>B):=by
 have G_Marks_bits_in:=S4 (P:=P) (w:=w) (base:=base) T;have G_joined:=Gg (P:=P) (w:=w) (base:=base) T;have sc:=O7;refine T.ad.F.ok O7 (fun vs H Q E h=>?_) (fun cdv A outer s H vs Q E hr h=>?_)
 .obtain⟨x,c,ns,A,B,L,m,rfl,_⟩:=h;rfl
 .obtain⟨x,c,ns,A,B,L,m,rfl,hM,q⟩:=h;have hu:=u7 hr;obtain⟨dx,a,b,d,kb,e1,_⟩:=hM.ex;have ln:=hM.len;refine⟨_,(B2 (C1 (D0 T.bg G_joined (Rm hr) (A8 (T0 (N':=["bit", "self"]) (cap:=[none,some 0]) (cl:=[("self",_)]) (K0 ⟨⟨rfl,rfl,rfl,rfl⟩,trivial⟩ ⟨rfl,trivial⟩) rfl (piL K (E9 (pv 0) T.ab T.ao.m G_Marks_bits_in (Rm hr) T.ao.b .nil J8 (A8 (pv 1) B0))) (fun _ _ _ _=>by exact⟨(pgC 0),E5,(J9 hu (peF K (pv 1)) (pv 0) (fun _ _=>rfl))⟩)) B0)))),?_⟩;refine ex1 rfl ⟨x,dx,ex1 rfl ⟨e1,rfl,ex1 rfl ⟨x,c,ns,A,B,L,m,rfl,hM,fun l H1 hl k1 M1 el=>?_⟩⟩⟩;obtain⟨dx,a,b,d,kb,e1,e2,e3,e4,e5,e6,n1,n2⟩:=M1.ex;refine⟨l,rfl,⟨_,SqL.of el⟩,fun D hD=>?_⟩;refine Dy (fun k=>E4 (B.getD k 0)) (asL (SqL.of el)) (fun _=>true) (Nat.le_trans (Aj ..) (by omega)) hD (fun k hk G sG M hM=>hM G fun b o e=>e) (fun k hk G sG M hM=>?_) fun σ' G sG eG=>?_
  .exact ex1 rfl ⟨x,T.aa,dx,_,ex1 rfl ⟨sG _ _ e1,T.ab,T.bf,rfl,ex1 rfl ⟨d,_,rfl,.inl ⟨_,.inl ((2^k:Nat):Int),.inl (sG _ _ e6),rfl,(Jy B (mem_bitsTo.mp hk).1).symm⟩,hM⟩⟩⟩
  rw[GC.mpr fun _ _=>rfl]at eG;have eG:G D=some (.lst (((T1 m ns.length).map fun k=>B.getD k 0).map E4)):=by rw[eG,BZ];rfl
  refine⟨D,_,rfl,eG,fun r hr=>q r G (k1.trans sG.sm) (M1.same sG) (Ou (fun k j e=>(hM.net.lt k j e).1) hr)⟩
theorem K7:FnScope ["self", "some"] ["self", "some"] (B4 s_Marks_strikers_at):=fsc
theorem W9(T:Tx K mg):FnOk P w K mg base CX0 2 T.ar.f T.ar.fd ["self", "some"] (Qw T.aa fun A _=>A):=by
 have G_Marks_bits_in:=S4 (P:=P) (w:=w) (base:=base) T;have G_joined:=Gg (P:=P) (w:=w) (base:=base) T;have sc:=K7;refine T.ar.F.ok K7 (fun vs H Q E h=>?_) (fun cdv A outer s H vs Q E hr h=>?_)
 .obtain⟨x,c,ns,A,B,L,m,rfl,_⟩:=h;rfl
 .obtain⟨x,c,ns,A,B,L,m,rfl,hM,q⟩:=h;have hu:=u7 hr;obtain⟨dx,a,b,d,kb,e1,_⟩:=hM.ex;have ln:=hM.len;refine⟨_,(B2 (C1 (D0 T.bg G_joined (Rm hr) (A8 (T0 (N':=["bit", "self"]) (cap:=[none,some 0]) (cl:=[("self",_)]) (K0 ⟨⟨rfl,rfl,rfl,rfl⟩,trivial⟩ ⟨rfl,trivial⟩) rfl (piL K (E9 (pv 0) T.ab T.ao.m G_Marks_bits_in (Rm hr) T.ao.b .nil J8 (A8 (pv 1) B0))) (fun _ _ _ _=>by exact⟨(pgC 0),E5,(J9 hu (peF K (pv 1)) (pv 0) (fun _ _=>rfl))⟩)) B0)))),?_⟩;refine ex1 rfl ⟨x,dx,ex1 rfl ⟨e1,rfl,ex1 rfl ⟨x,c,ns,A,B,L,m,rfl,hM,fun l H1 hl k1 M1 el=>?_⟩⟩⟩;obtain⟨dx,a,b,d,kb,e1,e2,e3,e4,e5,e6,n1,n2⟩:=M1.ex;refine⟨l,rfl,⟨_,SqL.of el⟩,fun D hD=>?_⟩;refine Dy (fun k=>E4 (A.getD k 0)) (asL (SqL.of el)) (fun _=>true) (Nat.le_trans (Aj ..) (by omega)) hD (fun k hk G sG M hM=>hM G fun b o e=>e) (fun k hk G sG M hM=>?_) fun σ' G sG eG=>?_
  .exact ex1 rfl ⟨x,T.aa,dx,_,ex1 rfl ⟨sG _ _ e1,T.ab,T.aB,rfl,ex1 rfl ⟨c,_,rfl,.inl ⟨_,.inl ((2^k:Nat):Int),e5.imp (sG _ _) fun⟨o,e⟩=>⟨o,sG _ _ e⟩,rfl,(Jy A (mem_bitsTo.mp hk).1).symm⟩,hM⟩⟩⟩
  rw[GC.mpr fun _ _=>rfl]at eG;have eG:G D=some (.lst (((T1 m ns.length).map fun k=>A.getD k 0).map E4)):=by rw[eG,BZ];rfl
  refine⟨D,_,rfl,eG,fun r hr=>q r G (k1.trans sG.sm) (M1.same sG) (Ou (fun k j e=>(hM.net.lt j k ((hM.net.tr k j).mp e)).2) hr)⟩
theorem K8:FnScope ["self", "some"] ["self", "some"] (B4 s_Marks_unstruck_by):=fsc
def Jl(C:Addr):Sp:=fun vs H Q _=>∃(x c:Addr) (ns:List Str) (A B:List Nat) (L m:Nat),vs = [.ref x,.int (m:Int)]/\MarksAt C H x c ns A B L/\∀(r:Nat) H',Sm [c] H H'->MarksAt C H' x c ns A B L->(∀j,r.testBit j=true↔j<ns.length/\¬X7 B m j)->Q (.int (r:Int)) H'
theorem G5(T:Tx K mg):FnOk P w K mg base CX0 3 T.ah.f T.ah.fd ["self", "some"] (Jl T.aa):=by
 have G_Marks_struck_by:=J0 (P:=P) (w:=w) (base:=base) T;have sc:=K8;refine T.ah.F.ok K8 (fun vs H Q E h=>?_) (fun cdv A outer s H vs Q E hr h=>?_)
 .obtain⟨x,c,ns,A,B,L,m,rfl,_⟩:=h;rfl
 .obtain⟨x,c,ns,A,B,L,m,rfl,hM,q⟩:=h;obtain⟨dx,a,b,d,kb,e1,_⟩:=hM.ex;refine⟨_,(B2 (C1 (C2 Bz (peF K (pv 0)) (E9 (pv 0) T.ab T.ad.m G_Marks_struck_by (Rm hr) T.ad.b .nil J8 (A8 (pv 1) B0))))),?_⟩;refine ex1 rfl ⟨x,T.aa,dx,_,ex1 rfl ⟨e1,T.ab,T.ax,rfl,ex1 rfl ⟨x,dx,ex1 rfl ⟨e1,rfl,ex1 rfl ⟨x,c,ns,A,B,L,m,rfl,hM,fun r H1 k1 M1 hr=>?_⟩⟩⟩⟩⟩;obtain⟨z,ez,hz⟩:=Zp (2^ns.length-1) r fun j hj=>by
   obtain⟨k,_,e⟩:=(hr j).mp hj;exact(F0 _ _).mpr (hM.net.lt k j e).2
  refine⟨_,_,rfl,rfl,?_⟩;dsimp only;rw[ez];exact q z H1 k1 M1 fun j=>by rw[hz,F0,hr]
theorem r8:FnScope ["some"] ["some"] (B4 s_first_bit):=fsc
def Cw:Sp:=fun vs H Q _=>∃s:Nat,vs = [.int (s:Int)]/\0<s/\∀k:Nat,s.testBit k=true->Q (.int ((2^k:Nat):Int)) H
theorem p8(T:Tx K mg):FnOk P w K mg base CX0 1 T.as.f T.as.fd ["some"] Cw:=by
 have sc:=r8;refine T.as.F.ok r8 (fun vs H Q E h=>?_) (fun cdv A outer s H vs Q E hr h=>?_)
 .obtain⟨s,rfl,_⟩:=h;rfl
 .obtain⟨s,rfl,h0,q⟩:=h;refine⟨_,(B2 (C1 (C2 J6 (pv 0) (Mb Pw (pv 0))))),?_⟩;refine ex1 rfl (ex1 rfl ⟨_,rfl,B7 rfl rfl ?_⟩);obtain⟨k,h1,h2⟩:=Ym s h0;have e:-(s:Int)=Builtin.bitNot (((s-1:Nat)):Int):=by unfold Builtin.bitNot;omega
  have:=q k h1;dsimp only;rw[e,PyProof.Rows.bitAnd_not,Wk];have e2:(s:Int)-((s &&&(s-1):Nat):Int) =((2^k:Nat):Int):=by
   have:s &&&(s-1)<=s:=Nat.and_le_left;omega
  rw[e2];exact this
def Iy(C:Addr):Sp:=fun vs H Q _=>∃(x c:Addr) (ns:List Str) (A B:List Nat) (L ch ba:Nat),vs = [.ref x,.int (ch:Int),.int (ba:Int)]/\MarksAt C H x c ns A B L/\Low ns.length ch/\Low ns.length ba /\
 ∀t (ba':Nat) H',Sm [c] H H'->MarksAt C H' x c ns A B L->H' t=some (.tup [.int (ch:Int),.int (ba':Int)])->Low ns.length ba'->Sub ba ba'->(∀m,StandM ns.length A B m->Fits ch ba m->Fits ch ba' m)->Qy ns.length A B ch ba'->Q (.ref t) H'
theorem O9:FnScope ["marks", "chosen", "barred", "safe", "more"] ["marks", "chosen", "barred"] (B4 s_settle_standing):=fsc
set_option maxHeartbeats 2000000 in
theorem I0(T:Tx K mg):FnOk P w K mg base CX0 4 T.ae.f T.ae.fd ["marks", "chosen", "barred"] (Iy T.aa):=by
 have G_Marks_struck_by:=J0 (P:=P) (w:=w) (base:=base) T;have G_Marks_strikers_at:=W9 (P:=P) (w:=w) (base:=base) T;have G_Marks_unstruck_by:=G5 (P:=P) (w:=w) (base:=base) T;have sc:=O9;refine T.ae.F.ok O9 (fun vs H Q E h=>?_) (fun cdv A outer s H vs Q E hr h=>?_)
 .obtain⟨x,c,ns,A,B,L,ch,ba,rfl,_⟩:=h;rfl
 .obtain⟨x,c,ns,A,B,L,ch,ba,rfl,hM,loc,lob,q⟩:=h;have net:=hM.net;refine⟨_,(B2 (Dg PassesOwn.never (K2 f7) (B1 (C4 (i:=3) sc.nd rfl (.inl rfl) (E9 (pv 0) T.ab T.ah.m G_Marks_unstruck_by (Rm hr) T.ah.b .nil J8 (A8 (C2 Bz (peF K (pv 0)) (pv 2)) B0)))
   (B1 (C4 (i:=4) sc.nd rfl (.inl rfl) (C2 Q2 (C2 Q2 (C2 Q2 (pv 2) (E9 (pv 0) T.ab T.ad.m G_Marks_struck_by (Rm hr) T.ad.b .nil J8 (A8 (pv 1) B0))) (E9 (pv 0) T.ab T.ar.m G_Marks_strikers_at (Rm hr) T.ar.b .nil J8 (A8 (pv 1) B0))) (E9 (pv 0) T.ab T.ad.m G_Marks_struck_by (Rm hr) T.ad.b .nil J8 (A8 (pv 3) B0))))
   (B1 (G9 (C6 K6 (pv 4) (pv 2) (D6 _)) (B2 (C1 (O1 (A8 (pv 1) (A8 (pv 2) B0))))) C9)
   (B2 (C4 (i:=2) sc.nd rfl (.inl rfl) (pv 4)))))))),?_⟩
  refine⟨fun k σ G=>∃(b1:Nat) (v3 v4:Option V),σ = [some (.ref x),some (.int (ch:Int)),some (.int (b1:Int)),v3,v4]/\k=2^ns.length-b1/\Low ns.length b1/\Sub ba b1/\Sm [c] H G/\MarksAt T.aa G x c ns A B L/\∀m,StandM ns.length A B m->Fits ch ba m->Fits ch b1 m,⟨_,ba,_,_,rfl,rfl,lob,fun j h=>h,Sm.refl _ _,hM,fun m _ h=>h⟩,?_⟩;rintro k σ G ⟨b1,v3,v4,rfl,rfl,lo1,sub1,kG,MG,snd1⟩;refine⟨_,rfl,Mh ⟨fun σ' G'=>∃(b2:Nat) (v3 v4:Option V),σ' = [some (.ref x),some (.int (ch:Int)),some (.int (b2:Int)),v3,v4]/\b1<b2/\Low ns.length b2/\Sub ba b2/\Sm [c] H G'/\MarksAt T.aa G' x c ns A B L/\∀m,StandM ns.length A B m->Fits ch ba m->Fits ch b2 m,?_,?_⟩⟩
  .rintro σ' G' ⟨b2,v3,v4,rfl,lt,lo2,h⟩;have:=lo2.lt;exact⟨2^ns.length-b2,by omega,b2,_,_,rfl,rfl,lo2,h⟩
  refine B5 fun N1 hN1=>?_;obtain⟨dx,a,b,d,kb,e1,_⟩:=MG.ex;obtain⟨z,ez,hz⟩:=Zp (2^ns.length-1) b1 fun j hj=>(F0 _ _).mpr (lo1 j hj);refine ex1 rfl ⟨x,dx,ex1 rfl ⟨e1,rfl,ex1 rfl ⟨x,T.aa,dx,_,ex1 rfl ⟨e1,T.ab,T.ax,rfl,ex1 rfl (B7 rfl rfl ?_)⟩⟩⟩⟩;dsimp only;rw[ez];refine⟨x,c,ns,A,B,L,z,rfl,MG,fun sf G1 k1 M1 hsf=>?_⟩;refine hN1 _ _ (B5 fun N2 hN2=>?_);obtain⟨dx,a,b,d,kb,e1,_⟩:=M1.ex;refine ex1 rfl (ex1 rfl ⟨x,dx,ex1 rfl ⟨e1,rfl,ex1 rfl ⟨x,c,ns,A,B,L,ch,rfl,M1,fun r1 G2 k2 M2 h1=>?_⟩⟩⟩);refine B7 rfl rfl ?_;dsimp only;rw[bor];obtain⟨dx,a,b,d,kb,e1,_⟩:=M2.ex;refine ex1 rfl ⟨x,dx,ex1 rfl ⟨e1,rfl,ex1 rfl ⟨x,c,ns,A,B,L,ch,rfl,M2,fun r2 G3 k3 M3 h2=>?_⟩⟩⟩;refine B7 rfl rfl ?_;dsimp only;rw[bor];obtain⟨dx,a,b,d,kb,e1,_⟩:=M3.ex;refine ex1 rfl ⟨x,dx,ex1 rfl ⟨e1,rfl,ex1 rfl ⟨x,c,ns,A,B,L,sf,rfl,M3,fun r3 G4 k4 M4 h3=>?_⟩⟩⟩;refine B7 rfl rfl ?_;dsimp only;rw[bor];have k4:=kG.trans (k1.trans (k2.trans (k3.trans k4)));generalize hmo:(b1 ||| r1 ||| r2 ||| r3)=mo;have hm:∀j,mo.testBit j=true↔((b1.testBit j=true\/X7 B ch j)\/X7 A ch j)\/X7 B sf j:=fun j=>by
   rw[<-hmo,BO,BO,BO,CC,CC,CC,h1,h2,h3]
  have hs3:∀j,X7 B sf j↔∃i,i<ns.length/\(¬∃k,k<ns.length/\¬b1.testBit k=true/\(B.getD k 0).testBit i=true)/\(B.getD i 0).testBit j=true:=fun j=>by
   constructor
   .rintro⟨i,hi,e⟩;obtain⟨hn,nh⟩:=(hsf i).mp hi;exact⟨i,hn,fun⟨k,hk,nb,e'⟩=>nh ⟨k,(hz k).mpr ⟨(F0 _ _).mpr hk,nb⟩,e'⟩,e⟩
   .rintro⟨i,hi,nk,e⟩;exact⟨i,(hsf i).mpr ⟨hi,fun⟨k,hk,e'⟩=>nk ⟨k,(F0 _ _).mp ((hz k).mp hk).1,((hz k).mp hk).2,e'⟩⟩,e⟩
  refine hN2 _ _ (B5 fun N3 hN3=>?_);refine ex1 rfl (ex1 rfl ⟨rfl,_,rfl,Q6 (fun eq=>?_) (fun ne=>?_)⟩)
  .have eq:mo=b1:=by have:=V.int.inj (BL eq);omega
   refine ex1 rfl (ex1 rfl ⟨by show 2<=sizeLine;decide,fun t ht=>?_⟩);have ut:=Same.new (o:=.tup [.int (ch:Int),.int (b1:Int)]) ht;refine q t b1 _ (k4.trans ut.sm) (M4.same ut) upd_same lo1 sub1 snd1 ⟨fun j h=>?_,fun j h=>?_,fun i j hi nk e=>?_⟩
   .rw[<-eq];exact(hm j).mpr (.inl (.inl (.inr h)))
   .rw[<-eq];exact(hm j).mpr (.inl (.inr h))
   .rw[<-eq];exact(hm j).mpr (.inr ((hs3 j).mpr ⟨i,hi,nk,e⟩))
  .have ne:mo≠b1:=fun z=>ne (AQ (by rw[z]));refine hN3 _ _ ?_;have sb:Sub b1 mo:=fun j h=>(hm j).mpr (.inl (.inl (.inl h)));refine ex1 rfl ⟨mo,_,_,rfl,ED (Nat.le_of_testBit sb) (Ne.symm ne),fun j h=>?_,fun j h=>sb j (sub1 j h),k4,M4,fun m hs hf=>?_⟩
   .rcases(hm j).mp h with((h | ⟨k,_,e⟩) | ⟨k,_,e⟩) | ⟨k,_,e⟩
    .exact lo1 j h
    .exact(net.lt k j e).2
    .exact(net.lt j k ((net.tr k j).mp e)).1
    .exact(net.lt k j e).2
   .have f1:=snd1 m hs hf;obtain⟨x1,x2,x3⟩:=Of net hs f1;refine⟨f1.1,fun j hj z=>?_⟩;rcases(hm j).mp z with((h | h) | h) | h
    .exact f1.2 j hj h
    .exact x1 j h hj
    .exact x2 j h hj
    .obtain⟨i,hi,nk,e⟩:=(hs3 j).mp h;exact x3 i j hi nk e hj
end
def ThrownS(C:Addr)(D:List Addr)(H:Hp)(E:XK):Prop:=∀H' x,Sm D H H'->H' x=some (XO x C none)->E (.ref C) none H'
def er(H:Hp)(l:Addr):Hp:=fun b=>if b=l then none else H b
theorem Bk{H:Hp}{l b:Addr}(n:b≠l):er H l b=H b:=AJ n
theorem X8(H:Hp)(l:Addr):Same (er H l) H:=fun b o e=>by
 unfold er at e;by_cases c:b=l
 .rw[AL c]at e;cases e
 .rw[AJ c]at e;exact e
theorem Wl(H:Hp)(l:Addr)(o:HO):er (upd H l o) l=er H l:=funext fun b=>by
 unfold er;by_cases c:b=l
 .rw[AL c,AL c]
 .rw[AJ c,AJ c,B3 c]
theorem MarksAt.er{C:Addr}{H H':Hp}{x c l:Addr}{ns:List Str}{A B:List Nat}{L:Nat}(h:MarksAt C (er H l) x c ns A B L)(k:Sm [c] H H')(h':MarksAt C H' x c ns A B L)(n:l≠c):MarksAt C (Sw.er H' l) x c ns A B L:=by
 refine h.fz (fun b o e nb=>?_) ?_
 .have:b≠l:=fun z=>by subst z;unfold Sw.er at e;rw[AL rfl]at e;cases e
  rw[Bk this];exact k b o (X8 H l b o e) nb
 .obtain⟨_,_,_,_,_,_,_,_,_,e5,_⟩:=h'.ex;unfold Rd;rw[Bk n.symm];exact e5
theorem ThrownS.sm{C:Addr}{D:List Addr}{H H1:Hp}{E:XK}(h:ThrownS C D H E)(s:Sm D H H1):ThrownS C D H1 E:=fun H' x k e=>h H' x (s.trans k) e
theorem Jf{n:Nat}(p:Nat->Prop)(h:∀m,p m->Low n m):∃Ls:List Nat,Ls.Nodup/\∀m,m∈Ls↔p m:=by
 classical
 refine⟨(List.range (2^n)).filter fun m=>decide (p m),DD.nodup IG,fun m=>?_⟩;rw[BC,CI,BK];exact⟨fun z=>z.2,fun z=>⟨(h m z).lt,z⟩⟩
theorem V8(x y:Nat):((Builtin.bitAnd (x:Int) (y:Int)) != 0)=true↔∃j,x.testBit j=true/\y.testBit j=true:=by
 rw[Wk,bne_iff_ne];constructor
 .intro h;have h:x &&& y≠0:=fun z=>h (by rw[z];rfl);obtain⟨j,hj⟩:=Nat.exists_testBit_of_ne_zero h;rw[DI,BU]at hj;exact⟨j,hj⟩
 .rintro⟨j,h1,h2⟩ z;have e:x &&& y=0:=by omega
  have:=CL j;rw[<-e,DI,h1,h2]at this;cases this
section
variable{P:Program}{w:World}{K:PySem.W.Frag}{mg:Str->Option Value}{base:Heap}
abbrev Tgt:=Nat->List Nat->List Nat->Nat->Prop
def O5(C:Addr)(Tg:Tgt):Sp:=fun vs H Q _=>∃(x c:Addr) (ns:List Str) (A B:List Nat) (L ch ba:Nat),vs = [.ref x,.int (ch:Int),.int (ba:Int)]/\MarksAt C H x c ns A B L/\Low ns.length ch/\Low ns.length ba /\
 ∀t (ch' ba':Nat) H',Sm [c] H H'->MarksAt C H' x c ns A B L->H' t=some (.tup [.int (ch':Int),.int (ba':Int)])->Low ns.length ch'->Low ns.length ba'->Sub ch ch'->Sub ba ba'->(∀m,Tg ns.length A B m->Fits ch ba m->Fits ch' ba' m)->((∀j,ch'.testBit j=true->¬ba'.testBit j=true)->(∀j,j<ns.length->ch'.testBit j=true\/ba'.testBit j=true)->Tg ns.length A B ch')->Q (.ref t) H'
def Z0(C CT f:Addr)(Tg:Tgt)(k:Nat):Sp:=fun vs H Q E=>∃(x c l:Addr) (ns:List Str) (A B:List Nat) (L ch ba:Nat) (fs:List Nat),vs = [.ref x,.ref f,.bl false,.int (ch:Int),.int (ba:Int),.ref l]/\MarksAt C (er H l) x c ns A B L/\Low ns.length ch/\Low ns.length ba/\und ns.length ch ba<=k/\H l=some (.lst (fs.map E4))/\fs.length<=300 /\
 ∀Ls:List Nat,Ls.Nodup->(∀m,m∈Ls↔Tg ns.length A B m/\Fits ch ba m)->(∀H',fs.length+Ls.length<=300->Sm [c,l] H H'->MarksAt C (er H' l) x c ns A B L->H' l=some (.lst ((fs++Ls).map E4))->Q .non H')/\(300<fs.length+Ls.length->ThrownS CT [c,l] H E)
theorem Y7:FnScope ["marks", "settle", "greatest", "chosen", "barred", "found", "undecided", "most", "first"] ["marks", "settle", "greatest", "chosen", "barred", "found"] (B4 s_gather):=fsc
set_option maxHeartbeats 4000000 in
theorem Bo(T:Tx K mg){f:Addr}{fd:FuncData}{Tg:Tgt}{n k:Nat}{S:Sp}(tl:∀n A B m,Tg n A B m->Low n m)(G_settle:FnOk P w K mg base CX0 n f fd ["marks", "chosen", "barred"] (O5 T.aa Tg))(hk_settle:PySem.W.keepIn K (.ref f)=true)(hb_settle:Binds K fd ["marks", "chosen", "barred"] [])
  (h1:1<=n) (G_gather:FnOk P w K mg base (CXe P w) n T.ai.f T.ai.fd ["marks", "settle", "greatest", "chosen", "barred", "found"] S) (hS:∀k',k=k'+1->S=Z0 T.aa T.ak f Tg k') :
  FnOk P w K mg base (CXe P w) (n+1) T.ai.f T.ai.fd ["marks", "settle", "greatest", "chosen", "barred", "found"] (Z0 T.aa T.ak f Tg k):=by
 have G_first_bit:FnOk P w K mg base CX0 n T.as.f T.as.fd ["some"] Cw:=(p8 T).mono h1;have sc:=Y7;refine T.ai.F.okE Y7 (fun vs H Q E h=>?_) (fun cdv A outer s H vs Q E hr h=>?_)
 .obtain⟨x,c,l,ns,A,B,L,ch,ba,fs,rfl,_⟩:=h;rfl
 .obtain⟨x,c,l,ns,A,B,L,ch,ba,fs,rfl,hR,loc,lob,hu,el,lf,q⟩:=h;have hM:=hR.same (X8 H l);refine⟨_,(B1 (X2 (Jo (i:=1) G_settle (hr.mono (Nat.le_refl _)) hk_settle hb_settle J8 (A8 (pv 0) (A8 (pv 3) (A8 (pv 4) B0)))) (pgT K (n:=2) (C5 (C3 (i:=3) sc.nd rfl (.inl rfl)) (C5 (C3 (i:=4) sc.nd rfl (.inl rfl)) J1))))
   (B1 (G9 (ptV K (C2 J6 (pv 3) (pv 4))) (B2 n0) C9)
   (B1 (C4 (i:=6) sc.nd rfl (.inl rfl) (C2 Bz (peF K (pv 0)) (C2 Q2 (pv 3) (pv 4))))
   (B1 (C4 (i:=7) sc.nd rfl (.inr rfl) (C2 Q2 (pv 3) (pv 6)))
   (B1 (G9 (PW.pt (Cc (K2 (pv 2)) (y7 (K2 (E6 (Ri K) T.bs Rc (A8 (T0 (N':=["one", "most"]) (cap:=[none,some 7]) (cl:=[("most",_)]) (K0 ⟨⟨rfl,rfl,rfl,rfl⟩,trivial⟩ ⟨rfl,trivial⟩) rfl (piL K (pv 5)) (fun _ _ _ _=>by exact⟨(pgC 0),E5,(K4 K6 (C2 J6 (pv 1) (pv 0)) (pv 1) (D6 _))⟩)) B0)))))) (B2 n0) C9)
   (B1 (G9 (X4 (ptV K (pv 6))) (B1 (G9 (C6 K6 (E6 (P3 K) T.az O3 (A8 (pv 5) B0)) (Wv T.bC) (D6 _)) (B2 (Ew cxE.bx T.aI T.bq rfl T.bl (A8 E3 B0))) C9)
   (B1 (C7 (Bn K PySem.F.plainAttrs_list PySem.F.slot_list_append PySem.F.type_list_append D3 (pv 5) (A8 (pv 3) B0)))
   (B2 n0))) C9)
   (B1 (C4 (i:=8) sc.nd rfl (.inl rfl) (D0 T.as G_first_bit (hr.mono (Nat.le_refl _)) (A8 (pv 6) B0)))
   (B1 (C7 (U4 cxE.bx T.ai G_gather (hr.mono (Nat.le_refl _)) (@A8 _ _ _ _ _ (pv 0) (@A8 _ _ _ _ _ (pv 1) (@A8 _ _ _ _ _ (pv 2) (@A8 _ _ _ _ _ (C2 Q2 (pv 3) (pv 8)) (@A8 _ _ _ _ _ (pv 4) (@A8 _ _ _ _ _ (pv 5) B0 (by rfl)) (by rfl)) (by rfl)) (by rfl)) (by rfl)) (by rfl))))
   (B2 (C7 (U4 cxE.bx T.ai G_gather (hr.mono (Nat.le_refl _)) (@A8 _ _ _ _ _ (pv 0) (@A8 _ _ _ _ _ (pv 1) (@A8 _ _ _ _ _ (pv 2) (@A8 _ _ _ _ _ (pv 3) (@A8 _ _ _ _ _ (C2 Q2 (pv 4) (pv 8)) (@A8 _ _ _ _ _ (pv 5) B0 (by rfl)) (by rfl)) (by rfl)) (by rfl)) (by rfl)) (by rfl))))))))))))),?_⟩
  refine B5 fun N1 hN1=>?_;refine⟨rfl,ex1 rfl (ex1 rfl (ex1 rfl ⟨x,c,ns,A,B,L,ch,ba,rfl,hM,loc,lob,fun t c1 b1 H1 k1 M1 et lo1 lo2 sub1 sub2 snd cpl=>?_⟩))⟩;refine⟨t,_,rfl,SqT.of et,rfl,_,_,rfl,_,_,rfl,rfl,?_⟩;have nlc:l≠c:=let⟨_,_,_,_,_,_,_,_,_,e5,_⟩:=hM.ex;Tc e5 el (fun _ z=>by cases z) fun _ _ z=>by cases z
  have el1:=Sm1 k1 el nlc;have R1:=hR.er k1 M1 nlc;have k1:Sm [c,l] H H1:=fun b o e nb=>k1 b o e fun z=>nb (BD.mpr (.inl (AE.mp z)));refine hN1 _ _ (B5 fun N2 hN2=>?_);refine ex1 rfl (ex1 rfl (B7 rfl rfl ⟨_,rfl,Q6 (fun cm=>?_) (fun cm=>?_)⟩))
  .obtain⟨j,j1,j2⟩:=(V8 c1 b1).mp cm;have:=(q [] IA fun m=>⟨fun z=>absurd z BV,fun⟨z,y⟩=>absurd j2 ((snd m z y).2 j ((snd m z y).1 j j1))⟩).1 H1 (by rw[FU];omega) k1 R1 (by rw[CJ];exact el1);exact this
  have dis:∀j,c1.testBit j=true->¬b1.testBit j=true:=fun j z y=>cm ((V8 c1 b1).mpr ⟨j,z,y⟩);have fit:∀m,Tg ns.length A B m/\Fits ch ba m↔Tg ns.length A B m/\Fits c1 b1 m:=fun m=>⟨fun⟨z,y⟩=>⟨z,snd m z y⟩,fun⟨z,y⟩=>⟨z,y.mono sub1 sub2⟩⟩;refine hN2 _ _ (B5 fun N3 hN3=>?_);obtain⟨dx,a,b,d,kb,e1,_⟩:=M1.ex;obtain⟨u,eu,hu2⟩:=Zp (2^ns.length-1) (c1 ||| b1) fun j hj=>by
   rw[BO,CC]at hj;exact(F0 _ _).mpr (hj.elim (lo1 j) (lo2 j))
  have hu2:∀j,u.testBit j=true↔j<ns.length/\¬c1.testBit j=true/\¬b1.testBit j=true:=fun j=>by
   rw[hu2,F0,BO,CC,not_or]
  refine ex1 rfl ⟨x,T.aa,dx,_,ex1 rfl ⟨e1,T.ab,T.ax,rfl,ex1 rfl (ex1 rfl (B7 rfl rfl ?_))⟩⟩;dsimp only;rw[bor];refine B7 rfl rfl ?_;dsimp only;rw[eu];refine hN3 _ _ (B5 fun N4 hN4=>?_);refine ex1 rfl (ex1 rfl (B7 rfl rfl ?_));refine hN4 _ _ (B5 fun N5 hN5=>?_);refine ex1 rfl ⟨_,rfl,X1 (X1 ?_)⟩;refine hN5 _ _ (B5 fun N6 hN6=>?_);refine ex1 rfl ⟨_,rfl,Q6 (fun z0=>?_) (fun z0=>?_)⟩
  .have u0:u=0:=by
    rw[EI,bne_eq_false_iff_eq]at z0;omega
   have all:∀j,j<ns.length->c1.testBit j=true\/b1.testBit j=true:=fun j hj=>by
    by_cases h:c1.testBit j=true
    .exact .inl h
    .by_cases h':b1.testBit j=true
     .exact .inr h'
     .have:=(hu2 j).mpr ⟨hj,h,h'⟩;rw[u0,CL]at this;cases this
   have tg:=cpl dis all;have qq:=q [c1] (DK _ _) fun m=>by
    rw[fit,AE];exact⟨fun z=>by rw[z];exact⟨tg,fun j h=>h,dis⟩,fun⟨z,y⟩=>Ev (tl _ _ _ _ z) all y⟩
   have lm:(fs.map E4).length=fs.length:=AB ..;refine B5 fun N7 hN7=>?_;refine ex1 rfl (B7 (a:=l) rfl (.inl (SqL.of el1)) ⟨rfl,_,rfl,Q6 (fun e3=>?_) (fun e3=>?_)⟩)
   .have l300:fs.length=300:=by
     have:=V.int.inj (BL e3);rw[lm]at this;omega
    refine⟨by show 1<=sizeLine;decide,fun z hz=>?_⟩;exact qq.2 (by rw[GW];omega) _ z (k1.new hz) upd_same
   .have l300:fs.length<300:=ED lf fun z=>e3 (AQ (by rw[lm,z];rfl));refine hN7 _ _ (B5 fun N8 hN8=>?_);refine ex1 rfl ⟨.inl ⟨rfl,_,SqL.of el1⟩,ex1 rfl ⟨l,_,_,rfl,rfl,el1,by rw[lm,sizeLine_eq];omega,hN8 _ _ ?_⟩⟩;have:=qq.1 (upd H1 l (.lst (fs.map E4 ++ [.int (c1:Int)]))) (by rw[GW];omega) (k1.upd (by simp)) (by rw[Wl];exact R1) (by rw[upd_same,AU];rfl);exact this
  .have upos:0<u:=by
    rcases Nat.eq_zero_or_pos u with h | h
    .exact absurd (by rw[h];rfl) z0
    .exact h
   refine hN6 _ _ (B5 fun N7 hN7=>?_);refine ex1 rfl ⟨u,rfl,upos,fun kk hkk=>?_⟩;obtain⟨k0,nc,nb⟩:=(hu2 kk).mp hkk;have ss:∀a:Nat,Sub a (a ||| 2^kk):=fun a j h=>by rw[BO,h];rfl
   have sb:∀a:Nat,(a ||| 2^kk).testBit kk=true:=fun a=>by rw[BO,EZ,HE]
   have un1:=Kr (n:=ns.length) sub1 sub2;have un2:=Lb (n:=ns.length) (ss c1) (fun j h=>h:Sub b1 b1) k0 ⟨nc,nb⟩ (.inl (sb c1));have un3:=Lb (n:=ns.length) (fun j h=>h:Sub c1 c1) (ss b1) k0 ⟨nc,nb⟩ (.inr (sb b1));obtain⟨k',rfl⟩:∃k',k=k'+1:=⟨k-1,by omega⟩;have hSS:=hS k' rfl;subst hSS;have mem:∀{L1 L2:List Nat},(∀m,m∈L1↔Tg ns.length A B m/\Fits (c1 ||| 2^kk) b1 m)->(∀m,m∈L2↔Tg ns.length A B m/\Fits c1 (b1 ||| 2^kk) m)->∀m,m∈L1++L2↔Tg ns.length A B m/\Fits ch ba m:=fun h1 h2 m=>by
    rw[fit,AR,h1,h2,fits_or,fits_bar];constructor
    .rintro(⟨a,b,_⟩ | ⟨a,b,_⟩)
     .exact⟨a,b⟩
     .exact⟨a,b⟩
    .rintro⟨a,b⟩;by_cases h:m.testBit kk=true
     .exact .inl ⟨a,b,h⟩
     .exact .inr ⟨a,b,h⟩
   have nod:∀{L1 L2:List Nat},L1.Nodup->L2.Nodup->(∀m,m∈L1↔Tg ns.length A B m/\Fits (c1 ||| 2^kk) b1 m)->(∀m,m∈L2↔Tg ns.length A B m/\Fits c1 (b1 ||| 2^kk) m)->(L1++L2).Nodup:=fun n1 n2 h1 h2=>FY.mpr ⟨n1,n2,fun a ha b hb e=>by
    subst e;exact(fits_bar.mp ((h2 a).mp hb).2).2 (fits_or.mp ((h1 a).mp ha).2).2⟩
   refine hN7 _ _ (B5 fun N8 hN8=>?_);refine ex1 rfl (ex1 rfl (ex1 rfl (ex1 rfl (ex1 rfl (B7 rfl rfl ?_)))));refine ex1 rfl (ex1 rfl ⟨x,c,l,ns,A,B,L,c1 ||| 2^kk,b1,fs,by dsimp only;rw[bor];rfl,R1,lo1.or k0,lo2,by omega,el1,lf,fun L1 nd1 m1=>⟨fun H2 le2 k2 M2 el2=>?_,fun gt=>?_⟩⟩)
   .refine hN8 _ _ ?_;refine ex1 rfl (ex1 rfl (ex1 rfl (ex1 rfl (ex1 rfl (ex1 rfl (B7 rfl rfl ?_))))));refine ex1 rfl ⟨x,c,l,ns,A,B,L,c1,b1 ||| 2^kk,fs++L1,by dsimp only;rw[bor];rfl,M2,lo1,lo2.or k0,by omega,el2,by rw[AZ];exact le2,fun L2 nd2 m2=>⟨fun H3 le3 k3 M3 el3=>?_,fun gt=>?_⟩⟩
    .rw[AZ]at le3;rw[BE]at el3;exact(q (L1++L2) (nod nd1 nd2 m1 m2) (mem m1 m2)).1 H3 (by rw[AZ];omega) (k1.trans (k2.trans k3)) M3 el3
    .rw[AZ]at gt;exact((q (L1++L2) (nod nd1 nd2 m1 m2) (mem m1 m2)).2 (by rw[AZ];omega)).sm (k1.trans k2)
   .obtain⟨L2,nd2,m2⟩:=Jf (n:=ns.length) (fun m=>Tg ns.length A B m/\Fits c1 (b1 ||| 2^kk) m) fun m h=>tl _ _ _ _ h.1;exact((q (L1++L2) (nod nd1 nd2 m1 m2) (mem m1 m2)).2 (by rw[AZ];omega)).sm k1
def Xx:Sp:=fun _ _ _ _=>False
theorem Jq{f:Addr}{fd:FuncData}{ps:List Str}{CX:CXT}{n:Nat}:FnOk P w K mg base CX n f fd ps Xx:=⟨fun _ _ _ _ h=>h.elim,fun _ _ _ _ _ _ _ _ _ _ _ _ _ h=>h.elim⟩
theorem g9(T:Tx K mg){f:Addr}{fd:FuncData}{Tg:Tgt}{n:Nat}(tl:∀n A B m,Tg n A B m->Low n m)(G:FnOk P w K mg base CX0 n f fd ["marks", "chosen", "barred"] (O5 T.aa Tg))(hk:PySem.W.keepIn K (.ref f)=true)(hb:Binds K fd ["marks", "chosen", "barred"] [])(h1:1<=n) :
  ∀k,FnOk P w K mg base (CXe P w) (n+1+k) T.ai.f T.ai.fd ["marks", "settle", "greatest", "chosen", "barred", "found"] (Z0 T.aa T.ak f Tg k)
 | 0=>Bo T tl G hk hb h1 Jq fun k' e=>by omega
 | k+1=>Bo (n:=n+1+k) T tl (G.mono (by omega)) hk hb (by omega) (g9 T tl G hk hb h1 k) fun k' e=>by cases e;rfl
theorem Fv(T:Tx K mg):FnOk P w K mg base CX0 4 T.ae.f T.ae.fd ["marks", "chosen", "barred"] (O5 T.aa StandM) :=
 (I0 T).imp fun vs H Q E h=>by
  obtain⟨x,c,ns,A,B,L,ch,ba,e,hM,loc,lob,q⟩:=h;exact⟨x,c,ns,A,B,L,ch,ba,e,hM,loc,lob,fun t ba' H' k M et lo sub snd st=>q t ch ba' H' k M et loc lo (fun j h=>h) sub snd fun dis all=>j9 hM.net loc st dis all⟩
end
def WholeM(n:Nat)(A B:List Nat)(m:Nat):Prop:=StandM n A B m/\∀j,S9 n A B m j->m.testBit j=true
theorem Qp{n:Nat}{A B:List Nat}{m m' j:Nat}(s:Sub m m')(h:S9 n A B m j):S9 n A B m' j:=⟨h.1,fun b hb=>let⟨k,hk,e⟩:=h.2 b hb;⟨k,s k hk,e⟩⟩
section
variable{P:Program}{w:World}{K:PySem.W.Frag}{mg:Str->Option Value}{base:Heap}
theorem h9:FnScope ["self", "some"] ["self", "some"] (B4 s_Marks_kept):=fsc
def Vf(C:Addr):Sp:=fun vs H Q _=>∃(x c:Addr) (ns:List Str) (A B:List Nat) (L m:Nat),vs = [.ref x,.int (m:Int)]/\MarksAt C H x c ns A B L/\∀(r:Nat) H',Sm [c] H H'->MarksAt C H' x c ns A B L->(∀j,r.testBit j=true↔S9 ns.length A B m j)->Q (.int (r:Int)) H'
theorem Ec(T:Tx K mg):FnOk P w K mg base CX0 4 T.aN.f T.aN.fd ["self", "some"] (Vf T.aa):=by
 have G_Marks_struck_by:=J0 (P:=P) (w:=w) (base:=base) T;have G_Marks_unstruck_by:=G5 (P:=P) (w:=w) (base:=base) T;have sc:=h9;refine T.aN.F.ok h9 (fun vs H Q E h=>?_) (fun cdv A outer s H vs Q E hr h=>?_)
 .obtain⟨x,c,ns,A,B,L,m,rfl,_⟩:=h;rfl
 .obtain⟨x,c,ns,A,B,L,m,rfl,hM,q⟩:=h;obtain⟨dx,a,b,d,kb,e1,_⟩:=hM.ex;refine⟨_,(B2 (C1 (C2 Bz (peF K (pv 0)) (E9 (pv 0) T.ab T.ad.m G_Marks_struck_by (Rm hr) T.ad.b .nil J8 (A8 (E9 (pv 0) T.ab T.ah.m G_Marks_unstruck_by (Rm hr) T.ah.b .nil J8 (A8 (pv 1) B0)) B0))))),?_⟩;refine ex1 rfl ⟨x,T.aa,dx,_,ex1 rfl ⟨e1,T.ab,T.ax,rfl,ex1 rfl ⟨x,dx,ex1 rfl ⟨e1,rfl,ex1 rfl ⟨x,dx,ex1 rfl ⟨e1,rfl,ex1 rfl ⟨x,c,ns,A,B,L,m,rfl,hM,fun r1 H1 k1 M1 h1=>?_⟩⟩⟩⟩⟩⟩⟩;refine⟨x,c,ns,A,B,L,r1,rfl,M1,fun r H2 k2 M2 hr=>?_⟩;obtain⟨z,ez,hz⟩:=Zp (2^ns.length-1) r fun j hj=>by
   obtain⟨k,_,e⟩:=(hr j).mp hj;exact(F0 _ _).mpr (hM.net.lt k j e).2
  refine⟨_,_,rfl,rfl,?_⟩;dsimp only;rw[ez];refine q z H2 (k1.trans k2) M2 fun j=>?_;rw[hz,F0,hr];constructor
  .rintro⟨hj,nh⟩;refine⟨hj,fun b hb=>?_⟩;have e:=(hM.net.tr j b).mp hb;by_cases c:X7 B m b
   .exact c
   .exact absurd ⟨b,(h1 b).mpr ⟨(hM.net.lt b j e).1,c⟩,e⟩ nh
  .rintro⟨hj,h⟩;exact⟨hj,fun⟨k,hk,e⟩=>((h1 k).mp hk).2 (h k ((hM.net.tr j k).mpr e))⟩
theorem T8:FnScope ["marks", "chosen", "barred", "more"] ["marks", "chosen", "barred"] (B4 s_settle_whole):=fsc
set_option maxHeartbeats 2000000 in
theorem T5(T:Tx K mg):FnOk P w K mg base CX0 5 T.aj.f T.aj.fd ["marks", "chosen", "barred"] (O5 T.aa WholeM):=by
 have G_settle_standing:=I0 (P:=P) (w:=w) (base:=base) T;have G_Marks_kept:=Ec (P:=P) (w:=w) (base:=base) T;have sc:=T8;refine T.aj.F.ok T8 (fun vs H Q E h=>?_) (fun cdv A outer s H vs Q E hr h=>?_)
 .obtain⟨x,c,ns,A,B,L,ch,ba,rfl,_⟩:=h;rfl
 .obtain⟨x,c,ns,A,B,L,ch,ba,rfl,hM,loc,lob,q⟩:=h;have net:=hM.net;refine⟨_,(B2 (Dg PassesOwn.never (K2 f7) (B1 (X2 (D0 T.ae G_settle_standing (Rm hr) (A8 (pv 0) (A8 (pv 1) (A8 (pv 2) B0)))) (pgT K (n:=2) (C5 (C3 (i:=1) sc.nd rfl (.inl rfl)) (C5 (C3 (i:=2) sc.nd rfl (.inl rfl)) J1))))
   (B1 (C4 (i:=3) sc.nd rfl (.inl rfl) (C2 Q2 (pv 1) (E9 (pv 0) T.ab T.aN.m G_Marks_kept (Rm hr) T.aN.b .nil J8 (A8 (pv 1) B0))))
   (B1 (G9 (PW.pt (Iu (C6 K6 (pv 3) (pv 1) (D6 _)) (Av (ptV K (C2 J6 (pv 1) (pv 2)))))) (B2 (C1 (O1 (A8 (pv 1) (A8 (pv 2) B0))))) C9)
   (B2 (C4 (i:=1) sc.nd rfl (.inl rfl) (pv 3)))))))),?_⟩
  refine⟨fun k σ G=>∃(c1 b1:Nat) (v3:Option V),σ = [some (.ref x),some (.int (c1:Int)),some (.int (b1:Int)),v3]/\k=2^ns.length-c1/\Low ns.length c1/\Low ns.length b1/\Sub ch c1/\Sub ba b1/\Sm [c] H G/\MarksAt T.aa G x c ns A B L/\∀m,WholeM ns.length A B m->Fits ch ba m->Fits c1 b1 m,⟨_,ch,ba,_,rfl,rfl,loc,lob,fun j h=>h,fun j h=>h,Sm.refl _ _,hM,fun m _ h=>h⟩,?_⟩;rintro k σ G ⟨c1,b1,v3,rfl,rfl,lo1,lo2,sub1,sub2,kG,MG,snd1⟩;refine⟨_,rfl,Mh ⟨fun σ' G'=>∃(c2 b2:Nat) (v3:Option V),σ' = [some (.ref x),some (.int (c2:Int)),some (.int (b2:Int)),v3]/\c1<c2/\Low ns.length c2/\Low ns.length b2/\Sub ch c2/\Sub ba b2/\Sm [c] H G'/\MarksAt T.aa G' x c ns A B L/\∀m,WholeM ns.length A B m->Fits ch ba m->Fits c2 b2 m,?_,?_⟩⟩
  .rintro σ' G' ⟨c2,b2,v3,rfl,lt,lo3,h⟩;have:=lo3.lt;exact⟨2^ns.length-c2,by omega,c2,b2,_,rfl,rfl,lo3,h⟩
  refine B5 fun N1 hN1=>?_;refine ex1 rfl (ex1 rfl (ex1 rfl ⟨x,c,ns,A,B,L,c1,b1,rfl,MG,lo1,lo2,fun t b2 G1 k1 M1 et lo3 sub3 snd2 st=>?_⟩));refine⟨t,_,rfl,SqT.of et,rfl,_,_,rfl,_,_,rfl,rfl,?_⟩;have snd3:∀m,WholeM ns.length A B m->Fits ch ba m->Fits c1 b2 m:=fun m hw hf=>snd2 m hw.1 (snd1 m hw hf);refine hN1 _ _ (B5 fun N2 hN2=>?_);obtain⟨dx,a,b,d,kb,e1,_⟩:=M1.ex;refine ex1 rfl (ex1 rfl ⟨x,dx,ex1 rfl ⟨e1,rfl,ex1 rfl ⟨x,c,ns,A,B,L,c1,rfl,M1,fun r G2 k2 M2 hr=>?_⟩⟩⟩);refine B7 rfl rfl ?_;dsimp only;rw[bor];have k2:=kG.trans (k1.trans k2);generalize hmo:(c1 ||| r)=mo;have hm:∀j,mo.testBit j=true↔c1.testBit j=true\/S9 ns.length A B c1 j:=fun j=>by rw[<-hmo,BO,CC,hr]
  have ret:(mo=c1\/∃j,c1.testBit j=true/\b2.testBit j=true)->∀t' G3,Same G2 G3->G3 t'=some (.tup [.int (c1:Int),.int (b2:Int)])->Q (.ref t') G3:=fun hc t' G3 s3 et'=>by
   refine q t' c1 b2 G3 (k2.trans s3.sm) (M2.same s3) et' lo1 lo3 sub1 (fun j h=>sub3 j (sub2 j h)) snd3 fun dis all=>⟨j9 net lo1 st dis all,fun j hj=>?_⟩;rcases hc with e | ⟨i,h1,h2⟩
   .rw[<-e];exact(hm j).mpr (.inr hj)
   .exact absurd h2 (dis i h1)
  have tup:(mo=c1\/∃j,c1.testBit j=true/\b2.testBit j=true)->Zo (zDc (As (Lq 1) (As (Lq 2) Sh))) { nx:=fun _ H'=>Q .non H',rt:=Q } [some (.ref x),some (.int (c1:Int)),some (.int (b2:Int)),some (.int (mo:Int))] G2:=fun hc =>
   ex1 rfl (ex1 rfl ⟨by show 2<=sizeLine;decide,fun t' ht'=>ret hc t' _ (Same.new ht') upd_same⟩)
  refine hN2 _ _ (B5 fun N3 hN3=>?_);refine ex1 rfl (ex1 rfl ⟨rfl,_,rfl,Q6 (fun eq=>?_) (fun ne=>?_)⟩)
  .exact Mh (tup (.inl (by have:=V.int.inj (BL eq);omega)))
  .refine ex1 rfl (ex1 rfl (B7 rfl rfl ⟨_,rfl,Q6 (fun cm=>?_) (fun cm=>?_)⟩))
   .exact tup (.inr ((V8 c1 b2).mp cm))
   .have ne:mo≠c1:=fun z=>ne (AQ (by rw[z]));have sb:Sub c1 mo:=fun j h=>(hm j).mpr (.inl h);refine hN3 _ _ ?_;refine ex1 rfl ⟨mo,b2,_,rfl,ED (Nat.le_of_testBit sb) (Ne.symm ne),fun j h=>((hm j).mp h).elim (lo1 j) (·.1),lo3,fun j h=>sb j (sub1 j h),fun j h=>sub3 j (sub2 j h),k2,M2,fun m hw hf=>?_⟩;have f1:=snd3 m hw hf;exact⟨fun j h=>((hm j).mp h).elim (f1.1 j) fun y=>hw.2 j (Qp f1.1 y),f1.2⟩
end
def OutM(n:Nat)(A B:List Nat)(m:Nat):Prop:=Low n m/\QuietB B m/\∀j,j<n->m.testBit j=true\/X7 B m j
theorem OutM.stand{n:Nat}{A B:List Nat}(N:Net n A B){m:Nat}(h:OutM n A B m):StandM n A B m:=⟨h.1,h.2.1,fun j hj=>⟨h.1 j hj,fun b hb=>by
 have e:=(N.tr j b).mp hb;exact(h.2.2 b (N.lt b j e).1).resolve_left fun z=>h.2.1 b j z hj e⟩⟩
section
variable{P:Program}{w:World}{K:PySem.W.Frag}{mg:Str->Option Value}{base:Heap}
theorem P0:FnScope ["marks", "chosen", "barred", "more"] ["marks", "chosen", "barred"] (B4 s_settle_outright):=fsc
set_option maxHeartbeats 2000000 in
theorem h8(T:Tx K mg):FnOk P w K mg base CX0 5 T.am.f T.am.fd ["marks", "chosen", "barred"] (O5 T.aa OutM):=by
 have G_settle_standing:=I0 (P:=P) (w:=w) (base:=base) T;have G_Marks_unstruck_by:=G5 (P:=P) (w:=w) (base:=base) T;have sc:=P0;refine T.am.F.ok P0 (fun vs H Q E h=>?_) (fun cdv A outer s H vs Q E hr h=>?_)
 .obtain⟨x,c,ns,A,B,L,ch,ba,rfl,_⟩:=h;rfl
 .obtain⟨x,c,ns,A,B,L,ch,ba,rfl,hM,loc,lob,q⟩:=h;have net:=hM.net;refine⟨_,(B2 (Dg PassesOwn.never (K2 f7) (B1 (X2 (D0 T.ae G_settle_standing (Rm hr) (A8 (pv 0) (A8 (pv 1) (A8 (pv 2) B0)))) (pgT K (n:=2) (C5 (C3 (i:=1) sc.nd rfl (.inl rfl)) (C5 (C3 (i:=2) sc.nd rfl (.inl rfl)) J1))))
   (B1 (C4 (i:=3) sc.nd rfl (.inl rfl) (C2 Q2 (pv 1) (E9 (pv 0) T.ab T.ah.m G_Marks_unstruck_by (Rm hr) T.ah.b .nil J8 (A8 (C2 Bz (peF K (pv 0)) (pv 2)) B0))))
   (B1 (G9 (PW.pt (Iu (C6 K6 (pv 3) (pv 1) (D6 _)) (Av (ptV K (C2 J6 (pv 1) (pv 2)))))) (B2 (C1 (O1 (A8 (pv 1) (A8 (pv 2) B0))))) C9)
   (B2 (C4 (i:=1) sc.nd rfl (.inl rfl) (pv 3)))))))),?_⟩
  refine⟨fun k σ G=>∃(c1 b1:Nat) (v3:Option V),σ = [some (.ref x),some (.int (c1:Int)),some (.int (b1:Int)),v3]/\k=2^ns.length-c1/\Low ns.length c1/\Low ns.length b1/\Sub ch c1/\Sub ba b1/\Sm [c] H G/\MarksAt T.aa G x c ns A B L/\∀m,OutM ns.length A B m->Fits ch ba m->Fits c1 b1 m,⟨_,ch,ba,_,rfl,rfl,loc,lob,fun j h=>h,fun j h=>h,Sm.refl _ _,hM,fun m _ h=>h⟩,?_⟩;rintro k σ G ⟨c1,b1,v3,rfl,rfl,lo1,lo2,sub1,sub2,kG,MG,snd1⟩;refine⟨_,rfl,Mh ⟨fun σ' G'=>∃(c2 b2:Nat) (v3:Option V),σ' = [some (.ref x),some (.int (c2:Int)),some (.int (b2:Int)),v3]/\c1<c2/\Low ns.length c2/\Low ns.length b2/\Sub ch c2/\Sub ba b2/\Sm [c] H G'/\MarksAt T.aa G' x c ns A B L/\∀m,OutM ns.length A B m->Fits ch ba m->Fits c2 b2 m,?_,?_⟩⟩
  .rintro σ' G' ⟨c2,b2,v3,rfl,lt,lo3,h⟩;have:=lo3.lt;exact⟨2^ns.length-c2,by omega,c2,b2,_,rfl,rfl,lo3,h⟩
  refine B5 fun N1 hN1=>?_;refine ex1 rfl (ex1 rfl (ex1 rfl ⟨x,c,ns,A,B,L,c1,b1,rfl,MG,lo1,lo2,fun t b2 G1 k1 M1 et lo3 sub3 snd2 st=>?_⟩));refine⟨t,_,rfl,SqT.of et,rfl,_,_,rfl,_,_,rfl,rfl,?_⟩;have snd3:∀m,OutM ns.length A B m->Fits ch ba m->Fits c1 b2 m:=fun m hw hf=>snd2 m (hw.stand net) (snd1 m hw hf);refine hN1 _ _ (B5 fun N2 hN2=>?_);obtain⟨dx,a,b,d,kb,e1,_⟩:=M1.ex;obtain⟨z,ez,hz⟩:=Zp (2^ns.length-1) b2 fun j hj=>(F0 _ _).mpr (lo3 j hj);refine ex1 rfl (ex1 rfl ⟨x,dx,ex1 rfl ⟨e1,rfl,ex1 rfl ⟨x,T.aa,dx,_,ex1 rfl ⟨e1,T.ab,T.ax,rfl,ex1 rfl (B7 rfl rfl ?_)⟩⟩⟩⟩);dsimp only;rw[ez];refine⟨x,c,ns,A,B,L,z,rfl,M1,fun r G2 k2 M2 hr=>?_⟩;refine B7 rfl rfl ?_;dsimp only;rw[bor];have k2:=kG.trans (k1.trans k2);generalize hmo:(c1 ||| r)=mo;have hm:∀j,mo.testBit j=true↔c1.testBit j=true\/(j<ns.length/\¬X7 B z j):=fun j=>by rw[<-hmo,BO,CC,hr]
  have ret:(mo=c1\/∃j,c1.testBit j=true/\b2.testBit j=true)->∀t' G3,Same G2 G3->G3 t'=some (.tup [.int (c1:Int),.int (b2:Int)])->Q (.ref t') G3:=fun hc t' G3 s3 et'=>by
   refine q t' c1 b2 G3 (k2.trans s3.sm) (M2.same s3) et' lo1 lo3 sub1 (fun j h=>sub3 j (sub2 j h)) snd3 fun dis all=>⟨lo1,(j9 net lo1 st dis all).2.1,fun j hj=>?_⟩;rcases hc with e | ⟨i,h1,h2⟩
   .by_cases hh:X7 B c1 j
    .exact .inr hh
    .refine .inl ?_;rw[<-e];refine(hm j).mpr (.inr ⟨hj,fun⟨k,hk,e'⟩=>hh ⟨k,?_,e'⟩⟩);obtain⟨h1,h2⟩:=(hz k).mp hk;exact(all k ((F0 _ _).mp h1)).resolve_right h2
   .exact absurd h2 (dis i h1)
  have tup:(mo=c1\/∃j,c1.testBit j=true/\b2.testBit j=true)->Zo (zDc (As (Lq 1) (As (Lq 2) Sh))) { nx:=fun _ H'=>Q .non H',rt:=Q } [some (.ref x),some (.int (c1:Int)),some (.int (b2:Int)),some (.int (mo:Int))] G2:=fun hc =>
   ex1 rfl (ex1 rfl ⟨by show 2<=sizeLine;decide,fun t' ht'=>ret hc t' _ (Same.new ht') upd_same⟩)
  refine hN2 _ _ (B5 fun N3 hN3=>?_);refine ex1 rfl (ex1 rfl ⟨rfl,_,rfl,Q6 (fun eq=>?_) (fun ne=>?_)⟩)
  .exact Mh (tup (.inl (by have:=V.int.inj (BL eq);omega)))
  .refine ex1 rfl (ex1 rfl (B7 rfl rfl ⟨_,rfl,Q6 (fun cm=>?_) (fun cm=>?_)⟩))
   .exact tup (.inr ((V8 c1 b2).mp cm))
   .have ne:mo≠c1:=fun z=>ne (AQ (by rw[z]));have sb:Sub c1 mo:=fun j h=>(hm j).mpr (.inl h);refine hN3 _ _ ?_;refine ex1 rfl ⟨mo,b2,_,rfl,ED (Nat.le_of_testBit sb) (Ne.symm ne),fun j h=>((hm j).mp h).elim (lo1 j) (·.1),lo3,fun j h=>sb j (sub1 j h),fun j h=>sub3 j (sub2 j h),k2,M2,fun m hw hf=>?_⟩;have f1:=snd3 m hw hf;refine⟨fun j h=>((hm j).mp h).elim (f1.1 j) fun⟨hj,nh⟩=>?_,f1.2⟩;refine(hw.2.2 j hj).resolve_right fun⟨k,hk,e⟩=>nh ⟨k,(hz k).mpr ⟨(F0 _ _).mpr (hw.1 k hk),f1.2 k hk⟩,e⟩
end
theorem Iq(Z:Nat->Key)(v:Nat->V){N:Nat}(inj:∀i j,i<N->j<N->Z i=Z j->i=j):∀n,n<=N->∀i,i<N->P2 ((List.range n).map fun k=>(Z k,v k)) (Z i)=if i<n then some (v i)else none
 | 0,_,i,_=>rfl
 | n+1,h,i,hi=>by
  have ih:=Iq Z v inj n (by omega) i hi;unfold P2 at ih⊢;rw[DN,AU,List.find?_append];by_cases c:i<n
  .rw[AL c]at ih;rw[AL (by omega)];cases e:(List.find? (fun kv:Key×V=>decide (kv.1=Z i)) ((List.range n).map fun k=>(Z k,v k)))with
   | none=>rw[e]at ih;cases ih
   | some q=>rw[e]at ih;rw[Option.some_or];exact ih
  .rw[AJ c]at ih;cases e:(List.find? (fun kv:Key×V=>decide (kv.1=Z i)) ((List.range n).map fun k=>(Z k,v k)))with
   | some q=>rw[e]at ih;cases ih
   | none =>
    rw[Option.none_or,AX,FI];by_cases c':i=n
    .subst c';rw[AQ rfl,AL (by omega)];rfl
    .rw[AN fun z=>c' (inj n i (by omega) hi z).symm,AJ (by omega)];rfl
theorem Pf(Z:Nat->Key)(v:Nat->V){N:Nat}(inj:∀i j,i<N->j<N->Z i=Z j->i=j){n:Nat}(h:n<N):P5 ((List.range n).map fun k=>(Z k,v k)) (Z n) (v n) =(List.range (n+1)).map fun k=>(Z k,v k):=by
 rw[Ub _ (by rw[Iq Z v inj n (by omega) n h,AJ (by omega)]),DN,AU];rfl
theorem Lm:∀n,(((List.range n).map fun k=>((2^k:Nat):Int)).sum) =((2^n-1:Nat):Int)
 | 0=>rfl
 | n+1=>by
  rw[DN,AU,List.sum_append,Lm n];have:0<2^n:=Nat.pow_pos (by decide);simp only[AX,HB,List.sum_cons,List.sum_nil,Nat.pow_succ];omega
theorem Li(l:List Nat):((l.map fun k=>((2^k:Nat):Int)).sum) =(((l.map fun k=>2^k).sum:Nat):Int):=by
 induction l with
 | nil=>rfl
 | cons a r ih=>rw[AX,List.sum_cons,ih,AX,List.sum_cons];omega
theorem Fu{ns:List Str}{y:Str}(h:y∈ns):ns[ns.idxOf y]?=some y:=by
 rw[AC (List.idxOf_lt_length_of_mem h),List.getElem_idxOf]
def ML(ns:List Str)(g:Str->List Str):List Nat:=ns.map fun n=>((g n).map fun y=>2^ns.idxOf y).sum
theorem Xr{ns:List Str}{g:Str->List Str}{i:Nat}{n:Str}(h:ns[i]?=some n):(ML ns g).getD i 0 =(((g n).map fun y=>ns.idxOf y).map fun k=>2^k).sum:=by
 unfold ML;rw[BG,AH,h,BZ];rfl
theorem zBn{ns:List Str}{g:Str->List Str}{ks:List (Str×Str)}(nd:ns.Nodup)(gn:∀n∈ns,(g n).Nodup)(gm:∀n∈ns,∀y,y∈g n↔(n,y)∈ks)(mem:∀k∈ks,k.1∈ns/\k.2∈ns):MB ns ks (ML ns g):=by
 refine⟨by unfold ML;rw[AB],fun i j=>?_⟩;cases hi:ns[i]? with
 | none =>
  have e:(ML ns g).getD i 0=0:=by unfold ML;rw[BG,AH,hi];rfl
  rw[e,CL];exact⟨fun z=>(by cases z),fun⟨k,_,z,_⟩=>(by cases z)⟩
 | some n =>
  have hn:=BN hi;have nj:((g n).map fun y=>ns.idxOf y).Nodup:=by
   refine CD.mpr (F_ (fun{a b} ha hb ne e=>ne ?_) (gn n hn));have ea:=Fu (mem _ ((gm n hn a).mp ha)).2;have eb:=Fu (mem _ ((gm n hn b).mp hb)).2;rw[e,eb]at ea;exact(BI ea).symm
  rw[Xr hi,Ia nj,AK];constructor
  .rintro⟨y,hy,rfl⟩;have hk:=(gm n hn y).mp hy;exact⟨_,hk,rfl,Fu (mem _ hk).2⟩
  .rintro⟨k,hk,e1,e2⟩;have e1:=BI e1;refine⟨k.2,(gm n hn k.2).mpr (by rw[e1];exact hk),?_⟩;exact V0 nd (Fu (mem _ hk).2) e2
theorem Lx{J:It}{a D:Addr}{ns:List Str}{H:Hp}{Q:St->Hp->Prop}(as:AsSeq J (ns.map V.str) a H){tk tv:TE}{r:St}{v0:Option V}(M:List Nat)(len:ns.length<=1000)(hD:H D=none)
  (hk:∀i n G (R:VK),ns[i]?=some n->Same H G->R (E4 (2^i)) G->tk (some (.str n)::r) G R)
  (hv:∀i n G (R:VK),ns[i]?=some n->Same H G->(∀G',Same G G'->R (E4 (M.getD i 0)) G')->tv (some (.str n)::r) G R)
  (q:∀σ G,Same H G->G D=some (.dK (bK M ns.length))->Q σ G):Cl (S8 0) Ee (Vd D tk tv) J (v0::r) (upd H D (.dK [])) Q:=by
 refine T9 as (fun i σ G=>(∃v,σ=v::r)/\Same H G/\G D=some (.dK (bK M i))) ⟨⟨_,rfl⟩,Same.new hD,upd_same⟩ (fun i σ G _ h=>h.2.1.at a) ?_ ?_
 .rintro i σ G v N hx ⟨⟨v0,rfl⟩,sG,eG⟩ hN;rw[AH]at hx;obtain⟨n,hn,rfl⟩:=CO.mp hx;have li:=(AG.mp hn).1;refine Au (hk i n G _ hn sG (hv i n G _ hn sG fun G' s'=>?_));refine⟨bK M i,.inl ((2^i:Nat):Int),s' _ _ eG,rfl,by unfold bK;rw[AB,B_,sizeLine_eq];omega,hN _ _ ⟨⟨_,rfl⟩,(sG.trans s').upd hD,?_⟩⟩;rw[upd_same];unfold bK;rw[Pf (fun k=>(Sum.inl ((2^k:Nat):Int):Key)) (fun k=>E4 (M.getD k 0)) (N:=i+1) (fun a b _ _ e=>Pu (Sum.inl.inj e)) (GG i)]
 .rintro σ G ⟨_,sG,eG⟩;rw[AB]at eG;exact q σ G sG eG
theorem WebAt.smx{C M:Addr}{H H':Hp}{x w dx:Addr}{ns:List Str}{qs:List PA2}(h:WebAt C H w ns qs)(hx:H x=some (.ins M dx []))(s:Sm [x] H H'):WebAt C H' w ns qs:=by
 obtain⟨ok,dw,a,b,c,d,kc,kd,e1,e2,e3,e4,e5,e6,e7,e8⟩:=h;have k:∀{b:Addr} {o:HO},H b=some o->o≠ .ins M dx []->H' b=some o:=fun e n=>s _ _ e fun z=>n (by rw[AE.mp z,hx]at e;exact(BI e).symm);exact⟨ok,dw,a,b,c,d,kc,kd,k e1 (by unfold wf;intro z;cases z),k e2 (by intro z;cases z),k e3 (by intro z;cases z),fun q hq=>k (e4 q hq) (by intro z;cases z),k e5 (by intro z;cases z),k e6 (by intro z;cases z),fun n hn=>let⟨l,v,e⟩:=e7 n hn;⟨l,v,k e (by intro z;cases z)⟩,fun n hn=>let⟨l,v,e⟩:=e8 n hn;⟨l,v,k e (by intro z;cases z)⟩⟩
theorem Fa{qs:List PA2}{n y:Str}:y∈C0 qs n↔(n,y)∈(qs.map fun q=>q.2).map fun k=>(k.2,k.1):=by
 unfold C0;rw[BZ,AK,AK];constructor
 .rintro⟨q,h,rfl⟩;obtain⟨h1,h2⟩:=BC.mp h;exact⟨q,h1,Prod.ext (BL h2) rfl⟩
 .rintro⟨q,h,e⟩;exact⟨q,BC.mpr ⟨h,AQ (congrArg Prod.fst e)⟩,congrArg Prod.snd e⟩
theorem Jk{qs:List PA2}{n y:Str}:y∈B8 qs n↔(n,y)∈qs.map fun q=>q.2:=by
 unfold B8;rw[AK,AK];constructor
 .rintro⟨q,h,rfl⟩;obtain⟨h1,h2⟩:=BC.mp h;exact⟨q,h1,Prod.ext (BL h2) rfl⟩
 .rintro⟨q,h,e⟩;exact⟨q,BC.mpr ⟨h,AQ (congrArg Prod.fst e)⟩,congrArg Prod.snd e⟩
theorem Hw{qs:List PA2}(h:(qs.map fun q=>q.2).Nodup)(n:Str):(C0 qs n).Nodup:=by
 unfold C0;refine CD.mpr (F_ (fun{a b} ha hb ne e=>ne ?_) ((CD.mp h).sublist DD));exact Prod.ext e ((BL (BC.mp ha).2).trans (BL (BC.mp hb).2).symm)
theorem Rj{qs:List PA2}(h:(qs.map fun q=>q.2).Nodup)(n:Str):(B8 qs n).Nodup:=by
 unfold B8;refine CD.mpr (F_ (fun{a b} ha hb ne e=>ne ?_) ((CD.mp h).sublist DD));exact Prod.ext ((BL (BC.mp ha).2).trans (BL (BC.mp hb).2).symm) e
def kbT(ns:List Str)(i:Nat):List (Key×V):=(List.range i).map fun k=>((Sum.inr (ns.getD k ""):Key),E4 (2^k))
theorem Cp{ns:List Str}{i:Nat}{n:Str}(h:ns[i]?=some n):ns.getD i "" = n:=by rw[BG,h];rfl
theorem Vv{ns:List Str}(nd:ns.Nodup):∀i j,i<ns.length->j<ns.length->(Sum.inr (ns.getD i ""):Key)=Sum.inr (ns.getD j "")->i=j:=fun i j hi hj e=>by
 have e:=Sum.inr.inj e;rw[Cp (AC hi),Cp (AC hj)]at e;exact V0 nd (AC hi) (by rw[AC hj,e])
theorem Kx{ns:List Str}(nd:ns.Nodup){i:Nat}{n:Str}(h:ns[i]?=some n):P2 (kbT ns ns.length) (.inr n)=some (E4 (2^i)):=by
 have hi:=(AG.mp h).1;have:=Iq (fun k=>(Sum.inr (ns.getD k ""):Key)) (fun k=>E4 (2^k)) (Vv nd) ns.length (Nat.le_refl _) i hi;rw[AL hi]at this;rw[Cp h]at this;exact this
section
variable{P:Program}{w:World}{K:PySem.W.Frag}{mg:Str->Option Value}{base:Heap}
theorem Jz{G:Hp}{b l:Addr}{ns ys:List Str}{R:VK}(nd:ns.Nodup)(hb:G b=some (.dK (kbT ns ns.length)))(hl:G l=some (.lst (ys.map V.str)))(hm:∀y∈ys,y∈ns)(len:ys.length<=1000)(hR:∀G',Same G G'->R (.int ((((ys.map fun y=>ns.idxOf y).map fun k=>2^k).sum:Nat):Int)) G') :
  ∀D,G D=none->Cl (S8 0) Ee (De D (zCp (Lq 1) (Lq 0))) (Itl K l) [none,some (.ref b)] (upd G D (.lst [])) fun _ H2=>∃(p:Addr) (zs:List Int),[V.ref D] = [.ref p]/\SqL K H2 p (zs.map V.int)/\R (.int zs.sum) H2:=fun D hD=>by
 refine Dy (fun y=>E4 (2^ns.idxOf y)) (asL (SqL.of hl)) (fun _=>true) (by omega) hD (fun y hy G1 s1 M hM=>hM G1 fun b o e=>e) (fun y hy G1 s1 M hM=>?_) fun σ G1 s1 e1=>?_
 .exact ex1 rfl (ex1 rfl ⟨b,_,rfl,.inl ⟨_,.inr y,.inl (s1 _ _ hb),rfl,(Kx nd (Fu (hm y hy))).symm⟩,hM⟩)
 .rw[GC.mpr fun _ _=>rfl]at e1;refine⟨D,(ys.map fun y=>ns.idxOf y).map fun k=>((2^k:Nat):Int),rfl,SqL.of (by rw[e1,BZ,BZ];rfl),?_⟩;rw[Li];exact hR G1 s1
theorem Q3:FnScope ["self", "web", "bits"] ["self", "web"] (B4 s_Marks___init__):=fsc
def R0(CM CW:Addr):Sp:=fun vs H Q _=>∃(x dx wb:Addr) (ns:List Str) (qs:List PA2),vs = [.ref x,.ref wb]/\H x=some (.ins CM dx [])/\WebAt CW H wb ns qs /\
 ∀(c:Addr) (A B:List Nat) (L:Nat) H',H c=none->Sm [x] H H'->MarksAt CM H' x c ns A B L->MB ns ((qs.map fun q=>q.2).map fun k=>(k.2,k.1)) A->MB ns (qs.map fun q=>q.2) B->Q .non H'
set_option maxHeartbeats 4000000 in
theorem Y5(T:Tx K mg):FnOk P w K mg base CX0 3 T.aV T.aU ["self", "web"] (R0 T.aa T.ac):=by
 have G_Web_all_names:=S6 (P:=P) (w:=w) (base:=base) T;have G_Web_strikers:=Ai (P:=P) (w:=w) (base:=base) T;have G_Web_struck:=b9 (P:=P) (w:=w) (base:=base) T;have sc:=Q3;refine T.br.ok Q3 (fun vs H Q E h=>?_) (fun cdv A outer s H vs Q E hr h=>?_)
 .obtain⟨x,dx,wb,ns,qs,rfl,_⟩:=h;rfl
 .obtain⟨x,dx,wb,ns,qs,rfl,hx,hW,q⟩:=h;have hu:=u7 hr;have okw:=hW.ok;have ln:=okw.len;have nd:=okw.nd;refine⟨_,(B1 (psF K (pv 0) (Ld (pv 1) T.an T.ap.m G_Web_all_names (Rm hr) T.ap.b .nil J8))
   (B1 (C4 (i:=2) sc.nd rfl (.inr rfl) (Pm (N':=["place", "name"]) (cap:=[none,none]) (cl:=[]) (K0 trivial trivial) rfl (piE K T.aE (A8 (peF K (pv 0)) B0)) (fun _ _ _ _=>by exact⟨(pgT K (n:=2) (C5 (pgC 0) (C5 (pgC 1) J1))),E5,(pv 1),(C2 y0 B6 (pv 0))⟩)))
   (B1 (psF K (pv 0) (E6 Xv T.bp Lk (A8 (Op (pv 2)) B0)))
   (B1 (psF K (pv 0) (pv 2))
   (B1 (psF K (pv 0) (Pm (N':=["name", "bits", "web"]) (cap:=[none,some 2,some 1]) (cl:=[("web",_),("bits",_)]) (K0 ⟨⟨rfl,rfl,rfl,rfl⟩,⟨⟨rfl,rfl,rfl,rfl⟩,trivial⟩⟩ ⟨rfl,⟨rfl,trivial⟩⟩) rfl (piL K (peF K (pv 0))) (fun _ _ _ _=>by exact⟨(pgC 0),E5,(J9 hu (pv 1) (pv 0) (fun _ _=>rfl)),(E6 (Qe K) T.bp Lk (A8 (T0 (N':=["one", "bits"]) (cap:=[none,some 1]) (cl:=[("bits",_)]) (K0 ⟨⟨rfl,rfl,rfl,rfl⟩,trivial⟩ ⟨rfl,trivial⟩) rfl (piL K (E9 (pv 2) T.an T.aF.m G_Web_strikers (Rm hr) T.aF.b .nil J8 (A8 (pv 0) B0))) (fun _ _ _ _=>by exact⟨(pgC 0),E5,(J9 hu (pv 1) (pv 0) (fun _ _=>rfl))⟩)) B0))⟩)))
   (B1 (psF K (pv 0) (Pm (N':=["name", "bits", "web"]) (cap:=[none,some 2,some 1]) (cl:=[("web",_),("bits",_)]) (K0 ⟨⟨rfl,rfl,rfl,rfl⟩,⟨⟨rfl,rfl,rfl,rfl⟩,trivial⟩⟩ ⟨rfl,⟨rfl,trivial⟩⟩) rfl (piL K (peF K (pv 0))) (fun _ _ _ _=>by exact⟨(pgC 0),E5,(J9 hu (pv 1) (pv 0) (fun _ _=>rfl)),(E6 (Qe K) T.bp Lk (A8 (T0 (N':=["one", "bits"]) (cap:=[none,some 1]) (cl:=[("bits",_)]) (K0 ⟨⟨rfl,rfl,rfl,rfl⟩,trivial⟩ ⟨rfl,trivial⟩) rfl (piL K (E9 (pv 2) T.an T.ay.m G_Web_struck (Rm hr) T.ay.b .nil J8 (A8 (pv 0) B0))) (fun _ _ _ _=>by exact⟨(pgC 0),E5,(J9 hu (pv 1) (pv 0) (fun _ _=>rfl))⟩)) B0))⟩)))
   (B2 (psF K (pv 0) (E6 (Qe K) T.bp Lk (A8 (T0 (N':=["bit", "self"]) (cap:=[none,some 0]) (cl:=[("self",_)]) (K0 ⟨⟨rfl,rfl,rfl,rfl⟩,trivial⟩ ⟨rfl,trivial⟩) rfl (Zz (Op (pv 2))) (fun _ _ _ _=>by exact⟨(pgC 0),(T7 (ptV K (C2 J6 (pv 0) (J9 hu (peF K (pv 1)) (pv 0) (fun _ _=>rfl))))),(pv 0)⟩)) B0)))))))))),?_⟩
  have nin:∀{b:Addr},b≠x->b∉[x]:=fun h z=>h (AE.mp z);refine B5 fun Z1 hZ1=>?_;obtain⟨_,dw,_,_,_,_,_,_,ew,_⟩:=id hW;refine ex1 rfl ⟨wb,dw,ex1 rfl ⟨ew,rfl,wb,ns,qs,rfl,hW,fun l1 hl1=>?_⟩⟩;have nx1:x≠l1:=A9 hx hl1;refine ex1 rfl ⟨x,T.aa,dx,[],rfl,(B3 nx1).trans hx,T.ab,T.aK,by decide,?_⟩;have k1:Sm [x] H (upd (upd H l1 (.lst (ns.map V.str))) x (.ins T.aa dx (K9 "names" (.ref l1) []))):=(Sm.new (Sm.refl _ _) hl1).upd (by simp);have a1:(upd (upd H l1 (.lst (ns.map V.str))) x (.ins T.aa dx (K9 "names" (.ref l1) []))) l1=some (.lst (ns.map V.str)):=(B3 nx1.symm).trans upd_same;have x1:(upd (upd H l1 (.lst (ns.map V.str))) x (.ins T.aa dx (K9 "names" (.ref l1) []))) x=some (.ins T.aa dx [("names",.ref l1)]):=by rw[upd_same];rfl
  generalize upd (upd H l1 (.lst (ns.map V.str))) x (.ins T.aa dx (K9 "names" (.ref l1) []))=H1 at k1 a1 x1⊢;refine hZ1 _ _ (B5 fun Z2 hZ2=>?_);refine ex1 rfl ⟨x,T.aa,dx,_,ex1 rfl ⟨x1,T.ab,T.aK,rfl,l1,ex1 rfl ⟨SqL.of a1,fun b hb=>?_⟩⟩⟩;refine Bw (n:=ns.length) (fun i σ G=>(∃v0 v1,σ = [v0,v1])/\Same H1 G/\G b=some (.dK (kbT ns i))) ⟨⟨_,_,rfl⟩,Same.new hb,upd_same⟩ ?_ ?_ ?_ ?_
  .rintro i σ G hi ⟨_,sG,_⟩;exact⟨_,_,(sG.at l1).seqL (SqL.of a1),by rw[AH,AC hi];rfl⟩
  .rintro σ G ⟨_,sG,_⟩;exact⟨_,(sG.at l1).seqL (SqL.of a1),by rw[AB]⟩
  .rintro i σ G y H' N hi ⟨⟨v0,v1,rfl⟩,sG,eG⟩ ⟨t,y,rfl,ht,rfl,hy⟩ hN;have hy:=hy _ ((sG.at l1).seqL (SqL.of a1));have hi':ns[i]?=some ns[i]:=AC hi;rw[AH,hi']at hy;cases hy;refine⟨t,ex1 rfl ⟨SqT.of upd_same,rfl,_,ex1 rfl (B7 rfl rfl (Xa ?_))⟩⟩;refine ex1 rfl (ex1 rfl (B7 rfl rfl ⟨⟨by omega,by omega,by decide⟩,?_⟩));dsimp only;rw[Yf];have st:=sG.trans (Same.new (o:=.tup [.int i,.str ns[i]]) ht);refine⟨kbT ns i,.inr ns[i],(B3 (A9 eG ht)).trans eG,rfl,by unfold kbT;rw[AB,B_,sizeLine_eq];omega,hN _ _ ⟨⟨_,_,rfl⟩,st.upd hb,?_⟩⟩;rw[upd_same];have:=Pf (fun k=>(Sum.inr (ns.getD k ""):Key)) (fun k=>E4 (2^k)) (Vv nd) hi;rw[Cp hi']at this;exact congrArg (fun z=>some (HO.dK z)) this
  rintro σ2 H2 ⟨_,s2,b2⟩;have nxb:x≠b:=A9 x1 hb;have x2:=s2 _ _ x1;have a2:=s2 _ _ a1;have k2:=k1.trans s2.sm;refine hZ2 _ _ (B5 fun Z3 hZ3=>?_);refine ex1 rfl ⟨b,_,rfl,b2,fun v hv=>?_⟩;have sv:=Same.new (o:=Jx v b) hv;have fv:(upd H2 v (Jx v b)) v=some (Jx v b):=upd_same;generalize upd H2 v (Jx v b)=H2' at sv fv⊢;refine⟨v,b,kbT ns ns.length,(List.range ns.length).map fun k=>((2^k:Nat):Int),rfl,fv,sv _ _ b2,by unfold kbT;rw[BZ,BZ];rfl,?_⟩;rw[Lm];have x2:=sv _ _ x2;have a2:=sv _ _ a2;have b2:=sv _ _ b2;have k2:=k2.trans sv.sm;refine ex1 rfl ⟨x,T.aa,dx,_,rfl,x2,T.ab,T.ax,by simp,?_⟩;have k3:Sm [x] H2' (upd H2' x (.ins T.aa dx (K9 "full" (.int ((2^ns.length-1:Nat):Int)) [("names",.ref l1)]))):=(Sm.refl _ _).upd (by simp);have x3:(upd H2' x (.ins T.aa dx (K9 "full" (.int ((2^ns.length-1:Nat):Int)) [("names",.ref l1)]))) x=some (.ins T.aa dx [("names",.ref l1),("full",E4 (2^ns.length-1))]):=by rw[upd_same];rfl
  generalize upd H2' x (.ins T.aa dx (K9 "full" (.int ((2^ns.length-1:Nat):Int)) [("names",.ref l1)]))=H3 at k3 x3⊢;have a3:=k3 _ _ a2 (nin nx1.symm);have b3:=k3 _ _ b2 (nin nxb.symm);have k3:=k2.trans k3;refine hZ3 _ _ (B5 fun Z4 hZ4=>?_);refine ex1 rfl (ex1 rfl ⟨x,T.aa,dx,_,rfl,x3,T.ab,T.bm,by simp,?_⟩);have k4:Sm [x] H3 (upd H3 x (.ins T.aa dx (K9 "bit_of" (.ref b) [("names",.ref l1),("full",E4 (2^ns.length-1))]))):=(Sm.refl _ _).upd (by simp);have x4:(upd H3 x (.ins T.aa dx (K9 "bit_of" (.ref b) [("names",.ref l1),("full",E4 (2^ns.length-1))]))) x=some (.ins T.aa dx [("names",.ref l1),("full",E4 (2^ns.length-1)),("bit_of",.ref b)]):=by rw[upd_same];rfl
  generalize upd H3 x (.ins T.aa dx (K9 "bit_of" (.ref b) [("names",.ref l1),("full",E4 (2^ns.length-1))]))=H4 at k4 x4⊢;have a4:=k4 _ _ a3 (nin nx1.symm);have b4:=k4 _ _ b3 (nin nxb.symm);have k4:=k3.trans k4;refine hZ4 _ _ (B5 fun Z5 hZ5=>?_);have mA:=zBn (ns:=ns) (g:=C0 qs) (ks:=(qs.map fun q=>q.2).map fun k=>(k.2,k.1)) nd (fun n _=>Hw okw.ndq n) (fun n _ y=>Fa) fun k hk=>by
   rw[BZ]at hk;obtain⟨q,hq,rfl⟩:=AK.mp hk;exact⟨(okw.mem q hq).2,(okw.mem q hq).1⟩
  have mB:=zBn (ns:=ns) (g:=B8 qs) (ks:=qs.map fun q=>q.2) nd (fun n _=>Rj okw.ndq n) (fun n _ y=>Jk) fun k hk=>by
   obtain⟨q,hq,rfl⟩:=AK.mp hk;exact okw.mem q hq
  have net:Net ns.length (ML ns (C0 qs)) (ML ns (B8 qs)):=MB.net mA mB;have W4:=hW.smx hx k4;have ins1:∀{n:Str} (y:Str),y∈C0 qs n->y∈ns:=fun y hy=>by
   obtain⟨q,hq,rfl⟩:=AK.mp hy;exact(okw.mem q (BC.mp hq).1).1
  have ins2:∀{n:Str} (y:Str),y∈B8 qs n->y∈ns:=fun y hy=>by
   obtain⟨q,hq,rfl⟩:=AK.mp hy;exact(okw.mem q (BC.mp hq).1).2
  have lq:=okw.lenq;have len1:∀n,(C0 qs n).length<=1000:=fun n=>by unfold C0;rw[AB];have:=CB (fun q:PA2=>decide (q.2.2=n)) qs;omega
  have len2:∀n,(B8 qs n).length<=1000:=fun n=>by unfold B8;rw[AB];have:=CB (fun q:PA2=>decide (q.2.1=n)) qs;omega
  refine ex1 rfl ⟨x,T.aa,dx,_,ex1 rfl ⟨x4,T.ab,T.aK,rfl,l1,rfl,⟨_,SqL.of a4⟩,fun c hc=>?_⟩⟩;refine Lx (asL (SqL.of a4)) (ML ns (C0 qs)) (by omega) hc (fun i n G R hn sG hR=>?_) (fun i n G R hn sG hR=>?_) fun σ5 H5 s5 c5=>?_
  .exact ex1 rfl (ex1 rfl ⟨b,_,rfl,.inl ⟨_,.inr n,.inl (sG _ _ b4),rfl,(Kx nd hn).symm⟩,hR⟩)
  .have WG:=W4.same sG;obtain⟨_,dw,_,_,_,_,_,_,ew,_⟩:=id WG;refine ex1 rfl ⟨wb,dw,ex1 rfl ⟨ew,rfl,ex1 rfl ⟨wb,n,ns,qs,rfl,WG,BN hn,fun l hl=>?_⟩⟩⟩;have ul:=Same.new (o:=.lst ((C0 qs n).map V.str)) hl;refine⟨l,rfl,⟨_,SqL.of upd_same⟩,Jz nd (ul _ _ (sG _ _ b4)) upd_same (fun y hy=>ins1 y hy) (len1 n) fun G' s'=>?_⟩;have:=hR G' (ul.trans s');rw[Xr hn]at this;exact this
  generalize ML ns (C0 qs)=A at mA net c5;have hc0:H c=none:=k4.none (nin (A9 x4 hc).symm) hc;have nxc:x≠c:=A9 x4 hc;have x5:=s5 _ _ x4;have a5:=s5 _ _ a4;have b5:=s5 _ _ b4;have bc:b≠c:=A9 b4 hc;have k5:=k4.trans s5.sm;refine ex1 rfl ⟨x,T.aa,dx,_,rfl,x5,T.ab,T.aB,by simp,?_⟩;have k6:Sm [x] H5 (upd H5 x (.ins T.aa dx (K9 "strikers_of" (.ref c) [("names",.ref l1),("full",E4 (2^ns.length-1)),("bit_of",.ref b)]))):=(Sm.refl _ _).upd (by simp);have x6:(upd H5 x (.ins T.aa dx (K9 "strikers_of" (.ref c) [("names",.ref l1),("full",E4 (2^ns.length-1)),("bit_of",.ref b)]))) x=some (.ins T.aa dx [("names",.ref l1),("full",E4 (2^ns.length-1)),("bit_of",.ref b),("strikers_of",.ref c)]):=by rw[upd_same];rfl
  generalize upd H5 x (.ins T.aa dx (K9 "strikers_of" (.ref c) [("names",.ref l1),("full",E4 (2^ns.length-1)),("bit_of",.ref b)]))=H6 at k6 x6⊢;have a6:=k6 _ _ a5 (nin nx1.symm);have b6:=k6 _ _ b5 (nin nxb.symm);have c6:=k6 _ _ c5 (nin nxc.symm);have k6:=k5.trans k6;have W6:=hW.smx hx k6;refine hZ5 _ _ (B5 fun Z6 hZ6=>?_);refine ex1 rfl ⟨x,T.aa,dx,_,ex1 rfl ⟨x6,T.ab,T.aK,rfl,l1,rfl,⟨_,SqL.of a6⟩,fun d hd=>?_⟩⟩;refine Lx (asL (SqL.of a6)) (ML ns (B8 qs)) (by omega) hd (fun i n G R hn sG hR=>?_) (fun i n G R hn sG hR=>?_) fun σ7 H7 s7 d7=>?_
  .exact ex1 rfl (ex1 rfl ⟨b,_,rfl,.inl ⟨_,.inr n,.inl (sG _ _ b6),rfl,(Kx nd hn).symm⟩,hR⟩)
  .have WG:=W6.same sG;obtain⟨_,dw,_,_,_,_,_,_,ew,_⟩:=id WG;refine ex1 rfl ⟨wb,dw,ex1 rfl ⟨ew,rfl,ex1 rfl ⟨wb,n,ns,qs,rfl,WG,BN hn,fun l hl=>?_⟩⟩⟩;have ul:=Same.new (o:=.lst ((B8 qs n).map V.str)) hl;refine⟨l,rfl,⟨_,SqL.of upd_same⟩,Jz nd (ul _ _ (sG _ _ b6)) upd_same (fun y hy=>ins2 y hy) (len2 n) fun G' s'=>?_⟩;have:=hR G' (ul.trans s');rw[Xr hn]at this;exact this
  generalize ML ns (B8 qs)=B at mB net d7;have nxd:x≠d:=A9 x6 hd;have x7:=s7 _ _ x6;have a7:=s7 _ _ a6;have b7:=s7 _ _ b6;have c7:=s7 _ _ c6;have dc:d≠c:=(A9 c6 hd).symm;have k7:=k6.trans s7.sm;refine ex1 rfl ⟨x,T.aa,dx,_,rfl,x7,T.ab,T.bf,by simp,?_⟩;have k8:Sm [x] H7 (upd H7 x (.ins T.aa dx (K9 "struck_of" (.ref d) [("names",.ref l1),("full",E4 (2^ns.length-1)),("bit_of",.ref b),("strikers_of",.ref c)]))):=(Sm.refl _ _).upd (by simp);have x8:(upd H7 x (.ins T.aa dx (K9 "struck_of" (.ref d) [("names",.ref l1),("full",E4 (2^ns.length-1)),("bit_of",.ref b),("strikers_of",.ref c)]))) x=some (.ins T.aa dx [("names",.ref l1),("full",E4 (2^ns.length-1)),("bit_of",.ref b),("strikers_of",.ref c),("struck_of",.ref d)]):=by rw[upd_same];rfl
  generalize upd H7 x (.ins T.aa dx (K9 "struck_of" (.ref d) [("names",.ref l1),("full",E4 (2^ns.length-1)),("bit_of",.ref b),("strikers_of",.ref c)]))=H8 at k8 x8⊢;have a8:=k8 _ _ a7 (nin nx1.symm);have b8:=k8 _ _ b7 (nin nxb.symm);have c8:=k8 _ _ c7 (nin nxc.symm);have d8:=k8 _ _ d7 (nin nxd.symm);have k8:=k7.trans k8;refine hZ6 _ _ ?_;refine ex1 rfl ⟨b,_,rfl,b8,fun v hv=>?_⟩;have sv:=Same.new (o:=Jx v b) hv;have fv:(upd H8 v (Jx v b)) v=some (Jx v b):=upd_same;generalize upd H8 v (Jx v b)=H9 at sv fv⊢;refine⟨v,b,_,rfl,fv,sv _ _ b8,fun o D hD=>?_⟩;have nDb:D≠b:=fun z=>by rw[z,upd_same]at hD;cases hD
  have kz:Sm [b] H9 (upd H9 b (.frz o (.dK (kbT ns ns.length)))):=(Sm.refl _ _).upd (by simp);have fz:(upd H9 b (.frz o (.dK (kbT ns ns.length)))) b=some (.frz o (.dK (kbT ns ns.length))):=upd_same;have hb0:H b=none:=k1.none (nin nxb.symm) hb;have kx:Sm [x] H (upd H9 b (.frz o (.dK (kbT ns ns.length)))):=(k8.trans sv.sm).updN hb0;have nb:∀{b':Addr},b'≠b->b'∉[b]:=fun h z=>h (AE.mp z);have nab:l1≠b:=A9 a1 hb;have x9:=kz _ _ (sv _ _ x8) (nb nxb);have a9:=kz _ _ (sv _ _ a8) (nb nab);have c9:=kz _ _ (sv _ _ c8) (nb bc.symm);have nbd:d≠b:=(A9 b6 hd).symm;have d9:=kz _ _ (sv _ _ d8) (nb nbd);generalize upd H9 b (.frz o (.dK (kbT ns ns.length)))=H10 at kz fz kx hD x9 a9 c9 d9⊢;have lb:(kbT ns ns.length).length=ns.length:=by unfold kbT;rw[AB,B_]
  refine Bw (n:=ns.length) (fun i σ G=>(∃v0,σ = [v0,some (.ref x)])/\Same H10 G/\G D=some (.lst (((List.range i).filter fun k=>(A.getD k 0).testBit k).map fun k=>E4 (2^k)))) ⟨⟨_,rfl⟩,Same.new hD,upd_same⟩ ?_ ?_ ?_ ?_
  .rintro i σ G hi ⟨_,sG,_⟩;exact⟨sG _ _ fz,by rw[lb];exact hi⟩
  .rintro σ G ⟨_,sG,_⟩;exact⟨sG _ _ fz,by rw[lb];exact Nat.le_refl _⟩
  .rintro i σ G y H' N hi ⟨⟨v0,rfl⟩,sG,eG⟩ ⟨rfl,k,hk⟩ hN;unfold kbT at hk;rw[AH,List.getElem?_range hi]at hk;obtain⟨_,rfl⟩:=Prod.mk.inj (BI hk);refine ex1 rfl (ex1 rfl ⟨x,T.aa,dx,_,ex1 rfl ⟨sG _ _ x9,T.ab,T.aB,rfl,ex1 rfl ⟨c,_,rfl,.inl ⟨_,.inl ((2^i:Nat):Int),.inl (sG _ _ c9),rfl,(Jy A hi).symm⟩,B7 rfl rfl ⟨_,rfl,?_⟩⟩⟩⟩);dsimp only;rw[Ht];have hl:=CB (fun k=>(A.getD k 0).testBit k) (List.range i);rw[B_]at hl;refine Q6 (fun z=>ex1 rfl ⟨_,eG,by rw[AB,sizeLine_eq];omega,hN _ _ ⟨⟨_,rfl⟩,sG.upd hD,?_⟩⟩) (fun z=>hN _ _ ⟨⟨_,rfl⟩,sG,?_⟩)
   .rw[upd_same,DN,EU,DR,AL z,AU];rfl
   .rw[DN,EU,DR,AJ z,HS,CJ];exact eG
  rintro σ11 H11 ⟨_,s11,e11⟩;generalize hLl:(List.range ns.length).filter (fun k=>(A.getD k 0).testBit k)=Ll at e11;refine⟨D,Ll.map fun k=>((2^k:Nat):Int),rfl,SqL.of (by rw[e11,BZ];rfl),?_⟩;rw[Li];have hL:∀j,((Ll.map fun k=>2^k).sum).testBit j=true↔(A.getD j 0).testBit j=true:=fun j=>by
   rw[Ia (by rw[<-hLl];exact DD.nodup IG),<-hLl,BC,CI];exact⟨(·.2),fun h=>⟨(net.lt j j ((net.tr j j).mp h)).1,h⟩⟩
  generalize (Ll.map fun k=>2^k).sum=L at hL;have x11:=s11 _ _ x9;refine ex1 rfl ⟨x,T.aa,dx,_,rfl,x11,T.ab,T.ba,by simp,?_⟩;have k12:Sm [x] H11 (upd H11 x (.ins T.aa dx (K9 "loops" (.int (L:Int)) [("names",.ref l1),("full",E4 (2^ns.length-1)),("bit_of",.ref b),("strikers_of",.ref c),("struck_of",.ref d)]))):=(Sm.refl _ _).upd (by simp);have x12:(upd H11 x (.ins T.aa dx (K9 "loops" (.int (L:Int)) [("names",.ref l1),("full",E4 (2^ns.length-1)),("bit_of",.ref b),("strikers_of",.ref c),("struck_of",.ref d)]))) x=some (.ins T.aa dx (mf l1 b c d ns.length L)):=by rw[upd_same];rfl
  generalize upd H11 x (.ins T.aa dx (K9 "loops" (.int (L:Int)) [("names",.ref l1),("full",E4 (2^ns.length-1)),("bit_of",.ref b),("strikers_of",.ref c),("struck_of",.ref d)]))=H12 at k12 x12⊢;refine q c A B L H12 hc0 ((kx.trans s11.sm).trans k12) ⟨⟨dx,l1,b,d,kbT ns ns.length,x12,k12 _ _ (s11 _ _ a9) (nin nx1.symm),.inr ⟨o,k12 _ _ (s11 _ _ fz) (nin nxb.symm)⟩,fun i n h=>Kx nd h,.inl (k12 _ _ (s11 _ _ c9) (nin nxc.symm)),k12 _ _ (s11 _ _ d9) (nin nxd.symm),dc,bc⟩,net,nd,ln,hL⟩ mA mB
end
structure LLn(H0 H:Hp)(ts:List (Addr×List Str)):Prop where
 at_:∀t∈ts,H t.1=some (.lst (t.2.map V.str))
 nd:(ts.map fun t=>t.1).Nodup
 new:∀t∈ts,H0 t.1=none
theorem Ek{J:It}{l D:Addr}{H:Hp}{ns:List Str}{Ms:List Nat}{r:St}{v0:Option V}{te:TE}{Q:St->Hp->Prop}(as:AsSeq J (Ms.map E4) l H)(len:Ms.length<=5000)(hD:H D=none)
  (step:∀m G (R:VK),Same H G->(∀z G',G z=none->Same G G'->G' z=some (.lst ((setOf ns m).map V.str))->R (.ref z) G')->te (some (E4 m)::r) G R)
  (q:∀σ G (ts:List (Addr×List Str)),Same H G->G D=some (.lst (ts.map fun t=>V.ref t.1))->LLn H G ts->(∀t∈ts,t.1≠D)->(ts.map fun t=>t.2)=Ms.map (setOf ns)->Q σ G):Cl (S8 0) Ee (De D te) J (v0::r) (upd H D (.lst [])) Q:=by
 refine T9 as (fun i σ G=>(∃v,σ=v::r)/\Same H G/\∃ts:List (Addr×List Str),G D=some (.lst (ts.map fun t=>V.ref t.1))/\LLn H G ts/\(∀t∈ts,t.1≠D)/\(ts.map fun t=>t.2) =(Ms.take i).map (setOf ns)) ⟨⟨_,rfl⟩,Same.new hD,[],upd_same,⟨fun t h=>absurd h BV,IA,fun t h=>absurd h BV⟩,fun t h=>absurd h BV,rfl⟩ (fun i σ G _ h=>h.2.1.at l) ?_ ?_
 .rintro i σ G y N hx ⟨⟨v0,rfl⟩,sG,ts,eG,LG,nG,mG⟩ hN;rw[AH]at hx;obtain⟨m,hm,rfl⟩:=CO.mp hx;have li:=(AG.mp hm).1;have lt:ts.length=i:=by
   have:=congrArg List.length mG;rw[AB,AB,AW]at this;omega
  refine Au (step m G _ sG fun z G' hz s' ez=>?_);have nz:z≠D:=(A9 eG hz).symm;refine⟨_,s' _ _ eG,by rw[AB,sizeLine_eq];omega,hN _ _ ⟨⟨_,rfl⟩,(sG.trans s').upd hD,ts ++ [(z,setOf ns m)],?_,⟨fun t ht=>?_,?_,fun t ht=>?_⟩,fun t ht=>?_,?_⟩⟩
  .rw[upd_same,AU];rfl
  .rcases AR.mp ht with h | h
   .rw[B3 (nG t h)];exact s' _ _ (LG.at_ t h)
   .rw[AE.mp h,B3 nz];exact ez
  .rw[AU];refine FY.mpr ⟨LG.nd,DK _ _,fun a ha b hb e=>?_⟩;obtain⟨t,ht,rfl⟩:=AK.mp ha;rw[GP,AE]at hb;rw[hb]at e;have:=LG.at_ t ht;rw[e,hz]at this;cases this
  .rcases AR.mp ht with h | h
   .exact LG.new t h
   .rw[AE.mp h];exact sG.free hz
  .rcases AR.mp ht with h | h
   .exact nG t h
   .rw[AE.mp h];exact nz
  .rw[AU,mG,take_succ hm,AU];rfl
 .rintro σ G ⟨_,sG,ts,eG,LG,nG,mG⟩;rw[AB,CS]at mG;exact q σ G ts sG eG LG nG mG
section
variable{P:Program}{w:World}{K:PySem.W.Frag}{mg:Str->Option Value}{base:Heap}
def w4(CW CT f:Addr)(Tg:Tgt):Sp:=fun vs H Q E=>∃(wb:Addr) (ns:List Str) (qs:List PA2),vs = [.ref wb,.ref f,.bl false]/\WebAt CW H wb ns qs/\ns.length<=10 /\
 ∀(A B Ms:List Nat),MB ns ((qs.map fun q=>q.2).map fun k=>(k.2,k.1)) A->MB ns (qs.map fun q=>q.2) B->Ms.Nodup->(∀m,m∈Ms↔Tg ns.length A B m) ->
  (∀r (ts:List (Addr×List Str)) H',Ms.length<=300->Same H H'->H r=none->H' r=some (.lst (ts.map fun t=>V.ref t.1))->LLn H H' ts->(∀t∈ts,t.1≠r)->(ts.map fun t=>t.2).Perm (Ms.map (setOf ns))->ts.Pairwise (fun a b=>TS.lexB (TS.kyS b.2) (TS.kyS a.2)=false)->Q (.ref r) H')/\(300<Ms.length->ThrownS CT [] H E)
theorem O8:FnScope ["web", "settle", "greatest", "marks", "found"] ["web", "settle", "greatest"] (B4 s_all_found):=fsc
set_option maxHeartbeats 4000000 in
theorem T4(T:Tx K mg){f:Addr}{Tg:Tgt}(tl:∀n A B m,Tg n A B m->Low n m)(tq:∀n A B m,Tg n A B m->QuietB B m){g:Nat}(hg:3<=g)(G_gather:FnOk P w K mg base (CXe P w) (g+1) T.ai.f T.ai.fd ["marks", "settle", "greatest", "chosen", "barred", "found"] (Z0 T.aa T.ak f Tg 10)) :
  FnOk P w K mg base (CXe P w) (g+2) T.ag.f T.ag.fd ["web", "settle", "greatest"] (w4 T.ac T.ak f Tg):=by
 have G_Marks___init__:FnOk P w K mg base CX0 g T.aV T.aU ["self", "web"] (R0 T.aa T.ac):=(Y5 T).mono hg;have G_Marks_names_in:FnOk P w K mg base CX0 (g+1) T.af.f T.af.fd ["self", "some"] (Y1 T.aa):=(Q5 T).mono (by omega);have sc:=O8;refine T.ag.F.okE O8 (fun vs H Q E h=>?_) (fun cdv A outer s H vs Q E hr h=>?_)
 .obtain⟨wb,ns,qs,rfl,_⟩:=h;rfl
 .obtain⟨wb,ns,qs,rfl,hW,ln,q⟩:=h;refine⟨_,(B1 (C4 (i:=3) sc.nd rfl (.inr rfl) (Em T.bu G_Marks___init__ (hr.mono (Nat.le_refl _)) rfl T.bt T.bh .nil J8 (A8 (pv 0) B0)))
   (B1 (C4 (i:=4) sc.nd rfl (.inl rfl) (J5 B0))
   (B1 (C7 (U4 cxE.bx T.ai G_gather (hr.mono (Nat.le_refl _)) (@A8 _ _ _ _ _ (pv 3) (@A8 _ _ _ _ _ (pv 1) (@A8 _ _ _ _ _ (pv 2) (@A8 _ _ _ _ _ B6 (@A8 _ _ _ _ _ (peF K (pv 3)) (@A8 _ _ _ _ _ (pv 4) B0 (by rfl)) (by rfl)) (by rfl)) (by rfl)) (by rfl)) (by rfl))))
   (B2 (C1 (E6 (Db K hr.units) T.aC J3 (A8 (T0 (N':=["some", "marks"]) (cap:=[none,some 3]) (cl:=[("marks",_)]) (K0 ⟨⟨rfl,rfl,rfl,rfl⟩,trivial⟩ ⟨rfl,trivial⟩) rfl (piL K (pv 4)) (fun _ _ _ _=>by exact⟨(pgC 0),E5,(E9 (pv 1) T.ab T.af.m G_Marks_names_in (hr.mono (Nat.le_refl _)) T.af.b .nil J8 (A8 (pv 0) B0))⟩)) B0))))))),?_⟩
  refine B5 fun N1 hN1=>?_;refine ex1 rfl ?_;intro x dx nx ndx nex;have s0:Same H (upd (upd H dx (.own x)) x (.ins T.aa dx [])):=fun b o e=>by
   rw[B3 (A9 e nx),B3 (A9 e ndx)];exact e
  refine⟨x,dx,wb,ns,qs,rfl,upd_same,hW.same s0,fun c A B L H1 hc k1 M1 mA mB=>⟨rfl,?_⟩⟩;have s1:Same H H1:=fun b o e=>k1 b o (s0 b o e) (by simpa using A9 e nx);have hcn:H c=none:=s0.free hc;refine hN1 _ _ (B5 fun N2 hN2=>?_);refine⟨CH _,fun l hl=>?_⟩;have ul:=Same.new (o:=.lst []) hl;have fl:(upd H1 l (.lst [])) l=some (.lst (([]:List Nat).map E4)):=upd_same;have hln:H l=none:=s1.free hl;have R2:MarksAt T.aa (er (upd H1 l (.lst [])) l) x c ns A B L:=M1.same fun b o e=>by
   have:b≠l:=A9 e hl;rw[Bk this,B3 this];exact e
  generalize upd H1 l (.lst [])=H2 at ul fl R2⊢;have s2:=s1.trans ul;have M2:=R2.same (X8 H2 l);obtain⟨Ms,ndM,mM⟩:=Jf (n:=ns.length) (fun m=>Tg ns.length A B m) fun m h=>tl _ _ _ _ h;obtain⟨q1,q2⟩:=q A B Ms mA mB ndM mM;have fitz:∀m,Tg ns.length A B m/\Fits 0 L m↔Tg ns.length A B m:=fun m=>⟨(·.1),fun h=>⟨h,fun j z=>(by rw[CL]at z;cases z),fun j z y=>tq _ _ _ _ h j j z z ((M2.net.tr j j).mp ((M2.loops j).mp y))⟩⟩;refine hN2 _ _ (B5 fun N3 hN3=>?_);obtain⟨dx',a,b,d,kb,e1,_⟩:=M2.ex;refine ex1 rfl (ex1 rfl (ex1 rfl (ex1 rfl ⟨x,T.aa,dx',_,ex1 rfl ⟨e1,T.ab,T.ba,rfl,ex1 rfl ⟨x,c,l,ns,A,B,L,0,L,[],rfl,R2,Low.zero _,fun j hj=>(M2.net.lt j j ((M2.net.tr j j).mp ((M2.loops j).mp hj))).1,Nat.le_trans List.countP_le_length (by rw[B_];exact ln),fl,by decide,fun Ls ndL mL=>⟨fun H3 le3 k3 R3 el3=>?_,fun gt=>?_⟩⟩⟩⟩)))
  .have pm:Ls.Perm Ms:=(EN ndL ndM).mpr fun m=>by rw[mL,mM,fitz]
   rw[GR]at el3;rw[FU,EK]at le3;have M3:=R3.same (X8 H3 l);have s3:Same H H3:=fun b o e=>k3 b o (s2 b o e) (by
    intro z;rcases BD.mp z with rfl | z
    .rw[hcn]at e;cases e
    .rw[AE.mp z,hln]at e;cases e)
   refine hN3 _ _ ?_;refine ex1 rfl ⟨l,rfl,⟨_,SqL.of el3⟩,fun D hD=>?_⟩;refine Ek (ns:=ns) (asL (SqL.of el3)) (by omega) hD (fun m G R sG hR=>?_) fun σ' G ts sG eG LG nG mG=>?_
   .have MG:=M3.same sG;obtain⟨dx',a,b,d,kb,e1,_⟩:=MG.ex;exact ex1 rfl ⟨x,dx',ex1 rfl ⟨e1,rfl,ex1 rfl ⟨x,c,ns,A,B,L,m,rfl,MG,fun z G' hz s' ez=>hR z G' hz s' ez⟩⟩⟩
   .refine⟨D,ts,rfl,SqL.of eG,LG.at_,fun r ts' hr0 pt srt=>?_⟩;have ur:=Same.new (o:=.lst (ts'.map fun t=>V.ref t.1)) hr0;have hrn:H r=none:=(s3.trans sG).free hr0;refine q1 r ts' _ (by rw[<-pm.length_eq];exact le3) ((s3.trans sG).trans ur) hrn upd_same ⟨fun t ht=>ur _ _ (LG.at_ t (pt.mem_iff.mp ht)),(pt.map _).nodup_iff.mpr LG.nd,fun t ht=>s3.free (LG.new t (pt.mem_iff.mp ht))⟩ (fun t ht=>A9 (LG.at_ t (pt.mem_iff.mp ht)) hr0) ?_ srt;refine(pt.map fun t=>t.2).trans ?_;rw[mG];exact pm.map _
  .rw[FU,EK]at gt;have pm:Ls.Perm Ms:=(EN ndL ndM).mpr fun m=>by rw[mL,mM,fitz]
   have:=q2 (by rw[<-pm.length_eq];exact gt);intro H' z k e;refine this H' z (fun b o eb _=>k b o (s2 b o eb) fun y=>?_) e;rcases BD.mp y with rfl | y
   .rw[hcn]at eb;cases eb
   .rw[AE.mp y,hln]at eb;cases eb
def Ig(CW CT:Addr)(Tg:Tgt):Sp:=fun vs H Q E=>∃(wb:Addr) (ns:List Str) (qs:List PA2),vs = [.ref wb]/\WebAt CW H wb ns qs/\ns.length<=10 /\
 ∀(A B Ms:List Nat),MB ns ((qs.map fun q=>q.2).map fun k=>(k.2,k.1)) A->MB ns (qs.map fun q=>q.2) B->Ms.Nodup->(∀m,m∈Ms↔Tg ns.length A B m) ->
  (∀r (ts:List (Addr×List Str)) H',Ms.length<=300->Same H H'->H r=none->H' r=some (.lst (ts.map fun t=>V.ref t.1))->LLn H H' ts->(∀t∈ts,t.1≠r)->(ts.map fun t=>t.2).Perm (Ms.map (setOf ns))->ts.Pairwise (fun a b=>TS.lexB (TS.kyS b.2) (TS.kyS a.2)=false)->Q (.ref r) H')/\(300<Ms.length->ThrownS CT [] H E)
theorem i5:FnScope ["web"] ["web"] (B4 s_whole_sets):=fsc
theorem i7(T:Tx K mg):FnOk P w K mg base (CXe P w) 18 T.aD.f T.aD.fd ["web"] (Ig T.ac T.ak WholeM):=by
 have G_all_found:FnOk P w K mg base (CXe P w) 17 T.ag.f T.ag.fd ["web", "settle", "greatest"] (w4 T.ac T.ak T.aj.f WholeM) :=
  T4 T (fun _ _ _ _ h=>h.1.1) (fun _ _ _ _ h=>h.1.2.1) (g:=15) (by decide) (g9 T (fun _ _ _ _ h=>h.1.1) (T5 T) T.aj.F.kp T.aj.b (by decide) 10)
 have sc:=i5;refine T.aD.F.okE i5 (fun vs H Q E h=>?_) (fun cdv A outer s H vs Q E hr h=>?_)
 .obtain⟨wb,ns,qs,rfl,_⟩:=h;rfl
 .obtain⟨wb,ns,qs,rfl,hW,ln,q⟩:=h;refine⟨_,(B2 (C1 (U4 cxE.bx T.ag G_all_found (Rm hr) (A8 (pv 0) (A8 (Sz T.aj.m) (A8 f7 B0)))))),?_⟩;exact ex1 rfl ⟨wb,ns,qs,rfl,hW,ln,q⟩
theorem S7:FnScope ["web"] ["web"] (B4 s_standing_sets):=fsc
theorem u8(T:Tx K mg):FnOk P w K mg base (CXe P w) 18 T.au.f T.au.fd ["web"] (Ig T.ac T.ak StandM):=by
 have G_all_found:FnOk P w K mg base (CXe P w) 17 T.ag.f T.ag.fd ["web", "settle", "greatest"] (w4 T.ac T.ak T.ae.f StandM) :=
  T4 T (fun _ _ _ _ h=>h.1) (fun _ _ _ _ h=>h.2.1) (g:=15) (by decide) ((g9 T (fun _ _ _ _ h=>h.1) (Fv T) T.ae.F.kp T.ae.b (by decide) 10).mono (by decide))
 have sc:=S7;refine T.au.F.okE S7 (fun vs H Q E h=>?_) (fun cdv A outer s H vs Q E hr h=>?_)
 .obtain⟨wb,ns,qs,rfl,_⟩:=h;rfl
 .obtain⟨wb,ns,qs,rfl,hW,ln,q⟩:=h;refine⟨_,(B2 (C1 (U4 cxE.bx T.ag G_all_found (Rm hr) (A8 (pv 0) (A8 (Sz T.ae.m) (A8 f7 B0)))))),?_⟩;exact ex1 rfl ⟨wb,ns,qs,rfl,hW,ln,q⟩
theorem S3:FnScope ["web"] ["web"] (B4 s_outright_sets):=fsc
theorem u9(T:Tx K mg):FnOk P w K mg base (CXe P w) 18 T.aw.f T.aw.fd ["web"] (Ig T.ac T.ak OutM):=by
 have G_all_found:FnOk P w K mg base (CXe P w) 17 T.ag.f T.ag.fd ["web", "settle", "greatest"] (w4 T.ac T.ak T.am.f OutM) :=
  T4 T (fun _ _ _ _ h=>h.1) (fun _ _ _ _ h=>h.2.1) (g:=15) (by decide) (g9 T (fun _ _ _ _ h=>h.1) (h8 T) T.am.F.kp T.am.b (by decide) 10)
 have sc:=S3;refine T.aw.F.okE S3 (fun vs H Q E h=>?_) (fun cdv A outer s H vs Q E hr h=>?_)
 .obtain⟨wb,ns,qs,rfl,_⟩:=h;rfl
 .obtain⟨wb,ns,qs,rfl,hW,ln,q⟩:=h;refine⟨_,(B2 (C1 (U4 cxE.bx T.ag G_all_found (Rm hr) (A8 (pv 0) (A8 (Sz T.am.m) (A8 f7 B0)))))),?_⟩;exact ex1 rfl ⟨wb,ns,qs,rfl,hW,ln,q⟩
def Fw(f:List Str->List Nat->List Nat->Nat->Prop):Sp:=fun vs H Q _=>∃(p v:Addr) (m:Nat) (ns:List Str) (ks:List (Str×Str)) (A B:List Nat),vs = [.ref v,.int (m:Int)]/\ViewAt H p v ns ks A B/\ns.length<=100 /\
 ∀b:Bool,(b=true↔f ns A B m)->Q (.bl b) H
theorem d0:FnScope ["_law_view", "_law_mask"] ["_law_view", "_law_mask"] (B4 s_law_stands):=⟨rfl,rfl,rfl,by decide +kernel,rfl,by decide +kernel,by decide +kernel⟩
theorem Cy(T:Tx K mg):FnOk P w K mg base CX0 3 T.a3.f T.a3.fd ["_law_view", "_law_mask"] (Fw fun ns A B m=>QuietB B m/\∀j,m.testBit j=true->S9 ns.length A B m j):=by
 have G_law_is_quiet:=N9 (P:=P) (w:=w) (base:=base) T;have G_law_kept:=w8 (P:=P) (w:=w) (base:=base) T;have sc:=d0;refine T.a3.F.ok d0 (fun vs H Q E h=>?_) (fun cdv A outer s H vs Q E hr h=>?_)
 .obtain⟨p,n,a,ss,ps,A,B,rfl,_⟩:=h;rfl
 .obtain⟨p,v,m,ns,ks,A,B,rfl,hV,ln,q⟩:=h;refine⟨_,(B2 (C1 (Lv (D0 T.aA G_law_is_quiet (hr.mono (by decide)) (A8 (pv 0) (A8 (pv 1) B0))) (Ka (K4 K6 (C2 J6 (pv 1) (Mb Py (D0 T.a2 G_law_kept (hr.mono (by decide)) (A8 (pv 0) (A8 (pv 1) B0))))) B6 (D6 _)))))),?_⟩;refine ex1 rfl (ex1 rfl ⟨p,v,m,ns,ks,A,B,rfl,hV,ln,fun b hb=>⟨b,rfl,?_⟩⟩);refine Q6 (fun c=>?_) (fun c=>?_)
  .refine ex1 rfl (ex1 rfl (ex1 rfl (Th (a:=p) (b:=v) (c:=m) (d:=ns) (e:=ks) (f:=A) (g:=B) rfl hV ln fun kb hk=>?_)));refine ex1 rfl (B7 rfl rfl ⟨rfl,?_⟩);refine q _ ?_;dsimp only;rw[T3];exact⟨fun h=>⟨hb.mp c,fun j hj=>(hk j).mp (h j hj)⟩,fun h j hj=>(hk j).mpr (h.2 j hj)⟩
  .exact q false ⟨fun z=>(by cases z),fun h=>absurd (hb.mpr h.1) c⟩
end
def pB(p:Prop):Bool:=@decide p (Classical.propDecidable p)
theorem pB_iff{p:Prop}:pB p=true↔p:=@BK p (Classical.propDecidable p)
theorem Fc{p:Prop}{b:Bool}(h:b=true↔p):b=pB p:=CN.mpr (h.trans pB_iff.symm)
theorem QuietB.sub{B:List Nat}{m m':Nat}(h:QuietB B m)(s:Sub m' m):QuietB B m':=fun i j hi hj=>h i j (s i hi) (s j hj)
theorem zAb{i m m':Nat}(h:Low i m)(h':Low i m')(e:m ||| 2^i=m' ||| 2^i):m=m':=BQ fun j=>by
 by_cases c:j=i
 .subst c;rw[BJ.mpr fun z=>CV _ (h j z),BJ.mpr fun z=>CV _ (h' j z)]
 .have:=congrArg (fun z=>z.testBit j) e;rw[BO,BO,DU,AN fun z=>c z.symm,HN,HN]at this;exact this
theorem Ng{B fs:List Nat}{i:Nat}(nd:fs.Nodup)(hm:∀m,m∈fs↔Low i m/\QuietB B m):(fs ++(fs.filter fun m=>pB (QuietB B (m ||| 2^i))).map fun m=>m ||| 2^i).Nodup/\∀m,m∈(fs ++(fs.filter fun m=>pB (QuietB B (m ||| 2^i))).map fun m=>m ||| 2^i)↔Low (i+1) m/\QuietB B m:=by
 have bi:∀m,(m ||| 2^i).testBit i=true:=fun m=>by rw[BO,EZ,HE]
 constructor
 .refine FY.mpr ⟨nd,CD.mpr (F_ (fun{a b} ha hb ne e=>ne (zAb ((hm a).mp (BC.mp ha).1).1 ((hm b).mp (BC.mp hb).1).1 e)) (nd.sublist DD)),fun a ha b hb e=>?_⟩;obtain⟨c,_,rfl⟩:=AK.mp hb;have:=((hm a).mp ha).1 i (by rw[e];exact bi c);omega
 .intro m;rw[AR,hm,AK];constructor
  .rintro(⟨h1,h2⟩ | ⟨m0,h,rfl⟩)
   .exact⟨fun j hj=>DG (h1 j hj),h2⟩
   .obtain⟨h1,h2⟩:=BC.mp h;refine⟨fun j hj=>?_,pB_iff.mp h2⟩;rcases(Ad m0 i j).mp hj with z | z
    .exact DG (((hm m0).mp h1).1 j z)
    .omega
  .rintro⟨h1,h2⟩;by_cases c:m.testBit i=true
   .have e:m % 2^i ||| 2^i=m:=BQ fun j=>by
     rw[BO,FF,DU,CN,CC,BU,BK,BK];constructor
     .rintro(⟨_,z⟩ | rfl)
      .exact z
      .exact c
     .intro z;by_cases cj:j<i
      .exact .inl ⟨cj,z⟩
      .have:=h1 j z;exact .inr (by omega)
    have sb:Sub (m % 2^i) m:=fun j z=>by
     rw[FF,BU]at z;exact z.2
    refine .inr ⟨m % 2^i,BC.mpr ⟨(hm _).mpr ⟨fun j z=>?_,h2.sub sb⟩,pB_iff.mpr (by rw[e];exact h2)⟩,e⟩;rw[FF,BU,BK]at z;exact z.1
   .refine .inl ⟨fun j z=>?_,h2⟩;have:=h1 j z;rcases Nat.lt_or_ge j i with y | y
    .exact y
    .exact absurd (show m.testBit i=true by rw[show i=j by omega];exact z) c
section
variable{P:Program}{w:World}{K:PySem.W.Frag}{mg:Str->Option Value}{base:Heap}
theorem M7:FnScope ["_law_view", "_law_found", "_law_k", "_law_mask"] ["_law_view"] (B4 s_law_all_standing):=fsc
def Aw:Sp:=fun vs H Q _=>∃(p v:Addr) (ns:List Str) (ks:List (Str×Str)) (A B:List Nat),vs = [.ref v]/\ViewAt H p v ns ks A B/\ns.length<=10 /\
 ∀l (Ms:List Nat) H',H l=none->Same H H'->H' l=some (.lst (Ms.map E4))->Ms.Nodup->(∀m,m∈Ms↔StandM ns.length A B m)->Ms.length<=1024->Q (.ref l) H'
set_option maxHeartbeats 2000000 in
theorem Y2(T:Tx K mg):FnOk P w K mg base CX0 4 T.aG.f T.aG.fd ["_law_view"] Aw:=by
 have G_law_is_quiet:=N9 (P:=P) (w:=w) (base:=base) T;have G_law_stands:=Cy (P:=P) (w:=w) (base:=base) T;have sc:=M7;refine T.aG.F.ok M7 (fun vs H Q E h=>?_) (fun cdv A outer s H vs Q E hr h=>?_)
 .obtain⟨p,v,ns,ks,A,B,rfl,_⟩:=h;rfl
 .obtain⟨p,v,ns,ks,A,B,rfl,hV,ln,q⟩:=h;obtain⟨⟨a,s,u,e1,e2,e3,e4,_⟩,mA,mB⟩:=id hV;refine⟨_,(B1 (C4 (i:=1) sc.nd rfl (.inl rfl) (J5 (A8 B6 B0)))
   (B1 (K1 PassesOwn.never rfl (zCd T.aY (A8 (E6 (P3 K) T.az O3 (A8 (J7 (ixL K) (pv 0) B6 (fun _ _=>rfl)) B0)) B0)) (C3 (i:=2) sc.nd rfl (.inl rfl))
   (B2 (K1 PassesOwn.never rfl (piL K (Hl (n8 K) T.aZ X6 (A8 (pv 1) B0))) (C3 (i:=3) sc.nd rfl (.inl rfl))
   (B2 (G9 (K2 (D0 T.aA G_law_is_quiet (Rm hr) (A8 (pv 0) (A8 (C2 Q2 (pv 3) (C2 y0 B6 (pv 2))) B0)))) (B2 (C7 (Bn K PySem.F.plainAttrs_list PySem.F.slot_list_append PySem.F.type_list_append D3 (pv 1) (A8 (C2 Q2 (pv 3) (C2 y0 B6 (pv 2))) B0)))) C9)))))
   (B2 (C1 (T0 (N':=["_law_mask", "_law_view"]) (cap:=[none,some 0]) (cl:=[("_law_view",_)]) (K0 ⟨⟨rfl,rfl,rfl,rfl⟩,trivial⟩ ⟨rfl,trivial⟩) rfl (piL K (pv 1)) (fun _ _ _ _=>by exact⟨(pgC 0),(T7 (K2 (D0 T.a3 G_law_stands (Rm hr) (A8 (pv 1) (A8 (pv 0) B0))))),(pv 0)⟩)))))),?_⟩
  refine B5 fun N1 hN1=>?_;refine⟨by show 1<=sizeLine;decide,fun l hl=>?_⟩;have hl0:=hl;have ul:=Same.new (o:=.lst [.int 0]) hl;have fl:(upd H l (.lst [.int 0])) l=some (.lst ([0].map E4)):=upd_same;generalize upd H l (.lst [.int 0])=H1 at ul fl⊢;refine hN1 _ _ (B5 fun N2 hN2=>?_);refine ex1 rfl ⟨v,_,B7 rfl rfl ⟨SqL.of (ul _ _ e1),rfl,B7 (a:=a) rfl (.inl (SqL.of (ul _ _ e2))) (ex1 rfl ⟨?_,?_,?_⟩)⟩⟩
  .omega
  .rw[AB];omega
  rw[AB,CQ];have lz:∀m,m∈[0]↔Low 0 m/\QuietB B m:=fun m=>by
   rw[AE];constructor
   .rintro rfl;exact⟨Low.zero _,fun i j h=>by rw[CL]at h;cases h⟩
   .rintro⟨h,_⟩;exact BQ fun j=>by rw[CL];exact BJ.mpr fun z=>absurd (h j z) (HR _)
  refine M6 (fun i σ G=>(∃v2 v3,σ = [some (.ref v),some (.ref l),v2,v3])/\Same H G/\∃fs:List Nat,G l=some (.lst (fs.map E4))/\fs.Nodup/\(∀m,m∈fs↔Low i m/\QuietB B m)/\fs.length<=2^i) ⟨⟨_,_,rfl⟩,ul,[0],fl,DK _ _,lz,by decide⟩ ?_ ?_
  .rintro i σ G hi ⟨⟨v2,v3,rfl⟩,sG,fs,eG,nG,mG,lG⟩ D1 hD1 _;rw[Int.zero_add];have p2:2^i<=2^9:=Nat.pow_le_pow_right (by decide) (by omega);refine ex1 rfl ⟨l,_,rfl,.inl (SqL.of eG),fun c hc=>?_⟩;have uc:=Same.new (o:=.lst (fs.map E4)) hc;have fc:(upd G c (.lst (fs.map E4))) c=some (.lst (fs.map E4)):=upd_same;have ncl:c≠l:=(A9 eG hc).symm;generalize upd G c (.lst (fs.map E4))=G1 at uc fc⊢;have s1:=sG.trans uc;have hc0:H c=none:=sG.free hc;refine⟨c,rfl,⟨_,SqL.of fc⟩,Y4 (asL (SqL.of fc)) (fun j σ G2=>(∃v3,σ = [some (.ref v),some (.ref l),some (.int (i:Int)),v3])/\Same H G2/\G2 c=some (.lst (fs.map E4))/\G2 l=some (.lst ((fs ++((fs.take j).filter fun m=>pB (QuietB B (m ||| 2^i))).map fun m=>m ||| 2^i).map E4))) ⟨⟨_,rfl⟩,s1,fc,by rw[List.take_zero,HS,HB,CJ];exact uc _ _ eG⟩ (fun j σ G2 _ h o e=>by rw[fc]at e;cases e;exact h.2.2.1) ?_ ?_⟩
   .rintro j σ G2 y hy ⟨⟨v3,rfl⟩,s2,c2,l2⟩ D2 hD2 _;rw[AH]at hy;obtain⟨m,hm,rfl⟩:=CO.mp hy;have lj:=(AG.mp hm).1;refine ex1 rfl (ex1 rfl (ex1 rfl (B7 rfl rfl ⟨⟨by omega,by omega,by decide⟩,B7 rfl rfl ?_⟩)));dsimp only;rw[Yf,show E4 m=V.int (m:Int)from rfl];refine⟨p,v,m ||| 2^i,ns,ks,A,B,by rw[bor];rfl,hV.same s2,by omega,fun b hb=>⟨_,rfl,?_⟩⟩;have eb:=Fc hb;have hs:(fs.take (j+1)).filter (fun m=>pB (QuietB B (m ||| 2^i))) =(fs.take j).filter (fun m=>pB (QuietB B (m ||| 2^i)))++if pB (QuietB B (m ||| 2^i))=true then [m]else []:=by
     rw[take_succ hm,EU,DR,HS]
    have hl:=CB (fun m=>pB (QuietB B (m ||| 2^i))) (fs.take j);rw[AW]at hl;refine Q6 (fun z=>?_) (fun z=>hD2 _ _ ⟨⟨_,rfl⟩,s2,c2,?_⟩)
    .refine ex1 rfl ⟨.inl ⟨rfl,_,SqL.of l2⟩,ex1 rfl (ex1 rfl (B7 rfl rfl ⟨⟨by omega,by omega,by decide⟩,B7 rfl rfl ?_⟩))⟩;dsimp only;rw[Yf];refine⟨l,_,_,rfl,by rw[bor],l2,by rw[AB,AZ,AB,sizeLine_eq];omega,hD2 _ _ ⟨⟨_,rfl⟩,s2.upd hl0,(B3 ncl).trans c2,?_⟩⟩;rw[upd_same,hs,AL (by rw[<-eb];exact z)];simp only[AU,AX,HB,BE];rfl
    .rw[hs,AJ (by rw[<-eb];exact z),CJ];exact l2
   .rintro σ G2 ⟨⟨v3,rfl⟩,s2,c2,l2⟩;rw[AB,CS]at l2;obtain⟨n2,m2⟩:=Ng nG mG;refine hD1 _ _ ⟨⟨_,_,rfl⟩,s2,_,l2,n2,m2,?_⟩;have:=CB (fun m=>pB (QuietB B (m ||| 2^i))) fs;rw[AZ,AB,Nat.pow_succ];omega
  .rintro σ G ⟨⟨v2,v3,rfl⟩,sG,fs,eG,nG,mG,lG⟩;have p2:2^ns.length<=2^10:=Nat.pow_le_pow_right (by decide) ln;refine hN2 _ _ ?_;refine ex1 rfl ⟨l,rfl,⟨_,SqL.of eG⟩,fun D hD=>?_⟩;refine Dy E4 (asL (SqL.of eG)) (fun m=>pB (QuietB B m/\∀j,m.testBit j=true->S9 ns.length A B m j)) (by omega) hD (fun m hm G1 s1 M hM=>?_) (fun m hm G1 s1 M hM=>ex1 rfl hM) fun σ' G1 s1 e1=>?_
   .exact ex1 rfl (ex1 rfl ⟨p,v,m,ns,ks,A,B,rfl,(hV.same sG).same s1,by omega,fun b hb=>⟨_,rfl,by rw[Fc hb];exact hM G1 fun b o e=>e⟩⟩)
   .refine q D _ G1 (sG.free hD) (sG.trans s1) e1 (nG.sublist DD) (fun m=>?_) (Nat.le_trans (CB ..) (by omega));rw[BC,mG,pB_iff];exact⟨fun h=>⟨h.1.1,h.2⟩,fun h=>⟨⟨h.1,h.2.1⟩,h.2⟩⟩
end
def Anti(l:List Nat):Prop:=l.Pairwise fun a b=>¬Sub a b/\¬Sub b a
theorem Anti.nodup{l:List Nat}(h:Anti l):l.Nodup:=h.imp fun z e=>z.1 (by rw[e];exact fun j y=>y)
theorem Anti.few{n:Nat}(hn:n<=10){l:List Nat}(h:Anti l)(lo:∀m∈l,Low n m):l.length<=300:=Lw hn h.nodup lo fun a ha b hb s=>by
 obtain⟨i,hi,ei⟩:=EB ha;obtain⟨j,hj,ej⟩:=EB hb;have pw:=ER.mp h;rcases Nat.lt_trichotomy i j with z | z | z
 .have:=(pw i j hi hj z).1;rw[ei,ej]at this;exact absurd s this
 .subst z;rw[<-ei,<-ej]
 .have:=(pw j i hj hi z).2;rw[ei,ej]at this;exact absurd s this
theorem Yo(x y:Nat):decide (V.int (Builtin.bitAnd (x:Int) (y:Int))=V.int (x:Int))=true↔Sub x y:=by
 rw[BK,Wk];constructor
 .intro e j hj;have e:x &&& y=x:=by have:=V.int.inj e;omega
  rw[<-e,DI,BU]at hj;exact hj.2
 .intro h;have e:x &&& y=x:=BQ fun j=>by
   rw[DI,CN,BU];exact⟨(·.1),fun z=>⟨z,h j z⟩⟩
  rw[e]
theorem Wx{H G:Hp}{l:Addr}(s:Same H G):Same (er H l) (er G l):=fun b o e=>by
 have:b≠l:=fun z=>by subst z;unfold er at e;rw[AL rfl]at e;cases e
 rw[Bk this]at e⊢;exact s b o e
section
variable{P:Program}{w:World}{K:PySem.W.Frag}{mg:Str->Option Value}{base:Heap}
def U5(C f:Addr)(Tg:Tgt)(k:Nat):Sp:=fun vs H Q _=>∃(x c l:Addr) (ns:List Str) (A B:List Nat) (L ch ba:Nat) (fs:List Nat),vs = [.ref x,.ref f,.bl true,.int (ch:Int),.int (ba:Int),.ref l]/\MarksAt C (er H l) x c ns A B L/\ns.length<=10/\Low ns.length ch/\Low ns.length ba/\und ns.length ch ba<=k/\H l=some (.lst (fs.map E4)) /\
 Anti fs/\(∀g∈fs,Low ns.length g)/\(∀g∈fs,∀m,Fits ch ba m->¬Sub g m) /\
 ∀(Ls:List Nat) H',Sm [c,l] H H'->MarksAt C (er H' l) x c ns A B L->H' l=some (.lst ((fs++Ls).map E4))->Anti (fs++Ls)->(∀m∈Ls,Tg ns.length A B m/\Fits ch ba m)->(∀m,Tg ns.length A B m->Fits ch ba m->∃g∈fs++Ls,Sub m g)->Q .non H'
set_option maxHeartbeats 4000000 in
theorem Ak(T:Tx K mg){f:Addr}{fd:FuncData}{Tg:Tgt}{n k:Nat}{S:Sp}(tl:∀n A B m,Tg n A B m->Low n m)(G_settle:FnOk P w K mg base CX0 n f fd ["marks", "chosen", "barred"] (O5 T.aa Tg))(hk_settle:PySem.W.keepIn K (.ref f)=true)(hb_settle:Binds K fd ["marks", "chosen", "barred"] [])
  (h1:1<=n) (G_gather:FnOk P w K mg base (CXe P w) n T.ai.f T.ai.fd ["marks", "settle", "greatest", "chosen", "barred", "found"] S) (hS:∀k',k=k'+1->S=U5 T.aa f Tg k') :
  FnOk P w K mg base (CXe P w) (n+1) T.ai.f T.ai.fd ["marks", "settle", "greatest", "chosen", "barred", "found"] (U5 T.aa f Tg k):=by
 have G_first_bit:FnOk P w K mg base CX0 n T.as.f T.as.fd ["some"] Cw:=(p8 T).mono h1;have sc:=Y7;refine T.ai.F.okE Y7 (fun vs H Q E h=>?_) (fun cdv A outer s H vs Q E hr h=>?_)
 .obtain⟨x,c,l,ns,A,B,L,ch,ba,fs,rfl,_⟩:=h;rfl
 .obtain⟨x,c,l,ns,A,B,L,ch,ba,fs,rfl,hR,ln,loc,lob,hu,el,an,lof,nof,q⟩:=h;have hM:=hR.same (X8 H l);have lf:=an.few ln lof;refine⟨_,(B1 (X2 (Jo (i:=1) G_settle (hr.mono (Nat.le_refl _)) hk_settle hb_settle J8 (A8 (pv 0) (A8 (pv 3) (A8 (pv 4) B0)))) (pgT K (n:=2) (C5 (C3 (i:=3) sc.nd rfl (.inl rfl)) (C5 (C3 (i:=4) sc.nd rfl (.inl rfl)) J1))))
   (B1 (G9 (ptV K (C2 J6 (pv 3) (pv 4))) (B2 n0) C9)
   (B1 (C4 (i:=6) sc.nd rfl (.inl rfl) (C2 Bz (peF K (pv 0)) (C2 Q2 (pv 3) (pv 4))))
   (B1 (C4 (i:=7) sc.nd rfl (.inr rfl) (C2 Q2 (pv 3) (pv 6)))
   (B1 (G9 (PW.pt (Cc (K2 (pv 2)) (y7 (K2 (E6 (Ri K) T.bs Rc (A8 (T0 (N':=["one", "most"]) (cap:=[none,some 7]) (cl:=[("most",_)]) (K0 ⟨⟨rfl,rfl,rfl,rfl⟩,trivial⟩ ⟨rfl,trivial⟩) rfl (piL K (pv 5)) (fun _ _ _ _=>by exact⟨(pgC 0),E5,(K4 K6 (C2 J6 (pv 1) (pv 0)) (pv 1) (D6 _))⟩)) B0)))))) (B2 n0) C9)
   (B1 (G9 (X4 (ptV K (pv 6))) (B1 (G9 (C6 K6 (E6 (P3 K) T.az O3 (A8 (pv 5) B0)) (Wv T.bC) (D6 _)) (B2 (Ew cxE.bx T.aI T.bq rfl T.bl (A8 E3 B0))) C9)
   (B1 (C7 (Bn K PySem.F.plainAttrs_list PySem.F.slot_list_append PySem.F.type_list_append D3 (pv 5) (A8 (pv 3) B0)))
   (B2 n0))) C9)
   (B1 (C4 (i:=8) sc.nd rfl (.inl rfl) (D0 T.as G_first_bit (hr.mono (Nat.le_refl _)) (A8 (pv 6) B0)))
   (B1 (C7 (U4 cxE.bx T.ai G_gather (hr.mono (Nat.le_refl _)) (@A8 _ _ _ _ _ (pv 0) (@A8 _ _ _ _ _ (pv 1) (@A8 _ _ _ _ _ (pv 2) (@A8 _ _ _ _ _ (C2 Q2 (pv 3) (pv 8)) (@A8 _ _ _ _ _ (pv 4) (@A8 _ _ _ _ _ (pv 5) B0 (by rfl)) (by rfl)) (by rfl)) (by rfl)) (by rfl)) (by rfl))))
   (B2 (C7 (U4 cxE.bx T.ai G_gather (hr.mono (Nat.le_refl _)) (@A8 _ _ _ _ _ (pv 0) (@A8 _ _ _ _ _ (pv 1) (@A8 _ _ _ _ _ (pv 2) (@A8 _ _ _ _ _ (pv 3) (@A8 _ _ _ _ _ (C2 Q2 (pv 4) (pv 8)) (@A8 _ _ _ _ _ (pv 5) B0 (by rfl)) (by rfl)) (by rfl)) (by rfl)) (by rfl)) (by rfl))))))))))))),?_⟩
  refine B5 fun N1 hN1=>?_;refine⟨rfl,ex1 rfl (ex1 rfl (ex1 rfl ⟨x,c,ns,A,B,L,ch,ba,rfl,hM,loc,lob,fun t c1 b1 H1 k1 M1 et lo1 lo2 sub1 sub2 snd cpl=>?_⟩))⟩;refine⟨t,_,rfl,SqT.of et,rfl,_,_,rfl,_,_,rfl,rfl,?_⟩;have nlc:l≠c:=let⟨_,_,_,_,_,_,_,_,_,e5,_⟩:=hM.ex;Tc e5 el (fun _ z=>by cases z) fun _ _ z=>by cases z
  have el1:=Sm1 k1 el nlc;have R1:=hR.er k1 M1 nlc;have k1:Sm [c,l] H H1:=fun b o e nb=>k1 b o e fun z=>nb (BD.mpr (.inl (AE.mp z)));have none:∀G,Sm [c,l] H G->MarksAt T.aa (er G l) x c ns A B L->G l=some (.lst (fs.map E4))->(∀m,Tg ns.length A B m->Fits ch ba m->∃g∈fs,Sub m g)->Q .non G:=fun G kG RG eG h=>q [] G kG RG (by rw[CJ];exact eG) (by rw[CJ];exact an) (fun m z=>absurd z BV) (by rw[CJ];exact h);refine hN1 _ _ (B5 fun N2 hN2=>?_);refine ex1 rfl (ex1 rfl (B7 rfl rfl ⟨_,rfl,Q6 (fun cm=>?_) (fun cm=>?_)⟩))
  .obtain⟨j,j1,j2⟩:=(V8 c1 b1).mp cm;exact none H1 k1 R1 el1 fun m z y=>absurd j2 ((snd m z y).2 j ((snd m z y).1 j j1))
  have dis:∀j,c1.testBit j=true->¬b1.testBit j=true:=fun j z y=>cm ((V8 c1 b1).mpr ⟨j,z,y⟩);refine hN2 _ _ (B5 fun N3 hN3=>?_);obtain⟨dx,a,b,d,kb,e1,_⟩:=M1.ex;obtain⟨u,eu,hu2⟩:=Zp (2^ns.length-1) (c1 ||| b1) fun j hj=>by
   rw[BO,CC]at hj;exact(F0 _ _).mpr (hj.elim (lo1 j) (lo2 j))
  have hu2:∀j,u.testBit j=true↔j<ns.length/\¬c1.testBit j=true/\¬b1.testBit j=true:=fun j=>by
   rw[hu2,F0,BO,CC,not_or]
  refine ex1 rfl ⟨x,T.aa,dx,_,ex1 rfl ⟨e1,T.ab,T.ax,rfl,ex1 rfl (ex1 rfl (B7 rfl rfl ?_))⟩⟩;dsimp only;rw[bor];refine B7 rfl rfl ?_;dsimp only;rw[eu];refine hN3 _ _ (B5 fun N4 hN4=>?_);refine ex1 rfl (ex1 rfl (B7 rfl rfl ?_));dsimp only;rw[bor];generalize hmost:(c1 ||| u)=most;have hm:∀m,Tg ns.length A B m->Fits ch ba m->Sub m most:=fun m z y j hj=>by
   have f1:=snd m z y;rw[<-hmost,BO,CC];by_cases h:c1.testBit j=true
   .exact .inl h
   .exact .inr ((hu2 j).mpr ⟨tl _ _ _ _ z j hj,h,f1.2 j hj⟩)
  refine hN4 _ _ (B5 fun N5 hN5=>?_);refine ex1 rfl ⟨_,rfl,Mh ?_⟩;refine ex1 rfl ⟨l,rfl,⟨_,SqL.of el1⟩,fun D hD=>?_⟩;refine Dy (fun g=>V.bl (pB (Sub most g))) (asL (SqL.of el1)) (fun _=>true) (by omega) hD (fun g hg G sG M hM=>hM G fun b o e=>e) (fun g hg G sG M hM=>?_) fun σ' G2 s2 e2=>?_
  .refine ex1 rfl (ex1 rfl (B7 rfl rfl (ex1 rfl ⟨rfl,?_⟩)));rw[<-Fc (Yo most g)]at hM;exact hM
  rw[GC.mpr fun _ _=>rfl]at e2;have e2:G2 D=some (.lst ((fs.map fun g=>pB (Sub most g)).map V.bl)):=by rw[e2,BZ];rfl
  refine⟨D,_,rfl,SqL.of e2,_,rfl,?_⟩;have k2:=k1.trans s2.sm;have R2:=R1.same (Wx s2);have el2:=s2 _ _ el1;have M2:=M1.same s2;refine Q6 (fun ya=>?_) (fun na=>?_)
  .obtain⟨_,hb,e⟩:=HD.mp ya;obtain⟨g,hg,rfl⟩:=AK.mp hb;exact none G2 k2 R2 el2 fun m z y=>⟨g,hg,fun j hj=>pB_iff.mp e j (hm m z y j hj)⟩
  have nsub:∀g∈fs,¬Sub most g:=fun g hg h=>na (HD.mpr ⟨_,AK.mpr ⟨g,hg,rfl⟩,pB_iff.mpr h⟩);refine hN5 _ _ (B5 fun N6 hN6=>?_);refine ex1 rfl ⟨_,rfl,Q6 (fun z0=>?_) (fun z0=>?_)⟩
  .have u0:u=0:=by
    rw[EI,bne_eq_false_iff_eq]at z0;omega
   have em:most=c1:=by rw[<-hmost,u0,Nat.or_zero]
   have all:∀j,j<ns.length->c1.testBit j=true\/b1.testBit j=true:=fun j hj=>by
    by_cases h:c1.testBit j=true
    .exact .inl h
    .by_cases h':b1.testBit j=true
     .exact .inr h'
     .have:=(hu2 j).mpr ⟨hj,h,h'⟩;rw[u0,CL]at this;cases this
   have tg:=cpl dis all;have fc:Fits ch ba c1:=(show Fits c1 b1 c1 from⟨fun j h=>h,dis⟩).mono sub1 sub2;have an2:Anti (fs ++ [c1]):=CG.mpr ⟨an,DK _ _,fun g hg b hb=>by
    rw[AE.mp hb];exact⟨nof g hg c1 fc,fun h=>nsub g hg (em▸h)⟩⟩
   have l300:=an2.few ln fun m hm=>(AR.mp hm).elim (lof m) fun h=>by rw[AE.mp h];exact lo1
   rw[AZ,GW]at l300;have lm:(fs.map E4).length=fs.length:=AB ..;refine B5 fun N7 hN7=>?_;refine ex1 rfl (B7 (a:=l) rfl (.inl (SqL.of el2)) ⟨rfl,_,rfl,Q6 (fun e3=>?_) (fun e3=>?_)⟩)
   .have:=V.int.inj (BL e3);rw[lm]at this;omega
   .refine hN7 _ _ (B5 fun N8 hN8=>?_);refine ex1 rfl ⟨.inl ⟨rfl,_,SqL.of el2⟩,ex1 rfl ⟨l,_,_,rfl,rfl,el2,by rw[lm,sizeLine_eq];omega,hN8 _ _ ?_⟩⟩;have:=q [c1] (upd G2 l (.lst (fs.map E4 ++ [.int (c1:Int)]))) (k2.upd (by simp)) (by rw[Wl];exact R2) (by rw[upd_same,AU];rfl) an2 (fun m hm=>by rw[AE.mp hm];exact⟨tg,fc⟩) fun m z y=>⟨c1,BT _ (AE.mpr rfl),by rw[Ev (tl _ _ _ _ z) all (snd m z y)];exact fun j h=>h⟩;exact this
  .have upos:0<u:=by
    rcases Nat.eq_zero_or_pos u with h | h
    .exact absurd (by rw[h];rfl) z0
    .exact h
   refine hN6 _ _ (B5 fun N7 hN7=>?_);refine ex1 rfl ⟨u,rfl,upos,fun kk hkk=>?_⟩;obtain⟨k0,nc,nb⟩:=(hu2 kk).mp hkk;have ss:∀a:Nat,Sub a (a ||| 2^kk):=fun a j h=>by rw[BO,h];rfl
   have sb:∀a:Nat,(a ||| 2^kk).testBit kk=true:=fun a=>by rw[BO,EZ,HE]
   have un1:=Kr (n:=ns.length) sub1 sub2;have un2:=Lb (n:=ns.length) (ss c1) (fun j h=>h:Sub b1 b1) k0 ⟨nc,nb⟩ (.inl (sb c1));have un3:=Lb (n:=ns.length) (fun j h=>h:Sub c1 c1) (ss b1) k0 ⟨nc,nb⟩ (.inr (sb b1));obtain⟨k',rfl⟩:∃k',k=k'+1:=⟨k-1,by omega⟩;have hSS:=hS k' rfl;subst hSS;refine hN7 _ _ (B5 fun N8 hN8=>?_);refine ex1 rfl (ex1 rfl (ex1 rfl (ex1 rfl (ex1 rfl (B7 rfl rfl ?_)))));refine ex1 rfl (ex1 rfl ⟨x,c,l,ns,A,B,L,c1 ||| 2^kk,b1,fs,by dsimp only;rw[bor];rfl,R2,ln,lo1.or k0,lo2,by omega,el2,an,lof,fun g hg m h=>nof g hg m ((fits_or.mp h).1.mono sub1 sub2),fun L1 H3 k3 R3 el3 an3 m3 cv3=>?_⟩);refine hN8 _ _ ?_;refine ex1 rfl (ex1 rfl (ex1 rfl (ex1 rfl (ex1 rfl (ex1 rfl (B7 rfl rfl ?_))))));refine ex1 rfl ⟨x,c,l,ns,A,B,L,c1,b1 ||| 2^kk,fs++L1,by dsimp only;rw[bor];rfl,R3,ln,lo1,lo2.or k0,by omega,el3,an3,fun m hm=>(AR.mp hm).elim (lof m) fun h=>tl _ _ _ _ (m3 m h).1,fun g hg m h=>?_,fun L2 H4 k4 R4 el4 an4 m4 cv4=>?_⟩
   .rcases AR.mp hg with hg | hg
    .exact nof g hg m ((fits_bar.mp h).1.mono sub1 sub2)
    .exact fun z=>(fits_bar.mp h).2 (z kk (fits_or.mp (m3 g hg).2).2)
   .rw[BE]at el4 an4 cv4;refine q (L1++L2) H4 (k2.trans (k3.trans k4)) R4 el4 an4 (fun m hm=>?_) fun m z y=>?_
    .rcases AR.mp hm with h | h
     .exact⟨(m3 m h).1,(fits_or.mp (m3 m h).2).1.mono sub1 sub2⟩
     .exact⟨(m4 m h).1,(fits_bar.mp (m4 m h).2).1.mono sub1 sub2⟩
    .have f1:=snd m z y;by_cases h:m.testBit kk=true
     .obtain⟨g,hg,sg⟩:=cv3 m z (fits_or.mpr ⟨f1,h⟩);refine⟨g,?_,sg⟩;rw[<-BE];exact DY _ hg
     .exact cv4 m z (fits_bar.mpr ⟨f1,h⟩)
theorem Ck(T:Tx K mg){f:Addr}{fd:FuncData}{Tg:Tgt}{n:Nat}(tl:∀n A B m,Tg n A B m->Low n m)(G:FnOk P w K mg base CX0 n f fd ["marks", "chosen", "barred"] (O5 T.aa Tg))(hk:PySem.W.keepIn K (.ref f)=true)(hb:Binds K fd ["marks", "chosen", "barred"] [])(h1:1<=n) :
  ∀k,FnOk P w K mg base (CXe P w) (n+1+k) T.ai.f T.ai.fd ["marks", "settle", "greatest", "chosen", "barred", "found"] (U5 T.aa f Tg k)
 | 0=>Ak T tl G hk hb h1 Jq fun k' e=>by omega
 | k+1=>Ak (n:=n+1+k) T tl (G.mono (by omega)) hk hb (by omega) (Ck T tl G hk hb h1 k) fun k' e=>by cases e;rfl
def MaxM(Tg:Tgt):Tgt:=fun n A B m=>Tg n A B m/\∀m',Tg n A B m'->Sub m m'->m'=m
theorem Sy{a b:Nat}(h:Sub a b)(h':Sub b a):a=b:=BQ fun j=>CN.mpr ⟨h j,h' j⟩
theorem MaxM.anti{Tg:Tgt}{n:Nat}{A B:List Nat}{a b:Nat}(ha:MaxM Tg n A B a)(hb:MaxM Tg n A B b)(s:Sub a b):a=b:=(ha.2 b hb.1 s).symm
def Ff(CW f:Addr)(Tg:Tgt):Sp:=fun vs H Q _=>∃(wb:Addr) (ns:List Str) (qs:List PA2),vs = [.ref wb,.ref f,.bl true]/\WebAt CW H wb ns qs/\ns.length<=10 /\
 ∀(A B Ms:List Nat),MB ns ((qs.map fun q=>q.2).map fun k=>(k.2,k.1)) A->MB ns (qs.map fun q=>q.2) B->Ms.Nodup->(∀m,m∈Ms↔MaxM Tg ns.length A B m) ->
  ∀r (ts:List (Addr×List Str)) H',Same H H'->H r=none->H' r=some (.lst (ts.map fun t=>V.ref t.1))->LLn H H' ts->(∀t∈ts,t.1≠r)->(ts.map fun t=>t.2).Perm (Ms.map (setOf ns))->ts.Pairwise (fun a b=>TS.lexB (TS.kyS b.2) (TS.kyS a.2)=false)->Q (.ref r) H'
set_option maxHeartbeats 4000000 in
theorem Ea(T:Tx K mg){f:Addr}{Tg:Tgt}(tl:∀n A B m,Tg n A B m->Low n m)(tq:∀n A B m,Tg n A B m->QuietB B m){g:Nat}(hg:3<=g)(G_gather:FnOk P w K mg base (CXe P w) (g+1) T.ai.f T.ai.fd ["marks", "settle", "greatest", "chosen", "barred", "found"] (U5 T.aa f Tg 10)) :
  FnOk P w K mg base (CXe P w) (g+2) T.ag.f T.ag.fd ["web", "settle", "greatest"] (Ff T.ac f Tg):=by
 have G_Marks___init__:FnOk P w K mg base CX0 g T.aV T.aU ["self", "web"] (R0 T.aa T.ac):=(Y5 T).mono hg;have G_Marks_names_in:FnOk P w K mg base CX0 (g+1) T.af.f T.af.fd ["self", "some"] (Y1 T.aa):=(Q5 T).mono (by omega);have sc:=O8;refine T.ag.F.okE O8 (fun vs H Q E h=>?_) (fun cdv A outer s H vs Q E hr h=>?_)
 .obtain⟨wb,ns,qs,rfl,_⟩:=h;rfl
 .obtain⟨wb,ns,qs,rfl,hW,ln,q⟩:=h;refine⟨_,(B1 (C4 (i:=3) sc.nd rfl (.inr rfl) (Em T.bu G_Marks___init__ (hr.mono (Nat.le_refl _)) rfl T.bt T.bh .nil J8 (A8 (pv 0) B0)))
   (B1 (C4 (i:=4) sc.nd rfl (.inl rfl) (J5 B0))
   (B1 (C7 (U4 cxE.bx T.ai G_gather (hr.mono (Nat.le_refl _)) (@A8 _ _ _ _ _ (pv 3) (@A8 _ _ _ _ _ (pv 1) (@A8 _ _ _ _ _ (pv 2) (@A8 _ _ _ _ _ B6 (@A8 _ _ _ _ _ (peF K (pv 3)) (@A8 _ _ _ _ _ (pv 4) B0 (by rfl)) (by rfl)) (by rfl)) (by rfl)) (by rfl)) (by rfl))))
   (B2 (C1 (E6 (Db K hr.units) T.aC J3 (A8 (T0 (N':=["some", "marks"]) (cap:=[none,some 3]) (cl:=[("marks",_)]) (K0 ⟨⟨rfl,rfl,rfl,rfl⟩,trivial⟩ ⟨rfl,trivial⟩) rfl (piL K (pv 4)) (fun _ _ _ _=>by exact⟨(pgC 0),E5,(E9 (pv 1) T.ab T.af.m G_Marks_names_in (hr.mono (Nat.le_refl _)) T.af.b .nil J8 (A8 (pv 0) B0))⟩)) B0))))))),?_⟩
  refine B5 fun N1 hN1=>?_;refine ex1 rfl ?_;intro x dx nx ndx nex;have s0:Same H (upd (upd H dx (.own x)) x (.ins T.aa dx [])):=fun b o e=>by
   rw[B3 (A9 e nx),B3 (A9 e ndx)];exact e
  refine⟨x,dx,wb,ns,qs,rfl,upd_same,hW.same s0,fun c A B L H1 hc k1 M1 mA mB=>⟨rfl,?_⟩⟩;have s1:Same H H1:=fun b o e=>k1 b o (s0 b o e) (by simpa using A9 e nx);have hcn:H c=none:=s0.free hc;refine hN1 _ _ (B5 fun N2 hN2=>?_);refine⟨CH _,fun l hl=>?_⟩;have ul:=Same.new (o:=.lst []) hl;have fl:(upd H1 l (.lst [])) l=some (.lst (([]:List Nat).map E4)):=upd_same;have hln:H l=none:=s1.free hl;have R2:MarksAt T.aa (er (upd H1 l (.lst [])) l) x c ns A B L:=M1.same fun b o e=>by
   have:b≠l:=A9 e hl;rw[Bk this,B3 this];exact e
  generalize upd H1 l (.lst [])=H2 at ul fl R2⊢;have s2:=s1.trans ul;have M2:=R2.same (X8 H2 l);obtain⟨Ms,ndM,mM⟩:=Jf (n:=ns.length) (fun m=>MaxM Tg ns.length A B m) fun m h=>tl _ _ _ _ h.1;have q1:=q A B Ms mA mB ndM mM;have fitz:∀m,Tg ns.length A B m/\Fits 0 L m↔Tg ns.length A B m:=fun m=>⟨(·.1),fun h=>⟨h,fun j z=>(by rw[CL]at z;cases z),fun j z y=>tq _ _ _ _ h j j z z ((M2.net.tr j j).mp ((M2.loops j).mp y))⟩⟩;refine hN2 _ _ (B5 fun N3 hN3=>?_);obtain⟨dx',a,b,d,kb,e1,_⟩:=M2.ex;refine ex1 rfl (ex1 rfl (ex1 rfl (ex1 rfl ⟨x,T.aa,dx',_,ex1 rfl ⟨e1,T.ab,T.ba,rfl,ex1 rfl ⟨x,c,l,ns,A,B,L,0,L,[],rfl,R2,ln,Low.zero _,fun j hj=>(M2.net.lt j j ((M2.net.tr j j).mp ((M2.loops j).mp hj))).1,Nat.le_trans List.countP_le_length (by rw[B_];exact ln),fl,List.Pairwise.nil,(fun g z=>absurd z BV),(fun g z=>absurd z BV),fun Ls H3 k3 R3 el3 an3 mL cv=>?_⟩⟩⟩)))
  .rw[GR]at el3 an3;have pm:Ls.Perm Ms:=(EN an3.nodup ndM).mpr fun m=>by
    rw[mM];have cov:∀m,Tg ns.length A B m->∃g∈Ls,Sub m g:=fun m h=>by
     obtain⟨g,hg,sg⟩:=cv m h ((fitz m).mpr h).2;exact⟨g,by rw[GR]at hg;exact hg,sg⟩
    constructor
    .intro h;refine⟨(mL m h).1,fun m' t' s'=>?_⟩;obtain⟨g,hg,sg⟩:=cov m' t';have e:m=g:=by
      obtain⟨i,hi,ei⟩:=EB h;obtain⟨j,hj,ej⟩:=EB hg;have pw:=ER.mp an3;have smg:Sub m g:=fun j z=>sg j (s' j z);rcases Nat.lt_trichotomy i j with z | z | z
      .have:=(pw i j hi hj z).1;rw[ei,ej]at this;exact absurd smg this
      .subst z;rw[<-ei,<-ej]
      .have:=(pw j i hj hi z).2;rw[ei,ej]at this;exact absurd smg this
     subst e;exact Sy sg s'
    .rintro⟨h1,h2⟩;obtain⟨g,hg,sg⟩:=cov m h1;rw[<-h2 g (mL g hg).1 sg];exact hg
   have le3:Ls.length<=300:=an3.few ln fun m hm=>tl _ _ _ _ (mL m hm).1;have M3:=R3.same (X8 H3 l);have s3:Same H H3:=fun b o e=>k3 b o (s2 b o e) (by
    intro z;rcases BD.mp z with rfl | z
    .rw[hcn]at e;cases e
    .rw[AE.mp z,hln]at e;cases e)
   refine hN3 _ _ ?_;refine ex1 rfl ⟨l,rfl,⟨_,SqL.of el3⟩,fun D hD=>?_⟩;refine Ek (ns:=ns) (asL (SqL.of el3)) (by omega) hD (fun m G R sG hR=>?_) fun σ' G ts sG eG LG nG mG=>?_
   .have MG:=M3.same sG;obtain⟨dx',a,b,d,kb,e1,_⟩:=MG.ex;exact ex1 rfl ⟨x,dx',ex1 rfl ⟨e1,rfl,ex1 rfl ⟨x,c,ns,A,B,L,m,rfl,MG,fun z G' hz s' ez=>hR z G' hz s' ez⟩⟩⟩
   .refine⟨D,ts,rfl,SqL.of eG,LG.at_,fun r ts' hr0 pt srt=>?_⟩;have ur:=Same.new (o:=.lst (ts'.map fun t=>V.ref t.1)) hr0;have hrn:H r=none:=(s3.trans sG).free hr0;refine q1 r ts' _ ((s3.trans sG).trans ur) hrn upd_same ⟨fun t ht=>ur _ _ (LG.at_ t (pt.mem_iff.mp ht)),(pt.map _).nodup_iff.mpr LG.nd,fun t ht=>s3.free (LG.new t (pt.mem_iff.mp ht))⟩ (fun t ht=>A9 (LG.at_ t (pt.mem_iff.mp ht)) hr0) ?_ srt;refine(pt.map fun t=>t.2).trans ?_;rw[mG];exact pm.map _
def Va(CW:Addr)(Tg:Tgt):Sp:=fun vs H Q _=>∃(wb:Addr) (ns:List Str) (qs:List PA2),vs = [.ref wb]/\WebAt CW H wb ns qs/\ns.length<=10 /\
 ∀(A B Ms:List Nat),MB ns ((qs.map fun q=>q.2).map fun k=>(k.2,k.1)) A->MB ns (qs.map fun q=>q.2) B->Ms.Nodup->(∀m,m∈Ms↔MaxM Tg ns.length A B m) ->
  ∀r (ts:List (Addr×List Str)) H',Same H H'->H r=none->H' r=some (.lst (ts.map fun t=>V.ref t.1))->LLn H H' ts->(∀t∈ts,t.1≠r)->(ts.map fun t=>t.2).Perm (Ms.map (setOf ns))->ts.Pairwise (fun a b=>TS.lexB (TS.kyS b.2) (TS.kyS a.2)=false)->Q (.ref r) H'
theorem S0:FnScope ["web"] ["web"] (B4 s_greatest_sets):=fsc
theorem t7(T:Tx K mg):FnOk P w K mg base (CXe P w) 18 T.av.f T.av.fd ["web"] (Va T.ac WholeM):=by
 have G_all_found:FnOk P w K mg base (CXe P w) 17 T.ag.f T.ag.fd ["web", "settle", "greatest"] (Ff T.ac T.aj.f WholeM) :=
  Ea T (fun _ _ _ _ h=>h.1.1) (fun _ _ _ _ h=>h.1.2.1) (g:=15) (by decide) (Ck T (fun _ _ _ _ h=>h.1.1) (T5 T) T.aj.F.kp T.aj.b (by decide) 10)
 have sc:=S0;refine T.av.F.okE S0 (fun vs H Q E h=>?_) (fun cdv A outer s H vs Q E hr h=>?_)
 .obtain⟨wb,ns,qs,rfl,_⟩:=h;rfl
 .obtain⟨wb,ns,qs,rfl,hW,ln,q⟩:=h;refine⟨_,(B2 (C1 (U4 cxE.bx T.ag G_all_found (Rm hr) (A8 (pv 0) (A8 (Sz T.aj.m) (A8 f7 B0)))))),?_⟩;exact ex1 rfl ⟨wb,ns,qs,rfl,hW,ln,q⟩
end
def WL(H:Hp)(l:Addr)(ks:List (Str×Str)):Prop:=∃ps:List PA2,H l=some (.lst (G6 ps))/\(∀q∈ps,E2 H q)/\(ps.map fun q=>q.2)=ks
theorem WL.nil{H:Hp}{l:Addr}:WL (upd H l (.lst [])) l []:=⟨[],upd_same,fun q h=>absurd h (BV),rfl⟩
theorem WL.same{H H':Hp}{l:Addr}{ks:List (Str×Str)}(h:WL H l ks)(s:Same H H'):WL H' l ks:=let⟨ps,e,p,k⟩:=h;⟨ps,s _ _ e,G8 s p,k⟩
theorem WL.get{H:Hp}{l:Addr}{ks:List (Str×Str)}(h:WL H l ks):∃xs,H l=some (.lst xs)/\xs.length=ks.length:=let⟨ps,e,_,k⟩:=h;⟨_,e,by rw[<-k,AB];unfold G6;rw[AB]⟩
theorem WL.put{H:Hp}{l t:Addr}{ks:List (Str×Str)}{x y:Str}(h:WL H l ks)(ht:H t=none):∃xs,(upd H t (.tup [.str x,.str y])) l=some (.lst xs)/\xs.length=ks.length/\WL (upd (upd H t (.tup [.str x,.str y])) l (.lst (xs ++ [.ref t]))) l (ks ++ [(x,y)]):=by
 obtain⟨ps,e,p,k⟩:=h;have n:l≠t:=A9 e ht;refine⟨G6 ps,by rw[B3 n];exact e,by rw[<-k,AB];unfold G6;rw[AB],ps ++ [(t,x,y)],?_,fun q hq=>?_,by rw[AU,k];rfl⟩
 .rw[upd_same];unfold G6;rw[AU];rfl
 .unfold E2;rcases AR.mp hq with z | z
  .rw[B3 (X0 (p q z) e (by intro z;cases z)),B3 (A9 (p q z) ht)];exact p q z
  .rw[AE.mp z,B3 n.symm];exact upd_same
def U2(ss hs:List Str)(n:Str):Str:=if n∈ss then "in" else if n∈hs then "out" else "open"
def Il(K:PySem.W.Frag)(C:Addr):Sp:=fun vs H Q _=>∃(x a:Addr) (ss ns:List Str) (qs:List PA2),vs = [.ref x,.ref a]/\WebAt C H x ns qs/\Sqs K H a (ss.map V.str)/\(∀n∈ss,n∈ns) /\
 ∀l (hs:List Str) H',H l=none->Same H H'->(∀y,y∈hs↔∃n∈ss,y∈B8 qs n)->WL H' l (ns.map fun n=>(n,U2 ss hs n))->Q (.ref l) H'
section
variable{P:Program}{w:World}{K:PySem.W.Frag}{mg:Str->Option Value}{base:Heap}
theorem Bb:FnScope ["web", "some", "hit", "words", "name"] ["web", "some"] (B4 s_words_by):=fsc
theorem Ix(T:Tx K mg):FnOk P w K mg base CX0 4 T.bd.f T.bd.fd ["web", "some"] (Il K T.ac):=by
 have G_struck_by_any:=t8 (P:=P) (w:=w) (base:=base) T;have G_Web_all_names:=S6 (P:=P) (w:=w) (base:=base) T;have sc:=Bb;refine T.bd.F.ok Bb (fun vs H Q E h=>?_) (fun cdv A outer s H vs Q E hr h=>?_)
 .obtain⟨x,a,ss,ns,qs,rfl,_⟩:=h;rfl
 .obtain⟨x,a,ss,ns,qs,rfl,hW,hS,hM,k⟩:=h;refine⟨_,(B1 (C4 (i:=2) sc.nd rfl (.inl rfl) (D0 T.aO G_struck_by_any (Rm hr) (A8 (pv 0) (A8 (pv 1) B0))))
   (B1 (C4 (i:=3) sc.nd rfl (.inl rfl) (J5 B0))
   (B1 (K1 PassesOwn.never rfl (piL K (Ld (pv 0) T.an T.ap.m G_Web_all_names (Rm hr) T.ap.b .nil J8)) (C3 (i:=4) sc.nd rfl (.inl rfl))
   (B2 (G9 (C6 (Tt K) (pv 4) (pv 1) rfl) (B2 (C7 (Bn K PySem.F.plainAttrs_list PySem.F.slot_list_append PySem.F.type_list_append D3 (pv 3) (A8 (O1 (A8 (pv 4) (A8 E3 B0))) B0)))) (B2 (G9 (C6 (Tt K) (pv 4) (pv 2) rfl) (B2 (C7 (Bn K PySem.F.plainAttrs_list PySem.F.slot_list_append PySem.F.type_list_append D3 (pv 3) (A8 (O1 (A8 (pv 4) (A8 E3 B0))) B0)))) (B2 (C7 (Bn K PySem.F.plainAttrs_list PySem.F.slot_list_append PySem.F.type_list_append D3 (pv 3) (A8 (O1 (A8 (pv 4) (A8 E3 B0))) B0)))))))))
   (B2 (C1 (pv 3)))))),?_⟩
  refine ex1 rfl (ex1 rfl (zDw (a:=x) (b:=a) (c:=ss) (d:=ns) (e:=qs) rfl hW hS hM fun l hs H1 hl0 s1 e1 m1 _ _ _=>?_));refine⟨CH _,fun l2 hl2=>?_⟩;have s2:=Same.new (o:=.lst []) hl2;have W2:=hW.same (s1.trans s2);have WA:WL (upd H1 l2 (.lst [])) l2 []:=WL.nil;generalize upd H1 l2 (.lst [])=H2 at s2 W2 WA⊢;obtain⟨ok,dx,a1,b,c,d,kc,kd,e2,_⟩:=id W2;have hlen:=ok.len;refine ex1 rfl ⟨x,dx,ex1 rfl ⟨e2,rfl,x,ns,qs,rfl,W2,fun l3 hl3=>?_⟩⟩;have s3:=Same.new (o:=.lst (ns.map V.str)) hl3;have f3:(upd H2 l3 (.lst (ns.map V.str))) l3=some (.lst (ns.map V.str)):=upd_same;have n23:l3≠l2:=let⟨_,e,_⟩:=WA.get;(A9 e hl3).symm;have W3:=WA.same s3;generalize upd H2 l3 (.lst (ns.map V.str))=H3 at s3 f3 W3⊢;have S1:=(s1.at a).seq hS;refine⟨l3,rfl,⟨_,SqL.of f3⟩,Y4 (asL (SqL.of f3)) (fun i σ H4=>(∃v4,σ = [some (.ref x),some (.ref a),some (.ref l),some (.ref l2),v4])/\Same H1 H4/\H4 l3=some (.lst (ns.map V.str))/\WL H4 l2 ((ns.take i).map fun n=>(n,U2 ss hs n))) ?_ ?_ ?_ ?_⟩
  .exact⟨⟨_,rfl⟩,s2.trans s3,f3,W3⟩
  .rintro j σ H5 _ ⟨_,_,f5,_⟩ o e;exact(f3.symm.trans e)▸f5
  .rintro i σ H4 y hy ⟨⟨v4,rfl⟩,s4,f4,W4⟩ D hD _;rw[AH]at hy;obtain⟨n,hn,rfl⟩:=CO.mp hy;have hi:=(AG.mp hn).1;have app:∀wd:Str,U2 ss hs n=wd->zBh (tBM K "list" Rv (Lq 3) (As (zDc (As (Lq 4) (As (tC (V.str wd)) Sh))) Sh)) D [some (.ref x),some (.ref a),some (.ref l),some (.ref l2),some (.str n)] H4:=fun wd ew=>by
    obtain⟨xs,e4,zFq⟩:=W4.get;refine ex1 rfl ⟨.inl ⟨rfl,_,SqL.of e4⟩,ex1 rfl ⟨by show 2<=sizeLine;decide,fun t ht=>?_⟩⟩;obtain⟨ys,e5,zDo,W5⟩:=W4.put (x:=n) (y:=wd) ht;refine⟨l2,_,_,rfl,rfl,e5,?_,hD _ _ ⟨⟨_,rfl⟩,(s4.trans (Same.new ht)).upd hl2,?_,?_⟩⟩
    .rw[zDo,AB,AW,sizeLine_eq];omega
    .rw[B3 n23,B3 (A9 f4 ht)];exact f4
    .rw[take_succ hn,AU,AX,ew];exact W5
   refine ex1 rfl (ex1 rfl (Ed ((s4.at a).seq S1) ⟨_,rfl,Q6 (fun h=>app _ ?_) (fun h=>?_)⟩))
   .unfold U2;rw[AL (BL h)]
   have h:=fun z=>h (AQ z);refine ex1 rfl (ex1 rfl (Ed (.inl (SqL.of (s4 _ _ e1))) ⟨_,rfl,Q6 (fun h'=>app _ ?_) (fun h'=>app _ ?_)⟩))
   .unfold U2;rw[AJ h,AL (BL h')]
   .unfold U2;rw[AJ h,AJ fun z=>h' (AQ z)]
  .rintro σ H4 ⟨⟨v4,rfl⟩,s4,f4,W4⟩;rw[AB,CS]at W4;exact⟨_,rfl,k l2 hs H4 (s1.free hl2) (s1.trans s4) m1 W4⟩
end
def wrd(qs:List PA2)(ss:List Str)(n:Str):Str:=U2 ss (ss.flatMap (B8 qs)) n
def E7(ns:List Str)(qs:List PA2)(ss:List Str):List (Str×Str):=ns.map fun n=>(n,wrd qs ss n)
theorem Vo{qs:List PA2}{ss hs:List Str}{n:Str}(h:∀y,y∈hs↔∃n∈ss,y∈B8 qs n):U2 ss hs n=wrd qs ss n:=by
 have e:(n∈ss.flatMap (B8 qs)) =(n∈hs):=propext (GJ.trans (h n).symm);unfold wrd U2;simp only[e]
theorem Cn{H H':Hp}{q:LP}(h:LPIn H q)(s:Same H H'):LPIn H' q:=⟨s _ _ h.1,G8 s h.2⟩
theorem Wo{H:Hp}{q:LP}{D:Addr}{xs:List V}{o:HO}(h:LPIn H q)(n:q.1≠D)(e:H D=some (.lst xs)):LPIn (upd H D o) q :=
 ⟨by rw[B3 n];exact h.1,fun r hr=>by
  have:=h.2 r hr;unfold E2 at this⊢;rw[B3 (X0 this e (by intro z;cases z))];exact this⟩
structure LPn(H0 H:Hp)(ts:List LP):Prop where
 at_:∀t∈ts,LPIn H t
 nd:(ts.map fun t=>t.1).Nodup
 new:∀t∈ts,H0 t.1=none
theorem Kk{α:Type}{J:It}{l D:Addr}{H:Hp}{xs:List α}{g:α->V}{f:α->List (Str×Str)}{r:St}{v0:Option V}{te:TE}{Q:St->Hp->Prop}(as:AsSeq J (xs.map g) l H)(len:xs.length<=7000)(hD:H D=none)
  (step:∀x∈xs,∀G (R:VK),Same H G->(∀z G' (ps:List PA2),G z=none->Same G G'->LPIn G' (z,ps)->nw ps=f x->R (.ref z) G')->te (some (g x)::r) G R)
  (q:∀σ G (ts:List LP),Same H G->G D=some (.lst (ts.map fun t=>V.ref t.1))->LPn H G ts->(∀t∈ts,t.1≠D)->(ts.map fun t=>nw t.2)=xs.map f->Q σ G):Cl (S8 0) Ee (De D te) J (v0::r) (upd H D (.lst [])) Q:=by
 refine T9 as (fun i σ G=>(∃v,σ=v::r)/\Same H G/\∃ts:List LP,G D=some (.lst (ts.map fun t=>V.ref t.1))/\LPn H G ts/\(∀t∈ts,t.1≠D)/\(ts.map fun t=>nw t.2) =(xs.take i).map f) ⟨⟨_,rfl⟩,Same.new hD,[],upd_same,⟨fun t h=>absurd h BV,IA,fun t h=>absurd h BV⟩,fun t h=>absurd h BV,rfl⟩ (fun i σ G _ h=>h.2.1.at l) ?_ ?_
 .rintro i σ G y N hx ⟨⟨v0,rfl⟩,sG,ts,eG,LG,nG,mG⟩ hN;rw[AH]at hx;obtain⟨m,hm,rfl⟩:=CO.mp hx;have li:=(AG.mp hm).1;have lt:ts.length=i:=by
   have:=congrArg List.length mG;rw[AB,AB,AW]at this;omega
  refine Au (step m (BN hm) G _ sG fun z G' ps hz s' ez kz=>?_);have nz:z≠D:=(A9 eG hz).symm;have eG':=s' _ _ eG;refine⟨_,eG',by rw[AB,sizeLine_eq];omega,hN _ _ ⟨⟨_,rfl⟩,(sG.trans s').upd hD,ts ++ [(z,ps)],?_,⟨fun t ht=>?_,?_,fun t ht=>?_⟩,fun t ht=>?_,?_⟩⟩
  .rw[upd_same,AU];rfl
  .rcases AR.mp ht with h | h
   .exact Wo (Cn (LG.at_ t h) s') (nG t h) eG'
   .rw[AE.mp h];exact Wo ez nz eG'
  .rw[AU];refine FY.mpr ⟨LG.nd,DK _ _,fun a ha b hb e=>?_⟩;obtain⟨t,ht,rfl⟩:=AK.mp ha;rw[GP,AE]at hb;rw[hb]at e;have:=(LG.at_ t ht).1;rw[e,hz]at this;cases this
  .rcases AR.mp ht with h | h
   .exact LG.new t h
   .rw[AE.mp h];exact sG.free hz
  .rcases AR.mp ht with h | h
   .exact nG t h
   .rw[AE.mp h];exact nz
  .rw[AU,mG,take_succ hm,AU,GP,GP,kz]
 .rintro σ G ⟨_,sG,ts,eG,LG,nG,mG⟩;rw[AB,CS]at mG;exact q σ G ts sG eG LG nG mG
section
variable{P:Program}{w:World}{K:PySem.W.Frag}{mg:Str->Option Value}{base:Heap}
def Vg(C CT:Addr):Sp:=fun vs H Q E=>∃(wb:Addr) (ns:List Str) (qs:List PA2),vs = [.ref wb]/\WebAt C H wb ns qs/\ns.length<=10 /\
 ∀(A B Ms:List Nat),MB ns ((qs.map fun q=>q.2).map fun k=>(k.2,k.1)) A->MB ns (qs.map fun q=>q.2) B->Ms.Nodup->(∀m,m∈Ms↔WholeM ns.length A B m) ->
  (∀r (ts:List LP) H',Ms.length<=300->Same H H'->H r=none->H' r=some (.lst (ts.map fun t=>V.ref t.1))->LPn H H' ts->(∀t∈ts,t.1≠r)->(ts.map fun t=>nw t.2).Perm (Ms.map fun m=>E7 ns qs (setOf ns m))->ts.Pairwise (fun a b=>TS.lexB (TS.kyP (nw b.2)) (TS.kyP (nw a.2))=false)->Q (.ref r) H')/\(300<Ms.length->ThrownS CT [] H E)
theorem w9:FnScope ["web"] ["web"] (B4 s_tellings):=fsc
theorem Jj(T:Tx K mg):FnOk P w K mg base (CXe P w) 19 T.aS.f T.aS.fd ["web"] (Vg T.ac T.ak):=by
 have G_whole_sets:=i7 (P:=P) (w:=w) (base:=base) T;have G_words_by:=Ix (P:=P) (w:=w) (base:=base) T;have sc:=w9;refine T.aS.F.okE w9 (fun vs H Q E h=>?_) (fun cdv A outer s H vs Q E hr h=>?_)
 .obtain⟨wb,ns,qs,rfl,_⟩:=h;rfl
 .obtain⟨wb,ns,qs,rfl,hW,ln,q⟩:=h;refine⟨_,(B2 (C1 (E6 (Hj K hr.units) T.aC J3 (A8 (T0 (N':=["some", "web"]) (cap:=[none,some 0]) (cl:=[("web",_)]) (K0 ⟨⟨rfl,rfl,rfl,rfl⟩,trivial⟩ ⟨rfl,trivial⟩) rfl (piL K (U4 cxE.bx T.aD G_whole_sets (Rm hr) (A8 (pv 0) B0))) (fun _ _ _ _=>by exact⟨(pgC 0),E5,(D0 T.bd G_words_by (Rm hr) (A8 (pv 1) (A8 (pv 0) B0)))⟩)) B0)))),?_⟩;refine ex1 rfl ⟨wb,ns,qs,rfl,hW,by omega,fun A B Ms mA mB nd mm=>⟨fun r ts H1 le1 s1 hr0 er1 LL nr pm srt=>?_,(q A B Ms mA mB nd mm).2⟩⟩;refine⟨r,rfl,⟨_,SqL.of er1⟩,fun D hD=>?_⟩;refine Kk (xs:=ts) (f:=fun t=>E7 ns qs t.2) (asL (SqL.of er1)) (by have:=pm.length_eq;rw[AB,AB]at this;omega) hD (fun t ht G R sG hR=>?_) fun σ' G us sG eG LG nG mG=>?_
  .have eT:=sG _ _ (LL.at_ t ht);refine ex1 rfl (ex1 rfl ⟨wb,t.1,t.2,ns,qs,rfl,hW.same (s1.trans sG),.inl (SqL.of eT),fun n hn=>?_,fun l hs G' hl s' hh WG=>?_⟩)
   .have:t.2∈Ms.map (setOf ns):=pm.mem_iff.mp (AK.mpr ⟨t,ht,rfl⟩);obtain⟨m,_,e⟩:=AK.mp this;exact(He ns m).subset (e▸hn)
   .obtain⟨ps,e1,e2,e3⟩:=WG;exact hR l G' ps hl s' ⟨e1,e2⟩ (e3.trans (GB fun n _=>by rw[Vo hh]))
  .refine⟨D,us,rfl,SqL.of eG,LG.at_,fun z us' hz pt srt'=>?_⟩;have uz:=Same.new (o:=.lst (us'.map fun t=>V.ref t.1)) hz;have s3:=s1.trans sG;refine(q A B Ms mA mB nd mm).1 z us' _ le1 (s3.trans uz) (s3.free hz) upd_same ⟨fun t ht=>Cn (LG.at_ t (pt.mem_iff.mp ht)) uz,(pt.map _).nodup_iff.mpr LG.nd,fun t ht=>s1.free (LG.new t (pt.mem_iff.mp ht))⟩ (fun t ht=>A9 (LG.at_ t (pt.mem_iff.mp ht)).1 hz) ?_ srt';refine(pt.map fun t=>nw t.2).trans ?_;rw[mG];have:=pm.map (E7 ns qs);rw[BZ,BZ]at this;exact this
end
def Zs(qs:List PA2)(a b:Str):Prop:=∃q∈qs,q.2.1=a/\q.2.2=b
theorem strk_struck{qs:List PA2}{a b:Str}:b∈B8 qs a↔Zs qs a b:=mem_struckOf
instance(qs:List PA2)(a b:Str):Decidable (Zs qs a b):=inferInstanceAs (Decidable (∃q∈qs,q.2.1=a/\q.2.2=b))
theorem Oc{qs:List PA2}{a b:Str}:Zs qs a b↔(a,b)∈qs.map fun q=>q.2:=by
 unfold Zs;rw[AK];constructor
 .rintro⟨q,h,rfl,rfl⟩;exact⟨q,h,rfl⟩
 .rintro⟨q,h,e⟩;exact⟨q,h,congrArg Prod.fst e,congrArg Prod.snd e⟩
theorem Ky{ns:List Str}{ps:List PA2}{B:List Nat}(M:MB ns (ps.map fun q=>q.2) B){i j:Nat}{x y:Str}(hi:ns[i]?=some x)(hj:ns[j]?=some y):(B.getD i 0).testBit j=true↔Zs ps x y:=by
 rw[M.bit,Oc];constructor
 .rintro⟨k,h,h1,h2⟩;rw[hi]at h1;rw[hj]at h2;rw[BI h1,BI h2];exact h
 .intro h;exact⟨(x,y),h,hi,hj⟩
theorem Tj{ns:List Str}{ks:List (Str×Str)}{B:List Nat}(M:MB ns ks B){i j:Nat}(h:(B.getD i 0).testBit j=true):∃x y,ns[i]?=some x/\ns[j]?=some y:=by
 obtain⟨k,_,h1,h2⟩:=(M.bit i j).mp h;exact⟨_,_,h1,h2⟩
theorem Xi{ns rs:List Str}{ps:List PA2}{B:List Nat}{m:Nat}(M:MB ns (ps.map fun q=>q.2) B)(pr:rs.Perm (setOf ns m)){j:Nat}{y:Str}(hj:ns[j]?=some y):X7 B m j↔∃x∈rs,Zs ps x y:=by
 constructor
 .rintro⟨k,hk,hb⟩;obtain⟨x,y',ex,ey⟩:=Tj M hb;refine⟨x,pr.mem_iff.mpr (mem_setOf.mpr ⟨k,hk,ex⟩),(Ky M ex hj).mp hb⟩
 .rintro⟨x,hx,hs⟩;obtain⟨k,hk,ex⟩:=mem_setOf.mp (pr.mem_iff.mp hx);exact⟨k,hk,(Ky M ex hj).mpr hs⟩
def wdM(m h i:Nat):Str:=if m.testBit i=true then "in" else if h.testBit i=true then "out" else "open"
def Dj(ns:List Str)(m h i:Nat):List (Str×Str):=(List.range i).map fun k=>(ns.getD k "",wdM m h k)
theorem Mz{ns:List Str}{m h i:Nat}{n:Str}(hn:ns[i]?=some n):Dj ns m h (i+1)=Dj ns m h i ++ [(n,wdM m h i)]:=by
 unfold Dj;rw[DN,AU,GP,BG,hn];rfl
theorem Zt{ns:List Str}(nd:ns.Nodup){m j:Nat}{y:Str}(hj:ns[j]?=some y):m.testBit j=true↔y∈setOf ns m:=by
 rw[mem_setOf];refine⟨fun h=>⟨j,h,hj⟩,fun⟨k,hk,e⟩=>?_⟩;rw[(List.getElem?_inj (AG.mp hj).1 nd).mp (hj.trans e.symm)];exact hk
theorem Nu{ns:List Str}{qs:List PA2}{B:List Nat}{m h:Nat}(nd:ns.Nodup)(M:MB ns (qs.map fun q=>q.2) B)(hh:∀j,h.testBit j=true↔X7 B m j):Dj ns m h ns.length=E7 ns qs (setOf ns m):=by
 unfold Dj E7;refine FE fun i=>?_;rw[AH,AH];by_cases c:i<ns.length
 .have e:ns[i]?=some ns[i]:=AC c;rw[List.getElem?_range c,e,FJ,FJ,BG,e];have h1:(m.testBit i=true) =(ns[i]∈setOf ns m):=propext (Zt nd e);have h2:(h.testBit i=true) =(ns[i]∈(setOf ns m).flatMap (B8 qs)):=propext (by
   rw[hh,Xi M (GD _) e,GJ];exact⟨fun⟨x,a,b⟩=>⟨x,a,strk_struck.mpr b⟩,fun⟨x,a,b⟩=>⟨x,a,strk_struck.mp b⟩⟩)
  unfold wdM wrd U2;by_cases d1:m.testBit i=true
  .rw[AL d1,AL (h1▸d1)];rfl
  .rw[AJ d1,AJ fun z=>d1 (h1▸z)];by_cases d2:h.testBit i=true
   .rw[AL d2,AL (h2▸d2)];rfl
   .rw[AJ d2,AJ fun z=>d2 (h2▸z)];rfl
 .rw[DW (by rw[B_];omega),DW (by omega)];rfl
section
variable{P:Program}{w:World}{K:PySem.W.Frag}{mg:Str->Option Value}{base:Heap}
theorem o0:FnScope ["_law_view", "_law_mask", "_law_hit_here", "_law_words_here", "_law_k", "_law_name"] ["_law_view", "_law_mask"] (B4 s_law_words):=fsc
def Re:Sp:=fun vs H Q _=>∃(p v:Addr) (m:Nat) (ns:List Str) (ks:List (Str×Str)) (A B:List Nat),vs = [.ref v,.int (m:Int)]/\ViewAt H p v ns ks A B/\ns.length<=100 /\
 ∀l (ps:List PA2) (h:Nat) H',(∀j,h.testBit j=true↔X7 B m j)->H l=none->Same H H'->LPIn H' (l,ps)->nw ps=Dj ns m h ns.length->Q (.ref l) H'
theorem Ey(T:Tx K mg):FnOk P w K mg base CX0 2 T.a7.f T.a7.fd ["_law_view", "_law_mask"] Re:=by
 have G_law_hit:=U8 (P:=P) (w:=w) (base:=base) T;have sc:=o0;refine T.a7.F.ok o0 (fun vs H Q E h=>?_) (fun cdv A outer s H vs Q E hr h=>?_)
 .obtain⟨p,v,m,ns,ks,A,B,rfl,_⟩:=h;rfl
 .obtain⟨p,v,m,ns,ks,A,B,rfl,hV,ln,q⟩:=h;obtain⟨⟨a,s,t,e1,e2,e3,e4,_⟩,mA,mB⟩:=id hV;refine⟨_,(B1 (C4 (i:=2) sc.nd rfl (.inl rfl) (D0 T.aR G_law_hit (Rm hr) (A8 (pv 0) (A8 (pv 1) B0))))
   (B1 (C4 (i:=3) sc.nd rfl (.inl rfl) (J5 B0))
   (B1 (K1 PassesOwn.never rfl (piE K T.aE (A8 (J7 (ixL K) (pv 0) B6 (fun _ _=>rfl)) B0)) (pgT K (n:=2) (C5 (C3 (i:=4) sc.nd rfl (.inl rfl)) (C5 (C3 (i:=5) sc.nd rfl (.inl rfl)) J1)))
   (B2 (C7 (Bn K PySem.F.plainAttrs_list PySem.F.slot_list_append PySem.F.type_list_append D3 (pv 3) (A8 (O1 (A8 (pv 5) (A8 (Cu (C6 K6 (C2 J6 (C2 Kc (pv 1) (pv 4)) B6) B6 (D6 _)) E3 (Cu (C6 K6 (C2 J6 (C2 Kc (pv 2) (pv 4)) B6) B6 (D6 _)) E3 E3)) B0))) B0)))))
   (B2 (C1 (pv 3)))))),?_⟩
  refine B5 fun N1 hN1=>?_;refine ex1 rfl (ex1 rfl ⟨p,v,m,ns,ks,A,B,rfl,hV,ln,fun h hh=>?_⟩);refine hN1 _ _ (B5 fun N2 hN2=>?_);refine⟨CH _,fun l hl=>?_⟩;have ul:=Same.new (o:=.lst []) hl;have W0:WL (upd H l (.lst [])) l []:=WL.nil;generalize upd H l (.lst [])=H1 at ul W0⊢;refine hN2 _ _ (B5 fun N3 hN3=>?_);refine ex1 rfl ⟨v,_,B7 rfl rfl ⟨SqL.of (ul _ _ e1),rfl,a,ex1 rfl ⟨SqL.of (ul _ _ e2),Pn (n:=ns.length) (fun i σ G=>(∃v4 v5,σ = [some (.ref v),some (.int (m:Int)),some (.int (h:Int)),some (.ref l),v4,v5])/\Same H G/\WL G l (Dj ns m h i)) ⟨⟨_,_,rfl⟩,ul,W0⟩ ?_ ?_ ?_ ?_⟩⟩⟩
  .rintro i σ G hi ⟨_,sG,_⟩;exact⟨_,_,SqL.of (sG _ _ e2),by rw[AH,AC hi];rfl⟩
  .rintro σ G ⟨_,sG,_⟩;exact⟨_,SqL.of (sG _ _ e2),by rw[AB]⟩
  .rintro i σ G x H' hi ⟨⟨v4,v5,rfl⟩,sG,WG⟩ ⟨tt,y,rfl,htt,rfl,hx⟩;have hx:=hx _ (SqL.of (sG _ _ e2));have hi':ns[i]?=some ns[i]:=AC hi;rw[AH,hi']at hx;cases hx;refine⟨tt,ex1 rfl ⟨SqT.of upd_same,rfl,_,_,rfl,_,_,rfl,rfl,?_⟩⟩;have ut:=Same.new (o:=.tup [.int (i:Int),.str ns[i]]) htt;have W1:=WG.same ut;have s1:=sG.trans ut;generalize upd G tt (.tup [.int (i:Int),.str ns[i]])=G1 at W1 s1⊢;obtain⟨xs,eW,_,_⟩:=id W1;refine ex1 rfl ⟨.inl ⟨rfl,_,SqL.of eW⟩,?_⟩;have fin:∀wd,wd=wdM m h i->∀t,G1 t=none->∃xs,(upd G1 t (.tup [.str ns[i],.str wd])) l=some (.lst xs)/\xs.length+1<=sizeLine/\((∃v4 v5,[some (.ref v),some (.int (m:Int)),some (.int (h:Int)),some (.ref l),some (V.int (i:Int)),some (.str ns[i])] = [some (.ref v),some (.int (m:Int)),some (.int (h:Int)),some (.ref l),v4,v5])/\Same H (upd (upd G1 t (.tup [.str ns[i],.str wd])) l (.lst (xs ++ [.ref t])))/\WL (upd (upd G1 t (.tup [.str ns[i],.str wd])) l (.lst (xs ++ [.ref t]))) l (Dj ns m h (i+1))):=fun wd ew t ht=>by
    obtain⟨xs,e5,l5,W5⟩:=W1.put (x:=ns[i]) (y:=wd) ht;have ut:=Same.new (o:=.tup [.str ns[i],.str wd]) ht;refine⟨xs,e5,?_,⟨_,_,rfl⟩,(s1.trans ut).upd hl,?_⟩
    .rw[l5];unfold Dj;rw[AB,B_,sizeLine_eq];omega
    .rw[Mz hi',<-ew];exact W5
   refine ex1 rfl (ex1 rfl (ex1 rfl (B7 rfl rfl ⟨(show(0:Int)<=(i:Int) by omega),B7 rfl rfl ⟨rfl,_,rfl,?_⟩⟩)));dsimp only;rw[Ju];refine Q6 (fun c=>⟨by show 2<=sizeLine;decide,fun t ht=>?_⟩) (fun c=>?_)
   .obtain⟨xs,e,sz,nx⟩:=fin "in" (by unfold wdM;rw[AL c]) t ht;exact⟨l,_,_,rfl,rfl,e,sz,nx⟩
   .refine ex1 rfl (ex1 rfl (B7 rfl rfl ⟨(show(0:Int)<=(i:Int) by omega),B7 rfl rfl ⟨rfl,_,rfl,?_⟩⟩));dsimp only;rw[Ju];refine Q6 (fun c2=>⟨by show 2<=sizeLine;decide,fun t ht=>?_⟩) (fun c2=>⟨by show 2<=sizeLine;decide,fun t ht=>?_⟩)
    .obtain⟨xs,e,sz,nx⟩:=fin "out" (by unfold wdM;rw[AJ c,AL c2]) t ht;exact⟨l,_,_,rfl,rfl,e,sz,nx⟩
    .obtain⟨xs,e,sz,nx⟩:=fin "open" (by unfold wdM;rw[AJ c,AJ c2]) t ht;exact⟨l,_,_,rfl,rfl,e,sz,nx⟩
  .rintro σ G ⟨⟨v4,v5,rfl⟩,sG,WG⟩;obtain⟨ps,a1,a2,a3⟩:=WG;exact hN3 _ _ (ex1 rfl (q l ps h G hh hl sG ⟨a1,a2⟩ a3))
end
def Rf(H:Hp)(ns:List Str)(qs:List PA2)(Tg:Tgt)(Q:VK):Prop:=∀(A B Ms:List Nat),MB ns ((qs.map fun q=>q.2).map fun k=>(k.2,k.1)) A->MB ns (qs.map fun q=>q.2) B->Ms.Nodup->(∀m,m∈Ms↔Tg ns.length A B m) ->
 (∀r (ts:List (Addr×List Str)) H',Ms.length<=300->Same H H'->H r=none->H' r=some (.lst (ts.map fun t=>V.ref t.1))->LLn H H' ts->(∀t∈ts,t.1≠r)->(ts.map fun t=>t.2).Perm (Ms.map (setOf ns))->ts.Pairwise (fun a b=>TS.lexB (TS.kyS b.2) (TS.kyS a.2)=false)->Q (.ref r) H')/\(300<Ms.length->∀H',Same H H'->Q (.str "many") H')
def zAo(H:Hp)(ns:List Str)(qs:List PA2)(Q:VK):Prop:=∀(A B Ms:List Nat),MB ns ((qs.map fun q=>q.2).map fun k=>(k.2,k.1)) A->MB ns (qs.map fun q=>q.2) B->Ms.Nodup->(∀m,m∈Ms↔WholeM ns.length A B m) ->
 (∀r (ts:List LP) H',Ms.length<=300->Same H H'->H r=none->H' r=some (.lst (ts.map fun t=>V.ref t.1))->LPn H H' ts->(∀t∈ts,t.1≠r)->(ts.map fun t=>nw t.2).Perm (Ms.map fun m=>E7 ns qs (setOf ns m))->ts.Pairwise (fun a b=>TS.lexB (TS.kyP (nw b.2)) (TS.kyP (nw a.2))=false)->Q (.ref r) H')/\(300<Ms.length->∀H',Same H H'->Q (.str "many") H')
section
variable{P:Program}{w:World}{K:PySem.W.Frag}{mg:Str->Option Value}{base:Heap}
theorem o8:FnScope ["_law_word", "_law_web_here", "_law_told"] ["_law_word", "_law_web_here"] (B4 s_law_asked):=fsc
def Tp(C:Addr):Sp:=fun vs H Q _=>∃(wd:Str) (wb:Addr) (ns:List Str) (qs:List PA2),vs = [.str wd,.ref wb]/\WebAt C H wb ns qs/\ns.length<=10 /\
 ((wd = "standing"/\Rf H ns qs StandM Q)\/(wd = "whole"/\Rf H ns qs WholeM Q)\/(wd = "tellings"/\zAo H ns qs Q)\/(wd = "greatest"/\Rf H ns qs (MaxM WholeM) Q)\/(wd = "outright"/\Rf H ns qs OutM Q))
set_option maxHeartbeats 4000000 in
theorem Fq(T:Tx K mg):FnOk P w K mg base CX0 20 T.a8.f T.a8.fd ["_law_word", "_law_web_here"] (Tp T.ac):=by
 have G_standing_sets:=u8 (P:=P) (w:=w) (base:=base) T;have G_whole_sets:=i7 (P:=P) (w:=w) (base:=base) T;have G_outright_sets:=u9 (P:=P) (w:=w) (base:=base) T;have G_greatest_sets:=t7 (P:=P) (w:=w) (base:=base) T;have G_tellings:=Jj (P:=P) (w:=w) (base:=base) T;have sc:=o8;refine T.a8.F.ok o8 (fun vs H Q E h=>?_) (fun cdv A outer s H vs Q E hr h=>?_)
 .obtain⟨wd,wb,ns,qs,rfl,_⟩:=h;rfl
 .obtain⟨wd,wb,ns,qs,rfl,hW,ln,h⟩:=h;refine⟨_,(B1 (C4 (i:=2) sc.nd rfl (.inl rfl) E3)
   (B1 (Yu (fun _ _ z=>z) rfl rfl rfl T.bl T.aI (Ln (fun _ _ z=>z) (C6 K6 (pv 0) E3 (D6 _)) (Ao (i:=2) sc.nd rfl (.inl rfl) (i9 (fun _ _ z=>z) G_standing_sets (Rm hr) rfl T.au.m T.au.F.kp T.au.b (A8 (pv 1) B0))) (Ln (fun _ _ z=>z) (C6 K6 (pv 0) E3 (D6 _)) (Ao (i:=2) sc.nd rfl (.inl rfl) (i9 (fun _ _ z=>z) G_whole_sets (Rm hr) rfl T.aD.m T.aD.F.kp T.aD.b (A8 (pv 1) B0))) (Ln (fun _ _ z=>z) (C6 K6 (pv 0) E3 (D6 _)) (Ao (i:=2) sc.nd rfl (.inl rfl) (i9 (fun _ _ z=>z) G_tellings (Rm hr) rfl T.aS.m T.aS.F.kp T.aS.b (A8 (pv 1) B0))) (Ln (fun _ _ z=>z) (C6 K6 (pv 0) E3 (D6 _)) (Ao (i:=2) sc.nd rfl (.inl rfl) (i9 (fun _ _ z=>z) G_greatest_sets (Rm hr) rfl T.av.m T.av.F.kp T.av.b (A8 (pv 1) B0))) (Ao (i:=2) sc.nd rfl (.inl rfl) (i9 (fun _ _ z=>z) G_outright_sets (Rm hr) rfl T.aw.m T.aw.F.kp T.aw.b (A8 (pv 1) B0)))))))
   (fun _=>(B2 (C4 (i:=2) sc.nd rfl (.inl rfl) E3))))
   (B2 (C1 (pv 2))))),?_⟩
  refine B5 fun N1 hN1=>?_;refine hN1 _ _ (B5 fun N2 hN2=>?_);rcases h with⟨rfl,q⟩ | ⟨rfl,q⟩ | ⟨rfl,q⟩ | ⟨rfl,q⟩ | ⟨rfl,q⟩
  .refine ex1 rfl ⟨rfl,_,rfl,Mh ?_⟩;refine ex1 rfl ⟨wb,ns,qs,rfl,hW,ln,fun A B Ms mA mB nd mm=>⟨fun r ts H' le s hr er' LL nr pm srt=>hN2 _ _ (ex1 rfl ((q A B Ms mA mB nd mm).1 r ts H' le s hr er' LL nr pm srt)),fun gt=>?_⟩⟩;intro H' z k e;exact⟨T.ak,_,rfl,T.aI,by simp,fun _ _=>hN2 _ _ (ex1 rfl ((q A B Ms mA mB nd mm).2 gt H' fun b o eb=>k b o eb BV))⟩
  .refine ex1 rfl ⟨rfl,_,rfl,X1 ?_⟩;refine ex1 rfl ⟨rfl,_,rfl,Mh ?_⟩;refine ex1 rfl ⟨wb,ns,qs,rfl,hW,ln,fun A B Ms mA mB nd mm=>⟨fun r ts H' le s hr er' LL nr pm srt=>hN2 _ _ (ex1 rfl ((q A B Ms mA mB nd mm).1 r ts H' le s hr er' LL nr pm srt)),fun gt=>?_⟩⟩;intro H' z k e;exact⟨T.ak,_,rfl,T.aI,by simp,fun _ _=>hN2 _ _ (ex1 rfl ((q A B Ms mA mB nd mm).2 gt H' fun b o eb=>k b o eb BV))⟩
  .refine ex1 rfl ⟨rfl,_,rfl,X1 ?_⟩;refine ex1 rfl ⟨rfl,_,rfl,X1 ?_⟩;refine ex1 rfl ⟨rfl,_,rfl,Mh ?_⟩;refine ex1 rfl ⟨wb,ns,qs,rfl,hW,ln,fun A B Ms mA mB nd mm=>⟨fun r ts H' le s hr er' LL nr pm srt=>hN2 _ _ (ex1 rfl ((q A B Ms mA mB nd mm).1 r ts H' le s hr er' LL nr pm srt)),fun gt=>?_⟩⟩;intro H' z k e;exact⟨T.ak,_,rfl,T.aI,by simp,fun _ _=>hN2 _ _ (ex1 rfl ((q A B Ms mA mB nd mm).2 gt H' fun b o eb=>k b o eb BV))⟩
  .refine ex1 rfl ⟨rfl,_,rfl,X1 ?_⟩;refine ex1 rfl ⟨rfl,_,rfl,X1 ?_⟩;refine ex1 rfl ⟨rfl,_,rfl,X1 ?_⟩;refine ex1 rfl ⟨rfl,_,rfl,Mh ?_⟩;refine ex1 rfl ⟨wb,ns,qs,rfl,hW,ln,fun A B Ms mA mB nd mm r ts H' s hr er' LL nr pm srt=>hN2 _ _ (ex1 rfl ((q A B Ms mA mB nd mm).1 r ts H' ?_ s hr er' LL nr pm srt))⟩;exact Lw ln nd (fun m hm=>((mm m).mp hm).1.1.1) fun a ha b hb s=>((mm a).mp ha).anti ((mm b).mp hb) s
  .refine ex1 rfl ⟨rfl,_,rfl,X1 ?_⟩;refine ex1 rfl ⟨rfl,_,rfl,X1 ?_⟩;refine ex1 rfl ⟨rfl,_,rfl,X1 ?_⟩;refine ex1 rfl ⟨rfl,_,rfl,X1 ?_⟩;refine ex1 rfl ⟨wb,ns,qs,rfl,hW,ln,fun A B Ms mA mB nd mm=>⟨fun r ts H' le s hr er' LL nr pm srt=>hN2 _ _ (ex1 rfl ((q A B Ms mA mB nd mm).1 r ts H' le s hr er' LL nr pm srt)),fun gt=>?_⟩⟩;intro H' z k e;exact⟨T.ak,_,rfl,T.aI,by simp,fun _ _=>hN2 _ _ (ex1 rfl ((q A B Ms mA mB nd mm).2 gt H' fun b o eb=>k b o eb BV))⟩
end
def El(K:PySem.W.Frag)(H:Hp)(x:Addr×PyData×List V):Prop:=H x.1=some (.lst x.2.2)/\x.2.2.length<=1000/\PyData.canLay0 x.2.1=true/\x.2.1.depth<=10/\∀H':Hp,H' x.1=some (.lst x.2.2)->(∀b ys,H b=some (.tup ys)->H' b=some (.tup ys))->Rp K H' x.2.1 (.ref x.1)
theorem El.keep{K:PySem.W.Frag}{H H':Hp}{x:Addr×PyData×List V}(h:El K H x)(e:H' x.1=some (.lst x.2.2))(t:∀b ys,H b=some (.tup ys)->H' b=some (.tup ys)):El K H' x:=⟨e,h.2.1,h.2.2.1,h.2.2.2.1,fun G eG tG=>h.2.2.2.2 G eG fun b ys z=>tG b ys (t b ys z)⟩
theorem El.same{K:PySem.W.Frag}{H H':Hp}{x:Addr×PyData×List V}(h:El K H x)(s:Same H H'):El K H' x:=h.keep (s _ _ h.1) fun b ys e=>s _ _ e
theorem El.rp{K:PySem.W.Frag}{H:Hp}{x:Addr×PyData×List V}(h:El K H x):Rp K H x.2.1 (.ref x.1):=h.2.2.2.2 H h.1 fun _ _ e=>e
theorem Vy{K:PySem.W.Frag}{H:Hp}:∀{us:List (Addr×PyData×List V)},(∀x∈us,El K H x)->Rps K H (us.map fun x=>x.2.1) (us.map fun x=>V.ref x.1)
 | [],_=>by simp[Rps]
 | x::us,h=>by
  show Rps K H (x.2.1::us.map fun x=>x.2.1) (V.ref x.1::us.map fun x=>V.ref x.1);simp only[Rps];exact⟨_,_,rfl,(h x (A_ ..)).rp,Vy fun y hy=>h y (AO _ hy)⟩
theorem Vi{K:PySem.W.Frag}{H:Hp}{r:Addr}{us:List (Addr×PyData×List V)}(hr:H r=some (.lst (us.map fun x=>V.ref x.1)))(h:∀x∈us,El K H x):Rp K H (.list (us.map fun x=>x.2.1)) (.ref r):=by
 simp only[Rp];exact⟨r,_,rfl,SqL.of hr,Vy h⟩
theorem zBj{K:PySem.W.Frag}{H:Hp}{us:List (Addr×PyData×List V)}(h:∀x∈us,El K H x):Pl (.list (us.map fun x=>x.2.1)):=by
 have h1:∀us:List (Addr×PyData×List V),(∀x∈us,El K H x)->PyData.canLayAll0 (us.map fun x=>x.2.1)=true/\PyData.depthAll (us.map fun x=>x.2.1)<=10:=fun us=>by
  induction us with
  | nil=>exact fun _=>⟨rfl,by simp[PyData.depthAll]⟩
  | cons x us ih =>
   intro h;obtain⟨i1,i2⟩:=ih fun u hu=>h u (AO _ hu);obtain⟨_,_,c,d,_⟩:=h x (A_ ..);rw[AX,PyData.canLayAll0,PyData.depthAll,c,i1];exact⟨rfl,by omega⟩
 obtain⟨a,b⟩:=h1 us h;refine⟨by rw[PyData.canLay0];exact a,?_⟩;rw[PyData.depth];omega
theorem We{xs:List V}{k:Nat}(h:k<=xs.length):Nq xs (some (k:Int)) none=xs.drop k:=by
 unfold Nq;rw[HT.sIx_nat,HT.sIx_none,GQ h];exact CZ (by rw[DJ];omega)
section
variable{P:Program}{w:World}{K:PySem.W.Frag}{mg:Str->Option Value}{base:Heap}
theorem p0:FnScope ["_law_found", "_law_due_here", "_law_k", "_law_one"] ["_law_found", "_law_due_here"] (B4 s_law_right):=fsc
def Di(K:PySem.W.Frag):Sp:=fun vs H Q _=>∃(H0:Hp) (fv:V) (rd:Addr) (ws:List (Addr×PyData×List V)),vs = [fv,.ref rd]/\Same H0 H/\H0 rd=some (.lst (ws.map fun x=>V.ref x.1))/\(∀x∈ws,El K H0 x)/\ws.length<=5000 /\
 ((ws.length<=300/\∃(r:Addr) (us:List (Addr×PyData×List V)),fv = .ref r/\H r=some (.lst (us.map fun x=>V.ref x.1))/\(∀x∈us,El K H x)/\(us.map fun x=>x.1).Nodup/\H0 r=none/\(∀x∈us,H0 x.1=none/\x.1≠r)/\(us.map fun x=>x.2.1)=ws.map fun x=>x.2.1)\/(300<ws.length/\fv = .str "many"))/\∀H',Same H0 H'->Q (.bl true) H'
set_option maxHeartbeats 4000000 in
theorem Es(T:Tx K mg):FnOk P w K mg base CX0 1 T.a9.f T.a9.fd ["_law_found", "_law_due_here"] (Di K):=by
 have sc:=p0;refine T.a9.F.ok p0 (fun vs H Q E h=>?_) (fun cdv A outer s H vs Q E hr h=>?_)
 .obtain⟨H0,fv,rd,ws,rfl,_⟩:=h;rfl
 .obtain⟨H0,fv,rd,ws,rfl,s0,ed,aD,lw,h,q⟩:=h;refine⟨_,(B1 (G9 (C6 zCu (E6 (P3 K) T.az O3 (A8 (pv 1) B0)) B6 (D6 _)) (B2 (C1 (K4 (zEp K hr.units) (pv 0) E3 (D6 _)))) C9)
   (B1 (G9 (PW.pt (Iu (C6 (zAz K hr.units) (pv 0) (pv 1) (D6 _)) (Av (X4 (K2 (E6 (Je K) T.bb R8 (A8 (pv 0) (A8 (Yh T.aZ X6) B0)))))))) (B2 (C1 f7)) C9)
   (B1 (K1 PassesOwn.never rfl (piE K T.aE (A8 (pv 0) B0)) (pgT K (n:=2) (C5 (C3 (i:=2) sc.nd rfl (.inl rfl)) (C5 (C3 (i:=3) sc.nd rfl (.inl rfl)) J1)))
   (B1 (C7 (Bn K PySem.F.plainAttrs_list PySem.F.slot_list_append PySem.F.type_list_append D3 (pv 3) (A8 E3 B0)))
   (B2 (G9 (C6 (zAz K hr.units) (Kh (slL K) (pv 0) (Dw (C2 Y8 (pv 2) B6)) Ro) (Kh (slL K) (pv 1) (Dw (C2 Y8 (pv 2) B6)) Ro) (D6 _)) (B2 (C1 f7)) C9))))
   (B1 (C7 (zAj K PySem.F.plainAttrs_list PySem.F.slot_list_clear PySem.F.type_list_clear Ks (pv 0)))
   (B2 (C1 f7)))))),?_⟩
  have lm:(ws.map fun x=>V.ref x.1).length=ws.length:=AB ..;refine B5 fun N1 hN1=>?_;refine ex1 rfl (B7 (a:=rd) rfl (.inl (SqL.of (s0 _ _ ed))) (B7 rfl rfl ⟨_,rfl,?_⟩));rcases h with⟨le,r,us,rfl,er,aU,nd,hr0,nU,em⟩ | ⟨gt,rfl⟩
  .have lu:us.length=ws.length:=by have:=congrArg List.length em;rw[AB,AB]at this;exact this
   refine Q6 (fun c=>absurd (BL c) (by rw[lm];omega)) (fun _=>hN1 _ _ (B5 fun N2 hN2=>?_));have aDH:∀x∈ws,El K H x:=fun x hx=>(aD x hx).same s0;have r1:=Vi er aU;have r2:=Vi (s0 _ _ ed) aDH;rw[<-em]at r2;refine ex1 rfl (ex1 rfl (Nz r1 r2 (zBj aU) ⟨_,rfl,X1 ?_⟩));refine ex1 rfl ⟨.ref r, "list",_,true,rfl,.lst er,rfl,⟨_,rfl,X1 ?_⟩⟩;refine hN2 _ _ (B5 fun N3 hN3=>?_);refine ex1 rfl ⟨r,ex1 rfl ⟨SqL.of er,Pn (n:=us.length) (fun i σ G=>(∃v2 v3,σ = [some (.ref r),some (.ref rd),v2,v3])/\Same H0 G/\G r=some (.lst (us.map fun x=>V.ref x.1))/\(∀b ys,H b=some (.tup ys)->G b=some (.tup ys))/\∀x∈us.drop i,El K G x) ⟨⟨_,_,rfl⟩,s0,er,fun b ys e=>e,aU⟩ ?_ ?_ ?_ ?_⟩⟩
   .rintro i σ G hi ⟨_,sG,rG,_⟩;exact⟨_,_,SqL.of rG,by rw[AH,AC hi];rfl⟩
   .rintro σ G ⟨_,sG,rG,_⟩;exact⟨_,SqL.of rG,by rw[AB]⟩
   .rintro i σ G y H' hi ⟨⟨v2,v3,rfl⟩,sG,rG,tG,aG⟩ ⟨tt,y,rfl,htt,rfl,hx⟩;have hx:=hx _ (SqL.of rG);have hi':us[i]?=some us[i]:=AC hi;rw[AH,hi']at hx;cases hx;have mx:=GI hi;have dr:us.drop i=us[i]::us.drop (i+1):=CF hi;refine⟨tt,ex1 rfl ⟨SqT.of upd_same,rfl,_,_,rfl,_,_,rfl,rfl,?_⟩⟩;have ut:=Same.new (o:=.tup [.int (i:Int),.ref us[i].1]) htt;have sG:=sG.trans ut;have rG:=ut _ _ rG;have aG:∀x∈us.drop i,El K (upd G tt (.tup [.int (i:Int),.ref us[i].1])) x:=fun x hx=>(aG x hx).same ut;have tG:∀b ys,H b=some (.tup ys)->(upd G tt (.tup [.int (i:Int),.ref us[i].1])) b=some (.tup ys):=fun b ys e=>ut _ _ (tG b ys e);generalize upd G tt (.tup [.int (i:Int),.ref us[i].1])=G1 at sG rG aG tG⊢;have eX:=aG us[i] (by rw[dr];exact A_ ..);refine B5 fun M1 hM1=>?_;refine ex1 rfl ⟨.inl ⟨rfl,_,SqL.of eX.1⟩,us[i].1,_,_,rfl,rfl,eX.1,by have:=eX.2.1;rw[sizeLine_eq];omega,?_⟩;have ke:∀b ys,G1 b=some (.tup ys)->(upd G1 us[i].1 (.lst (us[i].2.2 ++ [.str "more"]))) b=some (.tup ys):=fun b ys e=>by rw[B3 (X0 e eX.1 (by intro z;cases z))];exact e
    have sG2:Same H0 (upd G1 us[i].1 (.lst (us[i].2.2 ++ [.str "more"]))):=sG.upd (nU _ mx).1;have rG2:(upd G1 us[i].1 (.lst (us[i].2.2 ++ [.str "more"]))) r=some (.lst (us.map fun x=>V.ref x.1)):=by rw[B3 (nU _ mx).2.symm];exact rG
    have aG2:∀x∈us.drop (i+1),El K (upd G1 us[i].1 (.lst (us[i].2.2 ++ [.str "more"]))) x:=fun x hx=>by
     have ne:x.1≠us[i].1:=by
      have nd3:((us.drop i).map fun t=>t.1).Nodup:=nd.sublist ((FC i us).map _);rw[dr,AX]at nd3;exact fun z=>(D_.mp nd3).1 (AK.mpr ⟨x,hx,z⟩)
     have e:=aG x (by rw[dr];exact AO _ hx);exact e.keep (by rw[B3 ne];exact e.1) ke
    have tG2:∀b ys,H b=some (.tup ys)->(upd G1 us[i].1 (.lst (us[i].2.2 ++ [.str "more"]))) b=some (.tup ys):=fun b ys e=>ke b ys (tG b ys e);generalize upd G1 us[i].1 (.lst (us[i].2.2 ++ [.str "more"]))=G2 at sG2 rG2 aG2 tG2⊢;refine hM1 _ _ ?_;have k1:((i:Int)+1) =((i+1:Nat):Int):=by omega
    refine ex1 rfl (ex1 rfl (B7 rfl rfl ⟨_,rfl,r,_,rfl,SqL.of rG2,fun z1 hz1=>?_⟩));have u1:=Same.new (o:=.lst (Nq (us.map fun x=>V.ref x.1) (some ((i:Int)+1)) none)) hz1;have f1:(upd G2 z1 (.lst (Nq (us.map fun x=>V.ref x.1) (some ((i:Int)+1)) none))) z1=some (.lst ((us.drop (i+1)).map fun x=>V.ref x.1)):=by rw[upd_same,k1,We (by rw[AB];omega),IK]
    generalize upd G2 z1 (.lst (Nq (us.map fun x=>V.ref x.1) (some ((i:Int)+1)) none))=G3 at u1 f1⊢;have s3:=sG2.trans u1;refine ex1 rfl (ex1 rfl (B7 rfl rfl ⟨_,rfl,rd,_,rfl,SqL.of (s3 _ _ ed),fun z2 hz2=>?_⟩));have u2:=Same.new (o:=.lst (Nq (ws.map fun x=>V.ref x.1) (some ((i:Int)+1)) none)) hz2;have f2:(upd G3 z2 (.lst (Nq (ws.map fun x=>V.ref x.1) (some ((i:Int)+1)) none))) z2=some (.lst ((ws.drop (i+1)).map fun x=>V.ref x.1)):=by rw[upd_same,k1,We (by rw[AB];omega),IK]
    generalize upd G3 z2 (.lst (Nq (ws.map fun x=>V.ref x.1) (some ((i:Int)+1)) none))=G4 at u2 f2⊢;have s4:=s3.trans u2;have a4:∀x∈us.drop (i+1),El K G4 x:=fun x hx=>(aG2 x hx).same (u1.trans u2);have b4:∀x∈ws.drop (i+1),El K G4 x:=fun x hx=>(aD x (EF hx)).same s4;have q1:=Vi (u2 _ _ f1) a4;have q2:=Vi f2 b4;have em2:((ws.drop (i+1)).map fun x=>x.2.1) =(us.drop (i+1)).map fun x=>x.2.1:=by rw[IK,IK,em]
    rw[em2]at q2;exact Nz q1 q2 (zBj a4) ⟨_,rfl,X1 ⟨⟨_,_,rfl⟩,s4,u2 _ _ (u1 _ _ rG2),fun b ys e=>u2 _ _ (u1 _ _ (tG2 b ys e)),a4⟩⟩
   .rintro σ G ⟨⟨v2,v3,rfl⟩,sG,rG,_⟩;refine hN3 _ _ (B5 fun N4 hN4=>?_);exact ex1 rfl ⟨.inl ⟨rfl,_,SqL.of rG⟩,r,_,rfl,rfl,rG,hN4 _ _ (q _ (sG.upd hr0))⟩
  .refine Q6 (fun _=>?_) (fun c=>absurd (AQ (by rw[lm];omega)) c);have rs:Rp K H (.str "many") (.str "many"):=by simp only[Rp]
   exact ex1 rfl (Xo rs rs ⟨by rw[PyData.canLay0];decide +kernel,by rw[PyData.depth];decide⟩ (q H s0))
theorem Az:FnScope ["_law_view", "_law_masks_here"] ["_law_view", "_law_masks_here"] (B4 s_law_sets):=fsc
def Uo:Sp:=fun vs H Q _=>∃(p v l:Addr) (ns:List Str) (ks:List (Str×Str)) (A B Ms:List Nat),vs = [.ref v,.ref l]/\ViewAt H p v ns ks A B/\ns.length<=100/\H l=some (.lst (Ms.map E4))/\Ms.length<=5000 /\
 ∀r (ts:List (Addr×List Str)) H',Same H H'->H r=none->H' r=some (.lst (ts.map fun t=>V.ref t.1))->LLn H H' ts->(∀t∈ts,t.1≠r)->(ts.map fun t=>t.2).Perm (Ms.map (setOf ns))->ts.Pairwise (fun a b=>TS.lexB (TS.kyS b.2) (TS.kyS a.2)=false)->Q (.ref r) H'
theorem Jg(T:Tx K mg):FnOk P w K mg base CX0 2 T.aM.f T.aM.fd ["_law_view", "_law_masks_here"] Uo:=by
 have G_law_set_of:=Ct (P:=P) (w:=w) (base:=base) T;have sc:=Az;refine T.aM.F.ok Az (fun vs H Q E h=>?_) (fun cdv A outer s H vs Q E hr h=>?_)
 .obtain⟨p,v,l,ns,ks,A,B,Ms,rfl,_⟩:=h;rfl
 .obtain⟨p,v,l,ns,ks,A,B,Ms,rfl,hV,ln,el,lM,q⟩:=h;refine⟨_,(B2 (C1 (E6 (Db K hr.units) T.aC J3 (A8 (T0 (N':=["_law_mask", "_law_view"]) (cap:=[none,some 0]) (cl:=[("_law_view",_)]) (K0 ⟨⟨rfl,rfl,rfl,rfl⟩,trivial⟩ ⟨rfl,trivial⟩) rfl (piL K (pv 1)) (fun _ _ _ _=>by exact⟨(pgC 0),E5,(D0 T.a1 G_law_set_of (Rm hr) (A8 (pv 1) (A8 (pv 0) B0)))⟩)) B0)))),?_⟩;refine ex1 rfl ⟨l,rfl,⟨_,SqL.of el⟩,fun D hD=>?_⟩;refine Ek (ns:=ns) (asL (SqL.of el)) lM hD (fun m G R sG hR=>?_) fun σ' G ts sG eG LG nG mG=>?_
  .exact ex1 rfl (ex1 rfl ⟨p,v,m,ns,ks,A,B,rfl,hV.same sG,ln,fun z G' hz s' ez=>hR z G' hz s' ez⟩)
  .refine⟨D,ts,rfl,SqL.of eG,LG.at_,fun r ts' hr0 pt srt=>?_⟩;have ur:=Same.new (o:=.lst (ts'.map fun t=>V.ref t.1)) hr0;refine q r ts' _ (sG.trans ur) (sG.free hr0) upd_same ⟨fun t ht=>ur _ _ (LG.at_ t (pt.mem_iff.mp ht)),(pt.map _).nodup_iff.mpr LG.nd,fun t ht=>LG.new t (pt.mem_iff.mp ht)⟩ (fun t ht=>A9 (LG.at_ t (pt.mem_iff.mp ht)) hr0) ?_ srt;refine(pt.map fun t=>t.2).trans ?_;rw[mG]
theorem T2:FnScope ["_law_masks_here"] ["_law_masks_here"] (B4 s_law_greatest):=fsc
def Io:Sp:=fun vs H Q _=>∃(l:Addr) (Ws:List Nat),vs = [.ref l]/\H l=some (.lst (Ws.map E4))/\Ws.length<=5000/\∀D H',H D=none->Same H H'->H' D=some (.lst ((Ws.filter fun m=>pB (∀o∈Ws,Sub m o->o=m)).map E4))->Q (.ref D) H'
theorem Ay(T:Tx K mg):FnOk P w K mg base CX0 1 T.aT.f T.aT.fd ["_law_masks_here"] Io:=by
 have sc:=T2;refine T.aT.F.ok T2 (fun vs H Q E h=>?_) (fun cdv A outer s H vs Q E hr h=>?_)
 .obtain⟨l,Ws,rfl,_⟩:=h;rfl
 .obtain⟨l,Ws,rfl,el,lw,q⟩:=h;refine⟨_,(B2 (C1 (zBv (N':=["_law_one", "_law_masks_here"]) (cap:=[none,some 0]) (cl:=[("_law_masks_here",_)]) (zDy (fun _=>⟨⟨rfl,rfl,rfl,rfl⟩,trivial⟩) ⟨rfl,trivial⟩) rfl (piL K (pv 0)) (fun _ _ _ _=>by exact⟨(pgD 0),(T7 (X4 (K2 (E6 (Ri K) T.bs Rc (A8 (T0 (N':=["_law_other", "_law_one"]) (cap:=[none,some 0]) (cl:=[("_law_one",_)]) (K0 ⟨⟨rfl,rfl,rfl,rfl⟩,trivial⟩ ⟨rfl,trivial⟩) rfl (piL K (pv 1)) (fun _ _ _ _=>by exact⟨(pgC 0),E5,(Lv (K4 Yn (pv 1) (pv 0) (D6 _)) (Ka (K4 K6 (C2 J6 (pv 1) (Mb Py (pv 0))) B6 (D6 _))))⟩)) B0))))),(pv 0)⟩)))),?_⟩;refine ex1 rfl ⟨l,rfl,⟨_,SqL.of el⟩,fun D hD=>?_⟩;refine Dy E4 (asL (SqL.of el)) (fun m=>pB (∀o∈Ws,Sub m o->o=m)) lw hD (fun m hm G sG M hM=>?_) (fun m hm G sG M hM=>ex1 rfl hM) fun σ' G sG eG=>q D G hD sG eG;have el2:=sG _ _ el;refine ex1 rfl ⟨l,rfl,⟨_,SqL.of el2⟩,fun E hE=>?_⟩;refine Dy (fun o=>V.bl (pB (m≠o/\Sub m o))) (asL (SqL.of el2)) (fun _=>true) lw hE (fun o _ G2 s2 M hM=>hM G2 fun b o e=>e) (fun o ho G2 s2 M2 hM2=>?_) fun σ' G2 s2 e2=>?_
  .refine ex1 rfl (ex1 rfl ⟨rfl,_,rfl,Q6 (fun ne=>?_) (fun ne=>?_)⟩)
   .have ne:m≠o:=fun z=>by rw[z]at ne;simp at ne
    refine ex1 rfl (ex1 rfl ⟨_,rfl,B7 rfl rfl ⟨rfl,?_⟩⟩);rw[<-Fc (show decide (V.int (Builtin.bitAnd (m:Int) (Builtin.bitNot (o:Int)))=V.int 0)=true↔(m≠o/\Sub m o)from(T3 m o).trans ⟨fun h=>⟨ne,h⟩,(·.2)⟩)]at hM2;exact hM2
   .have eo:m=o:=HF fun z=>ne (by
     have:E4 m≠E4 o:=fun y=>z (by have:=V.int.inj y;omega);rw[AN this];rfl)
    rw[<-Fc (show false=true↔(m≠o/\Sub m o)from⟨fun z=>(by cases z),fun h=>absurd eo h.1⟩)]at hM2;exact hM2
  rw[GC.mpr fun _ _=>rfl]at e2;have e2:G2 E=some (.lst ((Ws.map fun o=>pB (m≠o/\Sub m o)).map V.bl)):=by rw[e2,BZ];rfl
  refine⟨E,_,rfl,SqL.of e2,_,rfl,?_⟩;have e:(!(Ws.map fun o=>pB (m≠o/\Sub m o)).any id)=pB (∀o∈Ws,Sub m o->o=m):=Fc (by
   rw[EI,BJ,ne_eq,HD];constructor
   .intro h o ho s;refine HF fun ne=>h ⟨_,AK.mpr ⟨o,ho,rfl⟩,pB_iff.mpr ⟨fun z=>ne z.symm,s⟩⟩
   .rintro h ⟨_,hb,z⟩;obtain⟨o,ho,rfl⟩:=AK.mp hb;obtain⟨n1,s⟩:=pB_iff.mp z;exact n1 (h o ho s).symm)
  dsimp only;rw[e];exact hM G2 s2
end
theorem zCa(a b:Nat):decide (V.int (a:Int)=V.int (b:Int))=true↔∀j,a.testBit j=true↔b.testBit j=true:=by
 rw[BK];constructor
 .intro e j;injection e with e;rw[Int.ofNat.inj e]
 .intro h;rw[BQ fun j=>CN.mpr (h j)]
theorem Xj(a n:Nat):decide (V.int (a:Int)=V.int (((2^n:Nat):Int)-1))=true↔∀j,a.testBit j=true↔j<n:=by
 have h:((2^n:Nat):Int)-1 =((2^n-1:Nat):Int):=by
  have:=Nat.two_pow_pos n;omega
 rw[h,zCa];constructor
 .intro h j;rw[h j,G_,BK]
 .intro h j;rw[h j,G_,BK]
section
variable{P:Program}{w:World}{K:PySem.W.Frag}{mg:Str->Option Value}{base:Heap}
theorem P1:FnScope ["_law_view", "_law_mask"] ["_law_view", "_law_mask"] (B4 s_law_is_outright):=fsc
theorem Y6(T:Tx K mg):FnOk P w K mg base CX0 3 T.aJ.f T.aJ.fd ["_law_view", "_law_mask"] (Fw fun ns A B m=>QuietB B m/\∀j,(X7 B m j\/m.testBit j=true)↔j<ns.length):=by
 have G_law_is_quiet:=N9 (P:=P) (w:=w) (base:=base) T;have G_law_hit:=U8 (P:=P) (w:=w) (base:=base) T;have sc:=P1;refine T.aJ.F.ok P1 (fun vs H Q E h=>?_) (fun cdv A outer s H vs Q E hr h=>?_)
 .obtain⟨p,n,a,ss,ps,A,B,rfl,_⟩:=h;rfl
 .obtain⟨p,v,m,ns,ks,A,B,rfl,hV,ln,q⟩:=h;refine⟨_,(B2 (C1 (Lv (D0 T.aA G_law_is_quiet (Rm hr) (A8 (pv 0) (A8 (pv 1) B0))) (Ka (K4 K6 (C2 Q2 (D0 T.aR G_law_hit (Rm hr) (A8 (pv 0) (A8 (pv 1) B0))) (pv 1)) (C2 zBi (C2 y0 B6 (E6 (P3 K) T.az O3 (A8 (J7 (ixL K) (pv 0) B6 (fun _ _=>rfl)) B0))) B6) (D6 _)))))),?_⟩;refine⟨_,rfl,_,rfl,p,v,m,ns,ks,A,B,rfl,hV,ln,fun b hb=>⟨b,rfl,?_⟩⟩;obtain⟨va,vs,vt,f1,f2,f3,f4,_⟩:=hV.ex;refine Q6 (fun c=>?_) (fun c=>?_)
  .refine ex1 rfl (ex1 rfl (Th (a:=p) (b:=v) (c:=m) (d:=ns) (e:=ks) (f:=A) (g:=B) rfl hV ln fun hit hhit=>?_));refine⟨_,rfl,_,_,rfl,rfl,?_⟩;refine⟨_,rfl,v,_,_,_,rfl,rfl,SqL.of f1,rfl,va,_,rfl,.inl (SqL.of f2),_,_,rfl,rfl,⟨by omega,by rw[AB];omega,by decide⟩,?_⟩;refine⟨_,_,rfl,rfl,rfl,q _ ?_⟩;rw[AB,Yf];show decide (V.int (Builtin.bitOr (hit:Int) (m:Int))=V.int (((2^ns.length:Nat):Int)-1))=true↔_;rw[bor,Xj];have e:∀j,(hit ||| m).testBit j=true↔(X7 B m j\/m.testBit j=true):=fun j=>by
    rw[BO,CC,hhit j]
   exact⟨fun h=>⟨hb.mp c,fun j=>(e j).symm.trans (h j)⟩,fun h j=>(e j).trans (h.2 j)⟩
  .exact q false ⟨fun z=>(by cases z),fun h=>absurd (hb.mpr h.1) c⟩
end
def DS(H0 H:Hp)(ns:List Str)(A B:List Nat)(Tg:Tgt)(r:Addr):Prop:=∃(ts:List (Addr×List Str)) (Ms:List Nat),H0 r=none/\(∀t∈ts,H0 t.1=none)/\H r=some (.lst (ts.map fun t=>V.ref t.1))/\(∀t∈ts,H t.1=some (.lst (t.2.map V.str)))/\Ms.Nodup/\(∀m,m∈Ms↔Tg ns.length A B m)/\(ts.map fun t=>t.2).Perm (Ms.map (setOf ns))/\ts.Pairwise (fun a b=>TS.lexB (TS.kyS b.2) (TS.kyS a.2)=false)/\Ms.length<=1024
def DP(H0 H:Hp)(ns:List Str)(qs:List PA2)(A B:List Nat)(r:Addr):Prop:=∃(ts:List LP) (Ms:List Nat),H0 r=none/\(∀t∈ts,H0 t.1=none)/\H r=some (.lst (ts.map fun t=>V.ref t.1))/\(∀t∈ts,LPIn H t)/\Ms.Nodup/\(∀m,m∈Ms↔WholeM ns.length A B m)/\(ts.map fun t=>nw t.2).Perm (Ms.map fun m=>E7 ns qs (setOf ns m))/\ts.Pairwise (fun a b=>TS.lexB (TS.kyP (nw b.2)) (TS.kyP (nw a.2))=false)/\Ms.length<=1024
theorem DS.same{H0 H H':Hp}{ns:List Str}{A B:List Nat}{Tg:Tgt}{r:Addr}(h:DS H0 H ns A B Tg r)(s:Same H H'):DS H0 H' ns A B Tg r:=let⟨ts,Ms,n1,n2,a,b,c⟩:=h;⟨ts,Ms,n1,n2,s _ _ a,fun t ht=>s _ _ (b t ht),c⟩
theorem DP.same{H0 H H':Hp}{ns:List Str}{qs:List PA2}{A B:List Nat}{r:Addr}(h:DP H0 H ns qs A B r)(s:Same H H'):DP H0 H' ns qs A B r:=let⟨ts,Ms,n1,n2,a,b,c⟩:=h;⟨ts,Ms,n1,n2,s _ _ a,fun t ht=>Cn (b t ht) s,c⟩
theorem DS.keep{H0 H H':Hp}{ns:List Str}{A B:List Nat}{Tg:Tgt}{r:Addr}(h:DS H0 H ns A B Tg r)(s:∀b xs,H b=some (.lst xs)->H0 b=none->H' b=some (.lst xs)):DS H0 H' ns A B Tg r:=let⟨ts,Ms,n1,n2,a,b,c⟩:=h;⟨ts,Ms,n1,n2,s _ _ a n1,fun t ht=>s _ _ (b t ht) (n2 t ht),c⟩
theorem DP.keep{H0 H H':Hp}{ns:List Str}{qs:List PA2}{A B:List Nat}{r:Addr}(h:DP H0 H ns qs A B r)(s:∀b xs,H b=some (.lst xs)->H0 b=none->H' b=some (.lst xs))(s2:∀b xs,H b=some (.tup xs)->H' b=some (.tup xs)):DP H0 H' ns qs A B r:=let⟨ts,Ms,n1,n2,a,b,c⟩:=h;⟨ts,Ms,n1,n2,s _ _ a n1,fun t ht=>⟨s _ _ (b t ht).1 (n2 t ht),fun r hr=>s2 _ _ ((b t ht).2 r hr)⟩,c⟩
theorem z7{H:Hp}{d b:Addr}{kvs:List (Key×V)}{o:HO}{xs:List V}(e:H d=some (.dK kvs))(h:H b=some (.lst xs)):(upd H d o) b=some (.lst xs):=(B3 (X0 h e (by intro z;cases z))).trans h
theorem ViewAt.dict{H:Hp}{p v d:Addr}{ns:List Str}{ks:List (Str×Str)}{A B:List Nat}{kvs:List (Key×V)}{o:HO}(h:ViewAt H p v ns ks A B)(e:H d=some (.dK kvs)):ViewAt (upd H d o) p v ns ks A B:=by
 obtain⟨⟨a,b,c,e1,e2,e3,e4,n1,n2,n3,n4⟩,h1,h2⟩:=h;exact⟨⟨a,b,c,z7 e e1,z7 e e2,z7 e e3,z7 e e4,n1,n2,n3,n4⟩,h1,h2⟩
section
variable{P:Program}{w:World}{K:PySem.W.Frag}{mg:Str->Option Value}{base:Heap}
theorem Bv:FnScope ["_law_names_here", "_law_strikes_here", "_law_view", "_law_masks_here", "_law_whole", "_law_outright", "_law_due_here"] ["_law_names_here", "_law_strikes_here"] (B4 s_law_due):=fsc
def Uy:Sp:=fun vs H Q _=>∃(n a:Addr) (ss:List Str) (ps:List PA2),vs = [.ref n,.ref a]/\H n=some (.lst (ss.map V.str))/\M8 ss/\H a=some (.lst (G6 ps))/\(∀q∈ps,E2 H q)/\StrkOk ss ps/\ss.length<=10 /\
 ∀d (kvs:List (Key×V)) (ns:List Str) (A B:List Nat) (rS rW rG rO rT:Addr) H',H d=none->Same H H'->H' d=some (.dK kvs)->P2 kvs (.inr "standing")=some (.ref rS)->P2 kvs (.inr "whole")=some (.ref rW)->P2 kvs (.inr "greatest")=some (.ref rG)->P2 kvs (.inr "outright")=some (.ref rO)->P2 kvs (.inr "tellings")=some (.ref rT) ->
  ns.Perm ss->ns.Pairwise leS->MB ns ((ps.map fun q=>q.2).map fun k=>(k.2,k.1)) A->MB ns (ps.map fun q=>q.2) B->DS H H' ns A B StandM rS->DS H H' ns A B WholeM rW->DS H H' ns A B (MaxM WholeM) rG->DS H H' ns A B OutM rO->DP H H' ns ps A B rT->Q (.ref d) H'
set_option maxHeartbeats 4000000 in
theorem Md(T:Tx K mg):FnOk P w K mg base CX0 5 T.bk.f T.bk.fd ["_law_names_here", "_law_strikes_here"] Uy:=by
 have G_law_masks:=Gk (P:=P) (w:=w) (base:=base) T;have G_law_all_standing:=Y2 (P:=P) (w:=w) (base:=base) T;have G_law_sets:=Jg (P:=P) (w:=w) (base:=base) T;have G_law_kept:=w8 (P:=P) (w:=w) (base:=base) T;have G_law_is_outright:=Y6 (P:=P) (w:=w) (base:=base) T;have G_law_greatest:=Ay (P:=P) (w:=w) (base:=base) T;have G_law_words:=Ey (P:=P) (w:=w) (base:=base) T;have sc:=Bv;refine T.bk.F.ok Bv (fun vs H Q E h=>?_) (fun cdv A outer s H vs Q E hr h=>?_)
 .obtain⟨n,a,ss,ps,rfl,_⟩:=h;rfl
 .obtain⟨n,a,ss,ps,rfl,hn,N,ha,pin,O,ln,q⟩:=h;have hu:=u7 hr;refine⟨_,(B1 (C4 (i:=2) sc.nd rfl (.inr rfl) (D0 T.a6 G_law_masks (Rm hr) (A8 (pv 0) (A8 (pv 1) B0))))
   (B1 (C4 (i:=3) sc.nd rfl (.inl rfl) (D0 T.aG G_law_all_standing (Rm hr) (A8 (pv 2) B0)))
   (B1 (Jn (i:=4) (N':=["_law_mask", "_law_view"]) (cap:=[none,some 2]) (cl:=[("_law_view",_)]) sc.nd rfl (.inl rfl) (K0 ⟨⟨rfl,rfl,rfl,rfl⟩,trivial⟩ ⟨rfl,trivial⟩) rfl (piL K (pv 3)) (fun _ _ _ _=>by exact⟨(pgC 0),(T7 (C6 K6 (pv 0) (D0 T.a2 G_law_kept (Rm hr) (A8 (pv 1) (A8 (pv 0) B0))) (D6 _))),(pv 0)⟩))
   (B1 (Jn (i:=5) (N':=["_law_mask", "_law_view"]) (cap:=[none,some 2]) (cl:=[("_law_view",_)]) sc.nd rfl (.inl rfl) (K0 ⟨⟨rfl,rfl,rfl,rfl⟩,trivial⟩ ⟨rfl,trivial⟩) rfl (piL K (pv 3)) (fun _ _ _ _=>by exact⟨(pgC 0),(T7 (K2 (D0 T.aJ G_law_is_outright (Rm hr) (A8 (pv 1) (A8 (pv 0) B0))))),(pv 0)⟩))
   (B1 (C4 (i:=6) sc.nd rfl (.inl rfl) (Xw (Kw E3 (D0 T.aM G_law_sets (Rm hr) (A8 (pv 2) (A8 (pv 3) B0))) (Kw E3 (D0 T.aM G_law_sets (Rm hr) (A8 (pv 2) (A8 (pv 4) B0))) Zl)) rfl rfl (by intro z;cases z) (by decide)))
   (B1 (Hz hu (pv 6) E3 (D0 T.aM G_law_sets (Rm hr) (A8 (pv 2) (A8 (D0 T.aT G_law_greatest (Rm hr) (A8 (pv 4) B0)) B0))) rfl)
   (B1 (Hz hu (pv 6) E3 (D0 T.aM G_law_sets (Rm hr) (A8 (pv 2) (A8 (pv 5) B0))) rfl)
   (B1 (Hz hu (pv 6) E3 (E6 (Hj K hr.units) T.aC J3 (A8 (T0 (N':=["_law_mask", "_law_view"]) (cap:=[none,some 2]) (cl:=[("_law_view",_)]) (K0 ⟨⟨rfl,rfl,rfl,rfl⟩,trivial⟩ ⟨rfl,trivial⟩) rfl (piL K (pv 4)) (fun _ _ _ _=>by exact⟨(pgC 0),E5,(D0 T.a7 G_law_words (Rm hr) (A8 (pv 1) (A8 (pv 0) B0)))⟩)) B0)) rfl)
   (B2 (C1 (pv 6))))))))))),?_⟩
  refine B5 fun N1 hN1=>?_;refine ex1 rfl (ex1 rfl (zEq (a:=n) (b:=a) (c:=ss) (d:=ps) rfl hn N ha pin O fun v ns A B H1 hv s1 pm srt V1=>?_));have V1:=V1 n _ hn;have ln':ns.length<=10:=by rw[pm.length_eq];exact ln
  refine hN1 _ _ (B5 fun N2 hN2=>?_);refine ex1 rfl ⟨n,v,ns,_,A,B,rfl,V1,ln',fun l0 Ms0 H2 hl0 s2 el0 nd0 mm0 lM0=>?_⟩;have V2:=V1.same s2;have s2:=s1.trans s2;refine hN2 _ _ (B5 fun N3 hN3=>?_);refine ex1 rfl ⟨l0,rfl,⟨_,SqL.of el0⟩,fun D hD=>?_⟩;refine Dy E4 (asL (SqL.of el0)) (fun m=>pB (∀j,m.testBit j=true↔S9 ns.length A B m j)) (by omega) hD (fun m hm G1 s1 M hM=>?_) (fun m hm G1 s1 M hM=>ex1 rfl hM) fun σ' H3 s3 e3=>?_
  .refine ex1 rfl (ex1 rfl (ex1 rfl ⟨n,v,m,ns,_,A,B,rfl,V2.same s1,by omega,fun m' hm'=>⟨rfl,_,rfl,?_⟩⟩));rw[Fc (p:=∀j,m.testBit j=true↔S9 ns.length A B m j) (b:=decide (E4 m=V.int (m':Int)))]
   .exact hM G1 fun b o e=>e
   .rw[BK];constructor
    .intro z j;have e:m=m':=by have:=V.int.inj z;omega
     rw[<-hm' j,<-e]
    .intro h;have e:m=m':=BQ fun j=>CN.mpr ((h j).trans (hm' j).symm);rw[<-e];rfl
  have ndW:=nd0.sublist (DD (p:=fun m=>pB (∀j,m.testBit j=true↔S9 ns.length A B m j)));have mmW:∀m,m∈Ms0.filter (fun m=>pB (∀j,m.testBit j=true↔S9 ns.length A B m j))↔WholeM ns.length A B m:=fun m=>by
   rw[BC,mm0,pB_iff];exact⟨fun h=>⟨h.1,fun j y=>(h.2 j).mpr y⟩,fun h=>⟨h.1,fun j=>⟨fun y=>h.1.2.2 j y,h.2 j⟩⟩⟩
  have lW:=Nat.le_trans (CB (fun m=>pB (∀j,m.testBit j=true↔S9 ns.length A B m j)) Ms0) lM0;generalize Ms0.filter (fun m=>pB (∀j,m.testBit j=true↔S9 ns.length A B m j))=MW at e3 ndW mmW lW;have V3:=V2.same s3;have el0:=s3 _ _ el0;have s3:=s2.trans s3;refine hN3 _ _ (B5 fun N4 hN4=>?_);refine ex1 rfl ⟨l0,rfl,⟨_,SqL.of el0⟩,fun D4 hD4=>?_⟩;refine Dy E4 (asL (SqL.of el0)) (fun m=>pB (QuietB B m/\∀j,(X7 B m j\/m.testBit j=true)↔j<ns.length)) (by omega) hD4 (fun m hm G1 s1 M hM=>?_) (fun m hm G1 s1 M hM=>ex1 rfl hM) fun σ' H4 s4 e4=>?_
  .refine ex1 rfl (ex1 rfl ⟨n,v,m,ns,_,A,B,rfl,V3.same s1,by omega,fun b hb=>⟨_,rfl,?_⟩⟩);rw[Fc hb];exact hM G1 fun b o e=>e
  have net:=V1.mA.net V1.mB;have ndO:=nd0.sublist (DD (p:=fun m=>pB (QuietB B m/\∀j,(X7 B m j\/m.testBit j=true)↔j<ns.length)));have mmO:∀m,m∈Ms0.filter (fun m=>pB (QuietB B m/\∀j,(X7 B m j\/m.testBit j=true)↔j<ns.length))↔OutM ns.length A B m:=fun m=>by
   rw[BC,mm0,pB_iff];constructor
   .rintro⟨st,qu,h⟩;exact⟨st.1,qu,fun j hj=>((h j).mpr hj).symm⟩
   .intro h;refine⟨h.stand net,h.2.1,fun j=>⟨fun z=>?_,fun hj=>(h.2.2 j hj).symm⟩⟩;rcases z with⟨k,_,e⟩ | z
    .exact(net.lt k j e).2
    .exact h.1 j z
  have lO:=Nat.le_trans (CB (fun m=>pB (QuietB B m/\∀j,(X7 B m j\/m.testBit j=true)↔j<ns.length)) Ms0) lM0;generalize Ms0.filter (fun m=>pB (QuietB B m/\∀j,(X7 B m j\/m.testBit j=true)↔j<ns.length))=MO at e4 ndO mmO lO;have V4:=V3.same s4;have el0:=s4 _ _ el0;have e3:=s4 _ _ e3;have s4:=s3.trans s4;refine hN4 _ _ (B5 fun N5 hN5=>?_);refine fun d hd=>?_;have ud:=Same.new (o:=.dK []) hd;have hdH:H d=none:=s4.free hd;have V5:=V4.same ud;have s5:=s4.trans ud;have el0:=ud _ _ el0;have e3:=ud _ _ e3;have e4:=ud _ _ e4;have fd:(upd H4 d (.dK [])) d=some (.dK []):=upd_same;generalize upd H4 d (.dK [])=H5 at V5 s5 el0 e3 e4 fd⊢;refine ex1 rfl (ex1 rfl ⟨n,v,l0,ns,_,A,B,Ms0,rfl,V5,by omega,el0,by omega,fun rS tS H6 s6 hrS erS LS nrS pmS srtS=>?_⟩);have DSs:DS H H6 ns A B StandM rS:=⟨tS,Ms0,s5.free hrS,fun t ht=>s5.free (LS.new t ht),erS,LS.at_,nd0,mm0,pmS,srtS,lM0⟩;have V6:=V5.same s6;have e3:=s6 _ _ e3;have e4:=s6 _ _ e4;have fd:=s6 _ _ fd;have s6:=s5.trans s6;refine ex1 rfl (ex1 rfl ⟨n,v,D,ns,_,A,B,MW,rfl,V6,by omega,e3,by omega,fun rW tW H7 s7 hrW erW LW nrW pmW srtW=>?_⟩);have DSw:DS H H7 ns A B WholeM rW:=⟨tW,MW,s6.free hrW,fun t ht=>s6.free (LW.new t ht),erW,LW.at_,ndW,mmW,pmW,srtW,lW⟩;have DSs:=DSs.same s7;have V7:=V6.same s7;have e3:=s7 _ _ e3;have e4:=s7 _ _ e4;have fd:=s7 _ _ fd;have s7:=s6.trans s7;refine⟨fd,[(.inr "standing",.ref rS),(.inr "whole",.ref rW)],rfl,by show 2<=15;decide,?_⟩;have kl:∀(G:Hp) (kv:List (Key×V)) (o:HO),G d=some (.dK kv)->∀b ys,G b=some (.lst ys)->(upd G d o) b=some (.lst ys):=fun G kv o e b ys h=>z7 e h;have DSs:=DSs.keep fun b ys h _=>kl _ _ (.dK (P9 [] [(.inr "standing",.ref rS),(.inr "whole",.ref rW)])) fd b ys h;have DSw:=DSw.keep fun b ys h _=>kl _ _ (.dK (P9 [] [(.inr "standing",.ref rS),(.inr "whole",.ref rW)])) fd b ys h;have V7:=V7.dict (o:=.dK (P9 [] [(.inr "standing",.ref rS),(.inr "whole",.ref rW)])) fd;have e3:=kl _ _ (.dK (P9 [] [(.inr "standing",.ref rS),(.inr "whole",.ref rW)])) fd _ _ e3;have e4:=kl _ _ (.dK (P9 [] [(.inr "standing",.ref rS),(.inr "whole",.ref rW)])) fd _ _ e4;have s7:=s7.upd (o:=.dK (P9 [] [(.inr "standing",.ref rS),(.inr "whole",.ref rW)])) hdH;have fd:(upd H7 d (.dK (P9 [] [(.inr "standing",.ref rS),(.inr "whole",.ref rW)]))) d=some (.dK [(.inr "standing",.ref rS),(.inr "whole",.ref rW)]):=by rw[upd_same];rfl
  generalize upd H7 d (.dK (P9 [] [(.inr "standing",.ref rS),(.inr "whole",.ref rW)]))=H8 at DSs DSw V7 e3 e4 s7 fd⊢;refine hN5 _ _ (B5 fun N6 hN6=>?_);refine ex1 rfl (ex1 rfl ⟨D,MW,rfl,e3,by omega,fun D9 H9 hD9 s9 e9=>?_⟩);have ndG:=ndW.sublist (DD (p:=fun m=>pB (∀o∈MW,Sub m o->o=m)));have mmG:∀m,m∈MW.filter (fun m=>pB (∀o∈MW,Sub m o->o=m))↔MaxM WholeM ns.length A B m:=fun m=>by
   rw[BC,mmW,pB_iff];exact⟨fun⟨a,b⟩=>⟨a,fun m' h' s=>b m' ((mmW m').mpr h') s⟩,fun⟨a,b⟩=>⟨a,fun o ho s=>b o ((mmW o).mp ho) s⟩⟩
  have lG:=Nat.le_trans (CB (fun m=>pB (∀o∈MW,Sub m o->o=m)) MW) lW;generalize MW.filter (fun m=>pB (∀o∈MW,Sub m o->o=m))=MG at e9 ndG mmG lG;have V9:=V7.same s9;refine⟨n,v,D9,ns,_,A,B,MG,rfl,V9,by omega,e9,by omega,fun rG tG H10 s10 hrG erG LG nrG pmG srtG=>?_⟩;have DSg:DS H H10 ns A B (MaxM WholeM) rG:=⟨tG,MG,(s7.trans s9).free hrG,fun t ht=>(s7.trans s9).free (LG.new t ht),erG,LG.at_,ndG,mmG,pmG,srtG,lG⟩;have s10':=s9.trans s10;have DSs:=DSs.same s10';have DSw:=DSw.same s10';have V10:=V9.same s10;have e3:=s10' _ _ e3;have e4:=s10' _ _ e4;have fd:=s10' _ _ fd;have s10:=s7.trans s10';refine ex1 rfl ⟨d,_,rfl,.inl ⟨_,.inr "greatest",fd,rfl,by rw[sizeLine_eq];simp,rfl⟩,?_⟩;have DSs:=DSs.keep fun b ys h _=>kl _ _ (.dK (P5 [(.inr "standing",.ref rS),(.inr "whole",.ref rW)] (.inr "greatest") (.ref rG))) fd b ys h;have DSw:=DSw.keep fun b ys h _=>kl _ _ (.dK (P5 [(.inr "standing",.ref rS),(.inr "whole",.ref rW)] (.inr "greatest") (.ref rG))) fd b ys h;have DSg:=DSg.keep fun b ys h _=>kl _ _ (.dK (P5 [(.inr "standing",.ref rS),(.inr "whole",.ref rW)] (.inr "greatest") (.ref rG))) fd b ys h;have V10:=V10.dict (o:=.dK (P5 [(.inr "standing",.ref rS),(.inr "whole",.ref rW)] (.inr "greatest") (.ref rG))) fd;have e3:=kl _ _ (.dK (P5 [(.inr "standing",.ref rS),(.inr "whole",.ref rW)] (.inr "greatest") (.ref rG))) fd _ _ e3;have e4:=kl _ _ (.dK (P5 [(.inr "standing",.ref rS),(.inr "whole",.ref rW)] (.inr "greatest") (.ref rG))) fd _ _ e4;have s10:=s10.upd (o:=.dK (P5 [(.inr "standing",.ref rS),(.inr "whole",.ref rW)] (.inr "greatest") (.ref rG))) hdH;have fd:(upd H10 d (.dK (P5 [(.inr "standing",.ref rS),(.inr "whole",.ref rW)] (.inr "greatest") (.ref rG)))) d=some (.dK [(.inr "standing",.ref rS),(.inr "whole",.ref rW),(.inr "greatest",.ref rG)]):=by rw[upd_same];rfl
  generalize upd H10 d (.dK (P5 [(.inr "standing",.ref rS),(.inr "whole",.ref rW)] (.inr "greatest") (.ref rG)))=H11 at DSs DSw DSg V10 e3 e4 s10 fd⊢;refine hN6 _ _ (B5 fun N7 hN7=>?_);refine ex1 rfl (ex1 rfl ⟨n,v,D4,ns,_,A,B,MO,rfl,V10,by omega,e4,by omega,fun rO tO H12 s12 hrO erO LO nrO pmO srtO=>?_⟩);have DSo:DS H H12 ns A B OutM rO:=⟨tO,MO,s10.free hrO,fun t ht=>s10.free (LO.new t ht),erO,LO.at_,ndO,mmO,pmO,srtO,lO⟩;have DSs:=DSs.same s12;have DSw:=DSw.same s12;have DSg:=DSg.same s12;have V12:=V10.same s12;have e3:=s12 _ _ e3;have fd:=s12 _ _ fd;have s12:=s10.trans s12;refine ex1 rfl ⟨d,_,rfl,.inl ⟨_,.inr "outright",fd,rfl,by rw[sizeLine_eq];simp,rfl⟩,?_⟩;have DSs:=DSs.keep fun b ys h _=>kl _ _ (.dK (P5 [(.inr "standing",.ref rS),(.inr "whole",.ref rW),(.inr "greatest",.ref rG)] (.inr "outright") (.ref rO))) fd b ys h;have DSw:=DSw.keep fun b ys h _=>kl _ _ (.dK (P5 [(.inr "standing",.ref rS),(.inr "whole",.ref rW),(.inr "greatest",.ref rG)] (.inr "outright") (.ref rO))) fd b ys h;have DSg:=DSg.keep fun b ys h _=>kl _ _ (.dK (P5 [(.inr "standing",.ref rS),(.inr "whole",.ref rW),(.inr "greatest",.ref rG)] (.inr "outright") (.ref rO))) fd b ys h;have DSo:=DSo.keep fun b ys h _=>kl _ _ (.dK (P5 [(.inr "standing",.ref rS),(.inr "whole",.ref rW),(.inr "greatest",.ref rG)] (.inr "outright") (.ref rO))) fd b ys h;have V12:=V12.dict (o:=.dK (P5 [(.inr "standing",.ref rS),(.inr "whole",.ref rW),(.inr "greatest",.ref rG)] (.inr "outright") (.ref rO))) fd;have e3:=kl _ _ (.dK (P5 [(.inr "standing",.ref rS),(.inr "whole",.ref rW),(.inr "greatest",.ref rG)] (.inr "outright") (.ref rO))) fd _ _ e3;have s12:=s12.upd (o:=.dK (P5 [(.inr "standing",.ref rS),(.inr "whole",.ref rW),(.inr "greatest",.ref rG)] (.inr "outright") (.ref rO))) hdH;have fd:(upd H12 d (.dK (P5 [(.inr "standing",.ref rS),(.inr "whole",.ref rW),(.inr "greatest",.ref rG)] (.inr "outright") (.ref rO)))) d=some (.dK [(.inr "standing",.ref rS),(.inr "whole",.ref rW),(.inr "greatest",.ref rG),(.inr "outright",.ref rO)]):=by rw[upd_same];rfl
  generalize upd H12 d (.dK (P5 [(.inr "standing",.ref rS),(.inr "whole",.ref rW),(.inr "greatest",.ref rG)] (.inr "outright") (.ref rO)))=H13 at DSs DSw DSg DSo V12 e3 s12 fd⊢;refine hN7 _ _ (B5 fun N8 hN8=>?_);have ndn:ns.Nodup:=pm.nodup_iff.mpr N.2.1;refine ex1 rfl ⟨D,rfl,⟨_,SqL.of e3⟩,fun D14 hD14=>?_⟩;refine Kk (xs:=MW) (g:=E4) (f:=fun m=>E7 ns ps (setOf ns m)) (asL (SqL.of e3)) (by omega) hD14 (fun m hm G R sG hR=>?_) fun σ' H14 us s14 eU LU nU mU=>?_
  .exact ex1 rfl (ex1 rfl ⟨n,v,m,ns,_,A,B,rfl,V12.same sG,by omega,fun l qs h G' hh hl s' LP e=>hR l G' qs hl s' LP (e.trans (Nu ndn V1.mB hh))⟩)
  refine⟨D14,us,rfl,SqL.of eU,LU.at_,fun rT us' hrT pz srtz=>?_⟩;have uz:=Same.new (o:=.lst (us'.map fun t=>V.ref t.1)) hrT;have DPt:DP H (upd H14 rT (.lst (us'.map fun t=>V.ref t.1))) ns ps A B rT:=⟨us',MW,(s12.trans s14).free hrT,fun t ht=>s12.free (LU.new t (pz.mem_iff.mp ht)),upd_same,fun t ht=>Cn (LU.at_ t (pz.mem_iff.mp ht)) uz,ndW,mmW,(pz.map fun t=>nw t.2).trans (by rw[mU]),srtz,lW⟩;have s14':=s14.trans uz;generalize upd H14 rT (.lst (us'.map fun t=>V.ref t.1))=H15 at DPt s14'⊢;have DSs:=DSs.same s14';have DSw:=DSw.same s14';have DSg:=DSg.same s14';have DSo:=DSo.same s14';have fd:=s14' _ _ fd;have s15:=s12.trans s14';refine ex1 rfl ⟨d,_,rfl,.inl ⟨_,.inr "tellings",fd,rfl,by rw[sizeLine_eq];simp,rfl⟩,?_⟩;refine hN8 _ _ (ex1 rfl ?_);have kp:∀b ys,H15 b=some (.lst ys)->(upd H15 d (.dK (P5 [(.inr "standing",.ref rS),(.inr "whole",.ref rW),(.inr "greatest",.ref rG),(.inr "outright",.ref rO)] (.inr "tellings") (.ref rT)))) b=some (.lst ys):=kl _ _ _ fd;refine q d _ ns A B rS rW rG rO rT _ hdH (s15.upd hdH) upd_same rfl rfl rfl rfl rfl pm srt V1.mA V1.mB (DSs.keep fun b ys h _=>kp b ys h) (DSw.keep fun b ys h _=>kp b ys h) (DSg.keep fun b ys h _=>kp b ys h) (DSo.keep fun b ys h _=>kp b ys h) (DPt.keep (fun b ys h _=>kp b ys h) fun b ys h=>(B3 (X0 h fd (by intro z;cases z))).trans h)
def Yc(K:PySem.W.Frag)(C:Addr):Sp:=fun vs H Q _=>∃(x dx n:Addr) (ss:List Str) (a:Addr) (ps:List PA2),vs = [.ref x,.ref n,.ref a]/\H x=some (.ins C dx [])/\H n=some (.lst (ss.map V.str))/\M8 ss /\
 H a=some (.lst (G6 ps))/\(∀q∈ps,E2 H q)/\StrkOk ss ps/\∀ns qs H',ns.Perm ss->ns.Pairwise leS->qs.Perm ps->qs.Pairwise leP->Sm [x] H H'->WebAt C H' x ns qs->(∀G:Hp,(∀b o,H' b=some o->(H b=none\/b=x\/∃q∈qs,b=q.1)->G b=some o)->WebAt C G x ns qs)->Q .non H'
theorem Xe(T:Tx K mg):FnOk P w K mg base CX0 3 T.bw T.bv ["self", "names", "strikes"] (Yc K T.ac):=by
 have G_check_names:=Bh (P:=P) (w:=w) (base:=base) T;have G_check_strikes:=u6 (P:=P) (w:=w) (base:=base) T;have sc:=U3;refine T.bx.ok U3 (fun vs H Q E h=>?_) (fun cdv A outer s H vs Q E hr h=>?_)
 .obtain⟨x,dx,n,ss,a,ps,rfl,_⟩:=h;rfl
 .obtain⟨x,dx,n,ss,a,ps,rfl,hx,hS,hN,hP,hI,hO,k⟩:=h;have hu:=u7 hr;refine⟨_,(B1 (C7 (D0 T.aW G_check_names (Rm hr) (A8 (pv 1) B0)))
   (B1 (C7 (D0 T.aP G_check_strikes (Rm hr) (A8 (pv 1) (A8 (pv 2) B0))))
   (B1 (psF K (pv 0) (E6 (Lu K) T.aC J3 (A8 (pv 1) B0)))
   (B1 (psF K (pv 0) (E6 (Uk K) T.aC J3 (A8 (pv 2) B0)))
   (B1 (psF K (pv 0) (Pm (N':=["name"]) (cap:=[none]) (cl:=[]) (K0 trivial trivial) rfl (piL K (peF K (pv 0))) (fun _ _ _ _=>by exact⟨(pgC 0),E5,(pv 0),(J5 B0)⟩)))
   (B1 (psF K (pv 0) (Pm (N':=["name"]) (cap:=[none]) (cl:=[]) (K0 trivial trivial) rfl (piL K (peF K (pv 0))) (fun _ _ _ _=>by exact⟨(pgC 0),E5,(pv 0),(J5 B0)⟩)))
   (B2 (K1 PassesOwn.never rfl (piL K (peF K (pv 0))) (pgT K (n:=2) (C5 (C3 (i:=3) sc.nd rfl (.inl rfl)) (C5 (C3 (i:=4) sc.nd rfl (.inl rfl)) J1)))
   (B1 (C7 (Bn K PySem.F.plainAttrs_list PySem.F.slot_list_append PySem.F.type_list_append D3 (J9 hu (peF K (pv 0)) (pv 4) (fun _ _=>rfl)) (A8 (pv 3) B0)))
   (B2 (C7 (Bn K PySem.F.plainAttrs_list PySem.F.slot_list_append PySem.F.type_list_append D3 (J9 hu (peF K (pv 0)) (pv 3) (fun _ _=>rfl)) (A8 (pv 4) B0))))))))))))),?_⟩
  obtain⟨hN1,hN2,hN3⟩:=id hN;obtain⟨hO1,hO2,hO3⟩:=id hO;refine B5 fun Z1 hZ1=>?_;refine ex1 rfl ⟨n,ss,rfl,SqL.of hS,hN,fun H1 s1=>?_⟩;refine hZ1 _ _ (B5 fun Z2 hZ2=>?_);refine ex1 rfl (ex1 rfl ⟨n,ss,a,ps,rfl,SqL.of (s1 _ _ hS),SqL.of (s1 _ _ hP),G8 s1 hI,hO,fun H2 s2=>?_⟩);refine hZ2 _ _ (B5 fun Z3 hZ3=>?_);have s12:=s1.trans s2;refine ex1 rfl ⟨n,ss,rfl,SqL.of (s12 _ _ hS),fun l1 ns hl1 p1 w1=>?_⟩;have nx1:x≠l1:=A9 (s12 _ _ hx) hl1;refine ex1 rfl ⟨x,T.ac,dx,[],rfl,by rw[B3 nx1];exact s12 _ _ hx,T.an,T.aQ,by decide,?_⟩;have hxa:a≠x:=X0 hP hx (by intro z;cases z);have k3:Sm [x] H (upd (upd H2 l1 (.lst (ns.map V.str))) x (.ins T.ac dx (K9 "names" (.ref l1) []))):=(Sm.new s12.sm hl1).upd (by simp);have e3:(upd (upd H2 l1 (.lst (ns.map V.str))) x (.ins T.ac dx (K9 "names" (.ref l1) []))) l1=some (.lst (ns.map V.str)):=by rw[B3 nx1.symm,upd_same]
  generalize hH3:upd (upd H2 l1 (.lst (ns.map V.str))) x (.ins T.ac dx (K9 "names" (.ref l1) []))=H3 at k3 e3⊢;refine hZ3 _ _ (B5 fun Z4 hZ4=>?_);have x3:H3 x=some (.ins T.ac dx [("names",.ref l1)]):=by rw[<-hH3,upd_same];rfl
  have nin:∀{b:Addr},b≠x->b∉[x]:=fun h z=>h (AE.mp z);have pin3:∀q∈ps,E2 H3 q:=fun q hq=>k3 _ _ (hI q hq) (nin (X0 (hI q hq) hx (by intro z;cases z)));refine ex1 rfl ⟨a,ps,rfl,SqL.of (k3 _ _ hP (nin hxa)),pin3,fun l2 qs hl2 p2 w2=>?_⟩;have nx2:x≠l2:=A9 x3 hl2;refine ex1 rfl ⟨x,T.ac,dx,[("names",.ref l1)],rfl,by rw[B3 nx2];exact x3,T.an,T.bo,by simp,?_⟩;have k4:Sm [x] H3 (upd (upd H3 l2 (.lst (G6 qs))) x (.ins T.ac dx (K9 "strikes" (.ref l2) [("names",.ref l1)]))):=(Sm.new (Sm.refl _ _) hl2).upd (by simp);have e4:(upd (upd H3 l2 (.lst (G6 qs))) x (.ins T.ac dx (K9 "strikes" (.ref l2) [("names",.ref l1)]))) l2=some (.lst (G6 qs)):=by rw[B3 nx2.symm,upd_same]
  have x4:(upd (upd H3 l2 (.lst (G6 qs))) x (.ins T.ac dx (K9 "strikes" (.ref l2) [("names",.ref l1)]))) x=some (.ins T.ac dx [("names",.ref l1),("strikes",.ref l2)]):=by rw[upd_same];rfl
  refine hZ4 _ _ ?_;show Zq _ _ _ _ (upd (upd H3 l2 (.lst (G6 qs))) x (.ins T.ac dx (K9 "strikes" (.ref l2) [("names",.ref l1)])));generalize upd (upd H3 l2 (.lst (G6 qs))) x (.ins T.ac dx (K9 "strikes" (.ref l2) [("names",.ref l1)]))=H4 at k4 e4 x4⊢;have f4:H4 l1=some (.lst (ns.map V.str)):=k4 _ _ e3 (nin nx1.symm);have pin4:∀q∈qs,E2 H4 q:=fun q hq=>k4 _ _ (pin3 q (p2.mem_iff.mp hq)) (nin (X0 (pin3 q (p2.mem_iff.mp hq)) x3 (by intro z;cases z)));have ndn:ns.Nodup:=p1.nodup_iff.mpr hN2;have lnn:ns.length<=1000:=by rw[p1.length_eq];omega
  refine B5 fun Z5 hZ5=>?_;refine ex1 rfl ⟨x,T.ac,dx,_,ex1 rfl ⟨x4,T.an,T.aQ,rfl,l1,rfl,⟨_,SqL.of f4⟩,fun c hc=>Wq (K:=K) (asL (SqL.of f4)) ⟨_,rfl⟩ ndn lnn hc fun _ kc H5 s5 e5 D5 c5 n5=>?_⟩⟩;have x5:=s5 _ _ x4;refine ex1 rfl ⟨x,T.ac,dx,ex1 rfl ⟨x5,T.an,T.aH,by simp,?_⟩⟩;have k6:Sm [x] H5 (upd H5 x (.ins T.ac dx (K9 "strikers_by_name" (.ref c) [("names",.ref l1),("strikes",.ref l2)]))):=(Sm.refl _ _).upd (by simp);have x6:(upd H5 x (.ins T.ac dx (K9 "strikers_by_name" (.ref c) [("names",.ref l1),("strikes",.ref l2)]))) x=some (.ins T.ac dx [("names",.ref l1),("strikes",.ref l2),("strikers_by_name",.ref c)]):=by rw[upd_same];rfl
  generalize upd H5 x (.ins T.ac dx (K9 "strikers_by_name" (.ref c) [("names",.ref l1),("strikes",.ref l2)]))=H6 at k6 x6⊢;refine hZ5 _ _ (B5 fun Z6 hZ6=>?_);have kk6:∀{b:Addr} {o:HO},H4 b=some o->b≠x->H6 b=some o:=fun e hb=>k6 _ _ (s5 _ _ e) (nin hb);have f6:=kk6 f4 nx1.symm;have g6:=kk6 e4 nx2.symm;have c6:H6 c=some (.dK kc):=k6 _ _ e5 (nin (A9 x4 hc).symm);have cl6:∀n∈ns,H6 (la kc n)=some (.lst []):=fun n hn=>k6 _ _ (c5 n hn) (nin (A9 x4 (D5.fr n hn)).symm);refine ex1 rfl ⟨x,T.ac,dx,_,ex1 rfl ⟨x6,T.an,T.aQ,rfl,l1,rfl,⟨_,SqL.of f6⟩,fun d hd=>Wq (K:=K) (asL (SqL.of f6)) ⟨_,rfl⟩ ndn lnn hd fun _ kd H7 s7 e7 D7 c7 n7=>?_⟩⟩;have x7:=s7 _ _ x6;refine ex1 rfl ⟨x,T.ac,dx,ex1 rfl ⟨x7,T.an,T.aL,by simp,?_⟩⟩;have k8:Sm [x] H7 (upd H7 x (.ins T.ac dx (K9 "struck_by_name" (.ref d) [("names",.ref l1),("strikes",.ref l2),("strikers_by_name",.ref c)]))):=(Sm.refl _ _).upd (by simp);have x8:(upd H7 x (.ins T.ac dx (K9 "struck_by_name" (.ref d) [("names",.ref l1),("strikes",.ref l2),("strikers_by_name",.ref c)]))) x=some (.ins T.ac dx (wf l1 l2 c d)):=by rw[upd_same];rfl
  generalize upd H7 x (.ins T.ac dx (K9 "struck_by_name" (.ref d) [("names",.ref l1),("strikes",.ref l2),("strikers_by_name",.ref c)]))=H8 at k8 x8⊢;refine hZ6 _ _ ?_;have kk8:∀{b:Addr} {o:HO},H6 b=some o->b≠x->H8 b=some o:=fun e hb=>k8 _ _ (s7 _ _ e) (nin hb);have f8:=kk8 f6 nx1.symm;have g8:=kk8 g6 nx2.symm;have c8:=kk8 c6 (A9 x4 hc).symm;have d8:H8 d=some (.dK kd):=k8 _ _ e7 (nin (A9 x6 hd).symm);have cl8:∀n∈ns,H8 (la kc n)=some (.lst []):=fun n hn=>kk8 (cl6 n hn) (A9 x4 (D5.fr n hn)).symm;have dl8:∀n∈ns,H8 (la kd n)=some (.lst []):=fun n hn=>k8 _ _ (c7 n hn) (nin (A9 x6 (D7.fr n hn)).symm);have pin8:∀q∈qs,E2 H8 q:=fun q hq=>kk8 (kk6 (pin4 q hq) (X0 (pin4 q hq) x4 (by intro z;cases z))) (X0 (pin4 q hq) x4 (by intro z;cases z));have dif:∀n∈ns,∀m∈ns,la kc n≠la kd m:=fun n hn m hm=>A9 (cl6 n hn) (D7.fr m hm);have old4:∀{b:Addr} {o:HO},H4 b=some o->b≠x->(∀n∈ns,b≠la kc n)/\∀n∈ns,b≠la kd n:=fun e hb=>⟨fun n hn=>A9 e (D5.fr n hn),fun n hn=>A9 (kk6 e hb) (D7.fr n hn)⟩;have kall:Sm [x] H H8:=fun b o e hb=>by
   have hb':b≠x:=fun z=>hb (by simp[z]);exact kk8 (kk6 (k4 _ _ (k3 _ _ e hb) hb) hb') hb'
  have odif:∀{b:Addr} {o:HO},H b=some o->b≠x->(∀n∈ns,b≠la kc n)/\∀n∈ns,b≠la kd n:=fun e hb=>old4 (k4 _ _ (k3 _ _ e (nin hb)) (nin hb)) hb;have xdif:(∀n∈ns,x≠la kc n)/\∀n∈ns,x≠la kd n:=⟨fun n hn=>A9 x4 (D5.fr n hn),fun n hn=>A9 x6 (D7.fr n hn)⟩;have cdif:(∀n∈ns,c≠la kc n)/\∀n∈ns,c≠la kd n:=⟨fun n hn=>(n5 n hn).symm,fun n hn=>A9 c6 (D7.fr n hn)⟩;have ddif:(∀n∈ns,d≠la kc n)/\∀n∈ns,d≠la kd n:=⟨fun n hn=>(A9 (cl6 n hn) hd).symm,fun n hn=>(n7 n hn).symm⟩;refine⟨_,rfl,x,T.ac,dx,_,_,rfl,x8,T.an,T.bo,rfl,l2,rfl,⟨_,SqL.of g8⟩,Y4 (asL (SqL.of g8)) (fun i σ H9=>(∃v3 v4,σ = [some (.ref x),some (.ref n),some (.ref a),v3,v4]) /\
   (∀b o,H8 b=some o->((∀n∈ns,b≠la kc n)/\∀n∈ns,b≠la kd n)->H9 b=some o)/\(∀n∈ns,H9 (la kc n)=some (.lst ((C0 (qs.take i) n).map V.str)))/\∀n∈ns,H9 (la kd n)=some (.lst ((B8 (qs.take i) n).map V.str)))
   ⟨⟨_,_,rfl⟩,fun b o e _=>e,cl8,dl8⟩ ?_ ?_ ?_⟩
  .rintro i σ H9 _ ⟨_,h1,_⟩ o e;exact h1 _ _ e (old4 e4 nx2.symm)
  .rintro i σ H9 v hv ⟨⟨v3,v4,rfl⟩,h1,h2,h3⟩ D1 hD1 _;unfold G6 at hv;rw[AH]at hv;cases hq:qs[i]? with
   | none=>rw[hq]at hv;cases hv
   | some q =>
    rw[hq]at hv;cases hv;have hm:q∈qs:=BN hq;have hq9:E2 H9 q:=h1 _ _ (pin8 q hm) (old4 (pin4 q hm) (X0 (pin4 q hm) x4 (by intro z;cases z)));obtain⟨m1,m2⟩:=hO1 q (p2.mem_iff.mp hm);have m1:q.2.1∈ns:=p1.mem_iff.mpr m1;have m2:q.2.2∈ns:=p1.mem_iff.mpr m2;have hlen:∀l:List PA2,l.length<=200->∀n,(C0 l n).length<=200/\(B8 l n).length<=200:=fun l hl n=>by
     unfold C0 B8;rw[AB,AB];exact⟨Nat.le_trans (CB ..) hl,Nat.le_trans (CB ..) hl⟩
    have hl200:(qs.take i).length<=200:=by
     rw[AW];have:=p2.length_eq;omega
    have x9:H9 x=some (.ins T.ac dx (wf l1 l2 c d)):=h1 _ _ x8 xdif;refine⟨q.1,ex1 rfl ⟨SqT.of hq9,rfl,_,ex1 rfl (B7 rfl rfl ?_)⟩⟩;refine ex1 rfl ⟨x,T.ac,dx,_,ex1 rfl ⟨x9,T.an,T.aH,rfl,ex1 rfl ⟨c,.ref (la kc q.2.2),rfl,by rw[<-D5.val _ m2];exact DGet.k (k:=Sum.inr q.2.2) (h1 _ _ c8 cdif),.inl ⟨rfl,_,SqL.of (h2 _ m2)⟩,ex1 rfl ⟨_,B7 rfl rfl ⟨h2 _ m2,?_,?_⟩⟩⟩⟩⟩
    .rw[AB,sizeLine_eq];have:=(hlen _ hl200 q.2.2).1;omega
    have x10:(upd H9 (la kc q.2.2) (.lst ((C0 (qs.take i) q.2.2).map V.str ++ [.str q.2.1]))) x=some (.ins T.ac dx (wf l1 l2 c d)):=by rw[B3 (xdif.1 _ m2)];exact x9
    have d10:(upd H9 (la kc q.2.2) (.lst ((C0 (qs.take i) q.2.2).map V.str ++ [.str q.2.1]))) d=some (.dK kd):=by rw[B3 (ddif.1 _ m2)];exact h1 _ _ d8 ddif
    have l10:(upd H9 (la kc q.2.2) (.lst ((C0 (qs.take i) q.2.2).map V.str ++ [.str q.2.1]))) (la kd q.2.1)=some (.lst ((B8 (qs.take i) q.2.1).map V.str)):=by rw[B3 (dif _ m2 _ m1).symm];exact h3 _ m1
    refine ex1 rfl ⟨x,T.ac,dx,_,ex1 rfl ⟨x10,T.an,T.aL,rfl,ex1 rfl ⟨d,.ref (la kd q.2.1),rfl,by rw[<-D7.val _ m1];exact DGet.k (k:=Sum.inr q.2.1) d10,.inl ⟨rfl,_,SqL.of l10⟩,ex1 rfl ⟨_,B7 rfl rfl ⟨l10,?_,?_⟩⟩⟩⟩⟩
    .rw[AB,sizeLine_eq];have:=(hlen _ hl200 q.2.1).2;omega
    refine hD1 _ _ ⟨⟨_,_,rfl⟩,fun b o e hb=>?_,fun m hm=>?_,fun m hm=>?_⟩
    .rw[B3 (hb.2 _ m1),B3 (hb.1 _ m2)];exact h1 b o e hb
    .rw[B3 (dif m hm _ m1),take_succ hq,Aq];by_cases e:q.2.2=m
     .rw[<-e,upd_same,AL rfl,AU];rfl
     .rw[AJ e,CJ,B3 (fun z=>e (D5.inj _ hm _ m2 z).symm)];exact h2 m hm
    .rw[take_succ hq,Eb];by_cases e:q.2.1=m
     .rw[<-e,upd_same,AL rfl,AU];rfl
     .rw[AJ e,CJ,B3 (fun z=>e (D7.inj _ hm _ m1 z).symm),B3 (dif _ m2 _ hm).symm];exact h3 m hm
  .rintro σ H9 ⟨_,h1,h2,h3⟩;have hlq:(G6 qs).length=qs.length:=by unfold G6;rw[AB]
   rw[hlq,CS]at h2 h3;have mk:∀G:Hp,(∀b o,H9 b=some o->(b=x\/b=l1\/b=l2\/b=c\/b=d\/(∃q∈qs,b=q.1)\/(∃n∈ns,b=la kc n)\/∃n∈ns,b=la kd n)->G b=some o)->WebAt T.ac G x ns qs:=fun G g =>
    ⟨⟨ndn,by rw[p1.length_eq];exact hN3,w1,fun q hq=>⟨p1.mem_iff.mpr (hO1 q (p2.mem_iff.mp hq)).1,p1.mem_iff.mpr (hO1 q (p2.mem_iff.mp hq)).2⟩,(p2.map _).nodup_iff.mpr hO2,by rw[p2.length_eq];exact hO3,w2⟩,dx,l1,l2,c,d,kc,kd,g _ _ (h1 _ _ x8 xdif) (.inl rfl),g _ _ (h1 _ _ f8 (old4 f4 nx1.symm)) (.inr (.inl rfl)),g _ _ (h1 _ _ g8 (old4 e4 nx2.symm)) (.inr (.inr (.inl rfl))),
     fun q hm=>g _ _ (h1 _ _ (pin8 q hm) (old4 (pin4 q hm) (X0 (pin4 q hm) x4 (by intro z;cases z)))) (.inr (.inr (.inr (.inr (.inr (.inl ⟨q,hm,rfl⟩)))))),g _ _ (h1 _ _ c8 cdif) (.inr (.inr (.inr (.inl rfl)))),g _ _ (h1 _ _ d8 ddif) (.inr (.inr (.inr (.inr (.inl rfl))))),
     fun n hn=>⟨_,D5.val n hn,g _ _ (h2 n hn) (.inr (.inr (.inr (.inr (.inr (.inr (.inl ⟨n,hn,rfl⟩)))))))⟩,fun n hn=>⟨_,D7.val n hn,g _ _ (h3 n hn) (.inr (.inr (.inr (.inr (.inr (.inr (.inr ⟨n,hn,rfl⟩)))))))⟩⟩
   refine k ns qs H9 p1 w1 p2 w2 (fun b o e hb=>?_) (mk H9 fun b o e _=>e) fun G g=>mk G fun b o e hb=>?_
   .have hb':b≠x:=fun z=>hb (by simp[z]);exact h1 _ _ (kall b o e hb) (odif e hb')
   .have fr3:∀{b:Addr},H3 b=none->b≠x->H b=none:=fun{b} h n=>by
     cases e:H b with
     | none=>rfl
     | some o=>have:=k3 _ _ e (nin n);rw[h]at this;cases this
    have fr4:∀{b:Addr},H4 b=none->b≠x->H b=none:=fun{b} h n=>fr3 (by
     cases e:H3 b with
     | none=>rfl
     | some o=>have:=k4 _ _ e (nin n);rw[h]at this;cases this) n
    have fr6:∀{b:Addr},H6 b=none->b≠x->H b=none:=fun{b} h n=>fr4 (by
     cases e:H4 b with
     | none=>rfl
     | some o=>have:=kk6 e n;rw[h]at this;cases this) n
    refine g b o e ?_;rcases hb with rfl | rfl | rfl | rfl | rfl | hq | ⟨n,hn,rfl⟩ | ⟨n,hn,rfl⟩
    .exact .inr (.inl rfl)
    .exact .inl (s12.free hl1)
    .exact .inl (fr3 hl2 nx2.symm)
    .exact .inl (fr4 hc (A9 x4 hc).symm)
    .exact .inl (fr6 hd (A9 x6 hd).symm)
    .exact .inr (.inr hq)
    .exact .inl (fr4 (D5.fr n hn) (A9 x4 (D5.fr n hn)).symm)
    .exact .inl (fr6 (D7.fr n hn) (A9 x6 (D7.fr n hn)).symm)
end
theorem Qs:∀{a b:List Str},TS.kyS a=TS.kyS b->a=b
 | [],[],_=>rfl
 | [],_::_,h=>by cases h
 | _::_,[],h=>by cases h
 | x::a,y::b,h=>by
  obtain⟨h1,h2⟩:=FZ h;rw[Wm h1,Qs h2]
theorem Za{a b:List (List Str)}(h1:a.Pairwise fun x y=>TS.lexB (TS.kyS y) (TS.kyS x)=false)(h2:b.Pairwise fun x y=>TS.lexB (TS.kyS y) (TS.kyS x)=false)(h:a.Perm b):a=b :=
 HP (fun x y _ _ h1 h2=>Qs (TS.lexB_total _ _ h2 h1)) h1 h2 h
theorem MB.one{ns:List Str}{ks:List (Str×Str)}{A A':List Nat}(h:MB ns ks A)(h':MB ns ks A')(i:Nat):A.getD i 0=A'.getD i 0:=BQ fun j=>CN.mpr ((h.bit i j).trans (h'.bit i j).symm)
theorem StandM.ext{n m:Nat}{A A' B B':List Nat}(ha:∀i,A.getD i 0=A'.getD i 0)(hb:∀i,B.getD i 0=B'.getD i 0):StandM n A B m↔StandM n A' B' m:=by
 unfold StandM QuietB S9 X7;simp only[ha,hb]
theorem WholeM.ext{n m:Nat}{A A' B B':List Nat}(ha:∀i,A.getD i 0=A'.getD i 0)(hb:∀i,B.getD i 0=B'.getD i 0):WholeM n A B m↔WholeM n A' B' m:=by
 unfold WholeM;rw[StandM.ext ha hb];unfold S9 X7;simp only[ha,hb]
theorem q0{a b:Str}(h:a.cps.toList=b.cps.toList):a=b:=HF fun z=>TS.str_ne z h
theorem Rq:∀{a b:List (Str×Str)},TS.kyP a=TS.kyP b->a=b
 | [],[],_=>rfl
 | [],_::_,h=>by cases h
 | _::_,[],h=>by cases h
 | p::a,q::b,h=>by
  have h:p.1.cps.toList::p.2.cps.toList::TS.kyP a=q.1.cps.toList::q.2.cps.toList::TS.kyP b:=h;obtain⟨h1,h2⟩:=FZ h;obtain⟨h3,h4⟩:=FZ h2;rw[Rq h4,Prod.ext (q0 h1) (q0 h3)]
def E0h:Hp:=fun _=>none
theorem DS.drop{H0 H:Hp}{ns:List Str}{A B:List Nat}{Tg:Tgt}{r:Addr}(h:DS H0 H ns A B Tg r):DS E0h H ns A B Tg r:=let⟨ts,Ms,_,_,c⟩:=h;⟨ts,Ms,rfl,fun _ _=>rfl,c⟩
theorem DP.drop{H0 H:Hp}{ns:List Str}{qs:List PA2}{A B:List Nat}{r:Addr}(h:DP H0 H ns qs A B r):DP E0h H ns qs A B r:=let⟨ts,Ms,_,_,c⟩:=h;⟨ts,Ms,rfl,fun _ _=>rfl,c⟩
structure Sd(C:Addr)(G:Hp)(x n a d:Addr)(ss ns:List Str)(ps qs:List PA2)(kvs:List (Key×V))(A B:List Nat)(rS rW rG rO rT:Addr):Prop where
 en:G n=some (.lst (ss.map V.str))
 N:M8 ss
 ln:ss.length<=10
 ea:G a=some (.lst (G6 ps))
 pin:∀q∈ps,E2 G q
 O:StrkOk ss ps
 W:WebAt C G x ns qs
 pn:ns.Perm ss
 sn:ns.Pairwise leS
 pq:qs.Perm ps
 ed:G d=some (.dK kvs)
 v1:P2 kvs (.inr "standing")=some (.ref rS)
 v2:P2 kvs (.inr "whole")=some (.ref rW)
 v3:P2 kvs (.inr "greatest")=some (.ref rG)
 v4:P2 kvs (.inr "outright")=some (.ref rO)
 v5:P2 kvs (.inr "tellings")=some (.ref rT)
 mA:MB ns ((ps.map fun q=>q.2).map fun k=>(k.2,k.1)) A
 mB:MB ns (ps.map fun q=>q.2) B
 dS:DS E0h G ns A B StandM rS
 dW:DS E0h G ns A B WholeM rW
 dG:DS E0h G ns A B (MaxM WholeM) rG
 dO:DS E0h G ns A B OutM rO
 dT:DP E0h G ns ps A B rT
def Side(C:Addr)(G:Hp)(t d:Addr):Prop:=∃x n a ss ns ps qs kvs A B rS rW rG rO rT,G t=some (.tup [.ref x,.ref n,.ref a])/\Sd C G x n a d ss ns ps qs kvs A B rS rW rG rO rT
theorem Sd.same{C:Addr}{G G':Hp}{x n a d:Addr}{ss ns:List Str}{ps qs:List PA2}{kvs:List (Key×V)}{A B:List Nat}{rS rW rG rO rT:Addr}(h:Sd C G x n a d ss ns ps qs kvs A B rS rW rG rO rT)(s:Same G G'):Sd C G' x n a d ss ns ps qs kvs A B rS rW rG rO rT :=
 ⟨s _ _ h.en,h.N,h.ln,s _ _ h.ea,G8 s h.pin,h.O,h.W.same s,h.pn,h.sn,h.pq,s _ _ h.ed,h.v1,h.v2,h.v3,h.v4,h.v5,h.mA,h.mB,h.dS.same s,h.dW.same s,h.dG.same s,h.dO.same s,h.dT.same s⟩
theorem Side.same{C:Addr}{G G':Hp}{t d:Addr}(h:Side C G t d)(s:Same G G'):Side C G' t d:=by
 obtain⟨x,n,a,ss,ns,ps,qs,kvs,A,B,rS,rW,rG,rO,rT,e,h⟩:=h;exact⟨x,n,a,ss,ns,ps,qs,kvs,A,B,rS,rW,rG,rO,rT,s _ _ e,h.same s⟩
def elS(t:Addr×List Str):Addr×PyData×List V:=(t.1,sd t.2,t.2.map V.str)
def elP(t:LP):Addr×PyData×List V:=(t.1,.list ((nw t.2).map pd),t.2.map fun r=>V.ref r.1)
theorem zAg{K:PySem.W.Frag}{H:Hp}{t:Addr×List Str}(e:H t.1=some (.lst (t.2.map V.str)))(nm:∀y∈t.2,Q7 y=true)(l:t.2.length<=100):El K H (elS t):=by
 refine⟨e,?_,(Wz nm).1,?_,fun H' e' _=>Xk (SqL.of e')⟩
 .show(t.2.map V.str).length<=1000;rw[AB];omega
 .show(sd t.2).depth<=10;unfold sd;rw[PyData.depth];have:=n9 t.2;omega
theorem zAe{K:PySem.W.Frag}{H:Hp}{t:LP}(e:LPIn H t)(ok:∀q∈t.2,PySem.PyData.strOk q.2.1=true/\PySem.PyData.strOk q.2.2=true)(l:t.2.length<=100):El K H (elP t):=by
 have em:(nw t.2).map pd=t.2.map fun q=>pd q.2:=by unfold nw;rw[BZ];rfl
 refine⟨e.1,?_,?_,?_,fun H' e' tp=>?_⟩
 .show(t.2.map fun r=>V.ref r.1).length<=1000;rw[AB];omega
 .show PyData.canLay0 (.list ((nw t.2).map pd))=true;rw[em,PyData.canLay0];exact Im ok
 .show(PyData.list ((nw t.2).map pd)).depth<=10;rw[em,PyData.depth];have:=z8 t.2;omega
 .show Rp K H' (.list ((nw t.2).map pd)) (.ref t.1);rw[em];exact Kd e' fun q hq=>tp _ _ (e.2 q hq)
theorem MaxM.ext{n m:Nat}{A A' B B':List Nat}(ha:∀i,A.getD i 0=A'.getD i 0)(hb:∀i,B.getD i 0=B'.getD i 0):MaxM WholeM n A B m↔MaxM WholeM n A' B' m:=by
 unfold MaxM;simp only[WholeM.ext ha hb]
theorem OutM.ext{n m:Nat}{A A' B B':List Nat}(hb:∀i,B.getD i 0=B'.getD i 0):OutM n A B m↔OutM n A' B' m:=by
 unfold OutM QuietB X7;simp only[hb]
theorem Sr{a b:List (List (Str×Str))}(h1:a.Pairwise fun x y=>TS.lexB (TS.kyP y) (TS.kyP x)=false)(h2:b.Pairwise fun x y=>TS.lexB (TS.kyP y) (TS.kyP x)=false)(h:a.Perm b):a=b :=
 HP (fun x y _ _ h1 h2=>Rq (TS.lexB_total _ _ h2 h1)) h1 h2 h
theorem Mq{ns s:List Str}{ps qs:List PA2}(h:qs.Perm ps):E7 ns qs s=E7 ns ps s:=by
 unfold E7;refine GB fun n _=>?_;have e:wrd qs s n=wrd ps s n:=Vo (hs:=s.flatMap (B8 qs)) fun y=>by
  rw[GJ];refine exists_congr fun z=>and_congr_right fun _=>?_;rw[mem_struckOf,mem_struckOf];exact⟨fun⟨q,a,b⟩=>⟨q,h.mem_iff.mp a,b⟩,fun⟨q,a,b⟩=>⟨q,h.mem_iff.mpr a,b⟩⟩
 rw[e]
section
variable{K:PySem.W.Frag}{C:Addr}{G:Hp}{x n a d:Addr}{ss ns:List Str}{ps qs qs':List PA2}{kvs:List (Key×V)}{A B:List Nat}{rS rW rG rO rT:Addr}
theorem zDf{Tg:Tgt}{rd:Addr}{Q:VK}{E:XK}{R:V->Hp->Prop}(pn:ns.Perm ss)(N:M8 ss)(ln:ss.length<=10)(mA:MB ns ((ps.map fun q=>q.2).map fun k=>(k.2,k.1)) A)(mB:MB ns (ps.map fun q=>q.2) B)(pq:qs'.Perm ps)(D:DS E0h G ns A B Tg rd)
  (ext:∀{A' B':List Nat} {m:Nat},(∀i,A'.getD i 0=A.getD i 0)->(∀i,B'.getD i 0=B.getD i 0)->(Tg ns.length A' B' m↔Tg ns.length A B m)) (hR:∀fv H',Same G H'->Di K [fv,.ref rd] H' Q E->R fv H') (q:∀H',Same G H'->Q (.bl true) H'):Rf G ns qs' Tg R:=by
 obtain⟨td,Ms,_,_,ed,aD,ndM,mm,pmD,srtD,lM⟩:=D;intro A' B' Ms' mA' mB' ndM' mm';have kp:∀k,k∈ps.map (fun q=>q.2)↔k∈qs'.map fun q=>q.2:=fun k=>(pq.map _).mem_iff.symm;have mA2:=mA.mono (ks':=(qs'.map fun q=>q.2).map fun k=>(k.2,k.1)) fun k=>by rw[AK,AK];exact⟨fun⟨j,h,e⟩=>⟨j,(kp j).mp h,e⟩,fun⟨j,h,e⟩=>⟨j,(kp j).mpr h,e⟩⟩
 have mB2:=mB.mono kp;have pmM:Ms'.Perm Ms:=(EN ndM' ndM).mpr fun m=>by rw[mm',mm];exact ext (mA'.one mA2) (mB'.one mB2)
 have nmn:∀y∈ns,Q7 y=true:=fun y hy=>N.1 y (pn.mem_iff.mp hy);have lnn:ns.length<=10:=by rw[pn.length_eq];exact ln
 have sub:∀{l:List (Addr×List Str)} {Mx:List Nat},(l.map fun t=>t.2).Perm (Mx.map (setOf ns))->∀t∈l,t.2.Sublist ns:=fun pm t ht=>by
  obtain⟨m,_,e⟩:=AK.mp (pm.mem_iff.mp (AK.mpr ⟨t,ht,rfl⟩));rw[<-e];exact He ns m
 have el:∀{l:List (Addr×List Str)} {Mx:List Nat} {H':Hp},(l.map fun t=>t.2).Perm (Mx.map (setOf ns))->(∀t∈l,H' t.1=some (.lst (t.2.map V.str)))->∀x∈l.map elS,El K H' x:=fun pm at_ x hx=>by
  obtain⟨t,ht,rfl⟩:=AK.mp hx;exact zAg (at_ t ht) (fun y hy=>nmn y ((sub pm t ht).subset hy)) (Nat.le_trans (sub pm t ht).length_le (by omega))
 have ldd:td.length=Ms.length:=by have:=pmD.length_eq;rw[AB,AB]at this;exact this
 have ed':G rd=some (.lst ((td.map elS).map fun x=>V.ref x.1)):=by rw[BZ];exact ed
 refine⟨fun r ts H' le s hr er LL nr pm srt=>hR _ _ s ⟨G,.ref r,rd,td.map elS,rfl,s,ed',el pmD aD,by rw[AB];omega,.inl ⟨by rw[AB,ldd,<-pmM.length_eq];exact le,r,ts.map elS,rfl,by rw[BZ];exact er,el pm LL.at_,by rw[BZ];exact LL.nd,hr,fun x hx=>?_,?_⟩,q⟩,fun gt H' s=>hR _ _ s ⟨G,.str "many",rd,td.map elS,rfl,s,ed',el pmD aD,by rw[AB];omega,.inr ⟨by rw[AB,ldd,<-pmM.length_eq];exact gt,rfl⟩,q⟩⟩
 .obtain⟨t,ht,rfl⟩:=AK.mp hx;exact⟨LL.new t ht,nr t ht⟩
 .have e:(ts.map fun t=>t.2)=td.map fun t=>t.2:=Za (CD.mpr srt) (CD.mpr srtD) (pm.trans ((pmM.map _).trans pmD.symm));have e2:=congrArg (List.map sd) e;rw[BZ,BZ]at e2⊢;exact e2
theorem zGf{rd:Addr}{Q:VK}{E:XK}{R:V->Hp->Prop}(pn:ns.Perm ss)(N:M8 ss)(ln:ss.length<=10)(mA:MB ns ((ps.map fun q=>q.2).map fun k=>(k.2,k.1)) A)(mB:MB ns (ps.map fun q=>q.2) B)(pq:qs'.Perm ps)(D:DP E0h G ns ps A B rd)
  (hR:∀fv H',Same G H'->Di K [fv,.ref rd] H' Q E->R fv H') (q:∀H',Same G H'->Q (.bl true) H'):zAo G ns qs' R:=by
 obtain⟨td,Ms,_,_,ed,aD,ndM,mm,pmD,srtD,lM⟩:=D;intro A' B' Ms' mA' mB' ndM' mm';have kp:∀k,k∈ps.map (fun q=>q.2)↔k∈qs'.map fun q=>q.2:=fun k=>(pq.map _).mem_iff.symm;have mA2:=mA.mono (ks':=(qs'.map fun q=>q.2).map fun k=>(k.2,k.1)) fun k=>by rw[AK,AK];exact⟨fun⟨j,h,e⟩=>⟨j,(kp j).mp h,e⟩,fun⟨j,h,e⟩=>⟨j,(kp j).mpr h,e⟩⟩
 have mB2:=mB.mono kp;have pmM:Ms'.Perm Ms:=(EN ndM' ndM).mpr fun m=>by rw[mm',mm];exact WholeM.ext (mA'.one mA2) (mB'.one mB2)
 have nmn:∀y∈ns,Q7 y=true:=fun y hy=>N.1 y (pn.mem_iff.mp hy);have lnn:ns.length<=10:=by rw[pn.length_eq];exact ln
 have wok:∀(zs:List PA2) (s:List Str),∀k∈E7 ns zs s,PySem.PyData.strOk k.1=true/\PySem.PyData.strOk k.2=true:=fun zs s k hk=>by
  unfold E7 at hk;obtain⟨y,hy,rfl⟩:=AK.mp hk;refine⟨Du (nmn y hy),?_⟩;show PySem.PyData.strOk (wrd zs s y)=true;unfold wrd U2;by_cases c:y∈s
  .rw[AL c];decide +kernel
  .rw[AJ c];by_cases d:y∈s.flatMap (B8 zs)
   .rw[AL d];decide +kernel
   .rw[AJ d];decide +kernel
 have el:∀{l:List LP} {Mx:List Nat} {H':Hp} {zs:List PA2},(l.map fun t=>nw t.2).Perm (Mx.map fun m=>E7 ns zs (setOf ns m))->(∀t∈l,LPIn H' t)->∀x∈l.map elP,El K H' x:=fun{l Mx H' zs} pm at_ x hx=>by
  obtain⟨t,ht,rfl⟩:=AK.mp hx;obtain⟨m,_,e⟩:=AK.mp (pm.mem_iff.mp (AK.mpr ⟨t,ht,rfl⟩));refine zAe (at_ t ht) (fun q hq=>wok zs (setOf ns m) q.2 (by rw[e];exact AK.mpr ⟨q,hq,rfl⟩)) ?_;have:=congrArg List.length e;unfold E7 nw at this;rw[AB,AB]at this;omega
 have ldd:td.length=Ms.length:=by have:=pmD.length_eq;rw[AB,AB]at this;exact this
 have ed':G rd=some (.lst ((td.map elP).map fun x=>V.ref x.1)):=by rw[BZ];exact ed
 refine⟨fun r ts H' le s hr er LL nr pm srt=>hR _ _ s ⟨G,.ref r,rd,td.map elP,rfl,s,ed',el pmD aD,by rw[AB];omega,.inl ⟨by rw[AB,ldd,<-pmM.length_eq];exact le,r,ts.map elP,rfl,by rw[BZ];exact er,el pm LL.at_,by rw[BZ];exact LL.nd,hr,fun x hx=>?_,?_⟩,q⟩,fun gt H' s=>hR _ _ s ⟨G,.str "many",rd,td.map elP,rfl,s,ed',el pmD aD,by rw[AB];omega,.inr ⟨by rw[AB,ldd,<-pmM.length_eq];exact gt,rfl⟩,q⟩⟩
 .obtain⟨t,ht,rfl⟩:=AK.mp hx;exact⟨LL.new t ht,nr t ht⟩
 .have e:(ts.map fun t=>nw t.2)=td.map fun t=>nw t.2:=Sr (CD.mpr srt) (CD.mpr srtD) (pm.trans (by
   have h1:=pmM.map fun m=>E7 ns qs' (setOf ns m);have h2:(Ms.map fun m=>E7 ns qs' (setOf ns m))=Ms.map fun m=>E7 ns ps (setOf ns m):=GB fun m _=>Mq pq;rw[h2]at h1;exact h1.trans pmD.symm))
  have e2:=congrArg (List.map fun ks:List (Str×Str)=>PyData.list (ks.map pd)) e;rw[BZ,BZ]at e2⊢;exact e2
end
theorem Jd{H H':Hp}{p b:Addr}{c:Int}(k:Sm [p] H H')(L:LeftAt H' p c)(h:H' b=none):H b=none:=by
 cases e:H b with
 | none=>rfl
 | some o =>
  have:=Sm1 k e fun z=>by
   obtain⟨_,_,e2,_⟩:=L;rw[z,e2]at h;cases h
  rw[h]at this;cases this
section
variable{P:Program}{w:World}{K:PySem.W.Frag}{mg:Str->Option Value}{base:Heap}
def Yw:Sp:=fun vs H Q _=>∃p:Addr,vs = [.ref p]/\LeftAt H p 0 /\
 ∀t n a (ss:List Str) (ps:List PA2) H',Sm [p] H H'->H' t=some (.tup [.ref n,.ref a])->H n=none->H a=none->n≠a->H' n=some (.lst (ss.map V.str))->M8 ss->ss.length<=10->H' a=some (.lst (G6 ps))->(∀q∈ps,E2 H' q)->StrkOk ss ps->Q (.ref t) H'
theorem Ib(T:Tx K mg):FnOk P w K mg base CX0 4 T.bj.f T.bj.fd ["_law_left_here"] Yw:=by
 have G_law_names:=Gy (P:=P) (w:=w) (base:=base) T;have G_law_size:=Hy (P:=P) (w:=w) (base:=base) T;have G_law_strikes:=Bf (P:=P) (w:=w) (base:=base) T;have sc:=Ci;refine T.bj.F.ok Ci (fun vs H Q E h=>?_) (fun cdv A outer s H vs Q E hr h=>?_)
 .obtain⟨p,rfl,_⟩:=h;rfl
 .obtain⟨p,rfl,L1,q⟩:=h;refine⟨_,(B1 (C4 (i:=1) sc.nd rfl (.inl rfl) (D0 T.a5 G_law_names (Rm hr) (A8 (pv 0) (A8 (D0 T.be G_law_size (Rm hr) (A8 (pv 0) B0)) B0))))
   (B2 (C1 (O1 (A8 (pv 1) (A8 (D0 T.aX G_law_strikes (Rm hr) (A8 (pv 0) (A8 (pv 1) B0))) B0)))))),?_⟩
  refine B5 fun N1 hN1=>?_;refine ex1 rfl (ex1 rfl ⟨p,0,rfl,L1,by decide,fun sz H2 hsz k2 L2=>?_⟩);refine⟨p,_,sz,rfl,L2,by omega,by omega,fun n ss H3 hn k3 e3 l3 N3 L3=>?_⟩;refine hN1 _ _ ?_;refine ex1 rfl (ex1 rfl (ex1 rfl ⟨p,n,_,ss,rfl,L3,by omega,e3,N3,by omega,fun a ps c4 H4 ha k4 e4 pin4 O4 hc4 L4=>⟨by show 2<=sizeLine;decide,fun t ht=>?_⟩⟩));have ut:=Same.new (o:=.tup [.ref n,.ref a]) ht;exact q t n a ss ps _ ((k2.trans k3).trans (k4.trans ut.sm)) upd_same (Jd k2 L2 hn) (Jd k2 L2 (Jd k3 L3 ha)) (A9 e3 ha) (ut _ _ (Sm1 k4 e3 (L3.ne e3))) N3 (by omega) (ut _ _ e4) (G8 ut pin4) O4
end
def er2(G:Hp)(S D:Addr):Hp:=er (er G S) D
theorem Wg{G:Hp}{S D b:Addr}(h1:b≠S)(h2:b≠D):er2 G S D b=G b:=by
 unfold er2;rw[Bk h2,Bk h1]
theorem Jr{G:Hp}{S D b:Addr}{o:HO}(h:er2 G S D b=some o):b≠S/\b≠D/\G b=some o:=by
 unfold er2 er at h;by_cases h2:b=D
 .rw[AL h2]at h;cases h
 .rw[AJ h2]at h;by_cases h1:b=S
  .rw[AL h1]at h;cases h
  .rw[AJ h1]at h;exact⟨h1,h2,h⟩
def Kp(B G G':Hp):Prop:=∀b o,G b=some o->(B b=none\/∃ys,o = .tup ys)->G' b=some o
theorem Kp.trans{B G G' G2:Hp}(h:Kp B G G')(h':Kp B G' G2):Kp B G G2:=fun b o e c=>h' b o (h b o e c) c
theorem Same.kp{B G G':Hp}(s:Same G G'):Kp B G G':=fun b o e _=>s b o e
theorem Kp.upd{B G:Hp}{z:Addr}{o' o:HO}{ys:List V}(hB:B z=some o')(hG:G z=some (.lst ys)):Kp B G (upd G z o):=fun b o2 e c=>by
 rw[B3]
 .exact e
 .rintro rfl;rcases c with c | ⟨zs,rfl⟩
  .rw[hB]at c;cases c
  .rw[hG]at e;cases e
theorem Kp.er2{B G:Hp}{S D:Addr}{o1 o2:HO}{ys zs:List V}(h1:B S=some o1)(h2:B D=some o2)(g1:G S=some (.lst ys))(g2:G D=some (.lst zs)):Kp B G (er2 G S D):=fun b o e c=>by
 rw[Wg]
 .exact e
 .rintro rfl;rcases c with c | ⟨zs,rfl⟩
  .rw[h1]at c;cases c
  .rw[g1]at e;cases e
 .rintro rfl;rcases c with c | ⟨zs,rfl⟩
  .rw[h2]at c;cases c
  .rw[g2]at e;cases e
def QR(D:Ends)(σ:St):VK:=fun x H=>∃c,x = .bl c/\(if(!c)=true then Zo (tC (.bl false)) D σ H else zBw D σ H)
section
variable{P:Program}{w:World}{K:PySem.W.Frag}{mg:Str->Option Value}{base:Heap}
theorem Vt:FnScope ["_law_script", "_law_sides", "_law_dues", "_law_k", "_law_names_here", "_law_strikes_here", "_law_left_here", "_law_at", "_law_web_here", "_law_word"] ["_law_script"] (B4 s_law):=fsc
def Ki(K:PySem.W.Frag):Sp:=fun vs H Q _=>∃(u:Addr) (xs:List Int),vs = [.ref u]/\SqL K H u (xs.map V.int)/\xs.length<=63/\∀H',Q (.bl true) H'
set_option maxHeartbeats 4000000 in
theorem zAa(T:Tx K mg){f:Addr}{fd:FuncData}(F:Fun K "law" "law" s_law f fd):FnOk P w K mg base CX0 21 f fd ["_law_script"] (Ki K):=by
 have G_law_left:=Iz (P:=P) (w:=w) (base:=base) T;have G_law_web:=Ib (P:=P) (w:=w) (base:=base) T;have G_law_pick:=Q9 (P:=P) (w:=w) (base:=base) T;have G_law_due:=Md (P:=P) (w:=w) (base:=base) T;have G_law_asked:=Fq (P:=P) (w:=w) (base:=base) T;have G_law_right:=Es (P:=P) (w:=w) (base:=base) T;have G_Web___init__:=Xe (P:=P) (w:=w) (base:=base) T;have sc:=Vt;refine F.ok Vt (fun vs H Q E h=>?_) (fun cdv A outer s H vs Q E hr h=>?_)
 .obtain⟨u,xs,rfl,_⟩:=h;rfl
 .obtain⟨u,xs,rfl,hS,hlen,q⟩:=h;have hu:=u7 hr;refine⟨_,(B1 (Ps (i:=1) (j:=2) rfl sc.nd rfl rfl (by decide) rfl rfl (A8 (J5 B0) (A8 (J5 B0) B0)) rfl)
   (B1 (K1 PassesOwn.never rfl (zCd T.aY (A8 B6 B0)) (C3 (i:=3) sc.nd rfl (.inl rfl))
   (B1 (X2 (D0 T.bj G_law_web (Rm hr) (A8 (D0 T.a0 G_law_left (Rm hr) (A8 (pv 0) (A8 (pv 3) B0))) B0)) (pgT K (n:=2) (C5 (C3 (i:=4) sc.nd rfl (.inl rfl)) (C5 (C3 (i:=5) sc.nd rfl (.inl rfl)) J1))))
   (B1 (C7 (Bn K PySem.F.plainAttrs_list PySem.F.slot_list_append PySem.F.type_list_append D3 (pv 1) (A8 (O1 (A8 (Em T.bB G_Web___init__ (Rm hr) rfl T.bA T.bn .nil J8 (A8 (pv 4) (A8 (pv 5) B0))) (A8 (Hl (n8 K) T.aZ X6 (A8 (pv 4) B0)) (A8 (Hl (n8 K) T.aZ X6 (A8 (pv 5) B0)) B0)))) B0)))
   (B1 (C7 (Bn K PySem.F.plainAttrs_list PySem.F.slot_list_append PySem.F.type_list_append D3 (pv 2) (A8 (D0 T.bk G_law_due (Rm hr) (A8 (pv 4) (A8 (pv 5) B0))) B0)))
   (B1 (C7 (Bn K PySem.F.plainAttrs_list PySem.F.slot_list_append PySem.F.type_list_append D3 (pv 4) (A8 E3 B0)))
   (B2 (C7 (zAj K PySem.F.plainAttrs_list PySem.F.slot_list_clear PySem.F.type_list_clear Ks (pv 5)))))))))
   (@B1 _ _ _ _ _ (K1 PassesOwn.never rfl (Qi (by rfl) T.aY (A8 B6 (A8 (E6 (Rw rfl) T.bI zAv (A8 B6 (A8 (E6 (Rr rfl) T.bH zBc (A8 (E6 (P3 K) T.az O3 (A8 (pv 0) B0)) (A8 B6 B0))) B0))) B0))) (C3 (i:=3) sc.nd rfl (.inl rfl))
   (B1 (C4 (i:=6) sc.nd rfl (.inl rfl) (D0 T.a0 G_law_left (Rm hr) (A8 (pv 0) (A8 (pv 3) B0))))
   (B1 (C4 (i:=7) sc.nd rfl (.inl rfl) (D0 T.al G_law_pick (Rm hr) (A8 (pv 6) (A8 B6 B0))))
   (B1 (X2 (J7 (ixL K) (pv 1) (pv 7) (fun _ _=>rfl)) (pgT K (n:=3) (C5 (C3 (i:=8) sc.nd rfl (.inl rfl)) (C5 (C3 (i:=4) sc.nd rfl (.inl rfl)) (C5 (C3 (i:=5) sc.nd rfl (.inl rfl)) J1)))))
   (B1 (G9 (C6 K6 (D0 T.al G_law_pick (Rm hr) (A8 (pv 6) (A8 B6 B0))) B6 (D6 _)) (B2 (C4 (i:=8) sc.nd rfl (.inl rfl) (Em T.bB G_Web___init__ (Rm hr) rfl T.bA T.bn .nil J8 (A8 (Gw K (pv 4) (Dw (Mb Pw B6))) (A8 (Gw K (pv 5) (Dw (Mb Pw B6))) B0))))) C9)
   (@B1 _ _ _ _ _ (@C4 _ _ 9 _ _ _ _ sc.nd rfl (.inl rfl) (@J7 _ _ _ _ _ _ _ (ixL K) (@J5 _ _ _ _ (@A8 _ _ _ _ _ E3 (@A8 _ _ _ _ _ E3 (@A8 _ _ _ _ _ E3 (@A8 _ _ _ _ _ E3 (@A8 _ _ _ _ _ E3 B0 (by rfl)) (by rfl)) (by rfl)) (by rfl)) (by rfl))) (D0 T.al G_law_pick (Rm hr) (A8 (pv 6) (A8 B6 B0))) (fun _ _=>rfl)) (by rfl) (by first | exact .inl rfl | exact .inr rfl | assumption))
   (B2 (G9 (X4 (K2 (D0 T.a9 G_law_right (Rm hr) (A8 (D0 T.a8 G_law_asked (Rm hr) (A8 (pv 9) (A8 (pv 8) B0))) (A8 (J9 hu (J7 (ixL K) (pv 2) (pv 7) (fun _ _=>rfl)) (pv 9) (fun _ _=>rfl)) B0))))) (B2 (C1 f7)) C9))))))))
   (B2 (C1 f7))))),?_⟩
  refine B5 fun N0 hN0=>?_;refine⟨CH _,fun S hS0=>⟨CH _,fun Dd hD0=>⟨_,_,rfl,?_⟩⟩⟩;have uS:=Same.new (o:=.lst []) hS0;have uD:=Same.new (o:=.lst []) hD0;have f1:(upd (upd H S (.lst [])) Dd (.lst [])) S=some (.lst ([].map V.ref)):=uD _ _ upd_same;have f2:(upd (upd H S (.lst [])) Dd (.lst [])) Dd=some (.lst ([].map V.ref)):=upd_same;have nSD:S≠Dd:=A9 upd_same hD0;have hDH:H Dd=none:=uS.free hD0;have s0:=uS.trans uD;generalize upd (upd H S (.lst [])) Dd (.lst [])=Hs at f1 f2 s0⊢;refine hN0 _ _ (B5 fun N1 hN1=>?_);refine⟨_,rfl,by decide,by decide,?_⟩;refine M6 (fun i σ G=>(∃v3 v4 v5 v6 v7 v8 v9,σ = [some (.ref u),some (.ref S),some (.ref Dd),v3,v4,v5,v6,v7,v8,v9])/\Same H G/\∃ts ds:List Addr,G S=some (.lst (ts.map V.ref))/\G Dd=some (.lst (ds.map V.ref))/\ts.length=i/\ds.length=i/\∀(j:Nat) (t d:Addr),ts[j]?=some t->ds[j]?=some d->Side T.ac (er2 G S Dd) t d) ⟨⟨_,_,_,_,_,_,_,rfl⟩,s0,[],[],f1,f2,rfl,rfl,fun j t d h=>by cases h⟩ ?_ ?_
  .rintro i σ G hi ⟨⟨v3,v4,v5,v6,v7,v8,v9,rfl⟩,sG,ts,ds,eS,eD,lts,lds,sides⟩ D1 hD1 _;rw[Int.zero_add];refine zAw fun M1 hM1=>?_;refine ex1 rfl (ex1 rfl ⟨u,xs,i,rfl,(sG.at u).seqL hS,by omega,fun p H1 hp s1 L1=>?_⟩);refine⟨p,rfl,L1,fun t n a ss ps H2 k2 et hn ha nan e2 N2 l2 a2 pin2 O2=>?_⟩;have s2:Same G H2:=fun b o e=>k2 b o (s1 b o e) (by simpa using A9 e hp);refine⟨t,_,rfl,SqT.of et,rfl,_,_,rfl,_,_,rfl,rfl,?_⟩;have hnG:G n=none:=s1.free hn;have haG:G a=none:=s1.free ha;have eS2:=s2 _ _ eS;have eD2:=s2 _ _ eD;refine hM1 _ _ (B5 fun M2 hM2=>?_);refine ex1 rfl ⟨.inl ⟨rfl,_,SqL.of eS2⟩,?_⟩;refine ex1 rfl (ex1 rfl ?_);intro x dx nx ndx nex;have sx:Same H2 (upd (upd H2 dx (.own x)) x (.ins T.ac dx [])):=fun b o e=>by
    rw[B3 (A9 e nx),B3 (A9 e ndx)];exact e
   refine zBs (a:=x) (b:=dx) (c:=n) (d:=ss) (e:=a) (f:=ps) rfl upd_same (sx _ _ e2) N2 (sx _ _ a2) (G8 sx pin2) O2 fun ns qs H5 pn srn pq srq k5 W5 WC=>⟨rfl,?_⟩;have s5:Same H2 H5:=fun b o e=>k5 b o (sx b o e) (by simpa using A9 e nx);refine ex1 rfl ⟨n,_,rfl,.inl (SqL.of (s5 _ _ e2)),fun n' hn'=>?_⟩;have u1:=Same.new (o:=.lst (ss.map V.str)) hn';refine ex1 rfl ⟨a,_,rfl,.inl (SqL.of (u1 _ _ (s5 _ _ a2))),fun a' ha'=>?_⟩;have u2:=Same.new (o:=.lst (G6 ps)) ha';refine⟨by show 3<=sizeLine;decide,fun tt htt=>?_⟩;have u3:=Same.new (o:=.tup [.ref x,.ref n',.ref a']) htt;have sC:Same H5 (upd (upd (upd H5 n' (.lst (ss.map V.str))) a' (.lst (G6 ps))) tt (.tup [.ref x,.ref n',.ref a'])):=u1.trans (u2.trans u3);have cn:(upd (upd (upd H5 n' (.lst (ss.map V.str))) a' (.lst (G6 ps))) tt (.tup [.ref x,.ref n',.ref a'])) n'=some (.lst (ss.map V.str)):=(u2.trans u3) _ _ upd_same;have ca:(upd (upd (upd H5 n' (.lst (ss.map V.str))) a' (.lst (G6 ps))) tt (.tup [.ref x,.ref n',.ref a'])) a'=some (.lst (G6 ps)):=u3 _ _ upd_same;have ct:(upd (upd (upd H5 n' (.lst (ss.map V.str))) a' (.lst (G6 ps))) tt (.tup [.ref x,.ref n',.ref a'])) tt=some (.tup [.ref x,.ref n',.ref a']):=upd_same;have hn2:H2 n'=none:=s5.free hn';have ha2:H2 a'=none:=(s5.trans u1).free ha';generalize upd (upd (upd H5 n' (.lst (ss.map V.str))) a' (.lst (G6 ps))) tt (.tup [.ref x,.ref n',.ref a'])=Hc at sC cn ca ct⊢;have s2c:=s5.trans sC;have eSc:=s2c _ _ eS2;refine⟨S,_,_,rfl,rfl,eSc,by rw[AB,sizeLine_eq];omega,hM2 _ _ (B5 fun M3 hM3=>?_)⟩;have kd:Kp H2 Hc (upd Hc S (.lst (ts.map V.ref ++ [.ref tt]))):=Kp.upd eS2 eSc;have nS:∀{b o},G S=some o->G b=none->b≠S:=fun e h z=>by rw[z,e]at h;cases h
   have nnS:n≠S:=nS eS hnG;have naS:a≠S:=nS eS haG;have nnD:n≠Dd:=fun z=>by rw[z,eD]at hnG;cases hnG
   have naD:a≠Dd:=fun z=>by rw[z,eD]at haG;cases haG
   have dS':(upd Hc S (.lst (ts.map V.ref ++ [.ref tt]))) S=some (.lst ((ts ++ [tt]).map V.ref)):=by rw[upd_same,AU];rfl
   have dD:(upd Hc S (.lst (ts.map V.ref ++ [.ref tt]))) Dd=some (.lst (ds.map V.ref)):=(B3 nSD.symm).trans (s2c _ _ eD2);have dn:(upd Hc S (.lst (ts.map V.ref ++ [.ref tt]))) n=some (.lst (ss.map V.str)):=(B3 nnS).trans (s2c _ _ e2);have da:(upd Hc S (.lst (ts.map V.ref ++ [.ref tt]))) a=some (.lst (G6 ps)):=(B3 naS).trans (s2c _ _ a2);have dp:∀q∈ps,E2 (upd Hc S (.lst (ts.map V.ref ++ [.ref tt]))) q:=fun q hq=>kd _ _ (s2c _ _ (pin2 q hq)) (.inr ⟨_,rfl⟩);have dold:∀b o,H2 b=some o->b≠S->(upd Hc S (.lst (ts.map V.ref ++ [.ref tt]))) b=some o:=fun b o e nb=>(B3 nb).trans (s2c _ _ e);have dfree:∀b,(upd Hc S (.lst (ts.map V.ref ++ [.ref tt]))) b=none->H2 b=none:=fun b h=>by
    cases e:H2 b with
    | none=>rfl
    | some o =>
     by_cases z:b=S
     .rw[z,dS']at h;cases h
     .rw[dold b o e z]at h;cases h
   generalize upd Hc S (.lst (ts.map V.ref ++ [.ref tt]))=Hd at kd dS' dD dn da dp dold dfree⊢;refine ex1 rfl ⟨.inl ⟨rfl,_,SqL.of dD⟩,?_⟩;refine ex1 rfl (ex1 rfl ⟨n,a,ss,ps,rfl,dn,N2,da,dp,O2,l2,fun d kvs ns2 A B rS rW rG rO rT H7 hd s7 ed v1 v2 v3 v4 v5 pm2 sr2 mA mB tS tW tG tO tT=>?_⟩);have en:ns2=ns:=Bq sr2 srn (pm2.trans pn.symm);subst en;refine⟨Dd,_,_,rfl,rfl,s7 _ _ dD,by rw[AB,sizeLine_eq];omega,hM3 _ _ (B5 fun M4 hM4=>?_)⟩;have n7:=s7 _ _ dn;have a7:=s7 _ _ da;have ke:Kp H2 H7 (upd H7 Dd (.lst (ds.map V.ref ++ [.ref d]))):=Kp.upd eD2 (s7 _ _ dD);have ne':(upd H7 Dd (.lst (ds.map V.ref ++ [.ref d]))) n=some (.lst (ss.map V.str)):=(B3 nnD).trans n7;have ae':(upd H7 Dd (.lst (ds.map V.ref ++ [.ref d]))) a=some (.lst (G6 ps)):=(B3 naD).trans a7;refine ex1 rfl ⟨.inl ⟨rfl,_,SqL.of ne'⟩,n,_,_,rfl,rfl,ne',by rw[AB,sizeLine_eq];omega,hM4 _ _ ?_⟩;have kf:Kp H2 (upd H7 Dd (.lst (ds.map V.ref ++ [.ref d]))) (upd (upd H7 Dd (.lst (ds.map V.ref ++ [.ref d]))) n (.lst (ss.map V.str ++ [.str "more"]))):=Kp.upd e2 ne';have fa:(upd (upd H7 Dd (.lst (ds.map V.ref ++ [.ref d]))) n (.lst (ss.map V.str ++ [.str "more"]))) a=some (.lst (G6 ps)):=(B3 nan.symm).trans ae';refine ex1 rfl ⟨.inl ⟨rfl,_,SqL.of fa⟩,a,_,rfl,rfl,fa,?_⟩;have kg:Kp H2 (upd (upd H7 Dd (.lst (ds.map V.ref ++ [.ref d]))) n (.lst (ss.map V.str ++ [.str "more"]))) (upd (upd (upd H7 Dd (.lst (ds.map V.ref ++ [.ref d]))) n (.lst (ss.map V.str ++ [.str "more"]))) a (.lst [])):=Kp.upd a2 fa;have gS:(upd (upd (upd H7 Dd (.lst (ds.map V.ref ++ [.ref d]))) n (.lst (ss.map V.str ++ [.str "more"]))) a (.lst [])) S=some (.lst ((ts ++ [tt]).map V.ref)):=(B3 naS.symm).trans ((B3 nnS.symm).trans ((B3 nSD).trans (s7 _ _ dS')));have gD:(upd (upd (upd H7 Dd (.lst (ds.map V.ref ++ [.ref d]))) n (.lst (ss.map V.str ++ [.str "more"]))) a (.lst [])) Dd=some (.lst ((ds ++ [d]).map V.ref)):=(B3 naD.symm).trans ((B3 nnD.symm).trans (upd_same.trans (by rw[AU];rfl)));have gO:∀b o,G b=some o->b≠S->b≠Dd->(upd (upd (upd H7 Dd (.lst (ds.map V.ref ++ [.ref d]))) n (.lst (ss.map V.str ++ [.str "more"]))) a (.lst [])) b=some o:=fun b o e nb nb'=>(B3 (A9 e haG)).trans ((B3 (A9 e hnG)).trans ((B3 nb').trans (s7 _ _ (dold b o (s2 _ _ e) nb))));have kr:=ke.trans (kf.trans kg);generalize upd (upd (upd H7 Dd (.lst (ds.map V.ref ++ [.ref d]))) n (.lst (ss.map V.str ++ [.str "more"]))) a (.lst [])=Hg at gS gD gO kr⊢;have k7:Kp H2 H7 (er2 Hg S Dd):=kr.trans (Kp.er2 eS2 eD2 gS gD);have kc:Kp H2 Hc (er2 Hg S Dd):=kd.trans ((Same.kp s7).trans k7);have dk:∀b xs,H7 b=some (.lst xs)->Hd b=none->(er2 Hg S Dd) b=some (.lst xs):=fun b xs e h=>k7 _ _ e (.inl (dfree b h));refine hD1 _ _ ⟨⟨_,_,_,_,_,_,_,rfl⟩,fun b o e=>gO b o (sG b o e) (A9 e hS0) (A9 e hDH),ts ++ [tt],ds ++ [d],gS,gD,by rw[AZ,lts];rfl,by rw[AZ,lds];rfl,fun j t1 d1 ht hd1=>?_⟩;rcases Nat.lt_or_ge j i with lt | ge
   .rw[FT (by omega)]at ht hd1;exact(sides j t1 d1 ht hd1).same fun b o e=>by
     obtain⟨z1,z2,e⟩:=Jr e;rw[Wg z1 z2];exact gO b o e z1 z2
   .rw[FO (by omega)]at ht hd1;rw[lts]at ht;rw[lds]at hd1;have ji:j-i=0:=by
     cases c:j-i with
     | zero=>rfl
     | succ k=>rw[c]at ht;cases ht
    rw[ji]at ht hd1;cases ht;cases hd1;refine⟨x,n',a',ss,ns2,ps,qs,kvs,A,B,rS,rW,rG,rO,rT,kc _ _ ct (.inr ⟨_,rfl⟩),kc _ _ cn (.inl hn2),N2,l2,kc _ _ ca (.inl ha2),fun q hq=>kc _ _ (s2c _ _ (pin2 q hq)) (.inr ⟨_,rfl⟩),O2,WC _ fun b o e c=>kc _ _ (sC _ _ e) ?_,pn,srn,pq,k7 _ _ ed (.inl (dfree _ hd)),v1,v2,v3,v4,v5,mA,mB,(tS.keep dk).drop,(tW.keep dk).drop,(tG.keep dk).drop,(tO.keep dk).drop,(tT.keep dk fun b xs e=>k7 _ _ e (.inr ⟨_,rfl⟩)).drop⟩;rcases c with c | rfl | ⟨q,hq,rfl⟩
    .exact .inl (sx.free c)
    .exact .inl nx
    .have:=s5 _ _ (pin2 q (pq.mem_iff.mp hq));rw[e]at this;exact .inr ⟨_,BI this⟩
  .rintro σ Gm ⟨⟨v3,v4,v5,v6,v7,v8,v9,rfl⟩,sG,ts,ds,eS,eD,lts,lds,sides⟩;refine hN1 _ _ (B5 fun N2 hN2=>?_);have u0:SqL K Gm u (xs.map V.int):=(sG.at u).seqL hS;have se:Same (er2 Gm S Dd) Gm:=fun b o e=>(Jr e).2.2;refine ex1 rfl ⟨u,_,rfl,.inl u0,_,_,rfl,_,_,rfl,_,_,rfl,?_,?_⟩
   .refine⟨by decide,by decide,?_,?_⟩<;>rw[AB]<;>split<;>split<;>omega
   have hM:(((if(if(18:Int) <((xs.map V.int).length:Int)then(18:Int)else((xs.map V.int).length:Int))>8 then(if(18:Int) <((xs.map V.int).length:Int)then(18:Int)else((xs.map V.int).length:Int))else 8):Int)-2).toNat<=16:=by
    split<;>split<;>omega
   generalize (((if(if(18:Int) <((xs.map V.int).length:Int)then(18:Int)else((xs.map V.int).length:Int))>8 then(if(18:Int) <((xs.map V.int).length:Int)then(18:Int)else((xs.map V.int).length:Int))else 8):Int)-2).toNat=M at hM⊢;refine M6 (fun i σ G=>(∃v3 v4 v5 v6 v7 v8 v9,σ = [some (.ref u),some (.ref S),some (.ref Dd),v3,v4,v5,v6,v7,v8,v9])/\Same Gm G) ⟨⟨_,_,_,_,_,_,_,rfl⟩,fun _ _ e=>e⟩ ?_ ?_
   .rintro i σ G hi ⟨⟨v3,v4,v5,v6,v7,v8,v9,rfl⟩,s0'⟩ D1 hD1 hrt;have e2:(2:Int) +(i:Int) =((i+2:Nat):Int):=by omega
    rw[e2];refine zAw fun M1 hM1=>?_;refine ex1 rfl (ex1 rfl ⟨u,xs,i+2,rfl,(s0'.at u).seqL u0,by omega,fun p H1 hp s1 L1=>?_⟩);refine hM1 _ _ (B5 fun M2 hM2=>?_);refine ex1 rfl ⟨p,0,2,rfl,L1,by decide,by decide,by decide,fun k H2 hk k2 L2=>?_⟩;have hpm:Gm p=none:=s0'.free hp;have s2:Same Gm H2:=fun b o e=>k2 b o (s1 b o (s0' b o e)) (by simpa using A9 e hpm);refine hM2 _ _ (B5 fun M3 hM3=>?_);have hk:k<2:=by omega
    obtain⟨t,ht⟩:∃t,ts[k]?=some t:=⟨_,AC (by omega)⟩;obtain⟨d,hd⟩:∃d,ds[k]?=some d:=⟨_,AC (by omega)⟩;obtain⟨x,n,a,ss,ns,ps,qs,kvs,A,B,rS,rW,rG,rO,rT,et,h0⟩:=sides k t d ht hd;have et:=se _ _ et;have h0:=h0.same se;have htt:(ts.map V.ref)[k]?=some (.ref t):=by rw[AH,ht];rfl
    have hdt:(ds.map V.ref)[k]?=some (.ref d):=by rw[AH,hd];rfl
    have lnn:ns.length<=10:=by rw[h0.pn.length_eq];exact h0.ln
    refine ex1 rfl (ex1 rfl ⟨S,_,B7 rfl rfl ⟨SqL.of (s2 _ _ eS),G7 htt,?_⟩⟩);refine⟨t,_,rfl,SqT.of (s2 _ _ et),rfl,_,_,rfl,_,_,rfl,_,_,rfl,rfl,?_⟩;refine hM3 _ _ (B5 fun M4 hM4=>?_);have join:∀(wb:Addr) (G4:Hp) (qs4:List PA2) (c:Int),Same Gm G4->WebAt T.ac (er G4 p) wb ns qs4->qs4.Perm ps->LeftAt G4 p c->c<=100->M4 [some (.ref u),some (.ref S),some (.ref Dd),some (.int ((i+2:Nat):Int)),some (.ref n),some (.ref a),some (.ref p),some (.int (k:Int)),some (.ref wb),v9] G4:=fun wb G4 qs4 c s4 W4 pq4 L4 hc=>by
     refine hM4 _ _ (B5 fun M5 hM5=>?_);refine⟨by show 5<=sizeLine;decide,fun l hl=>?_⟩;have ul:=Same.new (o:=.lst [.str "standing",.str "whole",.str "greatest",.str "outright",.str "tellings"]) hl;have L5:LeftAt (upd G4 l (.lst [.str "standing",.str "whole",.str "greatest",.str "outright",.str "tellings"])) p c:=let⟨x,y,e,r⟩:=L4;⟨x,y,ul _ _ e,r⟩;refine ex1 rfl ⟨p,c,5,rfl,L5,by omega,by decide,by decide,fun j H6 hj k6 L6=>?_⟩;have nlp:l≠p:=by
      obtain⟨_,_,e,_⟩:=L4;exact(A9 e hl).symm
     have el:=Sm1 k6 (upd_same (H:=G4) (o:=.lst [.str "standing",.str "whole",.str "greatest",.str "outright",.str "tellings"])) nlp;have s6:Same Gm H6:=fun b o e=>k6 b o (ul _ _ (s4 _ _ e)) (by simpa using A9 e hpm);have W6:WebAt T.ac H6 wb ns qs4:=W4.same fun b o e=>by
      have nb:b≠p:=fun z=>by
       rw[z]at e;unfold er at e;rw[AL rfl]at e;cases e
      rw[Bk nb]at e;exact k6 b o (ul _ _ e) (by simpa using nb)
     have fin:∀(v:Option V) H',Same H6 H'->D1.nx [some (.ref u),some (.ref S),some (.ref Dd),some (.int ((i+2:Nat):Int)),some (.ref n),some (.ref a),some (.ref p),some (.int (k:Int)),some (.ref wb),v] H':=fun v H' s=>hD1 _ _ ⟨⟨_,_,_,_,_,_,_,rfl⟩,s6.trans s⟩;have hj:j=0\/j=1\/j=2\/j=3\/j=4:=by omega
     rcases hj with rfl | rfl | rfl | rfl | rfl
     .refine⟨l,_,B7 rfl rfl ⟨SqL.of el,G7 (j:=0) rfl,hM5 _ _ ?_⟩⟩;exact ex1 rfl (ex1 rfl ⟨"standing",wb,ns,qs4,rfl,W6,lnn,.inl ⟨rfl,zDf (K:=K) (Q:=QR D1 _) (E:=E0) h0.pn h0.N h0.ln h0.mA h0.mB pq4 (h0.dS.same s6) (fun ha hb=>StandM.ext ha hb) (fun fv H' s h=>ex1 rfl (ex1 rfl ⟨Dd,_,B7 rfl rfl ⟨SqL.of (s _ _ (s6 _ _ eD)),G7 hdt,ex1 rfl ⟨d,.ref rS,rfl,h0.v1▸DGet.k (k:=.inr "standing") (s _ _ (s6 _ _ h0.ed)),h⟩⟩⟩)) (fun H' s=>⟨true,rfl,X1 (fin _ H' s)⟩)⟩⟩)
     .refine⟨l,_,B7 rfl rfl ⟨SqL.of el,G7 (j:=1) rfl,hM5 _ _ ?_⟩⟩;exact ex1 rfl (ex1 rfl ⟨"whole",wb,ns,qs4,rfl,W6,lnn,.inr (.inl ⟨rfl,zDf (K:=K) (Q:=QR D1 _) (E:=E0) h0.pn h0.N h0.ln h0.mA h0.mB pq4 (h0.dW.same s6) (fun ha hb=>WholeM.ext ha hb) (fun fv H' s h=>ex1 rfl (ex1 rfl ⟨Dd,_,B7 rfl rfl ⟨SqL.of (s _ _ (s6 _ _ eD)),G7 hdt,ex1 rfl ⟨d,.ref rW,rfl,h0.v2▸DGet.k (k:=.inr "whole") (s _ _ (s6 _ _ h0.ed)),h⟩⟩⟩)) (fun H' s=>⟨true,rfl,X1 (fin _ H' s)⟩)⟩)⟩)
     .refine⟨l,_,B7 rfl rfl ⟨SqL.of el,G7 (j:=2) rfl,hM5 _ _ ?_⟩⟩;exact ex1 rfl (ex1 rfl ⟨"greatest",wb,ns,qs4,rfl,W6,lnn,.inr (.inr (.inr (.inl ⟨rfl,zDf (K:=K) (Q:=QR D1 _) (E:=E0) h0.pn h0.N h0.ln h0.mA h0.mB pq4 (h0.dG.same s6) (fun ha hb=>MaxM.ext ha hb) (fun fv H' s h=>ex1 rfl (ex1 rfl ⟨Dd,_,B7 rfl rfl ⟨SqL.of (s _ _ (s6 _ _ eD)),G7 hdt,ex1 rfl ⟨d,.ref rG,rfl,h0.v3▸DGet.k (k:=.inr "greatest") (s _ _ (s6 _ _ h0.ed)),h⟩⟩⟩)) (fun H' s=>⟨true,rfl,X1 (fin _ H' s)⟩)⟩)))⟩)
     .refine⟨l,_,B7 rfl rfl ⟨SqL.of el,G7 (j:=3) rfl,hM5 _ _ ?_⟩⟩;exact ex1 rfl (ex1 rfl ⟨"outright",wb,ns,qs4,rfl,W6,lnn,.inr (.inr (.inr (.inr (⟨rfl,zDf (K:=K) (Q:=QR D1 _) (E:=E0) h0.pn h0.N h0.ln h0.mA h0.mB pq4 (h0.dO.same s6) (fun ha hb=>OutM.ext hb) (fun fv H' s h=>ex1 rfl (ex1 rfl ⟨Dd,_,B7 rfl rfl ⟨SqL.of (s _ _ (s6 _ _ eD)),G7 hdt,ex1 rfl ⟨d,.ref rO,rfl,h0.v4▸DGet.k (k:=.inr "outright") (s _ _ (s6 _ _ h0.ed)),h⟩⟩⟩)) (fun H' s=>⟨true,rfl,X1 (fin _ H' s)⟩)⟩))))⟩)
     .refine⟨l,_,B7 rfl rfl ⟨SqL.of el,G7 (j:=4) rfl,hM5 _ _ ?_⟩⟩;exact ex1 rfl (ex1 rfl ⟨"tellings",wb,ns,qs4,rfl,W6,lnn,.inr (.inr (.inl ⟨rfl,zGf (K:=K) (Q:=QR D1 _) (E:=E0) h0.pn h0.N h0.ln h0.mA h0.mB pq4 (h0.dT.same s6) (fun fv H' s h=>ex1 rfl (ex1 rfl ⟨Dd,_,B7 rfl rfl ⟨SqL.of (s _ _ (s6 _ _ eD)),G7 hdt,ex1 rfl ⟨d,.ref rT,rfl,h0.v5▸DGet.k (k:=.inr "tellings") (s _ _ (s6 _ _ h0.ed)),h⟩⟩⟩)) (fun H' s=>⟨true,rfl,X1 (fin _ H' s)⟩)⟩))⟩)
    refine ex1 rfl ⟨p,0+1,4,rfl,L2,by decide,by decide,by decide,fun j H3 hj k3 L3=>⟨rfl,_,rfl,Q6 (fun _=>?_) (fun _=>?_)⟩⟩
    .have s3:Same Gm H3:=fun b o e=>k3 b o (s2 b o e) (by simpa using A9 e hpm);refine ex1 rfl ⟨_,rfl,_,rfl,rfl,n,_,rfl,SqL.of (s3 _ _ h0.en),fun n' hn'=>?_⟩;have u1:=Same.new (o:=.lst (ss.map V.str).reverse) hn';refine ex1 rfl ⟨_,rfl,_,rfl,rfl,a,_,rfl,SqL.of (u1 _ _ (s3 _ _ h0.ea)),fun a' ha'=>?_⟩;have u2:=Same.new (o:=.lst (G6 ps).reverse) ha';have gn:(upd (upd H3 n' (.lst (ss.map V.str).reverse)) a' (.lst (G6 ps).reverse)) n'=some (.lst (ss.reverse.map V.str)):=(u2 _ _ upd_same).trans (by rw[List.map_reverse]);have ga:(upd (upd H3 n' (.lst (ss.map V.str).reverse)) a' (.lst (G6 ps).reverse)) a'=some (.lst (G6 ps.reverse)):=upd_same.trans (by unfold G6;rw[List.map_reverse]);have u3:=u1.trans u2;generalize upd (upd H3 n' (.lst (ss.map V.str).reverse)) a' (.lst (G6 ps).reverse)=H4 at gn ga u3⊢;intro y dy ny ndy ney;have sx:Same H4 (upd (upd H4 dy (.own y)) y (.ins T.ac dy [])):=fun b o e=>by
      rw[B3 (A9 e ny),B3 (A9 e ndy)];exact e
     have s4:Same Gm H4:=s3.trans u3;have pr:=List.reverse_perm ps;refine zBs (a:=y) (b:=dy) (c:=n') (d:=ss.reverse) (e:=a') (f:=ps.reverse) rfl upd_same (sx _ _ gn) ⟨fun z hz=>h0.N.1 z (FM.mp hz),(List.reverse_perm ss).nodup_iff.mpr h0.N.2.1,by rw[List.length_reverse];exact h0.N.2.2⟩ (sx _ _ ga) (fun q hq=>sx _ _ (s4 _ _ (h0.pin q (FM.mp hq)))) ⟨fun q hq=>⟨FM.mpr (h0.O.nm q (FM.mp hq)).1,FM.mpr (h0.O.nm q (FM.mp hq)).2⟩,(pr.map _).nodup_iff.mpr h0.O.nd,by rw[List.length_reverse];exact h0.O.len⟩ fun ns5 qs5 H5 pn5 sr5 pq5 _ k5 W5 WC=>⟨rfl,?_⟩;have en:ns5=ns:=Bq sr5 h0.sn (pn5.trans ((List.reverse_perm ss).trans h0.pn.symm));subst en;have s5:Same H4 H5:=fun b o e=>k5 b o (sx b o e) (by simpa using A9 e ny);obtain⟨c1,c2,ep,c3⟩:=L3;have ep4:=u3 _ _ ep;refine join y H5 qs5 (0+1+1) (s4.trans s5) (WC _ fun b o e c=>?_) (pq5.trans pr) ⟨c1,c2,s5 _ _ ep4,c3⟩ (by decide);rw[Bk]
     .exact e
     .rcases c with c | rfl | ⟨q,hq,rfl⟩
      .exact(A9 ep4 (sx.free c)).symm
      .exact(A9 ep4 ny).symm
      .exact A9 (h0.pin q (FM.mp (pq5.mem_iff.mp hq))) hpm
    .have s3:Same Gm H3:=fun b o e=>k3 b o (s2 b o e) (by simpa using A9 e hpm);exact join x H3 qs (0+1+1) s3 (h0.W.same fun b o e=>(Bk (A9 e hpm)).trans (s3 _ _ e)) h0.pq L3 (by decide)
   .rintro σ G ⟨⟨v3,v4,v5,v6,v7,v8,v9,rfl⟩,s0'⟩;exact hN2 _ _ (q _)
end
section
variable{K:PySem.W.Frag}{h:Heap}{mg:Str->Option Value}
def fn_mk{x:Str}{st:Stmt}{ps:List Str}{f:Addr}{oc:Value}{od an:Option Addr}{osl:Array (Option Value)}{kV doc pm cdv ct:Value}(X:K.In h)(G:h.Ns mainGlobals mg)(a:PySem.W.nsIn K mainGlobals x=some (some (.ref f)))
  (l:K.lookup f=some ⟨oc,od,.func (PySem.W.fnOf x x (P4 st) (K3 st) (B4 st) .none kV doc pm an cdv ct),osl⟩) (c:PySem.W.codeIn K cdv x=true) (k:PySem.W.keepIn K (.ref f)=true)
  (hb:∀(kV doc pm:Value) (an:Option Addr) (cdv ct:Value) (us:List Value),us.length=ps.length->bindArgs (PySem.W.fnOf x x (P4 st) (K3 st) (B4 st) .none kV doc pm an cdv ct) ⟨us,[]⟩=pure (ps.zip us)):Fn K mg x st ps :=
 ⟨f,_,fun_mk l c k,(fun_mk l c k).binds hb,PySem.W.mg_of X G a⟩
def mt_mk{C:Addr}{x q:Str}{st:Stmt}{ps:List Str}{f:Addr}{oc:Value}{od an:Option Addr}{osl:Array (Option Value)}{kV doc pm cdv ct:Value}(a:PySem.W.findIn K (.ref C) x=some (some (.ref f)))(i:PySem.W.isFn K (.ref f)=true)
  (l:K.lookup f=some ⟨oc,od,.func (PySem.W.fnOf x q (P4 st) (K3 st) (B4 st) .none kV doc pm an cdv ct),osl⟩) (c:PySem.W.codeIn K cdv q=true) (k:PySem.W.keepIn K (.ref f)=true)
  (hb:∀(kV doc pm:Value) (an:Option Addr) (cdv ct:Value) (us:List Value),us.length=ps.length->bindArgs (PySem.W.fnOf x q (P4 st) (K3 st) (B4 st) .none kV doc pm an cdv ct) ⟨us,[]⟩=pure (ps.zip us)):Mt K C x q st ps :=
 ⟨f,_,fun_mk l c k,(fun_mk l c k).binds hb,⟨a,i,k⟩⟩
theorem str_mk{x z:Str}{v:Value}(X:K.In h)(G:h.Ns mainGlobals mg)(a:PySem.W.nsIn K mainGlobals x=some (some v))(e:∃t,v = .str z t):∃t,mg x=some (.str z t):=by
 obtain⟨t,rfl⟩:=e;exact⟨t,PySem.W.mg_of X G a⟩
theorem int_mk{x:Str}{z:Int}{v:Value}(X:K.In h)(G:h.Ns mainGlobals mg)(a:PySem.W.nsIn K mainGlobals x=some (some v))(e:∃t,v = .int z t):∃t,mg x=some (.int z t):=by
 obtain⟨t,rfl⟩:=e;exact⟨t,PySem.W.mg_of X G a⟩
theorem len1{us:List Value}(h:us.length=1):∃a,us = [a]:=List.length_eq_one_iff.mp h
theorem len2{us:List Value}(h:us.length=2):∃a b,us = [a,b]:=by
 cases us with
 | nil=>cases h
 | cons a r=>obtain⟨b,rfl⟩:=len1 (Nat.succ.inj h);exact⟨a,b,rfl⟩
theorem len3{us:List Value}(h:us.length=3):∃a b c,us = [a,b,c]:=by
 cases us with
 | nil=>cases h
 | cons a r=>obtain⟨b,c,rfl⟩:=len2 (Nat.succ.inj h);exact⟨a,b,c,rfl⟩
theorem zFq{us:List Value}(h:us.length=4):∃a b c d,us = [a,b,c,d]:=by
 cases us with
 | nil=>cases h
 | cons a r=>obtain⟨b,c,d,rfl⟩:=len3 (Nat.succ.inj h);exact⟨a,b,c,d,rfl⟩
theorem zDo{us:List Value}(h:us.length=5):∃a b c d e,us = [a,b,c,d,e]:=by
 cases us with
 | nil=>cases h
 | cons a r=>obtain⟨b,c,d,e,rfl⟩:=zFq (Nat.succ.inj h);exact⟨a,b,c,d,e,rfl⟩
theorem len6{us:List Value}(h:us.length=6):∃a b c d e f,us = [a,b,c,d,e,f]:=by
 cases us with
 | nil=>cases h
 | cons a r=>obtain⟨b,c,d,e,f,rfl⟩:=zDo (Nat.succ.inj h);exact⟨a,b,c,d,e,f,rfl⟩
theorem ni_mk{C:Addr}(h:PySem.W.findIn K (.ref C) "__init__" = some (some (.builtin "ValueError.__init__"))):PySem.W.findIn K (.ref C) "__init__" = some (some (.builtin "ValueError.__init__")):=h
theorem noattr_mk{C:Addr}{f:Str}(h:PySem.W.findIn K (.ref C) f=some none):NoAttr K C f:=h
end
theorem all_mk{l:PySem.W.OpenLaw}{w:World}{K:PySem.W.Frag}{h:Heap}{mg:Str->Option Value}{fa f:Addr}{oc:Value}{od an:Option Addr}{osl:Array (Option Value)}{kV doc pm cdv ct:Value}(X:K.In h)(G:h.Ns mainGlobals mg)(hfa:mg "law" = some (.ref fa))
  (T:Tx K mg) (a:PySem.W.nsIn K mainGlobals "law" = some (some (.ref f))) (lk:K.lookup f=some ⟨oc,od,.func (PySem.W.fnOf "law" "law" (P4 s_law) (K3 s_law) (B4 s_law) .none kV doc pm an cdv ct),osl⟩) (c:PySem.W.codeIn K cdv "law" = true) (k:PySem.W.keepIn K (.ref f)=true) :
  ∃fd:FuncData,(∀(s:Shared) (v:Value),BindsTo s fd ⟨[v],[]⟩ [("_law_script",v)])/\∀base:Heap,K.In base->base.Ns mainGlobals mg->FnOk l.prog w K mg base CX0 21 fa fd ["_law_script"] (Ki K):=by
 have e:=hfa.symm.trans (PySem.W.mg_of X G a);cases e;exact⟨PySem.W.fnOf "law" "law" (P4 s_law) (K3 s_law) (B4 s_law) .none kV doc pm an cdv ct,fun s v=>.of_eq rfl,fun base _ _=>zAa T (fun_mk lk c k)⟩
theorem walk{l:PySem.W.OpenLaw}{q:Program}{loose:List Str}{XP:(Str->Option Value)->Heap->Prop}{YP:World->Heap->Prop}{d:DefRec}{K:Params->PySem.W.Frag}(hn:l.most=some 63)(hdf:d.params.defaults = [])
  (hY:∀(w:World) (h:Heap),YP w h->(K w.params).In h)
  (F:∀(w:World) (mg:Str->Option Value) (fa:Addr) (h:Heap),(K w.params).In h->h.Ns mainGlobals mg->mg d.name=some (.ref fa) ->
   ∃fd:FuncData,(∀(s:Shared) (u:Value),BindsTo s fd ⟨[u],[]⟩ [("_law_script",u)])/\∀base:Heap,(K w.params).In base->base.Ns mainGlobals mg->FnOk l.prog w (K w.params) mg base CX0 21 fa fd ["_law_script"] (Ki (K w.params))) :
  PySem.W.WalkO q loose XP YP l.row.toRowW d [] (fun f vs=>PySem.call f vs) :=
 L2.walk_of (n:=63) (k:=21) (x := "_law_script") (CX:=fun _=>CX0) (sp:=fun w=>Ki (K w.params)) hn (by decide) hdf ⟨rfl,by decide,by decide⟩ hY F (fun _ _ a ns hl _ hS=>⟨a,ns,rfl,hS,hl,fun _=>rfl⟩) fun _ _ _ _ _ z=>z
end Sw
open PySem PySem.W PyProof.Rows
set_option maxRecDepth 100000 in
set_option maxHeartbeats 0 in
theorem PySem.Challenge.cw_strikeweave_k28_lists_by_turns_holds : PySem.Challenge.rw_strikeweave_k28_lists_by_turns.Holds := by
 w_on;o_law;k_head;(case hw=>w_witness2)
 k_fill
 refine Sw.walk (l:=PySem.Challenge.rw_strikeweave_k28_lists_by_turns) rfl rfl (fun w h Y=>PySem.W.kIn_of Y) ?F
 case F =>
  intro w mg fa h KX G hmg;refine' Sw.all_mk KX G hmg (Sw.Tx.mk (Sw.fn_mk KX G ?a1 ?l2 ?c3 ?k4 (fun _ _ _ _ _ _ us hl=>by obtain⟨a,b,rfl⟩:=Sw.len2 hl;rfl))
   (Sw.fn_mk KX G ?a5 ?l6 ?c7 ?k8 (fun _ _ _ _ _ _ us hl=>by obtain⟨a,b,rfl⟩:=Sw.len2 hl;rfl))
   (Sw.fn_mk KX G ?a9 ?l10 ?c11 ?k12 (fun _ _ _ _ _ _ us hl=>by obtain⟨a,rfl⟩:=Sw.len1 hl;rfl))
   (Sw.fn_mk KX G ?a13 ?l14 ?c15 ?k16 (fun _ _ _ _ _ _ us hl=>by obtain⟨a,rfl⟩:=Sw.len1 hl;rfl))
   (Sw.fn_mk KX G ?a17 ?l18 ?c19 ?k20 (fun _ _ _ _ _ _ us hl=>by obtain⟨a,rfl⟩:=Sw.len1 hl;rfl))
   (Sw.fn_mk KX G ?a21 ?l22 ?c23 ?k24 (fun _ _ _ _ _ _ us hl=>by obtain⟨a,rfl⟩:=Sw.len1 hl;rfl))
   (Sw.fn_mk KX G ?a25 ?l26 ?c27 ?k28 (fun _ _ _ _ _ _ us hl=>by obtain⟨a,rfl⟩:=Sw.len1 hl;rfl))
   (Sw.fn_mk KX G ?a29 ?l30 ?c31 ?k32 (fun _ _ _ _ _ _ us hl=>by obtain⟨a,rfl⟩:=Sw.len1 hl;rfl))
   (Sw.fn_mk KX G ?a33 ?l34 ?c35 ?k36 (fun _ _ _ _ _ _ us hl=>by obtain⟨a,rfl⟩:=Sw.len1 hl;rfl))
   (Sw.fn_mk KX G ?a37 ?l38 ?c39 ?k40 (fun _ _ _ _ _ _ us hl=>by obtain⟨a,b,c,rfl⟩:=Sw.len3 hl;rfl))
   (Sw.fn_mk KX G ?a41 ?l42 ?c43 ?k44 (fun _ _ _ _ _ _ us hl=>by obtain⟨a,b,c,d,e,f,rfl⟩:=Sw.len6 hl;rfl))
   (Sw.fn_mk KX G ?a45 ?l46 ?c47 ?k48 (fun _ _ _ _ _ _ us hl=>by obtain⟨a,b,c,rfl⟩:=Sw.len3 hl;rfl))
   (Sw.fn_mk KX G ?a49 ?l50 ?c51 ?k52 (fun _ _ _ _ _ _ us hl=>by obtain⟨a,b,c,rfl⟩:=Sw.len3 hl;rfl))
   (Sw.fn_mk KX G ?a53 ?l54 ?c55 ?k56 (fun _ _ _ _ _ _ us hl=>by obtain⟨a,b,c,rfl⟩:=Sw.len3 hl;rfl))
   (Sw.fn_mk KX G ?a57 ?l58 ?c59 ?k60 (fun _ _ _ _ _ _ us hl=>by obtain⟨a,rfl⟩:=Sw.len1 hl;rfl))
   (Sw.fn_mk KX G ?a61 ?l62 ?c63 ?k64 (fun _ _ _ _ _ _ us hl=>by obtain⟨a,rfl⟩:=Sw.len1 hl;rfl))
   (Sw.fn_mk KX G ?a65 ?l66 ?c67 ?k68 (fun _ _ _ _ _ _ us hl=>by obtain⟨a,b,rfl⟩:=Sw.len2 hl;rfl))
   (Sw.fn_mk KX G ?a69 ?l70 ?c71 ?k72 (fun _ _ _ _ _ _ us hl=>by obtain⟨a,b,rfl⟩:=Sw.len2 hl;rfl))
   (Sw.fn_mk KX G ?a73 ?l74 ?c75 ?k76 (fun _ _ _ _ _ _ us hl=>by obtain⟨a,b,rfl⟩:=Sw.len2 hl;rfl))
   (Sw.fn_mk KX G ?a77 ?l78 ?c79 ?k80 (fun _ _ _ _ _ _ us hl=>by obtain⟨a,b,rfl⟩:=Sw.len2 hl;rfl))
   (Sw.fn_mk KX G ?a81 ?l82 ?c83 ?k84 (fun _ _ _ _ _ _ us hl=>by obtain⟨a,b,rfl⟩:=Sw.len2 hl;rfl))
   (Sw.fn_mk KX G ?a85 ?l86 ?c87 ?k88 (fun _ _ _ _ _ _ us hl=>by obtain⟨a,b,rfl⟩:=Sw.len2 hl;rfl))
   (Sw.fn_mk KX G ?a89 ?l90 ?c91 ?k92 (fun _ _ _ _ _ _ us hl=>by obtain⟨a,rfl⟩:=Sw.len1 hl;rfl))
   (Sw.fn_mk KX G ?a93 ?l94 ?c95 ?k96 (fun _ _ _ _ _ _ us hl=>by obtain⟨a,b,rfl⟩:=Sw.len2 hl;rfl))
   (Sw.fn_mk KX G ?a97 ?l98 ?c99 ?k100 (fun _ _ _ _ _ _ us hl=>by obtain⟨a,rfl⟩:=Sw.len1 hl;rfl))
   (Sw.fn_mk KX G ?a101 ?l102 ?c103 ?k104 (fun _ _ _ _ _ _ us hl=>by obtain⟨a,b,rfl⟩:=Sw.len2 hl;rfl))
   (Sw.fn_mk KX G ?a105 ?l106 ?c107 ?k108 (fun _ _ _ _ _ _ us hl=>by obtain⟨a,b,rfl⟩:=Sw.len2 hl;rfl))
   (Sw.fn_mk KX G ?a109 ?l110 ?c111 ?k112 (fun _ _ _ _ _ _ us hl=>by obtain⟨a,b,rfl⟩:=Sw.len2 hl;rfl))
   (Sw.fn_mk KX G ?a113 ?l114 ?c115 ?k116 (fun _ _ _ _ _ _ us hl=>by obtain⟨a,b,rfl⟩:=Sw.len2 hl;rfl))
   (Sw.fn_mk KX G ?a117 ?l118 ?c119 ?k120 (fun _ _ _ _ _ _ us hl=>by obtain⟨a,b,rfl⟩:=Sw.len2 hl;rfl))
   (Sw.fn_mk KX G ?a121 ?l122 ?c123 ?k124 (fun _ _ _ _ _ _ us hl=>by obtain⟨a,b,rfl⟩:=Sw.len2 hl;rfl))
   (Sw.fn_mk KX G ?a125 ?l126 ?c127 ?k128 (fun _ _ _ _ _ _ us hl=>by obtain⟨a,rfl⟩:=Sw.len1 hl;rfl))
   (Sw.fn_mk KX G ?a129 ?l130 ?c131 ?k132 (fun _ _ _ _ _ _ us hl=>by obtain⟨a,b,rfl⟩:=Sw.len2 hl;rfl))
   (Sw.fn_mk KX G ?a133 ?l134 ?c135 ?k136 (fun _ _ _ _ _ _ us hl=>by obtain⟨a,rfl⟩:=Sw.len1 hl;rfl))
   (Sw.fn_mk KX G ?a137 ?l138 ?c139 ?k140 (fun _ _ _ _ _ _ us hl=>by obtain⟨a,b,rfl⟩:=Sw.len2 hl;rfl))
   (Sw.fn_mk KX G ?a141 ?l142 ?c143 ?k144 (fun _ _ _ _ _ _ us hl=>by obtain⟨a,b,rfl⟩:=Sw.len2 hl;rfl))
   (Sw.fn_mk KX G ?a145 ?l146 ?c147 ?k148 (fun _ _ _ _ _ _ us hl=>by obtain⟨a,b,rfl⟩:=Sw.len2 hl;rfl))
   (Sw.fn_mk KX G ?a149 ?l150 ?c151 ?k152 (fun _ _ _ _ _ _ us hl=>by obtain⟨a,b,rfl⟩:=Sw.len2 hl;rfl))
   (Sw.fn_mk KX G ?a153 ?l154 ?c155 ?k156 (fun _ _ _ _ _ _ us hl=>by obtain⟨a,b,rfl⟩:=Sw.len2 hl;rfl))
   _
   ⟨?g158,?g159,?g160,?g161⟩
   (PySem.W.mg_of KX G ?q157)
   (Sw.noattr_mk ?n162)
   (Sw.noattr_mk ?n163)
   (Sw.noattr_mk ?n164)
   (Sw.noattr_mk ?n165)
   (Sw.noattr_mk ?n166)
   (Sw.noattr_mk ?n167)
   _
   _
   (L2.fun_mk ?l170 ?c171 ?k172)
   (L2.Fun.binds (L2.fun_mk ?l170 ?c171 ?k172) (fun _ _ _ _ _ _ us hl=>by obtain⟨a,b,rfl⟩:=Sw.len2 hl;rfl))
   ⟨?g173,?a168,?i169,?k174⟩
   (Sw.mt_mk ?a175 ?i176 ?l177 ?c178 ?k179 (fun _ _ _ _ _ _ us hl=>by obtain⟨a,b,rfl⟩:=Sw.len2 hl;rfl))
   (Sw.mt_mk ?a180 ?i181 ?l182 ?c183 ?k184 (fun _ _ _ _ _ _ us hl=>by obtain⟨a,b,rfl⟩:=Sw.len2 hl;rfl))
   (Sw.mt_mk ?a185 ?i186 ?l187 ?c188 ?k189 (fun _ _ _ _ _ _ us hl=>by obtain⟨a,b,rfl⟩:=Sw.len2 hl;rfl))
   (Sw.mt_mk ?a190 ?i191 ?l192 ?c193 ?k194 (fun _ _ _ _ _ _ us hl=>by obtain⟨a,b,rfl⟩:=Sw.len2 hl;rfl))
   (Sw.mt_mk ?a195 ?i196 ?l197 ?c198 ?k199 (fun _ _ _ _ _ _ us hl=>by obtain⟨a,b,rfl⟩:=Sw.len2 hl;rfl))
   (Sw.mt_mk ?a200 ?i201 ?l202 ?c203 ?k204 (fun _ _ _ _ _ _ us hl=>by obtain⟨a,b,rfl⟩:=Sw.len2 hl;rfl))
   (Sw.mt_mk ?a205 ?i206 ?l207 ?c208 ?k209 (fun _ _ _ _ _ _ us hl=>by obtain⟨a,b,rfl⟩:=Sw.len2 hl;rfl))
   (Sw.mt_mk ?a210 ?i211 ?l212 ?c213 ?k214 (fun _ _ _ _ _ _ us hl=>by obtain⟨a,b,rfl⟩:=Sw.len2 hl;rfl))
   _
   ⟨?g216,?g217,?g218,?g219⟩
   (PySem.W.mg_of KX G ?q215)
   (Sw.noattr_mk ?n220)
   (Sw.noattr_mk ?n221)
   (Sw.noattr_mk ?n222)
   (Sw.noattr_mk ?n223)
   _
   _
   (L2.fun_mk ?l226 ?c227 ?k228)
   (L2.Fun.binds (L2.fun_mk ?l226 ?c227 ?k228) (fun _ _ _ _ _ _ us hl=>by obtain⟨a,b,c,rfl⟩:=Sw.len3 hl;rfl))
   ⟨?g229,?a224,?i225,?k230⟩
   (Sw.mt_mk ?a231 ?i232 ?l233 ?c234 ?k235 (fun _ _ _ _ _ _ us hl=>by obtain⟨a,rfl⟩:=Sw.len1 hl;rfl))
   (Sw.mt_mk ?a236 ?i237 ?l238 ?c239 ?k240 (fun _ _ _ _ _ _ us hl=>by obtain⟨a,rfl⟩:=Sw.len1 hl;rfl))
   (Sw.mt_mk ?a241 ?i242 ?l243 ?c244 ?k245 (fun _ _ _ _ _ _ us hl=>by obtain⟨a,b,rfl⟩:=Sw.len2 hl;rfl))
   (Sw.mt_mk ?a246 ?i247 ?l248 ?c249 ?k250 (fun _ _ _ _ _ _ us hl=>by obtain⟨a,b,rfl⟩:=Sw.len2 hl;rfl))
   (Sw.mt_mk ?a251 ?i252 ?l253 ?c254 ?k255 (fun _ _ _ _ _ _ us hl=>by obtain⟨a,b,rfl⟩:=Sw.len2 hl;rfl))
   _
   _
   (L2.xc_mk ?l257 ?t258 ?k259 ?g260 ?g261)
   (PySem.W.mg_of KX G ?q256)
   _
   _
   (L2.xc_mk ?l263 ?t264 ?k265 ?g266 ?g267)
   (PySem.W.mg_of KX G ?q262)
   _
   _
   (L2.xc_mk ?l269 ?t270 ?k271 ?g272 ?g273)
   (PySem.W.mg_of KX G ?q268)
   _
   _
   (L2.xc_mk ?l275 ?t276 ?k277 ?g278 ?g279)
   (PySem.W.mg_of KX G ?q274)
   _
   _
   (L2.xc_mk ?l281 ?t282 ?k283 ?g284 ?g285)
   (PySem.W.mg_of KX G ?q280)
   ⟨?g286,?g287,?g288,?g289⟩
   ⟨?g290,?g291,?g292,?g293,L2.kit_same _ _⟩
   (Sw.noattr_mk ?n294)
   _
   _
   (L2.fun_mk ?l297 ?c298 ?k299)
   (L2.Fun.binds (L2.fun_mk ?l297 ?c298 ?k299) (fun _ _ _ _ _ _ us hl=>by obtain⟨a,b,rfl⟩:=Sw.len2 hl;rfl))
   ⟨?a295,?i296,?k299⟩
   ⟨?g300,?g301,?g302,?g303⟩
   ⟨?g304,?g305,?g306,?g307,L2.kit_same _ _⟩
   (Sw.noattr_mk ?n308)
   _
   _
   (L2.fun_mk ?l311 ?c312 ?k313)
   (L2.Fun.binds (L2.fun_mk ?l311 ?c312 ?k313) (fun _ _ _ _ _ _ us hl=>by obtain⟨a,b,rfl⟩:=Sw.len2 hl;rfl))
   ⟨?a309,?i310,?k313⟩
   ⟨?g314,?g315,?g316,?g317⟩
   ⟨?g318,?g319,?g320,?g321,L2.kit_same _ _⟩
   (Sw.ni_mk ?g322)
   ⟨?g323,?g324,?g325,?g326⟩
   ⟨?g327,?g328,?g329,?g330,L2.kit_same _ _⟩
   ?u331
   (Sw.ni_mk ?g332)
   (Sw.int_mk KX G ?v333 ?e334)
   (Sw.str_mk KX G ?v335 ?e336)
   (Sw.int_mk KX G ?v337 ?e338)
   (PySem.W.mg_none_of KX G ?z339)
   (PySem.W.mg_none_of KX G ?z340)
   (PySem.W.mg_none_of KX G ?z341)
   (PySem.W.mg_none_of KX G ?z342)
   (PySem.W.mg_none_of KX G ?z343)
   (PySem.W.mg_none_of KX G ?z344)
   (PySem.W.mg_none_of KX G ?z345)
   (PySem.W.mg_none_of KX G ?z346)
   (PySem.W.mg_none_of KX G ?z347)
   (PySem.W.mg_none_of KX G ?z348)
   (PySem.W.mg_none_of KX G ?z349)
   (PySem.W.mg_none_of KX G ?z350)
   (PySem.W.mg_none_of KX G ?z351)
   (PySem.W.mg_none_of KX G ?z352)
   (PySem.W.mg_none_of KX G ?z353)
   (PySem.W.mg_none_of KX G ?z354)
   (PySem.W.mg_none_of KX G ?z355)) ?aL ?lL ?cL ?kL
  case a1|l2|c3|k4|a5|l6|c7|k8|a9|l10|c11|k12|a13|l14|c15|k16|a17|l18|c19|k20|a21|l22|c23|k24|a25|l26|c27|k28|a29|l30|c31|k32|a33|l34|c35|k36|a37|l38|c39|k40|a41|l42|c43|k44|a45|l46|c47|k48|a49|l50|c51|k52|a53|l54|c55|k56|a57|l58|c59|k60|a61|l62|c63|k64|a65|l66|c67|k68|a69|l70|c71|k72|a73|l74|c75|k76|a77|l78|c79|k80|a81|l82|c83|k84|a85|l86|c87|k88|a89|l90|c91|k92|a93|l94|c95|k96|a97|l98|c99|k100|a101|l102|c103|k104|a105|l106|c107|k108|a109|l110|c111|k112|a113|l114|c115|k116|a117|l118|c119|k120|a121|l122|c123|k124|a125|l126|c127|k128|a129|l130|c131|k132|a133|l134|c135|k136|a137|l138|c139|k140|a141|l142|c143|k144|a145|l146|c147|k148|a149|l150|c151|k152|a153|l154|c155|k156|q157|g158|g159|g160|g161|n162|n163|n164|n165|n166|n167|a168|i169|l170|c171|k172|g173|k174|a175|i176|l177|c178|k179|a180|i181|l182|c183|k184|a185|i186|l187|c188|k189|a190|i191|l192|c193|k194|a195|i196|l197|c198|k199|a200|i201|l202|c203|k204|a205|i206|l207|c208|k209|a210|i211|l212|c213|k214|q215|g216|g217|g218|g219|n220|n221|n222|n223|a224|i225|l226|c227|k228|g229|k230|a231|i232|l233|c234|k235|a236|i237|l238|c239|k240|a241|i242|l243|c244|k245|a246|i247|l248|c249|k250|a251|i252|l253|c254|k255|q256|l257=>k_is
  case t258=>kernel_rfl
  case k259|g260|g261|q262|l263=>k_is
  case t264=>kernel_rfl
  case k265|g266|g267|q268|l269=>k_is
  case t270=>kernel_rfl
  case k271|g272|g273|q274|l275=>k_is
  case t276=>kernel_rfl
  case k277|g278|g279|q280|l281=>k_is
  case t282=>kernel_rfl
  case k283|g284|g285|g286|g287|g288|g289|g290|g291|g292|g293|n294|a295|i296|l297|c298|k299|g300|g301|g302|g303|g304|g305|g306|g307|n308|a309|i310|l311|c312|k313|g314|g315|g316|g317|g318|g319|g320|g321|g322|g323|g324|g325|g326|g327|g328|g329|g330=>k_is
  case u331=>kernel_rfl
  case g332|v333=>k_is
  case e334=>exact⟨_,rfl⟩
  case v335=>k_is
  case e336=>exact⟨_,rfl⟩
  case v337=>k_is
  case e338=>exact⟨_,rfl⟩
  case z339|z340|z341|z342|z343|z344|z345|z346|z347|z348|z349|z350|z351|z352|z353|z354|z355|aL|lL|cL|kL=>k_is
