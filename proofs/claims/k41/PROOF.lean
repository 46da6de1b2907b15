import PyProof.Rows.All
import Wide.All
import OpenK.AllK
import Wide.FinOn
import PyProof.EqAt
import PyProof.EqKinds
import PyProof.TupleCall
import Lean
import PySem.Challenge.RW_samestride_k41_graph_begun
set_option Elab.async false
set_option linter.all false
set_option maxRecDepth 100000
open PySem.Str renaming ofString->O
open Bool renaming and_eq_true->Oa
open List renaming getElem?_eq_some_iff->Ob
open List renaming getElem?_set_ne->Oc
open PySem.Heap renaming get?_push_of_some->Od
open List renaming getElem?_append_left->Oe
open List renaming size_toArray->Of
open List renaming getElem?_eq_getElem->Og
open List renaming mem_cons_of_mem->Oh
open List renaming mem_cons_self->Oi
open PySem.Heap renaming get?_push_size->Oj
open List renaming mem_of_getElem?->O1
open List renaming getElem?_set_self->Ol
open List renaming getElem?_append_right->Om
open List renaming getElem?_map->On
open Option renaming map_eq_some_iff->Oo
open List renaming map_cons->Op
open Nat renaming le_refl->Oq
open List renaming mem_cons->O2
open List renaming length_cons->Os
open Nat renaming lt_of_lt_of_le->Ot
open Nat renaming ne_of_lt->Ou
open List renaming mem_append_right->Ov
open Bool renaming false_ne_true->Ow
open List renaming mem_singleton->Ox
open List renaming map_nil->Oy
open List renaming append_assoc->Oz
open List renaming length_append->OA
open List renaming nil_append->OB
open List renaming all_eq_true->OC
open List renaming mem_append->OD
open Nat renaming le_trans->OE
open List renaming lookup_cons->OF
open Bool renaming false_eq_true->OG
open Nat renaming lt_succ_self->OH
open List renaming sum_cons->OI
open List renaming getElem?_cons_zero->OJ
open List renaming getElem?_cons_succ->O0
section
open PySem PySem.W PyProof.Rows
set_option maxHeartbeats 0
namespace PySem.W.Fast
def tw5590400858153080864:=0
def tw17617654623541150816:=0
def tw15966792744086676608:=0
def tw3435865651112219808:=0
def tw518228334454471904:=0
def tw8427958455668483328:=0
def tw9517685569703484768:=0
def tw17186451544449183168:=0
def tw17187595930210018816:=0
def tw16461970664064890528:=0
def tw5442844798356026144:=0
def tw9951096511191711712:=0
def tw7554377900863757537:=0
def tw12331196612395008257:=0
def tw17717970694903946593:=0
def tw2091398362968102465:=0
def tw15334860961745813057:=0
def tw6752729381729572481:=0
def tw3349541144765024897:=0
def tw11749605290941121:=0
def tw10476475418710009761:=0
def tw17526732533455435810:=0
def tw9610979275923617954:=0
def tw15570496908990692578:=0
def tw3409270630327376098:=0
def tw3007997404658973986:=0
def tw7578447611507612194:=0
def tw11116092007646645794:=0
def tw10263038385771901570:=0
def tw18251877410484474594:=0
def tw11934098979887848258:=0
def tw15546162917915724803:=0
def tw14862693195006677027:=0
def tw11357149312937714755:=0
def tw7444883938198287427:=0
def tw9646457476555845923:=0
def tw6195990487160820099:=0
def tw1748168097829800355:=0
def tw11720490232732589507:=0
def tw8839425096571993603:=0
def tw8588480095914725955:=0
def tw13018778838116557443:=0
def tw8180336496915892931:=0
def tw14493604161823412035:=0
def tw856697418135756675:=0
def tw4934366023623376835:=0
def tw4118036364684405764:=0
def tw9087841218214853668:=0
def tw9005829588443473092:=0
def tw6981987786220771524:=0
def tw3931311466126198148:=0
def tw12592370953398259172:=0
def tw3194732603774607908:=0
def tw649629529508276868:=0
def tw400828711532545700:=0
def tw11737399813607981892:=0
def tw3180931225206292324:=0
def tw16580318306981083076:=0
def tw16062497648145972389:=0
def tw882419001368825157:=0
def tw18168001338019259813:=0
def tw1501047261822555621:=0
def tw968558443721180805:=0
def tw9527515538022156165:=0
def tw17937070351318107109:=0
def tw15256031086885085157:=0
def tw11093544417135553638:=0
def tw13532061827834022:=0
def tw4744634362268550374:=0
def tw15337339545999039750:=0
def tw12497663205921533190:=0
def tw12678107715334340934:=0
def tw12428653004647623046:=0
def tw7740357155932243462:=0
def tw12395226681669451430:=0
def tw3015264148092265126:=0
def tw14059674383670833958:=0
def tw3766103679641222086:=0
def tw14875560240429782087:=0
def tw14076971050164001063:=0
def tw11393602952234769799:=0
def tw7646998895218751911:=0
def tw7641485645042222599:=0
def tw3249598146585703015:=0
def tw17911208495395556103:=0
def tw17422266353563001767:=0
def tw16313426231726459976:=0
def tw9475398180804375720:=0
def tw921770678098302120:=0
def tw1442685240488231304:=0
def tw16287678349795809800:=0
def tw10653434813686865416:=0
def tw16796538140693166760:=0
def tw3744465335804693224:=0
def tw11783288005861937960:=0
def tw1654471342896057192:=0
def tw16482145683812504456:=0
def tw758389653423819977:=0
def tw6826560714473095369:=0
def tw5670732692523219145:=0
def tw6415835668796681449:=0
def tw17409909766695663849:=0
def tw8455424495910587657:=0
def tw15064463968152069513:=0
def tw3681191529979211145:=0
def tw4909042203265411529:=0
def tw16104396306954477225:=0
def tw15313557156115596009:=0
def tw3171202621545425737:=0
def tw10381524686953676617:=0
def tw5109375453276183465:=0
def tw11241548533560757386:=0
def tw10482841353313184938:=0
def tw13557466560349653226:=0
def tw735549016096954762:=0
def tw5813920869051260682:=0
def tw5628536018789875723:=0
def tw11357547173889964075:=0
def tw406567278053902731:=0
def tw1424151991619115435:=0
def tw14847597713435637291:=0
def tw4125181853847104139:=0
def tw11931888717575596779:=0
def tw9282513696725767915:=0
def tw14205262995407184811:=0
def tw5771077936753998924:=0
def tw7234451714785468524:=0
def tw9946386369035841740:=0
def tw2767938324949233932:=0
def tw14001493660581057836:=0
def tw2145864742778485036:=0
def tw16966419700248702284:=0
def tw4158226967618442604:=0
def tw15050780584886953388:=0
def tw12802212831550494444:=0
def tw18177588159226322764:=0
def tw12035080214966681548:=0
def tw13677898820856266797:=0
def tw16886021142919915597:=0
def tw15080640551387195789:=0
def tw11640930273517072973:=0
def tw5066799383395578445:=0
def tw16416601487265275661:=0
def tw10833940736428157741:=0
def tw7171197726461177709:=0
def tw14325343121364198349:=0
def tw9967485633043946477:=0
def tw4948847574309274670:=0
def tw8578969290308754670:=0
def tw10349793341264566830:=0
def tw17419658546310985294:=0
def tw2538074520970406542:=0
def tw1470232039131512718:=0
def tw10825266570637037486:=0
def tw5797801618977466703:=0
def tw11002293283985845615:=0
def tw2549521872684882351:=0
def tw13017675756048193135:=0
def tw17853860996376935055:=0
def tw4690407932238148303:=0
def tw11046804490301531887:=0
def tw15368406904765093615:=0
def tw804289766032231279:=0
def tw16764941489936456559:=0
def tw10273667068235003791:=0
def tw12231930508066578383:=0
def tw12723690296925258768:=0
def tw17687331264362973232:=0
def tw2667091855546638416:=0
def tw14601969544066919536:=0
def tw14022794792622465264:=0
def tw1748050268948460848:=0
def tw2952469281893253488:=0
def tw7843608860938939792:=0
def tw6968970460930877904:=0
def tw6785505827957517776:=0
def tw1418737573458999760:=0
def tw1389702257382486992:=0
def tw14975746098418877489:=0
def tw2689237415650217521:=0
def tw12336353242820297457:=0
def tw2314320867094742610:=0
def tw7702415002717710994:=0
def tw4168724485672494770:=0
def tw12370270172099962642:=0
def tw15391649925653075987:=0
def tw7409906119279467539:=0
def tw4530534423505503315:=0
def tw9940860260966601907:=0
def tw6993779413032690995:=0
def tw7294051390125109587:=0
def tw18271064793996144179:=0
def tw7859683722401020851:=0
def tw4224624020697160691:=0
def tw12738873590255777812:=0
def tw11935213918609124468:=0
def tw1865650759321595060:=0
def tw10179119913185878228:=0
def tw14182361535838797044:=0
def tw1336664975153028372:=0
def tw9324021103403715860:=0
def tw3045297475082877268:=0
def tw12508946707758147956:=0
def tw4070797894487618004:=0
def tw754476129458509332:=0
def tw13191287579641708276:=0
def tw16643920930963584788:=0
def tw4989211343011830676:=0
def tw14068325824596069397:=0
def tw12399342634931734549:=0
def tw17414609421677010997:=0
def tw6739843144779056309:=0
def tw3613070301543274709:=0
def tw1448122907331165493:=0
def tw2038146248129233301:=0
def tw7894332309538557461:=0
def tw3001445829586959989:=0
def tw14039080393265352341:=0
def tw7403143114983615189:=0
def tw17656856657859572437:=0
def tw5008879405566797621:=0
def tw16533971257355734837:=0
def tw17562225349938317141:=0
def tw6972731928115356629:=0
def tw4407428686592351254:=0
def tw16516929729717612598:=0
def tw13299245909842113622:=0
def tw198525063047132502:=0
def tw18238918015542209974:=0
def tw12409514640619442774:=0
def tw15931852549824138870:=0
def tw9530632037541301142:=0
def tw14822837832458785143:=0
def tw2578588241539564951:=0
def tw578474028880811415:=0
def tw11816589842989631991:=0
def tw10901851751141117463:=0
def tw3032433768989813271:=0
def tw11162936571122079319:=0
def tw9478982178383407767:=0
def tw2863293085729680151:=0
def tw2510596506403584823:=0
def tw18403153627870105399:=0
def tw793775910179400567:=0
def tw1068306441948040151:=0
def tw8105466662213208055:=0
def tw18254053129810466072:=0
def tw1817419007120714040:=0
def tw9540649580330559832:=0
def tw18421112412453020120:=0
def tw6067861570264902168:=0
def tw9501537132970691320:=0
def tw4453668346539487064:=0
def tw7530362906613589880:=0
def tw5945306926421385080:=0
def tw17895610937482038489:=0
def tw8503476843442040121:=0
def tw17505511574783706649:=0
def tw10701421783993614073:=0
def tw5153775172302028761:=0
def tw2226294216031711322:=0
def tw12248267208273739898:=0
def tw6364665233816592794:=0
def tw10831272997617954362:=0
def tw12198059205639128634:=0
def tw5511852441049123546:=0
def tw13419568218035279866:=0
def tw11795722510273800186:=0
def tw5430298690227688603:=0
def tw17564767476330051771:=0
def tw8398708826727924315:=0
def tw16505724487233984283:=0
def tw4855031245135943483:=0
def tw2456499452086645659:=0
def tw10916443668514035707:=0
def tw10109121482235649052:=0
def tw13583861803220592764:=0
def tw2498532095385789628:=0
def tw1973718377366458652:=0
def tw4727655288786019676:=0
def tw12235992008104080828:=0
def tw2299890425567046108:=0
def tw3930270388670692828:=0
def tw172299602543075932:=0
def tw6581180650485371548:=0
def tw12940305315017832188:=0
def tw5532274150673689436:=0
def tw4587953301365251964:=0
def tw1286683303436304669:=0
def tw14371640761992837437:=0
def tw8487081661120842109:=0
def tw3965561221019906461:=0
def tw6238120314811679133:=0
def tw10189758070059947613:=0
def tw2216205780855167581:=0
def tw1674434820608638589:=0
def tw7923657940997157629:=0
def tw8199374773005583133:=0
def tw6144308317455456221:=0
def tw14544285735985945630:=0
def tw17123285477869044830:=0
def tw2908833314478954846:=0
def tw3674233369112483230:=0
def tw3168644045600618910:=0
def tw1404822647335253438:=0
def tw9072811595803788766:=0
def tw6825639846756295198:=0
def tw14556756804942550590:=0
def tw1886808863983277694:=0
def tw13159029125533498110:=0
def tw15201233775449976670:=0
def tw12176647751528927166:=0
def tw6392517313568288734:=0
def tw9988461209968146398:=0
def tw11915911394311742462:=0
def tw535053803536141310:=0
def tw13794663022400315455:=0
def tw3124287404563994847:=0
def tw16007183942327974143:=0
def tw13756270107637741919:=0
def tw10813916190434599583:=0
def tw17081302831341749280:=0
def tw6494747235657567813:=0
end PySem.W.Fast
open_top K41hd for PySem.Challenge.rw_samestride_k41_graph_begun
end
section
namespace L2
open PySem PySem.Spec PyProof.Rows
noncomputable abbrev Key:=Sum Int Str
noncomputable def Zfm:Key->Value->Bool
 | .inl k,v=>Value.isInt k v
 | .inr x,v=>Value.isStrOf x v
noncomputable def Zs5(w:World):Key->Int
 | .inl k=>hashInt k
 | .inr x=>hashStr w x
theorem ZB:∀ {k:Key}{v:Value},Zfm k v=true->(∃ i t,k=Sum.inl i/\v=Value.int i t)\/(∃ x t,k=Sum.inr x/\v=Value.str x t)
 | .inl i,v,h=>by
   obtain ⟨t,e⟩:=Value.isInt_shape (k:=i) (v:=v) h
   exact .inl ⟨i,t,rfl,e⟩
 | .inr x,v,h=>by
   obtain ⟨t,e⟩:=Value.isStrOf_shape (x:=x) (v:=v) h
   exact .inr ⟨x,t,rfl,e⟩
theorem Zkl(i:Int)(t:Tok):Zfm (.inl i) (.int i t)=true:=by simp [Zfm,Value.isInt]
theorem Zo(x:Str)(t:Tok):Zfm (.inr x) (.str x t)=true:=by simp [Zfm,Value.isStrOf]
theorem Zp2(a b:Int):decide ((Sum.inl a:Key)=Sum.inl b)=(a==b):=by
 by_cases e:a=b
 . subst e;simp
 . have h:¬ (Sum.inl a:Key)=Sum.inl b:=fun q=>e (Sum.inl.inj q)
   rw [decide_eq_false h]
   exact (beq_eq_false_iff_ne.mpr e).symm
theorem ZpZ(a b:Str):decide ((Sum.inr a:Key)=Sum.inr b)=decide (a=b):=by
 by_cases e:a=b
 . subst e;simp
 . have h:¬ (Sum.inr a:Key)=Sum.inr b:=fun q=>e (Sum.inr.inj q)
   rw [decide_eq_false h,decide_eq_false e]
theorem Zp1(a:Int)(b:Str):decide ((Sum.inl a:Key)=Sum.inr b)=false:=decide_eq_false (fun q=>nomatch q)
theorem Zp0(a:Str)(b:Int):decide ((Sum.inr a:Key)=Sum.inl b)=false:=decide_eq_false (fun q=>nomatch q)
noncomputable def Zz(prog:Program)(w:World):PySem.KeyKind prog w Key where
 is:=Zfm
 hash:=Zs5 w
 inj:=fun v a b ha hb=>by
   rcases ZB ha with ⟨i,t,rfl,rfl⟩|⟨x,t,rfl,rfl⟩
   . rcases ZB hb with ⟨j,u,rfl,e⟩|⟨y,u,rfl,e⟩
     . injection e with e1 _;rw [e1]
     . exact nomatch e
   . rcases ZB hb with ⟨j,u,rfl,e⟩|⟨y,u,rfl,e⟩
     . exact nomatch e
     . injection e with e1 _;rw [e1]
 byValue:=fun k v h=>by
   rcases ZB h with ⟨i,t,rfl,rfl⟩|⟨x,t,rfl,rfl⟩<;>rfl
 pyHash:=fun hv h=>by
   rcases ZB hv with ⟨i,t,rfl,rfl⟩|⟨x,t,rfl,rfl⟩
   . exact wpAny_pyHash_int h
   . exact wpAny_pyHash_str h
 eqBool:=fun hu hv h=>by
   rcases ZB hu with ⟨i,t,rfl,rfl⟩|⟨x,t,rfl,rfl⟩
   . rcases ZB hv with ⟨j,u,rfl,rfl⟩|⟨y,u,rfl,rfl⟩
     . rw [Zp2] at h;exact wpAny_eqBool_int h
     . rw [Zp1] at h;exact SeqAt.EqAt.int_str i t y u _ _ _ _ h
   . rcases ZB hv with ⟨j,u,rfl,rfl⟩|⟨y,u,rfl,rfl⟩
     . rw [Zp0] at h;exact SeqAt.EqAt.str_int x t j u _ _ _ _ h
     . rw [ZpZ] at h;exact wpAny_eqBool_str h
 «strs»:=fun k x t v h=>by
   rcases ZB h with ⟨i,u,rfl,e⟩|⟨y,u,rfl,e⟩
   . exact nomatch e
   . injection e with e1 _
     subst e1
     cases v<;>rfl
theorem Zhm(prog:Program)(w:World)(i:Int)(t:Tok):(Zz prog w).is (.inl i) (.int i t)=true:=Zkl i t
theorem Zhl(prog:Program)(w:World)(x:Str)(t:Tok):(Zz prog w).is (.inr x) (.str x t)=true:=Zo x t
end L2
namespace L2
open PySem PySem.Spec PyProof.Rows
inductive V where
 | non|bl (b:Bool)|int (i:Int)|str (x:Str)|byt (b:Array UInt8)|flt (b:UInt64)|ref (a:Addr)|ty (n:String)
 deriving DecidableEq
noncomputable def RelV:V->Value->Prop
 | .non,u=>u=Value.none
 | .bl b,u=>u=Value.bool b
 | .int i,u=>∃ t,u=Value.int i t
 | .str x,u=>∃ t,u=Value.str x t
 | .byt b,u=>∃ t,u=Value.bytes b t
 | .flt b,u=>∃ t,u=Value.float b t
 | .ref a,u=>u=Value.ref a
 | .ty n,u=>u=Value.type n
noncomputable abbrev Zi:List V->List Value->Prop:=Paired RelV
theorem Zi.length{xs:List V}{us:List Value}(r:Zi xs us):xs.length=us.length:=Paired.length r
theorem Zi.get:∀ {xs:List V}{us:List Value}{i:Nat}{x:V},Zi xs us->xs[i]? = some x->∃ u,us[i]? = some u/\RelV x u
 | _,_,_,_,.nil,e=>by simp at e
 | _,_,0,_,.cons r _,e=>by simp at e;subst e;exact ⟨_,rfl,r⟩
 | _,_,i+1,x,.cons _ t,e=>by
   obtain ⟨u,h1,h2⟩:=Zi.get (i:=i) (x:=x) t (by simpa using e)
   exact ⟨u,by simpa using h1,h2⟩
theorem Zi.set{x:V}{u:Value}(r:RelV x u):∀ {xs:List V}{us:List Value} (i:Nat),Zi xs us->Zi (xs.set i x) (us.set i u)
 | _,_,_,.nil=>.nil
 | _,_,0,.cons _ t=>.cons r t
 | _,_,i+1,.cons q t=>.cons q (Zi.set r i t)
theorem Zi.append:∀ {xs ys:List V}{us ws:List Value},Zi xs us->Zi ys ws->Zi (xs++ys) (us++ws)
 | _,_,_,_,.nil,s=>s
 | _,_,_,_,.cons r t,s=>.cons r (Zi.append t s)
theorem Zi.take:∀ {xs:List V}{us:List Value} (n:Nat),Zi xs us->Zi (xs.take n) (us.take n)
 | _,_,0,_=>.nil
 | _,_,_+1,.nil=>.nil
 | _,_,n+1,.cons r t=>.cons r (Zi.take n t)
theorem Zi.drop:∀ {xs:List V}{us:List Value} (n:Nat),Zi xs us->Zi (xs.drop n) (us.drop n)
 | _,_,0,r=>r
 | _,_,_+1,.nil=>.nil
 | _,_,n+1,.cons _ t=>Zi.drop n t
noncomputable def ZdZ:Option V->Option Value->Prop
 | some v,some u=>RelV v u
 | none,none=>True
 | _,_=>False
noncomputable def KV{κ:Type}:List (κ×V)->List (κ×Value)->Prop:=Paired fun (p:κ×V) (q:κ×Value)=>p.1=q.1/\RelV p.2 q.2
noncomputable def kV:Key->V
 | .inl i=>.int i
 | .inr x=>.str x
inductive HO where
 | lst (xs:List V)
 | tup (xs:List V)
 | dK (kvs:List (Key×V))|dT (kvs:List (List Key×V))
 | set (S_:Int->Bool) (n:Nat)
 | ins (C dx:Addr) (fs:List (Str×V))
 | own (x:Addr)
 | xd (fs:List (Str×V))
 | met (f x:Addr)
 | rng (lo hi:Int)
 | frz (o:Obj) (u:HO)
 | tbl (ps:Array Value)
 | ext (φ:Heap->Prop)
noncomputable abbrev Hp:=Addr->Option HO
noncomputable def upd(H:Hp)(a:Addr)(o:HO):Hp:=fun b=>if b=a then some o else H b
theorem Zh{H:Hp}{a:Addr}{o:HO}:upd H a o a=some o:=by unfold upd;rw [if_pos rfl]
theorem Zc{H:Hp}{a b:Addr}{o:HO}(h:b≠a):upd H a o b=H b:=by unfold upd;rw [if_neg h]
theorem ZJ{H:Hp}{a b:Addr}{o:HO}(h:H a=some o)(h':H b=none):a≠b:=by
 intro e;subst e;rw [h] at h';cases h'
section
variable (P:Program) (w:World)
noncomputable def Zbd (h:Heap) (a:Addr) (items:Array Value):Prop:=∃ o,h.get? a=some o/\o.cls=.type "tuple" /\ o.dict=none/\∃ n,o.data=.seq items n
theorem Zbd.tup{h:Heap}{a:Addr}{items:Array Value}(x:Zbd h a items):IsTup h a items:=let ⟨o,ho,hc,_,r⟩:=x;⟨o,ho,hc,r⟩
theorem Zbd.fresh (h:Heap) (items:Array Value):Zbd (h.push {cls:=.type "tuple",data:=.seq items}) h.objs.size items:=⟨_,Oj _ rfl,rfl,rfl,_,rfl⟩
noncomputable def ZaC(H:Hp)(h:Heap)(a:Addr):HO->Prop
 | .lst xs=>xs.length<=sizeLine/\∃ (its:List Value) (n:Nat),Zi xs its/\h.get? a=some {cls:=.type "list",data:=.seq its.toArray n}
 | .tup xs=>xs.length<=sizeLine/\∃ its:List Value,Zi xs its/\Zbd h a its.toArray
 | .dK kvs=>kvs.length<=sizeLine/\(a==sysModules)=false/\∃ vs,KV kvs vs/\h.DictOf (Zz P w) a vs
 | .dT kvs=>kvs.length<=sizeLine/\(a==sysModules)=false/\∃ xs:List (List Key×Addr×Value),
     Paired (fun (p:List Key×V) (q:List Key×Addr×Value)=>p.1=q.1/\H q.2.1=some (.tup (p.1.map kV))/\RelV p.2 q.2.2) kvs xs /\
     ∃ o es ep,h.get? a=some o/\o.ExactDict/\o.data=.dict es ep/\es.toList=xs.map (entryOfKey (tupleKind (Zz P w)))/\(xs.map (·.1)).Nodup
 | .set S_ n=>h.SetOf (intKind P w) a S_ n
 | .ins C dx fs=>H dx=some (.own a)/\fs.length<=1000/\dx≠a/\h.get? a=some (PySem.W.instObj C dx) /\
     ∃ mA,h.Ns1 dx mA/\(∀ f,ZdZ (fs.lookup f) (mA f))/\PySem.Within mA (fs.map (·.1))
 | .own _=>∃ o,h.get? a=some o
 | .xd fs=>∃ mA,h.Ns1 a mA/\∀ f,ZdZ (fs.lookup f) (mA f)
 | .rng lo hi=>∃ t u v,h.get? a=some {cls:=.type "range",data:=.fields #[.int lo t,.int hi u,.int 1 v]}
 | .frz o u=>h.get? a=some o/\ZaC H h a u
 | .tbl ps=>h.get? a=some {cls:=.none,data:=.fields ps}
 | .met f x=>h.get? a=some (PySem.W.methodObj (.ref f) (.ref x))
 | .ext φ=>φ h/\(∃ o,h.get? a=some o)/\∀ h1 h2:Heap,φ h1->(∀ o,h1.get? a=some o->h2.get? a=some o)->φ h2
noncomputable def HOk(H:Hp)(h:Heap):Prop:=∀ a o,H a=some o->ZaC P w H h a o
end
section
variable {P:Program}{w:World}{H H':Hp}{h h':Heap}{a:Addr}{o:HO}
theorem ZaC.lt(x:ZaC P w H h a o):a<h.objs.size:=by
 cases o with
 | lst xs=>obtain ⟨_,_,_,_,e⟩:=x;exact Heap.lt_size e
 | tup xs=>obtain ⟨_,_,_,p⟩:=x;exact p.tup.lt
 | dK kvs=>obtain ⟨_,_,_,_,o,_,_,e,_⟩:=x;exact Heap.lt_size e
 | dT kvs=>obtain ⟨_,_,_,_,o,_,_,e,_⟩:=x;exact Heap.lt_size e
 | set S_ n=>obtain ⟨o,_,_,_,e,_⟩:=x;exact Heap.lt_size e
 | ins C dx fs=>obtain ⟨_,_,_,e,_⟩:=x;exact Heap.lt_size e
 | own y=>obtain ⟨_,e⟩:=x;exact Heap.lt_size e
 | xd fs=>obtain ⟨_,⟨_,_,_,e,_⟩,_⟩:=x;exact Heap.lt_size e
 | rng lo hi=>obtain ⟨_,_,_,e⟩:=x;exact Heap.lt_size e
 | frz ob u=>obtain ⟨e,_⟩:=x;exact Heap.lt_size e
 | tbl ps=>exact Heap.lt_size (show h.get? a=some _ from x)
 | met f y=>exact Heap.lt_size (show h.get? a=some _ from x)
 | ext φ=>obtain ⟨_,⟨_,e⟩,_⟩:=x;exact Heap.lt_size e
theorem Paired.mapP{α β:Type}{F G:α->β->Prop}:∀ {l₁:List α}{l₂:List β},Paired F l₁ l₂->(∀ a b,F a b->G a b)->Paired G l₁ l₂
 | _,_,.nil,_=>.nil
 | _,_,.cons r t,f=>.cons (f _ _ r) (Paired.mapP t f)
theorem ZaC.stay(x:ZaC P w H h a o)(k:∀ b u,(b=a\/H b=some (.own a))->h.get? b=some u->h'.get? b=some u)
   (ho:∀ b,H b=some (.own a)->H' b=some (.own a)) (ht:∀ b xs,H b=some (.tup xs)->H' b=some (.tup xs)):ZaC P w H' h' a o:=by
 induction o with
 | lst xs=>obtain ⟨z,its,n,r,e⟩:=x;exact ⟨z,its,n,r,k _ _ (.inl rfl) e⟩
 | tup xs=>obtain ⟨z,its,r,ob,e,c⟩:=x;exact ⟨z,its,r,ob,k _ _ (.inl rfl) e,c⟩
 | dK kvs=>obtain ⟨z,y,vs,r,ob,es,ep,e,c⟩:=x;exact ⟨z,y,vs,r,ob,es,ep,k _ _ (.inl rfl) e,c⟩
 | dT kvs =>
   obtain ⟨z,y,xs,r,ob,es,ep,e,c⟩:=x
   exact ⟨z,y,xs,Paired.mapP r fun p q z=>⟨z.1,ht _ _ z.2.1,z.2.2⟩,ob,es,ep,k _ _ (.inl rfl) e,c⟩
 | set S_ n=>obtain ⟨ob,es,ep,t,e,c⟩:=x;exact ⟨ob,es,ep,t,k _ _ (.inl rfl) e,c⟩
 | ins C dx fs =>
   obtain ⟨d,z,ne,e,mA,⟨od,es,ep,e2,c⟩,r⟩:=x
   exact ⟨ho _ d,z,ne,k _ _ (.inl rfl) e,mA,⟨od,es,ep,k _ _ (.inr d) e2,c⟩,r⟩
 | own y=>obtain ⟨ob,e⟩:=x;exact ⟨ob,k _ _ (.inl rfl) e⟩
 | xd fs=>obtain ⟨mA,⟨od,es,ep,e,c⟩,r⟩:=x;exact ⟨mA,⟨od,es,ep,k _ _ (.inl rfl) e,c⟩,r⟩
 | rng lo hi=>obtain ⟨t,u,v,e⟩:=x;exact ⟨t,u,v,k _ _ (.inl rfl) e⟩
 | frz ob u ih=>obtain ⟨e,q⟩:=x;exact ⟨k _ _ (.inl rfl) e,ih q⟩
 | tbl ps =>
   have e:h.get? a=some {cls:=.none,data:=.fields ps}:=x
   show h'.get? a=some {cls:=.none,data:=.fields ps}
   exact k a _ (.inl rfl) e
 | met f y =>
   have e:h.get? a=some (PySem.W.methodObj (.ref f) (.ref y)):=x
   show h'.get? a=some (PySem.W.methodObj (.ref f) (.ref y))
   exact k a _ (.inl rfl) e
 | ext φ=>obtain ⟨p,⟨o,e⟩,st⟩:=x;exact ⟨st _ _ p fun o q=>k _ _ (.inl rfl) q,⟨o,k _ _ (.inl rfl) e⟩,st⟩
theorem HOk.lt(x:HOk P w H h)(e:H a=some o):a<h.objs.size:=(x a o e).lt
theorem HOk.fresh(x:HOk P w H h)(e:h.objs.size<=a):H a=none:=by
 cases q:H a with
 | none=>rfl
 | some u=>exact absurd (Ot (x.lt q) e) (Nat.lt_irrefl _)
theorem HOk.kept(x:HOk P w H h)(k:∀ b u,h.get? b=some u->h'.get? b=some u):HOk P w H h':=fun a o e =>
 (x a o e).stay (fun b u _ q=>k b u q) (fun _ q=>q) fun _ _ q=>q
theorem HOk.laid(x:HOk P w H h)(k:∀ b u,h.get? b=some u->h'.get? b=some u)(hp:h.objs.size<=a)(new:ZaC P w (upd H a o) h' a o):HOk P w (upd H a o) h':=fun b u e=>by
 have hn:=x.fresh hp
 by_cases hb:b=a
 . subst hb;rw [Zh] at e;cases e;exact new
 . rw [Zc hb] at e
   exact (x b u e).stay (fun c v _ q=>k c v q) (fun c q=>by rw [Zc (ZJ q hn)];exact q) fun c xs q=>by rw [Zc (ZJ q hn)];exact q
end
noncomputable def Rd(H:Hp)(a:Addr)(u:HO):Prop:=H a=some u\/∃ o,H a=some (.frz o u)
theorem Rd.ok{P:Program}{w:World}{H:Hp}{h:Heap}{a:Addr}{u:HO}(r:Rd H a u)(x:HOk P w H h):ZaC P w H h a u:=by
 rcases r with r|⟨o,r⟩
 . exact x a u r
 . obtain ⟨_,q⟩:=x a _ r
   exact q
noncomputable def Mut:Option HO->Prop
 | some (.lst _)=>True
 | some (.dK _)=>True
 | some (.dT _)=>True
 | some (.set _ _)=>True
 | some (.ins _ _ _)=>True
 | some (.ext _)=>True
 | _=>False
section
variable {P:Program}{w:World}{H:Hp}{h h':Heap}{x e:Addr}{o':HO}
theorem HOk.write(ok:HOk P w H h)(mu:Mut (H x))(he:e=x\/H e=some (.own x))(k:∀ b u,b≠e->h.get? b=some u->h'.get? b=some u)(heo:∃ u,h'.get? e=some u)
   (new:ZaC P w (upd H x o') h' x o'):HOk P w (upd H x o') h':=fun b u q=>by
 have nown:∀ c y,H c=some (.own y)->c≠x:=fun c y r z=>by subst z;rw [r] at mu;exact mu
 have ntup:∀ c xs,H c=some (.tup xs)->c≠x:=fun c xs r z=>by subst z;rw [r] at mu;exact mu
 by_cases hb:b=x
 . subst hb;rw [Zh] at q;cases q;exact new
 . rw [Zc hb] at q
   by_cases hbe:b=e
   . have q':H b=some (.own x):=by
       rcases he with z|z
       . exact absurd (hbe.trans z) hb
       . rw [hbe];exact z
     rw [q] at q';cases q'
     obtain ⟨v,hv⟩:=heo
     exact ⟨v,by rw [hbe];exact hv⟩
   . refine (ok b u q).stay (fun c v hc r=>k c v ?_ r) (fun c r=>by rw [Zc (nown c b r)];exact r) fun c xs r=>by rw [Zc (ntup c xs r)];exact r
     rcases hc with rfl|hc
     . exact hbe
     . rintro rfl
       rcases he with z|z
       . exact nown c b hc z
       . rw [hc] at z;cases z;exact hb rfl
end
structure Un(fs ex:List Addr)(H H':Hp)(h h':Heap):Prop where
 keep:∀ b o,h.get? b=some o->H b=none->b ∉ fs->b ∉ ex->h'.get? b=some o
 slot:∀ b o,h.get? b=some o->H b=none->b∈fs->b ∉ ex->∃ sl,h'.get? b=some {o with slots:=sl}
 free:∀ b o,h.get? b=some o->H b=none->b ∉ ex->H' b=none
 there:∀ b o,h.get? b=some o->b ∉ ex->∃ o',h'.get? b=some o'
 tups:∀ b xs,H b=some (.tup xs)->H' b=some (.tup xs)
 frzs:∀ b o u,H b=some (.frz o u)->H' b=some (.frz o u)
 tbls:∀ b ps,H b=some (.tbl ps)->∃ more,H' b=some (.tbl (ps++more))
section
variable {fs fs' ex ex':List Addr}{H H1 H2:Hp}{h h1 h2 h':Heap}{a x e:Addr}{o:HO}
theorem Un.any(u:Un fs ex H H1 h h1){b:Addr}{ob:Obj}(q:h.get? b=some ob)(n:H b=none)(hx:b ∉ ex):∃ sl,h1.get? b=some {ob with slots:=sl}:=by
 by_cases hb:b∈fs
 . exact u.slot b ob q n hb hx
 . exact ⟨ob.slots,u.keep b ob q n hb hx⟩
theorem Un.kept(k:∀ b u,h.get? b=some u->h'.get? b=some u):Un fs ex H H h h' :=
 ⟨fun b ob q _ _ _=>k b ob q,fun b ob q _ _ _=>⟨ob.slots,k b ob q⟩,fun _ _ _ n _=>n,fun b ob q _=>⟨ob,k b ob q⟩,fun _ _ q=>q,fun _ _ _ q=>q,fun _ ps q=>⟨#[],by rw [q];simp⟩⟩
theorem Un.refl:Un fs ex H H h h:=Un.kept fun _ _ q=>q
theorem Un.laid(k:∀ b u,h.get? b=some u->h'.get? b=some u)(hp:h.objs.size<=a)(hn:H a=none):Un fs ex H (upd H a o) h h' where
 keep:=fun b u q _ _ _=>k b u q
 slot:=fun b u q _ _ _=>⟨u.slots,k b u q⟩
 free:=fun b u q n _=>by rw [Zc (Ou (Ot (Heap.lt_size q) hp))];exact n
 there:=fun b u q _=>⟨u,k b u q⟩
 tups:=fun b xs q=>by rw [Zc (ZJ q hn)];exact q
 frzs:=fun b u xs q=>by rw [Zc (ZJ q hn)];exact q
 tbls:=fun b ps q=>⟨#[],by rw [Zc (ZJ q hn),q];simp⟩
theorem Un.write(mu:Mut (H x))(he:e=x\/H e=some (.own x))(k:∀ b u,b≠e->h.get? b=some u->h'.get? b=some u)(heo:∃ u,h'.get? e=some u):Un fs ex H (upd H x o) h h':=by
 have hx:∀ b,H b=none->b≠x:=fun b n z=>by subst z;rw [n] at mu;exact mu
 have hb:∀ b,H b=none->b≠e:=fun b n z=>by
   subst z
   rcases he with r|r
   . exact hx b n r
   . rw [n] at r;cases r
 have hm:∀ b u,H b=some u->¬ Mut (some u)->b≠x:=fun b u q nm z=>by subst z;rw [q] at mu;exact nm mu
 refine ⟨fun b u q n _ _=>k b u (hb b n) q,fun b u q n _ _=>⟨u.slots,k b u (hb b n) q⟩,fun b u q n _=>by rw [Zc (hx b n)];exact n,fun b u q _=>?_,
   fun b xs q=>by rw [Zc (hm b _ q fun z=>z)];exact q,fun b u xs q=>by rw [Zc (hm b _ q fun z=>z)];exact q,fun b ps q=>⟨#[],by rw [Zc (hm b _ q fun z=>z),q];simp⟩⟩
 by_cases hbe:b=e
 . subst hbe;exact heo
 . exact ⟨u,k b u hbe q⟩
end
noncomputable def trk(h:Heap)(H:Hp):List Addr:=(List.range h.objs.size).filter fun a=>(H a).isSome
noncomputable def ZgA(h:Heap)(H:Hp):Heap:=PySem.W.hideAll h (trk h H)
theorem Zkq(h:Heap)(H:Hp):(ZgA h H).objs.size=h.objs.size:=PySem.W.hideAll_size _ _
theorem Zl0{h:Heap}{H:Hp}{b:Addr}{o:Obj}(e:h.get? b=some o)(n:H b=none):(ZgA h H).get? b=some o :=
 PySem.W.hideAll_get _ e fun hm=>by
   have q:(H b).isSome=true:=(List.mem_filter.mp hm).2
   rw [n] at q;simp at q
theorem ZnM{h:Heap}{H:Hp}{b:Addr}{o:Obj}(e:(ZgA h H).get? b=some o):h.get? b=some o/\H b=none:=by
 have e':h.get? b=some o:=PySem.W.of_hideAll (trk h H) e
 refine ⟨e',?_⟩
 cases q:H b with
 | none=>rfl
 | some x =>
   have hm:b∈trk h H:=List.mem_filter.mpr ⟨List.mem_range.mpr (Heap.lt_size e'),by simp [q]⟩
   have z:(ZgA h H).get? b=none:=PySem.W.hideAll_none (trk h H) hm
   rw [z] at e;cases e
end L2
namespace L2
open PySem PySem.Spec PyProof.Rows
structure Mod(K:PySem.W.Frag)(mg:Str->Option Value)(base:Heap):Prop where
 kin:K.In base
 glob:base.Ns mainGlobals mg
 blt:∃ mb,base.Ns builtinsNs mb/\∀ x:Str,x ≠ "__name__" -> mb x=bootBuiltins x
 nolimit:base.NoLimit
structure Cx where
 prog:Program
 w:World
 K:PySem.W.Frag
 mg:Str->Option Value
 base:Heap
 A:Around
 N:List Str
 s₀:Shared
 H₀:Hp
 env:Env
 outer:List Env
 stack:List Env
 ex:List Addr
 fn:Str->Bool
 calm:Bool
 pn:List (Addr×Obj)
 xe:Value->Shared->Prop
noncomputable def frs(l:List Env):List Addr:=l.filterMap (·.frame)
noncomputable abbrev Cx.fs(X:Cx):List Addr:=frs X.outer
noncomputable def Vis(sc:Scope)(x:Str):Prop:=sc.names.lookup x=some .local\/sc.names.lookup x=some .cell\/sc.names.lookup x=some .free
noncomputable def Loc(sc:Scope)(x:Str):Prop:=sc.names.lookup x=some .local\/sc.names.lookup x=some .cell
noncomputable def Look(env:Env)(h:Heap)(m:Str->Option Value)(x:Str)(u:Value):Prop :=
 (env.kindOf x=some .local/\m x=some u)\/((env.kindOf x=some .cell\/env.kindOf x=some .free)/\∃ c,env.cells.lookup x=some c/\h.IsCell c (some u))
structure Cx.Ok(X:Cx):Prop where
 mod:Mod X.K X.mg X.base
 kind:X.env.scope.kind=.function
 glob:X.env.globals=mainGlobals
 blt:X.env.builtins=builtinsNs
 above:X.s₀.heap.objs.size<=X.env.locals
 inj:∀ x y c,X.env.cells.lookup x=some c->X.env.cells.lookup y=some c->x=y
 has:∀ x,(X.env.kindOf x=some .cell\/X.env.kindOf x=some .free)->∃ c,X.env.cells.lookup x=some c
 cab:∀ x c,X.fn x=true->X.env.cells.lookup x=some c->X.s₀.heap.objs.size<=c
 hd:X.calm=true->X.A.handled=none
 frames:X.A.frames=some X.stack
 stk:X.stack=X.outer\/(X.stack=X.env::X.outer/\X.env.frame=some X.env.locals)
 exf:∀ b∈X.ex,b≠X.env.locals/\∀ x c,X.env.cells.lookup x=some c->c≠b
 bs:∀ b o,X.base.get? b=some o->X.s₀.heap.get? b=some o/\X.H₀ b=none
 bsz:X.base.objs.size<=X.s₀.heap.objs.size
 noex:∀ b o,X.base.get? b=some o->b ∉ X.ex
 exfs:∀ b∈X.ex,b ∉ X.fs
 funs:X.s₀.heap.FunFrames X.base X.outer
 frf:∀ b∈X.fs,X.H₀ b=none
structure Inv(X:Cx)(pins:List (Addr×Obj))(Z:List (Option V))(H:Hp)(s:Shared):Prop where
 ok:X.Ok
 os:s.os=X.s₀.os
 bare:AllBare s.gens
 base:Un X.fs X.ex X.H₀ H X.s₀.heap s.heap
 loc:∃ m,s.heap.Ns X.env.locals m/\∀ (i:Nat) (x:Str) (v:V),X.N[i]? = some x->Z[i]? = some (some v)->Vis X.env.scope x->∃ u,RelV v u/\Look X.env s.heap m x u
 cell:∀ x c,X.env.cells.lookup x=some c->∃ v,s.heap.IsCell c v
 free:H X.env.locals=none
 freeC:∀ x c,X.env.cells.lookup x=some c->H c=none
 pin:∀ p∈X.pn++pins,s.heap.get? p.1=some p.2/\H p.1=none/\p.1≠X.env.locals/\p.1 ∉ X.fs/\∀ v,p.2.data≠.cell v
 hok:HOk X.prog X.w H s.heap
 len:Z.length=X.N.length
section
variable {X:Cx}{pins:List (Addr×Obj)}{Z:List (Option V)}{H H':Hp}{s:Shared}{h':Heap}
theorem Cx.Ok.nofr(ok:X.Ok){b:Addr}{o:Obj}(e:X.base.get? b=some o):b ∉ X.fs:=fun hb=>by
 have:=(ok.funs.mem hb).1
 rw [e] at this;cases this
theorem Inv.bs(I:Inv X pins Z H s):∀ b o,X.base.get? b=some o->s.heap.get? b=some o/\H b=none:=fun b o e =>
 ⟨I.base.keep b o (I.ok.bs b o e).1 (I.ok.bs b o e).2 (I.ok.nofr e) (I.ok.noex b o e),I.base.free b o (I.ok.bs b o e).1 (I.ok.bs b o e).2 (I.ok.noex b o e)⟩
theorem Inv.bk(I:Inv X pins Z H s):∀ b o,X.base.get? b=some o->s.heap.get? b=some o:=fun b o e=>(I.bs b o e).1
theorem Inv.mod(I:Inv X pins Z H s):Mod X.K X.mg X.base:=I.ok.mod
theorem Inv.kIn(I:Inv X pins Z H s):X.K.In s.heap:=I.ok.mod.kin.keeps I.bk
theorem Inv.lt(I:Inv X pins Z H s):X.env.locals<s.heap.objs.size:=let ⟨_,hn,_⟩:=I.loc;hn.lt
theorem Inv.sz(I:Inv X pins Z H s):X.s₀.heap.objs.size<=s.heap.objs.size:=OE I.ok.above (Nat.le_of_lt I.lt)
theorem Inv.nofs(I:Inv X pins Z H s){a:Addr}(h:s.heap.objs.size<=a):a ∉ X.fs:=fun hb=>by
 obtain ⟨_,o,ho,_⟩:=I.ok.funs.mem hb
 exact absurd (Ot (Heap.lt_size ho) (OE I.sz h)) (Nat.lt_irrefl _)
theorem Inv.cne(I:Inv X pins Z H s):∀ x c,X.env.cells.lookup x=some c->c≠X.env.locals:=fun x c e z=>by
 obtain ⟨v,o,ho,hd⟩:=I.cell x c e
 obtain ⟨m,⟨o',es,ep,ho',hd',_⟩,_⟩:=I.loc
 rw [z,ho'] at ho;cases ho;rw [hd'] at hd;cases hd
theorem Inv.funs(I:Inv X pins Z H s):s.heap.FunFrames X.base X.outer:=by
 have all:∀ (l:List Env),(∀ b∈frs l,b∈X.fs)->X.s₀.heap.FunFrames X.base l->s.heap.FunFrames X.base l:=by
   intro l
   induction l with
   | nil=>intro _ _;trivial
   | cons env r ih =>
     intro hs hl
     obtain ⟨hk,⟨L,o,hf,hn,ho,hd⟩,hr⟩:=hl
     have hL:L∈X.fs:=hs L (by unfold frs;rw [List.filterMap_cons,hf];exact Oi)
     obtain ⟨sl,e⟩:=I.base.slot L o ho (I.ok.frf L hL) hL fun z=>I.ok.exfs L z hL
     exact ⟨hk,⟨L,_,hf,hn,e,hd⟩,ih (fun b hb=>hs b (by unfold frs;rw [List.filterMap_cons,hf];exact Oh _ hb)) hr⟩
 exact all X.outer (fun _ hb=>hb) I.ok.funs
theorem Inv.stack(I:Inv X pins Z H s):s.heap.FunFrames X.base X.stack:=by
 rcases I.ok.stk with e|⟨e,hf⟩
 . rw [e];exact I.funs
 . rw [e]
   obtain ⟨m,hn,_⟩:=I.loc
   refine .cons (by rw [I.ok.kind];decide) hf hn ?_ I.funs
   exact Heap.get?_none_of_le (OE I.ok.bsz I.ok.above)
theorem Inv.stkSub(I:Inv X pins Z H s):∀ b∈frs X.stack,b∈X.env.locals::X.fs:=fun b hb=>by
 rcases I.ok.stk with e|⟨e,hf⟩
 . rw [e] at hb;exact Oh _ hb
 . rw [e] at hb
   unfold frs at hb
   rw [List.filterMap_cons,hf] at hb
   exact hb
theorem Inv.stkFree(I:Inv X pins Z H s):∀ b∈frs X.stack,H b=none:=fun b hb=>by
 rcases O2.mp (I.stkSub b hb) with e|hb
 . rw [e];exact I.free
 . obtain ⟨_,o,ho,_⟩:=I.ok.funs.mem hb
   exact I.base.free b o ho (I.ok.frf b hb) fun z=>I.ok.exfs b z hb
theorem Inv.step{g':Array GenState}{t':Nat}{d':Drawn}{ch:List Addr}(I:Inv X pins Z H s)
   (hch:∀ b∈ch,(b∈X.ex\/X.s₀.heap.objs.size<=b)/\b≠X.env.locals/\(∀ x c,X.env.cells.lookup x=some c->c≠b)/\∀ p∈X.pn++pins,p.1≠b)
   (keep:∀ b o,b≠X.env.locals->b ∉ X.fs->b ∉ ch->s.heap.get? b=some o->H b=none->h'.get? b=some o)
   (slot:∀ b o,b≠X.env.locals->b∈X.fs->b ∉ ch->s.heap.get? b=some o->H b=none->∃ sl,h'.get? b=some {o with slots:=sl}) (free:∀ b o,b ∉ ch->s.heap.get? b=some o->H b=none->H' b=none)
   (there:∀ b o,b ∉ ch->s.heap.get? b=some o->∃ o',h'.get? b=some o')
   (tups:∀ b xs,H b=some (.tup xs)->H' b=some (.tup xs)) (frzs:∀ b o u,H b=some (.frz o u)->H' b=some (.frz o u)) (tbls:∀ b ps,H b=some (.tbl ps)->∃ more,H' b=some (.tbl (ps++more)))
   (ns:∀ m,s.heap.Ns X.env.locals m->h'.Ns X.env.locals m) (hok:HOk X.prog X.w H' h') (hg:AllBare g') :
   Inv X pins Z H' {s with heap:=h',gens:=g',drawn:=d',toks:=t'}:=by
 have neL:∀ b o,X.s₀.heap.get? b=some o->b≠X.env.locals:=fun b o e=>Ou (Ot (Heap.lt_size e) I.ok.above)
 have neC:∀ b o,X.s₀.heap.get? b=some o->b ∉ X.ex->b ∉ ch:=fun b o e hx hb=>by
   rcases (hch b hb).1 with z|z
   . exact hx z
   . exact absurd (Ot (Heap.lt_size e) z) (Nat.lt_irrefl _)
 have cellK:∀ x c,X.env.cells.lookup x=some c->∀ v,s.heap.IsCell c v->h'.IsCell c v:=fun x c e v ⟨o,ho,hd⟩=>by
   have nch:c ∉ ch:=fun z=>(hch c z).2.2.1 x c e rfl
   by_cases hc:c∈X.fs
   . obtain ⟨sl,q⟩:=slot c o (I.cne x c e) hc nch ho (I.freeC x c e)
     exact ⟨_,q,hd⟩
   . exact ⟨o,keep c o (I.cne x c e) hc nch ho (I.freeC x c e),hd⟩
 refine ⟨I.ok,I.os,hg,⟨fun b o e n hb hx=>?_,fun b o e n hb hx=>?_,fun b o e n hx=>?_,fun b o e hx=>?_,fun b xs e=>tups b xs (I.base.tups b xs e),fun b o xs e=>frzs b o xs (I.base.frzs b o xs e),fun b ps e=>?_⟩,?_,fun x c e=>?_,?_,fun x c e=>?_,fun p hp=>?_,hok,I.len⟩
 . exact keep b o (neL b o e) hb (neC b o e hx) (I.base.keep b o e n hb hx) (I.base.free b o e n hx)
 . obtain ⟨sl,e1⟩:=I.base.slot b o e n hb hx
   obtain ⟨sl',e2⟩:=slot b _ (neL b o e) hb (neC b o e hx) e1 (I.base.free b o e n hx)
   exact ⟨sl',e2⟩
 . obtain ⟨o',e1⟩:=I.base.there b o e hx
   exact free b o' (neC b o e hx) e1 (I.base.free b o e n hx)
 . obtain ⟨o',e1⟩:=I.base.there b o e hx
   exact there b o' (neC b o e hx) e1
 . obtain ⟨m1,e1⟩:=I.base.tbls b ps e
   obtain ⟨m2,e2⟩:=tbls b _ e1
   exact ⟨m1++m2,by rw [e2,Array.append_assoc]⟩
 . obtain ⟨m,hn,hl⟩:=I.loc
   refine ⟨m,ns m hn,fun i x v e1 e2 e3=>?_⟩
   obtain ⟨u,r,l⟩:=hl i x v e1 e2 e3
   refine ⟨u,r,?_⟩
   rcases l with l|⟨k,c,e,z⟩
   . exact .inl l
   . exact .inr ⟨k,c,e,cellK x c e _ z⟩
 . obtain ⟨v,z⟩:=I.cell x c e
   exact ⟨v,cellK x c e v z⟩
 . obtain ⟨m,⟨o,_,_,ho,_⟩,_⟩:=I.loc
   exact free _ o (fun z=>(hch _ z).2.1 rfl) ho I.free
 . obtain ⟨v,o,ho,hd⟩:=I.cell x c e
   exact free c o (fun z=>(hch c z).2.2.1 x c e rfl) ho (I.freeC x c e)
 . obtain ⟨e,n,ne,nf,d⟩:=I.pin p hp
   have nch:p.1 ∉ ch:=fun z=>(hch p.1 z).2.2.2 p hp rfl
   exact ⟨keep p.1 p.2 ne nf nch e n,free p.1 p.2 nch e n,ne,nf,d⟩
theorem Inv.un{t':Nat}(I:Inv X pins Z H s)(u:Un X.fs [] H H' s.heap h')(hok:HOk X.prog X.w H' h'):Inv X pins Z H' {s with heap:=h',toks:=t'}:=by
 obtain ⟨m,⟨o,es,ep,ho,r⟩,_⟩:=id I.loc
 obtain ⟨sl,hL⟩:=u.any ho I.free (by simp)
 exact I.step (g':=s.gens) (d':=s.drawn) (ch:=[]) (fun _ z=>nomatch z) (fun b o _ hb _ e n=>u.keep b o e n hb (by simp)) (fun b o _ hb _ e n=>u.slot b o e n hb (by simp)) (fun b o _ e n=>u.free b o e n (by simp)) (fun b o _ e=>u.there b o e (by simp)) u.tups u.frzs u.tbls (fun m' hm=>by
   obtain ⟨o',es',ep',ho',r'⟩:=hm
   rw [ho] at ho';cases ho'
   exact ⟨_,es',ep',hL,r'⟩) hok I.bare
theorem Inv.call{g':Array GenState}{t':Nat}{d':Drawn}{ch:List Addr}(I:Inv X pins Z H s)(u:Un (frs X.stack) ch H H' s.heap h')(hok:HOk X.prog X.w H' h')(hg:AllBare g')
   (hch:∀ b∈ch,(b∈X.ex\/X.s₀.heap.objs.size<=b)/\b≠X.env.locals/\(∀ x c,X.env.cells.lookup x=some c->c≠b)/\∀ p∈X.pn++pins,p.1≠b) :
   Inv X pins Z H' {s with heap:=h',gens:=g',drawn:=d',toks:=t'}:=by
 obtain ⟨m,⟨o,es,ep,ho,r⟩,_⟩:=id I.loc
 obtain ⟨sl,hL⟩:=u.any ho I.free fun z=>(hch _ z).2.1 rfl
 exact I.step (ch:=ch) hch (fun b o hL hb hc e n=>u.keep b o e n (fun z=>(O2.mp (I.stkSub b z)).elim hL hb) hc) (fun b o _ _ hc e n=>u.any e n hc) (fun b o hc e n=>u.free b o e n hc) (fun b o hc e=>u.there b o e hc) u.tups u.frzs u.tbls (fun m' hm=>by
   obtain ⟨o',es',ep',ho',r'⟩:=hm
   rw [ho] at ho';cases ho'
   exact ⟨_,es',ep',hL,r'⟩) hok hg
theorem Inv.turned{t':Nat}{it:Addr}(I:Inv X pins Z H s)(k:∀ b o,b≠it->s.heap.get? b=some o->h'.get? b=some o)(hn:H it=none)(hL:it≠X.env.locals)
   (h1:it∈X.ex\/X.s₀.heap.objs.size<=it) (h2:∀ x c,X.env.cells.lookup x=some c->c≠it) (h3:∀ p∈X.pn++pins,p.1≠it):Inv X pins Z H {s with heap:=h',toks:=t'}:=by
 have nit:∀ b u,H b=some u->b≠it:=fun b u e z=>by rw [z,hn] at e;cases e
 refine I.step (g':=s.gens) (d':=s.drawn) (ch:=[it]) (fun b hb=>?_) (fun b o _ _ hc e _=>k b o (fun z=>hc (by simp [z])) e) (fun b o _ _ hc e _=>⟨o.slots,k b o (fun z=>hc (by simp [z])) e⟩) (fun _ _ _ _ n=>n)
   (fun b o hc e=>⟨o,k b o (fun z=>hc (by simp [z])) e⟩) (fun _ _ e=>e) (fun _ _ _ e=>e) (fun b ps e=>⟨#[],by rw [e];simp⟩) (fun m hm=>?_) (fun b u e=>?_) I.bare
 . have e:b=it:=by simpa using hb
   subst e
   exact ⟨h1,hL,h2,h3⟩
 . obtain ⟨o,es,ep,ho,r⟩:=hm
   exact ⟨o,es,ep,k _ o (Ne.symm hL) ho,r⟩
 . refine (I.hok b u e).stay (fun c v hc q=>k c v ?_ q) (fun _ q=>q) fun _ _ q=>q
   rcases hc with z|z
   . rw [z];exact nit b u e
   . exact nit c _ z
theorem Inv.tok(I:Inv X pins Z H s)(t:Nat):Inv X pins Z H {s with toks:=t}:=I.un (h':=s.heap) (t':=t) Un.refl I.hok
theorem Inv.kept{t':Nat}(I:Inv X pins Z H s)(k:∀ b u,s.heap.get? b=some u->h'.get? b=some u):Inv X pins Z H {s with heap:=h',toks:=t'}:=I.un (Un.kept k) (I.hok.kept k)
theorem Inv.laid{a:Addr}{o:HO}{t':Nat}(I:Inv X pins Z H s)(k:∀ b u,s.heap.get? b=some u->h'.get? b=some u)(hp:s.heap.objs.size<=a)(new:ZaC X.prog X.w (upd H a o) h' a o) :
   Inv X pins Z (upd H a o) {s with heap:=h',toks:=t'}:=I.un (Un.laid k hp (I.hok.fresh hp)) (I.hok.laid k hp new)
theorem Inv.write{x e:Addr}{o:HO}{t':Nat}(I:Inv X pins Z H s)(mu:Mut (H x))(he:e=x\/H e=some (.own x))(k:∀ b u,b≠e->s.heap.get? b=some u->h'.get? b=some u)(heo:∃ u,h'.get? e=some u)
   (new:ZaC X.prog X.w (upd H x o) h' x o):Inv X pins Z (upd H x o) {s with heap:=h',toks:=t'}:=I.un (Un.write mu he k heo) (I.hok.write mu he k heo new)
theorem Inv.weak{σ':List (Option V)}(I:Inv X pins Z H s)(hl:σ'.length=Z.length)(w:∀ (i:Nat) v,σ'[i]? = some (some v)->Z[i]? = some (some v)):Inv X pins σ' H s :=
 ⟨I.ok,I.os,I.bare,I.base,let ⟨m,hn,hl'⟩:=I.loc;⟨m,hn,fun i x v e1 e2 e3=>hl' i x v e1 (w i v e2) e3⟩,I.cell,I.free,I.freeC,I.pin,I.hok,hl.trans I.len⟩
theorem Inv.pins_of{pins':List (Addr×Obj)}(I:Inv X pins Z H s)(h:∀ p∈pins',s.heap.get? p.1=some p.2/\H p.1=none/\p.1≠X.env.locals/\p.1 ∉ X.fs/\∀ v,p.2.data≠.cell v):Inv X pins' Z H s :=
 ⟨I.ok,I.os,I.bare,I.base,I.loc,I.cell,I.free,I.freeC,fun p hp=>(OD.mp hp).elim (fun z=>I.pin p (List.mem_append_left _ z)) (h p),I.hok,I.len⟩
theorem Zhj{N:List Str}(hN:N.Nodup){i j:Nat}{x:Str}(a:N[i]? = some x)(b:N[j]? = some x):i=j:=by
 obtain ⟨h1,e1⟩:=Ob.mp a
 obtain ⟨h2,e2⟩:=Ob.mp b
 exact (List.getElem_inj hN).mp (e1.trans e2.symm)
theorem ZfW{M:Model}{A:Around}{E:Value->Shared->Prop}{i:Nat}{x:Str}{v:V}{u:Value}{Q:Unit->Shared->Prop}(I:Inv X pins Z H s)(hN:X.N.Nodup)(hi:X.N[i]? = some x)(hx:Loc X.env.scope x)(r:RelV v u)
   (h:∀ s',Inv X pins (Z.set i (some v)) H s'->(∃ a,Heap.SameBut a s.heap s'.heap/\(a=X.env.locals\/X.env.cells.lookup x=some a))->Q () s') (hf:X.fn x=true\/X.env.scope.names.lookup x=some .local:=by first|exact .inl rfl|exact .inr rfl|assumption):wpAny M A (storeName X.env x u) Q E s:=by
 obtain ⟨m,hn,hl⟩:=id I.loc
 have hcls:(X.env.scope.kind==.class || (X.env.scope.kind==.module&&X.env.locals != X.env.globals))=false:=by rw [I.ok.kind];rfl
 have hiσ:i<Z.length:=by rw [I.len];exact (Ob.mp hi).1
 have cne:=I.cne
 have tracked:∀ {a:Addr}{h':Heap},(∃ o,s.heap.get? a=some o/\H a=none)->Heap.SameBut a s.heap h'->HOk X.prog X.w H h':=fun {a h'} ha hs b ob e=>by
   obtain ⟨_,_,hfree⟩:=ha
   refine (I.hok b ob e).stay (fun c w' hc q=>(hs.2 c ?_).trans q) (fun _ q=>q) fun _ _ q=>q
   rintro rfl
   rcases hc with rfl|hc
   . rw [hfree] at e;cases e
   . rw [hfree] at hc;cases hc
 rcases hx with hk|hk
 . refine wpAny_storeName_local hk hn (fun h' hn' hs=>?_) hcls
   obtain ⟨oL,_,_,hoL,_⟩:=id hn
   refine h _ ⟨I.ok,I.os,I.bare,⟨fun b o e n hb hx=>?_,fun b o e n hb hx=>?_,I.base.free,fun b o e hx=>?_,I.base.tups,I.base.frzs,I.base.tbls⟩,⟨_,hn',fun j y v' e1 e2 e3=>?_⟩,fun y c e=>?_,I.free,I.freeC,fun p hp=>?_,tracked ⟨oL,hoL,I.free⟩ hs,by simpa using I.len⟩ ⟨_,hs,.inl rfl⟩
   . exact (hs.2 b (Ou (Ot (Heap.lt_size e) I.ok.above))).trans (I.base.keep b o e n hb hx)
   . obtain ⟨sl,e1⟩:=I.base.slot b o e n hb hx
     exact ⟨sl,(hs.2 b (Ou (Ot (Heap.lt_size e) I.ok.above))).trans e1⟩
   . obtain ⟨o',e1⟩:=I.base.there b o e hx
     exact ⟨o',(hs.2 b (Ou (Ot (Heap.lt_size e) I.ok.above))).trans e1⟩
   . by_cases hj:j=i
     . subst hj
       rw [hi] at e1;cases e1
       rw [Ol hiσ] at e2
       cases e2
       exact ⟨u,r,.inl ⟨hk,by simp⟩⟩
     . rw [Oc (Ne.symm hj)] at e2
       obtain ⟨u',r',q⟩:=hl j y v' e1 e2 e3
       refine ⟨u',r',?_⟩
       rcases q with ⟨k,e⟩|⟨k,c,e,z⟩
       . refine .inl ⟨k,?_⟩
         have:y≠x:=fun e=>hj (Zhj hN e1 (e ▸ hi))
         simp [this,e]
       . exact .inr ⟨k,c,e,z.sameBut hs (cne y c e)⟩
   . obtain ⟨w',z⟩:=I.cell y c e
     exact ⟨w',z.sameBut hs (cne y c e)⟩
   . obtain ⟨e,n,ne,nf,d⟩:=I.pin p hp
     exact ⟨(hs.2 p.1 ne).trans e,n,ne,nf,d⟩
 . have hfn:X.fn x=true:=by
     rcases hf with z|z
     . exact z
     . rw [z] at hk;cases hk
   obtain ⟨c,hc⟩:=I.ok.has x (.inl hk)
   obtain ⟨w',z⟩:=I.cell x c hc
   refine wpAny_storeName_cell I.ok.kind hk hc z (fun h' hc' hs=>?_)
   obtain ⟨oc,hoc,hocd⟩:=id z
   refine h {s with heap:=h'} ⟨I.ok,I.os,I.bare,⟨fun b o e n hb hx=>?_,fun b o e n hb hx=>?_,I.base.free,fun b o e hx=>?_,I.base.tups,I.base.frzs,I.base.tbls⟩,⟨m,hn.sameBut hs (Ne.symm (cne x c hc)),fun j y v' e1 e2 e3=>?_⟩,fun y c' e=>?_,I.free,I.freeC,fun p hp=>?_,tracked ⟨oc,hoc,I.freeC x c hc⟩ hs,by simpa using I.len⟩ ⟨c,hs,.inr hc⟩
   . exact (hs.2 b (Ou (Ot (Heap.lt_size e) (I.ok.cab x c hfn hc)))).trans (I.base.keep b o e n hb hx)
   . obtain ⟨sl,e1⟩:=I.base.slot b o e n hb hx
     exact ⟨sl,(hs.2 b (Ou (Ot (Heap.lt_size e) (I.ok.cab x c hfn hc)))).trans e1⟩
   . obtain ⟨o',e1⟩:=I.base.there b o e hx
     exact ⟨o',(hs.2 b (Ou (Ot (Heap.lt_size e) (I.ok.cab x c hfn hc)))).trans e1⟩
   . by_cases hj:j=i
     . subst hj
       rw [hi] at e1;cases e1
       rw [Ol hiσ] at e2
       cases e2
       exact ⟨u,r,.inr ⟨.inl hk,c,hc,hc'⟩⟩
     . rw [Oc (Ne.symm hj)] at e2
       obtain ⟨u',r',q⟩:=hl j y v' e1 e2 e3
       refine ⟨u',r',?_⟩
       rcases q with q|⟨k,c',e,z'⟩
       . exact .inl q
       . refine .inr ⟨k,c',e,z'.sameBut hs ?_⟩
         rintro rfl
         exact hj (Zhj hN e1 (I.ok.inj _ _ _ e hc ▸ hi))
   . by_cases hcc:c'=c
     . subst hcc;exact ⟨_,hc'⟩
     . obtain ⟨w2,z2⟩:=I.cell y c' e
       exact ⟨w2,z2.sameBut hs hcc⟩
   . obtain ⟨e,n,ne,nf,d⟩:=I.pin p hp
     refine ⟨(hs.2 p.1 ?_).trans e,n,ne,nf,d⟩
     intro q
     rw [q,hoc] at e
     have q':oc=p.2:=Option.some.inj e
     exact d w' (by rw [<- q'];exact hocd)
theorem ZeX{M:Model}{A:Around}{E:Value->Shared->Prop}{i:Nat}{x:Str}{v:V}{u:Value}{Q:Unit->Shared->Prop}(I:Inv X pins Z H s)(hN:X.N.Nodup)(hi:X.N[i]? = some x)(hx:Loc X.env.scope x)(r:RelV v u)
   (h:∀ s',Inv X pins (Z.set i (some v)) H s'->Q () s') (hf:X.fn x=true\/X.env.scope.names.lookup x=some .local:=by first|exact .inl rfl|exact .inr rfl|assumption):wpAny M A (storeName X.env x u) Q E s :=
 ZfW I hN hi hx r (fun s' I' _=>h s' I') hf
theorem Inv.call'{s':Shared}{ch:List Addr}(I:Inv X pins Z H s)(ho:s'.os=s.os)(u:Un (frs X.stack) ch H H' s.heap s'.heap)(hok:HOk X.prog X.w H' s'.heap)(hg:AllBare s'.gens)
   (hch:∀ b∈ch,(b∈X.ex\/X.s₀.heap.objs.size<=b)/\b≠X.env.locals/\(∀ x c,X.env.cells.lookup x=some c->c≠b)/\∀ p∈X.pn++pins,p.1≠b):Inv X pins Z H' s':=by
 obtain ⟨h',g',d',t',o'⟩:=s'
 have e:o'=s.os:=ho
 subst e
 exact I.call (g':=g') (t':=t') (d':=d') u hok hg hch
end
noncomputable abbrev XK:=Value->Option Addr->Hp->Prop
noncomputable abbrev St:=List (Option V)
noncomputable abbrev VK:=V->Hp->Prop
noncomputable abbrev TE:=St->Hp->VK->Prop
noncomputable abbrev TT:=St->Hp->(Bool->Hp->Prop)->Prop
noncomputable abbrev TA:=St->Hp->(List V->Hp->Prop)->Prop
structure Ends where
 nx:St->Hp->Prop
 rt:VK
 bk:St->Hp->Prop:=fun _ _=>False
 ct:St->Hp->Prop:=fun _ _=>False
noncomputable abbrev TS:=Ends->St->Hp->Prop
noncomputable def EP(X:Cx)(pins:List (Addr×Obj))(Z:St)(Q:VK)(u:Value)(s':Shared):Prop:=∃ v H',Inv X pins Z H' s'/\RelV v u/\Q v H'
noncomputable def TP(X:Cx)(pins:List (Addr×Obj))(Z:St)(Q:Bool->Hp->Prop)(b:Bool)(s':Shared):Prop:=∃ H',Inv X pins Z H' s'/\Q b H'
noncomputable def AP(X:Cx)(pins:List (Addr×Obj))(Z:St)(Q:List V->Hp->Prop)(us:List Value)(s':Shared):Prop:=∃ vs H',Inv X pins Z H' s'/\Zi vs us/\Q vs H'
noncomputable def SP(X:Cx)(pins:List (Addr×Obj))(D:Ends)(f:Flow)(s':Shared):Prop :=
 match f with
 | .next=>∃ σ' H',Inv X pins σ' H' s'/\D.nx σ' H'
 | .brk=>∃ σ' H',Inv X pins σ' H' s'/\D.bk σ' H'
 | .cont=>∃ σ' H',Inv X pins σ' H' s'/\D.ct σ' H'
 | .ret u=>∃ v σ' H',Inv X pins σ' H' s'/\RelV v u/\D.rt v H'
noncomputable def PE(X:Cx)(e:Expr)(t:TE):Prop :=
 ∀ (pins:List (Addr×Obj)) (s:Shared) (Z:St) (H:Hp) (Q:VK),Inv X pins Z H s->t Z H Q->wpAny (model X.prog X.w) X.A (eval e X.env) (EP X pins Z Q) X.xe s
noncomputable def PT(X:Cx)(e:Expr)(t:TT):Prop :=
 ∀ (pins:List (Addr×Obj)) (s:Shared) (Z:St) (H:Hp) (Q:Bool->Hp->Prop),Inv X pins Z H s->t Z H Q->wpAny (model X.prog X.w) X.A (isTrue e X.env (eval e X.env)) (TP X pins Z Q) X.xe s
noncomputable def PW(X:Cx)(e:Expr)(t:TT):Prop :=
 ∀ (whole:Sem Value) (pins:List (Addr×Obj)) (s:Shared) (Z:St) (H:Hp) (Q:Bool->Hp->Prop),Inv X pins Z H s->t Z H Q->wpAny (model X.prog X.w) X.A (isTrue e X.env whole) (TP X pins Z Q) X.xe s
theorem PW.pt{X:Cx}{e:Expr}{t:TT}(h:PW X e t):PT X e t:=h _
noncomputable def PA(X:Cx)(es:List Expr)(t:TA):Prop :=
 ∀ (pos:Pos) (pins:List (Addr×Obj)) (s:Shared) (Z:St) (H:Hp) (Q:List V->Hp->Prop),Inv X pins Z H s->t Z H Q->wpAny (model X.prog X.w) X.A (spliced (backTo pos (starEach es X.env))) (AP X pins Z Q) X.xe s
noncomputable def PS(X:Cx)(st:Stmt)(t:TS):Prop :=
 ∀ (pins:List (Addr×Obj)) (s:Shared) (Z:St) (H:Hp) (D:Ends),Inv X pins Z H s->t D Z H->wpAny (model X.prog X.w) X.A (exec st X.env) (SP X pins D) X.xe s
noncomputable def PSs(X:Cx)(st:List Stmt)(t:TS):Prop :=
 ∀ (pins:List (Addr×Obj)) (s:Shared) (Z:St) (H:Hp) (D:Ends),Inv X pins Z H s->t D Z H->wpAny (model X.prog X.w) X.A (execs st X.env) (SP X pins D) X.xe s
theorem thn{α:Type}{t:Sem α}{Q Q':α->Shared->Prop}{M:Model}{A:Around}{E:Value->Shared->Prop}{s:Shared}(h:wpAny M A t Q E s)(hQ:∀ a s,Q a s->Q' a s):wpAny M A t Q' E s:=wpAny_mono h hQ fun _ _ x=>x
end L2
namespace L2
open PySem PySem.Spec PyProof.Rows
section
variable {X:Cx}
noncomputable def Zss(i:Nat):TE:=fun Z H Q=>∃ v,Z[i]? = some (some v)/\Q v H
noncomputable def tC(v:V):TE:=fun _ H Q=>Q v H
theorem Zpw {i:Nat}{x:Str}{pos:Pos} (hN:X.N[i]? = some x) (hv:Vis X.env.scope x) (hd:(x==("__debug__" : Str))=false:=by decide) (hcd:(x==("__classdict__" : Str))=false:=by decide):PE X (.Name x pos) (Zss i):=by
 intro pins s Z H Q I h
 obtain ⟨v,e,h⟩:=h
 obtain ⟨m,hn,hl⟩:=I.loc
 obtain ⟨u,r,l⟩:=hl i x v hN e hv
 have fin:EP X pins Z Q u s:=⟨v,H,I,r,h⟩
 rcases l with ⟨hk,hm⟩|⟨hk,c,hc,hcell⟩
 . exact wpAny_Name (wpAny_loadName_local I.ok.kind hk hn hm fin) hd
 . rcases hk with hk|hk
   . exact wpAny_Name (wpAny_loadName_cell I.ok.kind hk hc hcell fin) hd
   . exact wpAny_Name (wpAny_loadName_free I.ok.kind hk hc hcell fin hcd) hd
theorem Zlm{i j pos}:PE X (.Constant (.int i) j pos) (tC (.int i)):=fun _ _ _ H _ I h=>wpAny_Constant_int ⟨.int i,H,I.tok _,⟨_,rfl⟩,h⟩
theorem Zrl{b j pos}:PE X (.Constant (.bool b) j pos) (tC (.bl b)):=fun _ _ _ H _ I h=>Constant_bool ⟨.bl b,H,I,rfl,h⟩
theorem ZpA{j pos}:PE X (.Constant .none j pos) (tC .non):=fun _ _ _ H _ I h=>Constant_none ⟨.non,H,I,rfl,h⟩
theorem Zpy{x j pos}:PE X (.Constant (.str x) j pos) (tC (.str x)):=fun _ _ _ H _ I h=>Calls.Constant_str ⟨.str x,H,I.tok _,⟨_,rfl⟩,h⟩
noncomputable def Gl(X:Cx)(x:Str):Prop:=X.env.kindOf x=some .globalImplicit
theorem ZeO{E:Value->Shared->Prop}{pins:List (Addr×Obj)}{s:Shared}{Z:St}{H:Hp}{x:Str}{u:Value}{pos:Pos}{Q:Value->Shared->Prop}(I:Inv X pins Z H s)(hg:Gl X x)(hm:X.mg x=some u)(h:Q u s)
   (hd:(x==("__debug__" : Str))=false:=by decide):wpAny (model X.prog X.w) X.A (eval (.Name x pos) X.env) Q E s :=
 Calls.Name_function_global I.ok.kind hg (Calls.loadGlobal_global (by rw [I.ok.glob];exact I.mod.glob.keeps I.bk) hm h) hd
theorem ZbS{E:Value->Shared->Prop}{pins:List (Addr×Obj)}{s:Shared}{Z:St}{H:Hp}{x:Str}{u:Value}{pos:Pos}{Q:Value->Shared->Prop}(I:Inv X pins Z H s)(hg:Gl X x)(hm:X.mg x=none)(hv:bootBuiltins x=some u)(h:Q u s)
   (hn:x ≠ "__name__" := by decide) (hd:(x==("__debug__" : Str))=false:=by decide):wpAny (model X.prog X.w) X.A (eval (.Name x pos) X.env) Q E s:=by
 obtain ⟨mb,h1,h2⟩:=I.mod.blt
 exact Calls.Name_function_global I.ok.kind hg (Calls.loadGlobal_builtin (by rw [I.ok.glob];exact I.mod.glob.keeps I.bk) hm (by rw [I.ok.blt];exact h1.keeps I.bk) ((h2 x hn).trans hv) h) hd
theorem Zns {x:Str}{v:V}{u:Value}{pos:Pos} (hg:Gl X x) (hm:X.mg x=some u) (r:RelV v u) (hd:(x==("__debug__" : Str))=false:=by decide):PE X (.Name x pos) (tC v) :=
 fun _ _ _ H _ I h=>ZeO I hg hm ⟨v,H,I,r,h⟩ hd
theorem Znx {x:Str}{v:V}{u:Value}{pos:Pos} (hg:Gl X x) (hm:X.mg x=none) (hv:bootBuiltins x=some u) (r:RelV v u) (hn:x ≠ "__name__" := by decide) (hd:(x==("__debug__" : Str))=false:=by decide):PE X (.Name x pos) (tC v) :=
 fun _ _ _ H _ I h=>ZbS I hg hm hv ⟨v,H,I,r,h⟩ hn hd
variable {a b:Expr}{ta tb:TE}{pos:Pos}
variable {tA tB':TT}{rest:List Expr}
noncomputable def ZsF(t u:TT):TT:=fun Z H Q=>t Z H fun c H1=>if c=true then u Z H1 Q else Q false H1
noncomputable def tOr(t u:TT):TT:=fun Z H Q=>t Z H fun c H1=>if c=true then Q true H1 else u Z H1 Q
noncomputable def Zsx(t:TT):TT:=fun Z H Q=>t Z H fun c H1=>Q (!c) H1
theorem Znc(ha:PT X a tA):PW X (.BoolOp .And [a] pos) tA:=by
 intro wh pins s Z H Q I h
 refine isTrue_and (thn (ha pins s Z H Q I h) fun c s1 e=>?_)
 cases c with
 | true=>exact isTrue_and_nil e
 | false=>exact e
theorem Zpl(ha:PT X a tA):PW X (.BoolOp .Or [a] pos) tA:=by
 intro wh pins s Z H Q I h
 refine isTrue_or (thn (ha pins s Z H Q I h) fun c s1 e=>?_)
 cases c with
 | false=>exact isTrue_or_nil e
 | true=>exact e
theorem Zpm(ha:PT X a tA)(hb:PW X (.BoolOp .And (b::rest) pos) tB'):PW X (.BoolOp .And (a::b::rest) pos) (ZsF tA tB'):=by
 intro wh pins s Z H Q I h
 refine isTrue_and (thn (ha pins s Z H _ I h) fun c s1 ⟨H1,I1,q1⟩=>?_)
 cases c with
 | true=>exact hb wh pins s1 Z H1 Q I1 q1
 | false=>exact ⟨H1,I1,q1⟩
theorem Zrd(ha:PT X a tA)(hb:PW X (.BoolOp .Or (b::rest) pos) tB'):PW X (.BoolOp .Or (a::b::rest) pos) (tOr tA tB'):=by
 intro wh pins s Z H Q I h
 refine isTrue_or (thn (ha pins s Z H _ I h) fun c s1 ⟨H1,I1,q1⟩=>?_)
 cases c with
 | true=>exact ⟨H1,I1,q1⟩
 | false=>exact hb wh pins s1 Z H1 Q I1 q1
theorem Zpo(ha:PT X a tA):PT X (.UnaryOp .Not a pos) (Zsx tA):=by
 intro pins s Z H Q I h
 exact isTrue_not (ha pins s Z H (fun c H1=>Q (!c) H1) I h)
noncomputable def ZqY(ta tb:TE):TE:=fun Z H Q=>ta Z H fun x H1=>∃ c,x=.bl c/\if c=true then tb Z H1 Q else Q (.bl false) H1
noncomputable def Zsw(ta tb:TE):TE:=fun Z H Q=>ta Z H fun x H1=>∃ c,x=.bl c/\if c=true then Q (.bl true) H1 else tb Z H1 Q
noncomputable def ZqR(ta:TE):TE:=fun Z H Q=>ta Z H fun x H1=>∃ c,x=.bl c/\Q (.bl (!c)) H1
theorem Zlj{op}{t:TE}(h:PE X a t):PE X (.BoolOp op [a] pos) t:=fun pins s Z H Q I hw=>BoolOp_one (h pins s Z H Q I hw)
theorem ZpF(ha:PE X a ta)(hb:PE X (.BoolOp .And (b::rest) pos) tb):PE X (.BoolOp .And (a::b::rest) pos) (ZqY ta tb):=by
 intro pins s Z H Q I h
 refine BoolOp_and (thn (ha pins s Z H _ I h) fun v s1 ⟨x,H1,I1,r1,q1⟩=>?_)
 obtain ⟨c,rfl,q1⟩:=q1
 cases r1
 refine wpAny_truthy_bool ?_
 cases c with
 | true=>exact hb pins s1 Z H1 Q I1 q1
 | false=>exact ⟨.bl false,H1,I1,rfl,q1⟩
theorem Zrh(ha:PE X a ta)(hb:PE X (.BoolOp .Or (b::rest) pos) tb):PE X (.BoolOp .Or (a::b::rest) pos) (Zsw ta tb):=by
 intro pins s Z H Q I h
 refine BoolOp_or (thn (ha pins s Z H _ I h) fun v s1 ⟨x,H1,I1,r1,q1⟩=>?_)
 obtain ⟨c,rfl,q1⟩:=q1
 cases r1
 refine wpAny_truthy_bool ?_
 cases c with
 | false=>exact hb pins s1 Z H1 Q I1 q1
 | true=>exact ⟨.bl true,H1,I1,rfl,q1⟩
theorem Zpz(ha:PE X a ta):PE X (.UnaryOp .Not a pos) (ZqR ta):=by
 intro pins s Z H Q I h
 refine UnaryOp_ (thn (ha pins s Z H _ I h) fun v s1 ⟨x,H1,I1,r1,q1⟩=>?_)
 obtain ⟨c,rfl,q1⟩:=q1
 cases r1
 exact not_of (wpAny_truthy_bool ⟨.bl (!c),H1,I1,rfl,q1⟩)
noncomputable def tIf(t:TT)(ta tb:TE):TE:=fun Z H Q=>t Z H fun c H1=>if c=true then ta Z H1 Q else tb Z H1 Q
theorem Zln{c:Expr}(hc:PT X c tA)(ha:PE X a ta)(hb:PE X b tb):PE X (.IfExp c a b pos) (tIf tA ta tb):=by
 intro pins s Z H Q I h
 refine wpAny_IfExp (thn (hc pins s Z H _ I h) fun d s1 ⟨H1,I1,q1⟩=>?_)
 cases d with
 | true=>exact ha pins s1 Z H1 Q I1 q1
 | false=>exact hb pins s1 Z H1 Q I1 q1
end
end L2
namespace L2
open PySem PySem.Spec PyProof.Rows
noncomputable def SqL(K:PySem.W.Frag)(H:Hp)(a:Addr)(xs:List V):Prop :=
 Rd H a (.lst xs) \/
   ∃ (o:Obj) (its:Array Value) (n:Nat),K.lookup a=some o/\o.cls=.type "list" /\ o.dict=none/\o.data=.seq its n/\its.size<=sizeLine/\Zi xs its.toList
noncomputable def SqT(K:PySem.W.Frag)(H:Hp)(a:Addr)(xs:List V):Prop :=
 Rd H a (.tup xs) \/
   ∃ (o:Obj) (its:Array Value) (n:Nat),K.lookup a=some o/\o.cls=.type "tuple" /\ o.data=.seq its n/\its.size<=sizeLine/\Zi xs its.toList
noncomputable def Ztk:Value->Option V
 | .none=>some .non
 | .bool b=>some (.bl b)
 | .int i _=>some (.int i)
 | .str x _=>some (.str x)
 | .bytes b _=>some (.byt b)
 | .float b _=>some (.flt b)
 | .ref a=>some (.ref a)
 | .type n=>some (.ty n)
 | _=>none
theorem RelV.abs{x:V}{u:Value}(r:RelV x u):Ztk u=some x:=by
 cases x with
 | non=>cases r;rfl
 | bl _=>cases r;rfl
 | int _=>obtain ⟨t,rfl⟩:=r;rfl
 | str _=>obtain ⟨t,rfl⟩:=r;rfl
 | byt _=>obtain ⟨t,rfl⟩:=r;rfl
 | flt _=>obtain ⟨t,rfl⟩:=r;rfl
 | ref _=>cases r;rfl
 | ty _=>cases r;rfl
theorem RelV.inj{x y:V}{u:Value}(r:RelV x u)(q:RelV y u):x=y:=Option.some.inj (r.abs.symm.trans q.abs)
theorem Zi.inj:∀ {xs ys:List V}{us:List Value},Zi xs us->Zi ys us->xs=ys
 | _,_,_,.nil,.nil=>rfl
 | _,_,_,.cons r t,.cons r' t'=>by rw [r.inj r',Zi.inj t t']
section
variable {X:Cx}{pins:List (Addr×Obj)}{Z:St}{H:Hp}{s:Shared}{a:Addr}{xs ys:List V}
theorem SqL.of{K:PySem.W.Frag}(h:H a=some (.lst xs)):SqL K H a xs:=.inl (.inl h)
theorem Inv.list(I:Inv X pins Z H s)(h:SqL X.K H a xs):∃ its:List Value,Zi xs its/\PlainL s.heap a its.toArray/\xs.length<=sizeLine:=by
 rcases h with h|⟨o,its,n,hk,hc,hd,hs,hz,r⟩
 . obtain ⟨z,its,n,r,e⟩:=h.ok I.hok
   exact ⟨its,r,⟨_,n,e,rfl,rfl,rfl⟩,z⟩
 . refine ⟨its.toList,r,⟨o,n,I.kIn a o hk,hc,hd,by simpa using hs⟩,?_⟩
   have e:=r.length
   simp only [Array.length_toList] at e
   omega
theorem Inv.tuple(I:Inv X pins Z H s)(h:SqT X.K H a xs):∃ its:List Value,Zi xs its/\IsTup s.heap a its.toArray/\xs.length<=sizeLine:=by
 rcases h with h|⟨o,its,n,hk,hc,hs,hz,r⟩
 . obtain ⟨z,its,r,p⟩:=h.ok I.hok
   exact ⟨its,r,p.tup,z⟩
 . refine ⟨its.toList,r,⟨o,I.kIn a o hk,hc,n,by simpa using hs⟩,?_⟩
   have e:=r.length
   simp only [Array.length_toList] at e
   omega
theorem Inv.list_inj(I:Inv X pins Z H s)(h:SqL X.K H a xs)(h':SqL X.K H a ys):xs=ys:=by
 obtain ⟨its,r,⟨o,n,e,_,_,d⟩,_⟩:=I.list h
 obtain ⟨its',r',⟨o',n',e',_,_,d'⟩,_⟩:=I.list h'
 rw [e] at e';cases e'
 rw [d] at d'
 injection d' with d1 _
 have:its=its':=by simpa using congrArg Array.toList d1
 subst this
 exact r.inj r'
theorem Inv.tuple_inj(I:Inv X pins Z H s)(h:SqT X.K H a xs)(h':SqT X.K H a ys):xs=ys:=by
 obtain ⟨its,r,⟨o,e,_,n,d⟩,_⟩:=I.tuple h
 obtain ⟨its',r',⟨o',e',_,n',d'⟩,_⟩:=I.tuple h'
 rw [e] at e';cases e'
 rw [d] at d'
 injection d' with d1 _
 have:its=its':=by simpa using congrArg Array.toList d1
 subst this
 exact r.inj r'
end
noncomputable abbrev Cx.wish(X:Cx)(E:Value->Shared->Prop):Cx:={X with xe:=E}
noncomputable abbrev Cx.nox(X:Cx):Cx:=X.wish fun _ _=>False
theorem Cx.Ok.wish{X:Cx}(ok:X.Ok)(E:Value->Shared->Prop):(X.wish E).Ok :=
 ⟨ok.mod,ok.kind,ok.glob,ok.blt,ok.above,ok.inj,ok.has,ok.cab,ok.hd,ok.frames,ok.stk,ok.exf,ok.bs,ok.bsz,ok.noex,ok.exfs,ok.funs,ok.frf⟩
theorem Cx.Ok.unwish{X:Cx}{E:Value->Shared->Prop}(ok:(X.wish E).Ok):X.Ok :=
 ⟨ok.mod,ok.kind,ok.glob,ok.blt,ok.above,ok.inj,ok.has,ok.cab,ok.hd,ok.frames,ok.stk,ok.exf,ok.bs,ok.bsz,ok.noex,ok.exfs,ok.funs,ok.frf⟩
section
variable {X:Cx}{pins:List (Addr×Obj)}{Z:St}{H:Hp}{s:Shared}{E:Value->Shared->Prop}
theorem Inv.wish(I:Inv X pins Z H s)(E:Value->Shared->Prop):Inv (X.wish E) pins Z H s:=⟨I.ok.wish E,I.os,I.bare,I.base,I.loc,I.cell,I.free,I.freeC,I.pin,I.hok,I.len⟩
theorem Inv.unwish(I:Inv (X.wish E) pins Z H s):Inv X pins Z H s:=⟨I.ok.unwish,I.os,I.bare,I.base,I.loc,I.cell,I.free,I.freeC,I.pin,I.hok,I.len⟩
theorem SP.unwish{D:Ends}{f:Flow}{s':Shared}(h:SP (X.wish E) pins D f s'):SP X pins D f s':=by
 cases f with
 | next=>obtain ⟨σ',H',I,q⟩:=h;exact ⟨σ',H',I.unwish,q⟩
 | brk=>obtain ⟨σ',H',I,q⟩:=h;exact ⟨σ',H',I.unwish,q⟩
 | cont=>obtain ⟨σ',H',I,q⟩:=h;exact ⟨σ',H',I.unwish,q⟩
 | ret u=>obtain ⟨v,σ',H',I,r,q⟩:=h;exact ⟨v,σ',H',I.unwish,r,q⟩
theorem PSs.nox{st:List Stmt}{t:TS}(h:PSs X.nox st t):PSs X st t:=fun pins s Z H D I hw =>
 wpAny_mono (h pins s Z H D (I.wish _) hw) (fun _ _ q=>q.unwish) fun _ _ z=>False.elim z
end
section
variable {X:Cx}{st:Stmt}{rest:List Stmt}{t u:TS}{e:Expr}{te:TE}{pos:Pos}
noncomputable def Zou:TS:=fun D Z H=>D.nx Z H
noncomputable def Zsu(t u:TS):TS:=fun D Z H=>t {D with nx:=u D} Z H
theorem Znf:PSs X [] Zou:=fun _ _ Z H _ I h=>wpAny_execs_nil ⟨Z,H,I,h⟩
theorem Zk8(h1:PS X st t)(h2:PSs X rest u):PSs X (st::rest) (Zsu t u):=by
 intro pins s Z H D I h
 refine wpAny_execs_cons (thn (h1 pins s Z H {D with nx:=u D} I h) fun f s1 q=>?_)
 cases f with
 | next =>
   obtain ⟨σ',H',I',q⟩:=q
   exact h2 pins s1 σ' H' D I' q
 | ret v=>exact q
 | brk=>exact q
 | cont=>exact q
noncomputable def Zpa:TS:=fun D Z H=>D.bk Z H
noncomputable def ZqV:TS:=fun D Z H=>D.ct Z H
theorem Zng:PS X (.Pass pos) Zou:=fun _ _ Z H _ I h=>wpAny_Pass ⟨Z,H,I,h⟩
theorem Zlb:PS X (.Break pos) Zpa:=fun _ _ Z H _ I h=>wpAny_Break ⟨Z,H,I,h⟩
theorem Zhg:PS X (.Continue pos) ZqV:=fun _ _ Z H _ I h=>wpAny_Continue ⟨Z,H,I,h⟩
theorem Inv.quiet{pins:List (Addr×Obj)}{Z:St}{H:Hp}{s:Shared}(I:Inv X pins Z H s):interactive X.env=false:=by simp [interactive,I.ok.kind]
noncomputable def ZqT(te:TE):TS:=fun D Z H=>te Z H fun _ H1=>D.nx Z H1
theorem Znh(he:PE X e te)(hs:swapsWith e none pos.line X.env=pure false:=by rfl):PS X (.Expr e pos) (ZqT te):=by
 intro pins s Z H D I h
 exact wpAny_Expr_any (thn (he pins s Z H _ I h) fun v s1 ⟨x,H1,I1,r1,q1⟩=>⟨Z,H1,I1,q1⟩) I.quiet hs
noncomputable def Zsv(te:TE):TS:=fun D Z H=>te Z H D.rt
theorem Zpp(he:PE X e te):PS X (.Return (some e) pos) (Zsv te):=by
 intro pins s Z H D I h
 exact wpAny_Return_some (thn (he pins s Z H _ I h) fun v s1 ⟨x,H1,I1,r1,q1⟩=>⟨x,Z,H1,I1,r1,q1⟩)
noncomputable def Zsz(c:TT)(t u:TS):TS:=fun D Z H=>c Z H fun b H1=>if b=true then t D Z H1 else u D Z H1
theorem Zre{c:Expr}{a b:List Stmt}{tc:TT}(hc:PT X c tc)(ha:PSs X a t)(hb:PSs X b u):PS X (.If c a b pos) (Zsz tc t u):=by
 intro pins s Z H D I h
 refine wpAny_If (thn (hc pins s Z H _ I h) fun d s1 ⟨H1,I1,q1⟩=>?_)
 cases d with
 | true=>exact ha pins s1 Z H1 D I1 q1
 | false=>exact hb pins s1 Z H1 D I1 q1
end
noncomputable abbrev TG:=V->St->Hp->(St->Hp->Prop)->Prop
noncomputable abbrev TGs:=List V->St->Hp->(St->Hp->Prop)->Prop
noncomputable def PG(X:Cx)(target:Expr)(t:TG):Prop :=
 ∀ (pins:List (Addr×Obj)) (s:Shared) (Z:St) (H:Hp) (v:V) (u:Value) (Q:St->Hp->Prop),Inv X pins Z H s->RelV v u->t v Z H Q ->
   wpAny (model X.prog X.w) X.A (assign target X.env u) (fun _ s'=>∃ σ' H',Inv X pins σ' H' s'/\Q σ' H') X.xe s
noncomputable def PGs(X:Cx)(ts:List Expr)(t:TGs):Prop :=
 ∀ (pins:List (Addr×Obj)) (s:Shared) (Z:St) (H:Hp) (vs:List V) (us:List Value) (Q:St->Hp->Prop),Inv X pins Z H s->Zi vs us->t vs Z H Q ->
   wpAny (model X.prog X.w) X.A (assignInOrder ((assignEach ts X.env).map (·.2)) us) (fun _ s'=>∃ σ' H',Inv X pins σ' H' s'/\Q σ' H') X.xe s
noncomputable abbrev ZmH:=V->V->V->Hp->(Hp->Prop)->Prop
noncomputable def Zoo(X:Cx)(t:ZmH):Prop :=
 ∀ (pins:List (Addr×Obj)) (s:Shared) (Z:St) (H:Hp) (o i v:V) (ov iv u:Value) (Q:Hp->Prop),Inv X pins Z H s->RelV o ov->RelV i iv->RelV v u->t o i v H Q ->
   wpAny (model X.prog X.w) X.A (setItem ov iv u) (fun _ s'=>∃ H',Inv X pins Z H' s'/\Q H') X.xe s
noncomputable abbrev TIp:=V->V->Hp->VK->Prop
noncomputable def PIp(X:Cx)(op:Operator)(t:TIp):Prop :=
 ∀ (pins:List (Addr×Obj)) (s:Shared) (Z:St) (H:Hp) (x y:V) (v u:Value) (Q:VK),Inv X pins Z H s->RelV x v->RelV y u->t x y H Q ->
   wpAny (model X.prog X.w) X.A (inplaceOp op v u) (EP X pins Z Q) X.xe s
section
variable {X:Cx}{pos:Pos}
noncomputable def Zdg(i:Nat):TG:=fun v Z H Q=>Q (Z.set i (some v)) H
theorem ZeK{i:Nat}{x:Str}(hN:X.N.Nodup)(hi:X.N[i]? = some x)(hx:Loc X.env.scope x)(hf:X.fn x=true\/X.env.scope.names.lookup x=some .local:=by first|exact .inl rfl|exact .inr rfl|assumption):PG X (.Name x pos) (Zdg i):=by
 intro pins s Z H v u Q I r h
 exact wpAny_assign_Name (ZeX I hN hi hx r (fun s' I'=>⟨_,H,I',h⟩) hf)
noncomputable def Zn5:TGs:=fun vs Z H Q=>vs=[]/\Q Z H
noncomputable def Zhy(t:TG)(u:TGs):TGs:=fun vs Z H Q=>∃ v r,vs=v::r/\t v Z H fun σ' H'=>u r σ' H' Q
theorem Zjn:PGs X [] Zn5:=by
 intro pins s Z H vs us Q I r h
 obtain ⟨e,h⟩:=h
 subst e
 cases r
 exact assignInOrder_nil ⟨Z,H,I,h⟩
theorem Zfe{e:Expr}{es:List Expr}{t:TG}{u:TGs}(h1:PG X e t)(h2:PGs X es u)
   (hs:(assignEach (e::es) X.env).map (·.2)=assign e X.env::(assignEach es X.env).map (·.2):=by rfl):PGs X (e::es) (Zhy t u):=by
 intro pins s Z H vs us Q I r h
 obtain ⟨v,vr,e1,h⟩:=h
 subst e1
 cases r with
 | cons r rr =>
   rw [hs]
   refine assignInOrder_cons (thn (h1 pins s Z H _ _ _ I r h) fun _ s1 ⟨σ1,H1,I1,q1⟩=>?_)
   exact h2 pins s1 σ1 H1 _ _ Q I1 rr q1
noncomputable def Zn4(K:PySem.W.Frag)(n:Nat)(t:TGs):TG:=fun v Z H Q=>∃ a xs,v=.ref a/\SqT K H a xs/\xs.length=n/\t xs Z H Q
theorem Zlh{es:List Expr}{k:Nat}{t:TGs}{n:Nat}(hc:X.calm=true)(h:PGs X es t)
   (hn:(assignEach es X.env).length=n:=by rfl) (hst:(assignEach es X.env).findIdx? (·.1)=none:=by rfl):PG X (.Tuple es k pos) (Zn4 X.K n t):=by
 intro pins s Z H v u Q I r hw
 obtain ⟨a,xs,e1,hq,hl,hw⟩:=hw
 subst e1
 cases r
 obtain ⟨its,rv,ht,hz⟩:=I.tuple hq
 refine assign_Tuple_tuple (I.ok.hd hc) ht (by simp [hn,<- hl,rv.length]) hst fun h' hx=>?_
 have I1:Inv X pins Z H {s with heap:=h'}:=I.kept (t':=s.toks) fun b o e=>hx b o (Ou (Heap.lt_size e)) e
 exact h pins _ Z H xs _ Q I1 (by simpa using rv) hw
noncomputable def Zs7(to ti:TE)(t:ZmH):TG:=fun v Z H Q=>to Z H fun o H1=>ti Z H1 fun i H2=>t o i v H2 fun H3=>Q Z H3
theorem Zpv{o i:Expr}{to ti:TE}{t:ZmH}(ho:PE X o to)(hi:PE X i ti)(hs:Zoo X t)
   (ha:∀ v,assign (.Subscript o i pos) X.env v=(do
     let ov <- holding [v] (eval o X.env)
     let iv <- holding [v,ov] (eval i X.env)
     standAt pos
     holding [v,ov,iv] (setItem ov iv v)
     release [v,ov,iv] []):=by intro _;rfl):PG X (.Subscript o i pos) (Zs7 to ti t):=by
 intro pins s Z H v u Q I r h
 rw [ha]
 refine wpAny_bind (wpAny_holding (thn (ho pins s Z H _ I h) fun ov s1 ⟨x,H1,I1,r1,q1⟩=>?_))
 refine wpAny_bind (wpAny_holding (thn (hi pins s1 Z H1 _ I1 q1) fun iv s2 ⟨y,H2,I2,r2,q2⟩=>?_))
 refine wpAny_bind (wpAny_standAt (wpAny_bind (wpAny_holding (thn (hs pins s2 Z H2 x y v ov iv u _ I2 r1 r2 r q2) fun _ s3 ⟨H3,I3,q3⟩=>?_))))
 exact wpAny_release ⟨Z,H3,I3,q3⟩
noncomputable def ZkJ(te:TE)(g:TG):TS:=fun D Z H=>te Z H fun x H1=>g x Z H1 D.nx
theorem Zh7{tg e:Expr}{te:TE}{g:TG}(he:PE X e te)(hg:PG X tg g)(hs:swapsWithSole [tg] e pos.line X.env=pure false:=by rfl)(hw:swappedStores [tg] e X.env=pure none:=by rfl)
   (h1:(assignEach [tg] X.env).map (·.2)=[assign tg X.env]:=by rfl):PS X (.Assign [tg] e pos) (ZkJ te g):=by
 intro pins s Z H D I h
 refine wpAny_Assign_stores (thn (he pins s Z H _ I h) fun v s1 ⟨x,H1,I1,r1,q1⟩=>?_) hs hw
 rw [h1]
 exact thn (hg pins s1 Z H1 x v _ I1 r1 q1) fun _ s2 q=>q
theorem Zla{i:Nat}{x:Str}{e:Expr}{te:TE}{pos':Pos}(hN:X.N.Nodup)(hi:X.N[i]? = some x)(hx:Loc X.env.scope x)(he:PE X e te)(hs:swapsWith e (some (.Name x pos')) pos.line X.env=pure false:=by rfl)(hf:X.fn x=true\/X.env.scope.names.lookup x=some .local:=by first|exact .inl rfl|exact .inr rfl|assumption) :
   PS X (.Assign [.Name x pos'] e pos) (ZkJ te (Zdg i)):=by
 intro pins s Z H D I h
 refine wpAny_Assign_Name (thn (he pins s Z H _ I h) fun v s1 ⟨y,H1,I1,r1,q1⟩=>?_) hs
 exact ZeX I1 hN hi hx r1 (fun s2 I2=>⟨_,H1,I2,q1⟩) hf
noncomputable def ZsE(i:Nat)(te:TE)(ti:TIp):TS:=fun D Z H=>∃ x,Z[i]? = some (some x)/\te Z H fun y H1=>ti x y H1 fun z H2=>D.nx (Z.set i (some z)) H2
theorem Zps{i:Nat}{x:Str}{e:Expr}{te:TE}{op:Operator}{ti:TIp}{pos':Pos}(hN:X.N.Nodup)(hi:X.N[i]? = some x)(hx:Loc X.env.scope x)(he:PE X e te)(ho:PIp X op ti)(hf:X.fn x=true\/X.env.scope.names.lookup x=some .local:=by first|exact .inl rfl|exact .inr rfl|assumption) :
   PS X (.AugAssign (.Name x pos') op e pos) (ZsE i te ti):=by
 intro pins s Z H D I h
 obtain ⟨v,e1,h⟩:=h
 obtain ⟨m,hn,hl⟩:=I.loc
 have vis:Vis X.env.scope x:=by rcases hx with k|k;exact .inl k;exact .inr (.inl k)
 obtain ⟨u,r,l⟩:=hl i x v hi e1 vis
 refine wpAny_AugAssign_Name ?_
 have go:wpAny (model X.prog X.w) X.A (eval e X.env) (fun w s₂=>wpAny (model X.prog X.w) X.A (inplaceOp op u w) (fun r s₃=>wpAny (model X.prog X.w) X.A (storeName X.env x r) (fun _=>SP X pins D .next) X.xe s₃) X.xe s₂) X.xe s:=by
   refine thn (he pins s Z H _ I h) fun w s1 ⟨y,H1,I1,r1,q1⟩=>?_
   refine thn (ho pins s1 Z H1 v y u w _ I1 r r1 q1) fun z s2 ⟨zv,H2,I2,r2,q2⟩=>?_
   exact ZeX I2 hN hi hx r2 (fun s3 I3=>⟨_,H2,I3,q2⟩) hf
 rcases l with ⟨hk,hm⟩|⟨hk,c,hc,hcell⟩
 . exact wpAny_loadName_local I.ok.kind hk hn hm go
 . rcases hk with hk|hk
   . exact wpAny_loadName_cell I.ok.kind hk hc hcell go
   . rcases hx with k|k
     . have:X.env.scope.names.lookup x=some .free:=hk
       rw [k] at this;cases this
     . have:X.env.scope.names.lookup x=some .free:=hk
       rw [k] at this;cases this
noncomputable def ipI(f:Int->Int->Int):TIp:=fun x y H Q=>∃ i j,x=.int i/\y=.int j/\Q (.int (f i j)) H
theorem Zp7:PIp X .Add (ipI fun i j=>i+j):=by
 intro pins s Z H x y v u Q I r1 r2 h
 obtain ⟨i,j,e1,e2,q⟩:=h
 subst e1;subst e2
 obtain ⟨t,rfl⟩:=r1
 obtain ⟨t',rfl⟩:=r2
 exact iadd_int ⟨.int _,H,I.tok _,⟨_,rfl⟩,q⟩
end
section
variable {X:Cx}{pos:Pos}
noncomputable def Zo7(c:TT)(tb:TS):TS:=fun D Z H=>∃ W:Nat->St->Hp->Prop,(∃ m,W m Z H)/\∀ m Z H,W m Z H ->
 c Z H fun b H1=>if b=true then ∃ N:St->Hp->Prop,(∀ σ' H',N σ' H'->∃ m',m'<m/\W m' σ' H')/\tb {D with nx:=N,ct:=N,bk:=D.nx} Z H1 else D.nx Z H1
theorem Zk9{c:Expr}{body:List Stmt}{tc:TT}{tb:TS}(hp:PassesOwn (model X.prog X.w) X.A X.env X.xe)(hc:PT X c tc)(hb:PSs X body tb):PS X (.While c body [] pos) (Zo7 tc tb):=by
 intro pins s Z H D I h
 obtain ⟨W,⟨m0,w0⟩,turn⟩:=h
 refine wpAny_While (codeAny_whileLoop (fun n s'=>∃ σ' H',Inv X pins σ' H' s'/\W n σ' H') ?_ m0 ⟨Z,H,I,w0⟩)
 rintro n s1 ⟨σ1,H1,I1,w1⟩
 refine wpAny_passesOwn hp (thn (hc pins s1 σ1 H1 _ I1 (turn n σ1 H1 w1)) fun b s2 ⟨H2,I2,q2⟩=>?_)
 cases b with
 | true =>
   obtain ⟨N,hN,q2⟩:=q2
   rw [if_pos rfl]
   refine wpAny_passesOwn hp (thn (hb pins s2 σ1 H2 _ I2 q2) fun f s3 q3=>?_)
   cases f with
   | next =>
     obtain ⟨σ3,H3,I3,n3⟩:=q3
     obtain ⟨m',hm,w3⟩:=hN σ3 H3 n3
     exact ⟨m',hm,σ3,H3,I3,w3⟩
   | cont =>
     obtain ⟨σ3,H3,I3,n3⟩:=q3
     obtain ⟨m',hm,w3⟩:=hN σ3 H3 n3
     exact ⟨m',hm,σ3,H3,I3,w3⟩
   | brk=>exact q3
   | ret v=>exact q3
 | false =>
   rw [if_neg Ow]
   exact wpAny_execs_nil ⟨σ1,H2,I2,q2⟩
end
structure It where
 go:Nat->Hp->Prop
 yld:Nat->Hp->V->Hp->Prop
 stop:Nat->Hp->Prop
noncomputable def ZcP(X:Cx)(pins:List (Addr×Obj))(H:Hp)(b:Addr):Prop :=
 H b=none/\b≠X.env.locals/\b ∉ X.fs/\(b∈X.ex\/X.s₀.heap.objs.size<=b)/\(∀ x c,X.env.cells.lookup x=some c->c≠b)/\∀ p∈X.pn++pins,p.1≠b
theorem Inv.fpOk{X:Cx}{pins:List (Addr×Obj)}{Z:St}{H H':Hp}{s:Shared}{b:Addr}(I:Inv X pins Z H s)(hb:s.heap.objs.size<=b)(hn:H' b=none):ZcP X pins H' b:=by
 refine ⟨hn,Nat.ne_of_gt (Ot I.lt hb),I.nofs hb,.inr (OE I.sz hb),fun x c e z=>?_,fun p hp z=>?_⟩
 . obtain ⟨v,q⟩:=I.cell x c e
   exact absurd (Ot q.lt (by rw [z];exact hb)) (Nat.lt_irrefl _)
 . exact absurd (Ot (Heap.lt_size (I.pin p hp).1) (by rw [z];exact hb)) (Nat.lt_irrefl _)
structure Turn(P:Program)(w:World)(K:PySem.W.Frag)(tg:Expr)(J:It)(fp:List Addr)(it:Addr)(tn:Nat->Heap->Prop):Prop where
 mem:it∈fp
 obj:∀ i h,tn i h->∀ b∈fp,∃ o,h.get? b=some o/\∀ v,o.data≠.cell v
 keep:∀ i h h',tn i h->(∀ b∈fp,∀ o,h.get? b=some o->h'.get? b=some o)->tn i h'
 item:∀ (X:Cx),X.prog=P->X.w=w->X.K=K->X.calm=true->∀ (i:Nat) (pins:List (Addr×Obj)) (s:Shared) (Z:St) (H:Hp) (E:Value->Shared->Prop),Inv X pins Z H s->(∀ b∈fp,ZcP X pins H b)->tn i s.heap->J.go i H ->
   wpAny (model P w) X.A (pyNext (.ref it)) (fun r s1=>∃ u,r=some u /\
     wpAny (model P w) X.A (letOwnedTupleGo tg (.ref it) u) (fun _ s2=>∃ x H',Inv X pins Z H' s2/\RelV x u/\J.yld i H x H'/\tn (i+1) s2.heap/\∀ b∈fp,H' b=none) E s1) E s
 done:∀ (X:Cx),X.prog=P->X.w=w->X.K=K->X.calm=true->∀ (i:Nat) (pins:List (Addr×Obj)) (s:Shared) (Z:St) (H:Hp) (E:Value->Shared->Prop),Inv X pins Z H s->(∀ b∈fp,ZcP X pins H b)->tn i s.heap->J.stop i H ->
   wpAny (model P w) X.A (pyNext (.ref it)) (fun r s1=>r=none/\Inv X pins Z H s1) E s
 self:∀ (A:Around) (i:Nat) (s:Shared) (Q:Value->Shared->Prop) (E:Value->Shared->Prop),tn i s.heap->Q (.ref it) s->wpAny (model P w) A (pyIter (.ref it)) Q E s
noncomputable abbrev TI:=St->Hp->(It->Hp->Prop)->Prop
noncomputable def PIE(X:Cx)(pins:List (Addr×Obj))(Z:St)(tg:Expr)(R:It->Hp->Prop)(itv:Value)(s2:Shared):Prop :=
 ∃ (it:Addr) (fp:List Addr) (tn:Nat->Heap->Prop) (J:It) (H':Hp),itv=.ref it/\Inv X pins Z H' s2/\Turn X.prog X.w X.K tg J fp it tn/\tn 0 s2.heap/\(∀ b∈fp,ZcP X pins H' b)/\R J H'
noncomputable def PI(X:Cx)(tg iter:Expr)(wi:TI):Prop :=
 ∀ (pins:List (Addr×Obj)) (s:Shared) (Z:St) (H:Hp) (R:It->Hp->Prop),Inv X pins Z H s->wi Z H R ->
   wpAny (model X.prog X.w) X.A (eval iter X.env) (fun v s1=>wpAny (model X.prog X.w) X.A (pyIter v) (PIE X pins Z tg R) X.xe s1) X.xe s
theorem Zf7{M:Model}{A:Around}{E:Value->Shared->Prop}{s:Shared}{tg:Expr}{it:Addr}{u:Value}{o:Obj}{n:String}{vs:Array Value}{Q:Unit->Shared->Prop}(ho:s.heap.get? it=some o)(hc:o.cls=.type n)(hd:o.data=.fields vs)
   (hn:["enumerate", "zip", "dict_itemiterator", "dict_reverseitemiterator", "odict_iterator", "itertools.zip_longest", "itertools.pairwise"].contains n=false) (hQ:Q () s):wpAny M A (letOwnedTupleGo tg (.ref it) u) Q E s:=by
 unfold letOwnedTupleGo
 cases tg<;>first
   | exact wpAny_pure hQ
   | (cases u<;>first
       | exact wpAny_pure hQ
       | (refine wpAny_bind (wpAny_load ho ?_)
          rw [hc,hd]
          show wpAny M A (if (["enumerate", "zip", "dict_itemiterator", "dict_reverseitemiterator", "odict_iterator", "itertools.zip_longest", "itertools.pairwise"].contains n&&vs[0]?==some (rawInt _))=true then _ else _) Q E s
          rw [if_neg (by intro h;rw [hn,Bool.false_and] at h;cases h)]
          exact wpAny_pure hQ))
noncomputable def Itl(K:PySem.W.Frag)(a:Addr):It :=
 ⟨fun i H=>∃ xs x,SqL K H a xs/\xs[i]? = some x,fun i H x H'=>H'=H/\∀ xs,SqL K H a xs->xs[i]? = some x,fun i H=>∃ xs,SqL K H a xs/\xs.length<=i⟩
noncomputable def Itt(K:PySem.W.Frag)(a:Addr):It :=
 ⟨fun i H=>∃ xs x,SqT K H a xs/\xs[i]? = some x,fun i H x H'=>H'=H/\∀ xs,SqT K H a xs->xs[i]? = some x,fun i H=>∃ xs,SqT K H a xs/\xs.length<=i⟩
noncomputable def Itr(lo:Int)(n:Nat):It:=⟨fun i _=>i<n,fun i H x H'=>H'=H/\x=.int (lo+i),fun i _=>n<=i⟩
theorem ZjS{P:Program}{w:World}{K:PySem.W.Frag}{tg:Expr}(a it:Addr):Turn P w K tg (Itl K a) [it] it (fun i h=>h.IsListIter it a i) where
 mem:=by simp
 obj:=fun i h st b hb=>by
   have e:b=it:=by simpa using hb
   subst e
   obtain ⟨o,e,c,d⟩:=st
   exact ⟨o,e,fun v z=>by rw [d] at z;cases z⟩
 keep:=fun i h h' st k=>st.at fun o e=>k it (by simp) o e
 item:=by
   intro X hP hw hK hc i pins s Z H E I hf st hg
   subst hP hw hK
   obtain ⟨xs,x,hq,hx⟩:=hg
   obtain ⟨its,rv,p,hz⟩:=I.list hq
   obtain ⟨u,hu,ru⟩:=rv.get hx
   obtain ⟨f0,f1,f2,f3,f4,f5⟩:=hf it (by simp)
   refine wpAny_pyNext_list_item st p.isList (x:=u) (by simpa using hu) fun h' st' sb=>?_
   have I1:Inv X pins Z H {s with heap:=h'}:=I.turned (t':=s.toks) (fun b o hb e=>(sb.2 b hb).trans e) f0 f1 f3 f4 f5
   obtain ⟨o,e,c,d⟩:=id st'
   exact ⟨u,rfl,Zf7 (s:={s with heap:=h'}) e c d (by decide) ⟨x,H,I1,ru,⟨rfl,fun ys hy=>by rw [I.list_inj hy hq];exact hx⟩,st',fun b hb=>(hf b hb).1⟩⟩
 done:=by
   intro X hP hw hK hc i pins s Z H E I hf st hg
   subst hP hw hK
   obtain ⟨xs,hq,hx⟩:=hg
   obtain ⟨its,rv,p,hz⟩:=I.list hq
   obtain ⟨f0,f1,f2,f3,f4,f5⟩:=hf it (by simp)
   have hl:=rv.length
   exact wpAny_pyNext_list_end (I.ok.hd hc) st p.isList (by simp;omega) fun h' eb=>⟨rfl,I.turned (t':=s.toks) (fun b o hb e=>eb b o hb e) f0 f1 f3 f4 f5⟩
 self:=fun _ _ _ _ _ st h=>wpAny_pyIter_listiter st h
theorem ZhX{P:Program}{w:World}{K:PySem.W.Frag}{tg:Expr}(a it:Addr):Turn P w K tg (Itt K a) [it] it (fun i h=>h.IsTupleIter it a i) where
 mem:=by simp
 obj:=fun i h st b hb=>by
   have e:b=it:=by simpa using hb
   subst e
   obtain ⟨o,e,c,d⟩:=st
   exact ⟨o,e,fun v z=>by rw [d] at z;cases z⟩
 keep:=fun i h h' st k=>st.at fun o e=>k it (by simp) o e
 item:=by
   intro X hP hw hK hc i pins s Z H E I hf st hg
   subst hP hw hK
   obtain ⟨xs,x,hq,hx⟩:=hg
   obtain ⟨its,rv,p,hz⟩:=I.tuple hq
   obtain ⟨u,hu,ru⟩:=rv.get hx
   obtain ⟨f0,f1,f2,f3,f4,f5⟩:=hf it (by simp)
   refine wpAny_pyNext_tuple_item st (show s.heap.IsTuple a its.toArray from p) (x:=u) (by simpa using hu) fun h' st' sb=>?_
   have I1:Inv X pins Z H {s with heap:=h'}:=I.turned (t':=s.toks) (fun b o hb e=>(sb.2 b hb).trans e) f0 f1 f3 f4 f5
   obtain ⟨o,e,c,d⟩:=id st'
   exact ⟨u,rfl,Zf7 (s:={s with heap:=h'}) e c d (by decide) ⟨x,H,I1,ru,⟨rfl,fun ys hy=>by rw [I.tuple_inj hy hq];exact hx⟩,st',fun b hb=>(hf b hb).1⟩⟩
 done:=by
   intro X hP hw hK hc i pins s Z H E I hf st hg
   subst hP hw hK
   obtain ⟨xs,hq,hx⟩:=hg
   obtain ⟨its,rv,p,hz⟩:=I.tuple hq
   obtain ⟨f0,f1,f2,f3,f4,f5⟩:=hf it (by simp)
   have hl:=rv.length
   exact wpAny_pyNext_tuple_end (I.ok.hd hc) st (show s.heap.IsTuple a its.toArray from p) (by simp;omega) fun h' eb=>⟨rfl,I.turned (t':=s.toks) (fun b o hb e=>eb b o hb e) f0 f1 f3 f4 f5⟩
 self:=fun _ _ _ _ _ st h=>wpAny_pyIter_tupleiter st h
theorem ZhY{P:Program}{w:World}{K:PySem.W.Frag}{tg:Expr}(it:Addr)(lo:Int)(n:Nat):Turn P w K tg (Itr lo n) [it] it (fun i h=>IsRangeIter h it (lo+(i:Nat) * 1) ((n:Int) - (i:Nat)) 1) where
 mem:=by simp
 obj:=fun i h st b hb=>by
   have e:b=it:=by simpa using hb
   subst e
   exact ⟨_,st,fun v z=>by
     have z':Data.fields _=Data.cell v:=z
     cases z'⟩
 keep:=fun i h h' st k=>k it (by simp) _ st
 item:=by
   intro X hP hw hK hc i pins s Z H E I hf st hg
   subst hP hw hK
   obtain ⟨f0,f1,f2,f3,f4,f5⟩:=hf it (by simp)
   have W:=Walks.range (prog:=X.prog) (w:=X.w) (I.ok.hd hc) it lo 1 n
   refine W.item i s _ _ hg st fun v h' tk hv st' kk=>?_
   obtain ⟨t,rfl⟩:=hv
   have I1:Inv X pins Z H {s with heap:=h',toks:=tk}:=I.turned (fun b o hb e=>kk b o (by simpa using hb) e) f0 f1 f3 f4 f5
   refine ⟨_,rfl,Zf7 (s:={s with heap:=h',toks:=tk}) (n := "range_iterator") st' rfl rfl (by decide) ⟨.int (lo+i),H,I1,⟨t,?_⟩,⟨rfl,rfl⟩,st',fun b hb=>(hf b hb).1⟩⟩
   rw [Int.mul_one]
 done:=by
   intro X hP hw hK hc i pins s Z H E I hf st hg
   subst hP hw hK
   obtain ⟨f0,f1,f2,f3,f4,f5⟩:=hf it (by simp)
   exact wpAny_pyNext_range_end (I.ok.hd hc) st (by have:n<=i:=hg;omega) fun h' eb=>⟨rfl,I.turned (t':=s.toks) (fun b o hb e=>eb b o hb e) f0 f1 f3 f4 f5⟩
 self:=fun _ _ _ _ _ st h=>wpAny_pyIter_rangeiter st h
end L2
namespace L2
open PySem PySem.Spec PyProof.Rows
section
variable {X:Cx}{tg:Expr}
theorem ZkU{pins:List (Addr×Obj)}{Z:St}{H:Hp}{s:Shared}{R:It->Hp->Prop}{E:Value->Shared->Prop}{lo hi:Int}{t u v:Tok}{tk:Nat}(I:Inv X pins Z H s)(h1:-(2 ^ 62)<=lo)(h2:lo<2 ^ 62)(h3:-(2 ^ 62)<=hi)(h4:hi<2 ^ 62)
   (q:R (Itr lo (hi - lo).toNat) H):wpAny (model X.prog X.w) X.A (pyIter (.ref s.heap.objs.size)) (PIE X pins Z tg R) E {s with heap:=s.heap.push {cls:=.type "range",data:=.fields #[.int lo t,.int hi u,.int 1 v]},toks:=tk}:=by
 refine wpAny_pyIter_range (IsRange.new ..) (small_one h1 h2 h3 h4) ?_
 have I1:Inv X pins Z H {s with heap:=s.heap.push {cls:=.type "range",data:=.fields #[.int lo t,.int hi u,.int 1 v]},toks:=tk}:=I.kept fun b o e=>Od _ e
 refine ⟨(s.heap.push {cls:=.type "range",data:=.fields #[.int lo t,.int hi u,.int 1 v]}).objs.size,[(s.heap.push {cls:=.type "range",data:=.fields #[.int lo t,.int hi u,.int 1 v]}).objs.size],_,_,H,rfl,
   I1.kept (t':=tk) fun b o e=>Od _ e,ZhY _ lo (hi - lo).toNat,?_,fun b hb=>?_,q⟩
 . have e1:lo+((0:Nat):Int) * 1=lo:=by simp
   have e2:(((hi - lo).toNat:Nat):Int) - ((0:Nat):Int)=Builtin.Range.rangeSize lo hi 1:=by rw [rangeSize_one];split<;>omega
   show IsRangeIter _ _ (lo+((0:Nat):Int) * 1) ((((hi - lo).toNat:Nat):Int) - ((0:Nat):Int)) 1
   rw [e1,e2]
   exact Oj _ rfl
 . have e:b=(s.heap.push {cls:=.type "range",data:=.fields #[.int lo t,.int hi u,.int 1 v]}).objs.size:=by simpa using hb
   subst e
   exact I1.fpOk (Oq _) (I1.hok.fresh (Oq _))
noncomputable def ZrL(ta:TA):TI:=fun Z H R=>ta Z H fun vs H1=>∃ j:Int,vs=[.int j]/\-(2 ^ 62)<=j/\j<2 ^ 62/\R (Itr 0 j.toNat) H1
theorem Zj8 {a:Expr}{ta:TA}{p pos:Pos} (hg:Gl X "range") (hm:X.mg "range" = none) (ha:PA X [a] ta) (hs:starEach [a] X.env=[(false,eval a X.env)]:=by rfl):PI X tg (.Call (.Name "range" p) [a] [] pos) (ZrL ta):=by
 intro pins s Z H R I h
 refine Call_ (ZbS I hg hm boot_range (PyProof.Rows.callWith_type1 (thn (ha pos pins s Z H _ I h) fun us s1 ⟨vs,H1,I1,r1,q1⟩=>?_) hs rfl))
 obtain ⟨j,e,q1,q2,q⟩:=q1
 subst e
 cases r1 with
 | cons r rr =>
   cases rr
   obtain ⟨t,rfl⟩:=r
   exact call_range_1 (ZkU I1 (by omega) (by omega) q1 q2 (by simpa using q))
noncomputable def ZsA(wi:TI)(g:TG)(tb:TS):TS:=fun D Z H=>wi Z H fun J H1=>∃ W:Nat->Nat->St->Hp->Prop,(∃ m,W 0 m Z H1)/\∀ i m Z H,W i m Z H ->
 (J.stop i H/\D.nx Z H)\/(J.go i H/\∃ N:St->Hp->Prop,(∀ σ' H',N σ' H'->∃ m',m'<m/\W (i+1) m' σ' H')/\∀ x H',J.yld i H x H'->g x Z H' fun σ2 H2=>tb {D with nx:=N,ct:=N,bk:=D.nx} σ2 H2)
noncomputable def Zd5(fp:List Addr)(h:Heap):List (Addr×Obj):=fp.filterMap fun b=>(h.get? b).map fun o=>(b,o)
theorem ZaU{fp:List Addr}{h:Heap}{b:Addr}{o:Obj}(hb:b∈fp)(e:h.get? b=some o):(b,o)∈Zd5 fp h:=List.mem_filterMap.mpr ⟨b,hb,by rw [e];rfl⟩
theorem Zkg{fp:List Addr}{h:Heap}{p:Addr×Obj}(hp:p∈Zd5 fp h):p.1∈fp/\h.get? p.1=some p.2:=by
 obtain ⟨b,hb,e⟩:=List.mem_filterMap.mp hp
 cases q:h.get? b with
 | none=>rw [q] at e;cases e
 | some o =>
   rw [q] at e
   have e':(b,o)=p:=Option.some.inj e
   subst e'
   exact ⟨hb,q⟩
theorem Inv.pinned{pins:List (Addr×Obj)}{Z:St}{H:Hp}{s:Shared}{fp:List Addr}(I:Inv X pins Z H s)(hf:∀ b∈fp,ZcP X pins H b)(ho:∀ b∈fp,∃ o,s.heap.get? b=some o/\∀ v,o.data≠.cell v):Inv X (pins++Zd5 fp s.heap) Z H s :=
 I.pins_of fun p hp=>(OD.mp hp).elim (fun z=>I.pin p (Ov _ z)) fun z=>by
   obtain ⟨hb,e⟩:=Zkg z
   obtain ⟨f0,f1,f2,_⟩:=hf p.1 hb
   obtain ⟨o,e',d⟩:=ho p.1 hb
   rw [e] at e';cases e'
   exact ⟨e,f0,f1,f2,d⟩
theorem Inv.unpinned{pins pl:List (Addr×Obj)}{Z:St}{H:Hp}{s:Shared}(I:Inv X (pins++pl) Z H s):Inv X pins Z H s:=I.pins_of fun p hp=>I.pin p (Ov _ (List.mem_append_left _ hp))
theorem Zpq{iter:Expr}{body:List Stmt}{wi:TI}{g:TG}{tb:TS}{pos:Pos}(hp:PassesOwn (model X.prog X.w) X.A X.env X.xe)(hc:X.calm=true)(hi:PI X tg iter wi)(hg:PG X tg g)(hb:PSs X body tb)
   (hs:∀ x,foldedSetIterable iter X.env x=pure x:=by intro _;rfl):PS X (.For tg iter body [] pos) (ZsA wi g tb):=by
 intro pins s Z H D I h
 refine wpAny_For (thn (hi pins s Z H _ I h) fun v s1 h1=>thn h1 fun itv s2 h2=>?_) hs
 obtain ⟨it,fp,tn,J,H2,e,I2,T,st2,f2,W,⟨m0,w0⟩,turn⟩:=h2
 subst e
 have stat:∀ {H':Hp},(∀ b∈fp,H' b=none)->∀ b∈fp,ZcP X pins H' b:=fun hn b hb=>⟨hn b hb,(f2 b hb).2⟩
 refine codeAny_forLoop_any (fun n s'=>∃ i σ' H',Inv X pins σ' H' s'/\tn i s'.heap/\(∀ b∈fp,H' b=none)/\W i n σ' H') ?_ m0 ⟨0,Z,H2,I2,st2,fun b hb=>(f2 b hb).1,w0⟩
 rintro n s3 ⟨i,σ3,H3,I3,st3,fr3,w3⟩
 rcases turn i n σ3 H3 w3 with ⟨stop,qn⟩|⟨go,N,hN,step⟩
 . refine wpAny_passesOwn hp (thn (T.done X rfl rfl rfl hc i pins s3 σ3 H3 X.xe I3 (stat fr3) st3 stop) fun r s4 ⟨hr,I4⟩=>?_)
   subst hr
   exact wpAny_execs_nil ⟨σ3,H3,I4,qn⟩
 . refine wpAny_passesOwn hp (thn (T.item X rfl rfl rfl hc i pins s3 σ3 H3 X.xe I3 (stat fr3) st3 go) fun r s4 ⟨u,hr,h4⟩=>?_)
   subst hr
   refine wpAny_passesOwn hp (thn h4 fun _ s5 ⟨x,H5,I5,r5,y5,st5,fr5⟩=>?_)
   have I5':=I5.pinned (stat fr5) (T.obj _ _ st5)
   refine wpAny_passesOwn hp (thn (hg _ s5 σ3 H5 x u _ I5' r5 (step x H5 y5)) fun _ s6 ⟨σ6,H6,I6,q6⟩=>?_)
   refine wpAny_passesOwn hp (thn (hb _ s6 σ6 H6 _ I6 q6) fun f s7 q7=>?_)
   have again:∀ {σ7:St}{H7:Hp},Inv X (pins++Zd5 fp s5.heap) σ7 H7 s7->N σ7 H7->∃ m,m<n/\∃ i σ' H',Inv X pins σ' H' s7/\tn i s7.heap/\(∀ b∈fp,H' b=none)/\W i m σ' H':=fun {σ7 H7} I7 n7=>by
     obtain ⟨m',hm,w7⟩:=hN σ7 H7 n7
     refine ⟨m',hm,i+1,σ7,H7,I7.unpinned,T.keep _ _ _ st5 fun b hb o e=>(I7.pin (b,o) (Ov _ (Ov _ (ZaU hb e)))).1,fun b hb=>?_,w7⟩
     obtain ⟨o,e,d⟩:=T.obj _ _ st5 b hb
     exact (I7.pin (b,o) (Ov _ (Ov _ (ZaU hb e)))).2.1
   cases f with
   | next=>obtain ⟨σ7,H7,I7,n7⟩:=q7;exact again I7 n7
   | cont=>obtain ⟨σ7,H7,I7,n7⟩:=q7;exact again I7 n7
   | brk=>obtain ⟨σ7,H7,I7,q7⟩:=q7;exact ⟨σ7,H7,I7.unpinned,q7⟩
   | ret v=>obtain ⟨x7,σ7,H7,I7,r7,q7⟩:=q7;exact ⟨x7,σ7,H7,I7.unpinned,r7,q7⟩
end
end L2
namespace L2
open PySem PySem.Spec PyProof.Rows
noncomputable abbrev R2:=V->V->Hp->VK->Prop
noncomputable def OpR(X:Cx)(f:Value->Value->Sem Value)(r:R2):Prop :=
 ∀ (pins:List (Addr×Obj)) (s:Shared) (Z:St) (H:Hp) (x y:V) (v u:Value) (Q:VK),Inv X pins Z H s->RelV x v->RelV y u->r x y H Q ->
   wpAny (model X.prog X.w) X.A (f v u) (EP X pins Z Q) X.xe s
noncomputable def UnR(X:Cx)(f:Value->Sem Value)(r:V->Hp->VK->Prop):Prop :=
 ∀ (pins:List (Addr×Obj)) (s:Shared) (Z:St) (H:Hp) (x:V) (v:Value) (Q:VK),Inv X pins Z H s->RelV x v->r x H Q ->
   wpAny (model X.prog X.w) X.A (f v) (EP X pins Z Q) X.xe s
noncomputable def Zca(X:Cx)(f:Value)(r:List V->Hp->VK->Prop):Prop :=
 ∀ (pins:List (Addr×Obj)) (s:Shared) (Z:St) (H:Hp) (xs:List V) (us:List Value) (Q:VK),Inv X pins Z H s->Zi xs us->r xs H Q ->
   wpAny (model X.prog X.w) X.A (call f us) (EP X pins Z Q) X.xe s
noncomputable def Ztl(X:Cx)(r:V->Hp->(Bool->Hp->Prop)->Prop):Prop :=
 ∀ (pins:List (Addr×Obj)) (s:Shared) (Z:St) (H:Hp) (x:V) (v:Value) (Q:Bool->Hp->Prop),Inv X pins Z H s->RelV x v->r x H Q ->
   wpAny (model X.prog X.w) X.A (truthy v) (TP X pins Z Q) X.xe s
noncomputable def tOp(r:R2)(ta tb:TE):TE:=fun Z H Q=>ta Z H fun x H1=>tb Z H1 fun y H2=>r x y H2 Q
noncomputable def tUn(r:V->Hp->VK->Prop)(ta:TE):TE:=fun Z H Q=>ta Z H fun x H1=>r x H1 Q
noncomputable def rI(C:Int->Int->Prop)(g:Int->Int->V):R2:=fun x y H Q=>∃ i j,x=.int i/\y=.int j/\C i j/\Q (g i j) H
noncomputable def rI0(g:Int->Int->V):R2:=fun x y H Q=>∃ i j,x=.int i/\y=.int j/\Q (g i j) H
noncomputable def rU(g:Int->V):V->Hp->VK->Prop:=fun x H Q=>∃ i,x=.int i/\Q (g i) H
section
variable {X:Cx}{a b c:Expr}{ta tb tc:TE}{pos:Pos}
theorem Zql(ha:PE X a ta)(hb:PE X b tb){pins:List (Addr×Obj)}{s:Shared}{Z:St}{H:Hp}{R:V->V->Hp->Prop}(I:Inv X pins Z H s)
   (h:ta Z H fun x H1=>tb Z H1 fun y H2=>R x y H2) {Q:Value->Shared->Prop}{f:Value->Value->Sem Value}
   (hf:∀ v u s2 x y H2,Inv X pins Z H2 s2->RelV x v->RelV y u->R x y H2->wpAny (model X.prog X.w) X.A (f v u) Q X.xe s2) :
   wpAny (model X.prog X.w) X.A (eval a X.env) (fun v s₁=>wpAny (model X.prog X.w) X.A (eval b X.env) (fun u s₂=>wpAny (model X.prog X.w) X.A (f v u) Q X.xe s₂) X.xe s₁) X.xe s:=by
 refine thn (ha pins s Z H _ I h) fun v s1 ⟨x,H1,I1,r1,q1⟩=>?_
 refine thn (hb pins s1 Z H1 _ I1 q1) fun u s2 ⟨y,H2,I2,r2,q2⟩=>?_
 exact hf v u s2 x y H2 I2 r1 r2 q2
theorem Zri{op:Operator}{r:R2}(ho:OpR X (binaryOp op) r)(ha:PE X a ta)(hb:PE X b tb):PE X (.BinOp a op b pos) (tOp r ta tb):=by
 intro pins s Z H Q I h
 exact wpAny_BinOp (Zql ha hb I h fun v u s2 x y H2 I2 rx ry q=>ho pins s2 Z H2 x y v u Q I2 rx ry q)
theorem Zrg{op:UnaryOp}{r:V->Hp->VK->Prop}(ho:UnR X (unaryOp op) r)(ha:PE X a ta):PE X (.UnaryOp op a pos) (tUn r ta):=by
 intro pins s Z H Q I h
 exact UnaryOp_ (thn (ha pins s Z H _ I h) fun v s1 ⟨x,H1,I1,r1,q1⟩=>ho pins s1 Z H1 x v Q I1 r1 q1)
theorem opI{f:Value->Value->Sem Value}{C:Int->Int->Prop}{g:Int->Int->Int}
   (rule:∀ (i j:Int) (t u:Tok) (s:Shared) (Q:Value->Shared->Prop) (E:Value->Shared->Prop),C i j->Q (.int (g i j) s.toks) {s with toks:=s.toks+1}->wpAny (model X.prog X.w) X.A (f (.int i t) (.int j u)) Q E s) :
   OpR X f (rI C fun i j=>.int (g i j)):=by
 intro pins s Z H x y v u Q I rx ry h
 obtain ⟨i,j,rfl,rfl,hc,q⟩:=h
 obtain ⟨t,rfl⟩:=rx
 obtain ⟨t',rfl⟩:=ry
 exact rule i j t t' s _ _ hc ⟨.int (g i j),H,I.tok _,⟨_,rfl⟩,q⟩
theorem Zru{f:Value->Value->Sem Value}{g:Int->Int->Int}
   (rule:∀ (i j:Int) (t u:Tok) (s:Shared) (Q:Value->Shared->Prop) (E:Value->Shared->Prop),Q (.int (g i j) s.toks) {s with toks:=s.toks+1}->wpAny (model X.prog X.w) X.A (f (.int i t) (.int j u)) Q E s) :
   OpR X f (rI0 fun i j=>.int (g i j)):=by
 intro pins s Z H x y v u Q I rx ry h
 obtain ⟨i,j,rfl,rfl,q⟩:=h
 obtain ⟨t,rfl⟩:=rx
 obtain ⟨t',rfl⟩:=ry
 exact rule i j t t' s _ _ ⟨.int (g i j),H,I.tok _,⟨_,rfl⟩,q⟩
theorem ZnL{f:Value->Value->Sem Value}{g:Int->Int->Bool}
   (rule:∀ (i j:Int) (t u:Tok) (s:Shared) (Q:Value->Shared->Prop) (E:Value->Shared->Prop),Q (.bool (g i j)) s->wpAny (model X.prog X.w) X.A (f (.int i t) (.int j u)) Q E s) :
   OpR X f (rI0 fun i j=>.bl (g i j)):=by
 intro pins s Z H x y v u Q I rx ry h
 obtain ⟨i,j,rfl,rfl,q⟩:=h
 obtain ⟨t,rfl⟩:=rx
 obtain ⟨t',rfl⟩:=ry
 exact rule i j t t' s _ _ ⟨.bl (g i j),H,I,rfl,q⟩
noncomputable def Ztn(i j:Int):Prop:=0<j/\j<1073741824
noncomputable def Ztm(i j:Int):Prop:=0<=j/\j<=1000000/\i.natAbs<2 ^ 64
theorem ZpM:OpR X (binaryOp .Add) (rI0 fun i j=>.int (i+j)):=Zru fun _ _ _ _ _ _ _ q=>add_int q
theorem ZpG:OpR X (binaryOp .Sub) (rI0 fun i j=>.int (i - j)):=Zru fun _ _ _ _ _ _ _ q=>sub_int q
theorem ZnA:OpR X (binaryOp .FloorDiv) (rI Ztn fun i j=>.int (i / j)):=opI fun i j _ _ _ _ _ hc q=>by
 have h1:(0:Int)<j:=hc.1
 have h2:j<1073741824:=hc.2
 exact floordiv_int (by omega) (by rw [Int.fdiv_eq_ediv_of_nonneg i (by omega)];exact q) (.inl (PyProof.noPylong_small (by omega)))
theorem ZpI:OpR X (binaryOp .Mod) (rI (fun _ j=>0<j) fun i j=>.int (i % j)):=opI fun i j _ _ _ _ _ hc q=>by
 have h1:(0:Int)<j:=hc
 exact mod_int' (by omega) (by rw [Int.fmod_eq_emod_of_nonneg i (by omega)];exact q)
theorem ZpH:OpR X (binaryOp .Pow) (rI Ztm fun i j=>.int (i ^ j.toNat)):=opI fun _ _ _ _ _ _ _ hc q=>pow_int_small hc.1 hc.2.1 hc.2.2 q
theorem unI{f:Value->Sem Value}{g:Int->Int}
   (rule:∀ (i:Int) (t:Tok) (s:Shared) (Q:Value->Shared->Prop) (E:Value->Shared->Prop),Q (.int (g i) s.toks) {s with toks:=s.toks+1}->wpAny (model X.prog X.w) X.A (f (.int i t)) Q E s) :
   UnR X f (rU fun i=>.int (g i)):=by
 intro pins s Z H x v Q I rx h
 obtain ⟨i,rfl,q⟩:=h
 obtain ⟨t,rfl⟩:=rx
 exact rule i t s _ _ ⟨.int (g i),H,I.tok _,⟨_,rfl⟩,q⟩
theorem Zo1:UnR X (unaryOp .USub) (rU fun i=>.int (-i)):=unI fun _ _ _ _ _ q=>neg_int q
end
section
variable {X:Cx}{a b c:Expr}{ta tb tc:TE}{pos:Pos}
theorem Zl9{pins:List (Addr×Obj)}{Z:St}{H:Hp}{s:Shared}{Q:VK}{k k':Bool}(I:Inv X pins Z H s)(q:Q (.bl k) H)(e:k=k'):EP X pins Z Q (.bool k') s:=by
 subst e
 exact ⟨.bl k,H,I,rfl,q⟩
theorem Zrn:OpR X (compareOp .Lt) (rI0 fun i j=>.bl (decide (i<j))):=ZnL fun _ _ _ _ _ _ _ q=>lt_int q
theorem Zro:OpR X (compareOp .LtE) (rI0 fun i j=>.bl (decide (i<=j))):=ZnL fun _ _ _ _ _ _ _ q=>le_int q
theorem Zrp:OpR X (compareOp .Gt) (rI0 fun i j=>.bl (decide (j<i))):=ZnL fun _ _ _ _ _ _ _ q=>gt_int q
theorem Zrq:OpR X (compareOp .GtE) (rI0 fun i j=>.bl (decide (j<=i))):=ZnL fun _ _ _ _ _ _ _ q=>ge_int q
theorem ZpJ:OpR X (compareOp .Is) (fun x y H Q=>y=.non/\Q (.bl (decide (x=.non))) H):=by
 intro pins s Z H x y v u Q I rx ry h
 obtain ⟨rfl,q⟩:=h
 cases ry
 refine is_none_gen (Zl9 I q ?_)
 cases x<;>first
   | (cases rx;rfl)
   | (obtain ⟨t,rfl⟩:=rx;rfl)
theorem Zny:OpR X (compareOp .IsNot) (fun x y H Q=>y=.non/\Q (.bl (!decide (x=.non))) H):=by
 intro pins s Z H x y v u Q I rx ry h
 obtain ⟨rfl,q⟩:=h
 cases ry
 refine isnot_none_gen (Zl9 I q ?_)
 cases x<;>first
   | (cases rx;rfl)
   | (obtain ⟨t,rfl⟩:=rx;rfl)
theorem Znv{op:CmpOp}{r:R2}(ho:OpR X (compareOp op) r)(ha:PE X a ta)(hb:PE X b tb)(hm:behindInMarks op b=false):PE X (.Compare a [op] [b] pos) (tOp r ta tb):=by
 intro pins s Z H Q I h
 exact wpAny_Compare1 (Zql ha hb I h fun v u s2 x y H2 I2 rx ry q=>ho pins s2 Z H2 x y v u Q I2 rx ry q) hm
noncomputable def ZqP(t:TE):TT:=fun Z H Q=>t Z H fun x H'=>∃ k,x=.bl k/\Q k H'
theorem Zne{op:CmpOp}{r:R2}(ho:OpR X (compareOp op) r)(ha:PE X a ta)(hb:PE X b tb)(hm:behindInMarks op b=false):PT X (.Compare a [op] [b] pos) (ZqP (tOp r ta tb)):=by
 intro pins s Z H Q I h
 refine wpAny_isTrue_Compare1 (thn (ha pins s Z H _ I h) fun v s1 ⟨x,H1,I1,r1,q1⟩=>thn (hb pins s1 Z H1 _ I1 q1) fun u s2 ⟨y,H2,I2,r2,q2⟩ =>
   thn (ho pins s2 Z H2 x y v u _ I2 r1 r2 q2) fun c s3 ⟨z,H3,I3,r3,k,e,q3⟩=>?_) hm
 subst e
 cases r3
 exact wpAny_truthy_bool ⟨H3,I3,q3⟩
noncomputable def Zqq(K:PySem.W.Frag)(x:V)(H:Hp)(k:Bool):Prop :=
 match x with
 | .non=>k=false
 | .bl b=>k=b
 | .int i=>k=(i != 0)
 | .str y=>y.length<=sizeLine/\k=((y.length:Int) != 0)
 | .byt y=>y.size<=sizeLine/\k=((y.size:Int) != 0)
 | .ref p=>(∃ xs,SqL K H p xs/\k=!xs.isEmpty)\/(∃ xs,SqT K H p xs/\k=!xs.isEmpty)\/∃ kvs,H p=some (.dK kvs)/\k=!kvs.isEmpty
 | _=>False
theorem ZiC{κ:Type}{kvs:List (κ×V)}{vs:List (κ×Value)}(r:KV kvs vs):(!vs.isEmpty)=!kvs.isEmpty:=by
 cases r<;>rfl
theorem Zfp{xs:List V}{its:List Value}(r:Zi xs its):(!its.toArray.isEmpty)=!xs.isEmpty:=by
 cases r<;>simp
theorem Zbp:(sizeLine:Nat)<2 ^ 63:=by rw [sizeLine_eq];decide
theorem Zo3:Ztl X (fun x H Q=>∃ k,Zqq X.K x H k/\Q k H):=by
 intro pins s Z H x v Q I rx h
 obtain ⟨k,e,q⟩:=h
 have hl:=Zbp
 have hs:sizeLine=16777216:=sizeLine_eq
 cases x with
 | non =>
   cases rx
   have e':k=false:=e
   subst e'
   exact truthy_none ⟨H,I,q⟩
 | bl b =>
   cases rx
   have e':k=b:=e
   subst e'
   exact wpAny_truthy_bool ⟨H,I,q⟩
 | int i =>
   obtain ⟨t,rfl⟩:=rx
   have e':k=(i != 0):=e
   subst e'
   exact PySem.P.truthy_int ⟨H,I,q⟩
 | str y =>
   obtain ⟨t,rfl⟩:=rx
   obtain ⟨hy,e'⟩:y.length<=sizeLine/\k=((y.length:Int) != 0):=e
   subst e'
   exact PySem.P.truthy_str (by omega) ⟨H,I.tok _,q⟩
 | byt y =>
   obtain ⟨t,rfl⟩:=rx
   obtain ⟨hy,e'⟩:y.size<=sizeLine/\k=((y.size:Int) != 0):=e
   subst e'
   exact PySem.W.truthy_bytes (by omega) ⟨H,I.tok _,q⟩
 | ref p =>
   cases rx
   have e':(∃ xs,SqL X.K H p xs/\k=!xs.isEmpty)\/(∃ xs,SqT X.K H p xs/\k=!xs.isEmpty)\/∃ kvs,H p=some (.dK kvs)/\k=!kvs.isEmpty:=e
   rcases e' with ⟨xs,hx,e'⟩|⟨xs,hx,e'⟩|⟨kvs,hx,e'⟩
   . subst e'
     obtain ⟨its,r,pl,hz⟩:=I.list hx
     have hlen:=r.length
     exact wpAny_truthy_list pl.isList (by simp only [Of];omega) ⟨H,I.tok _,by rw [Zfp r];exact q⟩
   . subst e'
     obtain ⟨its,r,pl,hz⟩:=I.tuple hx
     have hlen:=r.length
     exact truthy_tuple pl (by simp only [Of];omega) ⟨H,I.tok _,by rw [Zfp r];exact q⟩
   . subst e'
     obtain ⟨hz,hS,vs,r,m⟩:kvs.length<=sizeLine/\(p==sysModules)=false/\∃ vs,KV kvs vs/\s.heap.DictOf (Zz X.prog X.w) p vs:=I.hok p _ hx
     have hlen:kvs.length=vs.length:=Paired.length r
     exact wpAny_truthy_dict hS m (by omega) ⟨H,I.tok _,by rw [ZiC r];exact q⟩
 | _=>exact (show False from e).elim
theorem Zk7(ha:PE X a ta)(he:∀ whole,isTrue a X.env whole=(do let v <- whole;standAt a.pos;holding [v] (truthy v))) :
   PT X a (fun Z H Q=>ta Z H fun x H'=>∃ k,Zqq X.K x H' k/\Q k H'):=by
 intro pins s Z H Q I h
 exact isTrue_plain (thn (ha pins s Z H _ I h) fun v s1 ⟨x,H1,I1,r1,q1⟩=>Zo3 pins s1 Z H1 x v Q I1 r1 q1) (he _)
theorem Zib:OpR X (binaryOp .Add) (fun x y H Q=>∃ i j,x=.str i/\y=.str j/\i.length+j.length<=sizeLine/\Q (.str (i++j)) H):=by
 intro pins s Z H x y v u Q I rx ry h
 obtain ⟨i,j,rfl,rfl,hz,q⟩:=h
 obtain ⟨t,rfl⟩:=rx
 obtain ⟨t',rfl⟩:=ry
 exact add_str (fun t' tk=>⟨.str (i++j),H,I.tok _,⟨_,rfl⟩,q⟩) hz
theorem vals1{x:V}{us:List Value}(r:Zi [x] us):∃ u,us=[u]/\RelV x u:=by
 cases r with
 | cons r1 r2=>cases r2;exact ⟨_,rfl,r1⟩
theorem vals2{x y:V}{us:List Value}(r:Zi [x,y] us):∃ u w',us=[u,w']/\RelV x u/\RelV y w':=by
 cases r with
 | cons r1 r2 =>
   cases r2 with
   | cons r3 r4=>cases r4;exact ⟨_,_,rfl,r1,r3⟩
end
end L2
namespace L2
open PySem PySem.Spec PyProof.Rows
structure ObjM(h:Heap)(x dx C:Addr)(mA:Str->Option Value):Prop where
 obj:h.get? x=some (PySem.W.instObj C dx)
 ns:h.Ns1 dx mA
 ne:dx≠x
theorem Zkj{h:Heap}{dx:Addr}{mA:Str->Option Value}(n:h.Ns1 dx mA):∃ od,h.get? dx=some od/\∀ name,PySem.W.lookIn name od=some (mA name):=by
 obtain ⟨o,es,ep,ho,hd,hk,_,hm⟩:=n
 refine ⟨o,ho,fun name=>?_⟩
 have e:=hm name
 unfold nsFind findBy at e
 rw [<- Array.find?_toList] at e
 unfold PySem.W.lookIn
 rw [hd]
 dsimp only
 split
 . rename_i y q
   rw [q] at e
   exact congrArg some e
 . rename_i q
   rw [q] at e
   have a:es.toList.any (·.refKey)=false:=by
     rw [List.any_eq_false]
     intro y hy
     obtain ⟨z,t,hkey⟩:=hk y (Array.mem_toList_iff.mp hy)
     simp [DictEntry.refKey,hkey]
   have a':¬ es.toList.any (·.refKey)=true:=by rw [a];exact Ow
   rw [if_neg a']
   exact congrArg some e
theorem ObjM.look{h:Heap}{x dx C:Addr}{mA:Str->Option Value}(I:ObjM h x dx C mA):∃ od,PySem.W.InstAt h x (PySem.W.instObj C dx) C (some od)/\∀ name,PySem.W.lookIn name od=some (mA name) :=
 let ⟨od,ho,hl⟩:=Zkj I.ns
 ⟨od,⟨I.obj,rfl,rfl,ho⟩,hl⟩
section
variable {prog:Program}{w:World}{A:Around}{E:Value->Shared->Prop}{s:Shared}{K:PySem.W.Frag}{x dx C f:Addr}{mA:Str->Option Value}{name:Str}{v:Value}
theorem Zn3{expr:Bool}{Q:Value->Shared->Prop}(X:K.In s.heap)(I:ObjM s.heap x dx C mA)(hg:PySem.W.plainGet K C name=true)(hh:PySem.W.hasDictIn K C=true)
   (ha:PySem.W.findIn K (.ref C) name=some none) (hv:mA name=some v) (hv':PySem.W.handedIn v=true) (h:Q v {s with toks:=s.toks+1}) :
   wpAny (model prog w) A (getAttr (.ref x) name expr) Q E s:=by
 obtain ⟨od,J,hl⟩:=I.look
 exact PySem.W.get_value X J (PySem.W.plainGet_of hg).1 (PySem.W.findObj_own hh ha rfl (by rw [hl,hv])) hv' h
theorem Zl1{pl:Sem Bool}{Q:Value×List Value->Shared->Prop}(X:K.In s.heap)(I:ObjM s.heap x dx C mA)(hg:PySem.W.plainGet K C name=true)
   (hf:PySem.W.findIn K (.ref C) name=some (some (.ref f))) (ht:PySem.W.isFn K (.ref f)=true) (hv:mA name=none) (h:Q (.ref f,[.ref x]) s) :
   wpAny (model prog w) A (getMethod (.ref x) name pl) Q E s:=by
 obtain ⟨od,J,hl⟩:=I.look
 exact PySem.W.method_fn X J (PySem.W.plainGet_of hg).1 (PySem.W.plainGet_of hg).2 hf (beq_iff_eq.mp ht) (by show (PySem.W.lookIn name od).map (·.isSome)=some false;rw [hl,hv];rfl) h
theorem ZmZ{ns:List Str}{Q:Unit->Shared->Prop}(X:K.In s.heap)(I:ObjM s.heap x dx C mA)
   (hs:PySem.W.findIn K (.ref C) "__setattr__" = some (some (.builtin "object.__setattr__"))) (hp:PySem.W.plainOver K C=true) (ht:PySem.W.takerIn K C name=some none) (hh:PySem.W.hasDictIn K C=true)
   (hw:PySem.Within mA ns) (hsz:ns.length<=sizeLine)
   (h:∀ h',ObjM h' x dx C (fun y=>if y=name then some v else mA y)->Heap.SameBut dx s.heap h'->Q () {s with heap:=h',toks:=s.toks+2}) :
   wpAny (model prog w) A (setAttr (.ref x) name v) Q E s:=by
 obtain ⟨od,J,hl⟩:=I.look
 refine PySem.W.set_plain X J hs (PySem.W.osa_open (s:={s with toks:=s.toks+1}) (r:=none) X J hp ht fun b=>?_)
 obtain ⟨cd,hc,hd'⟩:=PySem.W.any_some hh
 have hx:s.heap.get? x=some ⟨.ref C,some dx,.plain,#[]⟩:=I.obj
 refine wpAny_bind (wpAny_pure (wpAny_bind (wpAny_bind (wpAny_loadPart hx (wpAny_bind (PySem.W.Looks.here (s:={s with toks:=s.toks+1}) (PySem.W.looks_clsIn X hc) ?_))))))
 rw [hd']
 refine wpAny_pure (a:=some dx) (wpAny_bind (wpAny_pure (wpAny_bind ?_)))
 refine wpAny_nsSet1 (s:={s with toks:=s.toks+1}) I.ns fun h' hn2 hs2=>?_
 obtain ⟨oD,esD,epD,hoD,hdD,hcD⟩:=hn2.count (PySem.Within.cons name v hw)
 refine wpAny_bind (wpAny_lookBehind hoD (by rw [hdD];exact pastItsLine_dict (OE hcD (by rw [Os];omega))) ?_)
 exact wpAny_pure (h _ ⟨(hs2.2 _ (Ne.symm I.ne)).trans I.obj,hn2,I.ne⟩ hs2)
theorem ZlD{R:Result->Shared->Prop}{vs:List Value}{kw:List (Str×Value)}(X:K.In s.heap)(hm:PySem.W.makesIn K C=true)
   (hi:PySem.W.findIn K (.ref C) "__init__" = some (some (.ref f))) (hf:PySem.W.typeIn K (.ref f)=some (.type "function"))
   (h:codeAny (model prog w) (A.under (.builtin "type.__call__" ⟨.ref C::vs,kw⟩)) (.call (.ref f) ⟨.ref (s.heap.objs.size+1)::vs,kw⟩) (PySem.W.InitBack (s.heap.objs.size+1) R)
     {s with heap:=(s.heap.push PySem.W.emptyDict).push (PySem.W.instObj C s.heap.objs.size)}) :
   codeAny (model prog w) A (.call (.ref C) ⟨vs,kw⟩) R s:=by
 obtain ⟨hh,g,d,t,os⟩:=s
 exact PySem.W.make_core (PySem.W.makes_of X hm) (PySem.W.looks_findIn X hi) (fun self=>PySem.W.bind_fn X self hf) (.inl rfl) h
end
noncomputable def ZbP(f:Str)(v:V):List (Str×V)->List (Str×V)
 | []=>[(f,v)]
 | (g,x)::r=>if g=f then (g,v)::r else (g,x)::ZbP f v r
theorem Zer(f g:Str)(v:V):∀ fs:List (Str×V),(ZbP f v fs).lookup g=if g=f then some v else fs.lookup g
 | []=>by
   show List.lookup g [(f,v)]=_
   by_cases h:g=f
   . have hb:(g==f)=true:=beq_iff_eq.mpr h
     simp only [List.lookup,hb,if_pos h]
   . have hb:(g==f)=false:=beq_eq_false_iff_ne.mpr h
     simp only [List.lookup,hb,if_neg h]
 | (k,x)::r=>by
   have ih:=Zer f g v r
   rw [show ZbP f v ((k,x)::r)=(if k=f then (k,v)::r else (k,x)::ZbP f v r) from rfl]
   by_cases hk:k=f
   . rw [if_pos hk]
     by_cases h:g=k
     . have hb:(g==k)=true:=beq_iff_eq.mpr h
       simp only [List.lookup,hb,if_pos (h.trans hk)]
     . have hb:(g==k)=false:=beq_eq_false_iff_ne.mpr h
       simp only [List.lookup,hb,if_neg (fun e:g=f=>h (e.trans hk.symm))]
   . rw [if_neg hk]
     by_cases h:g=k
     . have hb:(g==k)=true:=beq_iff_eq.mpr h
       simp only [List.lookup,hb,if_neg (fun e:g=f=>hk (h.symm.trans e))]
     . have hb:(g==k)=false:=beq_eq_false_iff_ne.mpr h
       simp only [List.lookup,hb]
       exact ih
theorem Zd8(f:Str)(v:V):∀ fs:List (Str×V),f∈(ZbP f v fs).map (·.1)/\∀ g,g∈fs.map (·.1)->g∈(ZbP f v fs).map (·.1)
 | []=>⟨by simp [ZbP],fun g h=>by simp at h⟩
 | (k,x)::r=>by
   obtain ⟨i1,i2⟩:=Zd8 f v r
   rw [show ZbP f v ((k,x)::r)=(if k=f then (k,v)::r else (k,x)::ZbP f v r) from rfl]
   by_cases hk:k=f
   . rw [if_pos hk]
     subst hk
     exact ⟨by simp,fun g h=>by simpa using h⟩
   . rw [if_neg hk]
     refine ⟨?_,fun g h=>?_⟩
     . rw [Op]
       exact Oh _ i1
     . rw [Op] at h ⊢
       rcases O2.mp h with e|e
       . exact O2.mpr (.inl e)
       . exact Oh _ (i2 g e)
theorem Zet(f:Str)(v:V):∀ fs:List (Str×V),(ZbP f v fs).length<=fs.length+1
 | []=>by simp [ZbP]
 | (k,x)::r=>by
   have ih:=Zet f v r
   rw [show ZbP f v ((k,x)::r)=(if k=f then (k,v)::r else (k,x)::ZbP f v r) from rfl]
   by_cases hk:k=f
   . rw [if_pos hk,Os,Os];omega
   . rw [if_neg hk,Os,Os];omega
theorem ZdZ.some_of{v:V}{o:Option Value}(r:ZdZ (some v) o):∃ u,o=some u/\RelV v u:=by
 cases o with
 | none=>exact (show False from r).elim
 | some u=>exact ⟨u,rfl,r⟩
theorem ZdZ.none_of{o:Option Value}(r:ZdZ none o):o=none:=by
 cases o with
 | none=>rfl
 | some u=>exact (show False from r).elim
theorem Zkr{v:V}{u:Value}(r:RelV v u):PySem.W.handedIn u=true:=by
 cases v with
 | non=>cases (show u=Value.none from r);rfl
 | bl b=>cases (show u=Value.bool b from r);rfl
 | int i=>obtain ⟨t,e⟩:=(show ∃ t,u=Value.int i t from r);cases e;rfl
 | str x=>obtain ⟨t,e⟩:=(show ∃ t,u=Value.str x t from r);cases e;rfl
 | byt b=>obtain ⟨t,e⟩:=(show ∃ t,u=Value.bytes b t from r);cases e;rfl
 | flt b=>obtain ⟨t,e⟩:=(show ∃ t,u=Value.float b t from r);cases e;rfl
 | ref a=>cases (show u=Value.ref a from r);rfl
 | ty n=>cases (show u=Value.type n from r);rfl
section
variable {P:Program}{w:World}{H H':Hp}{h h':Heap}{a C dx:Addr}{fs fs':List (Str×V)}
theorem Zgz(hok:HOk P w H h)(e:H a=some (.ins C dx fs)):∃ mA,ObjM h a dx C mA/\(∀ f,ZdZ (fs.lookup f) (mA f))/\PySem.Within mA (fs.map (·.1))/\fs.length<=1000/\H dx=some (.own a):=by
 obtain ⟨d,z,ne,ob,mA,n,r,q⟩:=(show ZaC P w H h a (.ins C dx fs) from hok a _ e)
 exact ⟨mA,⟨ob,n,ne⟩,r,q,z,d⟩
end
structure Cls(K:PySem.W.Frag)(C:Addr):Prop where
 pg:PySem.W.plainGet K C Str.empty=true
 hd:PySem.W.hasDictIn K C=true
 po:PySem.W.plainOver K C=true
 sa:PySem.W.findIn K (.ref C) "__setattr__" = some (some (.builtin "object.__setattr__"))
theorem Cls.get{K:PySem.W.Frag}{C:Addr}(c:Cls K C)(f:Str):PySem.W.plainGet K C f=true:=c.pg
noncomputable def ZaS(K:PySem.W.Frag)(C:Addr)(f:Str):Prop:=PySem.W.findIn K (.ref C) f=some none
theorem ZaS.taker{K:PySem.W.Frag}{C:Addr}{f:Str}(n:ZaS K C f):PySem.W.takerIn K C f=some none:=by
 unfold PySem.W.takerIn
 rw [show PySem.W.findIn K (.ref C) f=some none from n]
 rfl
structure Meth(K:PySem.W.Frag)(C:Addr)(m:Str)(f:Addr):Prop where
 at_:PySem.W.findIn K (.ref C) m=some (some (.ref f))
 fn:PySem.W.isFn K (.ref f)=true
 kp:PySem.W.keepIn K (.ref f)=true
section
variable {X:Cx}{pins:List (Addr×Obj)}{Z:St}{H:Hp}{s:Shared}{a C dx:Addr}{fs:List (Str×V)}{f:Str}{v:V}{A:Around}{E:Value->Shared->Prop}
theorem Zft{b:Bool}{Q:Value->Shared->Prop}(I:Inv X pins Z H s)(e:H a=some (.ins C dx fs))(c:Cls X.K C)(n:ZaS X.K C f)(l:fs.lookup f=some v)
   (h:∀ u s',Inv X pins Z H s'->RelV v u->Q u s'):wpAny (model X.prog X.w) A (getAttr (.ref a) f b) Q E s:=by
 obtain ⟨mA,O_,r,_,_,_⟩:=Zgz I.hok e
 obtain ⟨u,hu,ru⟩:=ZdZ.some_of (v:=v) (o:=mA f) (by rw [<- l];exact r f)
 exact Zn3 I.kIn O_ (c.get f) c.hd n hu (Zkr ru) (h u _ (I.tok _) ru)
theorem Zfs{m:Str}{g:Addr}{pl:Sem Bool}{Q:Value×List Value->Shared->Prop}(I:Inv X pins Z H s)(e:H a=some (.ins C dx fs))(c:Cls X.K C)(k:Meth X.K C m g)(l:fs.lookup m=none)
   (h:Q (.ref g,[.ref a]) s):wpAny (model X.prog X.w) A (getMethod (.ref a) m pl) Q E s:=by
 obtain ⟨mA,O_,r,_,_,_⟩:=Zgz I.hok e
 have hn:mA m=none:=ZdZ.none_of (by rw [<- l];exact r m)
 exact Zl1 I.kIn O_ (c.get m) k.at_ k.fn hn h
theorem Ze1{y:V}{u:Value}{Q:Unit->Shared->Prop}(I:Inv X pins Z H s)(e:H a=some (.ins C dx fs))(c:Cls X.K C)(n:ZaS X.K C f)(hl:fs.length<1000)(ry:RelV y u)
   (h:∀ s',Inv X pins Z (upd H a (.ins C dx (ZbP f y fs))) s'->Q () s'):wpAny (model X.prog X.w) A (setAttr (.ref a) f u) Q E s:=by
 obtain ⟨mA,O_,r,wi,_,ho⟩:=Zgz I.hok e
 have hz:(fs.map (·.1)).length<=sizeLine:=by rw [List.length_map,sizeLine_eq];omega
 refine ZmZ I.kIn O_ c.sa c.po n.taker c.hd wi hz fun h' O' sb=>h _ ?_
 have hd:∃ o,h'.get? dx=some o:=let ⟨o,_,_,e',_⟩:=O'.ns;⟨o,e'⟩
 refine I.write (x:=a) (e:=dx) (by rw [e];exact True.intro) (.inr ho) (fun b q hb z=>(sb.2 b hb).trans z) hd ?_
 refine ⟨by rw [Zc O_.ne];exact ho,?_,O_.ne,O'.obj,_,O'.ns,fun g=>?_,fun g hg=>?_⟩
 . have:=Zet f y fs;omega
 . show ZdZ ((ZbP f y fs).lookup g) (if g=f then some u else mA g)
   rw [Zer]
   by_cases q:g=f
   . rw [if_pos q,if_pos q];exact ry
   . rw [if_neg q,if_neg q];exact r g
 . by_cases q:g=f
   . rw [q];exact (Zd8 f y fs).1
   . refine (Zd8 f y fs).2 g (wi g fun z=>hg ?_)
     show (if g=f then some u else mA g)=none
     rw [if_neg q];exact z
theorem Inv.made(I:Inv X pins Z H s):Inv X pins Z (upd (upd H s.heap.objs.size (.own (s.heap.objs.size+1))) (s.heap.objs.size+1) (.ins C s.heap.objs.size []))
   {s with heap:=(s.heap.push PySem.W.emptyDict).push (PySem.W.instObj C s.heap.objs.size)}:=by
 have e1:(s.heap.push PySem.W.emptyDict).get? s.heap.objs.size=some PySem.W.emptyDict:=Oj s.heap rfl
 have e2:((s.heap.push PySem.W.emptyDict).push (PySem.W.instObj C s.heap.objs.size)).get? (s.heap.objs.size+1)=some (PySem.W.instObj C s.heap.objs.size):=by
   have:=Oj (s.heap.push PySem.W.emptyDict) (o:=PySem.W.instObj C s.heap.objs.size) rfl
   rwa [Heap.size_push] at this
 have e3:(s.heap.push PySem.W.emptyDict).Ns s.heap.objs.size (fun _=>none):=⟨PySem.W.emptyDict,#[],_,e1,rfl,(fun e he=>absurd he (by simp)),fun _=>rfl⟩
 have I1:=I.laid (a:=s.heap.objs.size) (o:=.own (s.heap.objs.size+1)) (h':=s.heap.push PySem.W.emptyDict) (t':=s.toks) (fun b u q=>Od _ q) (Oq _) ⟨_,e1⟩
 refine I1.laid (a:=s.heap.objs.size+1) (o:=.ins C s.heap.objs.size []) (t':=s.toks) (fun b u q=>Od _ q) (Nat.le_of_eq (Heap.size_push _ _)) ?_
 have ne:s.heap.objs.size≠s.heap.objs.size+1:=Ou (OH _)
 refine ⟨by rw [Zc ne,Zh],Nat.zero_le _,ne,e2,fun _=>none,(Heap.Ns1.of_empty e3).at fun o q=>Od _ q,fun _=>True.intro,fun y hy=>absurd rfl hy⟩
theorem Zon{prog:Program}{w:World}{env:Env}{e:Expr}{f:Str}{pos:Pos}{s:Shared}{Q:Value->Shared->Prop}(hb:attributeBase e f env (eval e env)=eval e env)
   (h:wpAny (model prog w) A (eval e env) (fun o s₁=>wpAny (model prog w) A (getAttr o f true) Q E s₁) E s):wpAny (model prog w) A (eval (.Attribute e f pos) env) Q E s :=
 Attribute_any_ h (by rw [arm_eval_Attribute,hb])
end
noncomputable def ZsB(K:PySem.W.Frag)(ta:TE)(f:Str):TE:=fun Z H Q=>ta Z H fun x H1=>∃ a C dx fs v,x=.ref a/\H1 a=some (.ins C dx fs)/\Cls K C/\ZaS K C f/\fs.lookup f=some v/\Q v H1
noncomputable def ZsI(K:PySem.W.Frag)(ta tv:TE)(f:Str):TS:=fun D Z H=>tv Z H fun y H1=>ta Z H1 fun x H2=>∃ a C dx fs,x=.ref a/\H2 a=some (.ins C dx fs)/\Cls K C/\ZaS K C f/\fs.length<1000 /\
 D.nx Z (upd H2 a (.ins C dx (ZbP f y fs)))
noncomputable def Zr6(X:Cx)(op:Operator)(rd:V->V->Hp->VK->Prop):Prop :=
 ∀ (pins:List (Addr×Obj)) (s:Shared) (Z:St) (H:Hp) (x y:V) (u v:Value) (Q:VK),Inv X pins Z H s->RelV x u->RelV y v->rd x y H Q->wpAny (model X.prog X.w) X.A (inplaceOp op u v) (EP X pins Z Q) X.xe s
noncomputable def Zm2(K:PySem.W.Frag)(ta tv:TE)(rd:V->V->Hp->VK->Prop)(f:Str):TS:=fun D Z H=>ta Z H fun x H1=>∃ a C dx fs v,x=.ref a/\H1 a=some (.ins C dx fs)/\Cls K C/\ZaS K C f/\fs.lookup f=some v /\
 tv Z H1 fun y H2=>rd v y H2 fun z H3=>∃ dx' fs',H3 a=some (.ins C dx' fs')/\fs'.length<1000/\D.nx Z (upd H3 a (.ins C dx' (ZbP f z fs')))
section
variable {X:Cx}{o e value:Expr}{f:Str}{pos pos' tpos:Pos}{ta tv:TE}
theorem ZpC(he:PE X e ta)(hb:attributeBase e f X.env (eval e X.env)=eval e X.env):PE X (.Attribute e f pos) (ZsB X.K ta f):=by
 intro pins s Z H Q I h
 refine Zon hb (thn (he pins s Z H _ I h) fun u s1 ⟨x,H1,I1,rx,a,C,dx,fs,v,ex,ea,c,n,l,q⟩=>?_)
 subst ex
 obtain rfl:u=Value.ref a:=rx
 exact Zft I1 ea c n l fun u' s2 I2 ru=>⟨v,H1,I2,ru,q⟩
theorem Zpr(ha:PE X o ta)(hv:PE X value tv)(hs:swapsWith value (some (.Attribute o f pos')) pos.line X.env=pure false):PS X (.Assign [.Attribute o f pos'] value pos) (ZsI X.K ta tv f):=by
 intro pins s Z H D I h
 refine plainObj_wpAny_Assign_Attribute (thn (hv pins s Z H _ I h) fun u s1 ⟨y,H1,I1,ry,q⟩=>thn (ha pins s1 Z H1 _ I1 q) fun ov s2 ⟨x,H2,I2,rx,a,C,dx,fs,ex,ea,c,n,l,q2⟩=>?_) hs
 subst ex
 obtain rfl:ov=Value.ref a:=rx
 exact Ze1 I2 ea c n l ry fun s3 I3=>⟨Z,_,I3,q2⟩
theorem Zj4{op:Operator}{rd:V->V->Hp->VK->Prop}(ha:PE X o ta)(hv:PE X value tv)(hop:Zr6 X op rd):PS X (.AugAssign (.Attribute o f tpos) op value pos) (Zm2 X.K ta tv rd f):=by
 intro pins s Z H D I h
 refine wpAny_AugAssign_AttributeAny (thn (ha pins s Z H _ I h) fun ov s1 ⟨x,H1,I1,rx,a,C,dx,fs,v,ex,ea,c,n,l,q⟩=>?_)
 subst ex
 obtain rfl:ov=Value.ref a:=rx
 refine Zft I1 ea c n l fun u s2 I2 ru=>thn (hv pins s2 Z H1 _ I2 q) fun w3 s3 ⟨y,H2,I3,ry,q3⟩=>thn (hop pins s3 Z H2 v y u w3 _ I3 ru ry q3) fun w4 s4 ⟨z,H3,I4,rz,dx',fs',ea',l',q4⟩=>?_
 exact Ze1 I4 ea' c n l' rz fun s5 I5=>⟨Z,_,I5,q4⟩
noncomputable def Zrc:V->V->Hp->VK->Prop:=fun x y H Q=>∃ i j,x=.int i/\y=.int j/\Q (.int (i+j)) H
theorem Zp8:Zr6 X .Add Zrc:=by
 rintro pins s Z H x y u v Q I rx ry ⟨i,j,rfl,rfl,q⟩
 obtain ⟨t,rfl⟩:=(show ∃ t,u=Value.int i t from rx)
 obtain ⟨t',rfl⟩:=(show ∃ t',v=Value.int j t' from ry)
 exact PyProof.Rows.iadd_int ⟨.int (i+j),H,I.tok _,⟨_,rfl⟩,q⟩
end
end L2
namespace L2
open PySem PySem.Spec PyProof.Rows
structure Room(k:Nat)(A:Around):Prop where
 hd:A.handled=none
 dp:A.depth+k+5<recursionLimit
 un:A.units+4 * k+1300<cLine
theorem Room.mono{j k:Nat}{A:Around}(r:Room k A)(h:j<=k):Room j A:=⟨r.hd,by have:=r.dp;omega,by have:=r.un;omega⟩
theorem Room.deeper{k:Nat}{A:Around}(r:Room (k+1) A)(env:Env):Room k (A.deeper env) :=
 ⟨r.hd,by have:=r.dp;show A.depth+1+k+5<_;omega,by have:=r.un;show A.units+3+4 * k+1300<_;omega⟩
theorem Zij {A:Around}{C:Addr}{us:List Value}{kw:List (Str×Value)}:(A.under (.builtin "type.__call__" ⟨.ref C::us,kw⟩)).depth=A.depth+1:=by
 first|rfl|simp [Around.under,Code.weight,Code.isCreation,Code.isGuard,Code.isCaller,Code.frames,Code.isFrame,guardIds]
theorem Zii {A:Around}{C:Addr}{us:List Value}{kw:List (Str×Value)}:(A.under (.builtin "type.__call__" ⟨.ref C::us,kw⟩)).units=A.units+1:=by
 first|rfl|simp [Around.under,Code.cUnits,Code.frames,Code.isFrame]
theorem Room.make {k:Nat}{A:Around} (r:Room (k+1) A) (C:Addr) (us:List Value) (kw:List (Str×Value)):Room k (A.under (.builtin "type.__call__" ⟨.ref C::us,kw⟩)) :=
 ⟨r.hd,by have:=r.dp;rw [Zij];omega,by have:=r.un;rw [Zii];omega⟩
theorem Room.depth{k:Nat}{A:Around}(r:Room k A):A.depth<recursionLimit:=by have:=r.dp;omega
noncomputable def Zo8:TA:=fun _ H Q=>Q [] H
noncomputable def ZqW(ta:TE)(tr:TA):TA:=fun Z H Q=>ta Z H fun x H1=>tr Z H1 fun xs H2=>Q (x::xs) H2
section
variable {X:Cx}{e:Expr}{es:List Expr}{te:TE}{t:TA}{pos:Pos}
theorem Zfg:PA X [] Zo8:=fun _ _ _ _ H Q I h=>Calls.spliced_nil ⟨[],H,I,.nil,h⟩
theorem ZdH(ha:PE X e te)(hr:PA X es t)(hs:starEach (e::es) X.env=(false,eval e X.env)::starEach es X.env:=by rfl):PA X (e::es) (ZqW te t):=by
 intro pos pins s Z H Q I h
 rw [hs]
 show wpAny _ _ (spliced ((false,eval e X.env)::backTo pos (starEach es X.env))) _ _ s
 refine Calls.spliced_cons (thn (ha pins s Z H _ I h) fun u s1 ⟨x,H1,I1,r1,q1⟩=>?_)
 exact thn (hr pos pins s1 Z H1 _ I1 q1) fun us s2 ⟨xs,H2,I2,r2,q2⟩=>⟨x::xs,H2,I2,.cons r1 r2,q2⟩
noncomputable def Zst(t:TA):TE:=fun Z H Q=>t Z H fun xs H1=>xs.length<=sizeLine/\∀ p,H1 p=none->Q (.ref p) (upd H1 p (.tup xs))
noncomputable def Zsy(t:TA):TE:=fun Z H Q=>t Z H fun xs H1=>xs.length<=sizeLine/\∀ p,H1 p=none->Q (.ref p) (upd H1 p (.lst xs))
theorem Zpx{x1}(h:PA X es t):PE X (.Tuple es x1 pos) (Zst t):=by
 intro pins s Z H Q I hq
 refine wpAny_Tuple_spliced (thn (h pos pins s Z H _ I hq) fun us s1 ⟨xs,H1,I1,r,z,q⟩=>⟨by rw [<- r.length];exact z,?_⟩)
 have hf:H1 s1.heap.objs.size=none:=I1.hok.fresh (Oq _)
 refine ⟨.ref s1.heap.objs.size,upd H1 s1.heap.objs.size (.tup xs),I1.laid (t':=s1.toks) (fun b u e=>Od _ e) (Oq _) ?_,rfl,q _ hf⟩
 exact ⟨z,us,r,⟨_,Oj _ rfl,rfl,rfl,_,rfl⟩⟩
theorem ZpB(h:PA X es t):PE X (.List es pos) (Zsy t):=by
 intro pins s Z H Q I hq
 refine wpAny_List_spliced (thn (h pos pins s Z H _ I hq) fun us s1 ⟨xs,H1,I1,r,z,q⟩=>⟨by rw [<- r.length];exact z,?_⟩)
 have hf:H1 s1.heap.objs.size=none:=I1.hok.fresh (Oq _)
 refine ⟨.ref s1.heap.objs.size,upd H1 s1.heap.objs.size (.lst xs),I1.laid (t':=s1.toks) (fun b u e=>Od _ e) (Oq _) ?_,rfl,q _ hf⟩
 exact ⟨z,us,0,r,Oj _ rfl⟩
end
noncomputable abbrev Sp:=List V->Hp->VK->XK->Prop
noncomputable abbrev CXT:=List Env->Hp->Shared->XK->Value->Shared->Prop
structure Env0(P:Program)(w:World)(K:PySem.W.Frag)(mg:Str->Option Value)(base:Heap)(A:Around)(outer:List Env)(s:Shared)(H:Hp):Prop where
 frames:A.frames=some outer
 mod:Mod K mg base
 bs:∀ b o,base.get? b=some o->s.heap.get? b=some o/\H b=none
 bsz:base.objs.size<=s.heap.objs.size
 funs:s.heap.FunFrames base outer
 frf:∀ b∈frs outer,H b=none
 hok:HOk P w H s.heap
 bare:AllBare s.gens
noncomputable def CE(outer:List Env)(P:Program)(w:World)(H:Hp)(s:Shared)(Q:VK)(u:Value)(s':Shared):Prop :=
 ∃ v H',s'.os=s.os/\AllBare s'.gens/\Un (frs outer) [] H H' s.heap s'.heap/\HOk P w H' s'.heap/\RelV v u/\Q v H'
noncomputable def CR(CX:CXT)(outer:List Env)(P:Program)(w:World)(H:Hp)(s:Shared)(Q:VK)(E:XK)(r:Result)(s':Shared):Prop :=
 match r with
 | .ok (.ret u)=>CE outer P w H s Q u s'
 | .ok _=>False
 | .error e=>CX outer H s E e s'
structure FnOk(P:Program)(w:World)(K:PySem.W.Frag)(mg:Str->Option Value)(base:Heap)(CX:CXT)(k:Nat)(f:Addr)(fd:FuncData)(ps:List Str)(sp:Sp):Prop where
 len:∀ vs H Q E,sp vs H Q E->vs.length=ps.length
 run:∀ (A:Around) (outer:List Env) (s:Shared) (H:Hp) (args:Args) (us:List Value) (vs:List V) (Q:VK) (E:XK),Room k A->Env0 P w K mg base A outer s H->BindsTo s fd args (ps.zip us)->Zi vs us->sp vs H Q E ->
   codeAny (model P w) A (.call (.ref f) args) (CR CX outer P w H s Q E) s
theorem FnOk.imp{P:Program}{w:World}{K:PySem.W.Frag}{mg:Str->Option Value}{base:Heap}{CX:CXT}{k:Nat}{f:Addr}{fd:FuncData}{ps:List Str}{sp sp':Sp}(F:FnOk P w K mg base CX k f fd ps sp)
   (h:∀ vs H Q E,sp' vs H Q E->sp vs H Q E):FnOk P w K mg base CX k f fd ps sp' :=
 ⟨fun vs H Q E q=>F.len vs H Q E (h _ _ _ _ q),fun A outer s H args us vs Q E hr he hb hv hs=>F.run A outer s H args us vs Q E hr he hb hv (h _ _ _ _ hs)⟩
theorem Env0.make{P:Program}{w:World}{K:PySem.W.Frag}{mg:Str->Option Value}{base:Heap}{A:Around}{outer:List Env}{s:Shared}{H:Hp}(e:Env0 P w K mg base A outer s H)(C:Addr)(us:List Value)(kw:List (Str×Value)) :
   Env0 P w K mg base (A.under (.builtin "type.__call__" ⟨.ref C::us,kw⟩)) outer s H:=⟨by first|exact e.frames|(simpa [Around.under,Code.envs,Code.isFrame,pushEnvs] using e.frames),e.mod,e.bs,e.bsz,e.funs,e.frf,e.hok,e.bare⟩
section
variable {X:Cx}{pins:List (Addr×Obj)}{Z:St}{H:Hp}{s s':Shared}
theorem Inv.env0(I:Inv X pins Z H s):Env0 X.prog X.w X.K X.mg X.base X.A X.stack s H :=
 ⟨I.ok.frames,I.ok.mod,I.bs,OE I.ok.bsz I.sz,I.stack,I.stkFree,I.hok,I.bare⟩
theorem Inv.after{Q:VK}{u:Value}(I:Inv X pins Z H s)(h:CE X.stack X.prog X.w H s Q u s'):EP X pins Z Q u s':=by
 obtain ⟨v,H',os,bare,un,hok,r,q⟩:=h
 obtain ⟨hh,g,d,t,os'⟩:=s'
 obtain rfl:os'=s.os:=os
 exact ⟨v,H',I.call (h':=hh) (g':=g) (d':=d) (t':=t) (ch:=[]) un hok bare (fun b z=>absurd z (by simp)),r,q⟩
end
noncomputable def ZqX(sp:Sp)(dvs:List V)(E:XK)(t:TA):TE:=fun Z H Q=>t Z H fun vs H1=>sp (vs++dvs) H1 Q E
noncomputable def Zov(C:Addr)(m:Str)(sp:Sp)(dvs:List V)(E:XK)(ta:TE)(t:TA):TE:=fun Z H Q=>ta Z H fun x H1=>∃ a dx fs,x=.ref a/\H1 a=some (.ins C dx fs)/\fs.lookup m=none /\
 t Z H1 fun vs H2=>sp (x::(vs++dvs)) H2 Q E
noncomputable def Zow(C:Addr)(sp:Sp)(dvs:List V)(E:XK)(t:TA):TE:=fun Z H Q=>t Z H fun vs H1=>∀ x dx,H1 x=none->H1 dx=none->dx≠x ->
 sp (.ref x::(vs++dvs)) (upd (upd H1 dx (.own x)) x (.ins C dx [])) (fun v H2=>v=.non/\Q (.ref x) H2) E
noncomputable def Binds(K:PySem.W.Frag)(fd:FuncData)(ps:List Str)(ds:List Value):Prop :=
 ∀ (s:Shared) (us:List Value),K.In s.heap->(us++ds).length=ps.length->BindsTo s fd ⟨us,[]⟩ (ps.zip (us++ds))
theorem Binds.all{K:PySem.W.Frag}{fd:FuncData}{ps:List Str}(h:∀ us:List Value,us.length=ps.length->bindArgs fd ⟨us,[]⟩=pure (ps.zip us)):Binds K fd ps []:=fun s us _ hl=>by
 rw [List.append_nil] at hl ⊢
 exact .of_eq (h us hl)
noncomputable def ZbU(CX:CXT)(X:Cx)(E:XK):Prop:=∀ (pins:List (Addr×Obj)) (Z:St) (H:Hp) (s:Shared) (e:Value) (s':Shared),Inv X pins Z H s->CX X.stack H s E e s'->X.xe e s'
section
variable {X:Cx}{CX:CXT}{k:Nat}{f C:Addr}{fd:FuncData}{ps:List Str}{sp:Sp}{dvs:List V}{ds:List Value}{E:XK}{x m:Str}{p pos apos:Pos}{e o:Expr}{es:List Expr}{ta:TE}{t:TA}
theorem Zh4{pins:List (Addr×Obj)}{Z:St}{H:Hp}{s:Shared}{Q:VK}{us:List Value}{vs:List V}(F:FnOk X.prog X.w X.K X.mg X.base CX k f fd ps sp)(hr:Room k X.A)(hb:Binds X.K fd ps ds)(hd:Zi dvs ds)(hx:ZbU CX X E)
   (I:Inv X pins Z H s) (r:Zi vs us) (h:sp (vs++dvs) H Q E):wpAny (model X.prog X.w) X.A (call (.ref f) us) (EP X pins Z Q) X.xe s:=by
 have r2:Zi (vs++dvs) (us++ds):=r.append hd
 have hl:(us++ds).length=ps.length:=by rw [<- r2.length];exact F.len _ _ _ _ h
 refine wpAny_call (codeAny_mono (F.run X.A X.stack s H ⟨us,[]⟩ (us++ds) (vs++dvs) Q E hr I.env0 (hb s us I.kIn hl) r2 h) fun r s' hq=>?_)
 cases r with
 | error e=>exact hx pins Z H s e s' I hq
 | ok fl =>
   cases fl with
   | ret u=>exact I.after hq
   | next=>exact False.elim hq
   | brk=>exact False.elim hq
   | cont=>exact False.elim hq
theorem Znw(F:FnOk X.prog X.w X.K X.mg X.base CX k f fd ps sp)(hr:Room k X.A)(hg:Gl X x)(hm:X.mg x=some (.ref f))(hk:PySem.W.keepIn X.K (.ref f)=true)(hb:Binds X.K fd ps ds)(hd:Zi dvs ds)(hx:ZbU CX X E)
   (ha:PA X (e::es) t) (hdb:(x==("__debug__" : Str))=false:=by decide) (he:starEach (e::es) X.env=(false,eval e X.env)::starEach es X.env:=by rfl) (hpl:(backTo pos (starEach es X.env)).any (·.1)=false:=by rfl) :
   PE X (.Call (.Name x p) (e::es) [] pos) (ZqX sp dvs E t):=by
 intro pins s Z H Q I h
 refine wpAny_Call_Name_kw (ZeO I hg hm ?_ hdb)
 refine PySem.W.callWith_K (h₀:=X.base) I.ok.mod.kin hk (thn (ha pos pins s Z H _ I h) fun us s1 ⟨vs,H1,I1,r,q⟩=>⟨I1.kIn,?_⟩) he hpl
 exact Zh4 F hr hb hd hx I1 r q
theorem Znp{pl:Sem Bool}(he:PE X o ta)(c:Cls X.K C)(hm:Meth X.K C m f)(F:FnOk X.prog X.w X.K X.mg X.base CX k f fd ps sp)(hr:Room k X.A)(hb:Binds X.K fd ps ds)(hd:Zi dvs ds)(hx:ZbU CX X E)(ha:PA X (e::es) t)
   (hst:starEach (e::es) X.env=(false,eval e X.env)::starEach es X.env:=by rfl) (hpl:(backTo pos (starEach es X.env)).any (·.1)=false:=by rfl)
   (ht:eval (.Call (.Attribute o m apos) (e::es) [] pos) X.env=(do
     let ov <- eval o X.env
     standAt apos.atName
     let (f,first) <- holding [ov] (getMethod ov m pl)
     callWith pos f first (backTo pos (starEach (e::es) X.env)) (backToKw pos (keywordEach [] X.env))):=by rfl) :
   PE X (.Call (.Attribute o m apos) (e::es) [] pos) (Zov C m sp dvs E ta t):=by
 intro pins s Z H Q I h
 refine PySem.W.methodCall_KW (pl:=pl) (thn (he pins s Z H _ I h) fun u s1 ⟨x,H1,I1,rx,a,dx,fs,ex,ea,l,q⟩=>?_) ht
 subst ex
 obtain rfl:u=Value.ref a:=rx
 refine Zfs I1 ea c hm l ?_
 refine PySem.W.callWith_K (first:=[.ref a]) (h₀:=X.base) I.ok.mod.kin hm.kp (thn (ha pos pins s1 Z H1 _ I1 q) fun us s2 ⟨vs,H2,I2,r,q2⟩=>⟨I2.kIn,?_⟩) hst hpl
 exact Zh4 (us:=.ref a::us) (vs:=.ref a::vs) F hr hb hd hx I2 (.cons rfl r) q2
theorem Zlk{pl:Sem Bool}(he:PE X o ta)(c:Cls X.K C)(hm:Meth X.K C m f)(F:FnOk X.prog X.w X.K X.mg X.base CX k f fd ps sp)(hr:Room k X.A)(hb:Binds X.K fd ps ds)(hd:Zi dvs ds)(hx:ZbU CX X E)
   (ht:eval (.Call (.Attribute o m apos) [] [] pos) X.env=(do
     let ov <- eval o X.env
     standAt apos.atName
     let (f,first) <- holding [ov] (getMethod ov m pl)
     callWith pos f first (backTo pos (starEach [] X.env)) (backToKw pos (keywordEach [] X.env))):=by rfl) :
   PE X (.Call (.Attribute o m apos) [] [] pos) (Zov C m sp dvs E ta Zo8):=by
 intro pins s Z H Q I h
 refine PySem.W.methodCall_KW (pl:=pl) (thn (he pins s Z H _ I h) fun u s1 ⟨x,H1,I1,rx,a,dx,fs,ex,ea,l,q⟩=>?_) ht
 subst ex
 obtain rfl:u=Value.ref a:=rx
 refine Zfs I1 ea c hm l ?_
 exact PySem.W.callWith_K0 (first:=[.ref a]) I1.kIn hm.kp (Zh4 (us:=[.ref a]) (vs:=[.ref a]) F hr hb hd hx I1 (.cons rfl .nil) q)
structure Mk(K:PySem.W.Frag)(C f:Addr):Prop where
 makes:PySem.W.makesIn K C=true
 init:PySem.W.findIn K (.ref C) "__init__" = some (some (.ref f))
 fn:PySem.W.isFn K (.ref f)=true
 kp:PySem.W.keepIn K (.ref C)=true
theorem Zg9{pins:List (Addr×Obj)}{Z:St}{H:Hp}{s:Shared}{Q:VK}{us:List Value}{vs:List V}(M:Mk X.K C f)(F:FnOk X.prog X.w X.K X.mg X.base CX k f fd ps sp)(hr:Room (k+1) X.A)(hb:Binds X.K fd ps ds)(hd:Zi dvs ds)
   (hx:ZbU CX X E) (I:Inv X pins Z H s) (r:Zi vs us)
   (h:∀ x dx,H x=none->H dx=none->dx≠x->sp (.ref x::(vs++dvs)) (upd (upd H dx (.own x)) x (.ins C dx [])) (fun v H2=>v=.non/\Q (.ref x) H2) E) :
   wpAny (model X.prog X.w) X.A (call (.ref C) us) (EP X pins Z Q) X.xe s:=by
 have hq:=h (s.heap.objs.size+1) s.heap.objs.size (I.hok.fresh (Nat.le_succ _)) (I.hok.fresh (Oq _)) (Ou (OH _))
 have I2:=Inv.made (C:=C) I
 have r2:Zi (V.ref (s.heap.objs.size+1)::(vs++dvs)) (Value.ref (s.heap.objs.size+1)::(us++ds)):=.cons rfl (r.append hd)
 have hl:(Value.ref (s.heap.objs.size+1)::us++ds).length=ps.length:=by
   have e:=r2.length
   rw [F.len _ _ _ _ hq] at e
   exact e.symm
 refine wpAny_call (ZlD (f:=f) I.kIn M.makes M.init (beq_iff_eq.mp M.fn) (codeAny_mono (F.run _ X.stack _ _ ⟨Value.ref (s.heap.objs.size+1)::us,[]⟩ (Value.ref (s.heap.objs.size+1)::(us++ds)) _ _ E (hr.make C us [])
   (I2.env0.make C us []) (hb _ (Value.ref (s.heap.objs.size+1)::us) I2.kIn hl) r2 hq) fun r s' hq'=>?_))
 cases r with
 | error e=>exact hx pins Z _ _ e s' I2 hq'
 | ok fl =>
   cases fl with
   | ret u =>
     obtain ⟨v,H',I3,rv,ev,q3⟩:=I2.after hq'
     subst ev
     exact ⟨rv,⟨V.ref (s.heap.objs.size+1),H',I3,rfl,q3⟩⟩
   | next=>exact False.elim hq'
   | brk=>exact False.elim hq'
   | cont=>exact False.elim hq'
theorem Znr(M:Mk X.K C f)(F:FnOk X.prog X.w X.K X.mg X.base CX k f fd ps sp)(hr:Room (k+1) X.A)(hg:Gl X x)(hm:X.mg x=some (.ref C))(hb:Binds X.K fd ps ds)(hd:Zi dvs ds)(hx:ZbU CX X E)
   (ha:PA X (e::es) t) (hdb:(x==("__debug__" : Str))=false:=by decide) (he:starEach (e::es) X.env=(false,eval e X.env)::starEach es X.env:=by rfl) (hpl:(backTo pos (starEach es X.env)).any (·.1)=false:=by rfl) :
   PE X (.Call (.Name x p) (e::es) [] pos) (Zow C sp dvs E t):=by
 intro pins s Z H Q I h
 refine wpAny_Call_Name_kw (ZeO I hg hm ?_ hdb)
 refine PySem.W.callWith_K (h₀:=X.base) I.ok.mod.kin M.kp (thn (ha pos pins s Z H _ I h) fun us s1 ⟨vs,H1,I1,r,q⟩=>⟨I1.kIn,?_⟩) he hpl
 exact Zg9 M F hr hb hd hx I1 r q
theorem Zll(M:Mk X.K C f)(F:FnOk X.prog X.w X.K X.mg X.base CX k f fd ps sp)(hr:Room (k+1) X.A)(hg:Gl X x)(hm:X.mg x=some (.ref C))(hb:Binds X.K fd ps ds)(hd:Zi dvs ds)(hx:ZbU CX X E)
   (hdb:(x==("__debug__" : Str))=false:=by decide):PE X (.Call (.Name x p) [] [] pos) (Zow C sp dvs E Zo8):=by
 intro pins s Z H Q I h
 refine wpAny_Call_Name_kw (ZeO I hg hm ?_ hdb)
 exact PySem.W.callWith_K0 I.kIn M.kp (Zg9 (us:=[]) M F hr hb hd hx I .nil h)
end
structure FnScope(N P:List Str)(sc:Scope):Prop where
 kind:sc.kind=.function
 co:sc.isCoroutine=false
 gen:sc.isGenerator=false
 nd:N.Nodup
 pre:N.take P.length=P
 par:∀ x∈P,sc.names.lookup x=some .local\/sc.names.lookup x=some .cell
 nofree:∀ y∈sc.names,y.2≠.free
theorem Zga{kindOf:Str->Option NameKind}{x:Str}:∀ {binds:List (Str×Value)}{m:Str->Option Value},(∀ v,(x,v) ∉ binds)->bindL kindOf binds m x=m x
 | [],_,_=>rfl
 | (n,v)::r,m,h=>by
   unfold bindL
   rw [Zga fun w hw=>h w (Oh _ hw)]
   split
   . have:x≠n:=by rintro rfl;exact h v Oi
     simp [this]
   . rfl
theorem Zgc{kindOf:Str->Option NameKind}{x:Str}:∀ {binds:List (Str×Value)}{m:Str->Option Value},(∀ v,(x,v) ∉ binds)->bindC kindOf binds m x=m x
 | [],_,_=>rfl
 | (n,v)::r,m,h=>by
   unfold bindC
   rw [Zgc fun w hw=>h w (Oh _ hw)]
   split
   . rfl
   . have:x≠n:=by rintro rfl;exact h v Oi
     simp [this]
theorem Zgb{kindOf:Str->Option NameKind}{x:Str}{v:Value}:∀ {P:List Str}{vs:List Value}{i:Nat}{m:Str->Option Value},P.Nodup->P[i]? = some x->vs[i]? = some v->kindOf x=some .local ->
   bindL kindOf (P.zip vs) m x=some v
 | [],_,_,_,_,h,_,_=>by simp at h
 | _::_,[],_,_,_,_,h,_=>by simp at h
 | p::P,w::vs,0,m,nd,h1,h2,hk=>by
   simp at h1 h2;subst h1;subst h2
   show bindL kindOf ((p,w)::P.zip vs) m p=_
   unfold bindL
   rw [Zga fun v hv=>(List.nodup_cons.mp nd).1 (List.of_mem_zip hv).1,if_pos hk]
   simp
 | p::P,w::vs,i+1,m,nd,h1,h2,hk=>by
   show bindL kindOf ((p,w)::P.zip vs) m x=_
   unfold bindL
   exact Zgb (i:=i) (List.nodup_cons.mp nd).2 (by simpa using h1) (by simpa using h2) hk
theorem Zgd{kindOf:Str->Option NameKind}{x:Str}{v:Value}:∀ {P:List Str}{vs:List Value}{i:Nat}{m:Str->Option Value},P.Nodup->P[i]? = some x->vs[i]? = some v->kindOf x≠some .local ->
   bindC kindOf (P.zip vs) m x=some v
 | [],_,_,_,_,h,_,_=>by simp at h
 | _::_,[],_,_,_,_,h,_=>by simp at h
 | p::P,w::vs,0,m,nd,h1,h2,hk=>by
   simp at h1 h2;subst h1;subst h2
   show bindC kindOf ((p,w)::P.zip vs) m p=_
   unfold bindC
   rw [Zgc fun v hv=>(List.nodup_cons.mp nd).1 (List.of_mem_zip hv).1,if_neg hk]
   simp
 | p::P,w::vs,i+1,m,nd,h1,h2,hk=>by
   show bindC kindOf ((p,w)::P.zip vs) m x=_
   unfold bindC
   exact Zgd (i:=i) (List.nodup_cons.mp nd).2 (by simpa using h1) (by simpa using h2) hk
noncomputable def start(N:List Str)(vs:List V):St:=vs.map some++List.replicate (N.length - vs.length) none
noncomputable def Zml(CX:CXT)(P:Program)(w:World)(K:PySem.W.Frag)(mg:Str->Option Value)(base:Heap)(N:List Str)(qual:Str)(scope:Scope)(f:Addr)(cd:Value)(A:Around)(outer:List Env)(s:Shared)(H:Hp)(E:XK):Cx where
 prog:=P
 w:=w
 K:=K
 mg:=mg
 base:=base
 A:=A.deeper (envOfC qual scope s.heap.objs.size f cd)
 N:=N
 s₀:=s
 H₀:=H
 env:=envOfC qual scope s.heap.objs.size f cd
 outer:=outer
 stack:=envOfC qual scope s.heap.objs.size f cd::outer
 ex:=[]
 calm:=true
 fn:=fun _=>true
 pn:=[]
 xe:=fun e s'=>wpAny (model P w) (A.deeper (envOfC qual scope s.heap.objs.size f cd)) (leaving (envOfC qual scope s.heap.objs.size f cd) e) (fun _ s''=>CX outer H s E e s'') (fun e' s''=>CX outer H s E e' s'') s'
theorem ZhK{sc:Scope}{n:Nat}{x:Str}(h:sc.names.lookup x=some .cell):∃ c,(cellsFrom n sc.names []).lookup x=some c:=by
 have q:=PySem.W.cellsFrom_some sc.names n [] (.inl h)
 exact Option.isSome_iff_exists.mp q
theorem Zkp{CX:CXT}{P:Program}{w:World}{K:PySem.W.Frag}{mg:Str->Option Value}{base:Heap}{N ps:List Str}{qual:Str}{scope:Scope}{f:Addr}{cd:Value}{A:Around}{outer:List Env}{s s1:Shared}{H:Hp}{E:XK}{us:List Value}{vs:List V}
   (S_:FnScope N ps scope) (hd:A.handled=none) (e0:Env0 P w K mg base A outer s H) (hl:vs.length=ps.length) (r:Zi vs us)
   (x:InCallC s s.heap.objs.size (bindL (envOfC qual scope s.heap.objs.size f cd).kindOf (ps.zip us) fun _=>none) (cellsFrom (s.heap.objs.size+1) scope.names []) (bindC (envOfC qual scope s.heap.objs.size f cd).kindOf (ps.zip us) fun _=>none) s1) :
   Inv (Zml CX P w K mg base N qual scope f cd A outer s H E) [] (start N vs) H s1:=by
 have hpl:ps.length<=N.length:=by have:=congrArg List.length S_.pre;rw [List.length_take] at this;omega
 obtain ⟨h1,tk,rfl,hk⟩:=x.done
 have noA:∀ b:Addr,b ∉ (Zml CX P w K mg base N qual scope f cd A outer s H E).ex:=fun b z=>absurd (show b∈([]:List Addr) from z) (by simp)
 refine ⟨⟨e0.mod,S_.kind,rfl,rfl,Oq _,fun y z c h1 h2=>?_,fun y hy=>?_,fun y c _ h=>?_,fun _=>hd,Around.frames_deeper e0.frames,.inr ⟨rfl,rfl⟩,fun b z=>absurd z (noA b),e0.bs,e0.bsz,fun b _ _=>noA b,fun b z=>absurd z (noA b),e0.funs,e0.frf⟩,
   rfl,e0.bare,Un.kept hk,⟨_,x.toInCall.ns,fun i y v h1 h2 h3=>?_⟩,fun y c h=>⟨_,x.cell y c h⟩,e0.hok.fresh (Oq _),fun y c h=>?_,fun p hp=>absurd (show p∈([]:List (Addr×Obj)) from hp) (by simp),e0.hok.kept hk,?_⟩
 . exact name_of_addr x.apart (PySem.mem_of_lookup h1) (PySem.mem_of_lookup h2)
 . have hy:scope.names.lookup y=some .cell\/scope.names.lookup y=some .free:=hy
   rcases hy with hy|hy
   . exact ZhK hy
   . exact absurd rfl (S_.nofree _ (PySem.mem_of_lookup hy))
 . exact Nat.le_of_lt (x.above y c (PySem.mem_of_lookup h))
 . have hi:i<vs.length:=by
     unfold start at h2
     by_cases hi:i<vs.length
     . exact hi
     . rw [Om (by simpa using hi)] at h2
       rw [List.getElem?_replicate] at h2
       split at h2<;>cases h2
   have ha:vs[i]? = some v:=by
     unfold start at h2
     rw [Oe (by simpa using hi),On] at h2
     cases e:vs[i]? with
     | none=>rw [e] at h2;cases h2
     | some a=>rw [e] at h2;cases h2;rfl
   obtain ⟨u,hu,rv⟩:=r.get ha
   have hp:ps[i]? = some y:=by
     rw [<- S_.pre,List.getElem?_take_of_lt (by omega)];exact h1
   have ndP:ps.Nodup:=by rw [<- S_.pre];exact S_.nd.sublist (List.take_sublist _ _)
   refine ⟨u,rv,?_⟩
   rcases S_.par y (O1 hp) with k|k
   . exact .inl ⟨k,Zgb ndP hp hu k⟩
   . obtain ⟨c,e⟩:=ZhK (n:=s.heap.objs.size+1) k
     refine .inr ⟨.inl k,c,e,?_⟩
     have q:=x.cell y c e
     rw [Zgd ndP hp hu (by show scope.names.lookup y≠_;rw [k];decide)] at q
     exact q
 . exact e0.hok.fresh (Nat.le_of_lt (x.above y c (PySem.mem_of_lookup h)))
 . unfold start
   show _=N.length
   rw [OA,List.length_map,List.length_replicate]
   omega
theorem ZrP{CX:CXT}{P:Program}{w:World}{K:PySem.W.Frag}{mg:Str->Option Value}{base:Heap}{k:Nat}{f:Addr}{name qual:Str}{params:Arguments}{body:List Stmt}{scope:Scope}{dV kV doc pm cdv ct oc:Value}{an od:Option Addr}
   {osl:Array (Option Value)}{N ps:List Str}{sp:Sp} (lk:K.lookup f=some ⟨oc,od,.func (PySem.W.fnOf name qual params body scope dV kV doc pm an cdv ct),osl⟩) (hcd:PySem.W.codeIn K cdv qual=true) (S_:FnScope N ps scope)
   (len:∀ vs H Q E,sp vs H Q E->vs.length=ps.length)
   (hbody:∀ (A:Around) (outer:List Env) (s:Shared) (H:Hp) (vs:List V) (Q:VK) (E:XK),Room k (A.deeper (envOfC qual scope s.heap.objs.size f cdv))->sp vs H Q E ->
     ∃ t,PSs (Zml CX P w K mg base N qual scope f cdv A outer s H E) body t/\t {nx:=fun _ H'=>Q .non H',rt:=Q} (start N vs) H) :
   FnOk P w K mg base CX (k+1) f (PySem.W.fnOf name qual params body scope dV kV doc pm an cdv ct) ps sp:=by
 refine ⟨len,fun A outer s H args us vs Q E hr e0 hb r hsp=>?_⟩
 have hl:=len _ _ _ _ hsp
 have KX:K.In s.heap:=e0.mod.kin.keeps fun b o e=>(e0.bs b o e).1
 have lim:s.heap.NoLimit:=e0.mod.nolimit.keeps fun b o e=>(e0.bs b o e).1
 have hkind:∀ y∈ps.zip us,scope.names.lookup y.1=some .local\/(scope.names.lookup y.1=some .cell/\((cellsFrom (s.heap.objs.size+1) scope.names []).lookup y.1).isSome=true):=fun ⟨n,v⟩ hy=>by
   rcases S_.par n (List.of_mem_zip hy).1 with q|q
   . exact .inl q
   . exact .inr ⟨q,PySem.W.cellsFrom_some _ _ _ (.inl q)⟩
 refine codeAny_call_function hr.depth (KX _ _ lk) rfl S_.co S_.gen rfl (PySem.W.codeRec_of KX hcd) (hb _ _ _ _ ?_)
 refine wpAny_newFunctionEnv_cells S_.kind hkind fun env he s1 x=>?_
 subst he
 refine ⟨lim.keeps x.toInCall.keep,codeAny_func ?_⟩
 obtain ⟨t,ht,hq⟩:=hbody A outer s H vs Q E (hr.deeper _) hsp
 have I:Inv (Zml CX P w K mg base N qual scope f cdv A outer s H E) [] (start N vs) H s1:=Zkp S_ hr.hd e0 hl r x
 refine wpAny_mono (ht [] s1 (start N vs) H _ I hq) (fun fl s' hs=>?_) fun e s' hs=>hs
 have fin:∀ {σ':St}{H':Hp}{v:V}{u:Value},Inv (Zml CX P w K mg base N qual scope f cdv A outer s H E) [] σ' H' s'->RelV v u->Q v H'->CE outer P w H s Q u s' :=
   fun {σ' H' v u} J rv q=>⟨v,H',J.os,J.bare,J.base,J.hok,rv,q⟩
 cases fl with
 | ret u =>
   obtain ⟨v,σ',H',J,rv,q⟩:=hs
   exact fin J rv q
 | next =>
   obtain ⟨σ',H',J,q⟩:=hs
   exact fin (v:=V.non) (u:=Value.none) J rfl q
 | brk =>
   obtain ⟨_,_,_,q⟩:=hs
   exact False.elim q
 | cont =>
   obtain ⟨_,_,_,q⟩:=hs
   exact False.elim q
end L2
namespace L2
open PySem PySem.Spec PyProof.Rows
section
variable {X:Cx}{x:Str}{p pos:Pos}{e:Expr}{es:List Expr}{t:TA}{id T:String}{r:List V->Hp->VK->Prop}
noncomputable def tCB(r:List V->Hp->VK->Prop)(t:TA):TE:=fun Z H Q=>t Z H fun vs H1=>r vs H1 Q
theorem ZdF (hc:Zca X (.builtin id) r) (hg:Gl X x) (hm:X.mg x=none) (hv:bootBuiltins x=some (.builtin id)) (ha:PA X (e::es) t) (hn:x ≠ "__name__" := by decide) (hdb:(x==("__debug__" : Str))=false:=by decide)
   (he:starEach (e::es) X.env=(false,eval e X.env)::starEach es X.env:=by rfl) (hpl:(backTo pos (starEach es X.env)).any (·.1)=false:=by rfl):PE X (.Call (.Name x p) (e::es) [] pos) (tCB r t):=by
 intro pins s Z H Q I h
 refine wpAny_Call_Name_kw (ZbS I hg hm hv ?_ hn hdb)
 exact PyProof.Rows.callWith_builtin1 (thn (ha pos pins s Z H _ I h) fun us s1 ⟨vs,H1,I1,r1,q1⟩=>hc pins s1 Z H1 vs us Q I1 r1 q1) he hpl
theorem Zka (hc:Zca X (.type T) r) (hg:Gl X x) (hm:X.mg x=none) (hv:bootBuiltins x=some (.type T)) (ha:PA X (e::es) t) (hn:x ≠ "__name__" := by decide) (hdb:(x==("__debug__" : Str))=false:=by decide)
   (he:starEach (e::es) X.env=(false,eval e X.env)::starEach es X.env:=by rfl) (hpl:(backTo pos (starEach es X.env)).any (·.1)=false:=by rfl):PE X (.Call (.Name x p) (e::es) [] pos) (tCB r t):=by
 intro pins s Z H Q I h
 refine wpAny_Call_Name_kw (ZbS I hg hm hv ?_ hn hdb)
 exact PyProof.Rows.callWith_type1 (thn (ha pos pins s Z H _ I h) fun us s1 ⟨vs,H1,I1,r1,q1⟩=>hc pins s1 Z H1 vs us Q I1 r1 q1) he hpl
end
end L2
namespace HT
open PySem PyProof.Rows
section
variable {prog:Program}{w:World}{A:Around}{E:Value->Shared->Prop}{s:Shared}
theorem Zoe{t b:Addr}{vs ws:List Value}{Q:Value->Shared->Prop}(ht:IsTup s.heap t vs.toArray)(hb:IsTup s.heap b ws.toArray)(hv:vs≠[])
   (h1:ws=[]->Q (.ref t) s) (h2:ws≠[]->Q (.ref s.heap.objs.size) {s with heap:=s.heap.push {cls:=.type "tuple",data:=.seq (vs++ws).toArray}})
   (hsz:vs.length+ws.length<=sizeLine):wpAny (model prog w) A (binaryOp .Add (.ref t) (.ref b)) Q E s:=by
 obtain ⟨⟨cls,dd,data,sl⟩,ho,hc,n,hd⟩:=id ht
 obtain ⟨⟨cls2,dd2,data2,sl2⟩,ho2,hc2,n2,hd2⟩:=id hb
 simp only at hc hd hc2 hd2
 subst hc hd hc2 hd2
 have e:vs.toArray++ws.toArray=(vs++ws).toArray:=by simp
 by_cases hw:ws=[]
 . exact concat_meets ⟨_,ho,rfl⟩ ⟨_,ho2,rfl⟩ noFill_tuple_add seq_tuple_add PySem.F.slot_tuple_add PySem.F.entry_tuple_add (PySem.F.args_tuple_add_2 _ _)
     (tuple_addW1 t b vs.toArray ws.toArray n n2 dd dd2 sl sl2 (by simpa using hv) (by simp [hw])) ⟨ho,ho2,h1 hw⟩
 . refine concat_meets ⟨_,ho,rfl⟩ ⟨_,ho2,rfl⟩ noFill_tuple_add seq_tuple_add PySem.F.slot_tuple_add PySem.F.entry_tuple_add (PySem.F.args_tuple_add_2 _ _)
     (tuple_addW2 t b vs.toArray ws.toArray n n2 dd dd2 sl sl2 (by simpa using hv) (by simpa using hw) (by rw [Of,Of];exact hsz)) ⟨ho,ho2,?_⟩
   rw [e]
   exact h2 hw
noncomputable def sIx(n d:Nat):Option Int->Nat
 | none=>d
 | some v=>if v<0 then (v+(n:Int)).toNat else min v.toNat n
theorem Zpe(n d:Nat)(hd:d<=n)(o:Option Int):sIx n d o<=n:=by
 cases o with
 | none=>exact hd
 | some v =>
   show (if v<0 then (v+(n:Int)).toNat else min v.toNat n)<=n
   by_cases hv:v<0
   . rw [if_pos hv];omega
   . rw [if_neg hv];exact Nat.min_le_right _ _
theorem ZjK(v:Int)(n d:Nat):(if v<0 then max (v+(n:Int)) 0 else min v (n:Int))=((sIx n d (some v):Nat):Int):=by
 show (if v<0 then max (v+(n:Int)) 0 else min v (n:Int))=(((if v<0 then (v+(n:Int)).toNat else min v.toNat n):Nat):Int)
 by_cases hv:v<0
 . simp only [if_pos hv];omega
 . simp only [if_neg hv];omega
theorem Zi0(lo hi:Option Int)(n:Nat):Builtin.Slice.sliceAdjust lo hi 1 (n:Int)=(((sIx n 0 lo:Nat):Int),((sIx n n hi:Nat):Int)):=by
 have h1:¬ ((1:Int)<0):=by omega
 unfold Builtin.Slice.sliceAdjust
 simp only [h1,if_false]
 refine Prod.ext ?_ ?_
 . cases lo with
   | none=>rfl
   | some v=>exact ZjK v n 0
 . cases hi with
   | none=>rfl
   | some v=>exact ZjK v n n
theorem Zia(i j:Nat):Builtin.Slice.slicePlaces (i:Int) (j:Int) 1=j - i:=by
 unfold Builtin.Slice.slicePlaces
 have h1:(1:Int) > 0:=by omega
 simp only [h1,if_true,Int.ediv_one]
 split<;>omega
theorem ZeZ{v:Value}{o:Option Int}{Q:Option Int->Shared->Prop}(p:IsPart v o)(h:Q o s):wpAny (model prog w) A (Builtin.Slice.slicePartIndex v) Q E s:=by
 cases p with
 | none=>exact slicePart_none h
 | int i t=>exact slicePart_int h
theorem ZbX{sl:Addr}{vl vu:Value}{lo hi:Option Int}{n:Nat}{Q:Int×Int×Nat->Shared->Prop}(hs:s.heap.IsSliceOf sl vl vu .none)(pl:IsPart vl lo)(pu:IsPart vu hi)
   (h:Q (((sIx n 0 lo:Nat):Int),1,sIx n n hi - sIx n 0 lo) s):wpAny (model prog w) A (Builtin.Slice.sliceApplied (.ref sl) (pure (n:Int))) Q E s:=by
 obtain ⟨os,hos,hcs,hds⟩:=id hs
 unfold Builtin.Slice.sliceApplied Builtin.Slice.sliceFields
 refine wpAny_bind (wpAny_bind (wpAny_field hos hds (x:=vl) rfl (wpAny_bind (wpAny_field hos hds (x:=vu) rfl (wpAny_bind (wpAny_field hos hds (x:=.none) rfl (wpAny_pure ?_)))))))
 refine wpAny_bind (slicePart_none ?_)
 show wpAny _ _ (if ((1:Int)==0)=true then _ else _) _ _ s
 rw [if_neg (by decide)]
 refine wpAny_bind (ZeZ pl (wpAny_bind (ZeZ pu (wpAny_bind (wpAny_pure ?_)))))
 show wpAny _ _ (match Builtin.Slice.sliceAdjust lo hi 1 (n:Int) with|(lo,hi)=>pure (lo,(1:Int),Builtin.Slice.slicePlaces lo hi 1)) _ _ s
 rw [Zi0 lo hi n]
 show wpAny _ _ (pure (((sIx n 0 lo:Nat):Int),(1:Int),Builtin.Slice.slicePlaces ((sIx n 0 lo:Nat):Int) ((sIx n n hi:Nat):Int) 1)) _ _ s
 rw [Zia]
 exact wpAny_pure h
theorem Zlg(xs:Array Value)(i k:Nat):((List.range k).filterMap fun (m:Nat)=>xs[((i:Int)+(m:Int) * 1).toNat]?).toArray=((xs.toList.drop i).take k).toArray:=by
 have e:(fun (m:Nat)=>xs[((i:Int)+(m:Int) * 1).toNat]?)=fun m=>xs[i+m]? := by
   funext m
   have:((i:Int)+(m:Int) * 1).toNat=i+m:=by omega
   rw [this]
 rw [e]
 have:=pick_run xs i k
 rw [List.filterMap_map] at this
 have e2:((fun x=>xs[x]?) ∘ fun x=>i+x)=fun m=>xs[i+m]? := rfl
 rw [e2] at this
 rw [this]
theorem ZdO{t sl:Addr}{items:Array Value}{vl vu:Value}{lo hi:Option Int}{Q:Value->Shared->Prop}(ht:IsTup s.heap t items)(hs:s.heap.IsSliceOf sl vl vu .none)(pl:IsPart vl lo)(pu:IsPart vu hi)
   (hw:¬ (sIx items.size 0 lo=0/\sIx items.size items.size hi=items.size))
   (h:Q (.ref s.heap.objs.size) {s with heap:=s.heap.push {cls:=.type "tuple",data:=.seq ((items.toList.drop (sIx items.size 0 lo)).take (sIx items.size items.size hi - sIx items.size 0 lo)).toArray}})
   (hsz:items.size<=sizeLine):wpAny (model prog w) A (getItem (.ref t) (.ref sl)) Q E s:=by
 have htake:sizeOk (.seq ((items.toList.drop (sIx items.size 0 lo)).take (sIx items.size items.size hi - sIx items.size 0 lo)).toArray):=by
   show ((items.toList.drop (sIx items.size 0 lo)).take (sIx items.size items.size hi - sIx items.size 0 lo)).toArray.size<=sizeLine
   rw [Of,List.length_take,List.length_drop,Array.length_toList]
   omega
 have hj:sIx items.size items.size hi<=items.size:=Zpe _ _ (Oq _) hi
 obtain ⟨os,hos,hcs,hds⟩:=id hs
 have hTs:s.TypeIs (.ref sl) "slice" := ⟨os,hos,hcs⟩
 unfold getItem
 try with_reducible refine wpAny_holding ?_
 first|refine wpAny_bind (wpAny_pure ?_)|skip
 refine wpAny_bind (wpAny_sequenceKey ht.typeIs (by decide) ?_)
 refine wpAny_bind (wpAny_callSpecial?_slot (name:=O "__getitem__") ht.typeIs PyProof.Rows.slot_tuple_getitem
   (wpAny_call_entry PyProof.Rows.slot_tuple_getitem ht.typeIs entry_tuple_getitem ?_ (args_tuple_getitem _ _)))
 show wpAny _ _ (Builtin.Tuple.tupleItemsOf (.ref t) >>= _) _ _ s
 refine wpAny_bind (tupleItemsOf_ ht ?_)
 refine wpAny_bind (wpAny_typeOf hTs ?_)
 rw [if_pos (by decide)]
 refine wpAny_bind (ZbX hs pl pu ?_)
 have hno:¬ ((((sIx items.size 0 lo:Nat):Int)==0&&(1:Int)==1&&(sIx items.size items.size hi - sIx items.size 0 lo)==items.size)=true):=by
   intro q
   rw [Oa,Oa] at q
   have q1:((sIx items.size 0 lo:Nat):Int)=0:=eq_of_beq q.1.1
   have q2:sIx items.size items.size hi - sIx items.size 0 lo=items.size:=eq_of_beq q.2
   exact hw ⟨by omega,by omega⟩
 show wpAny _ _ (if (((sIx items.size 0 lo:Nat):Int)==0&&(1:Int)==1&&(sIx items.size items.size hi - sIx items.size 0 lo)==items.size)=true then _ else _) _ _ s
 rw [if_neg hno,Zlg]
 first
   | exact wpAny_bind (m:=Builtin.Tuple.tupleExact _) (wpAny_newObj_type (wpAny_pure ⟨_,rfl,wpAny_pure h⟩) htake)
   | exact wpAny_bind (m:=Builtin.Tuple.tupleExact _) (wpAny_newObj_type (wpAny_bind (wpAny_pure (wpAny_pure ⟨_,rfl,wpAny_pure h⟩))) htake)
   | exact wpAny_bind (wpAny_bind (m:=Builtin.Tuple.tupleExact _) (wpAny_newObj_type (wpAny_pure (wpAny_pure ⟨_,rfl,wpAny_pure h⟩)) htake))
   | exact wpAny_bind (wpAny_bind (m:=Builtin.Tuple.tupleExact _) (wpAny_newObj_type (wpAny_pure ⟨_,rfl,wpAny_pure h⟩) htake))
end
end HT
namespace L2
open PySem PySem.Spec PyProof.Rows
noncomputable abbrev TO:=St->Hp->(Option Int->Hp->Prop)->Prop
noncomputable def PO(X:Cx)(e:Option Expr)(t:TO):Prop :=
 ∀ (pins:List (Addr×Obj)) (s:Shared) (Z:St) (H:Hp) (Q:Option Int->Hp->Prop),Inv X pins Z H s->t Z H Q ->
   wpAny (model X.prog X.w) X.A (evalPart e X.env) (fun u s'=>∃ o H',Inv X pins Z H' s'/\IsPart u o/\Q o H') X.xe s
noncomputable def ZmW:TO:=fun _ H Q=>Q none H
noncomputable def ZqQ(t:TE):TO:=fun Z H Q=>t Z H fun x H1=>∃ i,x=.int i/\Q (some i) H1
section
variable {X:Cx}{e:Expr}{te:TE}{lo hi:Option Expr}{tl th:TO}{pos p2:Pos}
theorem Znk:PO X none ZmW:=by
 intro pins s Z H Q I h
 rw [evalPart_none]
 exact wpAny_pure ⟨none,H,I,.none,h⟩
theorem Znj(h:PE X e te):PO X (some e) (ZqQ te):=by
 intro pins s Z H Q I hw
 rw [evalPart_some]
 refine thn (h pins s Z H _ I hw) fun u s1 ⟨x,H1,I1,r1,q1⟩=>?_
 obtain ⟨i,rfl,q⟩:=q1
 obtain ⟨t,rfl⟩:=r1
 exact ⟨some i,H1,I1,.int i t,q⟩
noncomputable def SlR(X:Cx)(r:V->Option Int->Option Int->Hp->VK->Prop):Prop :=
 ∀ (pins:List (Addr×Obj)) (s:Shared) (Z:St) (H:Hp) (x:V) (v vl vu:Value) (lo hi:Option Int) (sl:Addr) (Q:VK),Inv X pins Z H s->RelV x v->s.heap.IsSliceOf sl vl vu .none->IsPart vl lo->IsPart vu hi->r x lo hi H Q ->
   ∃ T id,typeLookup (.type T) "__getitem__" = pure (some (.builtin id))/\s.TypeIs v T/\wpAny (model X.prog X.w) X.A (getItem v (.ref sl)) (EP X pins Z Q) X.xe s
noncomputable def tSl(r:V->Option Int->Option Int->Hp->VK->Prop)(te:TE)(tl th:TO):TE:=fun Z H Q=>te Z H fun x H1=>tl Z H1 fun l H2=>th Z H2 fun u H3=>r x l u H3 Q
theorem Zli{r:V->Option Int->Option Int->Hp->VK->Prop}(hr:SlR X r)(he:PE X e te)(hl:PO X lo tl)(hu:PO X hi th):PE X (.Subscript e (.Slice lo hi none p2) pos) (tSl r te tl th):=by
 intro pins s Z H Q I h
 refine Subscript_ (thn (he pins s Z H _ I h) fun v s1 ⟨x,H1,I1,r1,q1⟩=>?_)
 refine wpAny_Slice (thn (hl pins s1 Z H1 _ I1 q1) fun vl s2 ⟨l,H2,I2,pl,q2⟩=>thn (hu pins s2 Z H2 _ I2 q2) fun vu s3 ⟨u,H3,I3,pu,q3⟩=>?_)
 rw [evalPart_none]
 refine wpAny_pure ?_
 have I4:Inv X pins Z H3 {s3 with heap:=s3.heap.push {cls:=.type "slice",data:=.fields #[vl,vu,.none]}}:=I3.kept (t':=s3.toks) fun b ob q=>Od _ q
 obtain ⟨T,id,hT,ht,hg⟩:=hr pins {s3 with heap:=s3.heap.push {cls:=.type "slice",data:=.fields #[vl,vu,.none]}} Z H3 x v vl vu l u s3.heap.objs.size Q I4 r1 (Heap.IsSliceOf.new ..) pl pu q3
 show wpAny (model X.prog X.w) X.A (subscriptTail e (.Slice lo hi none p2) v (.ref s3.heap.objs.size)) (EP X pins Z Q) X.xe {s3 with heap:=s3.heap.push {cls:=.type "slice",data:=.fields #[vl,vu,.none]}}
 exact tail_any (ops:=[.ref s3.heap.objs.size,v]) ht hT hg (by with_unfolding_all rfl)
noncomputable def ZhE(xs:List V)(lo hi:Option Int):List V:=(xs.drop (HT.sIx xs.length 0 lo)).take (HT.sIx xs.length xs.length hi - HT.sIx xs.length 0 lo)
theorem Zew(xs:List V)(lo hi:Option Int):(ZhE xs lo hi).length<=xs.length:=by
 unfold ZhE
 rw [List.length_take,List.length_drop]
 omega
noncomputable def ZsO(K:PySem.W.Frag):V->Option Int->Option Int->Hp->VK->Prop:=fun x lo hi H Q=>∃ a xs,x=.ref a/\SqT K H a xs /\
 ¬ (HT.sIx xs.length 0 lo=0/\HT.sIx xs.length xs.length hi=xs.length)/\∀ p,H p=none->Q (.ref p) (upd H p (.tup (ZhE xs lo hi)))
theorem Zpb:SlR X (ZsO X.K):=by
 intro pins s Z H x v vl vu lo hi sl Q I rx hs pl pu h
 obtain ⟨a,xs,rfl,hx,hw,q⟩:=h
 cases rx
 obtain ⟨its,r,ht,hz⟩:=I.tuple hx
 have hlen:its.toArray.size=xs.length:=by rw [Of];exact r.length.symm
 refine ⟨"tuple",_,PyProof.Rows.slot_tuple_getitem.lookup,ht.typeIs,?_⟩
 refine HT.ZdO ht hs pl pu (by rw [hlen];exact hw) ?_ (by rw [hlen];exact hz)
 rw [hlen]
 refine ⟨.ref s.heap.objs.size,_,I.laid (t':=s.toks) (o:=.tup (ZhE xs lo hi)) (fun b ob q=>Od _ q) (Oq _) ?_,rfl,q _ (I.hok.fresh (Oq _))⟩
 exact ⟨OE (Zew xs lo hi) hz,_,(r.drop (HT.sIx xs.length 0 lo)).take (HT.sIx xs.length xs.length hi - HT.sIx xs.length 0 lo),Zbd.fresh _ _⟩
noncomputable def Zra(K:PySem.W.Frag):R2:=fun x y H Q=>∃ a b xs ys,x=.ref a/\y=.ref b/\SqT K H a xs/\SqT K H b ys/\xs≠[]/\xs.length+ys.length<=sizeLine /\
 (ys=[]->Q (.ref a) H)/\(ys≠[]->∀ p,H p=none->Q (.ref p) (upd H p (.tup (xs++ys))))
theorem Zi.nil_iff{xs:List V}{us:List Value}(r:Zi xs us):us=[]↔xs=[]:=by
 cases r with
 | nil=>simp
 | cons _ _=>simp
theorem ZnB:OpR X (binaryOp .Add) (Zra X.K):=by
 intro pins s Z H x y v u Q I rx ry h
 obtain ⟨a,b,xs,ys,rfl,rfl,ha,hb,hx,hz,q1,q2⟩:=h
 cases rx
 cases ry
 obtain ⟨its,r1,p1,_⟩:=I.tuple ha
 obtain ⟨its2,r2,p2,_⟩:=I.tuple hb
 refine HT.Zoe p1 p2 (fun z=>hx (r1.nil_iff.mp z)) (fun z=>⟨.ref a,H,I,rfl,q1 (r2.nil_iff.mp z)⟩) (fun z=>?_) (by rw [<- r1.length,<- r2.length];exact hz)
 refine ⟨.ref s.heap.objs.size,_,I.laid (t':=s.toks) (o:=.tup (xs++ys)) (fun b ob q=>Od _ q) (Oq _) ?_,rfl,q2 (fun w=>z (r2.nil_iff.mpr w)) _ (I.hok.fresh (Oq _))⟩
 exact ⟨by rw [OA];exact hz,_,r1.append r2,Zbd.fresh _ _⟩
end
end L2
namespace L2
open PySem PySem.Spec PyProof.Rows
noncomputable def ixN(n:Nat)(i:Int):Option Nat:=if 0<=i then (if i<n then some i.toNat else none) else if -(n:Int)<=i then some (i+n).toNat else none
noncomputable def atI{α:Type}(xs:List α)(i:Int):Option α:=(ixN xs.length i).bind fun j=>xs[j]?
theorem ZjC{n:Nat}{i:Int}{j:Nat}(h:ixN n i=some j):seqIndex? i n=some j/\j<n/\-(n:Int)<=i/\i<n:=by
 unfold ixN at h
 by_cases h0:0<=i
 . rw [if_pos h0] at h
   by_cases h1:i<n
   . rw [if_pos h1] at h
     have e:i.toNat=j:=Option.some.inj h
     exact ⟨by rw [seqIndex_of h0 h1,e],by omega,by omega,h1⟩
   . rw [if_neg h1] at h;cases h
 . rw [if_neg h0] at h
   by_cases h1:-(n:Int)<=i
   . rw [if_pos h1] at h
     have e:(i+n).toNat=j:=Option.some.inj h
     exact ⟨by rw [seqIndex_neg (by omega) h1,e],by omega,h1,by omega⟩
   . rw [if_neg h1] at h;cases h
theorem ZgS{α:Type}{xs:List α}{i:Int}{v:α}(h:atI xs i=some v):∃ j,seqIndex? i xs.length=some j/\xs[j]? = some v/\j<xs.length/\-(xs.length:Int)<=i/\i<xs.length:=by
 unfold atI at h
 cases e:ixN xs.length i with
 | none=>rw [e] at h;cases h
 | some j =>
   rw [e] at h
   obtain ⟨h1,h2,h3,h4⟩:=ZjC e
   exact ⟨j,h1,h,h2,h3,h4⟩
noncomputable def ZjO(b:Expr):Prop:=∀ o i,subscripted b false o i=operate [o,i] (getItem o i)
noncomputable def IxR(X:Cx)(r:R2):Prop :=
 ∀ (value slice:Expr) (pins:List (Addr×Obj)) (s:Shared) (Z:St) (H:Hp) (x y:V) (v u:Value) (Q:VK),Inv X pins Z H s->RelV x v->RelV y u->r x y H Q ->
   subscripted slice false v u=operate [v,u] (getItem v u)->wpAny (model X.prog X.w) X.A (subscriptTail value slice v u) (EP X pins Z Q) X.xe s
noncomputable def MtR(X:Cx)(id:String)(r:V->List V->Hp->VK->Prop):Prop :=
 ∀ (pins:List (Addr×Obj)) (s:Shared) (Z:St) (H:Hp) (x:V) (xs:List V) (v:Value) (us:List Value) (Q:VK),Inv X pins Z H s->RelV x v->Zi xs us->r x xs H Q ->
   wpAny (model X.prog X.w) X.A (call (.builtin id) (v::us)) (EP X pins Z Q) X.xe s
section
variable {X:Cx}{a b:Expr}{ta tb:TE}{pos:Pos}
theorem Zrj{r:R2}(hr:IxR X r)(ha:PE X a ta)(hb:PE X b tb)(hs:ZjO b):PE X (.Subscript a b pos) (tOp r ta tb):=by
 intro pins s Z H Q I h
 exact Subscript_ (Zql ha hb I h fun v u s2 x y H2 I2 rx ry q=>hr a b pins s2 Z H2 x y v u Q I2 rx ry q (hs _ _))
noncomputable def ZsU(K:PySem.W.Frag):R2:=fun x y H Q=>∃ p xs i v,x=.ref p/\y=.int i/\SqL K H p xs/\atI xs i=some v/\Q v H
noncomputable def ZsS(K:PySem.W.Frag):R2:=fun x y H Q=>∃ p xs i v,x=.ref p/\y=.int i/\SqT K H p xs/\atI xs i=some v/\Q v H
noncomputable def ZsT:R2:=fun x y H Q=>∃ z i c,x=.str z/\y=.int i/\z.length<=sizeLine/\atI z.cps.toList i=some c/\Q (.str ⟨#[c]⟩) H
theorem ZnY:IxR X (ZsU X.K):=by
 intro value slice pins s Z H x y v u Q I rx ry h hs
 obtain ⟨p,xs,i,z,rfl,rfl,hq,he,q⟩:=h
 cases rx
 obtain ⟨t,rfl⟩:=ry
 obtain ⟨its,r,pl,hz⟩:=I.list hq
 obtain ⟨j,h1,h2,h3,h4,h5⟩:=ZgS he
 obtain ⟨w,ew,rw'⟩:=r.get h2
 have hl:=r.length
 have hn:=Zbp
 have fin:EP X pins Z Q w s:=⟨z,H,I,rw',q⟩
 by_cases h0:0<=i
 . have hj:i.toNat=j:=by
     rw [seqIndex_of h0 h5] at h1
     exact Option.some.inj h1
   exact item_listR pl.isList h0 (by omega) (by rw [hj];simpa using ew) fin hs
 . have hj:(i+(its.toArray.size:Int)).toNat=j:=by
     rw [seqIndex_neg (by omega) h4] at h1
     rw [Of,<- hl]
     exact Option.some.inj h1
   exact subscriptTail_builtinR (x:=w) pl.isList.typeIs slot_list_getitem.lookup
     (wpAny_getItem_list_neg (Q:=fun r s'=>r=w/\EP X pins Z Q r s') pl.isList (by omega) (by rw [Of]<;>omega) (by omega) (by rw [hj];simpa using ew) ⟨rfl,fin⟩) hs
theorem Zp4:IxR X (ZsS X.K):=by
 intro value slice pins s Z H x y v u Q I rx ry h hs
 obtain ⟨p,xs,i,z,rfl,rfl,hq,he,q⟩:=h
 cases rx
 obtain ⟨t,rfl⟩:=ry
 obtain ⟨its,r,pl,hz⟩:=I.tuple hq
 obtain ⟨j,h1,h2,h3,h4,h5⟩:=ZgS he
 obtain ⟨w,ew,rw'⟩:=r.get h2
 have hl:=r.length
 have hn:=Zbp
 have fin:EP X pins Z Q w s:=⟨z,H,I,rw',q⟩
 exact subscriptTail_builtinR (x:=w) pl.typeIs slot_tuple_getitem.lookup
   (getItem_tuple (j:=j) (Q:=fun r s'=>r=w/\EP X pins Z Q r s') pl (by omega) (by omega) (by rw [Of,<- hl];exact h1) (by simpa using ew) ⟨rfl,fin⟩) hs
theorem Zp5:IxR X ZsT:=by
 intro value slice pins s Z H x y v u Q I rx ry h hs
 obtain ⟨z,i,c,rfl,rfl,hz,he,q⟩:=h
 obtain ⟨t,rfl⟩:=rx
 obtain ⟨t',rfl⟩:=ry
 obtain ⟨j,h1,h2,h3,h4,h5⟩:=ZgS he
 have hl:z.cps.toList.length=z.length:=by simp [Str.length]
 rw [hl] at h1 h4 h5
 have hn:=Zbp
 exact tail_any (typeIs_str s z t) slot_str_getitem.lookup (getItem_str (c:=c) (by
   have e1:decide (i < -(2 ^ 63:Int))=false:=decide_eq_false (by omega)
   have e2:decide (i ≥ 2 ^ 63)=false:=decide_eq_false (by omega)
   rw [e1,e2,Bool.or_false]) (by rw [h1];simpa using h2) ⟨.str ⟨#[c]⟩,H,I.tok _,⟨_,rfl⟩,q⟩) hs
theorem Zih (its:List Value) (n j:Nat) (u:Value):Obj.mapSeq (·.setIfInBounds j u) {cls:=.type "list",data:=.seq its.toArray n}={cls:=.type "list",data:=.seq (its.set j u).toArray n}:=by
 simp [Obj.mapSeq]
theorem Inv.lst{pins:List (Addr×Obj)}{Z:St}{H:Hp}{s:Shared}{p:Addr}{xs:List V}(I:Inv X pins Z H s)(h:H p=some (.lst xs)) :
   ∃ (its:List Value) (n:Nat),Zi xs its/\s.heap.get? p=some {cls:=.type "list",data:=.seq its.toArray n}/\xs.length<=sizeLine:=by
 obtain ⟨z,its,n,r,e⟩:=I.hok p _ h
 exact ⟨its,n,r,e,z⟩
theorem Inv.lstUpd{pins:List (Addr×Obj)}{Z:St}{H:Hp}{s:Shared}{p:Addr}{xs ys:List V}{its its':List Value}{n n':Nat}{f:Obj->Obj}(I:Inv X pins Z H s)(h:H p=some (.lst xs))
   (ho:s.heap.get? p=some {cls:=.type "list",data:=.seq its.toArray n}) (hf:f {cls:=.type "list",data:=.seq its.toArray n}={cls:=.type "list",data:=.seq its'.toArray n'}) (r:Zi ys its') (hz:ys.length<=sizeLine) (t:Nat) :
   Inv X pins Z (upd H p (.lst ys)) {s with heap:=s.heap.update p f,toks:=t}:=by
 have e:(s.heap.update p f).get? p=some {cls:=.type "list",data:=.seq its'.toArray n'}:=by
   rw [Heap.get?_update_self f ho (by rw [hf]<;>rfl),hf]
 refine I.write (x:=p) (e:=p) (by rw [h];trivial) (.inl rfl) (fun b u hb q=>(Heap.get?_update_other _ _ (Ne.symm hb)).trans q) ⟨_,e⟩ ?_
 exact ⟨hz,its',n',r,e⟩
noncomputable def Zq8:V->V->V->Hp->(Hp->Prop)->Prop:=fun o i v H Q=>∃ p xs k j,o=.ref p/\i=.int k/\H p=some (.lst xs)/\ixN xs.length k=some j/\Q (upd H p (.lst (xs.set j v)))
theorem set_list:Zoo X Zq8:=by
 intro pins s Z H o i v ov iv u Q I ro ri rv h
 obtain ⟨p,xs,k,j,rfl,rfl,hp,hj,q⟩:=h
 cases ro
 obtain ⟨t,rfl⟩:=ri
 obtain ⟨its,n,r,ho,hz⟩:=I.lst hp
 obtain ⟨h1,h2,h3,h4⟩:=ZjC hj
 have hl:=r.length
 have hn:=Zbp
 have I':Inv X pins Z (upd H p (.lst (xs.set j v))) {s with heap:=s.heap.update p (Obj.mapSeq (·.setIfInBounds j u))} :=
   I.lstUpd hp ho (Zih its n j u) (r.set rv j) (by rw [List.length_set];exact hz) s.toks
 by_cases h0:0<=k
 . have hk:k.toNat=j:=by
     rw [seqIndex_of h0 h4] at h1
     exact Option.some.inj h1
   exact PySem.W.ki_setAt ho h0 (by omega) (by rw [Of,<- hl];exact h4) (by rw [hk];exact ⟨_,I',q⟩)
 . have hk:(k+(its.toArray.size:Int)).toNat=j:=by
     rw [seqIndex_neg (by omega) h3] at h1
     rw [Of,<- hl]
     exact Option.some.inj h1
   exact PySem.W.ki_setBack ho (by omega) (by rw [Of,<- hl];exact h3) (by omega) (by rw [hk];exact ⟨_,I',q⟩)
theorem Zgh(lo hi:Option Int)(n:Nat):(sliceBounds lo hi none n).1=((HT.sIx n 0 lo:Nat):Int)/\(sliceBounds lo hi none n).2.1=((HT.sIx n n hi:Nat):Int)/\(sliceBounds lo hi none n).2.2=1:=by
 refine ⟨?_,?_,rfl⟩
 . cases lo with
   | none=>simp [sliceBounds,HT.sIx]
   | some i =>
     simp only [sliceBounds,HT.sIx,Option.getD_none,show (1:Int) > 0 by decide,if_true]
     by_cases h:i<0
     . simp only [h,if_true]<;>omega
     . simp only [h,if_false]<;>omega
 . cases hi with
   | none=>simp [sliceBounds,HT.sIx]
   | some i =>
     simp only [sliceBounds,HT.sIx,Option.getD_none,show (1:Int) > 0 by decide,if_true]
     by_cases h:i<0
     . simp only [h,if_true]<;>omega
     . simp only [h,if_false]<;>omega
theorem ZfJ(its:List Value)(lo hi:Option Int):slicePick its.toArray lo hi none=((its.drop (HT.sIx its.length 0 lo)).take (HT.sIx its.length its.length hi - HT.sIx its.length 0 lo)).toArray:=by
 obtain ⟨h1,h2,h3⟩:=Zgh lo hi its.toArray.size
 unfold slicePick
 rw [h1,h2,h3]
 simp only [sliceRange_one,pick_run,Of]<;>rfl
noncomputable def ZsQ(K:PySem.W.Frag):V->Option Int->Option Int->Hp->VK->Prop:=fun x lo hi H Q=>∃ a xs,x=.ref a/\SqL K H a xs/\∀ p,H p=none->Q (.ref p) (upd H p (.lst (ZhE xs lo hi)))
theorem ZmY:SlR X (ZsQ X.K):=by
 intro pins s Z H x v vl vu lo hi sl Q I rx hs pl pu h
 obtain ⟨a,xs,rfl,hx,q⟩:=h
 cases rx
 obtain ⟨its,r,ht,hz⟩:=I.list hx
 have hlen:=r.length
 refine ⟨"list",_,slot_list_getitem.lookup,ht.isList.typeIs,?_⟩
 refine wpAny_getItem_list_slice ht.isList hs pl pu .none (by simp) ?_ (by rw [Of]<;>omega)
 rw [ZfJ,<- hlen]
 refine ⟨.ref s.heap.objs.size,_,I.laid (t':=s.toks) (o:=.lst (ZhE xs lo hi)) (fun b ob q=>Od _ q) (Oq _) ?_,rfl,q _ (I.hok.fresh (Oq _))⟩
 exact ⟨OE (Zew xs lo hi) hz,_,0,(r.drop (HT.sIx xs.length 0 lo)).take (HT.sIx xs.length xs.length hi - HT.sIx xs.length 0 lo),Oj _ rfl⟩
noncomputable def Zdh:V->Bool
 | .non=>true
 | .bl _=>true
 | .int _=>true
 | .str _=>true
 | _=>false
noncomputable def eqV:V->V->Bool
 | .non,.non=>true
 | .bl a,.bl b=>a==b
 | .bl a,.int b=>(if a then 1 else 0)==b
 | .int a,.bl b=>a==(if b then 1 else 0)
 | .int a,.int b=>a==b
 | .str a,.str b=>a==b
 | _,_=>false
theorem Zqh{A:Around}{s:Shared}{y x:V}{u v:Value}(ry:RelV y u)(rx:RelV x v)(fy:Zdh y=true)(fx:Zdh x=true):SeqAt.EqAt A s u v (eqV y x):=by
 cases y with
 | non =>
   cases ry
   cases x with
   | non=>cases rx;exact SeqAt.EqAt.same _
   | bl b=>cases rx;exact SeqAt.EqAt.none_bool b
   | int b=>obtain ⟨t,rfl⟩:=rx;exact SeqAt.EqAt.none_int b t
   | str b=>obtain ⟨t,rfl⟩:=rx;exact SeqAt.EqAt.none_str b t
   | _=>exact absurd (show false=true from fx) Ow
 | bl a =>
   cases ry
   cases x with
   | non=>cases rx;exact SeqAt.EqAt.bool_none a
   | bl b=>cases rx;exact SeqAt.EqAt.bool_bool a b
   | int b=>obtain ⟨t,rfl⟩:=rx;exact SeqAt.EqAt.bool_int a b t
   | str b=>obtain ⟨t,rfl⟩:=rx;exact SeqAt.EqAt.bool_str a b t
   | _=>exact absurd (show false=true from fx) Ow
 | int a =>
   obtain ⟨t',rfl⟩:=ry
   cases x with
   | non=>cases rx;exact SeqAt.EqAt.int_none a t'
   | bl b=>cases rx;exact SeqAt.EqAt.int_bool a t' b
   | int b=>obtain ⟨t,rfl⟩:=rx;exact SeqAt.EqAt.int_int a t' b t
   | str b=>obtain ⟨t,rfl⟩:=rx;exact SeqAt.EqAt.int_str a t' b t
   | _=>exact absurd (show false=true from fx) Ow
 | str a =>
   obtain ⟨t',rfl⟩:=ry
   cases x with
   | non=>cases rx;exact SeqAt.EqAt.str_none a t'
   | bl b=>cases rx;exact SeqAt.EqAt.str_bool a t' b
   | int b=>obtain ⟨t,rfl⟩:=rx;exact SeqAt.EqAt.str_int a t' b t
   | str b=>obtain ⟨t,rfl⟩:=rx;exact SeqAt.EqAt.str_str a t' b t
   | _=>exact absurd (show false=true from fx) Ow
 | _=>exact absurd (show false=true from fy) Ow
noncomputable def eqU(x:V)(u:Value):Bool:=match u with
 | .none=>eqV .non x
 | .bool b=>eqV (.bl b) x
 | .int i _=>eqV (.int i) x
 | .str z _=>eqV (.str z) x
 | _=>false
theorem Zmg{x y:V}{u:Value}(r:RelV y u)(f:Zdh y=true):eqU x u=eqV y x:=by
 cases y with
 | non=>cases r;rfl
 | bl b=>cases r;rfl
 | int i=>obtain ⟨t,rfl⟩:=r;rfl
 | str z=>obtain ⟨t,rfl⟩:=r;rfl
 | _=>exact absurd (show false=true from f) Ow
theorem ZdY{x:V}:∀ {xs:List V}{us:List Value},Zi xs us->xs.all Zdh=true->us.any (eqU x)=xs.any fun y=>eqV y x
 | _,_,.nil,_=>rfl
 | y::xs,u::us,.cons r t,f=>by
   rw [List.all_cons,Oa] at f
   rw [List.any_cons,List.any_cons,Zmg r f.1,ZdY t f.2]
theorem Zcy{A:Around}{s:Shared}{x:V}{v:Value}(rx:RelV x v)(fx:Zdh x=true):∀ {xs:List V}{us:List Value},Zi xs us->xs.all Zdh=true->∀ u∈us,SeqAt.EqAt A s u v (eqU x u)
 | _,_,.nil,_=>fun u hu=>by cases hu
 | y::xs,u::us,.cons r t,f=>fun u' hu=>by
   rw [List.all_cons,Oa] at f
   rcases O2.mp hu with rfl|hu
   . rw [Zmg r f.1];exact Zqh r rx f.1 fx
   . exact Zcy rx fx t f.2 u' hu
noncomputable def inV(x:V)(xs:List V):Bool:=xs.any fun y=>eqV y x
noncomputable def rIn(K:PySem.W.Frag)(neg:Bool):R2:=fun x y H Q=>∃ p xs,y=.ref p/\(SqL K H p xs\/SqT K H p xs)/\Zdh x=true/\xs.all Zdh=true/\Q (.bl (if neg then !inV x xs else inV x xs)) H
theorem Zkd:OpR X (compareOp .In) (rIn X.K false):=by
 intro pins s Z H x y v u Q I rx ry h
 obtain ⟨p,xs,rfl,hq,fx,fs,q⟩:=h
 cases ry
 rcases hq with hq|hq
 . obtain ⟨its,r,pl,hz⟩:=I.list hq
   refine SeqAt.in_listAt (eqU x) pl.isList (fun w hw=>Zcy rx fx r fs w (by simpa using hw)) ⟨.bl _,H,I,rfl,?_⟩
   rw [show its.toArray.any (eqU x)=its.any (eqU x) by simp,ZdY r fs]
   exact q
 . obtain ⟨its,r,pl,hz⟩:=I.tuple hq
   refine SeqAt.in_tupleAt (eqU x) pl (fun w hw=>Zcy rx fx r fs w (by simpa using hw)) ⟨.bl _,H,I,rfl,?_⟩
   rw [show its.toArray.any (eqU x)=its.any (eqU x) by simp,ZdY r fs]
   exact q
theorem Zgk:OpR X (compareOp .NotIn) (rIn X.K true):=by
 intro pins s Z H x y v u Q I rx ry h
 obtain ⟨p,xs,rfl,hq,fx,fs,q⟩:=h
 cases ry
 rcases hq with hq|hq
 . obtain ⟨its,r,pl,hz⟩:=I.list hq
   refine SeqAt.notIn_listAt (eqU x) pl.isList (fun w hw=>Zcy rx fx r fs w (by simpa using hw)) ⟨.bl _,H,I,rfl,?_⟩
   rw [show its.toArray.any (eqU x)=its.any (eqU x) by simp,ZdY r fs]
   exact q
 . obtain ⟨its,r,pl,hz⟩:=I.tuple hq
   refine SeqAt.notIn_tupleAt (eqU x) pl (fun w hw=>Zcy rx fx r fs w (by simpa using hw)) ⟨.bl _,H,I,rfl,?_⟩
   rw [show its.toArray.any (eqU x)=its.any (eqU x) by simp,ZdY r fs]
   exact q
theorem ZgN:Zca X (.builtin "len") (fun xs H Q=>∃ p ys,xs=[.ref p]/\(SqL X.K H p ys\/SqT X.K H p ys)/\Q (.int ys.length) H):=by
 intro pins s Z H xs us Q I r h
 obtain ⟨p,ys,rfl,hq,q⟩:=h
 obtain ⟨u,rfl,rx⟩:=vals1 r
 cases rx
 have hn:=Zbp
 rcases hq with hq|hq
 . obtain ⟨its,r',pl,hz⟩:=I.list hq
   have hlen:=r'.length
   exact Calls.call_len_list pl.isList (by simp only [Of]<;>omega) ⟨.int ys.length,H,I.tok _,⟨s.toks+1,by rw [Of,hlen]⟩,q⟩
 . obtain ⟨its,r',pl,hz⟩:=I.tuple hq
   have hlen:=r'.length
   exact len_tuple pl (by simp only [Of]<;>omega) ⟨.int ys.length,H,I.tok _,⟨s.toks+1,by rw [Of,hlen]⟩,q⟩
theorem ZgM:Zca X (.builtin "len") (fun xs H Q=>∃ z,xs=[.str z]/\z.length<=sizeLine/\Q (.int z.length) H):=by
 intro pins s Z H xs us Q I r h
 obtain ⟨z,rfl,hz,q⟩:=h
 obtain ⟨u,rfl,t,rfl⟩:=vals1 r
 have hn:=Zbp
 exact len_str (by omega) ⟨.int z.length,H,I.tok _,⟨_,rfl⟩,q⟩
theorem Zdj:Zca X (.type "tuple") (fun xs H Q=>∃ p ys,xs=[.ref p]/\((SqL X.K H p ys/\∀ l,H l=none->Q (.ref l) (upd H l (.tup ys)))\/(SqT X.K H p ys/\Q (.ref p) H))):=by
 intro pins s Z H xs us Q I r h
 obtain ⟨p,ys,rfl,h⟩:=h
 obtain ⟨u,rfl,rx⟩:=vals1 r
 cases rx
 rcases h with ⟨hq,q⟩|⟨hq,q⟩
 . obtain ⟨its,r',pl,hz⟩:=I.list hq
   have hlen:=r'.length
   refine call_tuple_list pl.isList (fun h' kp=>?_) (by simp only [Of]<;>omega)
   have I1:Inv X pins Z H {s with heap:=h'}:=I.kept (t':=s.toks) kp
   have I2:Inv X pins Z (upd H h'.objs.size (.tup ys)) {s with heap:=h'.push {cls:=.type "tuple",data:=.seq its.toArray}} :=
     I1.laid (t':=s.toks) (fun b o e=>Od _ e) (Oq _) (show ZaC X.prog X.w _ _ _ (.tup ys) from ⟨hz,its,r',Zbd.fresh _ _⟩)
   exact ⟨.ref h'.objs.size,_,I2,rfl,q _ (I1.hok.fresh (Oq _))⟩
 . obtain ⟨its,r',pl,hz⟩:=I.tuple hq
   exact call_tuple_same pl ⟨.ref p,H,I,rfl,q⟩
noncomputable def tyV(K:PySem.W.Frag)(T:String)(x:V)(H:Hp):Prop:=match x with
 | .str _=>T = "str"
 | .int _=>T = "int"
 | .ref p=>(T = "list" /\ ∃ xs,SqL K H p xs)\/(T = "tuple" /\ ∃ o,K.lookup p=some o/\o.cls=.type "tuple" /\ o.dict=none) \/
     (T = "dict" /\ ((∃ kvs,H p=some (.dK kvs))\/∃ kvs,H p=some (.dT kvs)))\/(T = "set" /\ ∃ S_ n,H p=some (.set S_ n))
 | _=>False
theorem ZkE{pins:List (Addr×Obj)}{Z:St}{H:Hp}{s:Shared}{T:String}{x:V}{v:Value}(I:Inv X pins Z H s)(r:RelV x v)(ty:tyV X.K T x H) :
   s.TypeIs v T/\∀ a,v=.ref a->∃ ob,s.heap.get? a=some ob/\ob.dict=none:=by
 cases x with
 | str z =>
   obtain ⟨t,rfl⟩:=r
   cases (show T = "str" from ty)
   exact ⟨typeIs_str s z t,fun _ e=>nomatch e⟩
 | int i =>
   obtain ⟨t,rfl⟩:=r
   cases (show T = "int" from ty)
   exact ⟨typeIs_int s i t,fun _ e=>nomatch e⟩
 | ref p =>
   cases r
   rcases ty with ⟨rfl,xs,hq⟩|⟨rfl,o,hk,hc,hd⟩|⟨rfl,hk⟩|⟨rfl,S_,n,hk⟩
   . obtain ⟨its,_,pl,_⟩:=I.list hq
     refine ⟨pl.isList.typeIs,fun a e=>?_⟩
     cases e
     obtain ⟨o,n,e,c,hd,_⟩:=pl
     exact ⟨o,e,hd⟩
   . refine ⟨⟨o,I.kIn p o hk,hc⟩,fun a e=>?_⟩
     cases e
     exact ⟨o,I.kIn _ o hk,hd⟩
   . have z:∃ o,s.heap.get? p=some o/\o.ExactDict:=by
       rcases hk with ⟨kvs,hk⟩|⟨kvs,hk⟩
       . obtain ⟨_,_,_,_,o,_,_,e,ex,_⟩:=I.hok p _ hk
         exact ⟨o,e,ex⟩
       . obtain ⟨_,_,_,_,o,_,_,e,ex,_⟩:=I.hok p _ hk
         exact ⟨o,e,ex⟩
     obtain ⟨o,e,ex⟩:=z
     refine ⟨⟨o,e,ex.1⟩,fun a e2=>?_⟩
     cases e2
     exact ⟨o,e,ex.2.1⟩
   . obtain ⟨o,_,_,_,e,ex,_⟩:=I.hok p _ hk
     refine ⟨⟨o,e,ex.1⟩,fun a e2=>?_⟩
     cases e2
     exact ⟨o,e,ex.2.1⟩
 | _=>exact False.elim ty
noncomputable def ZsD(K:PySem.W.Frag)(T:String)(r:V->List V->Hp->VK->Prop)(to:TE):TE:=fun Z H Q=>to Z H fun x H1=>tyV K T x H1/\r x [] H1 Q
noncomputable def tBM(K:PySem.W.Frag)(T:String)(r:V->List V->Hp->VK->Prop)(to:TE)(t:TA):TE:=fun Z H Q=>to Z H fun x H1=>tyV K T x H1/\t Z H1 fun xs H2=>r x xs H2 Q
variable {o e:Expr}{es:List Expr}{to:TE}{t:TA}{name:Str}{apos cpos:Pos}{T id:String}{r:V->List V->Hp->VK->Prop}
theorem ZpE (pa:PlainAttrs T) (slot:Slot T name id) (hty:typeOf (.builtin id)=pure (.type "method_descriptor")) (hm:MtR X id r) (ho:PE X o to)
   (hbase:attributeBase o name X.env (eval o X.env)=eval o X.env:=by rfl) (hline:(apos.endLine==cpos.line)=true:=by rfl):PE X (.Call (.Attribute o name apos) [] [] cpos) (ZsD X.K T r to):=by
 intro pins s Z H Q I h
 refine wpAny_Call_method0_late hbase hline (thn (ho pins s Z H _ I h) fun v s1 ⟨x,H1,I1,r1,ty,q1⟩=>?_)
 obtain ⟨h1,h2⟩:=ZkE I1 r1 ty
 exact ⟨T,id,pa,slot,hty,h1,h2,Calls.callWith_builtin rfl (PySem.evalArgs_none (hm pins s1 Z H1 x [] v [] Q I1 r1 .nil q1))⟩
theorem Zrk (pa:PlainAttrs T) (slot:Slot T name id) (hty:typeOf (.builtin id)=pure (.type "method_descriptor")) (hm:MtR X id r) (ho:PE X o to) (ha:PA X (e::es) t)
   (hbase:attributeBase o name X.env (eval o X.env)=eval o X.env:=by rfl)
   (hfew:((backTo cpos (starEach (e::es) X.env)).all (fun x=>!x.1)&&(backToKw cpos (keywordEach [] X.env)).all (fun x=>x.1.isSome)
     && decide ((e::es).length+([]:List Keyword).length+(if ([]:List Keyword).isEmpty then 0 else 1)<30))=true:=by rfl)
   (hline:(apos.endLine==cpos.line)=true:=by rfl) (hs:starEach (e::es) X.env=(false,eval e X.env)::starEach es X.env:=by rfl) (hplain:(backTo cpos (starEach es X.env)).any (·.1)=false:=by rfl) :
   PE X (.Call (.Attribute o name apos) (e::es) [] cpos) (tBM X.K T r to t):=by
 intro pins s Z H Q I h
 refine wpAny_Call_method_late hbase hfew hline rfl (thn (ho pins s Z H _ I h) fun v s1 ⟨x,H1,I1,r1,ty,q1⟩=>?_)
 obtain ⟨h1,h2⟩:=ZkE I1 r1 ty
 refine ⟨T,id,pa,slot,hty,h1,h2,?_⟩
 have hA:=ha cpos pins s1 Z H1 _ I1 q1
 rw [hs] at hA ⊢
 refine Calls.callWith_builtin (by show (false || (backTo cpos (starEach es X.env)).any (·.1))=false;rw [hplain]<;>rfl) (Calls.evalArgs_plain ?_)
 exact thn hA fun us s2 ⟨vs,H2,I2,r2,q2⟩=>hm pins s2 Z H2 x vs v us Q I2 r1 r2 q2
end
end L2
namespace L2
open PySem PySem.Spec PyProof.Rows
noncomputable def MtM(X:Cx)(id:String)(r:V->List V->Hp->VK->Prop):Prop :=
 ∀ (pins:List (Addr×Obj)) (s:Shared) (Z:St) (H:Hp) (x:V) (xs:List V) (v:Value) (us:List Value) (Q:VK),Inv X pins Z H s->RelV x v->Zi xs us->r x xs H Q ->
   wpAny (model X.prog X.w) X.A (call (.builtin id) (v::us)) (EP X pins Z Q) X.xe s
theorem Zi.one:∀ {x:V}{us:List Value},Zi [x] us->∃ u,us=[u]/\RelV x u
 | _,_,.cons r .nil=>⟨_,rfl,r⟩
theorem Zi.zero:∀ {us:List Value},Zi [] us->us=[]
 | _,.nil=>rfl
theorem Zi.dropLast{xs:List V}{us:List Value}(h:Zi xs us):Zi xs.dropLast us.dropLast:=by
 induction h with
 | nil=>exact .nil
 | cons r t ih =>
   cases t with
   | nil=>exact .nil
   | cons q t'=>exact .cons r ih
theorem Zi.reverse{xs:List V}{us:List Value}(h:Zi xs us):Zi xs.reverse us.reverse:=by
 induction h with
 | nil=>exact .nil
 | cons r t ih=>rw [List.reverse_cons,List.reverse_cons];exact Zi.append ih (.cons r .nil)
theorem ZiJ{α:Type}(l:List α):l.eraseIdx (l.length - 1)=l.dropLast:=by
 induction l with
 | nil=>rfl
 | cons a r ih =>
   cases r with
   | nil=>rfl
   | cons b r =>
     have e:(a::b::r).length - 1=((b::r).length - 1)+1:=by
       have h1:(a::b::r).length=r.length+2:=rfl
       have h2:(b::r).length=r.length+1:=rfl
       omega
     rw [e,List.eraseIdx_cons_succ,ih]
     all_goals rfl
section
variable {X:Cx}{pins:List (Addr×Obj)}{Z:St}{H:Hp}{s:Shared}{l b:Addr}{xs ys zs:List V}
theorem Inv.lset{its its':List Value}{n:Nat}{f:Array Value->Array Value}{t':Nat}(I:Inv X pins Z H s)(hH:H l=some (.lst xs))
   (e:s.heap.get? l=some {cls:=.type "list",data:=.seq its.toArray n}) (hf:f its.toArray=its'.toArray) (hv:Zi ys its') (hz:ys.length<=sizeLine) :
   Inv X pins Z (upd H l (.lst ys)) {s with heap:=s.heap.update l (Obj.mapSeq f),toks:=t'}:=by
 have q:=PySem.IsL.update e f
 rw [hf] at q
 refine I.write (x:=l) (e:=l) (by rw [hH];exact trivial) (.inl rfl) (fun b' u hb hu=>(Heap.get?_update_other s.heap (Obj.mapSeq f) (Ne.symm hb)).trans hu) ⟨_,q⟩ ?_
 exact ⟨hz,its',_,hv,q⟩
theorem Inv.lnew{its:List Value}{t':Nat}(I:Inv X pins Z H s)(hv:Zi ys its)(hz:ys.length<=sizeLine) :
   Inv X pins Z (upd H s.heap.objs.size (.lst ys)) {s with heap:=s.heap.push {cls:=.type "list",data:=.seq its.toArray},toks:=t'} :=
 I.laid (fun _ _ q=>Od _ q) (Oq _) ⟨hz,its,0,hv,Oj _ rfl⟩
theorem Inv.fresh(I:Inv X pins Z H s):H s.heap.objs.size=none:=I.hok.fresh (Oq _)
theorem Inv.lstM (I:Inv X pins Z H s) (hH:H l=some (.lst xs)):xs.length<=sizeLine/\∃ (its:List Value) (n:Nat),Zi xs its/\xs.length=its.length/\s.heap.get? l=some {cls:=.type "list",data:=.seq its.toArray n}:=by
 obtain ⟨z,its,n,r,e⟩:=I.hok l _ hH
 exact ⟨z,its,n,r,r.length,e⟩
theorem Zhi{n:Nat}(h:n<=sizeLine):Builtin.List.listTooLong n=false:=by
 unfold Builtin.List.listTooLong
 exact decide_eq_false (by omega)
end
section
variable {X:Cx}
noncomputable def Znb:V->List V->Hp->VK->Prop:=fun x vs H Q=>∃ l xs y,x=.ref l/\vs=[y]/\H l=some (.lst xs)/\xs.length<sizeLine/\Q .non (upd H l (.lst (xs++[y])))
theorem Zd7:MtM X "list.append" Znb:=by
 intro pins s Z H x vs v us Q I rx rv h
 obtain ⟨l,xs,y,rfl,rfl,hH,hz,q⟩:=h
 cases rx
 obtain ⟨u,rfl,ru⟩:=rv.one
 obtain ⟨z,its,n,r,hl,e⟩:=I.lstM hH
 refine call_meets F.slot_list_append ⟨_,e,rfl⟩ F.entry_list_append (F.args_list_append_2 _ _) (PySem.list_append l its.toArray n u (by rw [Of];omega)) ⟨e,?_⟩
 refine ⟨.non,_,I.lset (its':=its++[u]) hH e (by simp) (r.append (.cons ru .nil)) ?_,rfl,q⟩
 rw [OA,List.length_singleton]
 omega
noncomputable def Zna:V->List V->Hp->VK->Prop:=fun x vs H Q=>∃ l b xs zs,x=.ref l/\vs=[.ref b]/\H l=some (.lst xs)/\H b=some (.lst zs)/\xs.length+zs.length<=sizeLine/\Q .non (upd H l (.lst (xs++zs)))
theorem Zkh:MtM X "list.extend" Zna:=by
 intro pins s Z H x vs v us Q I rx rv h
 obtain ⟨l,b,xs,zs,rfl,rfl,hH,hB,hz,q⟩:=h
 cases rx
 obtain ⟨u,rfl,ru⟩:=rv.one
 cases ru
 obtain ⟨z,its,n,r,hl,e⟩:=I.lstM hH
 obtain ⟨z2,its2,n2,r2,hl2,e2⟩:=I.lstM hB
 have hsz:its.toArray.size+its2.toArray.size<=sizeLine:=by rw [Of,Of];omega
 have hlong:¬ (!its.toArray.isEmpty&&Builtin.List.listTooLong (its.toArray.size+its2.toArray.size))=true:=by
   rw [Zhi hsz,Bool.and_false]
   exact Ow
 refine call_meets F.slot_list_extend ⟨_,e,rfl⟩ F.entry_list_extend (F.args_list_extend_2 _ _)
   (AutoSeq1.list_extend_list_list_0 l its.toArray n b its2.toArray n2 hlong (by rw [Of];omega) (by omega)) ⟨e,e2,?_⟩
 refine ⟨.non,_,I.lset (its':=its++its2) hH e (by simp) (r.append r2) ?_,rfl,q⟩
 rw [OA]
 omega
noncomputable def ZsR:V->List V->Hp->VK->Prop:=fun x vs H Q=>∃ l xs y,x=.ref l/\vs=[]/\H l=some (.lst xs)/\xs[xs.length - 1]? = some y/\Q y (upd H l (.lst xs.dropLast))
theorem ZpR:MtM X "list.pop" ZsR:=by
 intro pins s Z H x vs v us Q I rx rv h
 obtain ⟨l,xs,y,rfl,rfl,hH,hy,q⟩:=h
 cases rx
 have hus:=rv.zero
 subst hus
 obtain ⟨z,its,n,r,hl,e⟩:=I.lstM hH
 obtain ⟨u,hu,ru⟩:=r.get hy
 have hy':its.toArray[its.toArray.size - 1]? = some u:=by
   show its.toArray[its.length - 1]? = some u
   rw [<- Array.getElem?_toList,<- hl]
   exact hu
 refine call_meets F.slot_list_pop ⟨_,e,rfl⟩ F.entry_list_pop (F.args_list_pop_1 _) (MeetsSeq.list_pop_last l its.toArray n u hy' (by rw [Of];omega)) ⟨e,?_⟩
 refine ⟨y,_,I.lset (its':=its.dropLast) hH e ?_ r.dropLast ?_,ru,q⟩
 . show its.toArray.eraseIdxIfInBounds (its.toArray.size - 1)=its.dropLast.toArray
   rw [Of,List.eraseIdxIfInBounds_toArray,ZiJ]
 . rw [List.length_dropLast]
   omega
noncomputable def Zk4:V->List V->Hp->VK->Prop:=fun x vs H Q=>∃ l xs,x=.ref l/\vs=[]/\H l=some (.lst xs)/\Q .non (upd H l (.lst xs.reverse))
theorem Zif:MtM X "list.reverse" Zk4:=by
 intro pins s Z H x vs v us Q I rx rv h
 obtain ⟨l,xs,rfl,rfl,hH,q⟩:=h
 cases rx
 have hus:=rv.zero
 subst hus
 obtain ⟨z,its,n,r,hl,e⟩:=I.lstM hH
 refine call_meets F.slot_list_reverse ⟨_,e,rfl⟩ F.entry_list_reverse (F.args_list_reverse_1 _) (AutoSeq1.list_reverse_list_0 l its.toArray n (by rw [Of];omega)) ⟨e,?_⟩
 refine ⟨.non,_,I.lset (its':=its.reverse) hH e (by simp) r.reverse ?_,rfl,q⟩
 rw [List.length_reverse]
 omega
noncomputable def Zpk:V->List V->Hp->VK->Prop:=fun x vs H Q=>∃ l xs,x=.ref l/\vs=[]/\H l=some (.lst xs)/\Q .non (upd H l (.lst []))
theorem ZlB:MtM X "list.clear" Zpk:=by
 intro pins s Z H x vs v us Q I rx rv h
 obtain ⟨l,xs,rfl,rfl,hH,q⟩:=h
 cases rx
 have hus:=rv.zero
 subst hus
 obtain ⟨z,its,n,r,hl,e⟩:=I.lstM hH
 refine call_meets F.slot_list_clear ⟨_,e,rfl⟩ F.entry_list_clear (F.args_list_clear_1 _) (AutoSeq1.list_clear_list_0 l its.toArray n (by rw [Of];omega)) ⟨e,?_⟩
 exact ⟨.non,_,I.lset (its':=[]) (ys:=[]) hH e rfl .nil (Nat.zero_le _),rfl,q⟩
noncomputable def ZsW:R2:=fun x y H Q=>∃ l b xs zs,x=.ref l/\y=.ref b/\H l=some (.lst xs)/\H b=some (.lst zs)/\xs.length+zs.length<=sizeLine/\∀ p,H p=none->Q (.ref p) (upd H p (.lst (xs++zs)))
theorem ZpL:OpR X (binaryOp .Add) ZsW:=by
 intro pins s Z H x y v u Q I rx ry h
 obtain ⟨l,b,xs,zs,rfl,rfl,hH,hB,hz,q⟩:=h
 cases rx
 cases ry
 obtain ⟨z,its,n,r,hl,e⟩:=I.lstM hH
 obtain ⟨z2,its2,n2,r2,hl2,e2⟩:=I.lstM hB
 refine PySem.P.add_list e e2 ?_ (by rw [Of,Of];omega)
 have ea:its.toArray++its2.toArray=(its++its2).toArray:=by simp
 rw [ea]
 exact ⟨.ref _,_,I.lnew (t':=s.toks) (r.append r2) (by rw [OA];omega),rfl,q _ I.fresh⟩
end
end L2
namespace Att
open PySem PySem.W PySem.Calls PyProof.Rows
theorem ZeE{P:Params}{h:Heap}:∀ (ns:List Int) (vs:List Value),WellAll P h vs (ns.map WData.int)->IntsAre vs ns:=by
 intro ns
 induction ns with
 | nil =>
   intro vs w
   rw [Oy] at w
   cases w
   exact .nil
 | cons n ns ih =>
   intro vs w
   rw [Op] at w
   cases w with
   | cons a b =>
     cases a
     exact .cons _ _ (ih _ b)
theorem Zj1{l:OpenLaw}{n:Nat}(hn:l.most=some n){P:Params}{h:Heap}{args:List WData}{vals:List Value}
   (hpre:l.row.toRowW.claim.pre args=true) (hwl:WellAll P h vals args) :
   ∃ a vs ns,vals=[Value.ref a]/\args=[WData.list (ns.map WData.int)]/\h.get? a=some {cls:=.type "list",data:=.seq vs.toArray}/\IntsAre vs ns/\ns.length<=n:=by
 have hsh:WShape.hasAll [] args [.list .int]=true:=(pre_splitW hpre).1
 have hc:l.pre.holds [] {args:=args}=true:=(pre_splitW hpre).2
 obtain ⟨d,r,rfl,h1,h2⟩:=hasAllW_cons hsh
 obtain rfl:=hasAllW_nil h2
 obtain ⟨xs,rfl,h3⟩:=hasW_list h1
 obtain ⟨ns,rfl⟩:=items_int h3
 have hlen:ns.length<=n:=by
   unfold OpenLaw.pre at hc
   have h4:(WTm.not (.lt (.lit (.int (n:Int))) (.len (.arg 0)))).holds [] {args:=[.list (ns.map .int)]}=true:=by
     have h4:=(holds_andW hc).1
     rw [hn] at h4
     exact h4
   have h5:=condW_of h4 (w_not (w_lt w_lit (w_len_list (w_arg rfl))))
   rw [List.length_map] at h5
   refine Nat.le_of_not_lt fun q=>?_
   have q':(n:Int)<((ns.length:Nat):Int):=by omega
   first
     | (rw [decide_eq_true q'] at h5;exact absurd h5 (by decide))
     | (simp at h5;omega)
 cases hwl with
 | cons w1 w2 =>
   cases w2
   cases w1 with
   | list ho hall=>exact ⟨_,_,ns,rfl,rfl,ho,ZeE ns _ hall,hlen⟩
theorem Zj5(l:OpenLaw)(args:List WData):l.row.toRowW.claim.post args (.bool true) args=true :=
 postW_of (r:=l.row.toRowW) (X:=(true==true))
   (show WShape.has [] (.bool true) .bool=true by first|rfl|decide|simp [WShape.has,WShape.arms,WShape.armsAll])
   (show (WTm.eq .res (.lit (.bool true))).value [] {args:=args,res:=some (.bool true),after:=args}=some (.bool (true==true)) from w_eq_bool (w_res rfl) w_lit) rfl
theorem ZhS{l:OpenLaw}{n:Nat}{q:Program}{loose:List Str}{XP:(Str->Option Value)->Heap->Prop}{YP:World->Heap->Prop}{d:DefRec}
   (hn:l.most=some n) (hdf:d.params.defaults=[])
   (call:∀ (w:World) (s₀ s₁:Shared) (mg mb:Str->Option Value) (fa:Addr) (o:Obj) (pm cd doc:Value) (a:Addr) (vs:List Value) (ns:List Int),
     Ground q loose [] XP w s₀ mg mb s₁.heap->YP w s₁.heap ->
     s₁.heap.get? fa=some o->o.data=.func (docDef d.name d.params d.body d.scope pm cd doc)->s₁.heap.CodeRec cd d.name->mg d.name=some (.ref fa) ->
     s₁.heap.get? a=some {cls:=.type "list",data:=.seq vs.toArray}->IntsAre vs ns->ns.length<=n->s₁.gens=#[] ->
     codeAny (model l.prog w) callerA (.call (.ref fa) ⟨[.ref a],[]⟩) (fun r s'=>r=.ok (.ret (.bool true))/\OldK s₁.heap s'.heap/\s'.os=s₁.os/\AllBare s'.gens) s₁) :
   WalkO q loose XP YP l.row.toRowW d [] (fun f vs=>PySem.call f vs):=by
 intro w s₀ s₁ mg mb G Y fa o pm cd doc dV kV ho hd hcd hD hmg hg args vals as hpre hlay hrd hwl hlo
 obtain rfl:dV=.none:=Dflts.none hD hdf
 obtain rfl:kV=.none:=Dflts.noKw hD
 obtain ⟨a,vs,ns,rfl,rfl,hobj,hints,hlen⟩:=Zj1 hn hpre hwl
 refine enter_call (codeAny_mono (call w s₀ s₁ mg mb fa o pm cd doc a vs ns G Y ho (fd_plain hd) hcd hmg hobj hints hlen hg) fun r s' hq=>?_)
 obtain ⟨rfl,h2,h3,h4⟩:=hq
 exact ⟨.inl ⟨.bool true,.bool true,[],rfl,fun _=>rfl,.bool true,Zj5 l _,fun _=>⟨List.Pairwise.nil,fun _ hm=>(nomatch hm)⟩⟩,h2,h3,h4⟩
end Att
namespace L2
open PySem PySem.Spec PyProof.Rows
theorem ZfU:∀ {vs:List Value}{ns:List Int},IntsAre vs ns->Zi (ns.map V.int) vs
 | _,_,.nil=>.nil
 | _,_,.cons n t h=>.cons ⟨t,rfl⟩ (ZfU h)
noncomputable def Zop(H:Hp):Prop:=∀ b,H b=none\/∃ o xs,H b=some (.frz o (.lst xs))
theorem ZlJ{P:Program}{w:World}{K:PySem.W.Frag}{mg mb:Str->Option Value}{CX:CXT}{k:Nat}{fa a:Addr}{fd:FuncData}{x:Str}{sp:Sp}{s₁:Shared}{vs:List Value}{ns:List Int}
   (KX:K.In s₁.heap) (hns:s₁.heap.Ns mainGlobals mg) (hb:s₁.heap.Ns builtinsNs mb) (hbb:∀ x:Str,x ≠ "__name__" -> mb x=bootBuiltins x) (hlim:s₁.heap.NoLimit) (hg:s₁.gens=#[])
   (ha:s₁.heap.get? a=some {cls:=.type "list",data:=.seq vs.toArray}) (hi:IntsAre vs ns) (hl:ns.length<=sizeLine) (hr:Room k callerA)
   (F:∀ base:Heap,K.In base->base.Ns mainGlobals mg->FnOk P w K mg base CX k fa fd [x] sp) (hbind:∀ (s:Shared) (u:Value),BindsTo s fd ⟨[u],[]⟩ [(x,u)])
   (hsp:∀ H:Hp,Zop H->SqL K H a (ns.map V.int)->sp [.ref a] H (fun v _=>v=.bl true) fun _ _ _=>False)
   (hCX:∀ H e s',CX [] H s₁ (fun _ _ _=>False) e s'->False) :
   codeAny (model P w) callerA (.call (.ref fa) ⟨[.ref a],[]⟩) (fun r s'=>r=.ok (.ret (.bool true))/\OldK s₁.heap s'.heap/\s'.os=s₁.os/\AllBare s'.gens) s₁:=by
 have rv:=ZfU hi
 have lenV:=hi.length
 have core:∀ H:Hp,Zop H->SqL K H a (ns.map V.int)->HOk P w H s₁.heap->(∀ b,H b≠none->b=a)->(H a≠none->K.lookup a=none) ->
     codeAny (model P w) callerA (.call (.ref fa) ⟨[.ref a],[]⟩) (fun r s'=>r=.ok (.ret (.bool true))/\OldK s₁.heap s'.heap/\s'.os=s₁.os/\AllBare s'.gens) s₁:=by
   intro H hO hS hok hA hK
   have base_of:∀ {b:Addr}{o:Obj},s₁.heap.get? b=some o->H b=none->(ZgA s₁.heap H).get? b=some o:=fun e n=>Zl0 e n
   have noA:∀ {b:Addr}{o:Obj}{es:Array DictEntry}{ep:Nat},s₁.heap.get? b=some o->o.data=.dict es ep->H b=none:=fun {b o es ep} e d=>by
     cases q:H b with
     | none=>rfl
     | some u =>
       have e':b=a:=hA b (by rw [q];simp)
       subst e'
       rw [ha] at e;cases e
       have d':Data.seq vs.toArray _=Data.dict es ep:=d
       cases d'
   have nsK:∀ {b:Addr}{m:Str->Option Value},s₁.heap.Ns b m->(ZgA s₁.heap H).Ns b m:=fun {b m} ⟨o,es,ep,e,d,r⟩=>⟨o,es,ep,base_of e (noA e d),d,r⟩
   have hKb:K.In (ZgA s₁.heap H):=fun b o e=>base_of (KX b o e) (by
     cases q:H b with
     | none=>rfl
     | some u =>
       have e':b=a:=hA b (by rw [q];simp)
       subst e'
       rw [hK (by rw [q];simp)] at e;cases e)
   have hM:Mod K mg (ZgA s₁.heap H):=⟨hKb,nsK hns,⟨mb,nsK hb,hbb⟩,let ⟨mc,h1,h2⟩:=hlim;⟨mc,nsK h1,h2⟩⟩
   have e0:Env0 P w K mg (ZgA s₁.heap H) callerA [] s₁ H:=⟨rfl,hM,fun b o e=>ZnM e,Nat.le_of_eq (Zkq _ _),trivial,fun b hb=>absurd (show b∈([]:List Addr) from hb) (by simp),hok,.of_eq hg⟩
   refine codeAny_mono ((F _ hKb (nsK hns)).run callerA [] s₁ H ⟨[.ref a],[]⟩ [.ref a] [.ref a] _ _ hr e0 (hbind s₁ (.ref a)) (.cons rfl .nil) (hsp H hO hS)) fun r s' h=>?_
   cases r with
   | error e=>exact (hCX H e s' h).elim
   | ok fl =>
     cases fl with
     | next=>exact False.elim h
     | brk=>exact False.elim h
     | cont=>exact False.elim h
     | ret u =>
       obtain ⟨v,H',os,bare,un,hok',r',q⟩:=h
       have q':v=.bl true:=q
       subst q'
       obtain rfl:u=Value.bool true:=r'
       refine ⟨rfl,OldK.of_keep fun b o e=>?_,os,bare⟩
       cases q:H b with
       | none=>exact un.keep b o e q (by intro z;exact absurd (show b∈([]:List Addr) from z) (by simp)) (by simp)
       | some u =>
         rcases hO b with z|⟨ob,xs,z⟩
         . rw [q] at z;cases z
         . have z2:=un.frzs b ob _ z
           obtain ⟨e1,_⟩:=hok b _ z
           obtain ⟨e2,_⟩:=hok' b _ z2
           rw [e] at e1;cases e1
           exact e2
 cases hk:K.lookup a with
 | some o =>
   have e:=KX a o hk
   rw [ha] at e
   cases e
   refine core (fun _=>none) (fun _=>.inl rfl) (.inr ⟨_,vs.toArray,_,hk,rfl,rfl,rfl,by rw [Of,lenV];exact hl,by simpa using rv⟩) (fun b u z=>by have z':(none:Option HO)=some u:=z;cases z') (fun b z=>absurd rfl z) fun z=>absurd rfl z
 | none =>
   refine core (fun b=>if b=a then some (.frz {cls:=.type "list",data:=.seq vs.toArray} (.lst (ns.map V.int))) else none) (fun b=>?_) (.inl (.inr ⟨{cls:=.type "list",data:=.seq vs.toArray},if_pos rfl⟩)) (fun b u z=>?_) (fun b z=>?_) fun _=>hk
   . by_cases hb:b=a
     . exact .inr ⟨_,_,if_pos hb⟩
     . exact .inl (if_neg hb)
   . by_cases hb:b=a
     . have z':=(if_pos hb).symm.trans z
       cases z'
       subst hb
       exact ⟨ha,by rw [List.length_map];exact hl,vs,_,rv,ha⟩
     . have z':=(if_neg hb).symm.trans z
       cases z'
   . by_cases hb:b=a
     . exact hb
     . exact absurd (if_neg hb) z
end L2
namespace L2
open PySem PySem.Spec PyProof.Rows
theorem ZmP{l:PySem.W.OpenLaw}{n k:Nat}{q:Program}{loose:List Str}{XP:(Str->Option Value)->Heap->Prop}{YP:World->Heap->Prop}{d:DefRec}{K:Params->PySem.W.Frag}{CX:World->CXT}{sp:World->Sp}{x:Str}
   (hn:l.most=some n) (hn2:n<=sizeLine) (hdf:d.params.defaults=[]) (hr:Room k callerA)
   (hY:∀ (w:World) (h:Heap),YP w h->(K w.params).In h)
   (F:∀ (w:World) (mg:Str->Option Value) (fa:Addr) (h:Heap),(K w.params).In h->h.Ns mainGlobals mg->mg d.name=some (.ref fa) ->
     ∃ fd:FuncData,(∀ (s:Shared) (u:Value),BindsTo s fd ⟨[u],[]⟩ [(x,u)]) /\
       ∀ base:Heap,(K w.params).In base->base.Ns mainGlobals mg->FnOk l.prog w (K w.params) mg base (CX w) k fa fd [x] (sp w))
   (hsp:∀ (w:World) (H:Hp) (a:Addr) (ns:List Int),ns.length<=n->Zop H->SqL (K w.params) H a (ns.map V.int)->sp w [.ref a] H (fun v _=>v=.bl true) fun _ _ _=>False)
   (hCX:∀ (w:World) (H:Hp) (s:Shared) (e:Value) (s':Shared),CX w [] H s (fun _ _ _=>False) e s'->False) :
   PySem.W.WalkO q loose XP YP l.row.toRowW d [] (fun f vs=>PySem.call f vs):=by
 refine Att.ZhS hn hdf fun w s₀ s₁ mg mb fa o pm cd doc a vs ns G Y ho hd hcd hmg hobj hints hlen hg=>?_
 have KX:=hY w _ Y
 obtain ⟨fd,hb,hF⟩:=F w mg fa _ KX G.T.g hmg
 exact ZlJ KX G.T.g G.T.b G.T.builtins G.T.nolimit hg hobj hints (OE hlen hn2) hr hF hb (fun H hO hS=>hsp w H a ns hlen hO hS) fun H e s'=>hCX w H s₁ e s'
end L2
namespace L2
open PySem PySem.Spec PyProof.Rows
noncomputable def inClass(s:Stmt)(j:Nat):Stmt:=match s with
 | .ClassDef _ _ _ body _ _ _ _ _ _ _=>body.getD j (.Pass ⟨0,0,0,0⟩)
 | _=>.Pass ⟨0,0,0,0⟩
noncomputable def ZcY(s:Stmt):Arguments:=match s with
 | .FunctionDef _ a _ _ _ _ _ _ _ _=>a
 | _=>{posonlyargs:=[],args:=[],vararg:=none,kwonlyargs:=[],kw_defaults:=[],kwarg:=none,defaults:=[]}
noncomputable def ZbH(s:Stmt):List Stmt:=match s with
 | .FunctionDef _ _ b _ _ _ _ _ _ _=>b
 | _=>[]
noncomputable def ZM(s:Stmt):Scope:=match s with
 | .FunctionDef _ _ _ _ _ _ sc _ _ _=>sc
 | _=>{kind:=.function,names:=[],isGenerator:=false,isCoroutine:=false}
noncomputable abbrev E0:XK:=fun _ _ _=>False
structure Fun(K:PySem.W.Frag)(x qual:Str)(st:Stmt)(f:Addr)(fd:FuncData):Prop where
 ex:∃ (oc:Value) (od:Option Addr) (kV doc pm:Value) (an:Option Addr) (cdv ct:Value) (osl:Array (Option Value)),
   fd=PySem.W.fnOf x qual (ZcY st) (ZbH st) (ZM st) .none kV doc pm an cdv ct/\K.lookup f=some ⟨oc,od,.func fd,osl⟩/\PySem.W.codeIn K cdv qual=true
 kp:PySem.W.keepIn K (.ref f)=true
section
variable {P:Program}{w:World}{K:PySem.W.Frag}{mg:Str->Option Value}{base:Heap}
theorem Fun.binds{x qual:Str}{st:Stmt}{f:Addr}{fd:FuncData}{ps:List Str}(F:Fun K x qual st f fd)
   (h:∀ (kV doc pm:Value) (an:Option Addr) (cdv ct:Value) (us:List Value),us.length=ps.length->bindArgs (PySem.W.fnOf x qual (ZcY st) (ZbH st) (ZM st) .none kV doc pm an cdv ct) ⟨us,[]⟩=pure (ps.zip us)):Binds K fd ps []:=by
 obtain ⟨oc,od,kV,doc,pm,an,cdv,ct,osl,rfl,lk,hcd⟩:=F.ex
 exact .all (h kV doc pm an cdv ct)
theorem Zl5{x qual:Str}{st:Stmt}{f:Addr}{oc:Value}{od an:Option Addr}{osl:Array (Option Value)}{kV doc pm cdv ct:Value}(l:K.lookup f=some ⟨oc,od,.func (PySem.W.fnOf x qual (ZcY st) (ZbH st) (ZM st) .none kV doc pm an cdv ct),osl⟩)
   (c:PySem.W.codeIn K cdv qual=true) (k:PySem.W.keepIn K (.ref f)=true):Fun K x qual st f (PySem.W.fnOf x qual (ZcY st) (ZbH st) (ZM st) .none kV doc pm an cdv ct):=⟨⟨oc,od,kV,doc,pm,an,cdv,ct,osl,rfl,l,c⟩,k⟩
end
theorem ZiB{A B_:Prop}(h:B_):if false=true then A else B_:=by
 rw [if_neg Ow]
 exact h
theorem ZiA{A B_:Prop}(h:A):if true=true then A else B_:=by
 rw [if_pos rfl]
 exact h
end L2
end
section
set_option tactic.hygienic false
namespace L2
open PySem PySem.Spec PyProof.Rows
section
variable {κ:Type} [DecidableEq κ]
noncomputable def Zdw(kvs:List (κ×V))(k:κ):Option V:=(kvs.find? fun kv=>decide (kv.1=k)).map (·.2)
noncomputable def putK(kvs:List (κ×V))(k:κ)(v:V):List (κ×V) :=
 if (kvs.any fun kv=>decide (kv.1=k))=true then kvs.map (fun kv=>if kv.1=k then (kv.1,v) else kv) else kvs++[(k,v)]
theorem ZkC{p:κ×V}{r:List (κ×V)}{k:κ}(e:p.1=k):Zdw (p::r) k=some p.2:=by simp [Zdw,List.find?_cons,e]
theorem ZkD{p:κ×V}{r:List (κ×V)}{k:κ}(e:¬ p.1=k):Zdw (p::r) k=Zdw r k:=by simp [Zdw,List.find?_cons,e]
theorem Zes(kvs:List (κ×V))(k:κ)(v:V):(putK kvs k v).length<=kvs.length+1:=by
 unfold putK
 split
 . rw [List.length_map];omega
 . rw [OA,Os,List.length_nil];omega
theorem ZdZ.isSome_eq{o:Option V}{u:Option Value}(r:ZdZ o u):o.isSome=u.isSome:=by
 cases o with
 | none=>cases u with
   | none=>rfl
   | some _=>exact (show False from r).elim
 | some _=>cases u with
   | none=>exact (show False from r).elim
   | some _=>rfl
theorem KV.val{kvs:List (κ×V)}{vs:List (κ×Value)}(r:KV kvs vs)(k:κ):ZdZ (Zdw kvs k) (valueAt vs k):=by
 unfold KV at r
 induction r with
 | nil=>exact True.intro
 | @cons p q ps qs h t ih =>
   obtain ⟨h1,h2⟩:=h
   by_cases e:p.1=k
   . have e':q.1=k:=h1.symm.trans e
     have b:valueAt (q::qs) k=some q.2:=by simp [valueAt,List.find?_cons,e']
     rw [ZkC e,b];exact h2
   . have e':¬ q.1=k:=fun z=>e (h1.trans z)
     have b:valueAt (q::qs) k=valueAt qs k:=by simp [valueAt,List.find?_cons,e']
     rw [ZkD e,b];exact ih
theorem KV.any{kvs:List (κ×V)}{vs:List (κ×Value)}(r:KV kvs vs)(k:κ):(kvs.any fun kv=>decide (kv.1=k))=vs.any fun kv=>decide (kv.1=k):=by
 unfold KV at r
 induction r with
 | nil=>rfl
 | cons h t ih=>rw [List.any_cons,List.any_cons,ih,h.1]
theorem KV.repl{kvs:List (κ×V)}{vs:List (κ×Value)}(r:KV kvs vs)(k:κ){y:V}{u:Value}(ry:RelV y u) :
   KV (kvs.map fun kv=>if kv.1=k then (kv.1,y) else kv) (vs.map fun kv=>if kv.1=k then (kv.1,u) else kv):=by
 unfold KV at r ⊢
 induction r with
 | nil=>exact .nil
 | @cons p q ps qs h t ih =>
   rw [Op,Op]
   refine .cons ?_ ih
   obtain ⟨h1,h2⟩:=h
   by_cases e:p.1=k
   . rw [if_pos e,if_pos (h1.symm.trans e)];exact ⟨h1,ry⟩
   . rw [if_neg e,if_neg (fun z=>e (h1.trans z))];exact ⟨h1,h2⟩
theorem KV.put{kvs:List (κ×V)}{vs:List (κ×Value)}(r:KV kvs vs)(k:κ){y:V}{u:Value}(ry:RelV y u):KV (putK kvs k y) (stored vs k u):=by
 unfold putK stored
 rw [r.any k]
 by_cases e:(vs.any fun kv=>decide (kv.1=k))=true
 . rw [if_pos e,if_pos e];exact r.repl k ry
 . rw [if_neg e,if_neg e];exact Paired.snoc r ⟨rfl,ry⟩
theorem KV.length{kvs:List (κ×V)}{vs:List (κ×Value)}(r:KV kvs vs):kvs.length=vs.length:=Paired.length r
end
theorem Zhv{P:Program}{w:World}{k:Key}{u:Value}(r:RelV (kV k) u):(Zz P w).is k u=true:=by
 cases k with
 | inl i=>obtain ⟨t,e⟩:=(show ∃ t,u=Value.int i t from r);subst e;exact Zhm P w i t
 | inr x=>obtain ⟨t,e⟩:=(show ∃ t,u=Value.str x t from r);subst e;exact Zhl P w x t
section
variable {P:Program}{w:World}{H:Hp}{h:Heap}{a:Addr}
theorem Zq3{u:HO}(ok:HOk P w H h)(e:Rd H a u):ZaC P w H h a u:=e.ok ok
theorem ZoP{kvs:List (Key×V)}(ok:HOk P w H h)(e:Rd H a (.dK kvs)):kvs.length<=sizeLine/\(a==sysModules)=false/\∃ vs,KV kvs vs/\h.DictOf (Zz P w) a vs :=
 show ZaC P w H h a (.dK kvs) from Zq3 ok e
theorem ZoQ{kvs:List (Key×V)}(ok:HOk P w H h)(e:H a=some (.dK kvs)):kvs.length<=sizeLine/\(a==sysModules)=false/\∃ vs,KV kvs vs/\h.DictOf (Zz P w) a vs:=ZoP ok (.inl e)
end
section
variable {X:Cx}{pins:List (Addr×Obj)}{Z:St}{H:Hp}{s:Shared}{a:Addr}{y v:V}{u r:Value}{o:Option V}{A:Around}{E:Value->Shared->Prop}
theorem Inv.big(I:Inv X pins Z H s):sysModules<s.heap.objs.size:=by
 have h:mainGlobals<s.heap.objs.size:=(I.mod.glob.keeps I.bk).lt
 exact Nat.lt_trans (by decide) h
theorem ZjI{h':Heap}{t':Nat}{ob:HO}(I:Inv X pins Z H s)(mu:Mut (H a))(hs:Heap.SameBut a s.heap h')(he:∃ q,h'.get? a=some q)(new:ZaC X.prog X.w (upd H a ob) h' a ob) :
   Inv X pins Z (upd H a ob) {s with heap:=h',toks:=t'} :=
 I.write (x:=a) (e:=a) mu (.inl rfl) (fun b q hb z=>(hs.2 b hb).trans z) he new
theorem Zmi{P:Program}{w:World}{H':Hp}{h':Heap}{kvs:List (Key×V)}{vs:List (Key×Value)}(z:kvs.length<=sizeLine)(hd:(a==sysModules)=false)(rel:KV kvs vs)(dd:h'.DictOf (Zz P w) a vs) :
   ZaC P w H' h' a (.dK kvs):=⟨z,hd,vs,rel,dd⟩
end
theorem ZhD {P:Program}{w:World}{H:Hp} (h:Heap) (hb:sysModules<h.objs.size):ZaC P w H (h.push {cls:=.type "dict",data:=.dict #[]}) h.objs.size (.dK []) :=
 ⟨Nat.zero_le _,beq_eq_false_iff_ne.mpr (Ne.symm (Ou hb)),[],.nil,Heap.DictOf.new h⟩
noncomputable def Zo9:TE:=fun _ H Q=>∀ p,H p=none->Q (.ref p) (upd H p (.dK []))
section
variable {X:Cx}{pos:Pos}
theorem Zlo:PE X (.Dict [] [] pos) Zo9:=fun pins s Z H Q I h =>
 wpAny_Dict_empty ⟨.ref s.heap.objs.size,_,I.laid (a:=s.heap.objs.size) (o:=.dK []) (t':=s.toks) (fun _ _ q=>Od _ q) (Oq _) (ZhD s.heap I.big),rfl,h _ (I.hok.fresh (Oq _))⟩
end
noncomputable def Zgg:List (TE×TE)->St->Hp->(List (V×V)->Hp->Prop)->Prop
 | [],_,H,Q=>Q [] H
 | (tk,tv)::r,Z,H,Q=>tk Z H fun x H1=>tv Z H1 fun y H2=>Zgg r Z H2 fun ps H3=>Q ((x,y)::ps) H3
noncomputable abbrev VV:List (V×V)->List (Value×Value)->Prop:=Paired fun p q=>RelV p.1 q.1/\RelV p.2 q.2
noncomputable def PPs(X:Cx)(pos:Pos)(keys:List (Option Expr))(values:List Expr)(trs:List (TE×TE)):Prop :=
 ∀ (pins:List (Addr×Obj)) (s:Shared) (Z:St) (H:Hp) (Q:List (V×V)->Hp->Prop),Inv X pins Z H s->Zgg trs Z H Q ->
   wpAny (model X.prog X.w) X.A (evalPairs (pairTrees keys values X.env pos)) (fun vs s'=>∃ ps H',Inv X pins Z H' s'/\VV ps vs/\Q ps H') X.xe s
theorem Zni{X:Cx}{pos:Pos}:PPs X pos [] [] []:=fun pins s Z H Q I h=>pairTrees_nil_walk ⟨[],H,I,.nil,h⟩
theorem Zlc{X:Cx}{pos:Pos}{k v:Expr}{ks:List (Option Expr)}{vs:List Expr}{tk tv:TE}{trs:List (TE×TE)}(hk:PE X k tk)(hv:PE X v tv)(hr:PPs X pos ks vs trs) :
   PPs X pos (some k::ks) (v::vs) ((tk,tv)::trs):=fun pins s Z H Q I h =>
 pairTrees_cons_walk (thn (hk pins s Z H _ I h) fun u s1 ⟨x,H1,I1,rx,q1⟩=>thn (hv pins s1 Z H1 _ I1 q1) fun w2 s2 ⟨y,H2,I2,ry,q2⟩ =>
   thn (hr pins s2 Z H2 _ I2 q2) fun ws s3 ⟨ps,H3,I3,rel,q3⟩=>⟨(x,y)::ps,H3,I3,.cons ⟨rx,ry⟩ rel,q3⟩)
noncomputable def Zdm(kvs more:List (Key×V)):List (Key×V):=more.foldl (fun acc kv=>putK acc kv.1 kv.2) kvs
theorem KV.merge:∀ {more:List (Key×V)}{rs:List (Key×Value)}{kvs:List (Key×V)}{vs:List (Key×Value)},KV more rs->KV kvs vs->KV (Zdm kvs more) (merged vs rs):=by
 intro more rs kvs vs r
 unfold KV at r
 induction r generalizing kvs vs with
 | nil=>intro q;exact q
 | @cons p q ps qs h t ih =>
   intro r0
   have e:KV (putK kvs p.1 p.2) (stored vs q.1 q.2):=by
     have:=r0.put p.1 h.2
     rw [<- h.1];exact this
   exact ih e
theorem Zdd:∀ (more kvs:List (Key×V)),(Zdm kvs more).length<=kvs.length+more.length
 | [],kvs=>by show kvs.length<=kvs.length+0;omega
 | p::r,kvs=>by
   have h1:=Zdd r (putK kvs p.1 p.2)
   have h2:=Zes kvs p.1 p.2
   show (Zdm (putK kvs p.1 p.2) r).length<=_
   rw [Os];omega
theorem ZfD{P:Program}{w:World}:∀ {kvs:List (Key×V)}{ws:List (Value×Value)},VV (kvs.map fun kv=>(kV kv.1,kv.2)) ws->∃ rs,Carries (Zz P w) ws rs/\KV kvs rs
 | [],_,r=>by rw [Oy] at r;cases r;exact ⟨[],True.intro,.nil⟩
 | p::kvs,_,r=>by
   rw [Op] at r
   cases r with
   | @cons a b as bs h t =>
     obtain ⟨rs,c,q⟩:=ZfD (P:=P) (w:=w) t
     obtain ⟨b1,b2⟩:=b
     exact ⟨(p.1,b2)::rs,⟨Zhv h.1,rfl,c⟩,.cons ⟨rfl,h.2⟩ q⟩
noncomputable def ZqU(trs:List (TE×TE)):TE:=fun Z H Q=>∀ p,H p=none->Zgg trs Z (upd H p (.dK [])) fun ps H2=>H2 p=some (.dK [])/\∃ kvs:List (Key×V),ps=kvs.map (fun kv=>(kV kv.1,kv.2))/\kvs.length<=15/\Q (.ref p) (upd H2 p (.dK (Zdm [] kvs)))
theorem Znt{X:Cx}{pos:Pos}{keys:List (Option Expr)}{values:List Expr}{trs:List (TE×TE)}(h:PPs X pos keys values trs)(hall:keys.all (·.isSome)=true)(hl:keys.length=values.length)(h0:keys≠[])
   (h15:keys.length<=15):PE X (.Dict keys values pos) (ZqU trs):=by
 intro pins s Z H Q I q
 have hn:=I.hok.fresh (Oq s.heap.objs.size)
 have I1:=I.laid (a:=s.heap.objs.size) (o:=.dK []) (h':=s.heap.push {cls:=.type "dict",data:=.dict #[]}) (t':=s.toks) (fun _ _ q=>Od _ q) (Oq _) (ZhD s.heap I.big)
 refine wpAny_Dict_walk (knd:=Zz X.prog X.w) hall hl h0 h15 (thn (h pins _ Z _ _ I1 (q _ hn)) fun ws s2 ⟨ps,H2,I2,rel,e,kvs,ep,lk,q2⟩=>?_)
 subst ep
 obtain ⟨rs,c,rk⟩:=ZfD (P:=X.prog) (w:=X.w) rel
 obtain ⟨z,hd,vs0,r0,dd⟩:=ZoQ I2.hok e
 cases r0
 refine ⟨rs,c,dd,fun h' dd' hs=>⟨.ref s.heap.objs.size,_,?_,rfl,q2⟩⟩
 have hz:(Zdm [] kvs).length<=sizeLine:=by
   have h1:=Zdd kvs []
   rw [List.length_nil] at h1
   rw [sizeLine_eq];omega
 have he:∃ q,h'.get? s.heap.objs.size=some q:=let ⟨q,_,_,hq,_⟩:=dd';⟨q,hq⟩
 exact ZjI I2 (by rw [e];exact True.intro) hs he (Zmi hz hd (rk.merge .nil) dd')
end L2
end
section
namespace L2
open PySem PySem.Spec PyProof.Rows
noncomputable def Its(x:Str):It:=⟨fun i _=>i<x.cps.size,fun i H v H'=>H'=H/\∃ c,x.cps[i]? = some c/\v=.str ⟨#[c]⟩,fun i _=>i=x.cps.size⟩
theorem Zqb{M:Model}{A:Around}{E:Value->Shared->Prop}{s:Shared}{tg:Expr}{it:Addr}{x:Str}{t:Tok}{Q:Unit->Shared->Prop}(hQ:Q () s):wpAny M A (letOwnedTupleGo tg (.ref it) (.str x t)) Q E s:=by
 unfold letOwnedTupleGo
 cases tg<;>exact wpAny_pure hQ
theorem ZgW{P:Program}{w:World}{K:PySem.W.Frag}{tg:Expr}{it:Addr}{x:Str}{t:Tok}{ty:String}
   (W:∀ A':Around,A'.handled=none->Walks P w A' it [it] [it] x.cps.size (SignAt x) (fun i h=>h.IsStrIter it ty x t i))
   (hself:∀ (A:Around) (i:Nat) (s:Shared) (Q:Value->Shared->Prop) (E:Value->Shared->Prop),s.heap.IsStrIter it ty x t i->Q (.ref it) s->wpAny (model P w) A (pyIter (.ref it)) Q E s) :
   Turn P w K tg (Its x) [it] it (fun i h=>h.IsStrIter it ty x t i) where
 mem:=by simp
 obj:=fun i h st b hb=>by
   have e:b=it:=by simpa using hb
   subst e
   obtain ⟨o,e,c,d⟩:=st
   exact ⟨o,e,fun v z=>by rw [d] at z;cases z⟩
 keep:=fun i h h' st k=>by
   obtain ⟨o,e,r⟩:=st
   exact ⟨o,k it (by simp) o e,r⟩
 item:=by
   intro X hP hw hK hc i pins s Z H E I hf st hg
   subst hP hw hK
   obtain ⟨f0,f1,f2,f3,f4,f5⟩:=hf it (by simp)
   refine (W X.A (I.ok.hd hc)).item i s _ _ hg st fun v h' tk hv st' kk=>?_
   obtain ⟨c,u,hcx,rfl⟩:=hv
   have I1:Inv X pins Z H {s with heap:=h',toks:=tk}:=I.turned (fun b o hb e=>kk b o (by simpa using hb) e) f0 f1 f3 f4 f5
   exact ⟨_,rfl,Zqb ⟨.str ⟨#[c]⟩,H,I1,⟨u,rfl⟩,⟨rfl,c,hcx,rfl⟩,st',fun b hb=>(hf b hb).1⟩⟩
 done:=by
   intro X hP hw hK hc i pins s Z H E I hf st hg
   subst hP hw hK
   obtain ⟨f0,f1,f2,f3,f4,f5⟩:=hf it (by simp)
   have e:i=x.cps.size:=hg
   subst e
   exact (W X.A (I.ok.hd hc)).done s _ _ st fun h' tk kk=>⟨rfl,I.turned (fun b o hb e=>kk b o (by simpa using hb) e) f0 f1 f3 f4 f5⟩
 self:=hself
theorem ZcA{env:Env}:∀ (names:List (Str×NameKind)) (x:Str),
   (names.map fun (n,k)=>if (k==NameKind.free&&env.scope.kind==.function&&env.kindOf n==some .cell) then (n,NameKind.cell) else (n,k)).lookup x =
     (names.lookup x).map fun k=>if (k==NameKind.free&&env.scope.kind==.function&&env.kindOf x==some .cell) then NameKind.cell else k
 | [],_=>rfl
 | (n,k)::r,x=>by
   have ih:=@ZcA env r x
   show List.lookup x ((if (k==NameKind.free&&env.scope.kind==.function&&env.kindOf n==some .cell)=true then (n,NameKind.cell) else (n,k))::_)=_
   cases hx:x==n with
   | true =>
     have e:x=n:=by simpa using hx
     subst e
     by_cases hc:(k==NameKind.free&&env.scope.kind==.function&&env.kindOf x==some .cell)=true
     . rw [if_pos hc];simp only [OF,hx,Option.map_some,if_pos hc]
     . rw [if_neg hc];simp only [OF,hx,Option.map_some,if_neg hc]
   | false =>
     by_cases hc:(k==NameKind.free&&env.scope.kind==.function&&env.kindOf n==some .cell)=true
     . rw [if_pos hc];simp only [OF,hx];exact ih
     . rw [if_neg hc];simp only [OF,hx];exact ih
noncomputable def Zef(env:Env):List (Str×NameKind)->List (Str×Addr)->List (Str×Addr)
 | [],cs=>cs
 | (n,k)::r,cs=>Zef env r (if (k==.free)=true then (n,(env.cells.lookup n).getD 0)::cs else cs)
theorem ZhI{env:Env}:∀ (l:List (Str×NameKind)) (cs:List (Str×Addr)),(∀ y∈l,y.2=.free->∃ c,env.cells.lookup y.1=some c) ->
   (∀ x c,(x,c)∈cs->env.cells.lookup x=some c)->∀ x c,(x,c)∈Zef env l cs->env.cells.lookup x=some c
 | [],cs,_,h2,x,c,hm=>h2 x c hm
 | (n,k)::r,cs,h1,h2,x,c,hm=>by
   refine ZhI r _ (fun y hy=>h1 y (Oh _ hy)) (fun x c hm=>?_) x c hm
   by_cases hk:(k==NameKind.free)=true
   . rw [if_pos hk] at hm
     rcases O2.mp hm with e|hm
     . cases e
       have hk':k=.free:=by
         cases k<;>first|rfl|(exact absurd hk (by decide))
       obtain ⟨c,e⟩:=h1 (n,k) Oi hk'
       rw [e];rfl
     . exact h2 x c hm
   . rw [if_neg hk] at hm;exact h2 x c hm
theorem Zf9{env:Env}:∀ (l:List (Str×NameKind)) (cs:List (Str×Addr)) (p:Str×Addr),p∈cs->p∈Zef env l cs
 | [],_,_,h=>h
 | (n,k)::r,cs,p,h=>by
   refine Zf9 r _ p ?_
   by_cases hk:(k==NameKind.free)=true
   . rw [if_pos hk];exact Oh _ h
   . rw [if_neg hk];exact h
theorem ZhJ{env:Env}:∀ (l:List (Str×NameKind)) (cs:List (Str×Addr)) (y:Str×NameKind),y∈l->y.2=.free->∃ c,(y.1,c)∈Zef env l cs
 | (n,k)::r,cs,y,h,hf=>by
   rcases O2.mp h with e|h
   . subst e
     refine ⟨(env.cells.lookup n).getD 0,Zf9 r _ _ ?_⟩
     have hk:(k==NameKind.free)=true:=by
       have:k=.free:=hf
       subst this;rfl
     rw [if_pos hk];exact Oi
   . exact ZhJ r _ y h hf
theorem Zdc{α:Type}:∀ {l:List (Str×α)}{x:Str}{c:α},(x,c)∈l->∃ c',l.lookup x=some c'/\(x,c')∈l
 | (n,d)::r,x,c,h=>by
   cases hx:x==n with
   | true =>
     have e:x=n:=by simpa using hx
     subst e
     exact ⟨d,by simp [OF],Oi⟩
   | false =>
     rcases O2.mp h with e|h
     . cases e;simp at hx
     . obtain ⟨c',h1,h2⟩:=Zdc h
       exact ⟨c',by simp only [OF,hx];exact h1,Oh _ h2⟩
theorem Zdi{scope:Scope}{env:Env}(h:∀ y∈scope.names,y.2=.free->∃ c,env.cells.lookup y.1=some c):closureFor scope env=pure (Zef env scope.names []):=by
 have all:∀ (l:List (Str×NameKind)) (cs:List (Str×Addr)),(∀ y∈l,y.2=.free->∃ c,env.cells.lookup y.1=some c) ->
     (forIn l cs fun (x:Str×NameKind) r=>match x with|(name,kind)=>if (kind==NameKind.free)=true then (do let a <- cellOf env name;pure (ForInStep.yield ((name,a)::r))) else pure (ForInStep.yield r):Sem (List (Str×Addr)))=pure (Zef env l cs):=by
   intro l
   induction l with
   | nil=>intro cs _;rfl
   | cons y r ih =>
     intro cs hl
     obtain ⟨n,k⟩:=y
     rw [List.forIn_cons]
     have hr:=fun cs=>ih cs fun y hy=>hl y (Oh _ hy)
     by_cases hk:(k==NameKind.free)=true
     . have hk':k=.free:=by
         cases k<;>first|rfl|(exact absurd hk (by decide))
       obtain ⟨c,e⟩:=hl (n,k) Oi hk'
       have ec:cellOf env n=pure c:=by unfold cellOf;rw [e]
       simp only [hk,if_true,ec]
       show (forIn r ((n,c)::cs) _:Sem _)=_
       rw [hr]
       show _=pure (Zef env r (if (k==NameKind.free)=true then (n,(env.cells.lookup n).getD 0)::cs else cs))
       rw [if_pos hk,e]
       rfl
     . simp only [hk]
       show (forIn r cs _:Sem _)=_
       rw [hr]
       show _=pure (Zef env r (if (k==NameKind.free)=true then (n,(env.cells.lookup n).getD 0)::cs else cs))
       rw [if_neg hk]
 unfold closureFor
 have z:=all scope.names [] h
 dsimp only at z ⊢
 rw [z]
 rfl
end L2
end
section
set_option tactic.hygienic false
namespace L2
open PySem PySem.Spec PyProof.Rows
theorem Zex{prog:Program}{w:World}{A:Around}{R:Result->Shared->Prop}{s:Shared}{elt target iter:Expr}{ifs:List Expr}{scope:Scope}{pos:Pos}{it acc:Value}{env:Env}(I:Nat->Shared->Prop)
   (turn:∀ n s,I n s->wpAny (model prog w) A (pyNext it) (fun r s₁=>match r with
     | none=>R (.ok .next) s₁
     | some v=>wpAny (model prog w) A (letOwnedTupleGo target it v) (fun _ s₁'=>wpAny (model prog w) A (assign target env v) (fun _ s₂ =>
         wpAny (model prog w) A (forIn ifs true fun c r=>if r=true then do let ok <- isTrue c env (eval c env);pure (ForInStep.yield ok) else pure (ForInStep.yield r)) (fun ok s₃ =>
           if ok=true then wpAny (model prog w) A (eval elt env) (fun x s₄ =>
             wpAny (model prog w) A (call (.builtin "list.append") [acc,x]) (fun _ s₅=>∃ m,m<n/\I m s₅) (notedBy (model prog w) A env fun e s'=>R (.error e) s') s₄) (notedBy (model prog w) A env fun e s'=>R (.error e) s') s₃
           else ∃ m,m<n/\I m s₃) (notedBy (model prog w) A env fun e s'=>R (.error e) s') s₂) (notedBy (model prog w) A env fun e s'=>R (.error e) s') s₁') (notedBy (model prog w) A env fun e s'=>R (.error e) s') s₁) (notedBy (model prog w) A env fun e s'=>R (.error e) s') s)
   (n:Nat) (h:I n s) :
   codeAny (model prog w) A (.compLoop (.ListComp elt [⟨target,iter,ifs,0⟩] scope pos) 0 it acc env) R s:=by
 refine codeAny_loop rfl I (fun n s hI=>?_) n h
 show wpAny _ A ((compTurn (.ListComp elt [⟨target,iter,ifs,0⟩] scope pos) 0 it acc env).onRaise (fun x=>do noteFrame x env;theTreesLotGoes x)) _ _ s
 refine wpAny_noted ?_
 rw [compTurn_list]
 refine wpAny_bind (wpAny_standAt (wpAny_bind (wpAny_mono (turn n s hI) (fun r s₁ h₁=>?_) fun _ _ h'=>h')))
 cases r with
 | none=>exact wpAny_pure h₁
 | some v =>
   refine wpAny_bind (wpAny_mono h₁ (fun _ s₁' h₁'=>?_) fun _ _ h'=>h')
   refine wpAny_bind (wpAny_mono h₁' (fun _ s₂ h₂=>wpAny_bind (wpAny_mono h₂ (fun ok s₃ h₃=>?_) fun _ _ h'=>h')) fun _ _ h'=>h')
   cases ok with
   | false=>exact wpAny_pure ⟨rfl,h₃⟩
   | true =>
     exact wpAny_bind (wpAny_bind (wpAny_mono h₃ (fun x s₄ h₄=>wpAny_bind (wpAny_mono h₄ (fun _ s₅ h₅=>wpAny_pure (wpAny_pure ⟨rfl,h₅⟩)) fun _ _ h'=>h')) fun _ _ h'=>h'))
structure CompSc(NC N:List Str)(js:List (Option Nat))(sc scope:Scope):Prop where
 kind:scope.kind=.function
 dkind:sc.kind=.function
 nocell:∀ y∈scope.names,y.2≠.cell
 locs:∀ y∈scope.names,y.2=.local->scope.names.lookup y.1=some .local
 free:∀ y∈scope.names,y.2=.free->sc.names.lookup y.1=some .cell
 nd:NC.Nodup
 len:js.length=NC.length
 jok:((NC.zip js).all fun p=>p.2.all fun j=>decide (N[j]? = some p.1)&&decide (scope.names.lookup p.1=some .free))=true
theorem CompSc.at{NC N:List Str}{js:List (Option Nat)}{sc scope:Scope}(S_:CompSc NC N js sc scope){i j:Nat}{x:Str}(h1:NC[i]? = some x)(h2:js[i]? = some (some j)):N[j]? = some x/\scope.names.lookup x=some .free:=by
 have h:=S_.jok
 rw [OC] at h
 have hm:(x,some j)∈NC.zip js:=by
   refine O1 (i:=i) ?_
   rw [List.getElem?_zip_eq_some]
   exact ⟨h1,h2⟩
 have q:=h _ hm
 simp only [Option.all_some,Oa,decide_eq_true_eq] at q
 exact q
noncomputable def capt(js:List (Option Nat))(Z:St):St:=js.map fun o=>o.bind fun j=>(Z[j]?).join
noncomputable def Zv(X:Cx)(NC:List Str)(scope:Scope)(C:Addr)(s3:Shared)(H3:Hp)(fp:List Addr):Cx :=
 {X with N:=NC,s₀:=s3,H₀:=H3,env:=compEnvC scope (Zef X.env scope.names []) C X.env,outer:=X.stack,stack:=X.stack,ex:=fp,fn:=fun _=>false,calm:=true,pn:=[],xe:=fun _ _=>False}
noncomputable def ZmG(k:Nat)(g:TG):Prop:=∀ x Z H Q,g x Z H Q->g x Z H fun σ2 H2=>Q σ2 H2/\σ2.length=Z.length/\∀ j,k<=j->σ2[j]? = Z[j]?
noncomputable def ZhU(k:Nat)(g:TGs):Prop:=∀ x Z H Q,g x Z H Q->g x Z H fun σ2 H2=>Q σ2 H2/\σ2.length=Z.length/\∀ j,k<=j->σ2[j]? = Z[j]?
theorem ZmU{i k:Nat}(h:i<k):ZmG k (Zdg i):=fun x Z H Q q=>⟨q,List.length_set,fun j hj=>by rw [Oc (by omega)]⟩
theorem Zi9{k:Nat}:ZhU k Zn5:=fun x Z H Q q=>⟨q.1,q.2,rfl,fun _ _=>rfl⟩
theorem ZeV{i k:Nat}{u:TGs}(h:i<k)(hu:ZhU k u):ZhU k (Zhy (Zdg i) u):=by
 rintro xs Z H Q ⟨v,r,e,q⟩
 refine ⟨v,r,e,?_⟩
 have z:=hu r (Z.set i (some v)) H Q q
 have z2:=hu r (Z.set i (some v)) H (fun σ2 H2=>Q σ2 H2/\σ2.length=(Z.set i (some v)).length/\∀ j,k<=j->σ2[j]? = (Z.set i (some v))[j]?) z
 show u r (Z.set i (some v)) H _
 have e1:(Z.set i (some v)).length=Z.length:=List.length_set
 have e2:∀ j,k<=j->(Z.set i (some v))[j]? = Z[j]? := fun j hj=>Oc (by omega)
 have e3:(fun σ2 H2=>Q σ2 H2/\σ2.length=Z.length/\∀ j,k<=j->σ2[j]? = Z[j]?)=(fun σ2 H2=>Q σ2 H2/\σ2.length=(Z.set i (some v)).length/\∀ j,k<=j->σ2[j]? = (Z.set i (some v))[j]?):=by
   funext σ2 H2
   rw [e1]
   refine propext ⟨fun ⟨a,b,c⟩=>⟨a,b,fun j hj=>(c j hj).trans (e2 j hj).symm⟩,fun ⟨a,b,c⟩=>⟨a,b,fun j hj=>(c j hj).trans (e2 j hj)⟩⟩
 rw [e3]
 exact z
theorem ZkI{K:PySem.W.Frag}{n k:Nat}{u:TGs}(hu:ZhU k u):ZmG k (Zn4 K n u):=by
 rintro x Z H Q ⟨a,xs,e,h1,h2,q⟩
 exact ⟨a,xs,e,h1,h2,hu xs Z H Q q⟩
noncomputable def PIf(X:Cx)(ifs:List Expr)(t:TT):Prop :=
 ∀ (pins:List (Addr×Obj)) (s:Shared) (Z:St) (H:Hp) (Q:Bool->Hp->Prop),Inv X pins Z H s->t Z H Q ->
   wpAny (model X.prog X.w) X.A (forIn ifs true fun c r=>if r=true then do let ok <- isTrue c X.env (eval c X.env);pure (ForInStep.yield ok) else pure (ForInStep.yield r)) (TP X pins Z Q) X.xe s
noncomputable def Zsr:TT:=fun _ H Q=>Q true H
theorem Znm{X:Cx}:PIf X [] Zsr:=fun _ _ _ H _ I h=>wpAny_tests_nil ⟨H,I,h⟩
theorem Znl{X:Cx}{c:Expr}{t:TT}(hc:PT X c t):PIf X [c] t:=fun pins s Z H Q I h=>wpAny_tests_one (hc pins s Z H Q I h)
noncomputable def Zox(wi:TI)(js:List (Option Nat))(g:TG)(tc:TT)(te:TE):TE:=fun Z H Q=>wi Z H fun J H1=>∀ D,H1 D=none->∃ W:Nat->Nat->List V->Hp->Prop,(∃ m,W 0 m [] (upd H1 D (.lst []))) /\
 ∀ i m ys H,W i m ys H->H D=some (.lst ys)->(J.stop i H/\Q (.ref D) H) \/
   (J.go i H/\ys.length<sizeLine/\∀ x H',J.yld i H x H'->g x (capt js Z) H' fun σ2 H2=>tc σ2 H2 fun b H3 =>
     if b=true then te σ2 H3 fun y H4=>H4 D=some (.lst ys)/\∃ m',m'<m/\W (i+1) m' (ys++[y]) (upd H4 D (.lst (ys++[y])))
     else H3 D=some (.lst ys)/\∃ m',m'<m/\W (i+1) m' ys H3)
section
variable {X:Cx}{pins:List (Addr×Obj)}{Z:St}{H:Hp}{s:Shared}
theorem Zhw{NC:List Str}{js:List (Option Nat)}{sc scope:Scope}{C:Addr}{h4:Heap}{tk:Nat}{fp:List Addr}{m:Str->Option Value}(S_:CompSc NC X.N js sc scope)(hsc:X.env.scope=sc)(hc:X.calm=true)
   (I:Inv X pins Z H s) (f:∀ b∈fp,ZcP X pins H b) (fo:∀ b∈fp,∃ o,s.heap.get? b=some o) (hC:C=s.heap.objs.size) (hns:h4.Ns C m) (hk:∀ b o,s.heap.get? b=some o->h4.get? b=some o) :
   Inv (Zv X NC scope C s H fp) [] (capt js Z) H {s with heap:=h4,toks:=tk}:=by
 have hcells:∀ y∈scope.names,y.2=.free->∃ c,X.env.cells.lookup y.1=some c:=fun y hy hf=>I.ok.has y.1 (.inl (show X.env.scope.names.lookup y.1=some .cell by rw [hsc];exact S_.free y hy hf))
 have cl1:∀ x c,(Zef X.env scope.names []).lookup x=some c->X.env.cells.lookup x=some c:=fun x c e=>ZhI scope.names [] hcells (fun _ _ z=>by cases z) x c (PySem.mem_of_lookup e)
 have cl2:∀ y∈scope.names,y.2=.free->∃ c,(Zef X.env scope.names []).lookup y.1=some c:=fun y hy hf=>by
   obtain ⟨c,hm⟩:=ZhJ (env:=X.env) scope.names [] y hy hf
   obtain ⟨c',e,_⟩:=Zdc hm
   exact ⟨c',e⟩
 have kinds:∀ x,(Zv X NC scope C s H fp).env.kindOf x=(scope.names.lookup x).map fun k=>if (k==NameKind.free&&X.env.scope.kind==.function&&X.env.kindOf x==some .cell) then NameKind.cell else k:=fun x=>ZcA scope.names x
 have fcell:∀ x,scope.names.lookup x=some .free->(Zv X NC scope C s H fp).env.kindOf x=some .cell:=fun x e=>by
   rw [kinds,e]
   have h1:X.env.kindOf x=some .cell:=show X.env.scope.names.lookup x=some .cell by rw [hsc];exact S_.free (x,.free) (PySem.mem_of_lookup e) rfl
   have h2:X.env.scope.kind=.function:=I.ok.kind
   simp only [Option.map_some,h1,h2]
   rfl
 have flt:∀ b∈fp,b<s.heap.objs.size:=fun b hb=>let ⟨o,e⟩:=fo b hb;Heap.lt_size e
 refine ⟨⟨I.ok.mod,S_.kind,I.ok.glob,I.ok.blt,Nat.le_of_eq hC.symm,fun x y c h1 h2=>I.ok.inj x y c (cl1 x c h1) (cl1 y c h2),fun x hx=>?_,fun x c hf _=>absurd (show false=true from hf) Ow,fun _=>I.ok.hd hc,I.ok.frames,.inl rfl,fun b hb=>⟨?_,fun x c e=>(f b hb).2.2.2.2.1 x c (cl1 x c e)⟩,
     I.bs,OE I.ok.bsz I.sz,fun b o e hb=>?_,fun b hb hm=>?_,I.stack,I.stkFree⟩,
   rfl,I.bare,Un.kept hk,⟨m,hns,fun i x v h1 h2 h3=>?_⟩,fun x c e=>?_,?_,fun x c e=>I.freeC x c (cl1 x c e),fun p hp=>absurd (show p∈([]:List (Addr×Obj)) from hp) (by simp),I.hok.kept hk,?_⟩
 . rw [kinds] at hx
   cases e:scope.names.lookup x with
   | none=>rw [e] at hx;rcases hx with hx|hx<;>cases hx
   | some k =>
     rw [e] at hx
     have hm:=PySem.mem_of_lookup e
     have hk:k=.free:=by
       by_cases hf:(k==NameKind.free)=true
       . cases k<;>first|rfl|(exact absurd hf (by decide))
       . have hf':(k==NameKind.free)=false:=Bool.eq_false_iff.mpr hf
         simp only [Option.map_some,hf',Bool.false_and,OG,if_false] at hx
         rcases hx with hx|hx
         . exact absurd (Option.some.inj hx) (S_.nocell _ hm)
         . exact Option.some.inj hx
     exact cl2 (x,k) hm hk
 . show b≠C
   rw [hC]
   exact Ou (flt b hb)
 . obtain ⟨_,_,_,f3,_⟩:=f b hb
   rcases f3 with z|z
   . exact I.ok.noex b o e z
   . exact absurd (Ot (Heap.lt_size e) (OE I.ok.bsz z)) (Nat.lt_irrefl _)
 . obtain ⟨_,f1,f2,_⟩:=f b hb
   exact (O2.mp (I.stkSub b hm)).elim f1 f2
 . have hj:∃ j,js[i]? = some (some j)/\Z[j]? = some (some v):=by
     unfold capt at h2
     rw [On] at h2
     cases e:js[i]? with
     | none=>rw [e] at h2;cases h2
     | some o =>
       rw [e] at h2
       have h2':(o.bind fun j=>(Z[j]?).join)=some v:=Option.some.inj h2
       cases o with
       | none=>cases h2'
       | some j =>
         refine ⟨j,rfl,?_⟩
         have h3':(Z[j]?).join=some v:=h2'
         cases q:Z[j]? with
         | none=>rw [q] at h3';cases h3'
         | some r=>rw [q] at h3';rw [show r=some v from h3']
   obtain ⟨j,hj,hσ⟩:=hj
   obtain ⟨hN,hfr⟩:=S_.at (show NC[i]? = some x from h1) hj
   have hcell:X.env.scope.names.lookup x=some .cell:=by rw [hsc];exact S_.free (x,.free) (PySem.mem_of_lookup hfr) rfl
   obtain ⟨m0,_,hl⟩:=I.loc
   obtain ⟨u,r,l⟩:=hl j x v hN hσ (.inr (.inl hcell))
   refine ⟨u,r,?_⟩
   rcases l with ⟨k,_⟩|⟨_,c,e,z⟩
   . rw [show X.env.kindOf x=some .cell from hcell] at k
     cases k
   . obtain ⟨c',e'⟩:=cl2 (x,.free) (PySem.mem_of_lookup hfr) rfl
     have ec:=cl1 x c' e'
     rw [e] at ec
     cases ec
     obtain ⟨o,ho,hd⟩:=z
     exact .inr ⟨.inl (fcell x hfr),c,e',o,hk _ _ ho,hd⟩
 . obtain ⟨v,o,ho,hd⟩:=I.cell x c (cl1 x c e)
   exact ⟨v,o,hk _ _ ho,hd⟩
 . show H C=none
   rw [hC]
   exact I.hok.fresh (Oq _)
 . unfold capt
   rw [List.length_map]
   exact S_.len
end
section
variable {X:Cx}{elt tg iter:Expr}{ifs:List Expr}{scope sc:Scope}{pos:Pos}{NC:List Str}{js:List (Option Nat)}{k:Nat}{wi:TI}{g:TG}{tc:TT}{te:TE}
theorem Inv.comp_out{pins:List (Addr×Obj)}{Z σ':St}{H3 H':Hp}{s3 s1:Shared}{C:Addr}{fp:List Addr}{h'':Heap}(I3:Inv X pins Z H3 s3)(f:∀ b∈fp,ZcP X pins H3 b)(hC:C=s3.heap.objs.size)
   (I':Inv (Zv X NC scope C s3 H3 fp) [] σ' H' s1) (hs:Heap.SameBut C s1.heap h''):Inv X pins Z H' {s1 with heap:=h''}:=by
 have ne:∀ b o,s3.heap.get? b=some o->b≠C:=fun b o e=>by rw [hC];exact Ou (Heap.lt_size e)
 have u:=I'.base
 refine I3.call' (s':={s1 with heap:=h''}) (ch:=fp) I'.os ⟨fun b o e n hb hx=>(hs.2 b (ne b o e)).trans (u.keep b o e n hb hx),fun b o e n hb hx=>?_,u.free,fun b o e hx=>?_,u.tups,u.frzs,u.tbls⟩ ?_ I'.bare fun b hb=>?_
 . obtain ⟨sl,q⟩:=u.slot b o e n hb hx
   exact ⟨sl,(hs.2 b (ne b o e)).trans q⟩
 . obtain ⟨o',q⟩:=u.there b o e hx
   exact ⟨o',(hs.2 b (ne b o e)).trans q⟩
 . have hfree:H' C=none:=I'.free
   intro b ob e
   refine (I'.hok b ob e).stay (fun c w' hc q=>(hs.2 c ?_).trans q) (fun _ q=>q) fun _ _ q=>q
   rintro rfl
   rcases hc with rfl|hc
   . rw [hfree] at e;cases e
   . rw [hfree] at hc;cases hc
 . obtain ⟨_,f1,_,f3,f4,f5⟩:=f b hb
   exact ⟨f3,f1,f4,f5⟩
theorem Znu(S_:CompSc NC X.N js sc scope)(hsc:X.env.scope=sc)(hc:X.calm=true)(hi:PI X tg iter wi)
   (hb:∀ (C:Addr) (s3:Shared) (H3:Hp) (fp:List Addr),PG (Zv X NC scope C s3 H3 fp) tg g/\PIf (Zv X NC scope C s3 H3 fp) ifs tc/\PE (Zv X NC scope C s3 H3 fp) elt te)
   (hk:ZmG k g) (hjk:∀ j,j<k->js[j]? = some none) (hs:∀ x,foldedSetIterable iter X.env x=pure x:=by intro _;rfl) :
   PE X (.ListComp elt [⟨tg,iter,ifs,0⟩] scope pos) (Zox wi js g tc te):=by
 intro pins s Z H Q I h
 have hcells:∀ y∈scope.names,y.2=.free->∃ c,X.env.cells.lookup y.1=some c:=fun y hy hf=>I.ok.has y.1 (.inl (show X.env.scope.names.lookup y.1=some .cell by rw [hsc];exact S_.free y hy hf))
 rw [eval_ListComp]
 refine wpAny_comprehension_free (use:=none) rfl hs (Zdi hcells) S_.kind S_.locs (thn (hi pins s Z H _ I h) fun xv s1 h1=>thn h1 fun itv s2 h2=>?_)
 obtain ⟨it,fp,tn,J,H2,e,I2,T,st2,f2,rest⟩:=h2
 subst e
 have hD:H2 s2.heap.objs.size=none:=I2.hok.fresh (Oq _)
 obtain ⟨W,⟨m0,w0⟩,turn⟩:=rest s2.heap.objs.size hD
 refine wpAny_newObj_type (wpAny_newFunctionEnv S_.nocell (by intro y hy;simp at hy) (fun h4 hns hsb=>?_) S_.kind)
 have I3:Inv X pins Z (upd H2 s2.heap.objs.size (.lst [])) {s2 with heap:=s2.heap.push {cls:=.type "list",dict:=none,data:=.seq ([]:List Value).toArray}}:=I2.lnew (t':=s2.toks) (ys:=[]) (its:=[]) .nil (Nat.zero_le _)
 dsimp only at hns hsb ⊢
 generalize hs3:({s2 with heap:=s2.heap.push {cls:=.type "list",dict:=none,data:=.seq ([]:List Value).toArray}}:Shared)=s3 at I3
 have eh:s2.heap.push {cls:=.type "list",dict:=none,data:=.seq ([]:List Value).toArray}=s3.heap:=by rw [<- hs3]
 have eD:s2.heap.objs.size<s3.heap.objs.size:=by rw [<- eh,Heap.size_push];exact OH _
 rw [eh] at hns hsb
 have keep:∀ b o,s3.heap.get? b=some o->h4.get? b=some o:=fun b o e=>(hsb.2 b (Ou (Heap.lt_size e))).trans (Od _ e)
 have fpl:∀ b∈fp,∃ o,s3.heap.get? b=some o:=fun b hb=>by
   obtain ⟨o,e,_⟩:=T.obj 0 _ st2 b hb
   exact ⟨o,by rw [<- eh];exact Od _ e⟩
 have neD:∀ b∈fp,b≠s2.heap.objs.size:=fun b hb=>by
   obtain ⟨o,e,_⟩:=T.obj 0 _ st2 b hb
   exact Ou (Heap.lt_size e)
 have f3:∀ b∈fp,ZcP X pins (upd H2 s2.heap.objs.size (.lst [])) b:=fun b hb=>⟨by rw [Zc (neD b hb)];exact (f2 b hb).1,(f2 b hb).2⟩
 have I4:=Zhw (tk:=s2.toks+([]:List (Str×Value)).length) S_ hsc hc I3 f3 fpl rfl hns keep
 have st4:tn 0 h4:=T.keep 0 _ _ st2 fun b hb o e=>keep b o (by rw [<- eh];exact Od _ e)
 have stat:∀ {H':Hp},(∀ b∈fp,H' b=none)->∀ b∈fp,ZcP (Zv X NC scope s3.heap.objs.size s3 (upd H2 s2.heap.objs.size (.lst [])) fp) [] H' b:=fun hn b hb =>
   ⟨hn b hb,Ou (let ⟨o,e⟩:=fpl b hb;Heap.lt_size e),fun hm=>I4.ok.exfs b hb hm,.inl hb,fun x c e=>(I4.ok.exf b hb).2 x c e,fun p hp=>absurd (show p∈([]:List (Addr×Obj)) from hp) (by simp)⟩
 have eC:(s2.heap.push {cls:=.type "list",dict:=none,data:=.seq ([]:List Value).toArray}).objs.size=s3.heap.objs.size:=by rw [eh]
 have loop:∀ s4:Shared,s4={s3 with heap:=h4,toks:=s2.toks+([]:List (Str×Value)).length} ->
     codeAny (model X.prog X.w) X.A (.compLoop (.ListComp elt [⟨tg,iter,ifs,0⟩] scope pos) 0 (.ref it) (.ref s2.heap.objs.size) (compEnvC scope (Zef X.env scope.names []) s3.heap.objs.size X.env))
       (compPost (model X.prog X.w) X.A X.xe none (EP X pins Z Q) (.ref s2.heap.objs.size) s3.heap.objs.size) s4:=by
   rintro s4 rfl
   refine Zex (fun n s'=>∃ i ys H',Inv (Zv X NC scope s3.heap.objs.size s3 (upd H2 s2.heap.objs.size (.lst [])) fp) [] (capt js Z) H' s'/\tn i s'.heap/\(∀ b∈fp,H' b=none)/\H' s2.heap.objs.size=some (.lst ys)/\W i n ys H') ?_ m0
     ⟨0,[],_,I4,st4,fun b hb=>(f3 b hb).1,Zh,w0⟩
   rintro n s5 ⟨i,ys,H5,I5,st5,fr5,hD5,w5⟩
   rcases turn i n ys H5 w5 hD5 with ⟨stop,qn⟩|⟨go,hlen,step⟩
   . refine wpAny_mono (T.done (Zv X NC scope s3.heap.objs.size s3 (upd H2 s2.heap.objs.size (.lst [])) fp) rfl rfl rfl rfl i [] s5 (capt js Z) H5 (fun _ _=>False) I5 (stat fr5) st5 stop) (fun r s6 ⟨hr,I6⟩=>?_) fun _ _ z=>z.elim
     subst hr
     obtain ⟨m,hm,_⟩:=I6.loc
     exact ⟨m,hm,fun h' hs'=>⟨.ref s2.heap.objs.size,H5,I3.comp_out f3 rfl I6 hs',rfl,qn⟩⟩
   . refine wpAny_mono (T.item (Zv X NC scope s3.heap.objs.size s3 (upd H2 s2.heap.objs.size (.lst [])) fp) rfl rfl rfl rfl i [] s5 (capt js Z) H5 (fun _ _=>False) I5 (stat fr5) st5 go) (fun r s6 ⟨u,hr,h6⟩=>?_) fun _ _ z=>z.elim
     subst hr
     refine wpAny_mono h6 (fun _ s7 ⟨x,H7,I7,r7,y7,st7,fr7⟩=>?_) fun _ _ z=>z.elim
     have I7':=I7.pinned (stat fr7) (T.obj _ _ st7)
     obtain ⟨pg,pif,pe⟩:=hb s3.heap.objs.size s3 (upd H2 s2.heap.objs.size (.lst [])) fp
     refine wpAny_mono (pg _ s7 (capt js Z) H7 x u _ I7' r7 (hk _ _ _ _ (step x H7 y7))) (fun _ s8 ⟨σ8,H8,I8,q8,l8,k8⟩=>?_) fun _ _ z=>z.elim
     have back:∀ {H9:Hp}{s9:Shared},Inv (Zv X NC scope s3.heap.objs.size s3 (upd H2 s2.heap.objs.size (.lst [])) fp) ([]++Zd5 fp s7.heap) σ8 H9 s9 ->
         Inv (Zv X NC scope s3.heap.objs.size s3 (upd H2 s2.heap.objs.size (.lst [])) fp) [] (capt js Z) H9 s9/\tn (i+1) s9.heap/\∀ b∈fp,H9 b=none:=fun {H9 s9} I9=>by
       refine ⟨(I9.unpinned).weak l8.symm fun j v e=>?_,T.keep _ _ _ st7 fun b hb o e=>(I9.pin (b,o) (Ov _ (Ov _ (ZaU hb e)))).1,fun b hb=>?_⟩
       . by_cases hj:j<k
         . unfold capt at e
           rw [On,hjk j hj] at e
           cases e
         . rw [k8 j (Nat.le_of_not_lt hj)];exact e
       . obtain ⟨o,e,d⟩:=T.obj _ _ st7 b hb
         exact (I9.pin (b,o) (Ov _ (Ov _ (ZaU hb e)))).2.1
     refine wpAny_mono (pif _ s8 σ8 H8 _ I8 q8) (fun ok s9 ⟨H9,I9,q9⟩=>?_) fun _ _ z=>z.elim
     cases ok with
     | false =>
       rw [if_neg Ow] at q9 ⊢
       obtain ⟨hD9,m',hm,w9⟩:=q9
       obtain ⟨b1,b2,b3⟩:=back I9
       exact ⟨m',hm,i+1,ys,H9,b1,b2,b3,hD9,w9⟩
     | true =>
       rw [if_pos rfl] at q9 ⊢
       refine wpAny_mono (pe _ s9 σ8 H9 _ I9 q9) (fun y s10 ⟨v,H10,I10,r10,hD10,m',hm,w10⟩=>?_) fun _ _ z=>z.elim
       refine wpAny_mono (Zd7 (X:=Zv X NC scope s3.heap.objs.size s3 (upd H2 s2.heap.objs.size (.lst [])) fp) _ s10 σ8 H10 (.ref s2.heap.objs.size) [v] (.ref s2.heap.objs.size) [y]
         (fun _ H11=>H11=upd H10 s2.heap.objs.size (.lst (ys++[v]))) I10 rfl (.cons r10 .nil) ⟨_,ys,v,rfl,rfl,hD10,hlen,rfl⟩) (fun _ s11 ⟨_,H11,I11,_,e11⟩=>?_) fun _ _ z=>z.elim
       subst e11
       obtain ⟨b1,b2,b3⟩:=back I11
       exact ⟨m',hm,i+1,ys++[v],_,b1,b2,b3,Zh,w10⟩
 have e4:({s2 with heap:=h4,toks:=s2.toks+([]:List (Str×Value)).length}:Shared)={s3 with heap:=h4,toks:=s2.toks+([]:List (Str×Value)).length}:=by rw [<- hs3]
 rw [eC]
 exact codeAny_compStart_list (loop _ e4) (T.self X.A 0 _ _ _ st4 (loop _ e4))
end
end L2
end
section
namespace L2
open PySem PySem.Spec PyProof.Rows
section
variable {X:Cx}
noncomputable def TyN(K:PySem.W.Frag)(x:V)(H:Hp)(t:String):Prop:=match x with
 | .int _=>t = "int"
 | .str _=>t = "str"
 | .bl _=>t = "bool"
 | .non=>t = "NoneType"
 | .ref p=>(t = "list" /\ ∃ xs,SqL K H p xs)\/(t = "tuple" /\ ∃ xs,SqT K H p xs)
 | _=>False
theorem Zmq:Zca X (.builtin "isinstance") (fun xs H Q=>∃ x t T b,xs=[x,.ty T]/\TyN X.K x H t/\PySem.W.kitOne X.K (.type t) (.type T)=some b/\Q (.bl b) H):=by
 intro pins s Z H xs us Q I r h
 obtain ⟨x,t,T,b,rfl,ty,e,q⟩:=h
 obtain ⟨u,w',rfl,rx,rT⟩:=vals2 r
 obtain rfl:w'=Value.type T:=rT
 have fin:∀ tk,EP X pins Z Q (.bool b) {s with toks:=tk}:=fun tk=>⟨.bl b,H,I.tok tk,rfl,q⟩
 cases x with
 | int i =>
   obtain ⟨tk,rfl⟩:=rx
   obtain rfl:t = "int" := ty
   exact PySem.W.kia_one PySem.W.kitx_int I.kIn trivial e (by intro z;cases z) fin
 | str i =>
   obtain ⟨tk,rfl⟩:=rx
   obtain rfl:t = "str" := ty
   exact PySem.W.kia_one PySem.W.kitx_str I.kIn trivial e (by intro z;cases z) fin
 | bl i =>
   obtain rfl:u=Value.bool i:=rx
   obtain rfl:t = "bool" := ty
   exact PySem.W.kia_one PySem.W.kitx_bool I.kIn trivial e (by intro z;cases z) fin
 | non =>
   obtain rfl:u=Value.none:=rx
   obtain rfl:t = "NoneType" := ty
   exact PySem.W.kia_one PySem.W.kitx_none I.kIn trivial e (by intro z;cases z) fin
 | ref p =>
   obtain rfl:u=Value.ref p:=rx
   rcases ty with ⟨rfl,xs,hx⟩|⟨rfl,xs,hx⟩
   . obtain ⟨its,_,pl,_⟩:=I.list hx
     exact PySem.W.kia_one PySem.W.kitx_list I.kIn pl.isList.typeIs e (by intro z;cases z) fin
   . obtain ⟨its,_,pl,_⟩:=I.tuple hx
     exact PySem.W.kia_one PySem.W.kitx_tuple I.kIn pl.typeIs e (by intro z;cases z) fin
 | _=>exact (show False from ty).elim
theorem Zkk{K:PySem.W.Frag}{t T:String}{b:Bool}(h:PySem.W.kitOne [] (.type t) (.type T)=some b):PySem.W.kitOne K (.type t) (.type T)=some b:=h
noncomputable def ZsP:V->Option Int->Option Int->Hp->VK->Prop:=fun x lo hi H Q=>∃ y,x=.str y/\y.length<=sizeLine/\Q (.str (StrLaws.sliceText y lo hi)) H
theorem Zpc:SlR X ZsP:=by
 intro pins s Z H x v vl vu lo hi sl Q I rx hs pl pu h
 obtain ⟨y,rfl,hz,q⟩:=h
 obtain ⟨t,rfl⟩:=rx
 refine ⟨"str",_,F.slot_str_getitem.lookup,typeIs_str _ _ _,?_⟩
 have go:∀ (l u:Option (Int×Tok)),vl=partValue l->vu=partValue u->lo=l.map (·.1)->hi=u.map (·.1)->wpAny (model X.prog X.w) X.A (getItem (.str y t) (.ref sl)) (EP X pins Z Q) X.xe s:=by
   rintro l u rfl rfl rfl rfl
   refine wpAny_getItem_str_slice (l:=l) (u:=u) (st:=none) hs rfl ?_
   refine post_val_or_str ⟨OE (Txt.slice_le y _ _) hz,fun t' k=>⟨.str _,H,I.tok k,⟨t',rfl⟩,q⟩⟩
 cases pl with
 | none =>
   cases pu with
   | none=>exact go none none rfl rfl rfl rfl
   | int j tj=>exact go none (some (j,tj)) rfl rfl rfl rfl
 | int i ti =>
   cases pu with
   | none=>exact go (some (i,ti)) none rfl rfl rfl rfl
   | int j tj=>exact go (some (i,ti)) (some (j,tj)) rfl rfl rfl rfl
end
end L2
end
section
namespace L2
open PySem PySem.Spec PyProof.Rows
noncomputable def Kept(fs:List Addr)(H':Hp)(h h1 B_:Heap):Prop:=∀ b o,h1.get? b=some o->(H' b≠none\/((∃ o',h.get? b=some o')/\b ∉ fs))->B_.get? b=some o
noncomputable def CXF(P:Program)(w:World):CXT:=fun outer H s E e s' =>
 ∃ (a:Addr) (cls a0:Value) (H':Hp) (B_:Heap),e=.ref a/\s'.os=s.os/\AllBare s'.gens/\Un (frs outer) [] H H' s.heap s'.heap/\HOk P w H' s'.heap /\
   Heap.FlyingW B_ outer a cls a0 s'.heap/\Kept (frs outer) H' s.heap s'.heap B_/\H' a=none/\E cls none H'
theorem Zf3{P:Program}{w:World}{X:Cx}:ZbU (CXF P w) X E0:=fun _ _ _ _ _ _ _ h=>by
 obtain ⟨_,_,_,_,_,_,_,_,_,_,_,_,_,z⟩:=h
 exact z.elim
end L2
end
section
namespace L2
open PySem PySem.Spec PyProof.Rows
noncomputable def Def(P:Program)(w:World)(K:PySem.W.Frag)(mg:Str->Option Value)(base:Heap)(k:Nat)(x:Str)(ps:List Str)(sp:Sp):Prop :=
 ∃ f fd,mg x=some (.ref f)/\PySem.W.keepIn K (.ref f)=true/\Binds K fd ps []/\FnOk P w K mg base (CXF P w) k f fd ps sp
section
variable {X:Cx}{k:Nat}{x:Str}{ps:List Str}{sp:Sp}{E:XK}{e:Expr}{es:List Expr}{t:TA}{p pos:Pos}
noncomputable def ZsC(sp:Sp)(E:XK)(t:TA):TE:=fun Z H Q=>t Z H fun vs H1=>sp vs H1 Q E
theorem ZpD(D:Def X.prog X.w X.K X.mg X.base k x ps sp)(hr:Room k X.A)(hg:Gl X x)(hx:ZbU (CXF X.prog X.w) X E)(ha:PA X (e::es) t)
   (hdb:(x==("__debug__" : Str))=false:=by decide) (he:starEach (e::es) X.env=(false,eval e X.env)::starEach es X.env:=by rfl) (hpl:(backTo pos (starEach es X.env)).any (·.1)=false:=by rfl) :
   PE X (.Call (.Name x p) (e::es) [] pos) (ZsC sp E t):=by
 obtain ⟨f,fd,h1,h2,h3,h4⟩:=D
 intro pins s Z H Q I h
 refine Znw h4 hr hg h1 h2 h3 .nil hx ha hdb he hpl pins s Z H Q I ?_
 have z:t Z H fun vs H1=>sp vs H1 Q E:=h
 show t Z H fun vs H1=>sp (vs++[]) H1 Q E
 simpa only [List.append_nil] using z
end
end L2
end
section
namespace L2
open PySem PySem.Spec PyProof.Rows
section
variable {X:Cx}{pins:List (Addr×Obj)}{Z:St}{H:Hp}{s:Shared}{h':Heap}
theorem ZjE{ch:List Addr}(hf:∀ b∈ch,ZcP X pins H b):∀ b∈ch,(b∈X.ex\/X.s₀.heap.objs.size<=b)/\b≠X.env.locals/\(∀ x c,X.env.cells.lookup x=some c->c≠b)/\∀ p∈X.pn++pins,p.1≠b:=fun b hb=>by
 obtain ⟨_,f1,_,f3,f4,f5⟩:=hf b hb
 exact ⟨f3,f1,f4,f5⟩
theorem Inv.turnL{t':Nat}{ch:List Addr}(I:Inv X pins Z H s)(hf:∀ b∈ch,ZcP X pins H b)(k:∀ b o,b ∉ ch->s.heap.get? b=some o->h'.get? b=some o):Inv X pins Z H {s with heap:=h',toks:=t'}:=by
 have nit:∀ b u,H b=some u->b ∉ ch:=fun b u e z=>by rw [(hf b z).1] at e;cases e
 refine I.step (g':=s.gens) (d':=s.drawn) (ch:=ch) (ZjE hf) (fun b o _ _ hc e _=>k b o hc e) (fun b o _ _ hc e _=>⟨o.slots,k b o hc e⟩) (fun _ _ _ _ n=>n)
   (fun b o hc e=>⟨o,k b o hc e⟩) (fun _ _ e=>e) (fun _ _ _ e=>e) (fun b ps e=>⟨#[],by rw [e];simp⟩) (fun m hm=>?_) (fun b u e=>?_) I.bare
 . obtain ⟨o,es,ep,ho,r⟩:=hm
   exact ⟨o,es,ep,k _ o (fun z=>(hf _ z).2.1 rfl) ho,r⟩
 . refine (I.hok b u e).stay (fun c v hc q=>k c v ?_ q) (fun _ q=>q) fun _ _ q=>q
   rcases hc with z|z
   . rw [z];exact nit b u e
   . exact nit c _ z
theorem Inv.turnT{t':Nat}{ch:List Addr}{T:Addr}{vs:List V}{us:List Value}(I:Inv X pins Z H s)(hf:∀ b∈ch,ZcP X pins H b)(k:∀ b o,b ∉ ch->s.heap.get? b=some o->h'.get? b=some o)
   (hT:s.heap.objs.size<=T) (tup:Zbd h' T us.toArray) (rv:Zi vs us) (hz:vs.length<=sizeLine):Inv X pins Z (upd H T (.tup vs)) {s with heap:=h',toks:=t'}:=by
 have nit:∀ b u,H b=some u->b ∉ ch:=fun b u e z=>by rw [(hf b z).1] at e;cases e
 have neT:∀ b o,s.heap.get? b=some o->b≠T:=fun b o e=>Ou (Ot (Heap.lt_size e) hT)
 have hTn:H T=none:=I.hok.fresh hT
 refine I.step (g':=s.gens) (d':=s.drawn) (ch:=ch) (ZjE hf) (fun b o _ _ hc e _=>k b o hc e) (fun b o _ _ hc e _=>⟨o.slots,k b o hc e⟩) (fun b o _ e n=>by rw [Zc (neT b o e)];exact n)
   (fun b o hc e=>⟨o,k b o hc e⟩) (fun b xs e=>by rw [Zc (ZJ e hTn)];exact e) (fun b o u e=>by rw [Zc (ZJ e hTn)];exact e) (fun b ps e=>⟨#[],by rw [Zc (ZJ e hTn),e];simp⟩) (fun m hm=>?_) (fun b u e=>?_) I.bare
 . obtain ⟨o,es,ep,ho,r⟩:=hm
   exact ⟨o,es,ep,k _ o (fun z=>(hf _ z).2.1 rfl) ho,r⟩
 . by_cases hb:b=T
   . subst hb
     rw [Zh] at e
     cases e
     exact ⟨hz,us,rv,tup⟩
   . rw [Zc hb] at e
     refine (I.hok b u e).stay (fun c v hc q=>k c v ?_ q) (fun c q=>by rw [Zc (ZJ q hTn)];exact q) fun c xs q=>by rw [Zc (ZJ q hTn)];exact q
     rcases hc with z|z
     . rw [z];exact nit b u e
     . exact nit c _ z
end
noncomputable def Ite(K:PySem.W.Frag)(a:Addr):It :=
 ⟨fun i H=>∃ xs x,SqL K H a xs/\xs[i]? = some x,fun i H v H'=>∃ p,v=.ref p/\H p=none/\∃ x,(∀ xs,SqL K H a xs->xs[i]? = some x)/\H'=upd H p (.tup [.int i,x]),fun i H=>∃ xs,SqL K H a xs/\xs.length=i⟩
theorem ZjT{P:Program}{w:World}{K:PySem.W.Frag}{es:List Expr}{kk:Nat}{tp:Pos}(a it e:Addr)(hei:e≠it)(hae:a≠e)(hai:a≠it) :
   Turn P w K (.Tuple es kk tp) (Ite K a) [e,it] e (fun i h=>(∃ old,IsEnum h e it i old)/\h.IsListIter it a i) where
 mem:=by simp
 obj:=fun i h st b hb=>by
   obtain ⟨⟨old,he⟩,o,e1,c,d⟩:=st
   rcases O2.mp hb with rfl|hb
   . exact ⟨_,he,fun v z=>by cases z⟩
   . have e2:b=it:=by simpa using hb
     subst e2
     exact ⟨o,e1,fun v z=>by rw [d] at z;cases z⟩
 keep:=fun i h h' st k=>by
   obtain ⟨⟨old,he⟩,st⟩:=st
   exact ⟨⟨old,k e (by simp) _ he⟩,st.at fun o z=>k it (by simp) o z⟩
 item:=by
   intro X hP hw hK hc i pins s Z H E I hf st hg
   subst hP hw hK
   obtain ⟨xs,x,hq,hx⟩:=hg
   obtain ⟨its,rv,p,hz⟩:=I.list hq
   have hl:=rv.length
   have hi:i<xs.length:=(Ob.mp hx).1
   have W:=WalksT.enumerate (prog:=X.prog) (w:=X.w) (I.ok.hd hc) e it a hei hae hai its.toArray
   have itm:∀ (Q':Option Value->Shared->Prop) (E':Value->Shared->Prop),(∀ T vals h' tk,(∃ t x,its.toArray[i]? = some x/\vals=#[.int i t,x])->s.heap.objs.size<=T->Zbd h' T vals ->
       ((∃ x,IsEnumOut h' e it ((i:Int)+1) x T)/\h'.IsListIter it a (i+1)/\h'.IsList a its.toArray/\T≠e/\T≠it)->(∀ b o,b ∉ [e,it]->s.heap.get? b=some o->h'.get? b=some o)->Q' (some (.ref T)) {s with heap:=h',toks:=tk}) ->
       wpAny (model X.prog X.w) X.A (pyNext (.ref e)) Q' E' s:=by
     intro Q' E' hQ
     obtain ⟨⟨old,he⟩,hit⟩:=st
     have hx2:its.toArray[i]? = some (its.toArray[i]'(by simp;omega)):=Array.getElem?_eq_getElem (by simp;omega)
     refine wpAny_pyNext_enum_item he hit p.isList hx2 hei fun h' ho hit' hT hsz hk=>?_
     have e1:e<s.heap.objs.size:=Heap.lt_size he
     have e2:it<s.heap.objs.size:=by obtain ⟨_,z,_⟩:=hit;exact Heap.lt_size z
     exact hQ s.heap.objs.size _ h' (s.toks+1) ⟨_,_,hx2,rfl⟩ (Oq _) ⟨_,hT,rfl,rfl,_,rfl⟩ ⟨⟨_,ho⟩,hit',p.isList.at fun o z=>hk a o hae hai z,Nat.ne_of_gt e1,Nat.ne_of_gt e2⟩
       fun b o hb z=>hk b o (fun e'=>hb (by simp [e'])) (fun e'=>hb (by simp [e'])) z
   refine itm _ _ fun T vals h1 tk hP hT tup mid kk=>?_
   refine ⟨_,rfl,W.go _ _ _ i T {s with heap:=h1,toks:=tk} _ _ mid fun h2 st2 kk2=>?_⟩
   obtain ⟨t,y,hy,rfl⟩:=hP
   have hy':its[i]? = some y:=by simpa using hy
   obtain ⟨u,hu,ru⟩:=rv.get hx
   rw [hy'] at hu
   cases hu
   have hTw:T ∉ [e,it]:=W.apart i T h1 mid
   have tup2:Zbd h2 T #[.int i t,y]:=by
     obtain ⟨o,q,r⟩:=tup
     exact ⟨o,kk2 T o hTw q,r⟩
   have I2:Inv X pins Z (upd H T (.tup [.int i,x])) {s with heap:=h2,toks:=tk}:=I.turnT hf (fun b o hb q=>kk2 b o hb (kk b o hb q)) hT (us:=[.int i t,y]) tup2 (.cons ⟨t,rfl⟩ (.cons ru .nil)) (by show 2<=sizeLine;decide)
   refine ⟨.ref T,_,I2,rfl,⟨T,rfl,I.hok.fresh hT,x,fun ys hy=>by rw [I.list_inj hy hq];exact hx,rfl⟩,⟨st2.1,st2.2.1⟩,fun b hb=>?_⟩
   have neb:b≠T:=fun z=>hTw (by rw [<- z];exact hb)
   rw [Zc neb]
   exact (hf b hb).1
 done:=by
   intro X hP hw hK hc i pins s Z H E I hf st hg
   subst hP hw hK
   obtain ⟨xs,hq,hx⟩:=hg
   obtain ⟨its,rv,p,hz⟩:=I.list hq
   have hl:=rv.length
   have W:=WalksT.enumerate (prog:=X.prog) (w:=X.w) (I.ok.hd hc) e it a hei hae hai its.toArray
   have e1:its.toArray.size=i:=by simp;omega
   refine W.done s _ _ ?_ fun h1 tk kk=>⟨rfl,I.turnL hf kk⟩
   rw [e1]
   exact ⟨st.1,st.2,p.isList⟩
 self:=fun A i s Q E st h=>by
   obtain ⟨⟨old,he⟩,_⟩:=st
   exact wpAny_pyIter_enum he h
noncomputable def ZrN(K:PySem.W.Frag)(ta:TA):TI:=fun Z H R=>ta Z H fun vs H1=>∃ a,vs=[.ref a]/\(∃ xs,SqL K H1 a xs)/\R (Ite K a) H1
theorem Zno {X:Cx}{es:List Expr}{kk:Nat}{tp:Pos}{l:Expr}{ta:TA}{p pos:Pos} (hg:Gl X "enumerate") (hm:X.mg "enumerate" = none) (ha:PA X [l] ta) (hs:starEach [l] X.env=[(false,eval l X.env)]:=by rfl) :
   PI X (.Tuple es kk tp) (.Call (.Name "enumerate" p) [l] [] pos) (ZrN X.K ta):=by
 intro pins s Z H R I h
 refine Call_ (ZbS I hg hm boot_enumerate (PyProof.Rows.callWith_type1 (thn (ha pos pins s Z H _ I h) fun us s1 ⟨vs,H1,I1,r1,q1⟩=>?_) hs rfl))
 obtain ⟨a,rfl,⟨xs,hq⟩,q⟩:=q1
 obtain ⟨u,rfl,ru⟩:=vals1 r1
 obtain rfl:u=Value.ref a:=ru
 obtain ⟨its,rv,pl,hz⟩:=I1.list hq
 have hlt:a<s1.heap.objs.size:=by obtain ⟨_,_,e,_⟩:=pl;exact Heap.lt_size e
 refine call_enumerate_list pl.isList fun h' he hi hsz kk=>?_
 refine wpAny_pyIter_enum he ?_
 refine ⟨s1.heap.objs.size+1,[s1.heap.objs.size+1,s1.heap.objs.size],_,_,H1,rfl,I1.kept (t':=s1.toks) kk,ZjT a s1.heap.objs.size (s1.heap.objs.size+1) (Nat.succ_ne_self _) (Ou (Nat.lt_succ_of_lt hlt)) (Ou hlt),⟨⟨_,he⟩,hi⟩,fun b hb=>?_,q⟩
 rcases O2.mp hb with rfl|hb
 . exact I1.fpOk (Nat.le_succ _) (I1.hok.fresh (Nat.le_succ _))
 . have e:b=s1.heap.objs.size:=by simpa using hb
   subst e
   exact I1.fpOk (Oq _) (I1.hok.fresh (Oq _))
end L2
end
section
namespace L2
open PySem PySem.Spec PyProof.Rows
theorem Zmx{X:Cx}{b:List Stmt}{t:TS}{D:Ends}{Z:St}{H:Hp}(h:PSs X.nox b t)(r:t D Z H):∃ t,PSs X b t/\t D Z H:=⟨t,h.nox,r⟩
theorem Zfc{x:Str}{t:Tok}:RelV (.str x) (.str x t):=⟨t,rfl⟩
theorem Zr{x:Int}{t:Tok}:RelV (.int x) (.int x t):=⟨t,rfl⟩
theorem ZaF{a:Addr}:RelV (.ref a) (.ref a):=rfl
end L2
end
section
namespace L2
open PySem PySem.Spec PyProof.Rows
noncomputable def DkK(P:Program)(w:World)(K:PySem.W.Frag)(a:Addr)(kvs:List (Key×V)):Prop :=
 ∃ (o:Obj) (es:Array DictEntry) (ep:Nat) (vs:List (Key×Value)),K.lookup a=some o/\o.ExactDict/\o.data=.dict es ep/\KeysOf (Zz P w) es/\Pairs (Zz P w) es.toList vs/\(vs.map (·.1)).Nodup/\KV kvs vs/\kvs.length<=sizeLine/\(a==sysModules)=false
noncomputable def Dk(P:Program)(w:World)(K:PySem.W.Frag)(H:Hp)(a:Addr)(kvs:List (Key×V)):Prop:=Rd H a (.dK kvs)\/DkK P w K a kvs
section
variable {X:Cx}{pins:List (Addr×Obj)}{Z:St}{H:Hp}{s:Shared}{a:Addr}
theorem Inv.dk{kvs:List (Key×V)}(I:Inv X pins Z H s)(h:Dk X.prog X.w X.K H a kvs):kvs.length<=sizeLine/\(a==sysModules)=false/\∃ vs,KV kvs vs/\s.heap.DictOf (Zz X.prog X.w) a vs:=by
 rcases h with h|⟨o,es,ep,vs,lk,ex,da,ks,ps,nd,kv,z,hm⟩
 . exact ZoP I.hok h
 . exact ⟨z,hm,vs,kv,o,es,ep,I.kIn a o lk,ex,da,ks,ps,nd⟩
noncomputable def Zq9(P:Program)(w:World)(K:PySem.W.Frag)(neg:Bool):R2:=fun x y H Q=>∃ a kvs k,y=.ref a/\x=kV k/\Dk P w K H a kvs/\Q (.bl (if neg then !(Zdw kvs k).isSome else (Zdw kvs k).isSome)) H
theorem ZpK:OpR X (compareOp .In) (Zq9 X.prog X.w X.K false):=by
 intro pins s Z H x y v u Q I rx ry h
 obtain ⟨a,kvs,k,rfl,rfl,hd,q⟩:=h
 cases ry
 obtain ⟨z,hm,vs,rel,dd⟩:=I.dk hd
 refine wpAny_in_of (Zhv rx) hm dd.mapOf ?_
 rw [<- (rel.val k).isSome_eq]
 exact ⟨.bl _,H,I.tok _,rfl,q⟩
theorem Zkb:OpR X (compareOp .NotIn) (Zq9 X.prog X.w X.K true):=by
 intro pins s Z H x y v u Q I rx ry h
 obtain ⟨a,kvs,k,rfl,rfl,hd,q⟩:=h
 cases ry
 obtain ⟨z,hm,vs,rel,dd⟩:=I.dk hd
 refine wpAny_notIn_of (Zhv rx) hm dd.mapOf ?_
 rw [<- (rel.val k).isSome_eq]
 exact ⟨.bl _,H,I.tok _,rfl,q⟩
noncomputable def ZsV(P:Program)(w:World)(K:PySem.W.Frag):R2:=fun x y H Q=>∃ a kvs k v,x=.ref a/\y=kV k/\Dk P w K H a kvs/\Zdw kvs k=some v/\Q v H
theorem ZnZ:IxR X (ZsV X.prog X.w X.K):=by
 intro value slice pins s Z H x y v u Q I rx ry h hs
 obtain ⟨a,kvs,k,z,rfl,rfl,hd,hv,q⟩:=h
 cases rx
 obtain ⟨_,hm,vs,rel,dd⟩:=I.dk hd
 obtain ⟨w',hw,rw'⟩:=ZdZ.some_of (v:=z) (o:=valueAt vs k) (by rw [<- hv];exact rel.val k)
 exact subscriptTail_builtinR (x:=w') dd.typeIs PySem.F.slot_dict_getitem.lookup (wpAny_getItem_of (Zhv ry) dd.mapOf hw ⟨rfl,z,H,I.tok _,rw',q⟩) hs
theorem ZrW{A:Around}{E:Value->Shared->Prop}{kvs:List (Key×V)}{k:Key}{v:V}{u r:Value}{Q:Unit->Shared->Prop}(I:Inv X pins Z H s)(e:H a=some (.dK kvs))(l:kvs.length<sizeLine)(ry:RelV (kV k) u)(rv:RelV v r)
   (h:∀ s',Inv X pins Z (upd H a (.dK (putK kvs k v))) s'->Q () s'):wpAny (model X.prog X.w) A (setItem (.ref a) u r) Q E s:=by
 obtain ⟨z,hd,vs,rel,dd⟩:=ZoQ I.hok e
 have hz:vs.length<=sizeLine:=by rw [<- rel.length];exact z
 have hl:(putK kvs k v).length<=sizeLine:=by have:=Zes kvs k v;omega
 refine wpAny_setItem_pairs (hsz:=hz) (Zhv ry) dd fun h' dd' hs=>h _ ?_
 have he:∃ q,h'.get? a=some q:=let ⟨q,_,_,hq,_⟩:=dd';⟨q,hq⟩
 exact ZjI I (by rw [e];exact True.intro) hs he (Zmi hl hd (rel.put k rv) dd')
noncomputable def Zq2:ZmH:=fun o i v H Q=>∃ a kvs k,o=.ref a/\i=kV k/\H a=some (.dK kvs)/\kvs.length<sizeLine/\Q (upd H a (.dK (putK kvs k v)))
theorem set_dict:Zoo X Zq2:=by
 intro pins s Z H o i v ov iv u Q I ro ri rv h
 obtain ⟨a,kvs,k,rfl,rfl,e,l,q⟩:=h
 cases ro
 exact ZrW I e l ri rv fun s' I'=>⟨_,I',q⟩
end
end L2
end
section
set_option tactic.hygienic false
namespace L2
open PySem PySem.Spec PyProof.Rows
section
variable {X:Cx}{elt tg iter:Expr}{ifs:List Expr}{scope sc:Scope}{pos:Pos}{NC:List Str}{js:List (Option Nat)}{k:Nat}{wi:TI}{g:TG}{tc:TT}{te:TE}
theorem Zh6{y:Str}{py spos:Pos}{i0:Nat}(hN:X.N.Nodup)(hy:X.N[i0]? = some y)(hx:Loc X.env.scope y)(hf:X.fn y=true\/X.env.scope.names.lookup y=some .local)(S_:CompSc NC X.N js sc scope)(hsc:X.env.scope=sc)(hc:X.calm=true)(hi:PI X tg iter wi)
   (hb:∀ (C:Addr) (s3:Shared) (H3:Hp) (fp:List Addr),PG (Zv X NC scope C s3 H3 fp) tg g/\PIf (Zv X NC scope C s3 H3 fp) ifs tc/\PE (Zv X NC scope C s3 H3 fp) elt te)
   (hk:ZmG k g) (hjk:∀ j,j<k->js[j]? = some none) (hs:∀ x,foldedSetIterable iter X.env x=pure x:=by intro _;rfl) (hsw:swapsWith (.ListComp elt [⟨tg,iter,ifs,0⟩] scope pos) (some (.Name y py)) spos.line X.env=pure true:=by rfl) :
   PS X (.Assign [.Name y py] (.ListComp elt [⟨tg,iter,ifs,0⟩] scope pos) spos) (ZkJ (Zox wi js g tc te) (Zdg i0)):=by
 intro pins s Z H D0 I h
 have hcells:∀ y∈scope.names,y.2=.free->∃ c,X.env.cells.lookup y.1=some c:=fun y hy hf=>I.ok.has y.1 (.inl (show X.env.scope.names.lookup y.1=some .cell by rw [hsc];exact S_.free y hy hf))
 rw [exec_Assign_Name_used _ _ _ _ hsw]
 refine wpAny_bind (wpAny_standAt (wpAny_bind ?_))
 show wpAny _ X.A (do let _ <- comprehension (.ListComp elt [⟨tg,iter,ifs,0⟩] scope pos) scope X.env _ (newList []) false (eval iter X.env) (some (assign (.Name y py) X.env))) _ _ s
 refine wpAny_bind (wpAny_mono (wpAny_comprehension_free (use:=some (assign (.Name y py) X.env)) (Q:=fun _ s'=>SP X pins D0 .next s') rfl hs (Zdi hcells) S_.kind S_.locs (thn (hi pins s Z H _ I h) fun xv s1 h1=>thn h1 fun itv s2 h2=>?_)) (fun _ s' hq=>wpAny_pure (wpAny_pure hq)) fun _ _ e=>e)
 obtain ⟨it,fp,tn,J,H2,e,I2,T,st2,f2,rest⟩:=h2
 subst e
 have hD:H2 s2.heap.objs.size=none:=I2.hok.fresh (Oq _)
 obtain ⟨W,⟨m0,w0⟩,turn⟩:=rest s2.heap.objs.size hD
 refine wpAny_newObj_type (wpAny_newFunctionEnv S_.nocell (by intro y hy;simp at hy) (fun h4 hns hsb=>?_) S_.kind)
 have I3:Inv X pins Z (upd H2 s2.heap.objs.size (.lst [])) {s2 with heap:=s2.heap.push {cls:=.type "list",dict:=none,data:=.seq ([]:List Value).toArray}}:=I2.lnew (t':=s2.toks) (ys:=[]) (its:=[]) .nil (Nat.zero_le _)
 dsimp only at hns hsb ⊢
 generalize hs3:({s2 with heap:=s2.heap.push {cls:=.type "list",dict:=none,data:=.seq ([]:List Value).toArray}}:Shared)=s3 at I3
 have eh:s2.heap.push {cls:=.type "list",dict:=none,data:=.seq ([]:List Value).toArray}=s3.heap:=by rw [<- hs3]
 have eD:s2.heap.objs.size<s3.heap.objs.size:=by rw [<- eh,Heap.size_push];exact OH _
 rw [eh] at hns hsb
 have keep:∀ b o,s3.heap.get? b=some o->h4.get? b=some o:=fun b o e=>(hsb.2 b (Ou (Heap.lt_size e))).trans (Od _ e)
 have fpl:∀ b∈fp,∃ o,s3.heap.get? b=some o:=fun b hb=>by
   obtain ⟨o,e,_⟩:=T.obj 0 _ st2 b hb
   exact ⟨o,by rw [<- eh];exact Od _ e⟩
 have neD:∀ b∈fp,b≠s2.heap.objs.size:=fun b hb=>by
   obtain ⟨o,e,_⟩:=T.obj 0 _ st2 b hb
   exact Ou (Heap.lt_size e)
 have f3:∀ b∈fp,ZcP X pins (upd H2 s2.heap.objs.size (.lst [])) b:=fun b hb=>⟨by rw [Zc (neD b hb)];exact (f2 b hb).1,(f2 b hb).2⟩
 have I4:=Zhw (tk:=s2.toks+([]:List (Str×Value)).length) S_ hsc hc I3 f3 fpl rfl hns keep
 have st4:tn 0 h4:=T.keep 0 _ _ st2 fun b hb o e=>keep b o (by rw [<- eh];exact Od _ e)
 have stat:∀ {H':Hp},(∀ b∈fp,H' b=none)->∀ b∈fp,ZcP (Zv X NC scope s3.heap.objs.size s3 (upd H2 s2.heap.objs.size (.lst [])) fp) [] H' b:=fun hn b hb =>
   ⟨hn b hb,Ou (let ⟨o,e⟩:=fpl b hb;Heap.lt_size e),fun hm=>I4.ok.exfs b hb hm,.inl hb,fun x c e=>(I4.ok.exf b hb).2 x c e,fun p hp=>absurd (show p∈([]:List (Addr×Obj)) from hp) (by simp)⟩
 have eC:(s2.heap.push {cls:=.type "list",dict:=none,data:=.seq ([]:List Value).toArray}).objs.size=s3.heap.objs.size:=by rw [eh]
 have loop:∀ s4:Shared,s4={s3 with heap:=h4,toks:=s2.toks+([]:List (Str×Value)).length} ->
     codeAny (model X.prog X.w) X.A (.compLoop (.ListComp elt [⟨tg,iter,ifs,0⟩] scope pos) 0 (.ref it) (.ref s2.heap.objs.size) (compEnvC scope (Zef X.env scope.names []) s3.heap.objs.size X.env))
       (compPost (model X.prog X.w) X.A X.xe (some (assign (.Name y py) X.env)) (fun _ s'=>SP X pins D0 .next s') (.ref s2.heap.objs.size) s3.heap.objs.size) s4:=by
   rintro s4 rfl
   refine Zex (fun n s'=>∃ i ys H',Inv (Zv X NC scope s3.heap.objs.size s3 (upd H2 s2.heap.objs.size (.lst [])) fp) [] (capt js Z) H' s'/\tn i s'.heap/\(∀ b∈fp,H' b=none)/\H' s2.heap.objs.size=some (.lst ys)/\W i n ys H') ?_ m0
     ⟨0,[],_,I4,st4,fun b hb=>(f3 b hb).1,Zh,w0⟩
   rintro n s5 ⟨i,ys,H5,I5,st5,fr5,hD5,w5⟩
   rcases turn i n ys H5 w5 hD5 with ⟨stop,qn⟩|⟨go,hlen,step⟩
   . refine wpAny_mono (T.done (Zv X NC scope s3.heap.objs.size s3 (upd H2 s2.heap.objs.size (.lst [])) fp) rfl rfl rfl rfl i [] s5 (capt js Z) H5 (fun _ _=>False) I5 (stat fr5) st5 stop) (fun r s6 ⟨hr,I6⟩=>?_) fun _ _ z=>z.elim
     subst hr
     obtain ⟨m,hm,_⟩:=I6.loc
     have Io:Inv X pins Z H5 s6:=I3.comp_out (h'':=s6.heap) f3 rfl I6 ⟨rfl,fun _ _=>rfl⟩
     have fC:ZcP X pins H5 s3.heap.objs.size:=I3.fpOk (Oq _) I6.free
     show wpAny _ X.A (assign (.Name y py) X.env (.ref s2.heap.objs.size)) _ _ _
     refine wpAny_assign_Name (ZfW Io hN hy hx (v:=.ref s2.heap.objs.size) rfl (fun s8 I8 ⟨a8,sb8,ha8⟩=>?_) hf)
     have ne8:s3.heap.objs.size≠a8:=fun z=>by
       rcases ha8 with e|e
       . exact fC.2.1 (z.trans e)
       . exact fC.2.2.2.2.1 _ _ e z.symm
     refine ⟨m,hm.sameBut sb8 ne8,fun h' hs'=>?_⟩
     exact ⟨_,H5,I8.turnL (t':=s8.toks) (ch:=[s3.heap.objs.size]) (fun b hb=>by rw [Ox.mp hb];exact fC) (fun b o hb e=>(hs'.2 b (fun z=>hb (by rw [z];exact List.mem_singleton_self _))).trans e),qn⟩
   . refine wpAny_mono (T.item (Zv X NC scope s3.heap.objs.size s3 (upd H2 s2.heap.objs.size (.lst [])) fp) rfl rfl rfl rfl i [] s5 (capt js Z) H5 (fun _ _=>False) I5 (stat fr5) st5 go) (fun r s6 ⟨u,hr,h6⟩=>?_) fun _ _ z=>z.elim
     subst hr
     refine wpAny_mono h6 (fun _ s7 ⟨x,H7,I7,r7,y7,st7,fr7⟩=>?_) fun _ _ z=>z.elim
     have I7':=I7.pinned (stat fr7) (T.obj _ _ st7)
     obtain ⟨pg,pif,pe⟩:=hb s3.heap.objs.size s3 (upd H2 s2.heap.objs.size (.lst [])) fp
     refine wpAny_mono (pg _ s7 (capt js Z) H7 x u _ I7' r7 (hk _ _ _ _ (step x H7 y7))) (fun _ s8 ⟨σ8,H8,I8,q8,l8,k8⟩=>?_) fun _ _ z=>z.elim
     have back:∀ {H9:Hp}{s9:Shared},Inv (Zv X NC scope s3.heap.objs.size s3 (upd H2 s2.heap.objs.size (.lst [])) fp) ([]++Zd5 fp s7.heap) σ8 H9 s9 ->
         Inv (Zv X NC scope s3.heap.objs.size s3 (upd H2 s2.heap.objs.size (.lst [])) fp) [] (capt js Z) H9 s9/\tn (i+1) s9.heap/\∀ b∈fp,H9 b=none:=fun {H9 s9} I9=>by
       refine ⟨(I9.unpinned).weak l8.symm fun j v e=>?_,T.keep _ _ _ st7 fun b hb o e=>(I9.pin (b,o) (Ov _ (Ov _ (ZaU hb e)))).1,fun b hb=>?_⟩
       . by_cases hj:j<k
         . unfold capt at e
           rw [On,hjk j hj] at e
           cases e
         . rw [k8 j (Nat.le_of_not_lt hj)];exact e
       . obtain ⟨o,e,d⟩:=T.obj _ _ st7 b hb
         exact (I9.pin (b,o) (Ov _ (Ov _ (ZaU hb e)))).2.1
     refine wpAny_mono (pif _ s8 σ8 H8 _ I8 q8) (fun ok s9 ⟨H9,I9,q9⟩=>?_) fun _ _ z=>z.elim
     cases ok with
     | false =>
       rw [if_neg Ow] at q9 ⊢
       obtain ⟨hD9,m',hm,w9⟩:=q9
       obtain ⟨b1,b2,b3⟩:=back I9
       exact ⟨m',hm,i+1,ys,H9,b1,b2,b3,hD9,w9⟩
     | true =>
       rw [if_pos rfl] at q9 ⊢
       refine wpAny_mono (pe _ s9 σ8 H9 _ I9 q9) (fun y s10 ⟨v,H10,I10,r10,hD10,m',hm,w10⟩=>?_) fun _ _ z=>z.elim
       refine wpAny_mono (Zd7 (X:=Zv X NC scope s3.heap.objs.size s3 (upd H2 s2.heap.objs.size (.lst [])) fp) _ s10 σ8 H10 (.ref s2.heap.objs.size) [v] (.ref s2.heap.objs.size) [y]
         (fun _ H11=>H11=upd H10 s2.heap.objs.size (.lst (ys++[v]))) I10 rfl (.cons r10 .nil) ⟨_,ys,v,rfl,rfl,hD10,hlen,rfl⟩) (fun _ s11 ⟨_,H11,I11,_,e11⟩=>?_) fun _ _ z=>z.elim
       subst e11
       obtain ⟨b1,b2,b3⟩:=back I11
       exact ⟨m',hm,i+1,ys++[v],_,b1,b2,b3,Zh,w10⟩
 have e4:({s2 with heap:=h4,toks:=s2.toks+([]:List (Str×Value)).length}:Shared)={s3 with heap:=h4,toks:=s2.toks+([]:List (Str×Value)).length}:=by rw [<- hs3]
 rw [eC]
 exact codeAny_compStart_list (loop _ e4) (T.self X.A 0 _ _ _ st4 (loop _ e4))
end
end L2
end
section
namespace L2
open PySem PySem.Spec PyProof.Rows
mutual
inductive Dp(K:PySem.W.Frag)(H:Hp):V->PyData->Prop
 | non:Dp K H .non .none
 | bl (b:Bool):Dp K H (.bl b) (.bool b)
 | int (i:Int):Dp K H (.int i) (.int i)
 | str (x:Str) (ok:PyData.strOk x=true):Dp K H (.str x) (.str x)
 | lst {a:Addr}{xs:List V}{ds:List PyData}:SqL K H a xs->Dps K H xs ds->Dp K H (.ref a) (.list ds)
 | tup {a:Addr}{xs:List V}{ds:List PyData}:SqT K H a xs->Dps K H xs ds->Dp K H (.ref a) (.tuple ds)
inductive Dps(K:PySem.W.Frag)(H:Hp):List V->List PyData->Prop
 | nil:Dps K H [] []
 | cons {v:V}{vs:List V}{d:PyData}{ds:List PyData}:Dp K H v d->Dps K H vs ds->Dps K H (v::vs) (d::ds)
end
section
variable {K:PySem.W.Frag}{H H':Hp}
mutual
theorem Dp.lay:∀ {v:V}{d:PyData},Dp K H v d->d.canLay0=true
 | _,_,.non=>rfl
 | _,_,.bl b=>rfl
 | _,_,.int i=>rfl
 | _,_,.str x ok=>ok
 | _,_,.lst h r=>Dps.lay r
 | _,_,.tup h r=>Dps.lay r
theorem Dps.lay:∀ {v:List V}{d:List PyData},Dps K H v d->PyData.canLayAll0 d=true
 | _,_,.nil=>rfl
 | _,_,.cons h r=>by rw [PyData.canLayAll0,Dp.lay h,Dps.lay r];rfl
end
end
section
variable {X:Cx}{pins:List (Addr×Obj)}{Z:St}{H:Hp}{s:Shared}
mutual
theorem Inv.reads(I:Inv X pins Z H s):∀ {v:V}{d:PyData}{u:Value},Dp X.K H v d->RelV v u->∃ as,Reads s.heap u d as
 | _,_,_,.non,r=>by cases r;exact ⟨_,.none⟩
 | _,_,_,.bl b,r=>by cases r;exact ⟨_,.bool b⟩
 | _,_,_,.int i,r=>by obtain ⟨t,rfl⟩:=r;exact ⟨_,.int i t⟩
 | _,_,_,.str x ok,r=>by obtain ⟨t,rfl⟩:=r;exact ⟨_,.str x t⟩
 | _,_,_,.lst h rs,r=>by
   cases r
   obtain ⟨its,rv,⟨o,n,e,c,_,dd⟩,_⟩:=I.list h
   obtain ⟨as,q⟩:=Inv.readsAll I rs rv
   exact ⟨_,.list e c dd (by simpa using q)⟩
 | _,_,_,.tup h rs,r=>by
   cases r
   obtain ⟨its,rv,⟨o,e,c,n,dd⟩,_⟩:=I.tuple h
   obtain ⟨as,q⟩:=Inv.readsAll I rs rv
   exact ⟨_,.tuple e c dd (by simpa using q)⟩
theorem Inv.readsAll(I:Inv X pins Z H s):∀ {v:List V}{d:List PyData}{u:List Value},Dps X.K H v d->Zi v u->∃ as,ReadsAll s.heap u d as
 | _,_,_,.nil,r=>by cases r;exact ⟨_,.nil⟩
 | _,_,_,.cons h rs,r=>by
   cases r with
   | cons r1 r2 =>
     obtain ⟨as,q⟩:=Inv.reads I h r1
     obtain ⟨bs,q2⟩:=Inv.readsAll I rs r2
     exact ⟨_,.cons q q2⟩
end
end
end L2
end
section
set_option tactic.hygienic false
namespace L2
open PySem PySem.Spec PyProof.Rows
namespace Rv
theorem own:Manifest.owners.lookup (String.ofList ['d','e','s','r','e','v','e','r'].reverse)=some Manifest.sig_reversed:=by kernel_rfl
theorem next:Slot "reversed" "__next__" "reversed.__next__" :=
 .of (owner := "reversed") (n := "__next__") (by rw [typeLookup_type,builtinLookup_eq_fast]<;>kernel_rfl) (by decide +kernel) (by decide +kernel) (by decide +kernel) (by first|exact .inl (by decide +kernel)|exact .inr (by decide +kernel)) (by rw [isSubtype_type]<;>kernel_rfl)
theorem ZoO:entryFor table "reversed.__next__" = some Builtin.«reversed.__next__»:=entryFor_of_tree (by kernel_rfl)
theorem ZoV (a:Value):argsOk "reversed.__next__" ⟨[a],[]⟩:=by
 unfold argsOk;rw [signature?_of (id := "reversed.__next__") (n:=['_','_','t','x','e','n','_','_']) (o:=['d','e','s','r','e','v','e','r']) (by kernel_rfl) own];kernel_rfl
theorem iter:Slot "reversed" "__iter__" "reversed.__iter__" :=
 .of (owner := "reversed") (n := "__iter__") (by rw [typeLookup_type,builtinLookup_eq_fast]<;>kernel_rfl) (by decide +kernel) (by decide +kernel) (by decide +kernel) (by first|exact .inl (by decide +kernel)|exact .inr (by decide +kernel)) (by rw [isSubtype_type]<;>kernel_rfl)
theorem Zr4 (a:Value):argsOk "reversed.__iter__" ⟨[a],[]⟩:=by
 unfold argsOk;rw [signature?_of (id := "reversed.__iter__") (n:=['_','_','r','e','t','i','_','_']) (o:=['d','e','s','r','e','v','e','r']) (by kernel_rfl) own];kernel_rfl
theorem ZrU:entryFor table "reversed.__iter__" = some Builtin.«dict_keyiterator.__iter__» :=
 entryFor_alias (id' := "dict_keyiterator.__iter__") (by kernel_rfl) (by first|rfl|decide +kernel|(unfold String.splitOn;simp +decide [String.splitOnAux])) (by decide +kernel) (by kernel_rfl)
theorem Zrw:typeLookup (.type "tuple") "__reversed__" = pure none:=by rw [typeLookup_type,builtinLookup_eq_fast]<;>kernel_rfl
theorem Zja:isSubtype (.type "reversed") (.type "reversed")=pure true:=by rw [isSubtype_type]<;>kernel_rfl
theorem init:Slot "reversed" "__init__" "object.__init__" :=
 .of (owner := "object") (n := "__init__") (by rw [typeLookup_type,builtinLookup_eq_fast]<;>kernel_rfl) (by decide +kernel) (by decide +kernel) (by decide +kernel) (by first|exact .inl (by decide +kernel)|exact .inr (by decide +kernel)) (by rw [isSubtype_type]<;>kernel_rfl)
theorem called:TypeCalled "reversed" "reversed.__new__" "object.__init__" := ⟨by decide +kernel,F.create_reversed,⟨_,_,F.mro_reversed⟩,F.made_reversed,by decide +kernel,Zja,init⟩
noncomputable def obj (l:Addr) (i:Int):Obj:={cls:=.type "reversed",data:=.fields #[.ref l,rawInt i]}
noncomputable def Is (h:Heap) (a l:Addr) (i:Int):Prop:=∃ o,h.get? a=some o/\o.cls=.type "reversed" /\ o.data=.fields #[.ref l,rawInt i]
section
variable {prog:Program}{w:World}{A:Around}{E:Value->Shared->Prop}{s:Shared}
theorem Is.typeIs {a l:Addr}{i:Int} (x:Is s.heap a l i):s.TypeIs (.ref a) "reversed" := let ⟨o,ho,hc,_⟩:=x;⟨o,ho,hc⟩
theorem Is.at{h h':Heap}{a l:Addr}{i:Int}(x:Is h a l i)(e:∀ o,h.get? a=some o->h'.get? a=some o):Is h' a l i:=let ⟨o,ho,r⟩:=x;⟨o,e _ ho,r⟩
theorem new{l:Addr}{items:Array Value}{Q:Value->Shared->Prop}(hl:IsTup s.heap l items)(hz:items.size<=sizeLine)
   (h:Q (.ref s.heap.objs.size) {s with heap:=s.heap.push (obj l ((items.size:Int) - 1)),toks:=s.toks+1+1}) :
   codeAny (model prog w) A (.call (.builtin "reversed.__new__") ⟨[.type "reversed",.ref l],[]⟩) (wants Q E) s:=by
 have hfit:(items.size:Int)<2 ^ 63:=by have:=Zbp;omega
 refine codeAny_of_tree ?_
 show wpAny _ A.in1 (do checkBuiltinCall "reversed.__new__" ⟨[.type "reversed",.ref l],[]⟩;again (.builtin "reversed.__new__" ⟨[.type "reversed",.ref l],[]⟩)) _ _ s
 refine wpAny_bind (wpAny_of_eq (F.newCall_reversed_1 _) (wpAny_pure ⟨plainId_quiet F.plain_reversed_new _,codeAny_builtin F.entry_reversed_new ?_⟩))
 rw [Around.under_plainId F.plain_reversed_new _]
 unfold Builtin.«reversed.__new__»
 refine wpAny_bind (wpAny_of_eq (newClass_reversed _) ?_)
 try dsimp only
 refine wpAny_bind (wpAny_of_eq (a:=()) (by first|rfl|kernel_rfl) (wpAny_bind (wpAny_of_eq (a:=()) (by first|rfl|kernel_rfl) ?_)))
 try dsimp only
 refine wpAny_bind (wpAny_specialOf hl.typeIs Zrw ?_)
 try dsimp only
 refine wpAny_bind ?_
 show wpAny _ _ (isInstance (.ref l) (.type "dict") >>= fun b=>_) _ _ s
 refine wpAny_bind (wpAny_isInstance hl.typeIs F.sub_tuple_dict ?_)
 show wpAny _ _ (specialOf (.ref l) "__getitem__" >>= fun b=>_) _ _ s
 refine wpAny_bind (wpAny_specialOf hl.typeIs slot_tuple_getitem.lookup ?_)
 refine wpAny_of_eq (a:=true) (by rfl) ?_
 show wpAny _ _ (call (.builtin "len") [.ref l] >>= fun b=>_) _ _ s
 refine wpAny_bind (len_tuple hl hfit ?_)
 show wpAny _ _ (asInt? (.int _ _) >>= fun b=>_) _ _ _
 refine wpAny_bind (wpAny_pure ?_)
 show wpAny _ _ (newObj (.type "reversed") (.fields #[.ref l,rawInt ((items.size:Int) - 1)]) >>= fun b=>_) _ _ _
 exact wpAny_bind (wpAny_newObj_type (wpAny_pure h))
theorem call{l:Addr}{items:Array Value}{Q:Value->Shared->Prop}(hl:IsTup s.heap l items)(hz:items.size<=sizeLine)
   (h:Q (.ref s.heap.objs.size) {s with heap:=s.heap.push (obj l ((items.size:Int) - 1)),toks:=s.toks+1+1}):wpAny (model prog w) A (PySem.call (.type "reversed") [.ref l]) Q E s:=by
 refine callType_codes called (F.typeCall_reversed_1 _) F.entry_object_init (new (Q:=fun o s1=>o=.ref s.heap.objs.size/\s1={s with heap:=s.heap.push (obj l ((items.size:Int) - 1)),toks:=s.toks+1+1}) hl hz ⟨rfl,rfl⟩) ?_
 rintro _ _ ⟨rfl,rfl⟩
 have hT:Shared.TypeIs {s with heap:=s.heap.push (obj l ((items.size:Int) - 1)),toks:=s.toks+1+1} (.ref s.heap.objs.size) "reversed" := ⟨_,Oj _ rfl,rfl⟩
 refine ⟨hT,F.args_object_init_2 _ _,?_⟩
 exact object_init_meets init.lookup F.made_reversed (by decide) prog w _ _ _ ⟨hT,rfl,h⟩
theorem next_item{it l:Addr}{i:Nat}{items:Array Value}{x:Value}{Q:Option Value->Shared->Prop}(hit:Is s.heap it l (i:Int))(hl:IsTup s.heap l items)(hz:items.size<=sizeLine)(hx:items[i]? = some x)
   (hQ:∀ h' t',Is h' it l ((i:Int) - 1)->Heap.SameBut it s.heap h'->Q (some x) {s with heap:=h',toks:=t'}):wpAny (model prog w) A (pyNext (.ref it)) Q E s:=by
 obtain ⟨o,ho,hc,hd⟩:=id hit
 have hi:i<items.size:=by
   have:=(Array.getElem?_eq_some_iff.mp hx).1
   exact this
 have l63:=Zbp
 unfold pyNext
 refine wpAny_bind (wpAny_attempt (wpAny_callSpecial?_slot (name:=O "__next__") hit.typeIs next (wpAny_call_entry next hit.typeIs ZoO ?_ (ZoV _))))
 unfold Builtin.«reversed.__next__»
 refine wpAny_bind (wpAny_of_eq (a:=(Value.ref it,[])) rfl ?_)
 try dsimp only
 refine wpAny_bind (wpAny_field ho hd (x:=.ref l) rfl (wpAny_bind (wpAny_field ho hd (x:=rawInt (i:Int)) rfl ?_)))
 show wpAny _ _ (if (i:Int)<0 then _ else _) _ _ s
 rw [if_neg (by omega)]
 show wpAny _ _ (specialOf (.ref l) "__getitem__" >>= fun b=>_) _ _ s
 refine wpAny_bind (wpAny_specialOf hl.typeIs slot_tuple_getitem.lookup ?_)
 show wpAny _ _ (mkInt (i:Int) >>= fun b=>_) _ _ s
 refine wpAny_bind (wpAny_mkInt ?_)
 refine wpAny_bind (wpAny_attempt (getItem_tuple (s:={s with toks:=s.toks+1}) (j:=i) (x:=x) hl (by omega) (by omega) (seqIndex_of (by omega) (by omega)) hx ?_))
 show wpAny _ _ (field (.ref it) 1 >>= fun b=>_) _ _ _
 refine wpAny_bind (wpAny_field ho hd (x:=rawInt (i:Int)) rfl ?_)
 show wpAny _ _ (setField (.ref it) 1 (rawInt ((i:Int) - 1)) >>= fun b=>_) _ _ _
 refine wpAny_bind (wpAny_setField ho hd (by simp) ?_)
 refine wpAny_pure ⟨x,rfl,wpAny_pure (hQ _ _ ?_ (Heap.SameBut.update ..))⟩
 exact ⟨_,Heap.get?_update_self _ ho (Obj.isFreed_of_fields (Obj.data_mapFields hd _)),(Obj.cls_mapFields ..).trans hc,by rw [Obj.data_mapFields hd]<;>simp⟩
theorem next_end{it l:Addr}{Q:Option Value->Shared->Prop}(hh:A.handled=none)(hit:Is s.heap it l (-1))(hQ:∀ h',Heap.ExtBut it s.heap h'->Q none {s with heap:=h'}):wpAny (model prog w) A (pyNext (.ref it)) Q E s:=by
 obtain ⟨o,ho,hc,hd⟩:=id hit
 unfold pyNext
 refine wpAny_bind (wpAny_attempt (wpAny_callSpecial?_slot (name:=O "__next__") hit.typeIs next (wpAny_call_entry next hit.typeIs ZoO ?_ (ZoV _))))
 unfold Builtin.«reversed.__next__»
 refine wpAny_bind (wpAny_of_eq (a:=(Value.ref it,[])) rfl ?_)
 try dsimp only
 refine wpAny_bind (wpAny_field ho hd (x:=.ref l) rfl (wpAny_bind (wpAny_field ho hd (x:=rawInt (-1)) rfl ?_)))
 show wpAny _ _ (if (-1:Int)<0 then _ else _) _ _ s
 rw [if_pos (by decide)]
 refine wpAny_bind (wpAny_rule ?_)
 show wpAny _ _ ((setField (.ref it) 1 (rawInt (-1)) >>= fun _=>setField (.ref it) 0 .none) >>= fun b=>_) _ _ _
 have e1:=Heap.get?_update_self (Obj.mapFields (·.setIfInBounds 1 (rawInt (-1)))) ho (Obj.isFreed_of_fields (Obj.data_mapFields hd _))
 refine wpAny_bind (wpAny_bind (wpAny_setField ho hd (by simp) (wpAny_setField e1 (Obj.data_mapFields hd _) (by simp) ?_)))
 refine wpAny_bind ?_
 show wpAny _ _ (newExc (.type "StopIteration") [] >>= fun b=>_) _ _ _
 refine wpAny_bind ?_
 simp only [newExc,newTuple]
 refine wpAny_bind (wpAny_newObj_type ?_ (by size_fits))
 refine wpAny_bind (m:=firstArgMember _ _) (wpAny_of_eq (a:=Value.none) (by first|rfl|(simp only [firstArgMember]<;>rfl)) (wpAny_newObj_type ?_ (by size_fits)))
 simp only [raiseNew]
 refine wpAny_bind (wpAny_handled ?_)
 rw [show A.in1.handled=none from hh]
 refine wpAny_bind (wpAny_pure (wpAny_throw ?_))
 refine wpAny_bind (wpAny_isInstance (T := "StopIteration") (b:=true) ⟨_,Oj _ rfl,rfl⟩ isSubtype_stop (wpAny_pure (hQ _ ?_)))
 exact ((((Heap.ExtBut.refl _ _).trans (Heap.SameBut.update ..).extBut).trans (Heap.SameBut.update ..).extBut).push _).push _
theorem Zea{it l:Addr}{i:Int}{Q:Value->Shared->Prop}(hit:Is s.heap it l i)(h:Q (.ref it) s):wpAny (model prog w) A (pyIter (.ref it)) Q E s:=by
 refine wpAny_pyIter_slot hit.typeIs iter (wpAny_call_entry iter hit.typeIs ZrU ?_ (Zr4 _))
 exact wpAny_pure ⟨_,rfl, "reversed",_,hit.typeIs,next.lookup,h⟩
end
end Rv
noncomputable def Itv(K:PySem.W.Frag)(a:Addr)(n:Nat):It :=
 ⟨fun i H=>∃ xs x,SqT K H a xs/\xs.length=n/\xs.reverse[i]? = some x,fun i H x H'=>H'=H/\∀ xs,SqT K H a xs->xs.reverse[i]? = some x,fun i H=>∃ xs,SqT K H a xs/\xs.length=n/\n=i⟩
theorem ZkG{P:Program}{w:World}{K:PySem.W.Frag}{tg:Expr}(a it:Addr)(n:Nat):Turn P w K tg (Itv K a n) [it] it (fun i h=>i<=n/\Rv.Is h it a ((n:Int) - 1 - i)) where
 mem:=by simp
 obj:=fun i h st b hb=>by
   have e:b=it:=by simpa using hb
   subst e
   obtain ⟨_,o,e,c,d⟩:=st
   exact ⟨o,e,fun v z=>by rw [d] at z;cases z⟩
 keep:=fun i h h' st k=>⟨st.1,st.2.at fun o e=>k it (by simp) o e⟩
 item:=by
   intro X hP hw hK hc i pins s Z H E I hf st hg
   subst hP hw hK
   obtain ⟨hin,st⟩:=st
   obtain ⟨xs,x,hq,hxn,hx⟩:=hg
   obtain ⟨its,rv,p,hz⟩:=I.tuple hq
   have hl:=rv.length
   have hi:i<xs.length:=by
     have:=(Ob.mp hx).1
     simpa using this
   have hx':xs[n - 1 - i]? = some x:=by
     rw [List.getElem?_reverse hi] at hx
     rw [<- hxn]
     exact hx
   obtain ⟨u,hu,ru⟩:=rv.get hx'
   obtain ⟨f0,f1,f2,f3,f4,f5⟩:=hf it (by simp)
   have e1:(n:Int) - 1 - (i:Nat)=((n - 1 - i:Nat):Int):=by omega
   rw [e1] at st
   refine Rv.next_item st p (by simp;omega) (x:=u) (by simpa using hu) fun h' t' st' sb=>?_
   have I1:Inv X pins Z H {s with heap:=h',toks:=t'}:=I.turned (t':=t') (fun b o hb e=>(sb.2 b hb).trans e) f0 f1 f3 f4 f5
   obtain ⟨o,e,c,d⟩:=id st'
   have e2:((n - 1 - i:Nat):Int) - 1=(n:Int) - 1 - ((i+1:Nat):Int):=by omega
   refine ⟨u,rfl,Zf7 (s:={s with heap:=h',toks:=t'}) e c d (by decide) ⟨x,H,I1,ru,⟨rfl,fun ys hy=>by rw [I.tuple_inj hy hq];exact hx⟩,⟨by omega,by rw [<- e2];exact st'⟩,fun b hb=>(hf b hb).1⟩⟩
 done:=by
   intro X hP hw hK hc i pins s Z H E I hf st hg
   subst hP hw hK
   obtain ⟨xs,hq,hxn,hx⟩:=hg
   obtain ⟨f0,f1,f2,f3,f4,f5⟩:=hf it (by simp)
   have st1:=st.2
   rw [show (n:Int) - 1 - (i:Nat)=-1 by omega] at st1
   exact Rv.next_end (I.ok.hd hc) st1 fun h' eb=>⟨rfl,I.turned (t':=s.toks) (fun b o hb e=>eb b o hb e) f0 f1 f3 f4 f5⟩
 self:=fun _ _ _ _ _ st h=>Rv.Zea st.2 h
end L2
end
section
set_option tactic.hygienic false
namespace L2
open PySem PySem.Spec PyProof.Rows
theorem Zd0:∀ {vs:List Value}{ss:List Str},StrsAre vs ss->Zi (ss.map V.str) vs
 | _,_,.nil=>.nil
 | _,_,.cons y t h=>.cons ⟨t,rfl⟩ (Zd0 h)
section
variable {prog:Program}{w:World}{A:Around}{E:Value->Shared->Prop}{s:Shared}
theorem Zh0{r:Addr}{ss:List Str}{Q:Value->Shared->Prop}
   (hcol:∀ R:List Value->Shared->Prop,(∀ (h':Heap) (tk:Nat) (vs:List Value),s.heap.objs.size<=h'.objs.size->(∀ b o,s.heap.get? b=some o->h'.get? b=some o)->StrsAre vs ss->R vs {s with heap:=h',toks:=tk})->wpAny (model prog w) A.in1 (collect (.ref r)) R E s)
   (h64:ss.length<64)
   (h:∀ (D:Addr) (h':Heap) (tk:Nat) (out:List Value) (ss':List Str) (n:Nat),(∀ b o,s.heap.get? b=some o->h'.get? b=some o)->s.heap.objs.size<=D->h'.get? D=some {cls:=.type "list",data:=.seq out.toArray n}->StrsAre out ss'->ss'.Perm ss->sortedS ss'=true ->
     Q (.ref D) {s with heap:=h',toks:=tk}):wpAny (model prog w) A (call (.builtin "sorted") [.ref r]) Q E s:=by
 refine Calls.call_function_entry kind_sorted plain_sorted entry_sorted (args_sorted1 _) ?_
 unfold Builtin.«sorted»
 refine wpAny_bind (m:=checkCount "sorted" 1 1 _) (wpAny_pure (wpAny_bind (hcol _ fun h' tk vs hsz hk hS=>?_)))
 have hlen:vs.length=ss.length:=by
   have:=(Zd0 hS).length
   simpa using this.symm
 have hz:vs.length<=sizeLine:=by rw [sizeLine_eq];omega
 refine wpAny_bind (wpAny_newList ?_ hz)
 have hoL:(h'.push (seqObj "list" vs.toArray 0)).get? h'.objs.size=some (seqObj "list" vs.toArray 0):=Oj _ rfl
 refine wpAny_bind (wpAny_holding (wpAny_call_entry slot_list_sort ⟨_,hoL,rfl⟩ entry_list_sort (list_sort_treeK strKind_oneLt hoL hS.keysOf (fun v₁ v₂ rest e=>keyKind_strs (by rw [<- e];exact hS)) (by omega) fun st' a1 a2=>⟨_,rfl,?_⟩) (args_list_sort _)))
 refine wpAny_pure ⟨_,rfl,?_⟩
 obtain ⟨ss',h1,h2,h3⟩:=sorted_out_str hS a1 a2
 obtain ⟨e,he⟩:=sortedHeap_at (out:=(arrOf st').map (·.2)) hoL
 have e2:((arrOf st').map (·.2))=((arrOf st').map (·.2)).toList.toArray:=Array.toArray_toList.symm
 refine h h'.objs.size _ tk ((arrOf st').map (·.2)).toList ss' e (fun b o q=>?_) hsz (by rw [<- e2];exact he) h1 h2 h3
 have q':=hk b o q
 have hlt:=Heap.lt_size q'
 rw [sortedHeap_old (Ou hlt) (by rw [size_push'];exact Nat.lt_succ_of_lt hlt)]
 exact Od _ q'
theorem ZhG{R:List Value->Shared->Prop}{T:String}{r d:Addr}{n:Nat}{P:Nat->Value->Prop}{OK:Heap->Prop}(K:PySem.W.KdlSrc prog w T r d n P OK)(hh:A.handled=none)(hok:OK s.heap)(hn:n<=sizeLine)
   (h:∀ (h':Heap) (tk:Nat) (acc:Array Value),s.heap.objs.size<=h'.objs.size->(∀ b o,s.heap.get? b=some o->h'.get? b=some o)->ItemsOf P acc n->R acc.toList {s with heap:=h',toks:=tk}) :
   wpAny (model prog w) A (collect (.ref r)) R E s:=by
 have lt:=K.there _ hok
 unfold collect
 refine wpAny_bind (wpAny_runValue (codeAny_builtin entry_proto_collect' ?_))
 rw [Around.under_plainId PySem.F.plain_proto_collect _]
 show wpAny _ A.in1 (newList [] >>= fun x=>again (.builtin "list.__iadd__" ⟨[x,.ref r],[]⟩)) _ _ s
 refine wpAny_bind (wpAny_newObj_type (wpAny_pure ⟨plainId_quiet PySem.F.plain_list_iadd _,codeAny_builtin entry_list_iadd' ?_⟩))
 rw [Around.under_plainId PySem.F.plain_list_iadd _]
 have e0:(s.heap.push {cls:=.type "list",data:=.seq ([]:List Value).toArray}).get? s.heap.objs.size=some {cls:=.type "list",data:=.seq #[]}:=Oj _ rfl
 show wpAny _ A.in1 (Builtin.List.listExtendWith (.ref s.heap.objs.size) (.ref r) (.ref s.heap.objs.size)) _ _ _
 have key:=PySem.W.kdl_extend (A:=A) (s:={s with heap:=s.heap.push {cls:=.type "list",data:=.seq ([]:List Value).toArray}})
   (R:=fun (q:Result) (s':Shared)=>∃ (h':Heap) (tk:Nat) (acc:Array Value) (c:Nat),q=.ok (.ret (.ref s.heap.objs.size))/\s'={s with heap:=h',toks:=tk}/\(∀ b o,s.heap.get? b=some o->h'.get? b=some o)/\h'.get? s.heap.objs.size=some {cls:=.type "list",dict:=none,data:=.seq acc c,slots:=#[]}/\ItemsOf P acc n)
   K hh (K.keep _ _ hok fun b _ o e=>Od _ e) s.heap.objs.size (Nat.ne_of_gt lt.1) (Nat.ne_of_gt lt.2) (.ref s.heap.objs.size) 0 e0 (fun h' tk acc c hk hS hacc=>⟨h',tk,acc,c,rfl,rfl,fun b o e=>hk b o (Ou (Heap.lt_size e)) (Od _ e),hS,hacc⟩) hn
 refine wpAny_mono key (fun fin s' x=>?_) fun e s' x=>?_
 . cases fin with
   | done f =>
     obtain ⟨h',tk,acc,c,e,rfl,hk,hS,hacc⟩:=x
     cases e
     exact wpAny_bind (wpAny_load hS (wpAny_pure (h h' tk acc (Nat.le_of_lt (Heap.lt_size hS)) hk hacc)))
   | again c₁ =>
     refine ⟨x.1,codeAny_mono x.2 fun q s₂ y=>?_⟩
     obtain ⟨h',tk,acc,c,rfl,rfl,hk,hS,hacc⟩:=y
     exact wpAny_bind (wpAny_load hS (wpAny_pure (h h' tk acc (Nat.le_of_lt (Heap.lt_size hS)) hk hacc)))
 . obtain ⟨_,_,_,_,z,_⟩:=x
   cases z
end
theorem Zff{α β:Type}{R:α->β->Prop}:∀ {xs:List α}{ys:List β},Paired R xs ys->∀ {i:Nat}{x:α},xs[i]? = some x->∃ y,ys[i]? = some y/\R x y
 | _,_,.nil,i,x,e=>by simp at e
 | _,_,.cons h r,0,x,e=>by cases e;exact ⟨_,rfl,h⟩
 | _,_,.cons h r,i+1,x,e=>by
   obtain ⟨y,h1,h2⟩:=Zff r (i:=i) (x:=x) (by simpa using e)
   exact ⟨y,by simpa using h1,h2⟩
theorem ZeW{P:Program}{w:World}:∀ (ss:List Str) (vs:List Value),vs.length=ss.length->(∀ (j:Nat) (v:Value),vs[j]? = some v->∃ x,ss[j]? = some x/\(Zz P w).is (Sum.inr x) v=true)->StrsAre vs ss
 | [],[],_,_=>.nil
 | s::ss,v::vs,hl,h=>by
   obtain ⟨x,e,hx⟩:=h 0 v rfl
   cases e
   obtain ⟨t,rfl⟩:=Value.isStrOf_shape (x:=s) (v:=v) hx
   exact .cons s t (ZeW ss vs (by simpa using hl) fun j u hu=>h (j+1) u (by simpa using hu))
section
variable {X:Cx}
noncomputable def Zk3(P:Program)(w:World)(K:PySem.W.Frag):List V->Hp->VK->Prop:=fun xs H Q=>∃ a kvs ss,xs=[.ref a]/\Dk P w K H a kvs/\kvs.map (·.1)=ss.map Sum.inr/\ss.length<64/\∀ p ss',H p=none->ss'.Perm ss->sortedS ss'=true->Q (.ref p) (upd H p (.lst (ss'.map V.str)))
theorem ZgL (hc:X.A.handled=none):Zca X (.builtin "sorted") (Zk3 X.prog X.w X.K):=by
 intro pins s Z H xs us Q I r h
 obtain ⟨a,kvs,ss,rfl,hd,hks,h64,q⟩:=h
 obtain ⟨u,rfl,ru⟩:=vals1 r
 cases ru
 obtain ⟨z,hm,vs,rel,dd⟩:=I.dk hd
 obtain ⟨ep,hat⟩:=dd.dictAt
 have hl:vs.length=kvs.length:=(Paired.length rel).symm
 have hl2:kvs.length=ss.length:=by
   have:=congrArg List.length hks
   simpa using this
 have hkey:∀ (j:Nat) k x,vs[j]? = some (k,x)->∃ y,ss[j]? = some y/\k=Sum.inr y:=fun j k x e=>by
   have hj:j<vs.length:=(Ob.mp e).1
   have h1:kvs[j]? = some kvs[j]:=Og (by omega)
   obtain ⟨u,hu,hu2⟩:=Zff rel h1
   rw [e] at hu
   cases hu
   have h3:(kvs.map (·.1))[j]? = some kvs[j].1:=by rw [On,h1];rfl
   rw [hks,On] at h3
   obtain ⟨y,hy,e3⟩:=Oo.mp h3
   exact ⟨y,hy,hu2.1.symm.trans e3.symm⟩
 refine Zh0 (ss:=ss) (fun R hR=>ZhG (PySem.W.kdl_dict (knd:=Zz X.prog X.w) (kvs:=vs) (ep:=ep) hm) hc hat (by omega) fun h' tk acc hsz hk hacc=>?_) h64 fun D h' tk out ss' n hk hD ho hS hp hs=>?_
 . refine hR h' tk acc.toList hsz hk (ZeW (P:=X.prog) (w:=X.w) ss acc.toList (by rw [Array.length_toList,hacc.1];omega) fun j v hv=>?_)
   obtain ⟨k,x,e,hk2⟩:=hacc.2 j v (by rw [<- Array.getElem?_toList];exact hv)
   obtain ⟨y,hy,rfl⟩:=hkey j k x e
   exact ⟨y,hy,hk2⟩
 . have hlen:ss'.length<=sizeLine:=by rw [hp.length_eq];omega
   refine ⟨.ref D,_,I.laid (a:=D) (o:=.lst (ss'.map V.str)) (t':=tk) hk hD ⟨by simpa using hlen,out,n,Zd0 hS,ho⟩,rfl,q D ss' (I.hok.fresh hD) hp hs⟩
end
end L2
end
section
namespace L2
open PySem PySem.Spec PyProof.Rows
theorem Zc3:∀ {ns:List Int}{vs:List Value},Zi (ns.map V.int) vs->IntsAre vs ns
 | [],vs,h=>by cases h;exact .nil
 | s::ss,vs,h=>by
   rw [Op] at h
   cases h with
   | cons h1 h2 =>
     obtain ⟨t,rfl⟩:=h1
     exact .cons s t (Zc3 h2)
noncomputable def Zd3(z:Str)(n:Nat):Str:=⟨(List.replicate n z.cps).foldl (·++·) #[]⟩
theorem Zfu(a:Array Nat):∀ (n:Nat) (i:Array Nat),((List.replicate n a).foldl (·++·) i).size=i.size+n * a.size
 | 0,i=>by simp
 | n+1,i=>by
   rw [List.replicate_succ,List.foldl_cons,Zfu a n (i++a),Array.size_append,Nat.succ_mul]
   omega
theorem ZdE(z:Str)(n:Nat):(Zd3 z n).length=n * z.length:=by
 show ((List.replicate n z.cps).foldl (·++·) #[]).size=_
 rw [Zfu]
 simp
 rfl
section
variable {X:Cx}
theorem Zkw (hc:X.A.handled=none):Zca X (.builtin "sum") (fun xs H Q=>∃ (a:Addr) (ns:List Int),xs=[.ref a]/\SqL X.K H a (ns.map V.int)/\Q (.int ns.sum) H):=by
 intro pins s Z H xs us Q I r h
 obtain ⟨a,ns,rfl,hq,q⟩:=h
 obtain ⟨u,rfl,ru⟩:=vals1 r
 cases ru
 obtain ⟨its,rv,pl,hz⟩:=I.list hq
 have hi:=Zc3 rv
 obtain ⟨ys,e⟩:=hi.allInts.items
 refine sum_intListG (xs:=ys) hc (by rw [<- e];exact pl.isList) fun h' tk t' hk=>?_
 refine ⟨.int ns.sum,H,I.kept (t':=tk) hk,⟨t',?_⟩,q⟩
 have e2:=hi.numsOf
 have e3:numsOf (intItems ys).toList=ns:=by rw [<- e];exact e2
 rw [nums_intItems] at e3
 rw [preSum_eq,List.take_of_length_le (by simp),e3]
theorem Znz:OpR X (binaryOp .Mult) (fun x y H Q=>∃ z n,x=.str z/\y=.int n/\0<=n/\n<=1000/\z.length<=1000/\Q (.str (Zd3 z n.toNat)) H):=by
 intro pins s Z H x y v u Q I rx ry h
 obtain ⟨z,n,rfl,rfl,h0,h1,h2,q⟩:=h
 obtain ⟨t,rfl⟩:=rx
 obtain ⟨t2,rfl⟩:=ry
 have hl:z.length * n.toNat<=1000000:=Nat.mul_le_mul h2 (by omega:n.toNat<=1000)
 have hs:(1000000:Nat)<=sizeLine:=by decide
 refine PySem.P.mul_str (by rw [decide_eq_false (by omega:¬ n < -(2 ^ 63:Int)),decide_eq_false (by omega:¬ n ≥ 2 ^ 63)]<;>rfl) (fun _ _=>?_) (fun _ _=>?_) ?_
 . have h3:1<=n:=by omega
   have h4:(9223372036854775807:Int) / n ≥ 1000:=by
     have:1000<=9223372036854775807 / n:=(Int.le_ediv_iff_mul_le (by omega)).mpr (by omega)
     exact this
   show ¬ ((z.length:Int) > (2 ^ 63 - 1) / n)
   rw [show (2 ^ 63 - 1:Int)=9223372036854775807 by decide]
   omega
 . unfold Builtin.Str.tooLong
   exact decide_eq_false (by omega)
 . by_cases hn:n<1
   . rw [if_pos hn]
     refine ⟨by decide,.str _,H,I.tok _,⟨_,rfl⟩,?_⟩
     rw [show n.toNat=0 by omega] at q
     exact q
   . rw [if_neg hn]
     by_cases h5:(n==1 || z.length==0)=true
     . rw [if_pos h5]
       refine ⟨.str _,H,I,⟨_,rfl⟩,?_⟩
       have e:Zd3 z n.toNat=z:=by
         rw [Bool.or_eq_true] at h5
         rcases h5 with h5|h5
         . have e1:n.toNat=1:=by have:=eq_of_beq h5;omega
           rw [e1]
           unfold Zd3
           simp
         . have e1:z.length=0:=eq_of_beq h5
           have e2:(Zd3 z n.toNat).length=0:=by rw [ZdE,e1];simp
           have f:∀ y:Str,y.length=0->y=⟨#[]⟩:=fun y hy=>by
             cases y with|mk c=>rw [show c=#[] from Array.eq_empty_of_size_eq_zero hy]
           exact (f _ e2).trans (f z e1).symm
       rw [e] at q
       exact q
     . rw [if_neg h5]
       refine ⟨?_,.str _,H,I.tok _,⟨_,rfl⟩,q⟩
       show (Zd3 z n.toNat).length<=sizeLine
       rw [ZdE,Nat.mul_comm]
       omega
end
end L2
end
section
namespace L2
open PySem PySem.Spec PyProof.Rows
section
variable {X:Cx}
theorem Zgq{i j:Int}(hi:i.natAbs<2 ^ 2000)(hj:j.natAbs<2 ^ 2000):IntMulOk i j:=by
 have bits:∀ k:Int,k.natAbs<2 ^ 2000->Builtin.Int.intBits k<=2000:=fun k hk=>by
   unfold Builtin.Int.intBits
   split
   . omega
   . rename_i h
     have h0:k.natAbs≠0:=by simpa using h
     have:=(Nat.log2_lt h0).mpr hk
     omega
 unfold IntMulOk
 have h1:=bits i hi
 have h2:=bits j hj
 have h3:Builtin.Int.intTooBig (Builtin.Int.intBits i+Builtin.Int.intBits j:Nat)=false:=by
   unfold Builtin.Int.intTooBig
   rw [decide_eq_false_iff_not]
   have:(bitsLine:Nat)=134217728:=by decide
   rw [this]
   omega
 intro q
 simp only [Oa] at q
 have q2:=q.2
 rw [show ((Builtin.Int.intBits i:Int)+(Builtin.Int.intBits j:Int))=((Builtin.Int.intBits i+Builtin.Int.intBits j:Nat):Int) by simp] at q2
 rw [h3] at q2
 cases q2
theorem Zkc:OpR X (binaryOp .Mult) (rI (fun i j=>i.natAbs<2 ^ 2000/\j.natAbs<2 ^ 2000) fun i j=>.int (i * j)):=opI fun _ _ _ _ _ _ _ hc q=>mul_int q (Zgq hc.1 hc.2)
noncomputable def Zrb(K:PySem.W.Frag):R2:=fun x y H Q=>∃ a b ys,x=.ref a/\y=.ref b/\SqT K H a []/\SqT K H b ys/\Q (.ref b) H
theorem ZnC:OpR X (binaryOp .Add) (Zrb X.K):=by
 intro pins s Z H x y v u Q I rx ry h
 obtain ⟨a,b,ys,rfl,rfl,ha,hb,q⟩:=h
 cases rx
 cases ry
 obtain ⟨its,r1,ht,_⟩:=I.tuple ha
 obtain ⟨its2,r2,hb,_⟩:=I.tuple hb
 cases r1
 obtain ⟨⟨cls,dd,data,sl⟩,ho,hc,n,hd⟩:=id ht
 obtain ⟨⟨cls2,dd2,data2,sl2⟩,ho2,hc2,n2,hd2⟩:=id hb
 simp only at hc hd hc2 hd2
 subst hc hd hc2 hd2
 exact concat_meets ⟨_,ho,rfl⟩ ⟨_,ho2,rfl⟩ noFill_tuple_add seq_tuple_add PySem.F.slot_tuple_add PySem.F.entry_tuple_add (PySem.F.args_tuple_add_2 _ _)
     (tuple_addW0 a b _ _ n n2 dd dd2 sl sl2 (by simp)) ⟨ho,ho2,⟨.ref b,H,I,rfl,q⟩⟩
end
end L2
namespace HT
open PySem PyProof.Rows
section
variable {prog:Program}{w:World}{A:Around}{E:Value->Shared->Prop}{s:Shared}
theorem Zc0{t sl:Addr}{items:Array Value}{vl vu:Value}{lo hi:Option Int}{Q:Value->Shared->Prop}(ht:IsTup s.heap t items)(hs:s.heap.IsSliceOf sl vl vu .none)(pl:IsPart vl lo)(pu:IsPart vu hi)
   (hw:sIx items.size 0 lo=0/\sIx items.size items.size hi=items.size) (h:Q (.ref t) s):wpAny (model prog w) A (getItem (.ref t) (.ref sl)) Q E s:=by
 obtain ⟨os,hos,hcs,hds⟩:=id hs
 have hTs:s.TypeIs (.ref sl) "slice" := ⟨os,hos,hcs⟩
 unfold getItem
 try with_reducible refine wpAny_holding ?_
 first|refine wpAny_bind (wpAny_pure ?_)|skip
 refine wpAny_bind (wpAny_sequenceKey ht.typeIs (by decide) ?_)
 refine wpAny_bind (wpAny_callSpecial?_slot (name:=O "__getitem__") ht.typeIs PyProof.Rows.slot_tuple_getitem
   (wpAny_call_entry PyProof.Rows.slot_tuple_getitem ht.typeIs entry_tuple_getitem ?_ (args_tuple_getitem _ _)))
 show wpAny _ _ (Builtin.Tuple.tupleItemsOf (.ref t) >>= _) _ _ s
 refine wpAny_bind (tupleItemsOf_ ht ?_)
 refine wpAny_bind (wpAny_typeOf hTs ?_)
 rw [if_pos (by decide)]
 refine wpAny_bind (ZbX hs pl pu ?_)
 have hyes:(((sIx items.size 0 lo:Nat):Int)==0&&(1:Int)==1&&(sIx items.size items.size hi - sIx items.size 0 lo)==items.size)=true:=by
   rw [hw.1,hw.2];simp
 show wpAny _ _ (if (((sIx items.size 0 lo:Nat):Int)==0&&(1:Int)==1&&(sIx items.size items.size hi - sIx items.size 0 lo)==items.size)=true then _ else _) _ _ s
 rw [if_pos hyes]
 unfold Builtin.Tuple.tupleIsExact
 refine wpAny_bind (wpAny_bind (wpAny_typeOf ht.typeIs (wpAny_pure ?_)))
 rw [if_pos (by decide)]
 exact wpAny_bind (wpAny_rule (wpAny_pure ⟨_,rfl,wpAny_pure h⟩))
end
end HT
namespace L2
open PySem PySem.Spec PyProof.Rows
section
variable {X:Cx}
noncomputable def ZsN(K:PySem.W.Frag):V->Option Int->Option Int->Hp->VK->Prop:=fun x lo hi H Q=>∃ a xs,x=.ref a/\SqT K H a xs /\
 (HT.sIx xs.length 0 lo=0/\HT.sIx xs.length xs.length hi=xs.length)/\Q (.ref a) H
theorem ZkO:SlR X (ZsN X.K):=by
 intro pins s Z H x v vl vu lo hi sl Q I rx hs pl pu h
 obtain ⟨a,xs,rfl,hx,hw,q⟩:=h
 cases rx
 obtain ⟨its,r,ht,hz⟩:=I.tuple hx
 have hlen:its.toArray.size=xs.length:=by rw [Of];exact r.length.symm
 refine ⟨"tuple",_,PyProof.Rows.slot_tuple_getitem.lookup,ht.typeIs,?_⟩
 exact HT.Zc0 ht hs pl pu (by rw [hlen];exact hw) ⟨.ref a,H,I,rfl,q⟩
end
end L2
end
section
set_option tactic.hygienic false
namespace L2
namespace Mx
open PySem PyProof.Rows
theorem nm:(toString "max" ++ toString ".loop" : String) = "max.loop" := by decide
section
variable {prog:Program}{w:World}{A:Around}{Z_:Result->Shared->Prop}{J:Addr}{fo wo:List Addr}{m:Nat}{P:Nat->Value->Prop}{S_:Nat->Heap->Prop}
theorem loop(W:Walks prog w A.in1 J fo wo m P S_)(bt:Nat->Nat->Bool)(hb:CmpOf prog w A.in1 .Gt P bt)(C:Addr)(hC:C ∉ fo)(kw:List (Str×Value)):∀ (d j:Nat) (s:Shared) (u:Value) (c:Nat),
   m - (j+1)=d->j+1<=m->S_ (j+1) s.heap->P (argBest bt j) u->s.heap.get? C=some {cls:=.type "list",dict:=none,data:=.seq #[u,u] c,slots:=#[]} ->
   (∀ v hp tk,P (argBest bt (m - 1)) v->(∀ b o,b ∉ wo->b≠C->s.heap.get? b=some o->hp.get? b=some o)->Z_ (.ok (.ret v)) {s with heap:=hp,toks:=tk}) ->
   codeAny (model prog w) A (.builtin "max.loop" ⟨[.ref J,.none,.ref C],kw⟩) Z_ s:=by
 have hCw:C ∉ wo:=fun z=>hC (W.sub _ z)
 intro d
 induction d with
 | zero =>
   intro j s u c e1 e2 st pu hc hz
   have em:j+1=m:=by omega
   refine codeAny_builtin PySem.F.entry_max_loop ?_
   rw [Around.under_plainId PySem.F.plain_max_loop _]
   show wpAny (model prog w) A.in1 (seqItems? (Value.ref C) >>= _) _ _ s
   refine wpAny_bind (wpAny_seqItems hc rfl ?_)
   show wpAny (model prog w) A.in1 (tryCatch (pyNext (Value.ref J)) _ >>= _) _ _ s
   refine wpAny_bind (wpAny_tryCatch (W.done s _ _ (em ▸ st) fun hp tk kp=>?_))
   have hc1:=kp C _ hCw hc
   show wpAny (model prog w) A.in1 (updateSeq C (fun _=>#[]) >>= _) _ _ _
   exact wpAny_bind (wpAny_updateSeq hc1 rfl (wpAny_bind (wpAny_letGo (wpAny_pure (hz u _ tk (by rw [<- em];exact pu) fun b o b1 b2 e=>(Heap.get?_update_other _ _ (Ne.symm b2)).trans (kp b o b1 e))))))
 | succ d ih =>
   intro j s u c e1 e2 st pu hc hz
   have lt:j+1<m:=by omega
   refine codeAny_builtin PySem.F.entry_max_loop ?_
   rw [Around.under_plainId PySem.F.plain_max_loop _]
   show wpAny (model prog w) A.in1 (seqItems? (Value.ref C) >>= _) _ _ s
   refine wpAny_bind (wpAny_seqItems hc rfl ?_)
   show wpAny (model prog w) A.in1 (tryCatch (pyNext (Value.ref J)) _ >>= _) _ _ s
   refine wpAny_bind (wpAny_tryCatch (W.item (j+1) s _ _ lt st fun v hp tk pv st1 kp=>?_))
   have hc1:=kp C _ hCw hc
   show wpAny (model prog w) A.in1 (tryCatch (holding [v,v] (richCompare CmpOp.Gt v u >>= _)) _ >>= _) _ _ _
   refine wpAny_bind (wpAny_tryCatch (wpAny_holding (wpAny_bind (hb (j+1) (argBest bt j) v u _ _ _ pv pu (wpAny_bind (wpAny_holding (wpAny_truthy_bool (wpAny_bind (wpAny_letGo (wpAny_pure ?_))))))))))
   cases q:bt (j+1) (argBest bt j) with
   | true =>
     simp only [if_true]
     refine wpAny_bind (wpAny_updateSeq hc1 rfl (wpAny_bind (wpAny_letGo ?_)))
     rw [nm]
     refine wpAny_pure ⟨plainId_quiet PySem.F.plain_max_loop _,ih (j+1) _ v _ (by omega) lt (W.frame _ _ _ st1 fun b b1 o e=>?_) (by simp only [argBest,q,if_true];exact pv) (Heap.get?_update_self _ hc1 rfl) fun v2 hp2 tk2 pv2 kp2=>?_⟩
     . exact (Heap.get?_update_other _ _ (fun z:C=b=>hC (by rw [z];exact b1))).trans e
     . exact hz v2 hp2 tk2 pv2 fun b o b1 b2 e=>kp2 b o b1 b2 ((Heap.get?_update_other _ _ (Ne.symm b2)).trans (kp b o b1 e))
   | false =>
     simp only [OG,if_false]
     refine wpAny_bind (wpAny_letGo ?_)
     rw [nm]
     exact wpAny_pure ⟨plainId_quiet PySem.F.plain_max_loop _,ih (j+1) _ u c (by omega) lt st1 (by simp only [argBest,q,OG,if_false];exact pu) hc1 fun v2 hp2 tk2 pv2 kp2=>hz v2 hp2 tk2 pv2 fun b o b1 b2 e=>kp2 b o b1 b2 (kp b o b1 e)⟩
theorem first(W:Walks prog w A.in1 J fo wo m P S_)(bt:Nat->Nat->Bool)(hb:CmpOf prog w A.in1 .Gt P bt)(C:Addr)(hC:C ∉ fo)(dn:Str)(dv:Value){s:Shared}{c:Nat}(st:S_ 0 s.heap)
   (hc:s.heap.get? C=some {cls:=.type "list",dict:=none,data:=.seq #[] c,slots:=#[]})
   (hz:∀ v hp tk,(m=0->v=dv)->(0<m->P (argBest bt (m - 1)) v)->(∀ b o,b ∉ wo->b≠C->s.heap.get? b=some o->hp.get? b=some o)->Z_ (.ok (.ret v)) {s with heap:=hp,toks:=tk}) :
   codeAny (model prog w) A (.builtin "max.loop" ⟨[.ref J,.none,.ref C],[(dn,dv)]⟩) Z_ s:=by
 have hCw:C ∉ wo:=fun z=>hC (W.sub _ z)
 refine codeAny_builtin PySem.F.entry_max_loop ?_
 rw [Around.under_plainId PySem.F.plain_max_loop _]
 show wpAny (model prog w) A.in1 (seqItems? (Value.ref C) >>= _) _ _ s
 refine wpAny_bind (wpAny_seqItems hc rfl ?_)
 show wpAny (model prog w) A.in1 (tryCatch (pyNext (Value.ref J)) _ >>= _) _ _ s
 by_cases hm:0<m
 . refine wpAny_bind (wpAny_tryCatch (W.item 0 s _ _ hm st fun v hp tk pv st1 kp=>?_))
   have hc1:=kp C _ hCw hc
   show wpAny (model prog w) A.in1 (updateSeq C (fun _=>#[v,v]) >>= _) _ _ _
   refine wpAny_bind (wpAny_updateSeq hc1 rfl ?_)
   rw [nm]
   refine wpAny_pure ⟨plainId_quiet PySem.F.plain_max_loop _,loop W bt hb C hC _ _ 0 _ v _ rfl hm (W.frame _ _ _ st1 fun b b1 o e=>?_) pv (Heap.get?_update_self _ hc1 rfl) fun v2 hp2 tk2 pv2 kp2=>?_⟩
   . exact (Heap.get?_update_other _ _ (fun z:C=b=>hC (by rw [z];exact b1))).trans e
   . exact hz v2 hp2 tk2 (fun z=>by omega) (fun _=>pv2) fun b o b1 b2 e=>kp2 b o b1 b2 ((Heap.get?_update_other _ _ (Ne.symm b2)).trans (kp b o b1 e))
 . have h0:m=0:=by omega
   refine wpAny_bind (wpAny_tryCatch (W.done s _ _ (h0 ▸ st) fun hp tk kp=>?_))
   exact wpAny_bind (wpAny_rule (wpAny_pure (hz dv hp tk (fun _=>rfl) (fun z=>absurd z hm) fun b o b1 _ e=>kp b o b1 e)))
end
section
variable {prog:Program}{w:World}{A:Around}{E:Value->Shared->Prop}{s:Shared}
theorem args (a d:Value):argsOk "max" ⟨[a],[("default",d)]⟩:=by unfold argsOk;kernel_rfl
theorem call{x dv:Value}{Q:Value->Shared->Prop}
   (h:wpAny (model prog w) A.in1 (pyIter x) (fun it s2=>∃ J fo wo m P S_ bt,it=.ref J/\Walks prog w A.in1 J fo wo m P S_/\S_ 0 s2.heap/\(∀ b∈fo,b<s2.heap.objs.size)/\CmpOf prog w A.in1 .Gt P bt /\
     ∀ v hp tk,(m=0->v=dv)->(0<m->P (argBest bt (m - 1)) v)->(∀ b o,b ∉ wo->s2.heap.get? b=some o->hp.get? b=some o)->Q v {s2 with heap:=hp,toks:=tk}) E s) :
   wpAny (model prog w) A (PySem.call (.builtin "max") [x] [("default",dv)]) Q E s:=by
 refine wpAny_call (codeAny_call_builtin PySem.F.plain_max PySem.F.entry_max ?_)
 simp only [checkBuiltinCall,PySem.F.kind_max]
 have go:wpAny (model prog w) A.in1 (Builtin.«max» ⟨[x],[("default",dv)]⟩) (fun fin s'=>match fin with
     | .done f=>(match (Except.ok f:Result) with|.ok (.ret v)=>Q v s'|.ok _=>False|.error e=>E e s')
     | .again c'=>c'.quiet=true/\codeAny (model prog w) A c' (fun r s'=>match r with|.ok (.ret v)=>Q v s'|.ok _=>False|.error e=>E e s') s') E s:=by
   show wpAny (model prog w) A.in1 (Builtin.Builtins.bindParams "max" ["key", "default"] 0 ⟨[],[("default",dv)]⟩ >>= _) _ _ s
   refine wpAny_bind (wpAny_of_eq (show Builtin.Builtins.bindParams "max" ["key", "default"] 0 ⟨[],[("default",dv)]⟩=pure [none,some dv] from rfl) (wpAny_bind (wpAny_pure (wpAny_bind (wpAny_mono h (fun it s2 q=>?_) fun _ _ e=>e)))))
   obtain ⟨J,fo,wo,m,P,S_,bt,rfl,W,st,hfo,hb,hQ⟩:=q
   refine wpAny_bind (wpAny_newObj_type ?_)
   have hC:s2.heap.objs.size ∉ fo:=fun z=>Nat.lt_irrefl _ (hfo _ z)
   rw [nm]
   exact wpAny_pure ⟨plainId_quiet PySem.F.plain_max_loop _,first W bt hb s2.heap.objs.size hC _ dv (W.frame _ _ _ st fun b _ o e=>Od _ e) (Oj _ rfl) fun v hp tk a1 a2 kp=>hQ v hp tk a1 a2 fun b o b1 e=>kp b o b1 (Ou (Heap.lt_size e)) (Od _ e)⟩
 cases hs:Manifest.signature? "max" with
 | none=>exact wpAny_pure go
 | some sig =>
   have ha:=args x dv
   simp only [argsOk,hs] at ha
   have h2:Bind.checkArgs "max" sig ⟨[x],[("default",dv)]⟩=pure ():=ha
   show wpAny _ A.in1 (Bind.checkArgs "max" sig ⟨[x],[("default",dv)]⟩) _ _ s
   rw [h2]
   exact wpAny_pure go
end
end Mx
end L2
namespace L2
open PySem PySem.Spec PyProof.Rows
noncomputable def Zcz:List Int->Int->Int
 | [],d=>d
 | x::r,_=>r.foldl (fun m y=>if y > m then y else m) x
theorem Zge(ns:List Int):∀ k,k<ns.length->(argBest (fun i j=>decide (ns.getD i 0 > ns.getD j 0)) k)<ns.length/\ns.getD (argBest (fun i j=>decide (ns.getD i 0 > ns.getD j 0)) k) 0=Zcz (ns.take (k+1)) 0
 | 0,h=>by
   cases ns with
   | nil=>simp at h
   | cons x r=>exact ⟨by simp [argBest],by simp [argBest,Zcz]⟩
 | k+1,h=>by
   obtain ⟨h1,h2⟩:=Zge ns k (by omega)
   have e:Zcz (ns.take (k+1+1)) 0=if ns.getD (k+1) 0 > Zcz (ns.take (k+1)) 0 then ns.getD (k+1) 0 else Zcz (ns.take (k+1)) 0:=by
     cases ns with
     | nil=>simp at h
     | cons x r =>
       have hk:k<r.length:=by simpa using h
       show ((r.take (k+1)).foldl _ x)=_
       rw [List.take_succ_eq_append_getElem hk,List.foldl_append]
       simp only [List.foldl_cons,List.foldl_nil]
       have:(x::r).getD (k+1) 0=r[k]:=by simp [List.getD_eq_getElem?_getD,Og hk]
       rw [this]
       rfl
   rw [e,<- h2]
   have ea:argBest (fun i j=>decide (ns.getD i 0 > ns.getD j 0)) (k+1)=if decide (ns.getD (k+1) 0 > ns.getD (argBest (fun i j=>decide (ns.getD i 0 > ns.getD j 0)) k) 0)=true then k+1 else argBest (fun i j=>decide (ns.getD i 0 > ns.getD j 0)) k:=rfl
   rw [ea]
   by_cases q:ns.getD (k+1) 0 > ns.getD (argBest (fun i j=>decide (ns.getD i 0 > ns.getD j 0)) k) 0
   . rw [if_pos (decide_eq_true q),if_pos q]
     exact ⟨h,rfl⟩
   . rw [if_neg (by simpa using q),if_neg q]
     exact ⟨h1,rfl⟩
section
variable {X:Cx}
theorem ZlC(hc:X.calm=true){pins:List (Addr×Obj)}{s:Shared}{Z:L2.St}{H:Hp}{a:Addr}{ns:List Int}{d:Int}{t:Tok}{Q:VK}(I:Inv X pins Z H s)(hx:SqL X.K H a (ns.map V.int))(q:Q (.int (Zcz ns d)) H) :
   wpAny (model X.prog X.w) X.A (PySem.call (.builtin "max") [.ref a] [("default",.int d t)]) (EP X pins Z Q) X.xe s:=by
 obtain ⟨its,rv,pl,hz⟩:=I.list hx
 have hlt:a<s.heap.objs.size:=by obtain ⟨_,_,e,_⟩:=pl;exact Heap.lt_size e
 have hl:its.length=ns.length:=by have:=rv.length;rw [List.length_map] at this;exact this.symm
 have val:∀ {i:Nat}{v:Value},its.toArray[i]? = some v->i<ns.length/\∃ t,v=.int (ns.getD i 0) t:=fun {i v} hv=>by
   have hv':its[i]? = some v:=by simpa using hv
   have hi:i<ns.length:=by rw [<- hl];exact (Ob.mp hv').1
   have hb:(ns.map V.int)[i]? = some (.int ns[i]):=by rw [On,Og hi]<;>rfl
   obtain ⟨u',e',r'⟩:=rv.get hb
   rw [hv'] at e'
   cases e'
   obtain ⟨t,rfl⟩:=r'
   exact ⟨hi,t,by simp [List.getD_eq_getElem?_getD,Og hi]⟩
 refine Mx.call (wpAny_pyIter_list pl.isList ?_)
 refine ⟨s.heap.objs.size,_,_,_,_,_,fun i j=>decide (ns.getD i 0 > ns.getD j 0),rfl,Walks.list (A:=X.A.in1) (show X.A.in1.handled=none from I.ok.hd hc) s.heap.objs.size a (Ou hlt) its.toArray,⟨⟨_,Oj _ rfl,rfl,rfl⟩,pl.isList.push _⟩,?_,?_,fun v hp tk a1 a2 kp=>?_⟩
 . intro b hb
   have hp1:b<s.heap.objs.size+1:=by
     simp at hb
     rcases hb with rfl|rfl
     . exact OH _
     . exact Nat.lt_succ_of_lt hlt
   simpa [Heap.push] using hp1
 . exact CmpOf.ints_gt (fun i=>ns.getD i 0) fun i v hv=>(val hv).2
 . refine ⟨.int (Zcz ns d),H,I.kept fun b o e=>kp b o (fun z=>?_) (Od _ e),?_,q⟩
   . have:b=s.heap.objs.size:=by simpa using z
     subst this
     exact absurd (Heap.lt_size e) (Nat.lt_irrefl _)
   . have hsz:its.toArray.size=ns.length:=by rw [Of,hl]
     by_cases h0:ns=[]
     . subst h0
       have:=a1 (by rw [hsz];rfl)
       subst this
       exact ⟨t,rfl⟩
     . have hp0:0<ns.length:=List.length_pos_iff.mpr h0
       obtain ⟨_,t3,ev⟩:=val (a2 (by rw [hsz];exact hp0))
       refine ⟨t3,?_⟩
       rw [ev,hsz,(Zge ns (ns.length - 1) (by omega)).2,List.take_of_length_le (by omega)]
       cases ns with
       | nil=>exact absurd rfl h0
       | cons x r=>rfl
end
end L2
namespace L2
open PySem PySem.Spec PyProof.Rows
section
variable {X:Cx}
noncomputable def ZqS(K:PySem.W.Frag)(ta tb:TE):TE:=fun Z H Q=>ta Z H fun v H1=>tb Z H1 fun u H2=>∃ a ns d,v=.ref a/\u=.int d/\SqL K H2 a (ns.map V.int)/\Q (.int (Zcz ns d)) H2
theorem Znq {x y:Expr}{ta tb:TE}{p kp pos:Pos} (hg:Gl X "max") (hm:X.mg "max" = none) (hc:X.calm=true) (ha:PE X x ta) (hb:PE X y tb) (he:starEach [x] X.env=[(false,eval x X.env)]) :
   PE X (.Call (.Name "max" p) [x] [⟨some "default",y,kp⟩] pos) (ZqS X.K ta tb):=by
 intro pins s Z H Q I h
 refine wpAny_Call_Name_kw (ZbS I hg hm boot_max ?_)
 refine PyProof.Rows.callWith_kw ?_ (by rw [he];rfl) (by rw [he];rfl)
 rw [he]
 refine Calls.spliced_cons (thn (ha pins s Z H _ I h) fun v s1 ⟨vv,H1,I1,r1,q1⟩=>Calls.spliced_nil ?_)
 refine kws_cons (thn (hb pins s1 Z H1 _ I1 q1) fun u s2 ⟨uu,H2,I2,r2,q2⟩=>kws_nil ?_)
 obtain ⟨a,ns,d,rfl,rfl,hq,q⟩:=q2
 cases r1
 obtain ⟨t,rfl⟩:=r2
 exact ZlC hc I2 hq q
end
end L2
end
section
namespace L2
open PySem PySem.Spec PyProof PyProof.Rows PySem.AutoSeq1
set_option maxRecDepth 8000 in
theorem ZiG(l:Addr)(items:Array Value)(n:Nat)(b:Addr)(items2:Array Value)(n2:Nat)(od:Option Addr)(sl:Array (Option Value))(hs0:¬(!items.isEmpty&&Builtin.List.listTooLong (items.size+items2.size))=true)(hs1:items.size<=sizeLine)(hs2:items.size+items2.size<=sizeLine+1) :
   Meets (Builtin.«list.extend» ⟨[.ref l,.ref b],[]⟩) (fun _ R s=>s.heap.get? l=some {cls:=.type "list",dict:=none,data:=.seq items n,slots:=#[]}/\s.heap.get? b=some {cls:=.type "tuple",dict:=od,data:=.seq items2 n2,slots:=sl}/\R (.ok (.ret Value.none)) {s with heap:=s.heap.update l (Obj.mapSeq fun x=>x++items2),toks:=s.toks}) :=
 .of_wp fun prog w A R s h=>by
   obtain ⟨hp,g,d,tk,os⟩:=s;obtain ⟨hl,hb,h⟩:=h;have f1:=idx_int;have f2:=AutoSeq1.sub_tuple_tuple;have f3:=AutoSeq1.sub_list_list;have f4:=AutoSeq1.sub_tuple_list;have f5:=AutoSeq1.sub_list_tuple;
   have hz':(items++items2).size<=sizeLine+1:=by rw [Array.size_append];exact hs2
   wp_walk using (wpAny_updateSeq hl rfl (hz:=hs1) (_hz':=hz')),wpAny_loadPart' hl,wpAny_loadPart' hb;exact ⟨_,rfl,h⟩
section
variable {X:Cx}
noncomputable def Zk5(K:PySem.W.Frag):V->List V->Hp->VK->Prop:=fun x vs H Q=>∃ l b xs zs,x=.ref l/\vs=[.ref b]/\H l=some (.lst xs)/\SqT K H b zs/\xs.length+zs.length<=sizeLine/\Q .non (upd H l (.lst (xs++zs)))
theorem Zig:MtM X "list.extend" (Zk5 X.K):=by
 intro pins s Z H x vs v us Q I rx rv h
 obtain ⟨l,b,xs,zs,rfl,rfl,hH,hB,hz,q⟩:=h
 cases rx
 obtain ⟨u,rfl,ru⟩:=rv.one
 cases ru
 obtain ⟨z,its,n,r,hl,e⟩:=I.lstM hH
 obtain ⟨its2,r2,⟨o,e2,oc,n2,od⟩,z2⟩:=I.tuple hB
 obtain ⟨cls,dc,dat,sl⟩:=o
 simp only at oc od
 subst oc
 subst od
 have hl2:=r2.length
 have hsz:its.toArray.size+its2.toArray.size<=sizeLine:=by rw [Of,Of];omega
 have hlong:¬ (!its.toArray.isEmpty&&Builtin.List.listTooLong (its.toArray.size+its2.toArray.size))=true:=by
   rw [Zhi hsz,Bool.and_false]
   exact Ow
 refine call_meets F.slot_list_extend ⟨_,e,rfl⟩ F.entry_list_extend (F.args_list_extend_2 _ _)
   (ZiG l its.toArray n b its2.toArray n2 dc sl hlong (by rw [Of];omega) (by omega)) ⟨e,e2,?_⟩
 refine ⟨.non,_,I.lset (its':=its++its2) hH e (by simp) (r.append r2) ?_,rfl,q⟩
 rw [OA]
 omega
end
end L2
end
section
namespace L2
open PySem PySem.Spec PyProof.Rows
noncomputable def Zqr(K:PySem.W.Frag)(a:Addr)(n:Nat):It :=
 ⟨fun i H=>∃ xs x,SqL K H a xs/\xs.length=n/\xs.reverse[i]? = some x,fun i H x H'=>H'=H/\∀ xs,SqL K H a xs->xs.reverse[i]? = some x,fun i H=>∃ xs,SqL K H a xs/\xs.length=n/\n=i⟩
theorem ZjR{P:Program}{w:World}{K:PySem.W.Frag}{tg:Expr}(a it:Addr)(n:Nat):Turn P w K tg (Zqr K a n) [it] it (fun i h=>i<=n/\h.IsRevIter it a ((n:Int) - 1 - i)) where
 mem:=by simp
 obj:=fun i h st b hb=>by
   have e:b=it:=by simpa using hb
   subst e
   obtain ⟨_,o,e,c,d⟩:=st
   exact ⟨o,e,fun v z=>by rw [d] at z;cases z⟩
 keep:=fun i h h' st k=>⟨st.1,st.2.at fun o e=>k it (by simp) o e⟩
 item:=by
   intro X hP hw hK hc i pins s Z H E I hf st hg
   subst hP hw hK
   obtain ⟨hin,st⟩:=st
   obtain ⟨xs,x,hq,hxn,hx⟩:=hg
   obtain ⟨its,rv,p,hz⟩:=I.list hq
   have hl:=rv.length
   have hi:i<xs.length:=by
     have:=(Ob.mp hx).1
     simpa using this
   have hx':xs[n - 1 - i]? = some x:=by
     rw [List.getElem?_reverse hi] at hx
     rw [<- hxn]
     exact hx
   obtain ⟨u,hu,ru⟩:=rv.get hx'
   obtain ⟨f0,f1,f2,f3,f4,f5⟩:=hf it (by simp)
   have e1:(n:Int) - 1 - (i:Nat)=((n - 1 - i:Nat):Int):=by omega
   rw [e1] at st
   refine wpAny_pyNext_rev_item st p.isList (x:=u) (by simpa using hu) fun h' st' sb=>?_
   have I1:Inv X pins Z H {s with heap:=h'}:=I.turned (t':=s.toks) (fun b o hb e=>(sb.2 b hb).trans e) f0 f1 f3 f4 f5
   obtain ⟨o,e,c,d⟩:=id st'
   have e2:((n - 1 - i:Nat):Int) - 1=(n:Int) - 1 - ((i+1:Nat):Int):=by omega
   exact ⟨u,rfl,Zf7 (s:={s with heap:=h'}) e c d (by decide) ⟨x,H,I1,ru,⟨rfl,fun ys hy=>by rw [I.list_inj hy hq];exact hx⟩,⟨by omega,by rw [<- e2];exact st'⟩,fun b hb=>(hf b hb).1⟩⟩
 done:=by
   intro X hP hw hK hc i pins s Z H E I hf st hg
   subst hP hw hK
   obtain ⟨xs,hq,hxn,hx⟩:=hg
   obtain ⟨f0,f1,f2,f3,f4,f5⟩:=hf it (by simp)
   have st1:=st.2
   rw [show (n:Int) - 1 - (i:Nat)=-1 by omega] at st1
   exact wpAny_pyNext_rev_end (I.ok.hd hc) st1 fun h' eb=>⟨rfl,I.turned (t':=s.toks) (fun b o hb e=>eb b o hb e) f0 f1 f3 f4 f5⟩
 self:=fun _ _ _ _ _ st h=>wpAny_pyIter_revIter st.2 h
noncomputable def ZrM(K:PySem.W.Frag)(ta:TA):TI:=fun Z H R=>ta Z H fun vs H1=>∃ a xs,vs=[.ref a]/\((SqT K H1 a xs/\R (Itv K a xs.length) H1)\/(SqL K H1 a xs/\R (Zqr K a xs.length) H1))
theorem Znn {X:Cx}{tg l:Expr}{ta:TA}{p pos:Pos} (hg:Gl X "reversed") (hm:X.mg "reversed" = none) (ha:PA X [l] ta) (hs:starEach [l] X.env=[(false,eval l X.env)]:=by rfl) :
   PI X tg (.Call (.Name "reversed" p) [l] [] pos) (ZrM X.K ta):=by
 intro pins s Z H R I h
 refine Call_ (ZbS I hg hm boot_reversed (PyProof.Rows.callWith_type1 (thn (ha pos pins s Z H _ I h) fun us s1 ⟨vs,H1,I1,r1,q1⟩=>?_) hs rfl))
 obtain ⟨a,xs,rfl,q⟩:=q1
 obtain ⟨u,rfl,ru⟩:=vals1 r1
 obtain rfl:u=Value.ref a:=ru
 rcases q with ⟨hq,q⟩|⟨hq,q⟩
 . obtain ⟨its,rv,pl,hz⟩:=I1.tuple hq
   have hl:=rv.length
   refine Rv.call pl (by simp;omega) ?_
   have e1:((its.toArray.size:Nat):Int) - 1=(xs.length:Int) - 1 - ((0:Nat):Int):=by simp;omega
   have st:Rv.Is (s1.heap.push (Rv.obj a (((its.toArray.size:Nat):Int) - 1))) s1.heap.objs.size a ((xs.length:Int) - 1 - ((0:Nat):Int)):=⟨_,Oj _ rfl,rfl,by rw [<- e1];rfl⟩
   refine Rv.Zea st ?_
   refine ⟨s1.heap.objs.size,[s1.heap.objs.size],_,_,H1,rfl,I1.kept (t':=s1.toks+1+1) fun b o e=>Od _ e,ZkG a _ xs.length,⟨Nat.zero_le _,st⟩,fun b hb=>?_,q⟩
   have e:b=s1.heap.objs.size:=by simpa using hb
   subst e
   exact I1.fpOk (Oq _) (I1.hok.fresh (Oq _))
 . obtain ⟨its,rv,pl,hz⟩:=I1.list hq
   have hl:=rv.length
   refine call_reversed_list pl.isList ?_
   have e1:((its.toArray.size:Nat):Int) - 1=(xs.length:Int) - 1 - ((0:Nat):Int):=by simp;omega
   have st:(s1.heap.push (revObj a (((its.toArray.size:Nat):Int) - 1))).IsRevIter s1.heap.objs.size a ((xs.length:Int) - 1 - ((0:Nat):Int)):=⟨_,Oj _ rfl,rfl,by rw [<- e1];rfl⟩
   refine wpAny_pyIter_revIter st ?_
   refine ⟨s1.heap.objs.size,[s1.heap.objs.size],_,_,H1,rfl,I1.kept (t':=s1.toks) fun b o e=>Od _ e,ZjR a _ xs.length,⟨Nat.zero_le _,st⟩,fun b hb=>?_,q⟩
   have e:b=s1.heap.objs.size:=by simpa using hb
   subst e
   exact I1.fpOk (Oq _) (I1.hok.fresh (Oq _))
end L2
end
section
set_option tactic.hygienic false
namespace L2
open PySem PySem.Spec PyProof.Rows
namespace Rv
theorem Zqa:Slot "reversed" "__length_hint__" "reversed.__length_hint__" :=
 .of (owner := "reversed") (n := "__length_hint__") (by rw [typeLookup_type,builtinLookup_eq_fast]<;>kernel_rfl) (by decide +kernel) (by decide +kernel) (by decide +kernel) (by first|exact .inl (by decide +kernel)|exact .inr (by decide +kernel)) (by rw [isSubtype_type]<;>kernel_rfl)
theorem ZrV:entryFor table "reversed.__length_hint__" = some Builtin.«reversed.__length_hint__»:=entryFor_of_tree (by kernel_rfl)
theorem Zr5 (a:Value):argsOk "reversed.__length_hint__" ⟨[a],[]⟩:=by
 unfold argsOk;rw [signature?_of (id := "reversed.__length_hint__") (n:=['_','_','t','n','i','h','_','h','t','g','n','e','l','_','_']) (o:=['d','e','s','r','e','v','e','r']) (by kernel_rfl) own];kernel_rfl
theorem Zrx:typeLookup (.type "reversed") "__len__" = pure none:=by rw [typeLookup_type,builtinLookup_eq_fast]<;>kernel_rfl
section
variable {prog:Program}{w:World}{A:Around}{E:Value->Shared->Prop}{s:Shared}
theorem walks(hh:A.handled=none)(I l:Addr)(hne:l≠I)(items:Array Value)(hz:items.size<=sizeLine) :
   Walks prog w A I [I,l] [I] items.size (fun i v=>items[items.size - 1 - i]? = some v) (fun i h=>i<=items.size/\Is h I l ((items.size:Int) - 1 - (i:Int))/\IsTup h l items) where
 sub:=fun b hb=>by simp at hb;simp [hb]
 frame:=fun _ _ _ x hk=>⟨x.1,x.2.1.at fun o e=>hk I (by simp) o e,let ⟨o,e,r⟩:=x.2.2;⟨o,hk l (by simp) o e,r⟩⟩
 item:=fun i s Q E hi x hQ=>by
   have hit:=x.2.1
   rw [show (items.size:Int) - 1 - (i:Int)=((items.size - 1 - i:Nat):Int) by omega] at hit
   have hx:items[items.size - 1 - i]? = some (items[items.size - 1 - i]'(by omega)):=Array.getElem?_eq_getElem (by omega)
   refine next_item hit x.2.2 hz hx fun h' t' hit' hs'=>?_
   rw [show ((items.size - 1 - i:Nat):Int) - 1=(items.size:Int) - 1 - ((i+1:Nat):Int) by omega] at hit'
   exact hQ _ h' t' hx ⟨hi,hit',let ⟨o,e,r⟩:=x.2.2;⟨o,(hs'.2 l hne).trans e,r⟩⟩ fun b o hb eo=>hs'.extBut b o (fun h=>hb (by simp [h])) eo
 done:=fun s Q E x hQ=>by
   have hit:=x.2.1
   rw [show (items.size:Int) - 1 - (items.size:Int)=-1 by omega] at hit
   exact next_end hh hit fun h' he'=>hQ h' s.toks fun b o hb eo=>he' b o (fun h=>hb (by simp [h])) eo
 self:=fun _ _ _ _ x hQ=>Zea x.2.1 hQ
theorem Zn2{it l:Addr}{items:Array Value}{Q:Value->Shared->Prop}(hit:Is s.heap it l ((items.size:Int) - 1))(hl:IsTup s.heap l items)(hz:items.size<=sizeLine)
   (hQ:∀ u tk,s.toks<=tk->Q (.int (items.size:Int) u) {s with toks:=tk}):wpAny (model prog w) A (PySem.call (.builtin "reversed.__length_hint__") [.ref it]) Q E s:=by
 have hfit:(items.size:Int)<2 ^ 63:=by have:=Zbp;omega
 obtain ⟨o,ho,hc,hd⟩:=id hit
 refine wpAny_call_entry Zqa hit.typeIs ZrV ?_ (Zr5 _)
 unfold Builtin.«reversed.__length_hint__»
 refine wpAny_bind (wpAny_of_eq (a:=Value.ref it) rfl ?_)
 refine wpAny_bind (wpAny_field ho hd (x:=.ref l) rfl ?_)
 rw [if_neg (by simp)]
 refine wpAny_bind (len_tuple hl hfit ?_)
 refine wpAny_bind (m:=asInt? (.int _ _)) (wpAny_pure ?_)
 dsimp only
 refine wpAny_bind (wpAny_field ho hd (x:=rawInt ((items.size:Int) - 1)) rfl ?_)
 show wpAny _ _ (if (items.size:Int)<(items.size:Int) - 1+1 then _ else _) _ _ _
 rw [if_neg (by omega),show (items.size:Int) - 1+1=items.size by omega]
 unfold retInt
 refine wpAny_bind (wpAny_mkInt ?_)
 exact wpAny_pure ⟨_,rfl,hQ _ _ (by simp only;omega)⟩
theorem Zp9:typeLookup (.type "reversed") "__length_hint__" = pure (some (.builtin "reversed.__length_hint__")):=Zqa.lookup
end
end Rv
end L2
end
section
namespace L2
open PySem PySem.Spec PyProof.Rows
namespace Tx
noncomputable def place(x:Str):List Str->Option Nat
 | []=>none
 | y::r=>if y=x then some 0 else (place x r).map (·+1)
end Tx
end L2
namespace L2
open PySem PySem.Spec PyProof.Rows
noncomputable def ZeT (K:PySem.W.Frag):Bool:=K.all fun p=>!decide (p.2.cls=.type "tuple") || p.2.dict.isNone
end L2
end
section
namespace L2
open PySem PySem.Spec PyProof.Rows
open PySem.AutoSeq1 (wpAny_loadPart')
namespace En1
section
variable {prog:Program}{w:World}{A:Around}{E:Value->Shared->Prop}{s:Shared}
theorem ZmT{J T:Addr}{k:Nat}{us:Array Value}{y:Value}{Q:Value->Shared->Prop}(st:s.heap.IsTupleIter J T k)(tt:s.heap.IsTuple T us)(hy:us[k]? = some y)
   (q:∀ h1,h1.IsTupleIter J T (k+1)->Heap.SameBut J s.heap h1->Q y {s with heap:=h1}):wpAny (model prog w) A (Builtin.SmallTypes.nextOf (.ref J)) Q E s:=by
 obtain ⟨ob,g1,g2,g3⟩:=id st
 obtain ⟨ot,g4,_,m,g5⟩:=tt
 unfold Builtin.SmallTypes.nextOf
 refine wpAny_bind (wpAny_callSpecial?_slot (name:=O "__next__") st.typeIs F.slot_tuple_iterator_next (wpAny_call_entry F.slot_tuple_iterator_next st.typeIs F.entry_tuple_iterator_next ?g (F.args_tuple_iterator_next_1 _)))
 case g =>
   show wpAny _ _ (field (.ref J) 0 >>= _) _ _ s
   refine wpAny_bind (wpAny_field g1 g3 (x:=.ref T) rfl ?_)
   show wpAny _ _ (if (Value.ref T==Value.none)=true then _ else _) _ _ s
   rw [if_neg (show ¬ ((Value.ref T==Value.none)=true) from Ow)]
   show wpAny _ _ (field (.ref J) 1 >>= _) _ _ s
   refine wpAny_bind (wpAny_field g1 g3 (x:=.int k 0) rfl ?_)
   show wpAny _ _ (seqItems? (.ref T) >>= _) _ _ s
   refine wpAny_bind (wpAny_seqItems g4 g5 ?_)
   simp only [Int.toNat_natCast,hy]
   refine wpAny_bind (wpAny_setField g1 g3 (by simp) (wpAny_pure ⟨y,rfl,wpAny_pure (q _ ?_ (Heap.SameBut.update ..))⟩))
   exact ⟨_,Heap.get?_update_self _ g1 (Obj.isFreed_of_fields (Obj.data_mapFields g3 _)),(Obj.cls_mapFields ..).trans g2,by rw [Obj.data_mapFields g3];simp [rawInt]⟩
theorem Zo4{J T:Addr}{k:Nat}{us:Array Value}{Q:Value->Shared->Prop}(calm:A.handled=none)(st:s.heap.IsTupleIter J T k)(tt:s.heap.IsTuple T us)(hy:us[k]? = none)
   (q:∀ h1 x,Heap.ExtBut J s.heap h1->(∃ ob,h1.get? x=some ob/\ob.cls=.type "StopIteration")->E (.ref x) {s with heap:=h1}):wpAny (model prog w) A (Builtin.SmallTypes.nextOf (.ref J)) Q E s:=by
 obtain ⟨ob,g1,g2,g3⟩:=id st
 obtain ⟨ot,g4,_,m,g5⟩:=tt
 unfold Builtin.SmallTypes.nextOf
 refine wpAny_bind (wpAny_callSpecial?_slot (name:=O "__next__") st.typeIs F.slot_tuple_iterator_next (wpAny_call_entry F.slot_tuple_iterator_next st.typeIs F.entry_tuple_iterator_next ?g (F.args_tuple_iterator_next_1 _)))
 case g =>
   show wpAny _ _ (field (.ref J) 0 >>= _) _ _ s
   refine wpAny_bind (wpAny_field g1 g3 (x:=.ref T) rfl ?_)
   show wpAny _ _ (if (Value.ref T==Value.none)=true then _ else _) _ _ s
   rw [if_neg (show ¬ ((Value.ref T==Value.none)=true) from Ow)]
   show wpAny _ _ (field (.ref J) 1 >>= _) _ _ s
   refine wpAny_bind (wpAny_field g1 g3 (x:=.int k 0) rfl ?_)
   show wpAny _ _ (seqItems? (.ref T) >>= _) _ _ s
   refine wpAny_bind (wpAny_seqItems g4 g5 ?_)
   simp only [Int.toNat_natCast,hy]
   refine wpAny_bind (wpAny_rule (wpAny_bind (wpAny_setField g1 g3 (by simp) ?_)))
   show wpAny _ _ (newExc (.type "StopIteration") [] >>= _) _ _ _
   refine wpAny_bind ?_
   simp only [newExc,newTuple]
   refine wpAny_bind (wpAny_newObj_type ?_ (by size_fits))
   refine wpAny_bind (m:=firstArgMember _ _) (wpAny_of_eq (a:=Value.none) (by first|rfl|(simp only [firstArgMember];rfl)) ?_)
   refine wpAny_newObj_type ?_ (by size_fits)
   simp only [raiseNew]
   refine wpAny_bind (wpAny_handled ?_)
   first|rw [show A.in1.handled=none from calm]|rw [calm]
   exact wpAny_bind (wpAny_pure (wpAny_throw (q _ _ (((Heap.SameBut.update ..).extBut.push _).push _) ⟨_,Oj _ rfl,rfl⟩)))
theorem dr(calm:A.handled=none)(J T:Addr)(ne:T≠J)(us:Array Value):Draws prog w A J [J,T] (us.size+1) (fun k y=>∃ j,k=j+1/\us[j]? = some y) (fun k h=>∃ j,k=j+1/\h.IsTupleIter J T j/\h.IsTuple T us) where
 live:=fun _ _ z=>let ⟨_,_,⟨ob,g,_⟩,_⟩:=z;⟨ob,g⟩
 frame:=fun _ _ _ z kp=>by
   obtain ⟨j,e,⟨o1,a1,b1⟩,o2,a2,b2⟩:=z
   exact ⟨j,e,⟨o1,kp J (by simp) _ a1,b1⟩,o2,kp T (by simp) _ a2,b2⟩
 item:=fun k s Q E lt z q=>by
   obtain ⟨j,rfl,a,b⟩:=z
   have lj:j<us.size:=by omega
   refine ZmT a b (y:=us[j]) (by simp [lj]) fun h1 a1 sb=>?_
   exact q _ h1 s.toks ⟨j,rfl,by simp [lj]⟩ ⟨j+1,rfl,a1,b.extBut sb.extBut ne⟩ sb
 done:=fun s Q E z q=>by
   obtain ⟨j,e,a,b⟩:=z
   have:j=us.size:=by omega
   subst this
   exact Zo4 calm a b (by simp) q
end
end En1
end L2
end
section
namespace L2
open PySem PySem.Spec PyProof.Rows
open PySem.AutoSeq1 (wpAny_loadPart')
namespace En1
theorem ct (a v:Value):checkTypeCall "enumerate" ⟨[a],[("start",v)]⟩=pure ():=by kernel_rfl
theorem cb (a v:Value):checkBuiltinCall "enumerate.__new__" ⟨[.type "enumerate",a],[("start",v)]⟩=pure ():=by kernel_rfl
theorem ao (o a v:Value):argsOk "object.__init__" ⟨[o,a],[("start",v)]⟩:=by unfold argsOk;kernel_rfl
theorem ini {o a v:Value}:Meets (Builtin.«object.__init__» ⟨[o,a],[("start",v)]⟩) (fun _ R s=>s.TypeIs o "enumerate" /\ R (.ok (.ret .none)) s):=by
 refine Meets.of_wp fun prog w A R s z=>?_
 obtain ⟨ty,q⟩:=z
 have hl:=F.called_enumerate.init.lookup
 have hm:=F.called_enumerate.made
 have hne:(some "enumerate.__new__" != some "object.__new__")=true:=by decide
 repeat (any_goals (first|assumption|wp_step))
 exact ⟨_,rfl,q⟩
theorem nw(T:Addr)(us:Array Value)(n:Nat)(dc:Option Addr)(sl:Array (Option Value))(t:Tok) :
   Meets (Builtin.«enumerate.__new__» ⟨[.type "enumerate",.ref T],[("start",.int 1 t)]⟩) (fun _ R s=>s.heap.get? T=some {cls:=.type "tuple",dict:=dc,data:=.seq us n,slots:=sl} /\
     R (.ok (.ret (.ref (s.heap.push {cls:=.type "tuple_iterator",data:=.fields #[.ref T,.int 0 0]}).objs.size)))
       {s with heap:=(s.heap.push {cls:=.type "tuple_iterator",data:=.fields #[.ref T,.int 0 0]}).push {cls:=.type "enumerate",data:=.fields #[.none,.bool false,.ref s.heap.objs.size,rawInt 1,.none,.none]}}) :=
 .of_wp fun prog w A R s z=>by
   obtain ⟨hp,g,d,tk,os⟩:=s
   obtain ⟨e,q⟩:=z
   have hsub:=sub_enumerate
   have tt:Heap.IsTuple (Shared.heap ⟨hp,g,d,tk,os⟩) T us:=⟨_,e,rfl,n,rfl⟩
   wp_walk using wpAny_loadPart' e
   refine wpAny_stack_any fun st=>wpAny_pure ?_
   split
   . rename_i c _ _ _ _ _
     cases (c==Value.type "enumerate")
     . wp_walk using wpAny_loadPart' e,wpAny_pyIter_tuple tt
       exact ⟨_,rfl,q⟩
     . wp_walk using wpAny_loadPart' e,wpAny_pyIter_tuple tt
       exact ⟨_,rfl,q⟩
   . wp_walk using wpAny_loadPart' e,wpAny_pyIter_tuple tt
     exact ⟨_,rfl,q⟩
end En1
end L2
end
section
namespace L2
open PySem PySem.Spec PyProof.Rows
namespace En1
section
variable {prog:Program}{w:World}{A:Around}{E:Value->Shared->Prop}{s:Shared}
theorem mk{T:Addr}{us:Array Value}{t:Tok}{Q:Value->Shared->Prop}(tt:s.heap.IsTuple T us)
   (q:∀ h1,IsEnum h1 (s.heap.objs.size+1) s.heap.objs.size 1 .none->h1.IsTupleIter s.heap.objs.size T 0->(∀ b o,s.heap.get? b=some o->h1.get? b=some o)->Q (.ref (s.heap.objs.size+1)) {s with heap:=h1}) :
   wpAny (model prog w) A (call (.type "enumerate") [.ref T] [("start",.int 1 t)]) Q E s:=by
 obtain ⟨⟨c,dc,dt,sl⟩,e,hc,n,hd⟩:=tt
 obtain rfl:c=.type "tuple" := hc
 obtain rfl:dt=.seq us n:=hd
 have ft:=F.called_enumerate
 obtain ⟨c,tl,hmro⟩:=ft.mro
 have hmade:=ft.made
 have hsub:=ft.sub
 have hct:=ct (.ref T) (.int 1 t)
 refine wpAny_call (codeAny_of_tree ?_)
 show wpAny _ _ (callAny (.type "enumerate") _) _ _ _
 refine wpAny_pure ⟨Code.quiet_builtin _ (by decide +kernel),codeAny_builtin F.entry_type_call ?_⟩
 rw [Around.under_plain (weight_type_call_type "enumerate" [.ref T] [("start",.int 1 t)]) (units_type_call_type "enumerate" [.ref T] [("start",.int 1 t)])]
 have h1:=ft.notType
 have h2:=ft.canCreate
 repeat (any_goals (first|assumption|wp_step))
 refine codeAny_mono (codeAny_call_builtin ft.plain F.entry_enumerate_new (wpAny_of_eq (cb (.ref T) (.int 1 t)) (nw T us n dc sl t prog w A.in1 (wants (fun obj s1=>s1.TypeIs obj "enumerate" /\ Q obj s1) E) s ⟨e,?_⟩))) fun r s1 hr=>?_
 . have hz:(s.heap.push {cls:=.type "tuple_iterator",data:=.fields #[.ref T,.int 0 0]}).objs.size=s.heap.objs.size+1:=Heap.size_push ..
   show _/\_
   rw [hz]
   have he:IsEnum ((s.heap.push {cls:=.type "tuple_iterator",data:=.fields #[.ref T,.int 0 0]}).push {cls:=.type "enumerate",data:=.fields #[.none,.bool false,.ref s.heap.objs.size,rawInt 1,.none,.none]}) (s.heap.objs.size+1) s.heap.objs.size 1 .none:=by
     have:=Oj (s.heap.push {cls:=.type "tuple_iterator",data:=.fields #[.ref T,.int 0 0]}) (o:={cls:=.type "enumerate",data:=.fields #[.none,.bool false,.ref s.heap.objs.size,rawInt 1,.none,.none]}) rfl
     rw [hz] at this
     exact this
   exact ⟨⟨_,he,rfl⟩,q _ he ⟨_,Od _ (Oj _ rfl),rfl,rfl⟩ fun b o x=>Od _ (Od _ x)⟩
 cases r with
 | error e=>exact hr
 | ok fl =>
   cases fl with
   | ret obj =>
     obtain ⟨hT,hq⟩:=hr
     have hli:=ft.init.lookup
     have hbi:=ft.init.bind obj
     repeat (any_goals (first|assumption|wp_step))
     refine codeAny_mono (codeAny_call_builtin ft.init.plain F.entry_object_init (ft.init.check _ _ _ _ _ _ _ _ hT (ao obj (.ref T) (.int 1 t)) (ini prog w A.in1 (wants (fun r s2=>r=.none/\Q obj s2) E) s1 ⟨hT,rfl,hq⟩))) fun r2 s2 hr2=>?_
     cases r2 with
     | error e=>exact hr2
     | ok fl2 =>
       cases fl2 with
       | ret r =>
         obtain ⟨rfl,hq⟩:=hr2
         repeat (any_goals (first|assumption|wp_step))
       | _=>exact hr2.elim
   | _=>exact hr.elim
end
end En1
end L2
end
section
namespace L2
open PySem PySem.Spec PyProof.Rows
noncomputable def It1(K:PySem.W.Frag)(a:Addr):It :=
 ⟨fun i H=>∃ xs x,SqT K H a xs/\xs[i]? = some x,fun i H v H'=>∃ p,v=.ref p/\H p=none/\∃ x,(∀ xs,SqT K H a xs->xs[i]? = some x)/\H'=upd H p (.tup [.int (i+1:Nat),x]),fun i H=>∃ xs,SqT K H a xs/\xs.length=i⟩
theorem ZkH{P:Program}{w:World}{K:PySem.W.Frag}{es:List Expr}{kk:Nat}{tp:Pos}(a it e:Addr)(hei:e≠it)(hae:a≠e)(hai:a≠it) :
   Turn P w K (.Tuple es kk tp) (It1 K a) [e,it] e (fun i h=>(∃ old,IsEnum h e it ((i+1:Nat):Int) old)/\h.IsTupleIter it a i) where
 mem:=by simp
 obj:=fun i h st b hb=>by
   obtain ⟨⟨old,he⟩,o,e1,c,d⟩:=st
   rcases O2.mp hb with rfl|hb
   . exact ⟨_,he,fun v z=>by cases z⟩
   . have e2:b=it:=by simpa using hb
     subst e2
     exact ⟨o,e1,fun v z=>by rw [d] at z;cases z⟩
 keep:=fun i h h' st k=>by
   obtain ⟨⟨old,he⟩,st⟩:=st
   exact ⟨⟨old,k e (by simp) _ he⟩,st.at fun o z=>k it (by simp) o z⟩
 item:=by
   intro X hP hw hK hc i pins s Z H E I hf st hg
   subst hP hw hK
   obtain ⟨xs,x,hq,hx⟩:=hg
   obtain ⟨its,rv,p,hz⟩:=I.tuple hq
   have p:s.heap.IsTuple a its.toArray:=p
   have hl:=rv.length
   have hi:i<xs.length:=(Ob.mp hx).1
   have D:=En1.dr (prog:=X.prog) (w:=X.w) (A:=X.A.in1) (I.ok.hd hc) it a hai its.toArray
   have W:=WalksT.enumerateD (A:=X.A) D e hei (by simp [hei,Ne.symm hae]) (by simp)
   obtain ⟨⟨old,he⟩,hit⟩:=st
   refine wpAny_pyNext_enum_itemD D he ⟨i,rfl,hit,p⟩ (by simp;omega) hei (by simp [hei,Ne.symm hae]) fun y h1 tk hy ho hst hT hsz hk=>?_
   obtain ⟨j,ej,hy⟩:=hy
   obtain rfl:i=j:=by omega
   have e1:e<s.heap.objs.size:=Heap.lt_size he
   have e2:it<s.heap.objs.size:=by obtain ⟨_,z,_⟩:=hit;exact Heap.lt_size z
   have hT1:s.heap.objs.size≠e:=Nat.ne_of_gt e1
   have hT2:s.heap.objs.size≠it:=Nat.ne_of_gt e2
   refine ⟨_,rfl,W.go _ _ _ (i+1) s.heap.objs.size {s with heap:=h1,toks:=tk+1} _ _ ⟨⟨_,ho⟩,hst,hT1,hT2⟩ fun h2 st2 kk2=>?_⟩
   have hy':its[i]? = some y:=by simpa using hy
   obtain ⟨u,hu,ru⟩:=rv.get hx
   rw [hy'] at hu
   cases hu
   have hTw:s.heap.objs.size ∉ [e,it]:=by simp [hT1,hT2]
   have tup2:Zbd h2 s.heap.objs.size #[.int ((i+1:Nat):Int) tk,y]:=⟨_,kk2 _ _ hTw hT,rfl,rfl,_,rfl⟩
   have I2:Inv X pins Z (upd H s.heap.objs.size (.tup [.int ((i+1:Nat):Int),x])) {s with heap:=h2,toks:=tk+1}:=I.turnT hf (fun b o hb q=>kk2 b o hb (hk b o (fun z=>hb (by simp [z])) (fun z=>hb (by simp [z])) q)) (Oq _) (us:=[.int ((i+1:Nat):Int) tk,y]) tup2 (.cons ⟨tk,rfl⟩ (.cons ru .nil)) (by show 2<=sizeLine;decide)
   obtain ⟨s3,j,ej2,s4,s5⟩:=st2
   obtain rfl:j=i+1:=by omega
   refine ⟨.ref s.heap.objs.size,_,I2,rfl,⟨_,rfl,I.hok.fresh (Oq _),x,fun ys hy=>by rw [I.tuple_inj hy hq];exact hx,rfl⟩,⟨s3,s4⟩,fun b hb=>?_⟩
   have neb:b≠s.heap.objs.size:=fun z=>hTw (by rw [<- z];exact hb)
   rw [Zc neb]
   exact (hf b hb).1
 done:=by
   intro X hP hw hK hc i pins s Z H E I hf st hg
   subst hP hw hK
   obtain ⟨xs,hq,hx⟩:=hg
   obtain ⟨its,rv,p,hz⟩:=I.tuple hq
   have p:s.heap.IsTuple a its.toArray:=p
   have hl:=rv.length
   have D:=En1.dr (prog:=X.prog) (w:=X.w) (A:=X.A.in1) (I.ok.hd hc) it a hai its.toArray
   obtain ⟨⟨old,he⟩,hit⟩:=st
   refine wpAny_pyNext_enum_endD D he ⟨i,by simp;omega,hit,p⟩ fun h1 ex=>⟨rfl,I.turnL (t':=s.toks) hf fun b o hb q=>ex b o (fun z=>hb (by simp [z])) q⟩
 self:=fun A i s Q E st h=>by
   obtain ⟨⟨old,he⟩,_⟩:=st
   exact wpAny_pyIter_enum he h
section
variable {M:Model}{A:Around}{E:Value->Shared->Prop}{s:Shared}{env:Env}
theorem Zmr{pos:Pos}{T:String}{e:Expr}{kws:List Keyword}{Q:Value->Shared->Prop}(he:starEach [e] env=[(false,eval e env)])
   (h:wpAny M A (spliced (backTo pos (starEach [e] env))) (fun vs s1=>wpAny M A (evalAll ((backToKw pos (keywordEach kws env)).map (·.2)))
     (fun kvs s2=>wpAny M A (call (.type T) vs (((backToKw pos (keywordEach kws env)).filterMap (·.1)).zip kvs)) Q E s2) E s1) E s)
   (hall:(backToKw pos (keywordEach kws env)).all (·.1.isSome)=true:=by rfl) (hkw:(backToKw pos (keywordEach kws env)).any (·.1.isNone)=false:=by rfl) :
   wpAny M A (callWith pos (.type T) [] (backTo pos (starEach [e] env)) (backToKw pos (keywordEach kws env))) Q E s:=by
 have hp:(backTo pos (starEach [e] env)).any (·.1)=false:=by rw [he];rfl
 have g:wpAny M A (evalArgs (.type T) true (backTo pos (starEach [e] env)) (backToKw pos (keywordEach kws env))) (fun a s1=>wpAny M A (call (.type T) ([]++a.pos) a.kw) Q E s1) E s:=by
   rw [he] at h ⊢
   exact evalArgs_kwB hall h
 unfold callWith
 refine wpAny_bind (wpAny_holding (wpAny_mono g (fun a s1 h1=>wpAny_bind (wpAny_standAt ?_)) fun _ _ z=>z))
 simp only [hp,hkw,Bool.or_false]
 exact wpAny_bind (wpAny_pure (wpAny_bind (wpAny_mono h1 (fun r s2 hr=>wpAny_bind (wpAny_holding (wpAny_point (wpAny_pure hr)))) fun _ _ z=>z)))
end
noncomputable def Zs6(K:PySem.W.Frag)(tl tk:TE):TI:=fun Z H R=>tl Z H fun v H1=>tk Z H1 fun u H2=>∃ a,v=.ref a/\u=.int 1/\(∃ xs,SqT K H2 a xs)/\R (It1 K a) H2
theorem Zpt {X:Cx}{es:List Expr}{kk:Nat}{tp:Pos}{l y:Expr}{tl tk:TE}{p kp pos:Pos} (hg:Gl X "enumerate") (hm:X.mg "enumerate" = none) (hl:PE X l tl) (hy:PE X y tk) (he:starEach [l] X.env=[(false,eval l X.env)]) :
   PI X (.Tuple es kk tp) (.Call (.Name "enumerate" p) [l] [⟨some "start",y,kp⟩] pos) (Zs6 X.K tl tk):=by
 intro pins s Z H R I h
 refine wpAny_Call_Name_kw (ZbS I hg hm boot_enumerate ?_)
 refine Zmr he ?_
 rw [he]
 refine Calls.spliced_cons (thn (hl pins s Z H _ I h) fun v s1 ⟨vv,H1,I1,r1,q1⟩=>Calls.spliced_nil ?_)
 refine kws_cons (thn (hy pins s1 Z H1 _ I1 q1) fun u s2 ⟨uu,H2,I2,r2,q2⟩=>kws_nil ?_)
 obtain ⟨a,rfl,rfl,⟨xs,hq⟩,q⟩:=q2
 cases r1
 obtain ⟨t,rfl⟩:=r2
 obtain ⟨its,rv,pt,hz⟩:=I2.tuple hq
 have pt:s2.heap.IsTuple a its.toArray:=pt
 have hlt:a<s2.heap.objs.size:=by obtain ⟨_,z,_⟩:=pt;exact Heap.lt_size z
 refine En1.mk pt fun h1 he hi kk=>?_
 refine wpAny_pyIter_enum he ?_
 refine ⟨s2.heap.objs.size+1,[s2.heap.objs.size+1,s2.heap.objs.size],_,_,H2,rfl,I2.kept (t':=s2.toks) kk,ZkH a s2.heap.objs.size (s2.heap.objs.size+1) (Nat.succ_ne_self _) (Ou (Nat.lt_succ_of_lt hlt)) (Ou hlt),⟨⟨_,he⟩,hi⟩,fun b hb=>?_,q⟩
 rcases O2.mp hb with rfl|hb
 . exact I2.fpOk (Nat.le_succ _) (I2.hok.fresh (Nat.le_succ _))
 . have e:b=s2.heap.objs.size:=by simpa using hb
   subst e
   exact I2.fpOk (Oq _) (I2.hok.fresh (Oq _))
end L2
end
section
namespace L2
open PySem PySem.Spec PyProof.Rows
section
variable {X:Cx}{pins:List (Addr×Obj)}{Z:St}{H:Hp}{s:Shared}
theorem Inv.freeze{a:Addr}{o:Obj}{kvs:List (Key×V)}(I:Inv X pins Z H s)(e:H a=some (.dK kvs))(ho:s.heap.get? a=some o):Inv X pins Z (upd H a (.frz o (.dK kvs))) s:=by
 have ne:∀ b,(∀ kvs,H b≠some (.dK kvs))->b≠a:=fun b q z=>q kvs (by rw [z];exact e)
 refine I.un (t':=s.toks) (h':=s.heap) ⟨fun b u q n _ _=>q,fun b u q n _ _=>⟨u.slots,q⟩,fun b u q n _=>?_,fun b u q _=>⟨u,q⟩,fun b xs q=>?_,fun b u v q=>?_,fun b ps q=>⟨#[],?_⟩⟩ ?_
 . rw [Zc (ne b fun k z=>by rw [n] at z;cases z)];exact n
 . rw [Zc (ne b fun k z=>by rw [q] at z;cases z)];exact q
 . rw [Zc (ne b fun k z=>by rw [q] at z;cases z)];exact q
 . rw [Zc (ne b fun k z=>by rw [q] at z;cases z),q];simp
 . have old:=I.hok a _ e
   exact I.hok.write (x:=a) (e:=a) (by rw [e];trivial) (.inl rfl) (fun b u _ q=>q) ⟨o,ho⟩ ⟨ho,old⟩
end
theorem ZnW{k:Key}{u:Value}(h:Zfm k u=true):RelV (kV k) u:=by
 rcases ZB h with ⟨i,t,rfl,rfl⟩|⟨x,t,rfl,rfl⟩
 . exact ⟨t,rfl⟩
 . exact ⟨t,rfl⟩
theorem ZjA:∀ {kvs:List (Key×V)}{vs:List (Key×Value)},KV kvs vs->kvs.map (·.1)=vs.map (·.1)
 | _,_,.nil=>rfl
 | _,_,.cons h t=>by rw [Op,Op,ZjA t,h.1]
noncomputable def Itd(a:Addr)(o:Obj)(kvs:List (Key×V)):It :=
 ⟨fun i H=>H a=some (.frz o (.dK kvs))/\i<kvs.length,fun i H x H'=>H'=H/\∃ k v,kvs[i]? = some (k,v)/\x=kV k,fun i H=>H a=some (.frz o (.dK kvs))/\kvs.length<=i⟩
theorem ZmR{P:Program}{w:World}{K:PySem.W.Frag}{tg:Expr}(a it:Addr)(o:Obj)(kvs:List (Key×V))(es:Array DictEntry)(ep:Nat)(hd:o.data=.dict es ep):Turn P w K tg (Itd a o kvs) [it] it (fun i h=>h.IsKeyIter it a i kvs.length ep) where
 mem:=by simp
 obj:=fun i h st b hb=>by
   have e:b=it:=by simpa using hb
   subst e
   obtain ⟨o,e,c,d⟩:=st
   exact ⟨o,e,fun v z=>by rw [d] at z;cases z⟩
 keep:=fun i h h' st k=>st.at fun o e=>k it (by simp) o e
 item:=by
   intro X hP hw hK hc i pins s Z H E I hf st hg
   subst hP hw hK
   obtain ⟨ea,hi⟩:=hg
   obtain ⟨g1,hz,hsm,vs,rv,o2,es2,ep2,g2,x1,x2,x3,x4,x5⟩:=I.hok a _ ea
   rw [g1] at g2
   cases g2
   rw [hd] at x2
   cases x2
   have hl:=rv.length
   have hi2:i<vs.length:=by omega
   obtain ⟨f0,f1,f2,f3,f4,f5⟩:=hf it (by simp)
   have hkv:(kvs[i]'hi).1=(vs[i]'hi2).1:=by
     have q:=congrArg (fun l=>l[i]?) (ZjA rv)
     simp only [On,Og hi,Og hi2,Option.map_some] at q
     exact Option.some.inj q
   refine wpAny_pyNext_dict_item (knd:=Zz X.prog X.w) (kvs:=vs) (k:=(vs[i]'hi2).1) (v:=(vs[i]'hi2).2) (by rw [<- hl];exact st) ⟨o,es,g1,x1,hd,x3,x4,x5⟩ (by simp [hi2]) fun key h' hkey hit' hs'=>?_
   have I1:Inv X pins Z H {s with heap:=h'}:=I.turned (t':=s.toks) (fun b o hb e=>(hs'.2 b hb).trans e) f0 f1 f3 f4 f5
   obtain ⟨oi,e,c,d⟩:=id hit'
   exact ⟨key,rfl,Zf7 (s:={s with heap:=h'}) e c d (by decide) ⟨kV (kvs[i]'hi).1,H,I1,by rw [hkv];exact ZnW hkey,⟨rfl,(kvs[i]'hi).1,(kvs[i]'hi).2,by simp [hi],rfl⟩,by rw [hl];exact hit',fun b hb=>(hf b hb).1⟩⟩
 done:=by
   intro X hP hw hK hc i pins s Z H E I hf st hg
   subst hP hw hK
   obtain ⟨ea,hi⟩:=hg
   obtain ⟨g1,hz,hsm,vs,rv,o2,es2,ep2,g2,x1,x2,x3,x4,x5⟩:=I.hok a _ ea
   rw [g1] at g2
   cases g2
   rw [hd] at x2
   cases x2
   have hl:=rv.length
   obtain ⟨f0,f1,f2,f3,f4,f5⟩:=hf it (by simp)
   exact wpAny_pyNext_dict_end (knd:=Zz X.prog X.w) (kvs:=vs) (I.ok.hd hc) (by rw [<- hl];exact st) ⟨o,es,g1,x1,hd,x3,x4,x5⟩ (by simp;omega) fun h' eb=>⟨rfl,I.turned (t':=s.toks) (fun b o hb e=>eb b o hb e) f0 f1 f3 f4 f5⟩
 self:=fun _ _ _ _ _ st h=>wpAny_pyIter_keyiter st h
noncomputable def iDk(tl:TE):TI:=fun Z H R=>tl Z H fun x H1=>∃ a kvs,x=.ref a/\((H1 a=some (.dK kvs)/\∀ o,R (Itd a o kvs) (upd H1 a (.frz o (.dK kvs))))\/∃ o,H1 a=some (.frz o (.dK kvs))/\R (Itd a o kvs) H1)
theorem Zrf{X:Cx}{tg l:Expr}{tl:TE}(hl:PE X l tl):PI X tg l (iDk tl):=by
 intro pins s Z H R I h
 refine thn (hl pins s Z H _ I h) fun v s1 ⟨x,H1,I1,r1,q1⟩=>?_
 obtain ⟨a,kvs,rfl,q⟩:=q1
 cases r1
 have main:∀ (o:Obj) (H2:Hp),Inv X pins Z H2 s1->H2 a=some (.frz o (.dK kvs))->R (Itd a o kvs) H2->wpAny (model X.prog X.w) X.A (pyIter (.ref a)) (PIE X pins Z tg R) X.xe s1:=by
   intro o H2 I2 ea hR
   obtain ⟨g1,hz,hsm,vs,rv,o2,es,ep,g2,x1,x2,x3,x4,x5⟩:=I2.hok a _ ea
   rw [g1] at g2
   cases g2
   refine wpAny_pyIter_dict (knd:=Zz X.prog X.w) hsm ⟨o,es,g1,x1,x2,x3,x4,x5⟩ ?_
   refine ⟨s1.heap.objs.size,[s1.heap.objs.size],_,_,H2,rfl,I2.kept (t':=s1.toks) fun b o e=>Od _ e,ZmR a _ o kvs es ep x2,⟨_,Oj _ rfl,rfl,by rw [rv.length];rfl⟩,fun b hb=>?_,hR⟩
   have e:b=s1.heap.objs.size:=by simpa using hb
   subst e
   exact I2.fpOk (Oq _) (I2.hok.fresh (Oq _))
 rcases q with ⟨ea,hR⟩|⟨o,ea,hR⟩
 . obtain ⟨hz,hsm,vs,rv,o,es,ep,g2,r⟩:=I1.hok a _ ea
   exact main o _ (I1.freeze ea g2) Zh (hR o)
 . exact main o _ I1 ea hR
end L2
end
section
namespace L2
open PySem PySem.Spec PyProof.Rows
namespace Rv
section
variable {prog:Program}{w:World}{A:Around}{E:Value->Shared->Prop}{s:Shared}
theorem ext {R:Result->Shared->Prop}{I l S_:Addr}{items:Array Value} (hh:A.handled=none) (hit:Is s.heap I l ((items.size:Int) - 1)) (hl:IsTup s.heap l items) (hne:l≠I) (hz:items.size<=sizeLine) (hSI:S_≠I) (hSl:S_≠l) (res:Value) (c₀:Nat) (hS1:s.heap.get? S_=some {cls:=.type "list",data:=.seq #[] c₀})
   (hR:∀ s' acc c,Moved [S_,I] (fun a b=>b=a) s s'->s'.heap.get? S_=some {cls:=.type "list",dict:=none,data:=.seq acc c,slots:=#[]}->ItemsOf (fun i v=>items[items.size - 1 - i]? = some v) acc items.size->R (.ok (.ret res)) s') :
   wpAny (model prog w) A.in1 (Builtin.List.listExtendWith (.ref S_) (.ref I) res)
     (fun fin s'=>match fin with|.done f=>R (.ok f) s'|.again c'=>c'.quiet=true/\codeAny (model prog w) A c' R s') (fun e s'=>R (.error e) s') s:=by
 have W:=(walks (prog:=prog) (w:=w) (A:=A.in1) hh I l hne items hz).toS
 have hst:0<=items.size/\Is s.heap I l ((items.size:Int) - 1 - ((0:Nat):Int))/\IsTup s.heap l items:=⟨Nat.zero_le _,by simpa using hit,hl⟩
 have hSf:S_ ∉ [I,l]:=by simp only [O2,List.not_mem_nil,or_false,not_or];exact ⟨hSI,hSl⟩
 have key:∀ (s2:Shared) (c₁:Nat),Moved [S_] (fun a b=>b=a) s s2->(0<=items.size/\Is s2.heap I l ((items.size:Int) - 1 - ((0:Nat):Int))/\IsTup s2.heap l items)->s2.heap.get? S_=some {cls:=.type "list",dict:=none,data:=.seq #[] c₁,slots:=#[]}->codeAny (model prog w) A (.builtin "list.extend.loop" ⟨[.ref S_,.ref I,res],[]⟩) R s2:=by
   intro s2 c₁ m2 hst2 hS2
   refine codeAny_extend_loopS W hz S_ hSf res items.size 0 _ #[] c₁ rfl (Nat.zero_le _) hst2 hS2 (ItemsOf.nil _) fun s' acc' c' hm hS' hacc=>?_
   refine hR s' acc' c' ⟨fun b o hb e=>hm.heap b o hb (m2.heap b o (fun h=>hb (by rw [Ox.mp h];exact Oi)) e),hm.gens.trans m2.gens,hm.drawn.trans m2.drawn,hm.os.trans m2.os,OE m2.toks hm.toks⟩ hS' hacc
 have e1:Builtin.List.listSameRef (.ref S_) (.ref I)=false:=by simp [Builtin.List.listSameRef,hSI]
 have hT:Shared.TypeIs s (.ref I) "reversed" := hit.typeIs
 unfold Builtin.List.listExtendWith
 refine wpAny_bind (wpAny_typeOf hT ?_)
 rw [if_neg (by rw [e1];decide)]
 refine wpAny_bind (W.self 0 _ _ _ hst (wpAny_bind (wpAny_holding ?_)))
 unfold Builtin.List.listLengthHint
 refine wpAny_bind (wpAny_specialOf hT Zrx ?_)
 show wpAny _ A.in1 (specialOf (Value.ref I) (O "__length_hint__") >>= _) _ _ _
 refine wpAny_bind (wpAny_specialOf hT Zp9 ?_)
 have hsp:splitId "reversed.__length_hint__" = some ("reversed", "__length_hint__"):=by decide +kernel
 dsimp only
 rw [hsp]
 dsimp only
 refine wpAny_bind (wpAny_isInstance (b:=true) hT Zja ?_)
 rw [if_neg (by decide),if_neg (by decide +kernel)]
 refine wpAny_bind (wpAny_rule (wpAny_bind (wpAny_of_eq (Zqa.bind _) ?_)))
 dsimp only
 refine wpAny_bind (wpAny_attempt (Zn2 (by simpa using hst.2.1) hst.2.2 hz fun u tk htk=>?_))
 dsimp only
 have ea:asInt? (Value.int (items.size:Int) u)=pure (some (items.size:Int)):=rfl
 rw [ea]
 clear ea
 generalize hk:(items.size:Int)=kk
 refine wpAny_bind ?_
 refine wpAny_pure ?_
 dsimp only
 have l1:Builtin.List.listFitsIndex kk=true:=by
   have:=Zbp
   unfold Builtin.List.listFitsIndex
   rw [Oa,decide_eq_true_iff,decide_eq_true_iff]
   omega
 have l2:Builtin.List.listTooLong kk.toNat=false:=by
   unfold Builtin.List.listTooLong
   rw [decide_eq_false_iff_not]
   omega
 rw [if_neg (by rw [l1];decide),if_neg (by omega),if_neg (by rw [l2];decide)]
 refine wpAny_pure ?_
 have m0:Moved [S_] (fun a b=>b=a) s {s with toks:=tk}:=⟨fun b o _ e=>e,rfl,rfl,rfl,htk⟩
 refine wpAny_ite_split (fun _=>?_) (fun _=>wpAny_pure ⟨plainId_quiet F.plain_extend_loop _,key _ c₀ m0 hst hS1⟩)
 refine wpAny_bind (wpAny_rule (wpAny_bind ?_))
 show wpAny _ A.in1 (updateSeq S_ (·.push .none) >>= fun _=>updateSeq S_ (·.pop)) _ _ _
 refine wpAny_bind (wpAny_updateSeq hS1 rfl ?_)
 have hS2:=Heap.get?_update_self (Obj.mapSeq (·.push Value.none)) hS1 rfl
 refine wpAny_updateSeq (hz:=by seq_fits) hS2 rfl ?_
 have hS3:=Heap.get?_update_self (Obj.mapSeq (·.pop)) hS2 rfl
 have oth:∀ b o,b≠S_->s.heap.get? b=some o->((s.heap.update S_ (Obj.mapSeq (·.push Value.none))).update S_ (Obj.mapSeq (·.pop))).get? b=some o :=
   fun b o hb e=>(Heap.get?_update_other _ _ (Ne.symm hb)).trans ((Heap.get?_update_other _ _ (Ne.symm hb)).trans e)
 have hst2:=W.frame 0 s _ tk hst htk fun b hb o e=>oth b o (fun h=>hSf (h ▸ hb)) e
 refine wpAny_pure ⟨plainId_quiet F.plain_extend_loop _,key _ _ ⟨fun b o hb e=>oth b o (fun h=>hb (h ▸ Oi)) e,rfl,rfl,rfl,htk⟩ hst2 hS3⟩
theorem ZrE {R:Result->Shared->Prop}{I l S_:Addr}{items:Array Value} (hh:A.handled=none) (hit:Is s.heap I l ((items.size:Int) - 1)) (hl:IsTup s.heap l items) (hne:l≠I) (hz:items.size<=sizeLine) (hSI:S_≠I) (hSl:S_≠l) (hS:s.heap.get? S_=some {cls:=.type "list",data:=.seq #[]})
   (hR:∀ s' acc c,Moved [S_,I] (fun a b=>b=a) s s'->s'.heap.get? S_=some {cls:=.type "list",dict:=none,data:=.seq acc c,slots:=#[]}->ItemsOf (fun i v=>items[items.size - 1 - i]? = some v) acc items.size->R (.ok (.ret .none)) s') :
   wpAny (model prog w) A.in1 (Builtin.«list.__init__» ⟨[.ref S_,.ref I],[]⟩)
     (fun fin s'=>match fin with|.done f=>R (.ok f) s'|.again c'=>c'.quiet=true/\codeAny (model prog w) A c' R s') (fun e s'=>R (.error e) s') s:=by
 show wpAny _ _ (do let old <- Builtin.List.listItems (.ref S_);Builtin.List.listUpdate (.ref S_) (fun _=>#[]);letGo old.toList.reverse;Builtin.List.listExtendWith (.ref S_) (.ref I) .none) _ _ s
 refine wpAny_bind ?_
 unfold Builtin.List.listItems
 refine wpAny_bind (wpAny_seqItems hS rfl (wpAny_pure ?_))
 show wpAny _ _ (updateSeq S_ (fun _=>#[]) >>= fun _=>letGo (#[]:Array Value).toList.reverse >>= fun _=>Builtin.List.listExtendWith (.ref S_) (.ref I) .none) _ _ s
 refine wpAny_bind (wpAny_updateSeq hS rfl ?_)
 have hS2:=Heap.get?_update_self (Obj.mapSeq (fun _=>(#[]:Array Value))) hS rfl
 have oth:∀ b o,b≠S_->s.heap.get? b=some o->(s.heap.update S_ (Obj.mapSeq (fun _=>(#[]:Array Value)))).get? b=some o :=
   fun b o hb e=>(Heap.get?_update_other _ _ (Ne.symm hb)).trans e
 refine wpAny_bind (wpAny_letGo ?_)
 refine ext (l:=l) (items:=items) hh (hit.at fun o e=>oth I o (Ne.symm hSI) e) (let ⟨o,e,r⟩:=hl;⟨o,oth l o (Ne.symm hSl) e,r⟩) hne hz hSI hSl .none _ hS2 fun s' acc c hm hS' hacc=>hR s' acc c ⟨fun b o hb e=>hm.heap b o hb (oth b o (fun h=>hb (h ▸ Oi)) e),hm.gens,hm.drawn,hm.os,hm.toks⟩ hS' hacc
theorem ZnU{I l:Addr}{items:Array Value}{Q:Value->Shared->Prop}(hh:A.handled=none)(hit:Is s.heap I l ((items.size:Int) - 1))(hl:IsTup s.heap l items)(hne:l≠I)(hz:items.size<=sizeLine)
   (hQ:∀ s' acc c,(∀ b o,b≠I->s.heap.get? b=some o->s'.heap.get? b=some o)->s'={s with heap:=s'.heap,toks:=s'.toks}->s'.heap.get? s.heap.objs.size=some {cls:=.type "list",dict:=none,data:=.seq acc c,slots:=#[]}->ItemsOf (fun i v=>items[items.size - 1 - i]? = some v) acc items.size->Q (.ref s.heap.objs.size) s') :
   wpAny (model prog w) A (PySem.call (.type "list") [.ref I]) Q E s:=by
 refine callType_codes (Q₁:=fun obj s₁=>obj=.ref s.heap.objs.size/\s₁={s with heap:=s.heap.push {cls:=.type "list",data:=.seq #[]}}) PySem.F.called_list (PySem.F.typeCall_list_1 _) PySem.F.entry_list_init
   (code_list_new _ ⟨rfl,rfl⟩) fun obj s₁ h₁=>?_
 obtain ⟨rfl,rfl⟩:=h₁
 have hS:(s.heap.push {cls:=.type "list",data:=.seq #[]}).get? s.heap.objs.size=some {cls:=.type "list",data:=.seq #[]}:=Oj _ rfl
 have lI:I<s.heap.objs.size:=by obtain ⟨o,ho,_⟩:=hit;exact Heap.lt_size ho
 have ll:l<s.heap.objs.size:=by obtain ⟨o,ho,_⟩:=hl;exact Heap.lt_size ho
 refine ⟨⟨_,hS,rfl⟩,PySem.F.args_list_init_2 _ _,ZrE (A:=A.in1) (l:=l) (items:=items) hh (hit.at fun o e=>Od _ e) (let ⟨o,e,r⟩:=hl;⟨o,Od _ e,r⟩) hne hz (Nat.ne_of_gt lI) (Nat.ne_of_gt ll) hS fun s' acc c hm hS' hacc=>?_⟩
 refine ⟨rfl,hQ s' acc c (fun b o hb e=>hm.heap b o (fun h=>?_) (Od _ e)) ?_ hS' hacc⟩
 . rcases O2.mp h with q|q
   . exact absurd (Heap.lt_size e) (by rw [q];exact Nat.lt_irrefl _)
   . exact hb (Ox.mp q)
 . have:=Moved.eq_with hm
   rw [this]
end
end Rv
noncomputable def ZmX(K:PySem.W.Frag)(ta:TA):TE:=fun Z H Q=>ta Z H fun vs H1=>∃ a xs,vs=[.ref a]/\SqT K H1 a xs/\∀ p,H1 p=none->Q (.ref p) (upd H1 p (.lst xs.reverse))
theorem Zj9 {X:Cx}{l:Expr}{ta:TA}{p p2 pos pos2:Pos} (hc:X.calm=true) (hgT:Gl X "list") (hmT:X.mg "list" = none) (hgR:Gl X "reversed") (hmR:X.mg "reversed" = none) (ha:PA X [l] ta)
   (hs:starEach [l] X.env=[(false,eval l X.env)]:=by rfl):PE X (.Call (.Name "list" p) [.Call (.Name "reversed" p2) [l] [] pos2] [] pos) (ZmX X.K ta):=by
 intro pins s Z H Q I h
 refine Call_ (ZbS I hgT hmT boot_list (PyProof.Rows.callWith_type1 ?_ rfl rfl))
 show wpAny _ _ (spliced ((false,eval (.Call (.Name "reversed" p2) [l] [] pos2) X.env)::[])) _ _ s
 refine Calls.spliced_cons ?_
 refine Call_ (ZbS I hgR hmR boot_reversed (PyProof.Rows.callWith_type1 (thn (ha pos2 pins s Z H _ I h) fun us s1 ⟨vs,H1,I1,r1,q1⟩=>?_) hs rfl))
 obtain ⟨a,xs,rfl,hq,q⟩:=q1
 obtain ⟨u,rfl,ru⟩:=vals1 r1
 obtain rfl:u=Value.ref a:=ru
 obtain ⟨its,rv,pl,hz⟩:=I1.tuple hq
 have hln:=rv.length
 have hzz:its.toArray.size<=sizeLine:=by simp;omega
 refine Rv.call pl hzz (Calls.spliced_nil ?_)
 have hlt:a<s1.heap.objs.size:=by obtain ⟨o,ho,_⟩:=pl;exact Heap.lt_size ho
 refine Rv.ZnU (I.ok.hd hc) (l:=a) (items:=its.toArray) ⟨_,Oj _ rfl,rfl,rfl⟩ (pl.push _) (Ou hlt) hzz fun s' acc c hk es hS hacc=>?_
 have kp:∀ b o,s1.heap.get? b=some o->s'.heap.get? b=some o:=fun b o e=>hk b o (fun hb=>by
   rw [hb] at e
   exact absurd (Heap.lt_size e) (Nat.lt_irrefl _)) (Od _ e)
 have ea:acc.toList=its.reverse:=by
   apply List.ext_getElem?
   intro j
   rcases Nat.lt_or_ge j its.length with hj|hj
   . have hj':j<acc.size:=by rw [hacc.1];simpa using hj
     have e1:=hacc.2 j acc[j] (Array.getElem?_eq_getElem hj')
     rw [List.getElem?_reverse hj,Array.getElem?_toList,Array.getElem?_eq_getElem hj',<- e1]
     simp
   . rw [List.getElem?_eq_none (by have:=hacc.1;simp at this ⊢;omega),List.getElem?_eq_none (by simpa using hj)]
 have ev:acc=its.reverse.toArray:=by rw [<- ea]
 rw [ev] at hS
 generalize hp:(s1.heap.push _).objs.size=pp at hS ⊢
 have le:s1.heap.objs.size<=pp:=by rw [<- hp,Heap.size_push];omega
 have I3:Inv X pins Z (upd H1 pp (.lst xs.reverse)) {s1 with heap:=s'.heap,toks:=s'.toks}:=I1.laid (t':=s'.toks) kp le (show ZaC X.prog X.w _ _ _ (.lst xs.reverse) from ⟨by simpa using hz,its.reverse,c,rv.reverse,hS⟩)
 rw [es]
 exact ⟨.ref pp,_,I3,rfl,q _ (I1.hok.fresh le)⟩
end L2
end
section
set_option tactic.hygienic false
namespace IV
open PySem PySem.Spec PyProof.Rows L2
inductive D where
 | non|bl (b:Bool)|int (i:Int)|str (x:Str)|tup (xs:List D)|ref (i:Nat)|ty (n:String)
 | ro (xs:List D)|kd (x:Str)
inductive DO where
 | lst (xs:List D)|dic (kvs:List (Key×D))|ins (C:Str) (fs:List (Str×D))
 | fdic (kvs:List (Key×D))
noncomputable abbrev Hd:=List DO
inductive R(α:Type) where
 | bad|ok (a:α) (h:Hd)|exc (c:Str) (h:Hd)
noncomputable def R.bind{α β:Type}(r:R α)(k:α->Hd->R β):R β:=match r with
 | .bad=>.bad
 | .ok a h=>k a h
 | .exc c h=>.exc c h
theorem R.bind_ok{α β:Type}{a:α}{h:Hd}{k:α->Hd->R β}:(R.ok a h).bind k=k a h:=rfl
theorem R.bind_bad{α β:Type}{k:α->Hd->R β}:(R.bad:R α).bind k=.bad:=rfl
noncomputable def R.ofO{α:Type}(o:Option α)(h:Hd):R α:=match o with
 | some a=>.ok a h
 | none=>.bad
theorem R.ofO_some{α:Type}{a:α}{h:Hd}:R.ofO (some a) h=.ok a h:=rfl
noncomputable abbrev Ev:=List (Option D)
inductive Bf where
 | len|isi|int|tup|lst|sum|all|srt|mx
 deriving DecidableEq
inductive Mf where
 | app|ext|pop|rev|clr
 deriving DecidableEq
mutual
inductive Ex where
 | var (i:Nat)|cst (d:D)|glo (x:Str)
 | bin (op:Operator) (a b:Ex)|cmp (op:CmpOp) (a b:Ex)|cmp2 (op op':CmpOp) (a b c:Ex)
 | neg (a:Ex)|nt (a:Ex)|ands (es:Exs)|ors (es:Exs)|ite (c:Tx) (a b:Ex)
 | tupl (es:Exs)|lstl (es:Exs)|ix (a i:Ex)|sl (a:Ex) (lo hi:Option Ex)
 | blt (f:Bf) (es:Exs)|call (f:Str) (es:Exs)|meth (m:Mf) (o:Ex) (es:Exs)
 | comp (NC:List Str) (js:List (Option Nat)) (it:Ix) (g:Tg) (c:Option Tx) (e:Ex)
 | sorts (e:Ex)|dictl (ps:Exs)|maxd (e d:Ex)
 | att (Cs:List Str) (o:Ex) (f:Str)|mk (C:Str) (es:Exs)|mcl (C m:Str) (o:Ex) (es:Exs)|any
 | trev (e:Ex)|tix (o e:Ex)|lrv (e:Ex)
inductive Exs where
 | nil|cons (e:Ex) (es:Exs)
inductive Ix where
 | pl (e:Ex)|rng (e:Ex)|rng2 (a b:Ex)|enu (e:Ex)|rev (e:Ex)
 | en1 (e:Ex)|dk (e:Ex)
inductive Tg where
 | nm (i:Nat)|two (i j:Nat)|many (is:List Nat)
inductive Tx where
 | ex (e:Ex)|ands (ts:Txs)|ors (ts:Txs)|nt (a:Tx)
inductive Txs where
 | one (t:Tx)|cons (t:Tx) (ts:Txs)
end
mutual
inductive Sx where
 | ret (e:Ex)|set (g:Tg) (e:Ex)|put (o i e:Ex)|aug (i:Nat) (op:Operator) (e:Ex)|drp (e:Ex)
 | iff (c:Tx) (a b:Sxs)|whl (c:Tx) (b:Sxs)|forr (g:Tg) (it:Ix) (b:Sxs)|pas|brk|cnt
 | seta (Cs:List Str) (o:Ex) (f:Str) (e:Ex)|auga (Cs:List Str) (o:Ex) (f:Str) (e:Ex)|any
inductive Sxs where
 | nil|cons (s:Sx) (r:Sxs)
end
noncomputable instance:DecidableEq D:=fun a b=>Classical.propDecidable (a=b)
noncomputable instance:DecidableEq DO:=fun a b=>Classical.propDecidable (a=b)
mutual
noncomputable def D.py(rd:Nat->Option PyData):D->Option PyData
 | .non=>some .none
 | .bl b=>some (.bool b)
 | .int i=>some (.int i)
 | .str x=>some (.str x)
 | .tup xs=>(D.pys rd xs).map .tuple
 | .ro xs=>(D.pys rd xs).map .list
 | .ref i=>rd i
 | _=>none
noncomputable def D.pys(rd:Nat->Option PyData):List D->Option (List PyData)
 | []=>some []
 | x::xs=>(D.py rd x).bind fun d=>(D.pys rd xs).map fun ds=>d::ds
end
noncomputable def ZbZ(h:Hd):Nat->Nat->Option PyData
 | 0,_=>none
 | n+1,i=>match h[i]? with
   | some (.lst xs)=>(D.pys (ZbZ h n) xs).map .list
   | _=>none
noncomputable def ZfK(h:Hd)(d:D):Option PyData:=D.py (ZbZ h 4) d
noncomputable def Zcp(o:DO)(h:Hd):R D:=.ok (.ref h.length) (h++[o])
noncomputable def lstOf(d:D)(h:Hd):Option (List D):=match d with
 | .ref i=>match h[i]? with
   | some (.lst xs)=>some xs
   | _=>none
 | .ro xs=>some xs
 | _=>none
noncomputable def dicOf(GD:Str->Option (List (Key×D)))(d:D)(h:Hd):Option (List (Key×D)):=match d with
 | .ref i=>match h[i]? with
   | some (.dic kvs)=>some kvs
   | some (.fdic kvs)=>some kvs
   | _=>none
 | .kd x=>GD x
 | _=>none
noncomputable def keyOf:D->Option Key
 | .int i=>some (.inl i)
 | .str x=>some (.inr x)
 | _=>none
noncomputable def Zab(kvs:List (Key×D))(k:Key):Option D:=(kvs.find? fun p=>decide (p.1=k)).map (·.2)
noncomputable def putD(kvs:List (Key×D))(k:Key)(v:D):List (Key×D) :=
 if (kvs.any fun kv=>decide (kv.1=k))=true then kvs.map (fun kv=>if kv.1=k then (kv.1,v) else kv) else kvs++[(k,v)]
noncomputable def cutD(xs:List D)(lo hi:Option Int):List D:=(xs.drop (HT.sIx xs.length 0 lo)).take (HT.sIx xs.length xs.length hi - HT.sIx xs.length 0 lo)
noncomputable def D.flat:D->Bool
 | .int _|.str _|.bl _|.non=>true
 | _=>false
noncomputable def eqF:D->D->Bool
 | .int i,.int j=>i==j
 | .str i,.str j=>i==j
 | .non,.non=>true
 | .bl i,.bl j=>i==j
 | .int i,.bl j=>i==(if j then 1 else 0)
 | .bl i,.int j=>(if i then 1 else 0)==j
 | _,_=>false
noncomputable def Zcs(GD:Str->Option (List (Key×D)))(d:D)(h:Hd):Option Bool:=match d with
 | .non=>some false
 | .bl b=>some b
 | .int i=>some (i != 0)
 | .str x=>if x.length<=sizeLine then some (!(x.length==0)) else none
 | .tup xs=>some (!xs.isEmpty)
 | .ref i=>match h[i]? with
   | some (.lst xs)=>some (!xs.isEmpty)
   | some (.dic xs)=>some (!xs.isEmpty)
   | _=>none
 | .ro xs=>some (!xs.isEmpty)
 | _=>none
noncomputable def int2(x y:D)(k:Int->Int->R D):R D:=match x with
 | .int i=>match y with
   | .int j=>k i j
   | _=>.bad
 | _=>.bad
noncomputable def ZmF(x y:D)(h:Hd):R D:=match x with
 | .int i=>match y with
   | .int j=>.ok (.int (i+j)) h
   | _=>.bad
 | .str i=>match y with
   | .str j=>if i.length+j.length<=sizeLine then .ok (.str (i++j)) h else .bad
   | _=>.bad
 | .tup xs=>match y with
   | .tup ys=>if xs.length+ys.length<=sizeLine then .ok (.tup (xs++ys)) h else .bad
   | _=>.bad
 | .ref i=>match y with
   | .ref j=>match h[i]? with
     | some (.lst xs)=>match h[j]? with
       | some (.lst ys)=>if xs.length+ys.length<=sizeLine then Zcp (.lst (xs++ys)) h else .bad
       | _=>.bad
     | _=>.bad
   | _=>.bad
 | _=>.bad
noncomputable def ZrA(x y:D)(h:Hd):R D:=match x with
 | .str z=>match y with
   | .int n=>if 0<=n/\n<=1000/\z.length<=1000 then .ok (.str (Zd3 z n.toNat)) h else .bad
   | _=>.bad
 | x=>int2 x y fun i j=>if i.natAbs<2 ^ 2000/\j.natAbs<2 ^ 2000 then .ok (.int (i * j)) h else .bad
noncomputable def opB(op:Operator)(x y:D)(h:Hd):R D:=match op with
 | .Add=>ZmF x y h
 | .Sub=>int2 x y fun i j=>.ok (.int (i - j)) h
 | .Mult=>ZrA x y h
 | .Mod=>int2 x y fun i j=>if 0<j then .ok (.int (i % j)) h else .bad
 | .FloorDiv=>int2 x y fun i j=>if 0<j/\j<1073741824 then .ok (.int (i / j)) h else .bad
 | .Pow=>int2 x y fun i j=>if 0<=j/\j<=1000000/\i.natAbs<2 ^ 64 then .ok (.int (i ^ j.toNat)) h else .bad
 | _=>.bad
noncomputable def Zbi(neg:Bool)(x y:D)(h:Hd):R D:=match ZfK h x,ZfK h y with
 | some a,some b=>if min a.depth b.depth<=1100 then .ok (.bl (if neg then !PyData.eqv a b else PyData.eqv a b)) h else .bad
 | _,_=>.bad
noncomputable def seqOf(d:D)(h:Hd):Option (List D):=match d with
 | .tup xs=>some xs
 | d=>lstOf d h
noncomputable def ZbE(GD:Str->Option (List (Key×D)))(neg:Bool)(x y:D)(h:Hd):R D:=match seqOf y h with
 | some xs=>if x.flat&&xs.all D.flat then .ok (.bl (if neg then !xs.any (fun z=>eqF z x) else xs.any fun z=>eqF z x)) h else .bad
 | none=>match dicOf GD y h,keyOf x with
   | some kvs,some k=>.ok (.bl (if neg then !(Zab kvs k).isSome else (Zab kvs k).isSome)) h
   | _,_=>.bad
noncomputable def Zgl(f:Int->Int->Bool)(x y:D)(h:Hd):R D:=match x,y with
 | .int i,.int j=>.ok (.bl (f i j)) h
 | _,_=>.bad
noncomputable def opN(neg:Bool)(x y:D)(h:Hd):R D:=match y with
 | .non=>.ok (.bl (if neg then !decide (x=.non) else decide (x=.non))) h
 | _=>.bad
noncomputable def opC(GD:Str->Option (List (Key×D)))(op:CmpOp)(x y:D)(h:Hd):R D:=match op with
 | .Eq=>Zbi false x y h
 | .NotEq=>Zbi true x y h
 | .Lt=>Zgl (fun i j=>decide (i<j)) x y h
 | .LtE=>Zgl (fun i j=>decide (i<=j)) x y h
 | .Gt=>Zgl (fun i j=>decide (j<i)) x y h
 | .GtE=>Zgl (fun i j=>decide (j<=i)) x y h
 | .In=>ZbE GD false x y h
 | .NotIn=>ZbE GD true x y h
 | .Is=>opN false x y h
 | .IsNot=>opN true x y h
noncomputable def ZaD(GD:Str->Option (List (Key×D)))(x y:D)(h:Hd):R D:=match y with
 | .int i=>match seqOf x h with
   | some xs=>R.ofO (atI xs i) h
   | none=>match x with
     | .str z=>if z.length<=sizeLine then R.ofO ((atI z.cps.toList i).map fun c=>.str ⟨#[c]⟩) h else .bad
     | _=>match dicOf GD x h with
       | some kvs=>R.ofO (Zab kvs (.inl i)) h
       | none=>.bad
 | .str z=>match dicOf GD x h with
   | some kvs=>R.ofO (Zab kvs (.inr z)) h
   | none=>.bad
 | _=>.bad
noncomputable def ZfL(x:D)(l u:Option Int)(h:Hd):R D:=match x with
 | .tup xs=>.ok (.tup (cutD xs l u)) h
 | .str y=>if y.length<=sizeLine then .ok (.str (StrLaws.sliceText y l u)) h else .bad
 | d=>match lstOf d h with
   | some xs=>Zcp (.lst (cutD xs l u)) h
   | none=>.bad
noncomputable def ZkF(d:D)(h:Hd):Option String:=match d with
 | .int _=>some "int"
 | .str _=>some "str"
 | .bl _=>some "bool"
 | .non=>some "NoneType"
 | .tup _=>some "tuple"
 | d=>(lstOf d h).map fun _ => "list"
noncomputable def Zeb (t T:String):Option Bool:=if T∈["int", "str", "bool", "tuple", "list"]/\t∈["int", "str", "bool", "tuple", "list", "NoneType"] then some (t==T || (t == "bool" && T == "int")) else none
noncomputable def intsOf:List D->Option (List Int)
 | []=>some []
 | .int i::r=>(intsOf r).map fun z=>i::z
 | _=>none
noncomputable def ZoS:List D->Option (List Bool)
 | []=>some []
 | .bl i::r=>(ZoS r).map fun z=>i::z
 | _=>none
noncomputable def strsOf:List D->Option (List Str)
 | []=>some []
 | .str i::r=>(strsOf r).map fun z=>i::z
 | _=>none
noncomputable def ZcU:List (Key×D)->Option (List Str)
 | []=>some []
 | (.inr x,_)::r=>(ZcU r).map fun z=>x::z
 | _=>none
noncomputable def Zj2(x:Str):List Str->List Str
 | []=>[x]
 | y::r=>if ltCps y.cps.toList x.cps.toList then y::Zj2 x r else x::y::r
noncomputable def ZbW:List Str->List Str
 | []=>[]
 | x::r=>Zj2 x (ZbW r)
noncomputable def ZfI(xs:List D)(h:Hd):R D:=match xs with
 | [.str y]=>if y.length<=sizeLine then .ok (.int y.length) h else .bad
 | [d]=>R.ofO ((seqOf d h).map fun xs=>.int xs.length) h
 | _=>.bad
noncomputable def Zkz(xs:List D)(h:Hd):R D:=match xs with
 | [d,.ty T]=>R.ofO ((ZkF d h).bind fun t=>(Zeb t T).map .bl) h
 | _=>.bad
noncomputable def Zti(xs:List D)(h:Hd):R D:=match xs with
 | [.int i]=>.ok (.int i) h
 | [.bl b]=>.ok (.int (if b then 1 else 0)) h
 | _=>.bad
noncomputable def ZhR(xs:List D)(h:Hd):R D:=match xs with
 | [.tup xs]=>.ok (.tup xs) h
 | [d]=>R.ofO ((lstOf d h).map .tup) h
 | _=>.bad
noncomputable def Zth(xs:List D)(h:Hd):R D:=match xs with
 | [d]=>match seqOf d h with
   | some xs=>Zcp (.lst xs) h
   | none=>.bad
 | _=>.bad
noncomputable def ZmB(xs:List D)(h:Hd):R D:=match xs with
 | [d]=>R.ofO (((lstOf d h).bind intsOf).map fun ns=>.int ns.sum) h
 | _=>.bad
noncomputable def Ztj(xs:List D)(h:Hd):R D:=match xs with
 | [d]=>R.ofO (((lstOf d h).bind ZoS).map fun bs=>.bl (bs.all id)) h
 | _=>.bad
noncomputable def ZdX(GD:Str->Option (List (Key×D)))(xs:List D)(h:Hd):R D:=match xs with
 | [d]=>match (dicOf GD d h).bind ZcU with
   | some ss=>if ss.length<64/\ss.all PyData.strOk=true then Zcp (.lst ((ZbW ss).map .str)) h else .bad
   | none=>.bad
 | _=>.bad
noncomputable def ZjN(x d:D)(h:Hd):R D:=match d with
 | .int d=>R.ofO (((lstOf x h).bind intsOf).map fun ns=>.int (Zcz ns d)) h
 | _=>.bad
noncomputable def bMx(xs:List D)(h:Hd):R D:=match xs with
 | [.int i,.int j]=>.ok (.int (if j > i then j else i)) h
 | [d]=>match (lstOf d h).bind intsOf with
   | some ns=>if ns≠[] then .ok (.int (Zcz ns 0)) h else .bad
   | none=>.bad
 | _=>.bad
noncomputable def Z5(GD:Str->Option (List (Key×D))):Bf->List D->Hd->R D
 | .len=>ZfI
 | .isi=>Zkz
 | .int=>Zti
 | .tup=>ZhR
 | .lst=>Zth
 | .sum=>ZmB
 | .all=>Ztj
 | .srt=>ZdX GD
 | .mx=>bMx
noncomputable def ZoT(x:D)(h:Hd):R D:=match x with
 | .tup (y::ys)=>.ok (.tup (y::ys).reverse) h
 | _=>.bad
noncomputable def Zqn(x:D)(h:Hd):R D:=match x with
 | .tup ys=>Zcp (.lst ys.reverse) h
 | _=>.bad
noncomputable def ZrK:D->Bool
 | .tup _=>true
 | _=>false
noncomputable def Zr0(x y:D)(h:Hd):R D:=match x,y with
 | .tup xs,.str z=>match strsOf xs with
   | some ss=>R.ofO ((Tx.place z ss).map fun (j:Nat)=>.int (j:Int)) h
   | none=>.bad
 | _,_=>.bad
noncomputable def Zcw:List D->Option (List (Key×D))
 | []=>some []
 | k::v::r=>match keyOf k,Zcw r with
   | some k,some r=>some ((k,v)::r)
   | _,_=>none
 | _=>none
noncomputable def ZbR(kvs more:List (Key×D)):List (Key×D):=more.foldl (fun acc kv=>putD acc kv.1 kv.2) kvs
noncomputable def Zik(i:Nat)(ys xs:List D)(h:Hd):R D:=match xs with
 | [d]=>if ys.length<sizeLine then .ok .non (h.set i (.lst (ys++[d]))) else .bad
 | _=>.bad
noncomputable def ZnS(i:Nat)(ys xs:List D)(h:Hd):R D:=match xs with
 | [.ref j]=>match h[j]? with
   | some (.lst zs)=>if ys.length+zs.length<=sizeLine then .ok .non (h.set i (.lst (ys++zs))) else .bad
   | _=>.bad
 | [.tup zs]=>if ys.length+zs.length<=sizeLine then .ok .non (h.set i (.lst (ys++zs))) else .bad
 | _=>.bad
noncomputable def ZnR(i:Nat)(ys xs:List D)(h:Hd):R D:=match xs with
 | []=>match ys[ys.length - 1]? with
   | some y=>.ok y (h.set i (.lst ys.dropLast))
   | none=>.bad
 | _=>.bad
noncomputable def ZpU(i:Nat)(ys xs:List D)(h:Hd):R D:=match xs with
 | []=>.ok .non (h.set i (.lst ys.reverse))
 | _=>.bad
noncomputable def ZpV(i:Nat)(ys xs:List D)(h:Hd):R D:=match xs with
 | []=>.ok .non (h.set i (.lst []))
 | _=>.bad
noncomputable def ZcZ:Mf->Nat->List D->List D->Hd->R D
 | .app=>Zik
 | .ext=>ZnS
 | .pop=>ZnR
 | .rev=>ZpU
 | .clr=>ZpV
noncomputable def Zaw(m:Mf)(o:D)(xs:List D)(h:Hd):R D:=match o with
 | .ref i=>match h[i]? with
   | some (.lst ys)=>ZcZ m i ys xs h
   | _=>.bad
 | _=>.bad
noncomputable def Zcl(o:D)(h:Hd):Bool:=match o with
 | .ref i=>match h[i]? with
   | some (.lst _)=>true
   | _=>false
 | _=>false
noncomputable def Zcj(o i v:D)(h:Hd):R Unit:=match o with
 | .ref a=>match h[a]? with
   | some (.lst xs)=>match i with
     | .int k=>match ixN xs.length k with
       | some j=>.ok () (h.set a (.lst (xs.set j v)))
       | none=>.bad
     | _=>.bad
   | some (.dic kvs)=>match keyOf i with
     | some k=>if kvs.length<sizeLine then .ok () (h.set a (.dic (putD kvs k v))) else .bad
     | none=>.bad
   | _=>.bad
 | _=>.bad
structure Wk where
 src:Option (Nat×List D)
 xs:List D
noncomputable def Wk.stays(src:Option (Nat×List D))(h:Hd):Bool:=match src with
 | none=>true
 | some (i,xs)=>decide (h[i]? = some (.lst xs))
noncomputable def ZY(d:D)(h:Hd):Option Wk:=match d with
 | .tup xs=>some ⟨none,xs⟩
 | .ro xs=>some ⟨none,xs⟩
 | .ref i=>match h[i]? with
   | some (.lst xs)=>some ⟨some (i,xs),xs⟩
   | _=>none
 | .str y=>if y.length<=sizeLine then some ⟨none,y.cps.toList.map fun c=>.str ⟨#[c]⟩⟩ else none
 | _=>none
noncomputable def ZgV(d:D)(h:Hd):Option Wk:=match d with
 | .ro xs=>some ⟨none,xs⟩
 | .ref i=>match h[i]? with
   | some (.lst xs)=>some ⟨some (i,xs),xs⟩
   | _=>none
 | _=>none
noncomputable def Zc2(d:D)(h:Hd):Option Wk:=match d with
 | .tup xs=>some ⟨none,xs⟩
 | .ref i=>match h[i]? with
   | some (.lst xs)=>some ⟨some (i,xs),xs⟩
   | _=>none
 | _=>none
noncomputable def Zaq(lo:Int)(n:Nat):List D:=(List.range n).map fun (k:Nat)=>.int (lo+(k:Int))
noncomputable def ZdU(xs:List D):List D:=xs.mapIdx fun k x=>.tup [.int (k:Int),x]
noncomputable def Zdo(xs:List D):List D:=xs.mapIdx fun k x=>.tup [.int ((k+1:Nat):Int),x]
noncomputable def ZlO:Key->D
 | .inl i=>.int i
 | .inr x=>.str x
noncomputable def Zl6(x:D)(h:Hd):R Wk:=match x with
 | .ref i=>match h[i]? with
   | some (.dic kvs)=>.ok ⟨none,kvs.map fun p=>ZlO p.1⟩ (h.set i (.fdic kvs))
   | some (.fdic kvs)=>.ok ⟨none,kvs.map fun p=>ZlO p.1⟩ h
   | _=>.bad
 | _=>.bad
noncomputable def ZaE(i:Int):Bool:=decide (-(2 ^ 62)<=i)&&decide (i<2 ^ 62)
noncomputable def Zh2:List Nat->List D->Ev->Ev
 | i::is,x::xs,S=>Zh2 is xs (S.set i (some x))
 | _,_,S=>S
noncomputable def Zcm(g:Tg)(d:D)(S:Ev):Option Ev:=match g with
 | .nm i=>some (S.set i (some d))
 | .two i j=>match d with
   | .tup [a,b]=>some ((S.set i (some a)).set j (some b))
   | _=>none
 | .many is=>match d with
   | .tup xs=>if xs.length=is.length then some (Zh2 is xs S) else none
   | _=>none
noncomputable def ZaM(js:List (Option Nat))(S:Ev):Ev:=js.map fun o=>o.bind fun j=>(S[j]?).join
inductive Fl where
 | nx|bk|ct|rt (d:D)
noncomputable def Z0(src:Option (Nat×List D))(g:Tg)(body:Ev->Hd->R (Fl×Ev)):List D->Ev->Hd->R (Fl×Ev)
 | [],S,h=>if Wk.stays src h then .ok (.nx,S) h else .bad
 | d::ds,S,h=>if Wk.stays src h then match Zcm g d S with
     | none=>.bad
     | some ρ1=>(body ρ1 h).bind fun p h2=>match p with
       | (.nx,ρ2)=>Z0 src g body ds ρ2 h2
       | (.ct,ρ2)=>Z0 src g body ds ρ2 h2
       | (.bk,ρ2)=>.ok (.nx,ρ2) h2
       | (.rt d,ρ2)=>.ok (.rt d,ρ2) h2
   else .bad
noncomputable def ZQ(test:Ev->Hd->R Bool)(body:Ev->Hd->R (Fl×Ev)):Nat->Ev->Hd->R (Fl×Ev)
 | 0,_,_=>.bad
 | n+1,S,h=>(test S h).bind fun b h1=>if b then (body S h1).bind fun p h2=>match p with
     | (.nx,ρ2)=>ZQ test body n ρ2 h2
     | (.ct,ρ2)=>ZQ test body n ρ2 h2
     | (.bk,ρ2)=>.ok (.nx,ρ2) h2
     | (.rt d,ρ2)=>.ok (.rt d,ρ2) h2
   else .ok (.nx,S) h1
noncomputable def R.plain{α:Type}:R α->R α
 | .exc _ _=>.bad
 | r=>r
noncomputable def Zx(src:Option (Nat×List D))(g:Tg)(test:Ev->Hd->R Bool)(elt:Ev->Hd->R D):List D->Ev->List D->Hd->R (List D)
 | [],_,acc,h=>if Wk.stays src h then .ok acc h else .bad
 | d::ds,S,acc,h=>if Wk.stays src h/\acc.length<sizeLine then match Zcm g d S with
     | none=>.bad
     | some ρ1=>(test ρ1 h).plain.bind fun b h1=>if b then (elt ρ1 h1).plain.bind fun x h2=>Zx src g test elt ds S (acc++[x]) h2 else Zx src g test elt ds S acc h1
   else .bad
noncomputable def mnm (C m:Str):Str:=C++(O "." ++ m)
noncomputable def Zaa(d:D)(h:Hd):Option (Str×List (Str×D)):=match d with
 | .ref i=>match h[i]? with
   | some (.ins C fs)=>some (C,fs)
   | _=>none
 | _=>none
noncomputable def ZgB(Cs:List Str)(f:Str)(x:D)(h:Hd):R D:=match Zaa x h with
 | some (C,fs)=>if C∈Cs then R.ofO (fs.lookup f) h else .bad
 | none=>.bad
noncomputable def Zj3(f:Str)(v:D):List (Str×D)->List (Str×D)
 | []=>[(f,v)]
 | (g,x)::r=>if g=f then (g,v)::r else (g,x)::Zj3 f v r
noncomputable def Zgi(Cs:List Str)(f:Str)(x d:D)(h:Hd):R D:=match x with
 | .ref i=>match h[i]? with
   | some (.ins C fs)=>if C∈Cs/\fs.length<1000 then .ok .non (h.set i (.ins C (Zj3 f d fs))) else .bad
   | _=>.bad
 | _=>.bad
noncomputable def Zlz (Cf:Str->List D->Hd->R D) (C:Str) (xs:List D) (h:Hd):R D:=(Cf (mnm C (O "__init__")) (.ref h.length::xs) (h++[.ins C []])).bind fun d h2=>match d with
 | .non=>.ok (.ref h.length) h2
 | _=>.bad
structure Tb where
 G:Str->Option D
 GD:Str->Option (List (Key×D))
 C:Str->List D->Hd->R D
 L:Nat
mutual
noncomputable def ev(T:Tb):Ex->Ev->Hd->R D
 | .var i,S,h=>R.ofO (S[i]?).join h
 | .cst d,_,h=>.ok d h
 | .glo x,_,h=>R.ofO (T.G x) h
 | .bin op a b,S,h=>(ev T a S h).bind fun x h1=>(ev T b S h1).bind fun y h2=>opB op x y h2
 | .cmp op a b,S,h=>(ev T a S h).bind fun x h1=>(ev T b S h1).bind fun y h2=>opC T.GD op x y h2
 | .cmp2 op op' a b c,S,h=>(ev T a S h).bind fun x h1=>(ev T b S h1).bind fun y h2=>(opC T.GD op x y h2).bind fun r h3=>match r with
   | .bl true=>(ev T c S h3).bind fun z h4=>opC T.GD op' y z h4
   | .bl false=>.ok (.bl false) h3
   | _=>.bad
 | .neg a,S,h=>(ev T a S h).bind fun x h1=>match x with
   | .int i=>.ok (.int (-i)) h1
   | _=>.bad
 | .nt a,S,h=>(ev T a S h).bind fun x h1=>match x with
   | .bl b=>.ok (.bl (!b)) h1
   | _=>.bad
 | .ands es,S,h=>evAnd T es S h
 | .ors es,S,h=>evOr T es S h
 | .ite c a b,S,h=>(tst T c S h).bind fun c h1=>if c then ev T a S h1 else ev T b S h1
 | .tupl es,S,h=>(evs T es S h).bind fun xs h1=>if xs.length<=sizeLine then .ok (.tup xs) h1 else .bad
 | .lstl es,S,h=>(evs T es S h).bind fun xs h1=>if xs.length<=sizeLine then Zcp (.lst xs) h1 else .bad
 | .ix a i,S,h=>(ev T a S h).bind fun x h1=>(ev T i S h1).bind fun y h2=>ZaD T.GD x y h2
 | .sl a lo hi,S,h=>(ev T a S h).bind fun x h1=>(evo T lo S h1).bind fun l h2=>(evo T hi S h2).bind fun u h3=>ZfL x l u h3
 | .blt f es,S,h=>(evs T es S h).bind fun xs h1=>Z5 T.GD f xs h1
 | .call f es,S,h=>(evs T es S h).bind fun xs h1=>T.C f xs h1
 | .meth m o es,S,h=>(ev T o S h).bind fun x h1=>if Zcl x h1 then (evs T es S h1).bind fun xs h2=>Zaw m x xs h2 else .bad
 | .comp _ js it g c e,S,h=>(evi T it S h).bind fun w h1=>(Zx w.src g (tsto T c) (ev T e) w.xs (ZaM js S) [] h1).bind fun xs h2=>Zcp (.lst xs) h2
 | .sorts e,S,h=>(ev T e S h).bind fun x h1=>match (lstOf x h1).bind strsOf with
   | some ss=>if ss.length<64 then Zcp (.lst ((ZbW ss.eraseDups).map .str)) h1 else .bad
   | none=>.bad
 | .maxd e d,S,h=>(ev T e S h).bind fun x h1=>(ev T d S h1).bind fun y h2=>ZjN x y h2
 | .dictl ps,S,h=>(evs T ps S h).bind fun xs h1=>match Zcw xs with
   | some kvs=>if kvs.length<=15 then Zcp (.dic (ZbR [] kvs)) h1 else .bad
   | none=>.bad
 | .att Cs o f,S,h=>(ev T o S h).bind fun x h1=>ZgB Cs f x h1
 | .mk C es,S,h=>(evs T es S h).bind fun xs h1=>Zlz T.C C xs h1
 | .mcl C m o es,S,h=>(ev T o S h).bind fun x h1=>match Zaa x h1 with
   | some (C',fs)=>if C'=C/\fs.lookup m=none then (evs T es S h1).bind fun xs h2=>T.C (mnm C m) (x::xs) h2 else .bad
   | none=>.bad
 | .any,_,_=>.bad
 | .trev e,S,h=>(ev T e S h).bind fun x h1=>ZoT x h1
 | .lrv e,S,h=>(ev T e S h).bind fun x h1=>Zqn x h1
 | .tix o e,S,h=>(ev T o S h).bind fun x h1=>if ZrK x then (ev T e S h1).bind fun y h2=>Zr0 x y h2 else .bad
noncomputable def evs(T:Tb):Exs->Ev->Hd->R (List D)
 | .nil,_,h=>.ok [] h
 | .cons e es,S,h=>(ev T e S h).bind fun x h1=>(evs T es S h1).bind fun xs h2=>.ok (x::xs) h2
noncomputable def evAnd(T:Tb):Exs->Ev->Hd->R D
 | .nil,_,_=>.bad
 | .cons e es,S,h=>match es with
   | .nil=>ev T e S h
   | .cons _ _=>(ev T e S h).bind fun x h1=>match x with
     | .bl true=>evAnd T es S h1
     | .bl false=>.ok (.bl false) h1
     | _=>.bad
noncomputable def evOr(T:Tb):Exs->Ev->Hd->R D
 | .nil,_,_=>.bad
 | .cons e es,S,h=>match es with
   | .nil=>ev T e S h
   | .cons _ _=>(ev T e S h).bind fun x h1=>match x with
     | .bl true=>.ok (.bl true) h1
     | .bl false=>evOr T es S h1
     | _=>.bad
noncomputable def evo(T:Tb):Option Ex->Ev->Hd->R (Option Int)
 | none,_,h=>.ok none h
 | some e,S,h=>(ev T e S h).bind fun x h1=>match x with
   | .int i=>.ok (some i) h1
   | _=>.bad
noncomputable def tst(T:Tb):Tx->Ev->Hd->R Bool
 | .ex e,S,h=>(ev T e S h).bind fun x h1=>R.ofO (Zcs T.GD x h1) h1
 | .ands ts,S,h=>tstAnd T ts S h
 | .ors ts,S,h=>tstOr T ts S h
 | .nt a,S,h=>(tst T a S h).bind fun c h1=>.ok (!c) h1
noncomputable def tstAnd(T:Tb):Txs->Ev->Hd->R Bool
 | .one t,S,h=>tst T t S h
 | .cons t ts,S,h=>(tst T t S h).bind fun c h1=>if c then tstAnd T ts S h1 else .ok false h1
noncomputable def tstOr(T:Tb):Txs->Ev->Hd->R Bool
 | .one t,S,h=>tst T t S h
 | .cons t ts,S,h=>(tst T t S h).bind fun c h1=>if c then .ok true h1 else tstOr T ts S h1
noncomputable def tsto(T:Tb):Option Tx->Ev->Hd->R Bool
 | none,_,h=>.ok true h
 | some e,S,h=>tst T e S h
noncomputable def evi(T:Tb):Ix->Ev->Hd->R Wk
 | .pl e,S,h=>(ev T e S h).bind fun x h1=>R.ofO (ZY x h1) h1
 | .rng e,S,h=>(ev T e S h).bind fun x h1=>match x with
   | .int j=>if ZaE j then .ok ⟨none,Zaq 0 j.toNat⟩ h1 else .bad
   | _=>.bad
 | .rng2 a b,S,h=>(ev T a S h).bind fun x h1=>(ev T b S h1).bind fun y h2=>match x,y with
   | .int i,.int j=>if ZaE i&&ZaE j then .ok ⟨none,Zaq i (j - i).toNat⟩ h2 else .bad
   | _,_=>.bad
 | .enu e,S,h=>(ev T e S h).bind fun x h1=>R.ofO ((ZgV x h1).map fun w=>⟨w.src,ZdU w.xs⟩) h1
 | .rev e,S,h=>(ev T e S h).bind fun x h1=>R.ofO ((Zc2 x h1).map fun w=>⟨w.src,w.xs.reverse⟩) h1
 | .en1 e,S,h=>(ev T e S h).bind fun x h1=>match x with
   | .tup xs=>.ok ⟨none,Zdo xs⟩ h1
   | _=>.bad
 | .dk e,S,h=>(ev T e S h).bind fun x h1=>Zl6 x h1
end
mutual
noncomputable def xs1(T:Tb):Sx->Ev->Hd->R (Fl×Ev)
 | .ret e,S,h=>(ev T e S h).bind fun x h1=>.ok (.rt x,S) h1
 | .set g e,S,h=>(ev T e S h).bind fun x h1=>(R.ofO (Zcm g x S) h1).bind fun ρ1 h2=>.ok (.nx,ρ1) h2
 | .put o i e,S,h=>(ev T e S h).bind fun x h1=>(ev T o S h1).bind fun y h2=>(ev T i S h2).bind fun z h3=>(Zcj y z x h3).bind fun _ h4=>.ok (.nx,S) h4
 | .aug i op e,S,h=>(R.ofO (S[i]?).join h).bind fun x h1=>(ev T e S h1).bind fun y h2=>match op,x,y with
   | .Add,.int a,.int b=>.ok (.nx,S.set i (some (.int (a+b)))) h2
   | _,_,_=>.bad
 | .drp e,S,h=>(ev T e S h).bind fun _ h1=>.ok (.nx,S) h1
 | .iff c a b,S,h=>(tst T c S h).bind fun t h1=>if t then xs2 T a S h1 else xs2 T b S h1
 | .whl c b,S,h=>ZQ (tst T c) (xs2 T b) T.L S h
 | .forr g it b,S,h=>(evi T it S h).bind fun w h1=>Z0 w.src g (xs2 T b) w.xs S h1
 | .pas,S,h=>.ok (.nx,S) h
 | .brk,S,h=>.ok (.bk,S) h
 | .cnt,S,h=>.ok (.ct,S) h
 | .seta Cs o f e,S,h=>(ev T e S h).bind fun d h1=>(ev T o S h1).bind fun x h2=>(Zgi Cs f x d h2).bind fun _ h3=>.ok (.nx,S) h3
 | .auga Cs o f e,S,h=>(ev T o S h).bind fun x h1=>(ZgB Cs f x h1).bind fun v h2=>(ev T e S h2).bind fun y h3=>match v,y with
   | .int a,.int b=>if (Zaa x h1).map (·.1)=(Zaa x h3).map (·.1) then (Zgi Cs f x (.int (a+b)) h3).bind fun _ h4=>.ok (.nx,S) h4 else .bad
   | _,_=>.bad
 | .any,_,_=>.bad
noncomputable def xs2(T:Tb):Sxs->Ev->Hd->R (Fl×Ev)
 | .nil,S,h=>.ok (.nx,S) h
 | .cons s r,S,h=>(xs1 T s S h).bind fun p h1=>match p with
   | (.nx,ρ1)=>xs2 T r ρ1 h1
   | p=>.ok p h1
end
structure Fd where
 ps:List Str
 N:List Str
 body:Sxs
structure Pg where
 tb:List (Str×Fd)
 G:Str->Option D
 GD:Str->Option (List (Key×D))
 L:Nat
 ms:List (Str×Fd):=[]
noncomputable def Pg.look(P:Pg)(f:Str):Option Fd:=match P.tb.lookup f with
 | some fd=>some fd
 | none=>P.ms.lookup f
noncomputable def Zk(N:List Str)(ds:List D):Ev:=ds.map some++List.replicate (N.length - ds.length) none
noncomputable def Zn:R (Fl×Ev)->R D
 | .ok (.rt d,_) h=>.ok d h
 | .ok (.nx,_) h=>.ok .non h
 | _=>.bad
noncomputable def run(P:Pg):Nat->Str->List D->Hd->R D
 | 0,_,_,_=>.bad
 | n+1,f,ds,h=>match P.look f with
   | none=>.bad
   | some fd=>if ds.length=fd.ps.length then Zn (xs2 ⟨P.G,P.GD,run P n,P.L⟩ fd.body (Zk fd.N ds) h) else .bad
noncomputable def Pg.tbl(P:Pg)(n:Nat):Tb:=⟨P.G,P.GD,run P n,P.L⟩
end IV
end
section
set_option tactic.hygienic false
namespace IV
open PySem PySem.Spec PyProof.Rows L2
noncomputable def FzL(K:PySem.W.Frag)(H:Hp)(a:Addr)(xs:List V):Prop :=
 (∃ o,H a=some (.frz o (.lst xs)))\/∃ (o:Obj) (its:Array Value) (n:Nat),K.lookup a=some o/\o.cls=.type "list" /\ o.dict=none/\o.data=.seq its n/\its.size<=sizeLine/\Zi xs its.toList
theorem FzL.sq{K:PySem.W.Frag}{H:Hp}{a:Addr}{xs:List V}(h:FzL K H a xs):SqL K H a xs:=h.elim (fun ⟨o,h⟩=>.inl (.inr ⟨o,h⟩)) .inr
structure Yx where
 K:PySem.W.Frag
 mg:Str->Option Value
mutual
inductive RD(Y:Yx)(H:Hp)(B:List Addr):D->V->Prop
 | non:RD Y H B .non .non
 | bl (b:Bool):RD Y H B (.bl b) (.bl b)
 | int (i:Int):RD Y H B (.int i) (.int i)
 | str (x:Str) (ok:PyData.strOk x=true):RD Y H B (.str x) (.str x)
 | tup {a:Addr}{vs:List V}{ds:List D}:SqT Y.K H a vs->RDs Y H B ds vs->RD Y H B (.tup ds) (.ref a)
 | ref {i:Nat}{a:Addr}:B[i]? = some a->RD Y H B (.ref i) (.ref a)
 | ty (n:String):RD Y H B (.ty n) (.ty n)
 | ro {a:Addr}{vs:List V}{ds:List D}:FzL Y.K H a vs->RDs Y H B ds vs->RD Y H B (.ro ds) (.ref a)
 | kd {x:Str}{a:Addr}:Y.mg x=some (.ref a)->RD Y H B (.kd x) (.ref a)
inductive RDs(Y:Yx)(H:Hp)(B:List Addr):List D->List V->Prop
 | nil:RDs Y H B [] []
 | cons {d:D}{v:V}{ds:List D}{vs:List V}:RD Y H B d v->RDs Y H B ds vs->RDs Y H B (d::ds) (v::vs)
end
inductive RKs(Y:Yx)(H:Hp)(B:List Addr){κ:Type}:List (κ×D)->List (κ×V)->Prop
 | nil:RKs Y H B [] []
 | cons {k:κ}{d:D}{v:V}{ds:List (κ×D)}{vs:List (κ×V)}:RD Y H B d v->RKs Y H B ds vs->RKs Y H B ((k,d)::ds) ((k,v)::vs)
noncomputable def RO(Y:Yx)(H:Hp)(B:List Addr)(a:Addr):DO->Prop
 | .lst ds=>∃ vs,H a=some (.lst vs)/\RDs Y H B ds vs
 | .dic kvs=>∃ kvs',H a=some (.dK kvs')/\RKs Y H B kvs kvs'
 | .ins C fs=>∃ Ca dx fs',H a=some (.ins Ca dx fs')/\Y.mg C=some (.ref Ca)/\RKs Y H B fs fs'
 | .fdic kvs=>∃ o kvs',H a=some (.frz o (.dK kvs'))/\RKs Y H B kvs kvs'
noncomputable def Zbc(kvs:List (Key×D)):Prop:=∀ p∈kvs,∀ x,p.1=.inr x->PyData.strOk x=true
noncomputable def DOk:DO->Prop
 | .dic kvs=>Zbc kvs
 | .fdic kvs=>Zbc kvs
 | _=>True
structure RH(Y:Yx)(H:Hp)(B:List Addr)(h:Hd):Prop where
 len:h.length=B.length
 nd:B.Nodup
 ob:∀ (i:Nat) (o:DO) (a:Addr),h[i]? = some o->B[i]? = some a->RO Y H B a o
 ks:∀ (i:Nat) (o:DO),h[i]? = some o->DOk o
structure Gr(H:Hp)(B:List Addr)(H':Hp)(μ':List Addr):Prop where
 pre:∀ (i:Nat) (a:Addr),B[i]? = some a->μ'[i]? = some a
 new:∀ a∈μ',a∈B\/H a=none
 keep:∀ b o,b ∉ B->H b=some o->H' b=some o
 fz:∀ b o u,H b=some (.frz o u)->H' b=some (.frz o u)
theorem Gr.refl{H:Hp}{B:List Addr}:Gr H B H B:=⟨fun _ _ h=>h,fun _ h=>.inl h,fun _ _ _ h=>h,fun _ _ _ h=>h⟩
theorem Gr.trans{H H1 H2:Hp}{B μ1 μ2:List Addr}(a:Gr H B H1 μ1)(b:Gr H1 μ1 H2 μ2):Gr H B H2 μ2:=by
 refine ⟨fun i x h=>b.pre i x (a.pre i x h),fun x hx=>?_,fun x o hx h=>?_,fun x o u h=>b.fz x o u (a.fz x o u h)⟩
 . rcases b.new x hx with h|h
   . exact a.new x h
   . by_cases hm:x∈B
     . exact .inl hm
     . cases q:H x with
       | none=>exact .inr rfl
       | some o=>rw [a.keep x o hm q] at h;cases h
 . refine b.keep x o (fun hm=>?_) (a.keep x o hx h)
   rcases a.new x hm with z|z
   . exact hx z
   . rw [h] at z;cases z
noncomputable def Mu:Option HO->Prop
 | some (.lst _)|some (.dK _)|some (.ins _ _ _)|some (.frz _ (.dK _))=>True
 | _=>False
theorem RO.mut{Y:Yx}{H:Hp}{B:List Addr}{a:Addr}{o:DO}(h:RO Y H B a o):Mu (H a):=by
 cases o with
 | lst ds=>obtain ⟨vs,e,_⟩:=h;rw [e];trivial
 | dic ds=>obtain ⟨vs,e,_⟩:=h;rw [e];trivial
 | ins C ds=>obtain ⟨_,_,_,e,_⟩:=h;rw [e];trivial
 | fdic ds=>obtain ⟨_,_,e,_⟩:=h;rw [e];trivial
theorem RH.mem{Y:Yx}{H:Hp}{B:List Addr}{h:Hd}(r:RH Y H B h){a:Addr}(ha:a∈B):∃ (i:Nat) (o:DO),B[i]? = some a/\h[i]? = some o/\RO Y H B a o:=by
 obtain ⟨i,hi⟩:=List.mem_iff_getElem?.mp ha
 have hl:i<h.length:=by
   rw [r.len]
   exact (Ob.mp hi).1
 exact ⟨i,h[i],hi,Og hl,r.ob i _ a (Og hl) hi⟩
theorem RH.mut{Y:Yx}{H:Hp}{B:List Addr}{h:Hd}(r:RH Y H B h){a:Addr}(ha:a∈B):Mu (H a):=let ⟨_,_,_,_,q⟩:=r.mem ha;q.mut
theorem Gr.rdT{Y:Yx}{H H':Hp}{B μ':List Addr}{h:Hd}(r:RH Y H B h)(g:Gr H B H' μ'){a:Addr}{xs:List V}(t:SqT Y.K H a xs):SqT Y.K H' a xs:=by
 rcases t with t|t
 . rcases t with t|⟨o,t⟩
   . exact .inl (.inl (g.keep a _ (fun hm=>by have:=r.mut hm;rw [t] at this;exact this) t))
   . exact .inl (.inr ⟨o,g.fz a _ _ t⟩)
 . exact .inr t
theorem Gr.rdF{Y:Yx}{H H':Hp}{B μ':List Addr}{h:Hd}(r:RH Y H B h)(g:Gr H B H' μ'){a:Addr}{xs:List V}(t:FzL Y.K H a xs):FzL Y.K H' a xs:=by
 rcases t with ⟨o,t⟩|t
 . exact .inl ⟨o,g.fz a _ _ t⟩
 . exact .inr t
section
variable {Y:Yx}{H H':Hp}{B μ':List Addr}{h:Hd}
mutual
theorem RD.mono(r:RH Y H B h)(g:Gr H B H' μ'):∀ {d:D}{v:V},RD Y H B d v->RD Y H' μ' d v
 | _,_,.non=>.non
 | _,_,.bl b=>.bl b
 | _,_,.int i=>.int i
 | _,_,.str x ok=>.str x ok
 | _,_,.tup t s=>.tup (g.rdT r t) (RDs.mono r g s)
 | _,_,.ref e=>.ref (g.pre _ _ e)
 | _,_,.ty n=>.ty n
 | _,_,.ro t s=>.ro (g.rdF r t) (RDs.mono r g s)
 | _,_,.kd e=>.kd e
theorem RDs.mono(r:RH Y H B h)(g:Gr H B H' μ'):∀ {d:List D}{v:List V},RDs Y H B d v->RDs Y H' μ' d v
 | _,_,.nil=>.nil
 | _,_,.cons a s=>.cons (RD.mono r g a) (RDs.mono r g s)
end
theorem RKs.mono{κ:Type}(r:RH Y H B h)(g:Gr H B H' μ'):∀ {d:List (κ×D)}{v:List (κ×V)},RKs Y H B d v->RKs Y H' μ' d v
 | _,_,.nil=>.nil
 | _,_,.cons a s=>.cons (a.mono r g) (RKs.mono r g s)
theorem RDs.length:∀ {d:List D}{v:List V},RDs Y H B d v->d.length=v.length
 | _,_,.nil=>rfl
 | _,_,.cons a s=>by rw [Os,Os,s.length]
theorem RKs.length{κ:Type}:∀ {d:List (κ×D)}{v:List (κ×V)},RKs Y H B d v->d.length=v.length
 | _,_,.nil=>rfl
 | _,_,.cons a s=>by rw [Os,Os,s.length]
theorem RDs.get:∀ {ds:List D}{vs:List V},RDs Y H B ds vs->∀ {i:Nat}{d:D},ds[i]? = some d->∃ v,vs[i]? = some v/\RD Y H B d v
 | _,_,.nil,i,d,e=>by simp at e
 | _,_,.cons a s,0,d,e=>by cases e;exact ⟨_,rfl,a⟩
 | _,_,.cons a s,i+1,d,e=>by
   obtain ⟨v,h1,h2⟩:=RDs.get s (i:=i) (d:=d) (by simpa using e)
   exact ⟨v,by simpa using h1,h2⟩
theorem RDs.append:∀ {ds es:List D}{vs ws:List V},RDs Y H B ds vs->RDs Y H B es ws->RDs Y H B (ds++es) (vs++ws)
 | _,_,_,_,.nil,s=>s
 | _,_,_,_,.cons a r,s=>.cons a (r.append s)
theorem RDs.take:∀ {ds:List D}{vs:List V} (n:Nat),RDs Y H B ds vs->RDs Y H B (ds.take n) (vs.take n)
 | _,_,0,_=>.nil
 | _,_,_+1,.nil=>.nil
 | _,_,n+1,.cons a s=>.cons a (s.take n)
theorem RDs.drop:∀ {ds:List D}{vs:List V} (n:Nat),RDs Y H B ds vs->RDs Y H B (ds.drop n) (vs.drop n)
 | _,_,0,s=>s
 | _,_,_+1,.nil=>.nil
 | _,_,n+1,.cons a s=>s.drop n
theorem RDs.reverse{ds:List D}{vs:List V}(s:RDs Y H B ds vs):RDs Y H B ds.reverse vs.reverse:=by
 have gen:∀ {ds es:List D}{vs ws:List V},RDs Y H B ds vs->RDs Y H B es ws->RDs Y H B (ds.reverseAux es) (vs.reverseAux ws):=by
   intro ds
   induction ds with
   | nil=>intro es vs ws a b;cases a;exact b
   | cons d ds ih =>
     intro es vs ws a b
     cases a with
     | cons a s =>
       have z:=ih s (RDs.cons a b)
       exact z
 exact gen s .nil
theorem RDs.dropLast{ds:List D}{vs:List V}(s:RDs Y H B ds vs):RDs Y H B ds.dropLast vs.dropLast:=by
 rw [List.dropLast_eq_take,List.dropLast_eq_take,s.length]
 exact s.take _
theorem RDs.set{d:D}{v:V}(r:RD Y H B d v):∀ {ds:List D}{vs:List V} (i:Nat),RDs Y H B ds vs->RDs Y H B (ds.set i d) (vs.set i v)
 | _,_,_,.nil=>.nil
 | _,_,0,.cons _ s=>.cons r s
 | _,_,i+1,.cons a s=>.cons a (RDs.set r i s)
theorem RDs.cut{ds:List D}{vs:List V}(s:RDs Y H B ds vs)(lo hi:Option Int):RDs Y H B (cutD ds lo hi) (ZhE vs lo hi):=by
 unfold cutD ZhE
 rw [s.length]
 exact (s.drop _).take _
theorem RDs.isEmpty{ds:List D}{vs:List V}(s:RDs Y H B ds vs):ds.isEmpty=vs.isEmpty:=by cases s<;>rfl
theorem RDs.atI{ds:List D}{vs:List V}(s:RDs Y H B ds vs){i:Int}{d:D}(e:L2.atI ds i=some d):∃ v,L2.atI vs i=some v/\RD Y H B d v:=by
 unfold L2.atI at e ⊢
 rw [s.length] at e
 cases q:ixN vs.length i with
 | none=>rw [q] at e;cases e
 | some j =>
   rw [q] at e
   exact s.get (i:=j) e
theorem RKs.val{κ:Type}[DecidableEq κ]:∀ {ds:List (κ×D)}{vs:List (κ×V)},RKs Y H B ds vs->∀ (k:κ),((ds.find? fun p=>decide (p.1=k))=none/\(vs.find? fun p=>decide (p.1=k))=none)\/∃ d v,(ds.find? fun p=>decide (p.1=k))=some (k,d)/\(vs.find? fun p=>decide (p.1=k))=some (k,v)/\RD Y H B d v
 | _,_,.nil,k=>.inl ⟨rfl,rfl⟩
 | _,_,.cons (k:=k') (d:=d) (v:=v) a s,k=>by
   by_cases e:k'=k
   . subst e
     exact .inr ⟨d,v,by simp,by simp,a⟩
   . rcases s.val k with ⟨h1,h2⟩|⟨d,v,h1,h2,h3⟩
     . exact .inl ⟨by simp [e,h1],by simp [e,h2]⟩
     . exact .inr ⟨d,v,by simp [e,h1],by simp [e,h2],h3⟩
end
theorem Zp6{α:Type}{l:List α}(hl:l.Nodup){i j:Nat}{x:α}(a:l[i]? = some x)(b:l[j]? = some x):i=j:=by
 obtain ⟨h1,e1⟩:=Ob.mp a
 obtain ⟨h2,e2⟩:=Ob.mp b
 exact (List.getElem_inj hl).mp (e1.trans e2.symm)
section
variable {Y:Yx}{H:Hp}{B:List Addr}{h:Hd}
theorem Gr.lay{p:Addr}{o:HO}(hp:H p=none):Gr H B (upd H p o) (B++[p]):=by
 refine ⟨fun i a e=>?_,fun a ha=>?_,fun b u hb e=>?_,fun b u v e=>by rw [Zc (fun z=>by rw [z,hp] at e;cases e)];exact e⟩
 . rw [Oe (Ob.mp e).1];exact e
 . rcases OD.mp ha with z|z
   . exact .inl z
   . rw [Ox.mp z];exact .inr hp
 . rw [Zc (fun z=>by rw [z,hp] at e;cases e)];exact e
theorem Gr.lay0{p:Addr}{o:HO}(hp:H p=none):Gr H B (upd H p o) B :=
 ⟨fun _ _ e=>e,fun a ha=>.inl ha,fun b u hb e=>by rw [Zc (fun z=>by rw [z,hp] at e;cases e)];exact e,fun b u v e=>by rw [Zc (fun z=>by rw [z,hp] at e;cases e)];exact e⟩
noncomputable def NF:Option HO->Prop
 | some (.frz _ _)=>False
 | _=>True
theorem Gr.write{p:Addr}{o:HO}(hp:p∈B)(nf:NF (H p)):Gr H B (upd H p o) B :=
 ⟨fun _ _ e=>e,fun a ha=>.inl ha,fun b u hb e=>by rw [Zc (show b≠p from fun z=>hb (by rw [z];exact hp))];exact e,fun b u v e=>by rw [Zc (fun z=>by rw [z] at e;rw [e] at nf;exact nf)];exact e⟩
theorem RO.mono{H':Hp}{μ':List Addr}(r:RH Y H B h)(g:Gr H B H' μ'){a:Addr}{o:DO}(q:RO Y H B a o)(e:H' a=H a):RO Y H' μ' a o:=by
 cases o with
 | lst ds=>obtain ⟨vs,z,s⟩:=q;exact ⟨vs,e.trans z,s.mono r g⟩
 | dic ds=>obtain ⟨vs,z,s⟩:=q;exact ⟨vs,e.trans z,s.mono r g⟩
 | ins C ds=>obtain ⟨a1,a2,a3,z,m,s⟩:=q;exact ⟨a1,a2,a3,e.trans z,m,s.mono r g⟩
 | fdic ds=>obtain ⟨o,vs,z,s⟩:=q;exact ⟨o,vs,e.trans z,s.mono r g⟩
theorem RH.keep{H':Hp}(r:RH Y H B h)(g:Gr H B H' B)(k:∀ a∈B,H' a=H a):RH Y H' B h :=
 ⟨r.len,r.nd,fun i o a e1 e2=>(r.ob i o a e1 e2).mono r g (k a (O1 e2)),r.ks⟩
theorem Zip{o:DO}(k:∀ (i:Nat) (o:DO),h[i]? = some o->DOk o)(dk:DOk o):∀ (i:Nat) (o':DO),(h++[o])[i]? = some o'->DOk o':=by
 intro i o' e1
 by_cases hi:i<h.length
 . rw [Oe hi] at e1
   exact k i o' e1
 . have hi':i=h.length:=by
     have:=(Ob.mp e1).1
     simp at this
     omega
   subst hi'
   rw [Om (Oq _)] at e1
   simp at e1
   subst e1
   exact dk
theorem RH.lay{p:Addr}{u:HO}{o:DO}(r:RH Y H B h)(hp:H p=none)(n:RO Y (upd H p u) (B++[p]) p o)(dk:DOk o:=by trivial):RH Y (upd H p u) (B++[p]) (h++[o]):=by
 have np:p ∉ B:=fun z=>by have:=r.mut z;rw [hp] at this;exact this
 refine ⟨by simp [r.len],?_,fun i o' a e1 e2=>?_,Zip r.ks dk⟩
 . rw [List.nodup_append]
   refine ⟨r.nd,by simp,fun a ha b hb=>?_⟩
   rw [Ox.mp hb]
   intro z
   exact np (z ▸ ha)
 . by_cases hi:i<h.length
   . rw [Oe hi] at e1
     rw [Oe (by rw [<- r.len];exact hi)] at e2
     exact (r.ob i o' a e1 e2).mono r (Gr.lay hp) (Zc fun z=>np (z ▸ O1 e2))
   . have hi':i=h.length:=by
       have:=(Ob.mp e1).1
       simp at this
       omega
     subst hi'
     rw [Om (Oq _)] at e1
     rw [Om (by rw [r.len];exact Oq _)] at e2
     simp [r.len] at e1 e2
     subst e1
     subst e2
     exact n
theorem RH.lay0{p:Addr}{u:HO}(r:RH Y H B h)(hp:H p=none):RH Y (upd H p u) B h:=by
 have np:p ∉ B:=fun z=>by have:=r.mut z;rw [hp] at this;exact this
 exact r.keep (Gr.lay0 hp) fun a ha=>Zc fun z=>np (z ▸ ha)
theorem RH.write{p:Addr}{i:Nat}{u:HO}{o:DO}(r:RH Y H B h)(hp:B[i]? = some p)(n:RO Y (upd H p u) B p o)(nf:NF (H p))(dk:DOk o:=by trivial):RH Y (upd H p u) B (h.set i o):=by
 have hm:p∈B:=O1 hp
 refine ⟨by simp [r.len],r.nd,fun j o' a e1 e2=>?_,fun j o' e1=>?_⟩
 rotate_right
 . by_cases hj:j=i
   . subst hj
     have hl:j<h.length:=by rw [r.len];exact (Ob.mp hp).1
     rw [Ol hl] at e1
     cases e1
     exact dk
   . rw [Oc (Ne.symm hj)] at e1
     exact r.ks j o' e1
 by_cases hj:j=i
 . subst hj
   rw [hp] at e2
   cases e2
   have hl:j<h.length:=by rw [r.len];exact (Ob.mp hp).1
   rw [Ol hl] at e1
   cases e1
   exact n
 . rw [Oc (Ne.symm hj)] at e1
   refine (r.ob j o' a e1 e2).mono r (Gr.write hm nf) (Zc fun z=>hj ?_)
   subst z
   exact Zp6 r.nd e2 hp
end
end IV
end
section
set_option tactic.hygienic false
namespace IV
open PySem PySem.Spec PyProof.Rows L2
noncomputable def Fin{α β:Type}(Y:Yx)(rel:Hp->List Addr->α->β->Prop)(H:Hp)(B:List Addr)(r:R α)(Q:β->Hp->Prop)(E:XK):Prop:=match r with
 | .bad=>False
 | .ok a h'=>∀ b H' μ',Gr H B H' μ'->RH Y H' μ' h'->rel H' μ' a b->Q b H'
 | .exc c h'=>∀ H' μ' C,Gr H B H' μ'->RH Y H' μ' h'->Y.mg c=some (.ref C)->E (.ref C) none H'
section
variable {Y:Yx}{α β α' β':Type}{rel:Hp->List Addr->α->β->Prop}{rel':Hp->List Addr->α'->β'->Prop}{H H1:Hp}{B μ1:List Addr}{E:XK}
theorem Fin.mono{r:R α}{Q:β->Hp->Prop}(g:Gr H B H1 μ1)(f:Fin Y rel H B r Q E):Fin Y rel H1 μ1 r Q E:=by
 cases r with
 | bad=>exact f
 | ok a h=>exact fun b H' μ' g'=>f b H' μ' (g.trans g')
 | exc c h=>exact fun H' μ' C g'=>f H' μ' C (g.trans g')
theorem Fin.bind{r:R α}{k:α->Hd->R α'}{Q:β'->Hp->Prop}{Q1:β->Hp->Prop}(f:Fin Y rel' H B (r.bind k) Q E)
   (hk:∀ a h1 b H1 μ1,r=.ok a h1->Gr H B H1 μ1->RH Y H1 μ1 h1->rel H1 μ1 a b->Fin Y rel' H1 μ1 (k a h1) Q E->Q1 b H1):Fin Y rel H B r Q1 E:=by
 cases r with
 | bad=>exact f
 | ok a h=>exact fun b H' μ' g' rh rl=>hk a h b H' μ' rfl g' rh rl (Fin.mono g' f)
 | exc c h=>exact f
theorem Fin.ok{a:α}{b:β}{h:Hd}{Q:β->Hp->Prop}(f:Fin Y rel H B (.ok a h) Q E)(rh:RH Y H B h)(r:rel H B a b):Q b H:=f b H B Gr.refl rh r
theorem Fin.at{a:α}{b:β}{h:Hd}{Q:β->Hp->Prop}(f:Fin Y rel H B (.ok a h) Q E)(g:Gr H B H1 μ1)(rh:RH Y H1 μ1 h)(r:rel H1 μ1 a b):Q b H1:=f b H1 μ1 g rh r
theorem Fin.ofO{o:Option α}{h:Hd}{Q:β->Hp->Prop}(f:Fin Y rel H B (R.ofO o h) Q E):∃ a,o=some a/\Fin Y rel H B (.ok a h) Q E:=by
 cases o with
 | none=>exact f.elim
 | some a=>exact ⟨a,rfl,f⟩
theorem Fin.iff{c:Prop}[Decidable c]{r:R α}{Q:β->Hp->Prop}(f:Fin Y rel H B (if c then r else .bad) Q E):c/\Fin Y rel H B r Q E:=by
 by_cases h:c
 . rw [if_pos h] at f;exact ⟨h,f⟩
 . rw [if_neg h] at f;exact f.elim
theorem Fin.new{o:DO}{u:HO}{h:Hd}{Q:VK}{p:Addr}(f:Fin Y (RD Y) H B (Zcp o h) Q E)(rh:RH Y H B h)(hp:H p=none)(n:RO Y (upd H p u) (B++[p]) p o)(dk:DOk o:=by trivial):Q (.ref p) (upd H p u) :=
 f.at (Gr.lay hp) (rh.lay hp n dk) (.ref (by rw [rh.len];simp))
theorem Fin.tup{ds:List D}{vs:List V}{h:Hd}{Q:VK}{p:Addr}(f:Fin Y (RD Y) H B (.ok (.tup ds) h) Q E)(rh:RH Y H B h)(hp:H p=none)(r:RDs Y H B ds vs):Q (.ref p) (upd H p (.tup vs)) :=
 f.at (Gr.lay0 hp) (rh.lay0 hp) (.tup (.inl (.inl Zh)) (r.mono rh (Gr.lay0 hp)))
theorem Fin.wrote{a:α}{b:β}{o:DO}{u:HO}{h:Hd}{Q:β->Hp->Prop}{i:Nat}{p:Addr}(f:Fin Y rel H B (.ok a (h.set i o)) Q E)(rh:RH Y H B h)(hp:B[i]? = some p)(n:RO Y (upd H p u) B p o)(r:rel (upd H p u) B a b)(nf:NF (H p))(dk:DOk o:=by trivial):Q b (upd H p u) :=
 f.at (Gr.write (O1 hp) nf) (rh.write hp n nf dk) r
end
section
variable {Y:Yx}{H:Hp}{B:List Addr}{h:Hd}
theorem RD.lst{i:Nat}{xs:List D}{v:V}(rh:RH Y H B h)(r:RD Y H B (.ref i) v)(e:h[i]? = some (.lst xs)):∃ a vs,v=.ref a/\B[i]? = some a/\H a=some (.lst vs)/\RDs Y H B xs vs:=by
 cases r with
 | ref q =>
   obtain ⟨vs,h1,h2⟩:=rh.ob i _ _ e q
   exact ⟨_,vs,rfl,q,h1,h2⟩
theorem RD.dic{i:Nat}{xs:List (Key×D)}{v:V}(rh:RH Y H B h)(r:RD Y H B (.ref i) v)(e:h[i]? = some (.dic xs)):∃ a vs,v=.ref a/\B[i]? = some a/\H a=some (.dK vs)/\RKs Y H B xs vs:=by
 cases r with
 | ref q =>
   obtain ⟨vs,h1,h2⟩:=rh.ob i _ _ e q
   exact ⟨_,vs,rfl,q,h1,h2⟩
theorem RD.lstOf{d:D}{xs:List D}{v:V}(rh:RH Y H B h)(r:RD Y H B d v)(e:lstOf d h=some xs):∃ a vs,v=.ref a/\SqL Y.K H a vs/\RDs Y H B xs vs:=by
 cases d with
 | ref i =>
   unfold IV.lstOf at e
   simp only at e
   split at e
   . cases e
     rename_i q
     obtain ⟨a,vs,h1,h2,h3,h4⟩:=r.lst rh q
     exact ⟨a,vs,h1,.of h3,h4⟩
   . cases e
 | ro ys =>
   cases e
   cases r with
   | ro q s=>exact ⟨_,_,rfl,q.sq,s⟩
 | _=>cases e
theorem RD.seqOf{d:D}{xs:List D}{v:V}(rh:RH Y H B h)(r:RD Y H B d v)(e:seqOf d h=some xs):∃ a vs,v=.ref a/\(SqL Y.K H a vs\/SqT Y.K H a vs)/\RDs Y H B xs vs:=by
 by_cases ht:∃ ys,d=.tup ys
 . obtain ⟨ys,rfl⟩:=ht
   cases e
   cases r with
   | tup q s=>exact ⟨_,_,rfl,.inr q,s⟩
 . have e':IV.lstOf d h=some xs:=by
     cases d with
     | tup ys=>exact absurd ⟨ys,rfl⟩ ht
     | _=>exact e
   obtain ⟨a,vs,h1,h2,h3⟩:=r.lstOf rh e'
   exact ⟨a,vs,h1,.inl h2,h3⟩
theorem RD.int_inv{i:Int}{v:V}(r:RD Y H B (.int i) v):v=.int i:=by cases r;rfl
theorem RD.str_inv{i:Str}{v:V}(r:RD Y H B (.str i) v):v=.str i/\PyData.strOk i=true:=by cases r with|str x ok=>exact ⟨rfl,ok⟩
theorem RD.tup_inv{ds:List D}{v:V}(r:RD Y H B (.tup ds) v):∃ a vs,v=.ref a/\SqT Y.K H a vs/\RDs Y H B ds vs:=by cases r with|tup q s=>exact ⟨_,_,rfl,q,s⟩
theorem Zf4{x y:Str}(hx:PyData.strOk x=true)(hy:PyData.strOk y=true):PyData.strOk (x++y)=true:=by
 show (x.cps++y.cps).all _=true
 rw [Array.all_append]
 unfold PyData.strOk at hx hy
 rw [hx,hy];rfl
theorem Zlv{x:Str}(hx:PyData.strOk x=true)(n:Nat):PyData.strOk (Zd3 x n)=true:=by
 have gen:∀ (n:Nat) (a:Array Nat),a.all (·<0x110000)=true->((List.replicate n x.cps).foldl (·++·) a).all (·<0x110000)=true:=by
   intro n
   induction n with
   | zero=>intro a h;exact h
   | succ n ih =>
     intro a h
     rw [List.replicate_succ,List.foldl_cons]
     refine ih _ ?_
     rw [Array.all_append,h]
     exact hx
 exact gen n #[] (by simp)
theorem Zid{x:Str}(hx:PyData.strOk x=true){c:Nat}(h:c∈x.cps.toList):PyData.strOk ⟨#[c]⟩=true:=by
 unfold PyData.strOk at hx ⊢
 rw [Array.all_eq_true'] at hx
 have:=hx c (by simpa using h)
 simpa using this
theorem ZnP{α:Type}{xs:List α}{i:Int}{x:α}(h:atI xs i=some x):x∈xs:=by
 unfold atI at h
 cases q:ixN xs.length i with
 | none=>rw [q] at h;cases h
 | some j =>
   rw [q] at h
   exact O1 (i:=j) h
end
section
variable {X:Cx}{Y:Yx}{E:XK}
noncomputable def rB(Y:Yx)(E:XK)(f:D->D->Hd->R D):R2:=fun x y H Q=>∃ dx dy h B,RH Y H B h/\RD Y H B dx x/\RD Y H B dy y/\Fin Y (RD Y) H B (f dx dy h) Q E
theorem Fin.int2{x y:D}{k:Int->Int->R D}{Q:VK}(f:Fin Y (RD Y) H B (int2 x y k) Q E):∃ i j,x=.int i/\y=.int j/\Fin Y (RD Y) H B (k i j) Q E:=by
 cases x with
 | int i =>
   cases y with
   | int j=>exact ⟨i,j,rfl,rfl,f⟩
   | _=>exact f.elim
 | _=>exact f.elim
theorem ZpO(hY:Y.K=X.K)(op:Operator):OpR X (binaryOp op) (rB Y E (opB op)):=by
 intro pins s Z H x y v u Q I rx ry hh
 obtain ⟨dx,dy,h,B,rh,r1,r2,f⟩:=hh
 cases op with
 | Add =>
   have f:Fin Y (RD Y) H B (ZmF dx dy h) Q E:=f
   cases dx with
   | int i =>
     cases dy with
     | int j =>
       cases r1;cases r2
       exact ZpM pins s Z H _ _ v u Q I rx ry ⟨_,_,rfl,rfl,f.ok rh (.int _)⟩
     | _=>exact f.elim
   | str i =>
     cases dy with
     | str j =>
       obtain ⟨hz,f⟩:=Fin.iff f
       cases r1 with|str _ o1 =>
       cases r2 with|str _ o2 =>
       exact Zib pins s Z H _ _ v u Q I rx ry ⟨_,_,rfl,rfl,hz,f.ok rh (.str _ (Zf4 o1 o2))⟩
     | _=>exact f.elim
   | tup xs =>
     cases dy with
     | tup ys =>
       obtain ⟨hz,f⟩:=Fin.iff f
       obtain ⟨a,vs,rfl,t1,s1⟩:=r1.tup_inv
       obtain ⟨b,ws,rfl,t2,s2⟩:=r2.tup_inv
       rw [s1.length,s2.length] at hz
       by_cases h0:vs=[]
       . subst h0
         cases s1
         exact ZnC pins s Z H _ _ v u Q I rx ry ⟨a,b,ws,rfl,rfl,hY ▸ t1,hY ▸ t2,f.ok rh (.tup t2 s2)⟩
       . refine ZnB pins s Z H _ _ v u Q I rx ry ⟨a,b,vs,ws,rfl,rfl,hY ▸ t1,hY ▸ t2,h0,hz,fun e=>?_,fun e p hp=>f.tup rh hp (s1.append s2)⟩
         subst e
         cases s2
         rw [List.append_nil] at f
         exact f.ok rh (.tup t1 s1)
     | _=>exact f.elim
   | ref i =>
     cases dy with
     | ref j =>
       unfold ZmF at f
       simp only at f
       split at f
       . rename_i e1
         split at f
         . rename_i e2
           obtain ⟨hz,f⟩:=f.iff
           obtain ⟨a,vs,rfl,_,h1,s1⟩:=r1.lst rh e1
           obtain ⟨b,ws,rfl,_,h2,s2⟩:=r2.lst rh e2
           rw [s1.length,s2.length] at hz
           exact ZpL pins s Z H _ _ v u Q I rx ry ⟨a,b,vs,ws,rfl,rfl,h1,h2,hz,fun p hp=>f.new rh hp ⟨_,Zh,(s1.append s2).mono rh (Gr.lay hp)⟩⟩
         . exact f.elim
       . exact f.elim
     | _=>exact f.elim
   | _=>exact f.elim
 | Sub =>
   obtain ⟨i,j,rfl,rfl,f⟩:=Fin.int2 f
   cases r1;cases r2
   exact ZpG pins s Z H _ _ v u Q I rx ry ⟨_,_,rfl,rfl,f.ok rh (.int _)⟩
 | Mult =>
   have f:Fin Y (RD Y) H B (ZrA dx dy h) Q E:=f
   cases dx with
   | str z =>
     cases dy with
     | int n =>
       obtain ⟨hz,f⟩:=Fin.iff f
       cases r1 with|str _ o1 =>
       cases r2
       exact Znz pins s Z H _ _ v u Q I rx ry ⟨_,_,rfl,rfl,hz.1,hz.2.1,hz.2.2,f.ok rh (.str _ (Zlv o1 _))⟩
     | _=>exact f.elim
   | int i =>
     obtain ⟨i,j,e1,rfl,f⟩:=Fin.int2 (show Fin Y (RD Y) H B (IV.int2 (.int i) dy fun i j=>if i.natAbs<2 ^ 2000/\j.natAbs<2 ^ 2000 then .ok (.int (i * j)) h else .bad) Q E from f)
     cases e1
     obtain ⟨hz,f⟩:=f.iff
     cases r1;cases r2
     exact Zkc pins s Z H _ _ v u Q I rx ry ⟨_,_,rfl,rfl,hz,f.ok rh (.int _)⟩
   | _=>exact f.elim
 | Mod =>
   obtain ⟨i,j,rfl,rfl,f⟩:=Fin.int2 f
   obtain ⟨hz,f⟩:=f.iff
   cases r1;cases r2
   exact ZpI pins s Z H _ _ v u Q I rx ry ⟨_,_,rfl,rfl,hz,f.ok rh (.int _)⟩
 | FloorDiv =>
   obtain ⟨i,j,rfl,rfl,f⟩:=Fin.int2 f
   obtain ⟨hz,f⟩:=f.iff
   cases r1;cases r2
   exact ZnA pins s Z H _ _ v u Q I rx ry ⟨_,_,rfl,rfl,hz,f.ok rh (.int _)⟩
 | Pow =>
   obtain ⟨i,j,rfl,rfl,f⟩:=Fin.int2 f
   obtain ⟨hz,f⟩:=f.iff
   cases r1;cases r2
   exact ZpH pins s Z H _ _ v u Q I rx ry ⟨_,_,rfl,rfl,hz,f.ok rh (.int _)⟩
 | _=>exact f.elim
end
end IV
end
section
namespace IV
open PySem PySem.Spec PyProof.Rows L2
structure Gk(X:Cx)(Y:Yx)(T:Tb):Prop where
 K:Y.K=X.K
 mg:Y.mg=X.mg
 gd:∀ x kvs,T.GD x=some kvs->∃ a kvs',X.mg x=some (.ref a)/\DkK X.prog X.w X.K a kvs'/\∀ H B,RKs Y H B kvs kvs'
 g:∀ x d,T.G x=some d->∃ v u,X.mg x=some u/\RelV v u/\∀ H B,RD Y H B d v
 bare:ZeT X.K=true
section
variable {X:Cx}{Y:Yx}{E:XK}{T:Tb}{H:Hp}{B:List Addr}{h:Hd}
theorem RD.dicOf(G:Gk X Y T)(rh:RH Y H B h){d:D}{v:V}{kvs:List (Key×D)}(r:RD Y H B d v)(e:dicOf T.GD d h=some kvs):∃ a kvs',v=.ref a/\Dk X.prog X.w X.K H a kvs'/\RKs Y H B kvs kvs':=by
 cases d with
 | ref i =>
   unfold IV.dicOf at e
   simp only at e
   split at e
   . cases e
     rename_i q
     obtain ⟨a,vs,h1,_,h3,h4⟩:=r.dic rh q
     exact ⟨a,vs,h1,.inl (.inl h3),h4⟩
   . cases e
     rename_i q
     cases r with
     | ref qm =>
       obtain ⟨o,vs,h1,h2⟩:=rh.ob i _ _ q qm
       exact ⟨_,vs,rfl,.inl (.inr ⟨o,h1⟩),h2⟩
   . cases e
 | kd x =>
   obtain ⟨a,kvs',h1,h2,h3⟩:=G.gd x kvs e
   cases r with
   | kd q =>
     rw [G.mg,h1] at q
     cases q
     exact ⟨a,kvs',rfl,.inr h2,h3 H B⟩
 | _=>cases e
theorem ZlN{d:D}{v:V}{k:Key}(r:RD Y H B d v)(e:keyOf d=some k):∀ x,k=.inr x->PyData.strOk x=true:=by
 cases d with
 | int i=>cases e;intro x z;cases z
 | str i =>
   cases e
   intro x z
   cases z
   cases r with
   | str _ ok=>exact ok
 | _=>cases e
theorem Zfl{kvs:List (Key×D)}{k:Key}{c:D}(h:Zbc kvs)(hk:∀ x,k=.inr x->PyData.strOk x=true):Zbc (putD kvs k c):=by
 intro p hp x e
 unfold putD at hp
 split at hp
 . obtain ⟨q,hq,rfl⟩:=List.mem_map.mp hp
   refine h q hq x ?_
   split at e<;>exact e
 . rcases OD.mp hp with hp|hp
   . exact h p hp x e
   . rw [Ox.mp hp] at e
     exact hk x e
theorem ZcV{d:D}{v:V}{k:Key}(r:RD Y H B d v)(e:keyOf d=some k):v=kV k:=by
 cases d with
 | int i=>cases e;cases r;rfl
 | str i=>cases e;cases r;rfl
 | _=>cases e
theorem RKs.valV_rel{ds:List (Key×D)}{vs:List (Key×V)}(s:RKs Y H B ds vs)(k:Key):(Zab ds k=none/\Zdw vs k=none)\/∃ d v,Zab ds k=some d/\Zdw vs k=some v/\RD Y H B d v:=by
 unfold Zab Zdw
 rcases s.val k with ⟨h1,h2⟩|⟨d,v,h1,h2,h3⟩
 . exact .inl ⟨by rw [h1];rfl,by rw [h2];rfl⟩
 . exact .inr ⟨d,v,by rw [h1];rfl,by rw [h2];rfl,h3⟩
theorem RKs.any_rel(k:Key):∀ {ds:List (Key×D)}{vs:List (Key×V)},RKs Y H B ds vs->(ds.any fun kv=>decide (kv.1=k))=(vs.any fun kv=>decide (kv.1=k))
 | _,_,.nil=>rfl
 | _,_,.cons a s=>by rw [List.any_cons,List.any_cons,s.any_rel k]
theorem RKs.map_rel(k:Key){d:D}{v:V}(r:RD Y H B d v):∀ {ds:List (Key×D)}{vs:List (Key×V)},RKs Y H B ds vs->RKs Y H B (ds.map fun kv=>if kv.1=k then (kv.1,d) else kv) (vs.map fun kv=>if kv.1=k then (kv.1,v) else kv)
 | _,_,.nil=>.nil
 | _,_,.cons (k:=k') a s=>by
   rw [Op,Op]
   by_cases e:k'=k
   . rw [if_pos e,if_pos e];exact .cons r (s.map_rel k r)
   . rw [if_neg e,if_neg e];exact .cons a (s.map_rel k r)
theorem RKs.append{κ:Type}:∀ {ds es:List (κ×D)}{vs ws:List (κ×V)},RKs Y H B ds vs->RKs Y H B es ws->RKs Y H B (ds++es) (vs++ws)
 | _,_,_,_,.nil,s=>s
 | _,_,_,_,.cons a r,s=>.cons a (r.append s)
theorem RKs.put{ds:List (Key×D)}{vs:List (Key×V)}(s:RKs Y H B ds vs)(k:Key){d:D}{v:V}(r:RD Y H B d v):RKs Y H B (putD ds k d) (putK vs k v):=by
 unfold putD putK
 rw [s.any_rel k]
 split
 . exact s.map_rel k r
 . exact s.append (.cons r .nil)
mutual
theorem RD.dp(rh:RH Y H B h)(rd:Nat->Option PyData)(hr:∀ i p a,rd i=some p->B[i]? = some a->Dp Y.K H (.ref a) p):∀ {d:D}{v:V}{p:PyData},RD Y H B d v->D.py rd d=some p->Dp Y.K H v p
 | _,_,_,.non,e=>by cases e;exact .non
 | _,_,_,.bl b,e=>by cases e;exact .bl b
 | _,_,_,.int i,e=>by cases e;exact .int i
 | _,_,_,.str x ok,e=>by cases e;exact .str x ok
 | _,_,_,.tup t s,e=>by
   rw [D.py] at e
   obtain ⟨ps,e1,rfl⟩:=Oo.mp e
   exact .tup t (RDs.dps rh rd hr s e1)
 | _,_,_,.ref q,e=>hr _ _ _ e q
 | _,_,_,.ty n,e=>by cases e
 | _,_,_,.ro t s,e=>by
   rw [D.py] at e
   obtain ⟨ps,e1,rfl⟩:=Oo.mp e
   exact .lst t.sq (RDs.dps rh rd hr s e1)
 | _,_,_,.kd q,e=>by cases e
theorem RDs.dps(rh:RH Y H B h)(rd:Nat->Option PyData)(hr:∀ i p a,rd i=some p->B[i]? = some a->Dp Y.K H (.ref a) p):∀ {d:List D}{v:List V}{p:List PyData},RDs Y H B d v->D.pys rd d=some p->Dps Y.K H v p
 | _,_,_,.nil,e=>by cases e;exact .nil
 | _,_,_,.cons a s,e=>by
   rw [D.pys] at e
   obtain ⟨q,e1,e2⟩:=Option.bind_eq_some_iff.mp e
   obtain ⟨qs,e3,rfl⟩:=Oo.mp e2
   exact .cons (RD.dp rh rd hr a e1) (RDs.dps rh rd hr s e3)
end
theorem Zjf(rh:RH Y H B h):∀ (n i:Nat) (p:PyData) (a:Addr),ZbZ h n i=some p->B[i]? = some a->Dp Y.K H (.ref a) p
 | 0,i,p,a,e,q=>by cases e
 | n+1,i,p,a,e,q=>by
   rw [ZbZ] at e
   split at e
   . rename_i xs he
     obtain ⟨ps,e1,rfl⟩:=Oo.mp e
     obtain ⟨vs,z,s⟩:=rh.ob i _ a he q
     exact .lst (.of z) (RDs.dps rh _ (Zjf rh n) s e1)
   . cases e
theorem ZeJ(rh:RH Y H B h){d:D}{v:V}{p:PyData}(r:RD Y H B d v)(e:ZfK h d=some p):Dp Y.K H v p:=r.dp rh _ (Zjf rh 4) e
theorem Zfv{d:D}{v:V}(r:RD Y H B d v)(f:d.flat=true):Zdh v=true:=by cases r<;>first|rfl|cases f
theorem Zec:∀ {ds:List D}{vs:List V},RDs Y H B ds vs->ds.all D.flat=true->vs.all Zdh=true
 | _,_,.nil,_=>rfl
 | _,_,.cons a s,f=>by
   rw [List.all_cons,Oa] at f
   rw [List.all_cons,Zfv a f.1,Zec s f.2];rfl
theorem Zqg{d e:D}{v w:V}(r:RD Y H B d v)(q:RD Y H B e w)(f:d.flat=true)(g:e.flat=true):eqF d e=eqV v w:=by
 cases r<;>cases q<;>first|rfl|exact absurd f (by simp [D.flat])|exact absurd g (by simp [D.flat])
theorem any_rel{e:D}{w:V}(q:RD Y H B e w)(g:e.flat=true):∀ {ds:List D}{vs:List V},RDs Y H B ds vs->ds.all D.flat=true->(ds.any fun z=>eqF z e)=vs.any fun y=>eqV y w
 | _,_,.nil,_=>rfl
 | _,_,.cons a s,f=>by
   rw [List.all_cons,Oa] at f
   rw [List.any_cons,List.any_cons,Zqg a q f.1 g,any_rel q g s f.2]
theorem ZnJ{k:Nat}(hr:Room k X.A)(h60:60<=k)(hY:Y.K=X.K):OpR X (compareOp .Eq) (rB Y E (Zbi false)):=by
 intro pins s Z H x y v u Q I rx ry hh
 obtain ⟨dx,dy,h,B,rh,r1,r2,f⟩:=hh
 unfold Zbi at f
 split at f
 . rename_i e1 e2
   obtain ⟨hz,f⟩:=f.iff
   have d1:=ZeJ rh r1 e1
   have d2:=ZeJ rh r2 e2
   rw [hY] at d1 d2
   obtain ⟨as,q1⟩:=I.reads d1 rx
   obtain ⟨bs,q2⟩:=I.reads d2 ry
   have:=hr.un
   exact SeqAt.compareEq_reads q1 q2 d1.lay d2.lay (by omega) ⟨.bl _,H,I,rfl,f.ok rh (.bl _)⟩
 . exact f.elim
theorem ZnE{k:Nat}(hr:Room k X.A)(h60:60<=k)(hY:Y.K=X.K):OpR X (compareOp .NotEq) (rB Y E (Zbi true)):=by
 intro pins s Z H x y v u Q I rx ry hh
 obtain ⟨dx,dy,h,B,rh,r1,r2,f⟩:=hh
 unfold Zbi at f
 split at f
 . rename_i e1 e2
   obtain ⟨hz,f⟩:=f.iff
   have d1:=ZeJ rh r1 e1
   have d2:=ZeJ rh r2 e2
   rw [hY] at d1 d2
   obtain ⟨as,q1⟩:=I.reads d1 rx
   obtain ⟨bs,q2⟩:=I.reads d2 ry
   have:=hr.un
   exact SeqAt.compareNe_reads q1 q2 d1.lay d2.lay (by omega) ⟨.bl _,H,I,rfl,f.ok rh (.bl _)⟩
 . exact f.elim
theorem ZeL{op:CmpOp}{g:Int->Int->Bool}(ho:OpR X (compareOp op) (rI0 fun i j=>.bl (g i j))):OpR X (compareOp op) (rB Y E (Zgl g)):=by
 intro pins s Z H x y v u Q I rx ry hh
 obtain ⟨dx,dy,h,B,rh,r1,r2,f⟩:=hh
 unfold Zgl at f
 split at f
 . cases r1;cases r2
   exact ho pins s Z H _ _ v u Q I rx ry ⟨_,_,rfl,rfl,f.ok rh (.bl _)⟩
 . exact f.elim
theorem Zjq{d:D}{v:V}(r:RD Y H B d v):decide (d=.non)=decide (v=.non):=by
 cases r<;>simp
theorem ZnH:OpR X (compareOp .Is) (rB Y E (opN false)):=by
 intro pins s Z H x y v u Q I rx ry hh
 obtain ⟨dx,dy,h,B,rh,r1,r2,f⟩:=hh
 unfold opN at f
 split at f
 . cases r2
   have z:=Zjq r1
   simp only [OG,if_false,z] at f
   exact ZpJ pins s Z H _ _ v u Q I rx ry ⟨rfl,f.ok rh (.bl _)⟩
 . exact f.elim
theorem Zke:OpR X (compareOp .IsNot) (rB Y E (opN true)):=by
 intro pins s Z H x y v u Q I rx ry hh
 obtain ⟨dx,dy,h,B,rh,r1,r2,f⟩:=hh
 unfold opN at f
 split at f
 . cases r2
   have z:=Zjq r1
   simp only [if_true,z] at f
   exact Zny pins s Z H _ _ v u Q I rx ry ⟨rfl,f.ok rh (.bl _)⟩
 . exact f.elim
theorem ZnI(G:Gk X Y T):OpR X (compareOp .In) (rB Y E (ZbE T.GD false)):=by
 intro pins s Z H x y v u Q I rx ry hh
 obtain ⟨dx,dy,h,B,rh,r1,r2,f⟩:=hh
 unfold ZbE at f
 split at f
 . rename_i xs e1
   obtain ⟨hz,f⟩:=f.iff
   rw [Oa] at hz
   obtain ⟨a,vs,rfl,hs,rs⟩:=r2.seqOf rh e1
   have q:=f.ok rh (.bl _)
   simp only [OG,if_false,any_rel r1 hz.1 rs hz.2] at q
   exact Zkd pins s Z H _ _ v u Q I rx ry ⟨a,vs,rfl,G.K ▸ hs,Zfv r1 hz.1,Zec rs hz.2,q⟩
 . split at f
   . rename_i kvs k e1 e2
     obtain ⟨a,kvs',rfl,hd,rk⟩:=r2.dicOf G rh e1
     have q:=f.ok rh (.bl _)
     have z:(Zab kvs k).isSome=(Zdw kvs' k).isSome:=by
       rcases rk.valV_rel k with ⟨h1,h2⟩|⟨d,v,h1,h2,_⟩<;>rw [h1,h2]<;>rfl
     rw [z] at q
     exact ZpK pins s Z H _ _ v u Q I rx ry ⟨a,kvs',k,rfl,ZcV r1 e2,hd,q⟩
   . exact f.elim
theorem Zic(G:Gk X Y T):OpR X (compareOp .NotIn) (rB Y E (ZbE T.GD true)):=by
 intro pins s Z H x y v u Q I rx ry hh
 obtain ⟨dx,dy,h,B,rh,r1,r2,f⟩:=hh
 unfold ZbE at f
 split at f
 . rename_i xs e1
   obtain ⟨hz,f⟩:=f.iff
   rw [Oa] at hz
   obtain ⟨a,vs,rfl,hs,rs⟩:=r2.seqOf rh e1
   have q:=f.ok rh (.bl _)
   simp only [if_true,any_rel r1 hz.1 rs hz.2] at q
   exact Zgk pins s Z H _ _ v u Q I rx ry ⟨a,vs,rfl,G.K ▸ hs,Zfv r1 hz.1,Zec rs hz.2,q⟩
 . split at f
   . rename_i kvs k e1 e2
     obtain ⟨a,kvs',rfl,hd,rk⟩:=r2.dicOf G rh e1
     have q:=f.ok rh (.bl _)
     have z:(Zab kvs k).isSome=(Zdw kvs' k).isSome:=by
       rcases rk.valV_rel k with ⟨h1,h2⟩|⟨d,v,h1,h2,_⟩<;>rw [h1,h2]<;>rfl
     rw [z] at q
     exact Zkb pins s Z H _ _ v u Q I rx ry ⟨a,kvs',k,rfl,ZcV r1 e2,hd,q⟩
   . exact f.elim
theorem Zls{k:Nat}(hr:Room k X.A)(h60:60<=k)(G:Gk X Y T)(op:CmpOp):OpR X (compareOp op) (rB Y E (opC T.GD op)):=by
 cases op with
 | Eq=>exact ZnJ hr h60 G.K
 | NotEq=>exact ZnE hr h60 G.K
 | Lt=>exact ZeL Zrn
 | LtE=>exact ZeL Zro
 | Gt=>exact ZeL Zrp
 | GtE=>exact ZeL Zrq
 | Is=>exact ZnH
 | IsNot=>exact Zke
 | In=>exact ZnI G
 | NotIn=>exact Zic G
theorem ZnF(G:Gk X Y T):IxR X (rB Y E (ZaD T.GD)):=by
 intro value slice pins s Z H x y v u Q I rx ry hh hs
 obtain ⟨dx,dy,h,B,rh,r1,r2,f⟩:=hh
 have dict:∀ (kvs:List (Key×D)) (k:Key),dicOf T.GD dx h=some kvs->y=kV k->Fin Y (RD Y) H B (R.ofO (Zab kvs k) h) Q E->wpAny (model X.prog X.w) X.A (subscriptTail value slice v u) (EP X pins Z Q) X.xe s:=by
   intro kvs k e1 ey f
   obtain ⟨d,e2,f⟩:=f.ofO
   obtain ⟨a,kvs',rfl,hd,rk⟩:=r1.dicOf G rh e1
   rcases rk.valV_rel k with ⟨h1,h2⟩|⟨d',w,h1,h2,h3⟩
   . rw [h1] at e2;cases e2
   . rw [h1] at e2;cases e2
     exact ZnZ value slice pins s Z H _ _ v u Q I rx ry ⟨a,kvs',k,w,rfl,ey,hd,h2,f.ok rh h3⟩ hs
 unfold ZaD at f
 split at f
 . rename_i i
   cases r2
   split at f
   . rename_i xs e1
     obtain ⟨d,e2,f⟩:=f.ofO
     obtain ⟨a,vs,rfl,hq,rs⟩:=r1.seqOf rh e1
     obtain ⟨w,e3,rw'⟩:=rs.atI e2
     rcases hq with hq|hq
     . exact ZnY value slice pins s Z H _ _ v u Q I rx ry ⟨a,vs,i,w,rfl,rfl,G.K ▸ hq,e3,f.ok rh rw'⟩ hs
     . exact Zp4 value slice pins s Z H _ _ v u Q I rx ry ⟨a,vs,i,w,rfl,rfl,G.K ▸ hq,e3,f.ok rh rw'⟩ hs
   . split at f
     . obtain ⟨hz,f⟩:=f.iff
       obtain ⟨d,e2,f⟩:=f.ofO
       obtain ⟨c,e3,rfl⟩:=Oo.mp e2
       obtain ⟨rfl,ok⟩:=r1.str_inv
       exact Zp5 value slice pins s Z H _ _ v u Q I rx ry ⟨_,i,c,rfl,rfl,hz,e3,f.ok rh (.str _ (Zid ok (ZnP e3)))⟩ hs
     . split at f
       . rename_i kvs e1
         exact dict kvs (.inl i) e1 rfl f
       . exact f.elim
 . rename_i z
   obtain ⟨rfl,ok⟩:=r2.str_inv
   split at f
   . rename_i kvs e1
     exact dict kvs (.inr z) e1 rfl f
   . exact f.elim
 . exact f.elim
theorem Zlu{x y:Str}(hx:PyData.strOk x=true)(h:∀ c∈y.cps.toList,c∈x.cps.toList):PyData.strOk y=true:=by
 unfold PyData.strOk at hx ⊢
 rw [Array.all_eq_true'] at hx ⊢
 intro c hc
 exact hx c (by simpa using h c (by simpa using hc))
theorem ZmS{d:D}{v:V}{b:Bool}(hY:Y.K=X.K)(rh:RH Y H B h)(r:RD Y H B d v)(e:Zcs T.GD d h=some b):Zqq X.K v H b:=by
 cases d with
 | non=>cases r;cases e;rfl
 | bl c=>cases r;cases e;rfl
 | int c=>cases r;cases e;rfl
 | str c =>
   cases r
   unfold Zcs at e
   simp only at e
   split at e
   . rename_i hz
     cases e
     refine ⟨hz,?_⟩
     by_cases h0:c.length=0
     . simp [h0]
     . have h1:((c.length:Int) != 0)=true:=by
         simp
         omega
       rw [h1]
       simp [h0]
   . cases e
 | tup xs =>
   obtain ⟨a,vs,rfl,t,s⟩:=r.tup_inv
   cases e
   exact .inr (.inl ⟨vs,hY ▸ t,by rw [s.isEmpty]⟩)
 | ref i =>
   unfold Zcs at e
   simp only at e
   split at e
   . rename_i q
     cases e
     obtain ⟨a,vs,rfl,_,h3,s⟩:=r.lst rh q
     exact .inl ⟨vs,.of h3,by rw [s.isEmpty]⟩
   . rename_i q
     cases e
     obtain ⟨a,vs,rfl,_,h3,s⟩:=r.dic rh q
     exact .inr (.inr ⟨vs,h3,by cases s<;>rfl⟩)
   . cases e
 | ro xs =>
   cases e
   cases r with
   | ro q s=>exact .inl ⟨_,hY ▸ q.sq,by rw [s.isEmpty]⟩
 | ty n=>cases e
 | kd x=>cases e
end
end IV
end
section
namespace IV
open PySem PySem.Spec PyProof.Rows L2
section
variable {X:Cx}{Y:Yx}{E:XK}{T:Tb}{H:Hp}{B:List Addr}{h:Hd}
noncomputable def rS(Y:Yx)(E:XK):V->Option Int->Option Int->Hp->VK->Prop:=fun x l u H Q=>∃ d h B,RH Y H B h/\RD Y H B d x/\Fin Y (RD Y) H B (ZfL d l u h) Q E
theorem Ze0(y:Str)(l u:Option Int):∀ c∈(StrLaws.sliceText y l u).cps.toList,c∈y.cps.toList:=by
 intro c hc
 unfold StrLaws.sliceText at hc
 split at hc
 . exact hc
 . simp only [List.mem_filterMap] at hc
   obtain ⟨i,_,hi⟩:=hc
   have:=Array.mem_of_getElem? hi
   simpa using this
theorem Zkt{xs:List D}{lo hi:Option Int}(h:HT.sIx xs.length 0 lo=0/\HT.sIx xs.length xs.length hi=xs.length):cutD xs lo hi=xs:=by
 unfold cutD
 rw [h.1,h.2]
 simp
theorem ZnD(hY:Y.K=X.K):SlR X (rS Y E):=by
 intro pins s Z H x v vl vu lo hi sl Q I rx hs pl pu hh
 obtain ⟨d,h,B,rh,r,f⟩:=hh
 unfold ZfL at f
 split at f
 . rename_i xs
   obtain ⟨a,vs,rfl,t,rs⟩:=r.tup_inv
   by_cases hw:HT.sIx vs.length 0 lo=0/\HT.sIx vs.length vs.length hi=vs.length
   . rw [Zkt (by rw [rs.length];exact hw)] at f
     exact ZkO pins s Z H _ v vl vu lo hi sl Q I rx hs pl pu ⟨a,vs,rfl,hY ▸ t,hw,f.ok rh (.tup t rs)⟩
   . exact Zpb pins s Z H _ v vl vu lo hi sl Q I rx hs pl pu ⟨a,vs,rfl,hY ▸ t,hw,fun p hp=>f.tup rh hp (rs.cut lo hi)⟩
 . obtain ⟨hz,f⟩:=f.iff
   obtain ⟨rfl,ok⟩:=r.str_inv
   exact Zpc pins s Z H _ v vl vu lo hi sl Q I rx hs pl pu ⟨_,rfl,hz,f.ok rh (.str _ (Zlu ok (Ze0 _ _ _)))⟩
 . split at f
   . rename_i xs e1
     obtain ⟨a,vs,rfl,hl,rs⟩:=r.lstOf rh e1
     exact ZmY pins s Z H _ v vl vu lo hi sl Q I rx hs pl pu ⟨a,vs,rfl,hY ▸ hl,fun p hp=>f.new rh hp ⟨_,Zh,(rs.cut lo hi).mono rh (Gr.lay hp)⟩⟩
   . exact f.elim
noncomputable def rF(Y:Yx)(E:XK)(f:List D->Hd->R D):List V->Hp->VK->Prop:=fun xs H Q=>∃ ds h B,RH Y H B h/\RDs Y H B ds xs/\Fin Y (RD Y) H B (f ds h) Q E
theorem RDs.one{d:D}{xs:List V}(r:RDs Y H B [d] xs):∃ x,xs=[x]/\RD Y H B d x:=by
 cases r with
 | cons a s=>cases s;exact ⟨_,rfl,a⟩
theorem RDs.two{d e:D}{xs:List V}(r:RDs Y H B [d,e] xs):∃ x y,xs=[x,y]/\RD Y H B d x/\RD Y H B e y:=by
 cases r with
 | cons a s=>obtain ⟨y,rfl,b⟩:=s.one;exact ⟨_,_,rfl,a,b⟩
theorem Zok (hY:Y.K=X.K):Zca X (.builtin "len") (rF Y E ZfI):=by
 intro pins s Z H xs us Q I r hh
 obtain ⟨ds,h,B,rh,rs,f⟩:=hh
 unfold ZfI at f
 split at f
 . obtain ⟨hz,f⟩:=f.iff
   obtain ⟨x,rfl,rd⟩:=rs.one
   obtain ⟨rfl,ok⟩:=rd.str_inv
   exact ZgM pins s Z H _ us Q I r ⟨_,rfl,hz,f.ok rh (.int _)⟩
 . obtain ⟨e,e1,f⟩:=f.ofO
   obtain ⟨zs,e2,rfl⟩:=Oo.mp e1
   obtain ⟨x,rfl,rd⟩:=rs.one
   obtain ⟨a,vs,rfl,hq,rv⟩:=rd.seqOf rh e2
   refine ZgN pins s Z H _ us Q I r ⟨a,vs,rfl,hY ▸ hq,?_⟩
   rw [<- rv.length]
   exact f.ok rh (.int _)
 . exact f.elim
theorem ZnV{K:PySem.W.Frag}{t T:String}{b:Bool}(e:Zeb t T=some b):PySem.W.kitOne K (.type t) (.type T)=some b:=by
 have all:(["int", "str", "bool", "tuple", "list"].all fun T=>["int", "str", "bool", "tuple", "list", "NoneType"].all fun t=>decide (PySem.W.kitOne [] (.type t) (.type T)=some (t==T || (t == "bool" && T == "int"))))=true:=by decide +kernel
 unfold Zeb at e
 split at e
 . rename_i hm
   cases e
   rw [OC] at all
   have h1:=all T hm.1
   rw [OC] at h1
   exact Zkk (of_decide_eq_true (h1 t hm.2))
 . cases e
theorem ZqK{d:D}{v:V}{t:String}(hY:Y.K=X.K)(rh:RH Y H B h)(r:RD Y H B d v)(e:ZkF d h=some t):TyN X.K v H t:=by
 have lst:(IV.lstOf d h).map (fun _ => "list")=some t->TyN X.K v H t:=fun e=>by
   obtain ⟨xs,e1,rfl⟩:=Oo.mp e
   obtain ⟨a,vs,rfl,hl,rs⟩:=r.lstOf rh e1
   exact .inl ⟨rfl,vs,hY ▸ hl⟩
 cases d with
 | int i=>cases e;cases r;rfl
 | str i=>cases e;cases r;rfl
 | bl i=>cases e;cases r;rfl
 | non=>cases e;cases r;rfl
 | tup xs =>
   cases e
   obtain ⟨a,vs,rfl,t,rs⟩:=r.tup_inv
   exact .inr ⟨rfl,vs,hY ▸ t⟩
 | ref i=>exact lst e
 | ro xs=>exact lst e
 | ty n=>exact lst e
 | kd x=>exact lst e
theorem Zol (hY:Y.K=X.K):Zca X (.builtin "isinstance") (rF Y E Zkz):=by
 intro pins s Z H xs us Q I r hh
 obtain ⟨ds,h,B,rh,rs,f⟩:=hh
 unfold Zkz at f
 split at f
 . obtain ⟨e,e1,f⟩:=f.ofO
   obtain ⟨t,e2,e3⟩:=Option.bind_eq_some_iff.mp e1
   obtain ⟨b,e4,rfl⟩:=Oo.mp e3
   obtain ⟨x,y,rfl,r1,r2⟩:=rs.two
   cases r2
   exact Zmq pins s Z H _ us Q I r ⟨x,t,_,b,rfl,ZqK hY rh r1 e2,ZnV e4,f.ok rh (.bl _)⟩
 . exact f.elim
theorem Zoh (hY:Y.K=X.K):Zca X (.type "tuple") (rF Y E ZhR):=by
 intro pins s Z H xs us Q I r hh
 obtain ⟨ds,h,B,rh,rs,f⟩:=hh
 unfold ZhR at f
 split at f
 . obtain ⟨x,rfl,r1⟩:=rs.one
   obtain ⟨a,vs,rfl,t,rv⟩:=r1.tup_inv
   exact Zdj pins s Z H _ us Q I r ⟨a,vs,rfl,.inr ⟨hY ▸ t,f.ok rh (.tup t rv)⟩⟩
 . obtain ⟨e,e1,f⟩:=f.ofO
   obtain ⟨zs,e2,rfl⟩:=Oo.mp e1
   obtain ⟨x,rfl,r1⟩:=rs.one
   obtain ⟨a,vs,rfl,hl,rv⟩:=r1.lstOf rh e2
   exact Zdj pins s Z H _ us Q I r ⟨a,vs,rfl,.inl ⟨hY ▸ hl,fun p hp=>f.tup rh hp rv⟩⟩
 . exact f.elim
theorem Zfq:∀ {ds:List D}{vs:List V}{ns:List Int},RDs Y H B ds vs->intsOf ds=some ns->vs=ns.map V.int
 | _,_,_,.nil,e=>by cases e;rfl
 | _,_,_,.cons (d:=d) a s,e=>by
   cases d with
   | int i =>
     rw [intsOf] at e
     obtain ⟨z,e1,rfl⟩:=Oo.mp e
     cases a
     rw [Zfq s e1];rfl
   | _=>cases e
theorem Zoi (hc:X.A.handled=none) (hY:Y.K=X.K):Zca X (.builtin "sum") (rF Y E ZmB):=by
 intro pins s Z H xs us Q I r hh
 obtain ⟨ds,h,B,rh,rs,f⟩:=hh
 unfold ZmB at f
 split at f
 . obtain ⟨e,e1,f⟩:=f.ofO
   obtain ⟨ns,e2,rfl⟩:=Oo.mp e1
   obtain ⟨zs,e3,e4⟩:=Option.bind_eq_some_iff.mp e2
   obtain ⟨x,rfl,r1⟩:=rs.one
   obtain ⟨a,vs,rfl,hl,rv⟩:=r1.lstOf rh e3
   rw [Zfq rv e4] at hl
   exact Zkw hc pins s Z H _ us Q I r ⟨a,ns,rfl,hY ▸ hl,f.ok rh (.int _)⟩
 . exact f.elim
noncomputable def rM(Y:Yx)(E:XK)(m:Mf):V->List V->Hp->VK->Prop:=fun x xs H Q=>∃ d ds h B,RH Y H B h/\RD Y H B d x/\RDs Y H B ds xs/\Fin Y (RD Y) H B (Zaw m d ds h) Q E
noncomputable def mid:Mf->String
 | .app => "list.append"
 | .ext => "list.extend"
 | .pop => "list.pop"
 | .rev => "list.reverse"
 | .clr => "list.clear"
theorem Zjs(hY:Y.K=X.K)(m:Mf):MtM X (mid m) (rM Y E m):=by
 intro pins s Z H x xs v us Q I rx rs hh
 obtain ⟨d,ds,h,B,rh,r1,r2,f⟩:=hh
 unfold Zaw at f
 split at f
 . split at f
   . rename_i i ys e
     obtain ⟨a,vs,rfl,hi,hl,rv⟩:=r1.lst rh e
     cases m with
     | app =>
       unfold ZcZ Zik at f
       simp only at f
       split at f
       . obtain ⟨hz,f⟩:=f.iff
         obtain ⟨y,rfl,ry⟩:=r2.one
         have g:Gr H B (upd H a (.lst (vs++[y]))) B:=Gr.write (O1 hi) (by rw [hl];trivial)
         exact Zd7 pins s Z H _ _ v us Q I rx rs ⟨a,vs,y,rfl,rfl,hl,by rw [<- rv.length];exact hz,f.wrote rh hi ⟨_,Zh,(rv.append (.cons ry .nil)).mono rh g⟩ .non (by rw [hl];trivial)⟩
       . exact f.elim
     | ext =>
       unfold ZcZ ZnS at f
       simp only at f
       split at f
       . split at f
         . rename_i zs e2
           obtain ⟨hz,f⟩:=f.iff
           obtain ⟨y,rfl,ry⟩:=r2.one
           obtain ⟨b,ws,rfl,hj,hl2,rw'⟩:=ry.lst rh e2
           have g:Gr H B (upd H a (.lst (vs++ws))) B:=Gr.write (O1 hi) (by rw [hl];trivial)
           exact Zkh pins s Z H _ _ v us Q I rx rs ⟨a,b,vs,ws,rfl,rfl,hl,hl2,by rw [<- rv.length,<- rw'.length];exact hz,f.wrote rh hi ⟨_,Zh,(rv.append rw').mono rh g⟩ .non (by rw [hl];trivial)⟩
         . exact f.elim
       . obtain ⟨hz,f⟩:=f.iff
         obtain ⟨y,rfl,ry⟩:=r2.one
         obtain ⟨b,ws,rfl,t,rw'⟩:=ry.tup_inv
         have g:Gr H B (upd H a (.lst (vs++ws))) B:=Gr.write (O1 hi) (by rw [hl];trivial)
         exact Zig pins s Z H _ _ v us Q I rx rs ⟨a,b,vs,ws,rfl,rfl,hl,hY ▸ t,by rw [<- rv.length,<- rw'.length];exact hz,f.wrote rh hi ⟨_,Zh,(rv.append rw').mono rh g⟩ .non (by rw [hl];trivial)⟩
       . exact f.elim
     | pop =>
       unfold ZcZ ZnR at f
       simp only at f
       split at f
       . split at f
         . rename_i y e2
           cases r2
           rw [rv.length] at e2
           obtain ⟨w,e3,rw'⟩:=rv.get e2
           have g:Gr H B (upd H a (.lst vs.dropLast)) B:=Gr.write (O1 hi) (by rw [hl];trivial)
           exact ZpR pins s Z H _ _ v us Q I rx rs ⟨a,vs,w,rfl,rfl,hl,e3,f.wrote rh hi ⟨_,Zh,rv.dropLast.mono rh g⟩ (rw'.mono rh g) (by rw [hl];trivial)⟩
         . exact f.elim
       . exact f.elim
     | rev =>
       unfold ZcZ ZpU at f
       simp only at f
       split at f
       . cases r2
         have g:Gr H B (upd H a (.lst vs.reverse)) B:=Gr.write (O1 hi) (by rw [hl];trivial)
         exact Zif pins s Z H _ _ v us Q I rx rs ⟨a,vs,rfl,rfl,hl,f.wrote rh hi ⟨_,Zh,rv.reverse.mono rh g⟩ .non (by rw [hl];trivial)⟩
       . exact f.elim
     | clr =>
       unfold ZcZ ZpV at f
       simp only at f
       split at f
       . cases r2
         exact ZlB pins s Z H _ _ v us Q I rx rs ⟨a,vs,rfl,rfl,hl,f.wrote rh hi ⟨_,Zh,.nil⟩ .non (by rw [hl];trivial)⟩
       . exact f.elim
   . exact f.elim
 . exact f.elim
noncomputable def rP(Y:Yx)(E:XK):ZmH:=fun o i v H Q=>∃ a b c h B,RH Y H B h/\RD Y H B a o/\RD Y H B b i/\RD Y H B c v/\Fin Y (fun _ _ (_:Unit) (_:Unit)=>True) H B (Zcj a b c h) (fun _ H'=>Q H') E
theorem Zpn:Zoo X (rP Y E):=by
 intro pins s Z H o i v ov iv u Q I ro ri rv hh
 obtain ⟨a,b,c,h,B,rh,ra,rb,rc,f⟩:=hh
 unfold Zcj at f
 split at f
 . split at f
   . rename_i j xs e
     split at f
     . split at f
       . rename_i j' e2
         obtain ⟨p,vs,rfl,hi,hl,rs⟩:=ra.lst rh e
         have hb:=rb.int_inv
         subst hb
         rw [rs.length] at e2
         have g:Gr H B (upd H p (.lst (vs.set j' v))) B:=Gr.write (O1 hi) (by rw [hl];trivial)
         exact set_list pins s Z H _ _ v ov iv u Q I ro ri rv ⟨p,vs,_,j',rfl,rfl,hl,e2,f.wrote (b:=()) rh hi ⟨_,Zh,(RDs.set rc j' rs).mono rh g⟩ trivial (by rw [hl];trivial)⟩
       . exact f.elim
     . exact f.elim
   . rename_i j kvs e
     split at f
     . rename_i k e2
       obtain ⟨hz,f⟩:=f.iff
       obtain ⟨p,vs,rfl,hi,hl,rs⟩:=ra.dic rh e
       have g:Gr H B (upd H p (.dK (putK vs k v))) B:=Gr.write (O1 hi) (by rw [hl];trivial)
       exact set_dict pins s Z H _ _ v ov iv u Q I ro ri rv ⟨p,vs,k,rfl,ZcV rb e2,hl,by rw [<- rs.length];exact hz,f.wrote (b:=()) rh hi ⟨_,Zh,(rs.put k rc).mono rh g⟩ trivial (by rw [hl];trivial) (Zfl (rh.ks _ _ e) (ZlN rb e2))⟩
     . exact f.elim
   . exact f.elim
 . exact f.elim
end
end IV
end
section
namespace IV
open PySem PySem.Spec PyProof.Rows L2
noncomputable def rW(K:PySem.W.Frag)(x:V)(H1:Hp)(R:It->Hp->Prop):Prop :=
 (∃ a,x=.ref a/\(∃ xs,SqL K H1 a xs)/\R (Itl K a) H1)\/(∃ a,x=.ref a/\(∃ xs,SqT K H1 a xs)/\R (Itt K a) H1)\/(∃ y,x=.str y/\R (Its y) H1)
theorem Zpu{X:Cx}{tg l:Expr}{tl:TE}(hl:PE X l tl):PI X tg l (fun Z H R=>tl Z H fun x H1=>rW X.K x H1 R):=by
 intro pins s Z H R I h
 refine thn (hl pins s Z H _ I h) fun v s1 ⟨x,H1,I1,r1,q1⟩=>?_
 have fp1:∀ b∈[s1.heap.objs.size],ZcP X pins H1 b:=fun b hb=>by
   have e:b=s1.heap.objs.size:=by simpa using hb
   subst e
   exact I1.fpOk (Oq _) (I1.hok.fresh (Oq _))
 rcases q1 with ⟨a,rfl,⟨xs,hq⟩,q⟩|⟨a,rfl,⟨xs,hq⟩,q⟩|⟨y,rfl,q⟩
 . cases r1
   obtain ⟨its,rv,p,hz⟩:=I1.list hq
   exact wpAny_pyIter_list p.isList ⟨s1.heap.objs.size,[s1.heap.objs.size],_,_,H1,rfl,I1.kept (t':=s1.toks) fun b o e=>Od _ e,ZjS a _,⟨_,Oj _ rfl,rfl,rfl⟩,fp1,q⟩
 . cases r1
   obtain ⟨its,rv,p,hz⟩:=I1.tuple hq
   exact wpAny_pyIter_tuple (show s1.heap.IsTuple a its.toArray from p) ⟨s1.heap.objs.size,[s1.heap.objs.size],_,_,H1,rfl,I1.kept (t':=s1.toks) fun b o e=>Od _ e,ZhX a _,⟨_,Oj _ rfl,rfl,rfl⟩,fp1,q⟩
 . obtain ⟨t,rfl⟩:=r1
   cases ha:y.cps.all (·<128)
   . exact wpAny_pyIter_wide ha ⟨s1.heap.objs.size,[s1.heap.objs.size],_,_,H1,rfl,I1.kept (t':=s1.toks) fun b o e=>Od _ e,ZgW (t:=t) (fun A' hA=>Walks.strWide hA _ y t) (fun _ _ _ _ _ st h=>wpAny_pyIter_striter_wide st h),⟨_,Oj _ rfl,rfl,rfl⟩,fp1,q⟩
   . exact wpAny_pyIter_ascii ha ⟨s1.heap.objs.size,[s1.heap.objs.size],_,_,H1,rfl,I1.kept (t':=s1.toks) fun b o e=>Od _ e,ZgW (t:=t) (fun A' hA=>Walks.strAscii hA _ y t) (fun _ _ _ _ _ st h=>wpAny_pyIter_striter_ascii st h),⟨_,Oj _ rfl,rfl,rfl⟩,fp1,q⟩
noncomputable def WJ(Y:Yx)(H0:Hp)(μ0:List Addr)(w:Wk)(J:It):Prop:=∀ H B h,Gr H0 μ0 H B->RH Y H B h->Wk.stays w.src h=true ->
 (∀ i d,w.xs[i]? = some d->J.go i H/\∀ x H',J.yld i H x H'->Gr H B H' B/\RH Y H' B h/\RD Y H' B d x)/\J.stop w.xs.length H
section
variable {X:Cx}{Y:Yx}{E:XK}{T:Tb}{H:Hp}{B:List Addr}{h:Hd}
theorem ZoW{a:Addr}{vs:List V}{xs:List D}(hY:Y.K=X.K)(rh:RH Y H B h)(t:SqT Y.K H a vs)(s:RDs Y H B xs vs):WJ Y H B ⟨none,xs⟩ (Itt X.K a):=by
 intro H1 μ1 h1 g rh1 st
 have t1:=g.rdT rh t
 have s1:=s.mono rh g
 rw [hY] at t1
 refine ⟨fun i d e=>?_,⟨vs,t1,by rw [s.length];exact Oq _⟩⟩
 obtain ⟨v,e1,r1⟩:=s1.get e
 refine ⟨⟨vs,v,t1,e1⟩,fun x H' ⟨eH,q⟩=>?_⟩
 subst eH
 have:=q vs t1
 rw [e1] at this
 cases this
 exact ⟨Gr.refl,rh1,r1⟩
theorem Zoq{a:Addr}{vs:List V}{xs:List D}(hY:Y.K=X.K)(rh:RH Y H B h)(t:FzL Y.K H a vs)(s:RDs Y H B xs vs):WJ Y H B ⟨none,xs⟩ (Itl X.K a):=by
 intro H1 μ1 h1 g rh1 st
 have t1:=(g.rdF rh t).sq
 have s1:=s.mono rh g
 rw [hY] at t1
 refine ⟨fun i d e=>?_,⟨vs,t1,by rw [s.length];exact Oq _⟩⟩
 obtain ⟨v,e1,r1⟩:=s1.get e
 refine ⟨⟨vs,v,t1,e1⟩,fun x H' ⟨eH,q⟩=>?_⟩
 subst eH
 have:=q vs t1
 rw [e1] at this
 cases this
 exact ⟨Gr.refl,rh1,r1⟩
theorem ZeY{i:Nat}{xs:List D}{h:Hd}(st:Wk.stays (some (i,xs)) h=true):h[i]? = some (.lst xs):=of_decide_eq_true st
theorem ZkB{i:Nat}{a:Addr}{xs:List D}(hi:B[i]? = some a):WJ Y H B ⟨some (i,xs),xs⟩ (Itl X.K a):=by
 intro H1 μ1 h1 g rh1 st
 obtain ⟨vs,hl,s1⟩:=rh1.ob i _ a (ZeY st) (g.pre i a hi)
 have t1:SqL X.K H1 a vs:=.of hl
 refine ⟨fun i d e=>?_,⟨vs,t1,by rw [s1.length];exact Oq _⟩⟩
 obtain ⟨v,e1,r1⟩:=s1.get e
 refine ⟨⟨vs,v,t1,e1⟩,fun x H' ⟨eH,q⟩=>?_⟩
 subst eH
 have:=q vs t1
 rw [e1] at this
 cases this
 exact ⟨Gr.refl,rh1,r1⟩
theorem ZoY{lo:Int}{n:Nat}:WJ Y H B ⟨none,Zaq lo n⟩ (Itr lo n):=by
 intro H1 μ1 h1 g rh1 st
 have hl:(Zaq lo n).length=n:=by simp [Zaq]
 refine ⟨fun i d e=>?_,by show n<=(Zaq lo n).length;rw [hl];exact Oq _⟩
 have hi:i<n:=by
   have:=(Ob.mp e).1
   rw [hl] at this;exact this
 refine ⟨hi,fun x H' ⟨eH,q⟩=>?_⟩
 subst eH q
 have:d=.int (lo+i):=by
   unfold Zaq at e
   rw [On,List.getElem?_range hi] at e
   exact (Option.some.inj e).symm
 subst this
 exact ⟨Gr.refl,rh1,.int _⟩
theorem ZoX{y:Str}(ok:PyData.strOk y=true):WJ Y H B ⟨none,y.cps.toList.map fun c=>.str ⟨#[c]⟩⟩ (Its y):=by
 intro H1 μ1 h1 g rh1 st
 have hl:(y.cps.toList.map fun c=>D.str ⟨#[c]⟩).length=y.cps.size:=by simp
 refine ⟨fun i d e=>?_,hl⟩
 have hi:i<y.cps.size:=by
   have:=(Ob.mp e).1
   rw [hl] at this;exact this
 refine ⟨hi,fun x H' ⟨eH,c,q,ex⟩=>?_⟩
 subst eH ex
 rw [On,Array.getElem?_toList,q] at e
 have:=(Option.some.inj e).symm
 subst this
 exact ⟨Gr.refl,rh1,.str _ (Zid ok (by simpa using Array.mem_of_getElem? q))⟩
theorem Zmh{xs:List D}{i:Nat}{d:D}(e:(ZdU xs)[i]? = some d):∃ x,xs[i]? = some x/\d=.tup [.int i,x]:=by
 unfold ZdU at e
 rw [List.getElem?_mapIdx] at e
 obtain ⟨x,e1,e2⟩:=Oo.mp e
 exact ⟨x,e1,e2.symm⟩
theorem Zi2{a:Addr}{src:Option (Nat×List D)}{xs:List D}(hw:WJ Y H B ⟨src,xs⟩ (Itl X.K a))(sq:∀ H1 μ1 h1,Gr H B H1 μ1->RH Y H1 μ1 h1->Wk.stays src h1=true->∃ vs,SqL X.K H1 a vs/\RDs Y H1 μ1 xs vs):WJ Y H B ⟨src,ZdU xs⟩ (Ite X.K a):=by
 intro H1 μ1 h1 g rh1 st
 obtain ⟨vs,t1,s1⟩:=sq H1 μ1 h1 g rh1 st
 have hl:(ZdU xs).length=xs.length:=by simp [ZdU]
 refine ⟨fun i d e=>?_,⟨vs,t1,by rw [hl,s1.length]⟩⟩
 obtain ⟨x0,e0,rfl⟩:=Zmh e
 obtain ⟨v,e1,r1⟩:=s1.get e0
 refine ⟨⟨vs,v,t1,e1⟩,fun x H' ⟨p,ex,hp,y,q,eH⟩=>?_⟩
 subst ex eH
 have:=q vs t1
 rw [e1] at this
 cases this
 exact ⟨Gr.lay0 hp,rh1.lay0 hp,.tup (.inl (.inl Zh)) (.cons (.int _) (.cons (r1.mono rh1 (Gr.lay0 hp)) .nil))⟩
theorem ZoZ{a:Addr}{vs:List V}{xs:List D}(hY:Y.K=X.K)(rh:RH Y H B h)(t:SqT Y.K H a vs)(s:RDs Y H B xs vs):WJ Y H B ⟨none,xs.reverse⟩ (Itv X.K a vs.length):=by
 intro H1 μ1 h1 g rh1 st
 have t1:=g.rdT rh t
 have s1:=(s.mono rh g).reverse
 rw [hY] at t1
 refine ⟨fun i d e=>?_,⟨vs,t1,rfl,by simp [s.length]⟩⟩
 obtain ⟨v,e1,r1⟩:=s1.get e
 refine ⟨⟨vs,v,t1,rfl,e1⟩,fun x H' ⟨eH,q⟩=>?_⟩
 subst eH
 have:=q vs t1
 rw [e1] at this
 cases this
 exact ⟨Gr.refl,rh1,r1⟩
theorem ZmL{i:Nat}{a:Addr}{xs:List D}(hi:B[i]? = some a):WJ Y H B ⟨some (i,xs),xs.reverse⟩ (Zqr X.K a xs.length):=by
 intro H1 μ1 h1 g rh1 st
 obtain ⟨vs,hl,s0⟩:=rh1.ob i _ a (ZeY st) (g.pre i a hi)
 have t1:SqL X.K H1 a vs:=.of hl
 have s1:=s0.reverse
 refine ⟨fun i d e=>?_,⟨vs,t1,s0.length.symm,by simp⟩⟩
 obtain ⟨v,e1,r1⟩:=s1.get e
 refine ⟨⟨vs,v,t1,s0.length.symm,e1⟩,fun x H' ⟨eH,q⟩=>?_⟩
 subst eH
 have:=q vs t1
 rw [e1] at this
 cases this
 exact ⟨Gr.refl,rh1,r1⟩
theorem Zo0{a:Addr}{vs:List V}{xs:List D}(hY:Y.K=X.K)(rh:RH Y H B h)(t:SqT Y.K H a vs)(s:RDs Y H B xs vs):WJ Y H B ⟨none,Zdo xs⟩ (It1 X.K a):=by
 intro H1 μ1 h1 g rh1 st
 have t1:=g.rdT rh t
 have s1:=s.mono rh g
 rw [hY] at t1
 have hl:(Zdo xs).length=xs.length:=by simp [Zdo]
 refine ⟨fun i d e=>?_,⟨vs,t1,by rw [hl,s1.length]⟩⟩
 have:∃ x0,xs[i]? = some x0/\d=.tup [.int ((i+1:Nat):Int),x0]:=by
   unfold Zdo at e
   rw [List.getElem?_mapIdx] at e
   obtain ⟨x,e1,e2⟩:=Oo.mp e
   exact ⟨x,e1,e2.symm⟩
 obtain ⟨x0,e0,rfl⟩:=this
 obtain ⟨v,e1,r1⟩:=s1.get e0
 refine ⟨⟨vs,v,t1,e1⟩,fun x H' ⟨p,ex,hp,y,q,eH⟩=>?_⟩
 subst ex eH
 have:=q vs t1
 rw [e1] at this
 cases this
 exact ⟨Gr.lay0 hp,rh1.lay0 hp,.tup (.inl (.inl Zh)) (.cons (.int _) (.cons (r1.mono rh1 (Gr.lay0 hp)) .nil))⟩
theorem RKs.keys:∀ {kvs:List (Key×D)}{kvs':List (Key×V)},RKs Y H B kvs kvs'->kvs.map (·.1)=kvs'.map (·.1)
 | _,_,.nil=>rfl
 | _,_,.cons a s=>by rw [Op,Op,s.keys]
theorem Zor{a:Addr}{o:Obj}{kvs:List (Key×D)}{kvs':List (Key×V)}(ea:H a=some (.frz o (.dK kvs')))(s:RKs Y H B kvs kvs')(ok:Zbc kvs):WJ Y H B ⟨none,kvs.map fun p=>ZlO p.1⟩ (Itd a o kvs'):=by
 intro H1 μ1 h1 g rh1 st
 have e1:=g.fz a _ _ ea
 have hl:=s.length
 refine ⟨fun i d e=>?_,⟨e1,by simp [hl]⟩⟩
 simp only [On] at e
 obtain ⟨p,ep,rfl⟩:=Oo.mp e
 have hi:i<kvs.length:=(Ob.mp ep).1
 refine ⟨⟨e1,by omega⟩,fun x H' ⟨eH,k,v,ek,ex⟩=>?_⟩
 subst eH ex
 have hk:p.1=k:=by
   have q:=congrArg (fun l=>l[i]?) s.keys
   simp only [On,ep,ek,Option.map_some] at q
   exact Option.some.inj q
 refine ⟨Gr.refl,rh1,?_⟩
 have okp:=ok p (O1 ep)
 rw [hk] at okp ⊢
 cases k with
 | inl i=>exact .int _
 | inr x=>exact .str _ (okp x rfl)
theorem Zqd{d:D}{x:V}{R:It->Hp->Prop}{E:XK}(rh:RH Y H B h)(r:RD Y H B d x)(f:Fin Y (WJ Y) H B (Zl6 d h) R E) :
   ∃ a kvs,x=.ref a/\((H a=some (.dK kvs)/\∀ o,R (Itd a o kvs) (upd H a (.frz o (.dK kvs))))\/∃ o,H a=some (.frz o (.dK kvs))/\R (Itd a o kvs) H):=by
 cases d with
 | ref i =>
   unfold Zl6 at f
   simp only at f
   split at f
   . rename_i kvs e
     obtain ⟨a,vs,rfl,hi,hl,s⟩:=r.dic rh e
     have nf:NF (H a):=by rw [hl];trivial
     refine ⟨a,vs,rfl,.inl ⟨hl,fun o=>?_⟩⟩
     have g:Gr H B (upd H a (.frz o (.dK vs))) B:=Gr.write (O1 hi) nf
     exact f.at g (rh.write hi ⟨o,vs,Zh,s.mono rh g⟩ nf (show Zbc kvs from rh.ks _ _ e)) (Zor Zh (s.mono rh g) (show Zbc kvs from rh.ks _ _ e))
   . rename_i kvs e
     cases r with
     | ref q =>
       obtain ⟨o,vs,h1,s⟩:=rh.ob i _ _ e q
       exact ⟨_,vs,rfl,.inr ⟨o,h1,f.ok rh (Zor h1 s (rh.ks _ _ e))⟩⟩
   . exact f.elim
 | _=>exact f.elim
theorem ZmO{d:D}{x:V}{w:Wk}{R:It->Hp->Prop}(hY:Y.K=X.K)(rh:RH Y H B h)(r:RD Y H B d x)(e:ZY d h=some w)(q:∀ J,WJ Y H B w J->R J H):rW X.K x H R:=by
 cases d with
 | tup xs =>
   cases e
   obtain ⟨a,vs,rfl,t,s⟩:=r.tup_inv
   exact .inr (.inl ⟨a,rfl,⟨vs,hY ▸ t⟩,q _ (ZoW hY rh t s)⟩)
 | ro xs =>
   cases e
   cases r with
   | ro t s=>exact .inl ⟨_,rfl,⟨_,hY ▸ t.sq⟩,q _ (Zoq hY rh t s)⟩
 | ref i =>
   unfold ZY at e
   simp only at e
   split at e
   . rename_i xs he
     cases e
     obtain ⟨a,vs,rfl,hi,hl,s⟩:=r.lst rh he
     exact .inl ⟨a,rfl,⟨vs,.of hl⟩,q _ (ZkB hi)⟩
   . cases e
 | str y =>
   unfold ZY at e
   simp only at e
   split at e
   . cases e
     obtain ⟨rfl,ok⟩:=r.str_inv
     exact .inr (.inr ⟨y,rfl,q _ (ZoX ok)⟩)
   . cases e
 | _=>cases e
end
end IV
end
section
namespace IV
open PySem PySem.Spec PyProof.Rows L2
structure Kl where
 cs:List Str
 ats:List Str
 ms:List (Str×Str)
 is:List Str
structure Gm where
 N:List Str
 sc:Scope
 fs:List Str
 top:Bool
 kl:Kl
noncomputable def glb (Γ:Gm) (x:Str):Bool:=decide (Γ.sc.names.lookup x=some .globalImplicit)&&!(x==("__debug__" : Str))
noncomputable def ZmQ(sc:Scope)(x:Str):Bool:=decide (sc.names.lookup x=some .local) || decide (sc.names.lookup x=some .cell) || decide (sc.names.lookup x=some .free)
noncomputable def Zmy:Bf->Str
 | .len => "len" | .isi => "isinstance" | .int => "int" | .tup => "tuple" | .lst => "list" | .sum => "sum" | .all => "all" | .srt => "sorted" | .mx => "max"
noncomputable def bok:Bf->Bool
 | .mx=>false
 | .lst=>false
 | .int=>false
 | .all=>false
 | _=>true
noncomputable def ZoG:Mf->Str
 | .app => "append" | .ext => "extend" | .pop => "pop" | .rev => "reverse" | .clr => "clear"
noncomputable def Zi4:List String:=["int", "str", "bool", "tuple", "list"]
noncomputable def Zmp(Γ:Gm):D->Expr->Bool
 | .int i,.Constant (.int j) _ _=>decide (i=j)
 | .str x,.Constant (.str y) _ _=>decide (x=y)&&PyData.strOk y
 | .bl b,.Constant (.bool c) _ _=>decide (b=c)
 | .non,.Constant .none _ _=>true
 | .ty n,.Name x _=>decide (n∈Zi4)&&decide (Str.ofString n=x)&&glb Γ x
 | _,_=>false
noncomputable def Zmn(NC N:List Str)(js:List (Option Nat))(sc scope:Scope):Bool :=
 decide (scope.kind=.function)&&decide (sc.kind=.function)&&(scope.names.all fun y=>decide (y.2≠.cell))&&(scope.names.all fun y=>!decide (y.2=.local) || decide (scope.names.lookup y.1=some .local)) &&
   (scope.names.all fun y=>!decide (y.2=.free) || decide (sc.names.lookup y.1=some .cell))&&decide NC.Nodup&&decide (js.length=NC.length) &&
   ((NC.zip js).all fun p=>p.2.all fun j=>decide (N[j]? = some p.1)&&decide (scope.names.lookup p.1=some .free))
theorem ZhF{NC N:List Str}{js:List (Option Nat)}{sc scope:Scope}(h:Zmn NC N js sc scope=true):CompSc NC N js sc scope:=by
 unfold Zmn at h
 rw [Oa,Oa,Oa,Oa,Oa,Oa,Oa] at h
 obtain ⟨⟨⟨⟨⟨⟨⟨a,b⟩,c⟩,d⟩,e⟩,f⟩,g⟩,i⟩:=h
 rw [OC] at c d e
 refine ⟨of_decide_eq_true a,of_decide_eq_true b,fun y hy=>of_decide_eq_true (c y hy),fun y hy e1=>?_,fun y hy e1=>?_,of_decide_eq_true f,of_decide_eq_true g,i⟩
 . have:=d y hy
   rw [decide_eq_true e1] at this
   simpa using this
 . have:=e y hy
   rw [decide_eq_true e1] at this
   simpa using this
noncomputable def Zey(N:List Str)(own:Str->Bool):List Nat->List Expr->Bool
 | [],[]=>true
 | i::is,.Name x _::es=>decide (N[i]? = some x)&&own x&&Zey N own is es
 | _,_=>false
noncomputable def Zeg(N:List Str)(own:Str->Bool):Tg->Expr->Bool
 | .nm i,.Name x _=>decide (N[i]? = some x)&&own x
 | .two i j,.Tuple [.Name x _,.Name y _] _ _=>decide (N[i]? = some x)&&own x&&decide (N[j]? = some y)&&own y
 | .many is,.Tuple es _ _=>Zey N own is es
 | _,_=>false
noncomputable def isTup:Expr->Bool
 | .Tuple _ _ _=>true
 | _=>false
noncomputable def tgk:Tg->Nat
 | .nm i=>i+1
 | .two i j=>max i j+1
 | .many is=>is.foldr max 0+1
noncomputable def ZsX(sc:Scope)(x:Str):Bool:=decide (sc.names.lookup x=some .local)
noncomputable def ownD(sc:Scope)(x:Str):Bool:=decide (sc.names.lookup x=some .local) || decide (sc.names.lookup x=some .cell)
noncomputable def Zd6:Expr->Bool
 | .Set _ _ _=>false
 | _=>true
noncomputable def Zfh:Expr->Bool
 | .Slice _ _ _ _=>false
 | _=>true
noncomputable def Z3:Expr->Bool
 | .Starred _ _=>false
 | _=>true
noncomputable def Zcx:Expr->Bool
 | .Call _ [] _ _=>false
 | _=>true
noncomputable def Zh8:Expr->Bool
 | .BoolOp _ _ _|.UnaryOp _ _ _|.IfExp _ _ _ _|.NamedExpr _ _ _=>false
 | _=>true
mutual
noncomputable def chk(Γ:Gm):Ex->Expr->Bool
 | .var i,e=>match e with
   | .Name x _=>decide (Γ.N[i]? = some x)&&ZmQ Γ.sc x&&!(x==("__debug__" : Str))&&!(x==("__classdict__" : Str))
   | _=>false
 | .cst d,e=>Zmp Γ d e
 | .glo x,e=>match e with
   | .Name y _=>decide (x=y)&&glb Γ x
   | _=>false
 | .bin op a b,e=>match e with
   | .BinOp l op' r _=>decide (op=op')&&chk Γ a l&&chk Γ b r
   | _=>false
 | .cmp op a b,e=>match e with
   | .Compare l [op'] [r] _=>decide (op=op')&&chk Γ a l&&chk Γ b r&&Zd6 r
   | _=>false
 | .cmp2 _ _ _ _ _,_=>false
 | .neg a,e=>match e with
   | .UnaryOp .USub x _=>chk Γ a x
   | _=>false
 | .nt a,e=>match e with
   | .UnaryOp .Not x _=>chk Γ a x
   | _=>false
 | .ands es,e=>match e with
   | .BoolOp .And xs _=>chks Γ es xs
   | _=>false
 | .ors es,e=>match e with
   | .BoolOp .Or xs _=>chks Γ es xs
   | _=>false
 | .ite c a b,e=>match e with
   | .IfExp t x y _=>chkt Γ c t&&chk Γ a x&&chk Γ b y
   | _=>false
 | .tupl es,e=>match e with
   | .Tuple xs _ _=>chks Γ es xs
   | _=>false
 | .lstl es,e=>match e with
   | .List xs _=>chks Γ es xs
   | _=>false
 | .ix a i,e=>match e with
   | .Subscript x y _=>chk Γ a x&&chk Γ i y&&Zfh y
   | _=>false
 | .sl a lo hi,e=>match e with
   | .Subscript x (.Slice l u none _) _=>chk Γ a x&&chko Γ lo l&&chko Γ hi u
   | _=>false
 | .blt f es,e=>match e with
   | .Call (.Name x _) (y::ys) [] _=>decide (x=Zmy f)&&(bok f&&glb Γ x)&&chks Γ es (y::ys)
   | _=>false
 | .call f es,e=>match e with
   | .Call (.Name x _) (y::ys) [] _=>decide (x=f)&&decide (f∈Γ.fs)&&glb Γ x&&chks Γ es (y::ys)
   | _=>false
 | .meth m o es,e=>match e with
   | .Call (.Attribute x n ap) ys [] cp=>decide (n=ZoG m)&&chk Γ o x&&Zcx x&&chks Γ es ys&&decide (ys.length<29)&&(ap.endLine==cp.line)
   | _=>false
 | .trev _,_=>false
 | .lrv e,x=>match x with
   | .Call (.Name f _) [.Call (.Name f' _) [y] [] _] [] _=>decide (f = "list")&&decide (f' = "reversed")&&glb Γ f&&glb Γ f'&&chk Γ e y&&Z3 y
   | _=>false
 | .tix _ _,_=>false
 | .comp NC js it g c e,x=>match x with
   | .ListComp elt [⟨tg,iter,ifs,0⟩] scope _=>Γ.top&&Zmn NC Γ.N js Γ.sc scope&&chki Γ it tg iter&&Zd6 iter&&Zeg NC (ZsX scope) g tg&&((List.range (tgk g)).all fun j=>decide (js[j]? = some none)) &&
       chkf ⟨NC,scope,Γ.fs,false,Γ.kl⟩ c ifs&&chk ⟨NC,scope,Γ.fs,false,Γ.kl⟩ e elt
   | _=>false
 | .sorts _,_=>false
 | .maxd a d,e=>match e with
   | .Call (.Name x _) [y] [⟨some n,z,_⟩] _=>decide (x = "max")&&decide (n = "default")&&glb Γ x&&chk Γ a y&&Z3 y&&chk Γ d z
   | _=>false
 | .dictl ps,e=>match e with
   | .Dict keys values _=>decide (keys.length<=15)&&chkp Γ ps keys values
   | _=>false
 | .att Cs o f,e=>match e with
   | .Attribute x n _=>decide (n=f)&&chk Γ o x&&Zcx x&&(Cs.all fun C=>decide (C∈Γ.kl.cs))&&decide (f∈Γ.kl.ats)
   | _=>false
 | .mk C es,e=>match e with
   | .Call (.Name x _) ys [] _=>decide (x=C)&&decide (C∈Γ.kl.is)&&glb Γ x&&chks Γ es ys
   | _=>false
 | .mcl C m o es,e=>match e with
   | .Call (.Attribute x n ap) ys [] cp=>decide (n=m)&&chk Γ o x&&Zcx x&&chks Γ es ys&&decide ((C,m)∈Γ.kl.ms)&&decide (ys.length<29)&&(ap.endLine==cp.line)
   | _=>false
 | .any,e=>match e with
   | .Compare _ _ _ _=>false
   | _=>true
noncomputable def chks(Γ:Gm):Exs->List Expr->Bool
 | .nil,es=>es.isEmpty
 | .cons e r,es=>match es with
   | x::xs=>chk Γ e x&&Z3 x&&chks Γ r xs
   | []=>false
noncomputable def chkp(Γ:Gm):Exs->List (Option Expr)->List Expr->Bool
 | .nil,ks,vs=>ks.isEmpty&&vs.isEmpty
 | .cons k r,ks,vs=>match r with
   | .cons v r'=>match ks,vs with
     | some kx::ks,vx::vs=>chk Γ k kx&&chk Γ v vx&&chkp Γ r' ks vs
     | _,_=>false
   | .nil=>false
noncomputable def chko(Γ:Gm):Option Ex->Option Expr->Bool
 | none,x=>x.isNone
 | some a,x=>match x with
   | some x=>chk Γ a x
   | none=>false
noncomputable def chkf(Γ:Gm):Option Tx->List Expr->Bool
 | none,x=>x.isEmpty
 | some a,x=>match x with
   | [x]=>chkt Γ a x
   | _=>false
noncomputable def chkt(Γ:Gm):Tx->Expr->Bool
 | .ex e,x=>Zh8 x&&chk Γ e x
 | .ands ts,x=>match x with
   | .BoolOp .And xs _=>chkts Γ ts xs
   | _=>false
 | .ors ts,x=>match x with
   | .BoolOp .Or xs _=>chkts Γ ts xs
   | _=>false
 | .nt t,x=>match x with
   | .UnaryOp .Not y _=>chkt Γ t y
   | _=>false
noncomputable def chkts(Γ:Gm):Txs->List Expr->Bool
 | .one t,xs=>match xs with
   | [x]=>chkt Γ t x
   | _=>false
 | .cons t ts,xs=>match xs with
   | x::y::r=>chkt Γ t x&&chkts Γ ts (y::r)
   | _=>false
noncomputable def chki(Γ:Gm):Ix->Expr->Expr->Bool
 | .pl e,_,x=>chk Γ e x
 | .rng e,_,x=>match x with
   | .Call (.Name f _) [y] [] _=>decide (f = "range")&&glb Γ f&&chk Γ e y&&Z3 y
   | _=>false
 | .rng2 _ _,_,_=>false
 | .enu e,tg,x=>match x with
   | .Call (.Name f _) [y] [] _=>decide (f = "enumerate")&&glb Γ f&&chk Γ e y&&Z3 y&&isTup tg
   | _=>false
 | .rev e,_,x=>match x with
   | .Call (.Name f _) [y] [] _=>decide (f = "reversed")&&glb Γ f&&chk Γ e y&&Z3 y
   | _=>false
 | .en1 e,tg,x=>match x with
   | .Call (.Name f _) [y] [⟨some kw,.Constant (.int 1) _ _,_⟩] _=>decide (f = "enumerate")&&decide (kw = "start")&&glb Γ f&&chk Γ e y&&Z3 y&&isTup tg
   | _=>false
 | .dk e,_,x=>chk Γ e x
end
end IV
end
section
namespace IV
open PySem PySem.Spec PyProof.Rows L2
noncomputable def leS(a b:Str):Prop:=¬ b.cps.toList<a.cps.toList
theorem Zf6{a b c:Str}(h:leS a b)(q:leS b c):leS a c:=by
 unfold leS at *
 rw [List.not_lt] at *
 exact List.le_trans h q
theorem ZlI{a b:Str}(h:leS a b)(q:leS b a):a=b:=by
 unfold leS at *
 rw [List.not_lt] at *
 have e:=List.le_antisymm h q
 obtain ⟨⟨a⟩⟩:=a
 obtain ⟨⟨b⟩⟩:=b
 simp at e
 subst e
 rfl
theorem ZgZ:∀ {ss:List Str},sortedS ss=true->ss.Pairwise leS:=by
 have gen:∀ (r:List Str) (p:Str),risingS p r=true->(∀ x∈r,leS p x)/\r.Pairwise leS:=by
   intro r
   induction r with
   | nil=>intro p _;exact ⟨by simp,.nil⟩
   | cons x r ih =>
     intro p h
     rw [risingS,Oa] at h
     obtain ⟨h1,h2⟩:=ih x h.2
     have hx:leS p x:=by
       have:=h.1
       rw [ltCps_eq] at this
       unfold leS
       simpa using this
     refine ⟨fun y hy=>?_,.cons h1 h2⟩
     rcases O2.mp hy with rfl|hy
     . exact hx
     . exact Zf6 hx (h1 y hy)
 intro ss h
 cases ss with
 | nil=>exact .nil
 | cons x r=>obtain ⟨h1,h2⟩:=gen r x h;exact .cons h1 h2
theorem Zfd(x:Str):∀ r:List Str,(Zj2 x r).Perm (x::r)
 | []=>.refl _
 | y::r=>by
   unfold Zj2
   split
   . exact ((Zfd x r).cons y).trans (.swap x y r)
   . exact .refl _
theorem ZcS:∀ r:List Str,(ZbW r).Perm r
 | []=>.refl _
 | x::r=>(Zfd x _).trans ((ZcS r).cons x)
theorem Zhd(x:Str):∀ r:List Str,r.Pairwise leS->(Zj2 x r).Pairwise leS
 | [],_=>.cons (by simp) .nil
 | y::r,h=>by
   cases h with
   | cons h1 h2 =>
     unfold Zj2
     split
     . rename_i hlt
       rw [ltCps_eq] at hlt
       have hlt:=of_decide_eq_true hlt
       refine .cons (fun z hz=>?_) (Zhd x r h2)
       rcases O2.mp ((Zfd x r).mem_iff.mp hz) with rfl|hz
       . unfold leS
         rw [List.not_lt]
         exact List.le_of_lt hlt
       . exact h1 z hz
     . rename_i hlt
       have hxy:leS x y:=by
         unfold leS
         rw [ltCps_eq] at hlt
         simpa using hlt
       refine .cons (fun z hz=>?_) (.cons h1 h2)
       rcases O2.mp hz with rfl|hz
       . exact hxy
       . exact Zf6 hxy (h1 z hz)
theorem ZfX:∀ r:List Str,(ZbW r).Pairwise leS
 | []=>.nil
 | x::r=>Zhd x _ (ZfX r)
theorem ZjZ{ss ss':List Str}(hp:ss'.Perm ss)(hs:sortedS ss'=true):ss'=ZbW ss :=
 (hp.trans (ZcS ss).symm).eq_of_pairwise (fun _ _ _ _ h q=>ZlI h q) (ZgZ hs) (ZfX ss)
section
variable {X:Cx}{Y:Yx}{E:XK}{T:Tb}{H:Hp}{B:List Addr}{h:Hd}
theorem Zev:∀ {ds:List (Key×D)}{vs:List (Key×V)}{ss:List Str},RKs Y H B ds vs->ZcU ds=some ss->vs.map (·.1)=ss.map Sum.inr
 | _,_,_,.nil,e=>by cases e;rfl
 | _,_,_,.cons (k:=k) a s,e=>by
   cases k with
   | inl i=>cases e
   | inr x =>
     rw [ZcU] at e
     obtain ⟨z,e1,rfl⟩:=Oo.mp e
     rw [Op,Op,Zev s e1]
theorem Zjb:∀ (ss:List Str),(∀ x∈ss,PyData.strOk x=true)->RDs Y H B (ss.map D.str) (ss.map V.str)
 | [],_=>.nil
 | x::r,h=>.cons (.str x (h x (by simp))) (Zjb r fun y hy=>h y (by simp [hy]))
theorem Zoj (hc:X.A.handled=none) (G:Gk X Y T):Zca X (.builtin "sorted") (rF Y E (ZdX T.GD)):=by
 intro pins s Z H xs us Q I r hh
 obtain ⟨ds,h,B,rh,rs,f⟩:=hh
 unfold ZdX at f
 split at f
 . split at f
   . rename_i ss e2
     obtain ⟨hz,f⟩:=f.iff
     obtain ⟨kvs,e3,e4⟩:=Option.bind_eq_some_iff.mp e2
     obtain ⟨x,rfl,r1⟩:=rs.one
     obtain ⟨a,kvs',rfl,hd,rk⟩:=r1.dicOf G rh e3
     obtain ⟨hz,hok⟩:=hz
     refine ZgL hc pins s Z H _ us Q I r ⟨a,kvs',ss,rfl,hd,Zev rk e4,hz,fun p ss' hp h1 h2=>?_⟩
     rw [ZjZ h1 h2]
     refine f.new rh hp ⟨_,Zh,Zjb _ fun y hy=>?_⟩
     rw [OC] at hok
     exact hok y ((ZcS ss).mem_iff.mp hy)
   . exact f.elim
 . exact f.elim
end
end IV
end
section
set_option tactic.hygienic false
namespace IV
open PySem PySem.Spec PyProof.Rows L2
noncomputable def RS(Y:Yx)(H:Hp)(B:List Addr)(S:Ev)(Z:L2.St):Prop:=Z.length=S.length/\∀ (i:Nat) (d:D),S[i]? = some (some d)->∃ v,Z[i]? = some (some v)/\RD Y H B d v
section
variable {Y:Yx}{H H':Hp}{B μ':List Addr}{h:Hd}{S:Ev}{Z:L2.St}
theorem RS.mono(rh:RH Y H B h)(g:Gr H B H' μ')(r:RS Y H B S Z):RS Y H' μ' S Z:=⟨r.1,fun i d e=>let ⟨v,h1,h2⟩:=r.2 i d e;⟨v,h1,h2.mono rh g⟩⟩
theorem RS.var(r:RS Y H B S Z){i:Nat}{d:D}(e:(S[i]?).join=some d):∃ v,Z[i]? = some (some v)/\RD Y H B d v:=by
 refine r.2 i d ?_
 cases q:S[i]? with
 | none=>rw [q] at e;cases e
 | some o=>rw [q] at e;cases o with
   | none=>cases e
   | some d'=>cases e;rfl
theorem RS.set(r:RS Y H B S Z){i:Nat}{d:D}{v:V}(q:RD Y H B d v):RS Y H B (S.set i (some d)) (Z.set i (some v)):=by
 refine ⟨by simp [r.1],fun j e he=>?_⟩
 by_cases hj:i=j
 . subst hj
   have hl:i<S.length:=by
     have:=(Ob.mp he).1
     simpa using this
   rw [Ol hl] at he
   cases he
   exact ⟨v,by rw [Ol (by rw [r.1];exact hl)],q⟩
 . rw [Oc hj] at he
   obtain ⟨w,h1,h2⟩:=r.2 j e he
   exact ⟨w,by rw [Oc hj];exact h1,h2⟩
theorem RS.capt(r:RS Y H B S Z)(js:List (Option Nat)):RS Y H B (ZaM js S) (capt js Z):=by
 refine ⟨by simp [ZaM,L2.capt],fun i d e=>?_⟩
 unfold ZaM at e
 unfold L2.capt
 rw [On] at e ⊢
 cases q:js[i]? with
 | none=>rw [q] at e;cases e
 | some o =>
   rw [q] at e
   cases o with
   | none=>cases e
   | some j =>
     have e':(S[j]?).join=some d:=by simpa using e
     obtain ⟨v,h1,h2⟩:=r.var e'
     exact ⟨v,by simp [h1],h2⟩
end
section
variable (T:Tb) (Y:Yx) (E:XK)
noncomputable def ZbD(e:Ex):TE:=fun Z H Q=>∃ S h B,RH Y H B h/\RS Y H B S Z/\Fin Y (RD Y) H B (ev T e S h) Q E
noncomputable def Zm0(e:Exs):TA:=fun Z H Q=>∃ S h B,RH Y H B h/\RS Y H B S Z/\Fin Y (RDs Y) H B (evs T e S h) Q E
noncomputable def ZkS(e:Tx):TT:=fun Z H Q=>∃ S h B,RH Y H B h/\RS Y H B S Z/\Fin Y (fun _ _ (a b:Bool)=>a=b) H B (tst T e S h) Q E
noncomputable def ZsG(e:Option Ex):TO:=fun Z H Q=>∃ S h B,RH Y H B h/\RS Y H B S Z/\Fin Y (fun _ _ (a b:Option Int)=>a=b) H B (evo T e S h) Q E
noncomputable def ZsH(e:Ix):TI:=fun Z H Q=>∃ S h B,RH Y H B h/\RS Y H B S Z/\Fin Y (WJ Y) H B (evi T e S h) Q E
noncomputable def ZeC(f:Str):Sp:=fun vs H Q E=>∃ ds h B,RH Y H B h/\RDs Y H B ds vs/\Fin Y (RD Y) H B (T.C f ds h) Q E
end
structure Gd(T:Tb)(Γ:Gm)(X:Cx)(Y:Yx)(E:XK)(k:Nat):Prop where
 gk:Gk X Y T
 N:X.N=Γ.N
 sc:Γ.top=true->X.env.scope=Γ.sc
 vis:∀ x,ZmQ Γ.sc x=true->Vis X.env.scope x
 glo:∀ x,Γ.sc.names.lookup x=some .globalImplicit->Gl X x
 nd:X.N.Nodup
 calm:X.calm=true
 room:Room k X.A
 h60:60<=k
 pass:ZbU (CXF X.prog X.w) X E
 defs:∀ f∈Γ.fs,∃ ps,Def X.prog X.w X.K X.mg X.base k f ps (ZeC T Y f)
 blt:∀ x∈(["len", "isinstance", "int", "tuple", "list", "sum", "all", "sorted", "range", "enumerate", "reversed", "str", "bool", "max"]:List Str),X.mg x=none
 room1:Room (k+1) X.A
 cls:∀ C∈Γ.kl.cs,∃ a,X.mg C=some (.ref a)/\Cls X.K a/\∀ f∈Γ.kl.ats,ZaS X.K a f
 mts:∀ p∈Γ.kl.ms,∃ a f fd ps,X.mg p.1=some (.ref a)/\Cls X.K a/\Meth X.K a p.2 f/\FnOk X.prog X.w X.K X.mg X.base (CXF X.prog X.w) k f fd ps (ZeC T Y (mnm p.1 p.2))/\Binds X.K fd ps []
 mks:∀ C∈Γ.kl.is,∃ a f fd ps,X.mg C=some (.ref a)/\Mk X.K a f/\FnOk X.prog X.w X.K X.mg X.base (CXF X.prog X.w) k f fd ps (ZeC T Y (mnm C (O "__init__")))/\Binds X.K fd ps []
theorem _root_.L2.PE.imp{X:Cx}{e:Expr}{t t':TE}(h:PE X e t)(i:∀ Z H Q,t' Z H Q->t Z H Q):PE X e t':=fun pins s Z H Q I q=>h pins s Z H Q I (i Z H Q q)
theorem _root_.L2.PT.imp{X:Cx}{e:Expr}{t t':TT}(h:PT X e t)(i:∀ Z H Q,t' Z H Q->t Z H Q):PT X e t':=fun pins s Z H Q I q=>h pins s Z H Q I (i Z H Q q)
theorem _root_.L2.PW.imp{X:Cx}{e:Expr}{t t':TT}(h:PW X e t)(i:∀ Z H Q,t' Z H Q->t Z H Q):PW X e t':=fun w pins s Z H Q I q=>h w pins s Z H Q I (i Z H Q q)
theorem _root_.L2.PA.imp{X:Cx}{e:List Expr}{t t':TA}(h:PA X e t)(i:∀ Z H Q,t' Z H Q->t Z H Q):PA X e t':=fun p pins s Z H Q I q=>h p pins s Z H Q I (i Z H Q q)
theorem _root_.L2.PO.imp{X:Cx}{e:Option Expr}{t t':TO}(h:PO X e t)(i:∀ Z H Q,t' Z H Q->t Z H Q):PO X e t':=fun pins s Z H Q I q=>h pins s Z H Q I (i Z H Q q)
theorem _root_.L2.PI.imp{X:Cx}{tg:Expr}{e:Expr}{t t':TI}(h:PI X tg e t)(i:∀ Z H Q,t' Z H Q->t Z H Q):PI X tg e t':=fun pins s Z H Q I q=>h pins s Z H Q I (i Z H Q q)
theorem Zl{x:Expr}{xs:List Expr}(env:Env)(h:Z3 x=true):starEach (x::xs) env=(false,eval x env)::starEach xs env:=by
 cases x<;>first|rfl|cases h
theorem Zh1{x:Expr}(env:Env)(h:Zd6 x=true):∀ v,foldedSetIterable x env v=pure v:=by
 cases x<;>first|(intro _;rfl)|cases h
theorem Zjt{x:Expr}{op:CmpOp}(h:Zd6 x=true):behindInMarks op x=false:=by
 cases x<;>first|rfl|cases h
theorem ZkN{x:Expr}(h:Zfh x=true):ZjO x:=by
 cases x<;>first|(intro _ _;rfl)|cases h
theorem ZeR{x:Expr}{n:Str}{env:Env}(h:Zcx x=true):attributeBase x n env (eval x env)=eval x env:=by
 cases x with
 | Call f as ks p =>
   cases as with
   | nil=>cases h
   | cons a as=>cases f<;>rfl
 | _=>rfl
theorem Zle{x:Expr}{env:Env}(h:Zh8 x=true)(hc:∀ l o r p,x≠.Compare l o r p):∀ whole,isTrue x env whole=(do let v <- whole;standAt x.pos;holding [v] (truthy v)):=by
 cases x<;>first|(intro _;rfl)|exact absurd rfl (hc _ _ _ _)|cases h
theorem ZbV(Γ:Gm)(env:Env):∀ (es:Exs) (xs:List Expr),chks Γ es xs=true->∀ pos,(backTo pos (starEach xs env)).any (·.1)=false
 | .nil,xs,h,pos=>by
   rw [chks] at h
   cases xs with
   | nil=>rfl
   | cons a b=>cases h
 | .cons e r,xs,h,pos=>by
   cases xs with
   | nil=>rw [chks] at h;cases h
   | cons x xs =>
     rw [chks,Oa,Oa] at h
     rw [Zl env h.1.2]
     have:=ZbV Γ env r xs h.2 pos
     show ((false,_)::backTo pos (starEach xs env)).any (·.1)=false
     rw [List.any_cons,this];rfl
theorem Zd2(Γ:Gm)(env:Env):∀ (es:Exs) (xs:List Expr),chks Γ es xs=true->∀ pos,(backTo pos (starEach xs env)).all (fun x=>!x.1)=true
 | .nil,xs,h,pos=>by
   rw [chks] at h
   cases xs with
   | nil=>rfl
   | cons a b=>cases h
 | .cons e r,xs,h,pos=>by
   cases xs with
   | nil=>rw [chks] at h;cases h
   | cons x xs =>
     rw [chks,Oa,Oa] at h
     rw [Zl env h.1.2]
     have:=Zd2 Γ env r xs h.2 pos
     show ((false,_)::backTo pos (starEach xs env)).all (fun x=>!x.1)=true
     rw [List.all_cons,this];rfl
theorem Gd.gl {T:Tb}{Γ:Gm}{X:Cx}{Y:Yx}{E:XK}{k:Nat} (G:Gd T Γ X Y E k) {x:Str} (h:glb Γ x=true):Gl X x/\(x==("__debug__" : Str))=false:=by
 unfold glb at h
 rw [Oa] at h
 exact ⟨G.glo x (of_decide_eq_true h.1),by simpa using h.2⟩
theorem Zfk{f:Str->NameKind->NameKind}(x:Str):∀ names:List (Str×NameKind),(names.map fun p=>(p.1,f p.1 p.2)).lookup x=(names.lookup x).map (f x)
 | []=>rfl
 | (n,k)::r=>by
   rw [Op,OF,OF]
   by_cases e:x=n
   . subst e;simp
   . have:(x==n)=false:=by simpa using e
     simp only [this]
     exact Zfk x r
theorem ZaG(scope:Scope)(env:Env)(x:Str):(relabel scope env).names.lookup x=(scope.names.lookup x).map fun k=>if (k==NameKind.free&&env.scope.kind==.function&&env.kindOf x==some .cell) then NameKind.cell else k:=by
 have e:(relabel scope env).names=scope.names.map fun p=>(p.1,(fun (n:Str) (k:NameKind)=>if (k==NameKind.free&&env.scope.kind==.function&&env.kindOf n==some .cell) then NameKind.cell else k) p.1 p.2):=by
   unfold relabel
   simp only
   refine List.map_congr_left fun p _=>?_
   obtain ⟨n,k⟩:=p
   simp only
   split<;>rfl
 rw [e]
 exact Zfk (f:=fun (n:Str) (k:NameKind)=>if (k==NameKind.free&&env.scope.kind==.function&&env.kindOf n==some .cell) then NameKind.cell else k) x scope.names
theorem Gd.comp{T:Tb}{Γ:Gm}{X:Cx}{Y:Yx}{E:XK}{k:Nat}(G:Gd T Γ X Y E k)(NC:List Str)(scope:Scope)(C:Addr)(s3:Shared)(H3:Hp)(fp:List Addr)(nd:NC.Nodup):Gd T ⟨NC,scope,Γ.fs,false,Γ.kl⟩ (Zv X NC scope C s3 H3 fp) Y E0 k:=by
 refine ⟨⟨G.gk.K,G.gk.mg,G.gk.gd,G.gk.g,G.gk.bare⟩,rfl,(fun h=>by cases h),fun x hx=>?_,fun x hx=>?_,nd,rfl,G.room,G.h60,Zf3,G.defs,G.blt,G.room1,G.cls,G.mts,G.mks⟩
 . show Vis (relabel scope X.env) x
   unfold Vis
   rw [ZaG]
   unfold ZmQ at hx
   rw [Bool.or_eq_true,Bool.or_eq_true] at hx
   rcases hx with (hx|hx)|hx
   . rw [of_decide_eq_true hx];exact .inl rfl
   . rw [of_decide_eq_true hx];exact .inr (.inl rfl)
   . rw [of_decide_eq_true hx]
     by_cases q:(X.env.scope.kind==.function&&X.env.kindOf x==some .cell)=true
     . refine .inr (.inl ?_)
       have:(NameKind.free==NameKind.free&&X.env.scope.kind==.function&&X.env.kindOf x==some .cell)=true:=by simpa using q
       simp only [Option.map_some,this,if_true]
     . refine .inr (.inr ?_)
       have:¬ ((NameKind.free==NameKind.free&&X.env.scope.kind==.function&&X.env.kindOf x==some .cell)=true):=by simpa using q
       simp only [Option.map_some,this,if_false]
       rfl
 . show (relabel scope X.env).names.lookup x=some .globalImplicit
   rw [ZaG,hx]
   rfl
section
variable {T:Tb}{Y:Yx}{E:XK}{Z:L2.St}{H:Hp}{Q:VK}
theorem Zm1{a b:Ex}{f:D->D->Hd->R D}{S:Ev}{h:Hd}{B:List Addr}(rh:RH Y H B h)(rs:RS Y H B S Z)(q:Fin Y (RD Y) H B ((ev T a S h).bind fun x h1=>(ev T b S h1).bind fun y h2=>f x y h2) Q E) :
   ZbD T Y E a Z H fun x H1=>ZbD T Y E b Z H1 fun y H2=>rB Y E f x y H2 Q :=
 ⟨S,h,B,rh,rs,q.bind fun d h1 x H1 μ1 _ g rh1 rd f1=>⟨S,h1,μ1,rh1,rs.mono rh g,f1.bind fun e h2 y H2 μ2 _ g2 rh2 re f2=>⟨d,e,h2,μ2,rh2,rd.mono rh1 g2,re,f2⟩⟩⟩
end
theorem Zqk{T:Tb}{Γ:Gm}{X:Cx}{Y:Yx}{E:XK}{k:Nat}(G:Gd T Γ X Y E k)(f:Bf)(hb:bok f=true){e:Expr}{es:List Expr}{t:TA}{p pos:Pos}(hg:Gl X (Zmy f))(ha:PA X (e::es) t)
   (he:starEach (e::es) X.env=(false,eval e X.env)::starEach es X.env) (hpl:(backTo pos (starEach es X.env)).any (·.1)=false):PE X (.Call (.Name (Zmy f) p) (e::es) [] pos) (tCB (rF Y E (Z5 T.GD f)) t):=by
 have hY:=G.gk.K
 cases f with
 | len=>exact ZdF (Zok hY) hg (G.blt _ (by decide)) (by decide +kernel) ha (by decide) (by decide) he hpl
 | isi=>exact ZdF (Zol hY) hg (G.blt _ (by decide)) (by decide +kernel) ha (by decide) (by decide) he hpl
 | int=>cases hb
 | tup=>exact Zka (Zoh hY) hg (G.blt _ (by decide)) (by decide +kernel) ha (by decide) (by decide) he hpl
 | lst=>cases hb
 | sum=>exact ZdF (Zoi G.room.hd hY) hg (G.blt _ (by decide)) (by decide +kernel) ha (by decide) (by decide) he hpl
 | all=>cases hb
 | mx=>cases hb
 | srt=>exact ZdF (Zoj G.room.hd G.gk) hg (G.blt _ (by decide)) (by decide +kernel) ha (by decide) (by decide) he hpl
end IV
end
section
namespace IV
open PySem PySem.Spec PyProof.Rows L2
theorem Zmm{T:Tb}{Γ:Gm}{X:Cx}{Y:Yx}{E:XK}{k:Nat}(G:Gd T Γ X Y E k){d:D}{x:Expr}(h:Zmp Γ d x=true):PE X x (ZbD T Y E (.cst d)):=by
 have go:∀ {v:V},(∀ H B,RD Y H B d v)->PE X x (tC v)->PE X x (ZbD T Y E (.cst d)):=fun {v} rd p=>PE.imp p fun Z H Q ⟨S,h,B,rh,rs,f⟩=>Fin.ok (r:=rd H B) (show Fin Y (RD Y) H B (.ok d h) Q E from f) rh
 unfold Zmp at h
 split at h
 . have e:=of_decide_eq_true h
   subst e
   exact go (fun _ _=>.int _) Zlm
 . rw [Oa] at h
   have e:=of_decide_eq_true h.1
   subst e
   exact go (fun _ _=>.str _ h.2) Zpy
 . have e:=of_decide_eq_true h
   subst e
   exact go (fun _ _=>.bl _) Zrl
 . exact go (fun _ _=>.non) ZpA
 . rename_i n x _
   rw [Oa,Oa] at h
   obtain ⟨⟨h1,h2⟩,h3⟩:=h
   have e:=of_decide_eq_true h2
   subst e
   obtain ⟨g1,g2⟩:=G.gl h3
   have hn:=of_decide_eq_true h1
   have all:(Zi4.all fun n=>decide (bootBuiltins (Str.ofString n)=some (.type n))&&decide (Str.ofString n ≠ "__name__")&&decide (Str.ofString n∈(["len", "isinstance", "int", "tuple", "list", "sum", "all", "sorted", "range", "enumerate", "reversed", "str", "bool", "max"]:List Str)))=true:=by decide +kernel
   rw [OC] at all
   have a:=all n hn
   rw [Oa,Oa] at a
   exact go (fun _ _=>.ty _) (Znx g1 (G.blt _ (of_decide_eq_true a.2)) (of_decide_eq_true a.1.1) rfl (of_decide_eq_true a.1.2) g2)
 . cases h
theorem R.bind_eq{α β:Type}{r:R α}{k:α->Hd->R β}{b:β}{h:Hd}(e:r.bind k=.ok b h):∃ a h1,r=.ok a h1/\k a h1=.ok b h:=by
 cases r with
 | bad=>cases e
 | ok a h1=>exact ⟨a,h1,rfl,e⟩
 | exc c h1=>cases e
theorem R.bind_assoc{α β γ:Type}{r:R α}{k:α->Hd->R β}{l:β->Hd->R γ}:(r.bind k).bind l=r.bind fun a h=>(k a h).bind l:=by cases r<;>rfl
theorem ZpN{GD:Str->Option (List (Key×D))}{op:CmpOp}{x y r:D}{h h':Hd}(e:opC GD op x y h=.ok r h'):∃ b,r=.bl b:=by
 have i2:∀ {f:Int->Int->Bool},Zgl f x y h=.ok r h'->∃ b,r=.bl b:=fun e=>by
   unfold Zgl at e
   split at e
   . cases e;exact ⟨_,rfl⟩
   . cases e
 have eq:∀ {n:Bool},Zbi n x y h=.ok r h'->∃ b,r=.bl b:=fun e=>by
   unfold IV.Zbi at e
   split at e
   . split at e
     . cases e;exact ⟨_,rfl⟩
     . cases e
   . cases e
 have inn:∀ {n:Bool},ZbE GD n x y h=.ok r h'->∃ b,r=.bl b:=fun e=>by
   unfold ZbE at e
   split at e
   . split at e
     . cases e;exact ⟨_,rfl⟩
     . cases e
   . split at e
     . cases e;exact ⟨_,rfl⟩
     . cases e
 have n1:∀ {n:Bool},opN n x y h=.ok r h'->∃ b,r=.bl b:=fun e=>by
   unfold opN at e
   split at e
   . cases e;exact ⟨_,rfl⟩
   . cases e
 unfold opC at e
 split at e
 . exact eq e
 . exact eq e
 . exact i2 e
 . exact i2 e
 . exact i2 e
 . exact i2 e
 . exact inn e
 . exact inn e
 . exact n1 e
 . exact n1 e
theorem ZrB (m:Mf):Slot "list" (ZoG m) (mid m)/\typeOf (.builtin (mid m))=pure (.type "method_descriptor"):=by
 cases m with
 | app=>exact ⟨PySem.F.slot_list_append,PySem.F.type_list_append⟩
 | ext=>exact ⟨PySem.F.slot_list_extend,PySem.F.type_list_extend⟩
 | pop=>exact ⟨PySem.F.slot_list_pop,PySem.F.type_list_pop⟩
 | rev=>exact ⟨PySem.F.slot_list_reverse,PySem.F.type_list_reverse⟩
 | clr=>exact ⟨PySem.F.slot_list_clear,PySem.F.type_list_clear⟩
section
variable {Y:Yx}{α β α' β':Type}{rel:Hp->List Addr->α->β->Prop}{rel':Hp->List Addr->α'->β'->Prop}{H0 H H1:Hp}{μ0 B μ1:List Addr}{E:XK}
theorem Fin.bindB{r:R α}{k:α->Hd->R α'}{Q:β'->Hp->Prop}{Q1:β->Hp->Prop}(g0:Gr H0 μ0 H B)(f:Fin Y rel' H0 μ0 (r.bind k) Q E)
   (hk:∀ a h1 b H1 μ1,r=.ok a h1->Gr H B H1 μ1->RH Y H1 μ1 h1->rel H1 μ1 a b->Fin Y rel' H0 μ0 (k a h1) Q E->Q1 b H1):Fin Y rel H B r Q1 E:=by
 cases r with
 | bad=>exact f
 | ok a h=>exact fun b H' μ' g' rh rl=>hk a h b H' μ' rfl g' rh rl f
 | exc c h=>exact fun H' μ' C g'=>f H' μ' C (g0.trans g')
theorem Fin.plain{r:R α}{k:α->Hd->R α'}{Q:β'->Hp->Prop}{Q1:β->Hp->Prop}(f:Fin Y rel' H0 μ0 (r.plain.bind k) Q E)
   (hk:∀ a h1 b H1 μ1,r=.ok a h1->Gr H B H1 μ1->RH Y H1 μ1 h1->rel H1 μ1 a b->Fin Y rel' H0 μ0 (k a h1) Q E->Q1 b H1):Fin Y rel H B r Q1 E0:=by
 cases r with
 | bad=>exact f
 | ok a h=>exact fun b H' μ' g' rh rl=>hk a h b H' μ' rfl g' rh rl f
 | exc c h=>exact f.elim
end
noncomputable def Zhx:List Nat->TGs
 | []=>Zn5
 | i::is=>Zhy (Zdg i) (Zhx is)
noncomputable def tgR(K:PySem.W.Frag):Tg->TG
 | .nm i=>Zdg i
 | .two i j=>Zn4 K 2 (Zhy (Zdg i) (Zhy (Zdg j) Zn5))
 | .many is=>Zn4 K is.length (Zhx is)
theorem ZgY{k:Nat}:∀ is:List Nat,is.foldr max 0<k->ZhU k (Zhx is)
 | [],_=>Zi9
 | i::is,h=>by
   simp only [List.foldr_cons] at h
   exact ZeV (by omega) (ZgY is (by omega))
theorem ZqO(K:PySem.W.Frag)(g:Tg):ZmG (tgk g) (tgR K g):=by
 cases g with
 | nm i=>exact ZmU (OH i)
 | two i j=>exact ZkI (ZeV (show i<max i j+1 by omega) (ZeV (show j<max i j+1 by omega) Zi9))
 | many is=>exact ZkI (ZgY is (OH _))
theorem Zee{env:Env}{N:List Str}{own:Str->Bool}:∀ (is:List Nat) (es:List Expr),Zey N own is es=true->(assignEach es env).length=is.length/\List.findIdx? (fun x=>x.fst) (assignEach es env)=none
 | [],[],_=>⟨rfl,rfl⟩
 | i::is,e::es,h=>by
   unfold Zey at h
   split at h
   . rename_i h1 h2;cases h1
   . rename_i h1 h2
     cases h1;cases h2
     rw [Oa,Oa] at h
     obtain ⟨a,b⟩:=Zee (env:=env) is _ h.2
     constructor
     . simp [assignEach,a]
     . simp only [assignEach,List.findIdx?_cons,b]
       rfl
   . cases h
 | [],_::_,h=>by cases h
 | _::_,[],h=>by simp [Zey] at h
theorem Zhh{X:Cx}{N:List Str}{own:Str->Bool}(hN:X.N=N)(nd:X.N.Nodup)(ho:∀ x,own x=true->Loc X.env.scope x/\(X.fn x=true\/X.env.scope.names.lookup x=some .local)):∀ (is:List Nat) (es:List Expr),Zey N own is es=true->PGs X es (Zhx is)
 | [],[],_=>Zjn
 | i::is,e::es,h=>by
   unfold Zey at h
   split at h
   . rename_i h1 h2;cases h1
   . rename_i h1 h2
     cases h1;cases h2
     rw [Oa,Oa] at h
     obtain ⟨o1,o2⟩:=ho _ h.1.2
     exact Zfe (ZeK nd (by rw [hN];exact of_decide_eq_true h.1.1) o1 o2) (Zhh hN nd ho is _ h.2)
   . cases h
 | [],_::_,h=>by cases h
 | _::_,[],h=>by simp [Zey] at h
theorem Zjo{X:Cx}{N:List Str}{own:Str->Bool}{g:Tg}{tg:Expr}(hN:X.N=N)(nd:X.N.Nodup)(hc:X.calm=true)(ho:∀ x,own x=true->Loc X.env.scope x/\(X.fn x=true\/X.env.scope.names.lookup x=some .local))(h:Zeg N own g tg=true):PG X tg (tgR X.K g):=by
 unfold Zeg at h
 split at h
 . rw [Oa] at h
   obtain ⟨o1,o2⟩:=ho _ h.2
   exact ZeK nd (by rw [hN];exact of_decide_eq_true h.1) o1 o2
 . rw [Oa,Oa,Oa] at h
   obtain ⟨⟨⟨h1,h2⟩,h3⟩,h4⟩:=h
   obtain ⟨o1,o2⟩:=ho _ h2
   obtain ⟨p1,p2⟩:=ho _ h4
   exact Zlh hc (Zfe (ZeK nd (by rw [hN];exact of_decide_eq_true h1) o1 o2) (Zfe (ZeK nd (by rw [hN];exact of_decide_eq_true h3) p1 p2) Zjn))
 . exact Zlh (hn:=(Zee _ _ h).1) (hst:=(Zee _ _ h).2) hc (Zhh hN nd ho _ _ h)
 . cases h
theorem Zju{Y:Yx}{H:Hp}{B:List Addr}{Q:L2.St->Hp->Prop}:∀ (is:List Nat) {ds:List D}{vs:List V}{S:Ev}{Z:L2.St},RDs Y H B ds vs->RS Y H B S Z->ds.length=is.length->(∀ σ1,RS Y H B (Zh2 is ds S) σ1->Q σ1 H)->Zhx is vs Z H Q
 | [],ds,vs,S,Z,r,rs,hl,q=>by
   cases r with
   | nil=>exact ⟨rfl,q _ rs⟩
   | cons a s=>simp at hl
 | i::is,ds,vs,S,Z,r,rs,hl,q=>by
   cases r with
   | nil=>simp at hl
   | cons a s=>exact ⟨_,_,rfl,Zju is s (rs.set a) (by simpa using hl) q⟩
theorem ZgO{Y:Yx}{K:PySem.W.Frag}{H:Hp}{B:List Addr}{g:Tg}{d:D}{v:V}{S ρ1:Ev}{Z:L2.St}{Q:L2.St->Hp->Prop}(hY:Y.K=K)(r:RD Y H B d v)(rs:RS Y H B S Z)(e:Zcm g d S=some ρ1)(q:∀ σ1,RS Y H B ρ1 σ1->Q σ1 H):tgR K g v Z H Q:=by
 cases g with
 | nm i =>
   cases e
   exact q _ (rs.set r)
 | two i j =>
   unfold Zcm at e
   simp only at e
   split at e
   . cases e
     obtain ⟨a,vs,rfl,t,s⟩:=r.tup_inv
     obtain ⟨x,y,rfl,r1,r2⟩:=s.two
     exact ⟨a,_,rfl,hY ▸ t,rfl,x,_,rfl,y,_,rfl,rfl,q _ ((rs.set r1).set r2)⟩
   . cases e
 | many is =>
   unfold Zcm at e
   simp only at e
   split at e
   . split at e
     . rename_i hl
       cases e
       obtain ⟨a,vs,rfl,t,s⟩:=r.tup_inv
       exact ⟨a,vs,rfl,hY ▸ t,by rw [<- s.length,hl],Zju is s rs hl q⟩
     . cases e
   . cases e
section
variable {Y:Yx}{H:Hp}{B:List Addr}{h:Hd}{Dd:Addr}{ys zs:List V}
theorem ZkL{K:PySem.W.Frag}(hD:H Dd=some (.lst ys)){a:Addr}{vs:List V}(t:SqT K H a vs):SqT K (upd H Dd (.lst zs)) a vs:=by
 rcases t with t|t
 . rcases t with t|⟨o,t⟩
   . exact .inl (.inl (by rw [Zc (fun z=>by rw [z,hD] at t;cases t)];exact t))
   . exact .inl (.inr ⟨o,by rw [Zc (fun z=>by rw [z,hD] at t;cases t)];exact t⟩)
 . exact .inr t
theorem Zl4{K:PySem.W.Frag}(hD:H Dd=some (.lst ys)){a:Addr}{vs:List V}(t:FzL K H a vs):FzL K (upd H Dd (.lst zs)) a vs:=by
 rcases t with ⟨o,t⟩|t
 . exact .inl ⟨o,by rw [Zc (fun z=>by rw [z,hD] at t;cases t)];exact t⟩
 . exact .inr t
mutual
theorem RD.swap(hD:H Dd=some (.lst ys)):∀ {d:D}{v:V},RD Y H B d v->RD Y (upd H Dd (.lst zs)) B d v
 | _,_,.non=>.non
 | _,_,.bl b=>.bl b
 | _,_,.int i=>.int i
 | _,_,.str x ok=>.str x ok
 | _,_,.tup t s=>.tup (ZkL hD t) (RDs.swap hD s)
 | _,_,.ref e=>.ref e
 | _,_,.ty n=>.ty n
 | _,_,.ro t s=>.ro (Zl4 hD t) (RDs.swap hD s)
 | _,_,.kd e=>.kd e
theorem RDs.swap(hD:H Dd=some (.lst ys)):∀ {d:List D}{v:List V},RDs Y H B d v->RDs Y (upd H Dd (.lst zs)) B d v
 | _,_,.nil=>.nil
 | _,_,.cons a s=>.cons (RD.swap hD a) (RDs.swap hD s)
end
theorem RKs.swap{κ:Type}(hD:H Dd=some (.lst ys)):∀ {d:List (κ×D)}{v:List (κ×V)},RKs Y H B d v->RKs Y (upd H Dd (.lst zs)) B d v
 | _,_,.nil=>.nil
 | _,_,.cons a s=>.cons (a.swap hD) (s.swap hD)
theorem RH.swap(hD:H Dd=some (.lst ys))(hn:Dd ∉ B)(r:RH Y H B h):RH Y (upd H Dd (.lst zs)) B h:=by
 refine ⟨r.len,r.nd,fun i o a e1 e2=>?_,r.ks⟩
 have ne:a≠Dd:=fun z=>hn (z ▸ O1 e2)
 have q:=r.ob i o a e1 e2
 cases o with
 | lst ds=>obtain ⟨vs,z,s⟩:=q;exact ⟨vs,by rw [Zc ne];exact z,s.swap hD⟩
 | dic ds=>obtain ⟨vs,z,s⟩:=q;exact ⟨vs,by rw [Zc ne];exact z,s.swap hD⟩
 | ins C ds=>obtain ⟨a1,a2,a3,z,m,s⟩:=q;exact ⟨a1,a2,a3,by rw [Zc ne];exact z,m,s.swap hD⟩
 | fdic ds=>obtain ⟨o,vs,z,s⟩:=q;exact ⟨o,vs,by rw [Zc ne];exact z,s.swap hD⟩
theorem Gr.out{H':Hp}{μ':List Addr}(g:Gr H B H' μ'){o:HO}(hD:H Dd=some o)(hn:Dd ∉ B):H' Dd=some o/\Dd ∉ μ' :=
 ⟨g.keep _ _ hn hD,fun hm=>(g.new _ hm).elim hn fun z=>by rw [hD] at z;cases z⟩
end
section
variable {Y:Yx}{H:Hp}{B:List Addr}{p:Addr}
mutual
theorem RD.more:∀ {d:D}{v:V},RD Y H B d v->RD Y H (B++[p]) d v
 | _,_,.non=>.non
 | _,_,.bl b=>.bl b
 | _,_,.int i=>.int i
 | _,_,.str x ok=>.str x ok
 | _,_,.tup t s=>.tup t (RDs.more s)
 | _,_,.ref e=>.ref (by rw [Oe (Ob.mp e).1];exact e)
 | _,_,.ty n=>.ty n
 | _,_,.ro t s=>.ro t (RDs.more s)
 | _,_,.kd e=>.kd e
theorem RDs.more:∀ {d:List D}{v:List V},RDs Y H B d v->RDs Y H (B++[p]) d v
 | _,_,.nil=>.nil
 | _,_,.cons a s=>.cons (RD.more a) (RDs.more s)
end
theorem RKs.more{κ:Type}:∀ {d:List (κ×D)}{v:List (κ×V)},RKs Y H B d v->RKs Y H (B++[p]) d v
 | _,_,.nil=>.nil
 | _,_,.cons a s=>.cons a.more s.more
theorem RO.more{a:Addr}{o:DO}(q:RO Y H B a o):RO Y H (B++[p]) a o:=by
 cases o with
 | lst ds=>obtain ⟨vs,z,s⟩:=q;exact ⟨vs,z,s.more⟩
 | dic ds=>obtain ⟨vs,z,s⟩:=q;exact ⟨vs,z,s.more⟩
 | ins C ds=>obtain ⟨a1,a2,a3,z,m,s⟩:=q;exact ⟨a1,a2,a3,z,m,s.more⟩
 | fdic ds=>obtain ⟨o,vs,z,s⟩:=q;exact ⟨o,vs,z,s.more⟩
end
theorem ZjJ{T:Tb}{Y:Yx}{E:XK}{K:PySem.W.Frag}(hY:Y.K=K){js:List (Option Nat)}{g:Tg}{c:Option Tx}{e:Ex}{tc:TT}{J:It}{w:Wk}{H1:Hp}{μ1:List Addr}{h1:Hd}{S:Ev}{Z:L2.St}{Q:VK}{Dd:Addr}
   (htc:∀ Z H Q,(∃ S h B,RH Y H B h/\RS Y H B S Z/\Fin Y (fun _ _ (a b:Bool)=>a=b) H B (tsto T c S h) Q E0)->tc Z H Q)
   (rh:RH Y H1 μ1 h1) (rs:RS Y H1 μ1 S Z) (wj:WJ Y H1 μ1 w J) (f:Fin Y (RD Y) H1 μ1 ((Zx w.src g (tsto T c) (ev T e) w.xs (ZaM js S) [] h1).bind fun xs h2=>Zcp (.lst xs) h2) Q E) (hD:H1 Dd=none) :
   ∃ W:Nat->Nat->List V->Hp->Prop,(∃ m,W 0 m [] (upd H1 Dd (.lst []))) /\
     ∀ i m ys H,W i m ys H->H Dd=some (.lst ys)->(J.stop i H/\Q (.ref Dd) H) \/
       (J.go i H/\ys.length<sizeLine/\∀ x H',J.yld i H x H'->tgR K g x (capt js Z) H' fun σ2 H2=>tc σ2 H2 fun b H3 =>
         if b=true then ZbD T Y E0 e σ2 H3 fun y H4=>H4 Dd=some (.lst ys)/\∃ m',m'<m/\W (i+1) m' (ys++[y]) (upd H4 Dd (.lst (ys++[y])))
         else H3 Dd=some (.lst ys)/\∃ m',m'<m/\W (i+1) m' ys H3):=by
 have n1:Dd ∉ μ1:=fun z=>by have:=rh.mut z;rw [hD] at this;exact this
 refine ⟨fun i m ys H=>∃ acc h B,i<=w.xs.length/\m=w.xs.length - i/\Gr H1 μ1 H B/\RH Y H B h/\RDs Y H B acc ys/\Dd ∉ B /\
   Fin Y (RD Y) H1 μ1 ((Zx w.src g (tsto T c) (ev T e) (w.xs.drop i) (ZaM js S) acc h).bind fun xs h2=>Zcp (.lst xs) h2) Q E,⟨w.xs.length,[],h1,μ1,Nat.zero_le _,by simp,Gr.lay0 hD,rh.lay0 hD,.nil,n1,f⟩,?_⟩
 rintro i m ys H ⟨acc,h,B,hi,rfl,g1,rh1,ra,nD,f1⟩ hl
 by_cases hlt:i<w.xs.length
 . obtain ⟨d,hd⟩:∃ d,w.xs[i]? = some d:=⟨_,Og hlt⟩
   have hdrop:w.xs.drop i=d::w.xs.drop (i+1):=by
     rw [List.drop_eq_getElem_cons hlt]
     have:=Og hlt
     rw [hd] at this
     rw [<- Option.some.inj this]
   rw [hdrop,Zx] at f1
   by_cases hs:Wk.stays w.src h=true/\acc.length<sizeLine
   . rw [if_pos hs] at f1
     obtain ⟨go,yl⟩:=(wj H B h g1 rh1 hs.1).1 i d hd
     refine .inr ⟨go,by rw [<- ra.length];exact hs.2,fun x H' hy=>?_⟩
     obtain ⟨g2,rh2,rx⟩:=yl x H' hy
     obtain ⟨hl2,nD2⟩:=g2.out hl nD
     have g02:=g1.trans g2
     split at f1
     . exact f1.elim
     . rename_i ρ1 hb
       refine ZgO hY rx ((rs.mono rh g02).capt js) hb fun σ1 rs1=>htc σ1 H' _ ⟨ρ1,h,B,rh2,rs1,?_⟩
       rw [R.bind_assoc] at f1
       refine Fin.plain f1 fun b h3 b' H3 μ3 _ g3 rh3 eb f3=>?_
       subst eb
       obtain ⟨hl3,nD3⟩:=g3.out hl2 nD2
       have g03:=g02.trans g3
       cases b with
       | true =>
         rw [if_pos rfl] at f3 ⊢
         rw [R.bind_assoc] at f3
         refine ⟨ρ1,h3,μ3,rh3,rs1.mono rh2 g3,Fin.plain f3 fun y h4 y' H4 μ4 _ g4 rh4 ry f4=>?_⟩
         obtain ⟨hl4,nD4⟩:=g4.out hl3 nD3
         refine ⟨hl4,_,Nat.sub_lt_sub_left hlt (OH i),acc++[y],h4,μ4,hlt,rfl,?_,rh4.swap hl4 nD4,?_,nD4,f4⟩
         . have g04:=g03.trans g4
           exact ⟨g04.pre,g04.new,fun b o hb e=>by rw [Zc (fun z=>by rw [z,hD] at e;cases e)];exact g04.keep b o hb e,fun b u v e=>by rw [Zc (fun z=>by rw [z,hD] at e;cases e)];exact g04.fz b u v e⟩
         . exact ((((ra.mono rh1 g2).mono rh2 g3).mono rh3 g4).append (.cons ry .nil)).swap hl4
       | false =>
         rw [if_neg (by decide)] at f3 ⊢
         exact ⟨hl3,_,Nat.sub_lt_sub_left hlt (OH i),acc,h3,μ3,hlt,rfl,g03,rh3,(ra.mono rh1 g2).mono rh2 g3,nD3,f3⟩
   . rw [if_neg hs] at f1
     exact f1.elim
 . have he:i=w.xs.length:=by omega
   subst he
   rw [List.drop_eq_nil_of_le (Oq _),Zx] at f1
   by_cases hs:Wk.stays w.src h=true
   . rw [if_pos hs] at f1
     refine .inl ⟨(wj H B h g1 rh1 hs).2,?_⟩
     have f2:Fin Y (RD Y) H1 μ1 (.ok (.ref h.length) (h++[.lst acc])) Q E:=f1
     have gg:Gr H B H (B++[Dd])->True:=fun _=>trivial
     have g3:Gr H1 μ1 H (B++[Dd]):=by
       refine ⟨fun j a e=>?_,fun a ha=>?_,g1.keep,g1.fz⟩
       . have:=g1.pre j a e
         rw [Oe (Ob.mp this).1];exact this
       . rcases OD.mp ha with z|z
         . exact g1.new a z
         . rw [Ox.mp z];exact .inr hD
     refine f2.at g3 ?_ (.ref (by rw [rh1.len];simp))
     have pre:∀ {d:D}{v:V},RD Y H B d v->RD Y H (B++[Dd]) d v:=fun r=>r.more
     refine ⟨by simp [rh1.len],?_,fun j o a e1 e2=>?_,Zip rh1.ks trivial⟩
     . rw [List.nodup_append]
       refine ⟨rh1.nd,by simp,fun a ha b hb=>?_⟩
       rw [Ox.mp hb]
       intro z
       exact nD (z ▸ ha)
     . by_cases hj:j<h.length
       . rw [Oe hj] at e1
         rw [Oe (by rw [<- rh1.len];exact hj)] at e2
         exact (rh1.ob j o a e1 e2).more
       . have hj':j=h.length:=by
           have:=(Ob.mp e1).1
           simp at this
           omega
         subst hj'
         rw [Om (Oq _)] at e1
         rw [Om (by rw [rh1.len];exact Oq _)] at e2
         simp [rh1.len] at e1 e2
         subst e1
         subst e2
         exact ⟨ys,hl,ra.more⟩
   . rw [if_neg hs] at f1
     exact f1.elim
end IV
end
section
namespace IV
open PySem PySem.Spec PyProof.Rows L2
section
variable {Y:Yx}{H:Hp}{B:List Addr}{h:Hd}
theorem RKs.look{f:Str}:∀ {fs:List (Str×D)}{gs:List (Str×V)},RKs Y H B fs gs->(∀ d,fs.lookup f=some d->∃ v,gs.lookup f=some v/\RD Y H B d v)/\(fs.lookup f=none->gs.lookup f=none)
 | _,_,.nil=>⟨fun d e=>by simp at e,fun _=>rfl⟩
 | _,_,.cons (k:=k) (d:=d0) (v:=v0) a s=>by
   by_cases e:f=k
   . subst e
     exact ⟨fun d z=>by simp at z;subst z;exact ⟨_,by simp,a⟩,fun z=>by simp at z⟩
   . have b:(f==k)=false:=by simpa using e
     obtain ⟨q1,q2⟩:=RKs.look (f:=f) s
     refine ⟨fun d z=>?_,fun z=>?_⟩
     . rw [OF,b] at z ⊢
       exact q1 d z
     . rw [OF,b] at z ⊢
       exact q2 z
theorem RKs.putAF{f:Str}{d:D}{v:V}(r:RD Y H B d v):∀ {fs:List (Str×D)}{gs:List (Str×V)},RKs Y H B fs gs->RKs Y H B (Zj3 f d fs) (ZbP f v gs)
 | _,_,.nil=>.cons r .nil
 | _,_,.cons (k:=k) a s=>by
   unfold Zj3 ZbP
   by_cases e:k=f
   . rw [if_pos e,if_pos e];exact .cons r s
   . rw [if_neg e,if_neg e];exact .cons a (RKs.putAF r s)
theorem Zfr(rh:RH Y H B h){d:D}{v:V}{C:Str}{fs:List (Str×D)}(r:RD Y H B d v)(e:Zaa d h=some (C,fs)):∃ i a Ca dx gs,d=.ref i/\v=.ref a/\B[i]? = some a/\h[i]? = some (.ins C fs)/\H a=some (.ins Ca dx gs)/\Y.mg C=some (.ref Ca)/\RKs Y H B fs gs:=by
 unfold Zaa at e
 split at e
 . rename_i i
   split at e
   . rename_i C' fs' hi
     cases e
     cases r with
     | ref q =>
       rename_i a
       obtain ⟨Ca,dx,gs,z,m,s⟩:=rh.ob i _ a hi q
       exact ⟨i,a,Ca,dx,gs,rfl,rfl,q,hi,z,m,s⟩
   . cases e
 . cases e
theorem ZnQ{C:Str}{x dx Ca:Addr}(rh:RH Y H B h)(hx:H x=none)(hd:H dx=none)(ne:dx≠x)(m:Y.mg C=some (.ref Ca)):RH Y (upd (upd H dx (.own x)) x (.ins Ca dx [])) (B++[x]) (h++[.ins C []])/\Gr H B (upd (upd H dx (.own x)) x (.ins Ca dx [])) (B++[x]):=by
 have hx':upd H dx (.own x) x=none:=by rw [Zc (fun z=>ne z.symm)];exact hx
 exact ⟨(rh.lay0 hd).lay hx' ⟨Ca,dx,[],Zh,m,.nil⟩,(Gr.lay0 hd).trans (Gr.lay hx')⟩
end
theorem Zki{o:Expr}{name:Str}{apos pos:Pos}{args:List Expr}{env:Env}(hbase:attributeBase o name env (eval o env)=eval o env)
   (hform:methodCallForm (args.length+([]:List Keyword).length) (backTo pos (starEach args env)) (backToKw pos (keywordEach [] env))=true) (hline:(apos.endLine==pos.line)=true) :
   eval (.Call (.Attribute o name apos) args [] pos) env=(do
     let ov <- eval o env
     standAt apos.atName
     let (f,first) <- holding [ov] (getMethod ov name (do return (<- importBound o env).getD true))
     callWith pos f first (backTo pos (starEach args env)) (backToKw pos (keywordEach [] env))):=by
 have hpos:methodCallPos true o env apos pos=pure pos:=by unfold methodCallPos;simp [hline]
 rw [arm_eval_Call,hbase]
 unfold methodCall
 simp only [hform,hpos]
 rfl
section
variable {T:Tb}{Γ:Gm}{X:Cx}{Y:Yx}{E:XK}{k:Nat}
theorem Zqp(G:Gd T Γ X Y E k){Cs:List Str}{f:Str}(hc:(Cs.all fun C=>decide (C∈Γ.kl.cs))=true)(hf:f∈Γ.kl.ats){H:Hp}{B:List Addr}{h:Hd}{d:D}{x:V}{Q:VK}(rh:RH Y H B h)(rd:RD Y H B d x)(ff:Fin Y (RD Y) H B (ZgB Cs f d h) Q E) :
   ∃ a C dx fs v,x=.ref a/\H a=some (.ins C dx fs)/\Cls X.K C/\ZaS X.K C f/\fs.lookup f=some v/\Q v H:=by
 unfold ZgB at ff
 split at ff
 . rename_i C fs e
   obtain ⟨hC,ff⟩:=ff.iff
   obtain ⟨i,a,Ca,dx,gs,rfl,rfl,q,hi,z,m,s⟩:=Zfr rh rd e
   obtain ⟨w,e1,ff⟩:=ff.ofO
   obtain ⟨v,l,rv⟩:=(s.look (f:=f)).1 w e1
   rw [OC] at hc
   obtain ⟨Ca',m',cl,na⟩:=G.cls C (of_decide_eq_true (hc C hC))
   rw [G.gk.mg,m'] at m
   cases m
   exact ⟨a,Ca,dx,gs,v,rfl,z,cl,na f hf,l,ff.ok rh rv⟩
 . exact ff.elim
theorem ZkQ(G:Gd T Γ X Y E k){Cs:List Str}{f:Str}(hc:(Cs.all fun C=>decide (C∈Γ.kl.cs))=true)(hf:f∈Γ.kl.ats){H:Hp}{B:List Addr}{h:Hd}{d e:D}{x y:V}{Q:VK}(rh:RH Y H B h)(rd:RD Y H B d x)(re:RD Y H B e y)(ff:Fin Y (RD Y) H B (Zgi Cs f d e h) Q E) :
   ∃ a C dx fs,x=.ref a/\H a=some (.ins C dx fs)/\Cls X.K C/\ZaS X.K C f/\fs.length<1000/\Q .non (upd H a (.ins C dx (ZbP f y fs))):=by
 unfold Zgi at ff
 split at ff
 . rename_i i
   split at ff
   . rename_i C fs hi
     obtain ⟨⟨hC,hl⟩,ff⟩:=ff.iff
     obtain ⟨i',a,Ca,dx,gs,e1,rfl,q,hi',z,m,s⟩:=Zfr rh rd (show Zaa (.ref i) h=some (C,fs) by simp [Zaa,hi])
     cases e1
     rw [OC] at hc
     obtain ⟨Ca',m',cl,na⟩:=G.cls C (of_decide_eq_true (hc C hC))
     have m0:=m
     rw [G.gk.mg,m'] at m
     cases m
     refine ⟨a,Ca,dx,gs,rfl,z,cl,na f hf,by rw [<- s.length];exact hl,ff.at (Gr.write (O1 q) (by rw [z];trivial)) (rh.write q ?_ (by rw [z];trivial)) .non⟩
     exact ⟨Ca,dx,_,Zh,m0,(RKs.putAF re s).mono rh (Gr.write (O1 q) (by rw [z];trivial))⟩
   . exact ff.elim
 . exact ff.elim
theorem ZrC(G:Gd T Γ X Y E k){C:Str}{es:Exs}{ys:List Expr}{p pos:Pos}(h2:C∈Γ.kl.is)(h3:glb Γ C=true)(h4:chks Γ es ys=true)(ha:PA X ys (Zm0 T Y E es)):PE X (.Call (.Name C p) ys [] pos) (ZbD T Y E (.mk C es)):=by
 obtain ⟨a,f,fd,ps,m,M,F,B_⟩:=G.mks _ h2
 obtain ⟨g1,g2⟩:=G.gl h3
 have key:∀ (ds:List D) (h1:Hd) (xs:List V) (H1:Hp) (μ1:List Addr) (Q:VK),RH Y H1 μ1 h1->RDs Y H1 μ1 ds xs->Fin Y (RD Y) H1 μ1 (Zlz T.C C ds h1) Q E->∀ x dx,H1 x=none->H1 dx=none->dx≠x ->
     ZeC T Y (mnm C (O "__init__")) (.ref x::(xs++[])) (upd (upd H1 dx (.own x)) x (.ins a dx [])) (fun v H2=>v=.non/\Q (.ref x) H2) E:=by
   intro ds h1 xs H1 μ1 Q rh1 rds f1 x dx hx hd ne
   obtain ⟨rh2,g2⟩:=ZnQ (C:=C) (Ca:=a) rh1 hx hd ne (by rw [G.gk.mg];exact m)
   have px:(μ1++[x])[h1.length]? = some x:=by rw [rh1.len];simp
   refine ⟨.ref h1.length::ds,h1++[.ins C []],μ1++[x],rh2,.cons (.ref px) (by rw [List.append_nil];exact rds.mono rh1 g2),?_⟩
   refine Fin.bind (Fin.mono g2 f1) fun d h3 v H3 μ3 _ g3 rh3 rd3 f3=>?_
   cases d with
   | non=>cases rd3;exact ⟨rfl,f3.ok rh3 (.ref (g3.pre _ _ px))⟩
   | _=>exact f3.elim
 cases ys with
 | nil =>
   cases es with
   | nil=>exact (Zll M F G.room1 g1 m B_ .nil G.pass g2).imp fun Z H Q ⟨S,h,B,rh,rs,f⟩=>key [] h [] H B Q rh .nil f
   | cons e r=>unfold chks at h4;cases h4
 | cons y ys =>
   have st:Z3 y=true:=by
     cases es with
     | nil=>unfold chks at h4;cases h4
     | cons e r=>unfold chks at h4;rw [Oa,Oa] at h4;exact h4.1.2
   have sp:∀ pos,(backTo pos (starEach ys X.env)).any (·.1)=false:=by
     cases es with
     | nil=>unfold chks at h4;cases h4
     | cons e r=>unfold chks at h4;rw [Oa,Oa] at h4;exact ZbV Γ X.env r ys h4.2
   exact (Znr M F G.room1 g1 m B_ .nil G.pass ha g2 (Zl X.env st) (sp _)).imp fun Z H Q ⟨S,h,B,rh,rs,f⟩=>⟨S,h,B,rh,rs,Fin.bind f fun ds h1 xs H1 μ1 _ g rh1 rds f1=>key ds h1 xs H1 μ1 Q rh1 rds f1⟩
theorem ZpT(G:Gd T Γ X Y E k){C n:Str}{o:Ex}{es:Exs}{xo:Expr}{ys:List Expr}{ap cp:Pos}(h5:(C,n)∈Γ.kl.ms)(h3:Zcx xo=true)(h4:chks Γ es ys=true)(h6:ys.length<29)(h7:(ap.endLine==cp.line)=true)(ho:PE X xo (ZbD T Y E o))(ha:PA X ys (Zm0 T Y E es)) :
   PE X (.Call (.Attribute xo n ap) ys [] cp) (ZbD T Y E (.mcl C n o es)):=by
 obtain ⟨a,f,fd,ps,mm,c,hm,F,B_⟩:=G.mts _ h5
 have hform:methodCallForm (ys.length+([]:List Keyword).length) (backTo cp (starEach ys X.env)) (backToKw cp (keywordEach [] X.env))=true:=by
   unfold methodCallForm
   rw [Zd2 Γ X.env es ys h4]
   have h30:decide (ys.length+([]:List Keyword).length+(if (backToKw cp (keywordEach [] X.env)).isEmpty then 0 else 1)<30)=true:=by
     rw [decide_eq_true_eq]
     show ys.length+0+0<30
     omega
   rw [h30]
   rfl
 have ht:=Zki (o:=xo) (name:=n) (apos:=ap) (pos:=cp) (args:=ys) (env:=X.env) (ZeR h3) hform h7
 have key:∀ (d:D) (h1:Hd) (x:V) (H1:Hp) (μ1:List Addr) (S:Ev) (Z:L2.St) (Q:VK),RH Y H1 μ1 h1->RS Y H1 μ1 S Z->RD Y H1 μ1 d x->Fin Y (RD Y) H1 μ1 (match Zaa d h1 with
       | some (C',fs)=>if C'=C/\fs.lookup n=none then (evs T es S h1).bind fun xs h2=>T.C (mnm C n) (d::xs) h2 else .bad
       | none=>.bad) Q E->∃ b dx fs,x=.ref b/\H1 b=some (.ins a dx fs)/\fs.lookup n=none/\Zm0 T Y E es Z H1 fun vs H2=>ZeC T Y (mnm C n) (x::(vs++[])) H2 Q E:=by
   intro d h1 x H1 μ1 S Z Q rh1 rs1 rd f1
   split at f1
   . rename_i C' fs e
     obtain ⟨⟨e1,e2⟩,f1⟩:=f1.iff
     subst e1
     obtain ⟨i,b,Ca,dx,gs,rfl,rfl,q,hi,z,m',s⟩:=Zfr rh1 rd e
     rw [G.gk.mg,mm] at m'
     cases m'
     refine ⟨b,dx,gs,rfl,z,(s.look (f:=n)).2 e2,S,h1,μ1,rh1,rs1,f1.bind fun ds h2 vs H2 μ2 _ g2 rh2 rds f2=>⟨_,h2,μ2,rh2,.cons (rd.mono rh1 g2) (by rw [List.append_nil];exact rds),f2⟩⟩
   . exact f1.elim
 cases ys with
 | nil =>
   cases es with
   | nil =>
     refine (Zlk ho c hm F G.room B_ .nil G.pass ht).imp fun Z H Q ⟨S,h,B,rh,rs,f⟩=>⟨S,h,B,rh,rs,Fin.bind f fun d h1 x H1 μ1 _ g rh1 rd f1=>?_⟩
     obtain ⟨b,dx,fs,e1,e2,e3,ρ',h',μ',rh',rs',f'⟩:=key d h1 x H1 μ1 S Z Q rh1 (rs.mono rh g) rd f1
     exact ⟨b,dx,fs,e1,e2,e3,f'.ok rh' .nil⟩
   | cons e r=>unfold chks at h4;cases h4
 | cons y ys =>
   have st:Z3 y=true:=by
     cases es with
     | nil=>unfold chks at h4;cases h4
     | cons e r=>unfold chks at h4;rw [Oa,Oa] at h4;exact h4.1.2
   have sp:∀ pos,(backTo pos (starEach ys X.env)).any (·.1)=false:=by
     cases es with
     | nil=>unfold chks at h4;cases h4
     | cons e r=>unfold chks at h4;rw [Oa,Oa] at h4;exact ZbV Γ X.env r ys h4.2
   exact (Znp ho c hm F G.room B_ .nil G.pass ha (Zl X.env st) (sp _) ht).imp fun Z H Q ⟨S,h,B,rh,rs,f⟩=>⟨S,h,B,rh,rs,Fin.bind f fun d h1 x H1 μ1 _ g rh1 rd f1=>key d h1 x H1 μ1 S Z Q rh1 (rs.mono rh g) rd f1⟩
end
end IV
end
section
namespace IV
open PySem PySem.Spec PyProof.Rows L2
theorem Zob{T:Tb}{Γ:Gm}{X:Cx}{Y:Yx}{E:XK}{k:Nat}(G:Gd T Γ X Y E k){op:CmpOp}{a b:Ex}{l r:Expr}{pos:Pos}(ha:PE X l (ZbD T Y E a))(hb:PE X r (ZbD T Y E b))(hm:Zd6 r=true):PT X (.Compare l [op] [r] pos) (ZkS T Y E (.ex (.cmp op a b))):=by
 refine (Zne (Zls (E:=E) G.room G.h60 G.gk op) ha hb (Zjt hm)).imp fun Z H Q ⟨S,h,B,rh,rs,f⟩=>Zm1 (f:=opC T.GD op) rh rs ?_
 refine Fin.bind (show Fin Y _ H B ((ev T (.cmp op a b) S h).bind fun x h1=>R.ofO (Zcs T.GD x h1) h1) Q E from f) fun d h1 x H1 μ1 er g rh1 rd f1=>?_
 obtain ⟨_,_,_,er⟩:=R.bind_eq (show (ev T a S h).bind _=.ok d h1 from er)
 obtain ⟨_,_,_,er⟩:=R.bind_eq er
 obtain ⟨c,rfl⟩:=ZpN er
 cases rd
 exact ⟨c,rfl,Fin.ok (show Fin Y _ H1 μ1 (.ok c h1) Q E from f1) rh1 rfl⟩
theorem Zod{Γ:Gm}{e:Ex}{l:Expr}{o:List CmpOp}{r:List Expr}{p:Pos}(h:chk Γ e (.Compare l o r p)=true):(∃ op a b,e=.cmp op a b)\/(∃ o1 o2 a b c,e=.cmp2 o1 o2 a b c):=by
 cases e with
 | cmp op a b=>exact .inl ⟨op,a,b,rfl⟩
 | cmp2 o1 o2 a b c=>exact .inr ⟨o1,o2,a,b,c,rfl⟩
 | cst d=>cases d<;>(unfold chk Zmp at h;cases h)
 | _=>unfold chk at h;cases h
theorem Zj6{T:Tb}{Γ:Gm}{X:Cx}{Y:Yx}{E:XK}{k:Nat}(G:Gd T Γ X Y E k){e:Ex}{x:Expr}(he:PE X x (ZbD T Y E e))(h1:Zh8 x=true)(hx:∀ l o r p,x≠.Compare l o r p):PT X x (ZkS T Y E (.ex e)):=by
 refine (Zk7 he (Zle h1 hx)).imp fun Z H Q ⟨S,h,B,rh,rs,f⟩=>⟨S,h,B,rh,rs,Fin.bind (show Fin Y _ H B ((ev T e S h).bind fun x h1=>R.ofO (Zcs T.GD x h1) h1) Q E from f) fun d h1 x H1 μ1 er g rh1 rd f1=>?_⟩
 obtain ⟨b,eb,f1⟩:=f1.ofO
 exact ⟨b,ZmS G.gk.K rh1 rd eb,f1.ok rh1 rfl⟩
noncomputable def Zi7(T:Tb)(Y:Yx)(E:XK):Exs->List (TE×TE)
 | .nil=>[]
 | .cons k r=>match r with
   | .nil=>[]
   | .cons v r'=>(ZbD T Y E k,ZbD T Y E v)::Zi7 T Y E r'
section
variable {Y:Yx}{H:Hp}{B:List Addr}{h:Hd}{Dd:Addr}{ys zs:List (Key×V)}
theorem ZjY{K:PySem.W.Frag}(hD:H Dd=some (.dK ys)){a:Addr}{vs:List V}(t:SqT K H a vs):SqT K (upd H Dd (.dK zs)) a vs:=by
 rcases t with t|t
 . rcases t with t|⟨o,t⟩
   . exact .inl (.inl (by rw [Zc (fun z=>by rw [z,hD] at t;cases t)];exact t))
   . exact .inl (.inr ⟨o,by rw [Zc (fun z=>by rw [z,hD] at t;cases t)];exact t⟩)
 . exact .inr t
theorem Zks{K:PySem.W.Frag}(hD:H Dd=some (.dK ys)){a:Addr}{vs:List V}(t:FzL K H a vs):FzL K (upd H Dd (.dK zs)) a vs:=by
 rcases t with ⟨o,t⟩|t
 . exact .inl ⟨o,by rw [Zc (fun z=>by rw [z,hD] at t;cases t)];exact t⟩
 . exact .inr t
mutual
theorem RD.swapD(hD:H Dd=some (.dK ys)):∀ {d:D}{v:V},RD Y H B d v->RD Y (upd H Dd (.dK zs)) B d v
 | _,_,.non=>.non
 | _,_,.bl b=>.bl b
 | _,_,.int i=>.int i
 | _,_,.str x ok=>.str x ok
 | _,_,.tup t s=>.tup (ZjY hD t) (RDs.swapD hD s)
 | _,_,.ref e=>.ref e
 | _,_,.ty n=>.ty n
 | _,_,.ro t s=>.ro (Zks hD t) (RDs.swapD hD s)
 | _,_,.kd e=>.kd e
theorem RDs.swapD(hD:H Dd=some (.dK ys)):∀ {d:List D}{v:List V},RDs Y H B d v->RDs Y (upd H Dd (.dK zs)) B d v
 | _,_,.nil=>.nil
 | _,_,.cons a s=>.cons (RD.swapD hD a) (RDs.swapD hD s)
end
theorem RKs.swapD{κ:Type}(hD:H Dd=some (.dK ys)):∀ {d:List (κ×D)}{v:List (κ×V)},RKs Y H B d v->RKs Y (upd H Dd (.dK zs)) B d v
 | _,_,.nil=>.nil
 | _,_,.cons a s=>.cons (a.swapD hD) (s.swapD hD)
theorem RO.swapD{a:Addr}{o:DO}(hD:H Dd=some (.dK ys))(ne:a≠Dd)(q:RO Y H B a o):RO Y (upd H Dd (.dK zs)) B a o:=by
 cases o with
 | lst ds=>obtain ⟨vs,z,s⟩:=q;exact ⟨vs,by rw [Zc ne];exact z,s.swapD hD⟩
 | dic ds=>obtain ⟨vs,z,s⟩:=q;exact ⟨vs,by rw [Zc ne];exact z,s.swapD hD⟩
 | ins C ds=>obtain ⟨a1,a2,a3,z,m,s⟩:=q;exact ⟨a1,a2,a3,by rw [Zc ne];exact z,m,s.swapD hD⟩
 | fdic ds=>obtain ⟨o,vs,z,s⟩:=q;exact ⟨o,vs,by rw [Zc ne];exact z,s.swapD hD⟩
end
inductive RPs(Y:Yx)(H:Hp)(B:List Addr):List D->List (V×V)->Prop
 | nil:RPs Y H B [] []
 | cons {k v:D}{r:List D}{x y:V}{ps:List (V×V)}:RD Y H B k x->RD Y H B v y->RPs Y H B r ps->RPs Y H B (k::v::r) ((x,y)::ps)
theorem RPs.pairs{Y:Yx}{H:Hp}{B:List Addr}:∀ {ds:List D}{ps:List (V×V)}{kvs:List (Key×D)},RPs Y H B ds ps->Zcw ds=some kvs->∃ kvs':List (Key×V),ps=kvs'.map (fun kv=>(kV kv.1,kv.2))/\RKs Y H B kvs kvs'
 | _,_,_,.nil,e=>by cases e;exact ⟨[],rfl,.nil⟩
 | _,_,_,.cons a b s,e=>by
   rw [Zcw] at e
   split at e
   . rename_i k r e1 e2
     cases e
     obtain ⟨kvs',rfl,rk⟩:=s.pairs e2
     have:=ZcV a e1
     subst this
     exact ⟨(k,_)::kvs',rfl,.cons b rk⟩
   . cases e
theorem RPs.keysOk{Y:Yx}{H:Hp}{B:List Addr}:∀ {ds:List D}{ps:List (V×V)}{kvs:List (Key×D)},RPs Y H B ds ps->Zcw ds=some kvs->Zbc kvs
 | _,_,_,.nil,e=>by cases e;intro p hp;cases hp
 | _,_,_,.cons a b s,e=>by
   rw [Zcw] at e
   split at e
   . rename_i k r e1 e2
     cases e
     intro p hp x z
     rcases O2.mp hp with rfl|hp
     . exact ZlN a e1 x z
     . exact s.keysOk e2 p hp x z
   . cases e
theorem ZdN:∀ {more kvs:List (Key×D)},Zbc more->Zbc kvs->Zbc (ZbR kvs more)
 | [],kvs,_,h=>h
 | (k,d)::r,kvs,hm,h=>ZdN (more:=r) (kvs:=putD kvs k d) (fun p hp=>hm p (Oh _ hp)) (Zfl h (fun x e=>hm (k,d) Oi x e))
theorem RKs.merge{Y:Yx}{H:Hp}{B:List Addr}:∀ {more:List (Key×D)}{more':List (Key×V)}{kvs:List (Key×D)}{kvs':List (Key×V)},RKs Y H B more more'->RKs Y H B kvs kvs'->RKs Y H B (ZbR kvs more) (Zdm kvs' more')
 | _,_,_,_,.nil,s=>s
 | _,_,_,_,.cons (k:=k) a r,s=>by
   have z:=RKs.merge r (s.put k a)
   exact z
theorem Zlp{T:Tb}{Y:Yx}{E:XK}{H0:Hp}{μ0:List Addr}{Q:VK}{S:Ev}{Z:L2.St}:∀ (n:Nat) (ps:Exs) {K:List D->Hd->R D}{H:Hp}{B:List Addr}{h:Hd}{Q1:List (V×V)->Hp->Prop}{Γ:Gm}{ks:List (Option Expr)}{vs:List Expr},ks.length<=n->chkp Γ ps ks vs=true ->
   Gr H0 μ0 H B->RH Y H B h->RS Y H B S Z->Fin Y (RD Y) H0 μ0 ((evs T ps S h).bind K) Q E ->
   (∀ ds h1 qs H1 μ1,Gr H B H1 μ1->RH Y H1 μ1 h1->RPs Y H1 μ1 ds qs->Fin Y (RD Y) H0 μ0 (K ds h1) Q E->Q1 qs H1)->Zgg (Zi7 T Y E ps) Z H Q1:=by
 intro n
 induction n with
 | zero =>
   intro ps K H B h Q1 Γ ks vs hl hc g0 rh rs f hq
   cases ps with
   | nil=>exact hq [] h [] H B Gr.refl rh .nil f
   | cons k r =>
     cases r with
     | nil=>unfold chkp at hc;cases hc
     | cons v r' =>
       unfold chkp at hc
       simp only at hc
       split at hc
       . simp at hl
       . cases hc
 | succ n ih =>
   intro ps K H B h Q1 Γ ks vs hl hc g0 rh rs f hq
   cases ps with
   | nil=>exact hq [] h [] H B Gr.refl rh .nil f
   | cons k r =>
     cases r with
     | nil=>unfold chkp at hc;cases hc
     | cons v r' =>
       unfold chkp at hc
       simp only at hc
       split at hc
       . rw [Oa] at hc
         have f1:Fin Y (RD Y) H0 μ0 ((ev T k S h).bind fun x h1=>(ev T v S h1).bind fun y h2=>(evs T r' S h2).bind fun xs h3=>K (x::y::xs) h3) Q E:=by
           have e:(evs T (.cons k (.cons v r')) S h).bind K=(ev T k S h).bind fun x h1=>(ev T v S h1).bind fun y h2=>(evs T r' S h2).bind fun xs h3=>K (x::y::xs) h3:=by
             show ((ev T k S h).bind fun x h1=>((ev T v S h1).bind fun y h2=>(evs T r' S h2).bind fun xs h3=>R.ok (y::xs) h3).bind fun xs h2=>R.ok (x::xs) h2).bind K=_
             simp only [R.bind_assoc,R.bind_ok]
           rw [<- e]
           exact f
         refine ⟨S,h,B,rh,rs,Fin.bindB g0 f1 fun d h1 x H1 μ1 _ g1 rh1 rd f2=>?_⟩
         refine ⟨S,h1,μ1,rh1,rs.mono rh g1,Fin.bindB (g0.trans g1) f2 fun e h2 y H2 μ2 _ g2 rh2 re f3=>?_⟩
         refine ih r' (by simpa using hl) hc.2 ((g0.trans g1).trans g2) rh2 ((rs.mono rh g1).mono rh1 g2) f3 fun ds h3 qs H3 μ3 g3 rh3 rp f4=>?_
         exact hq (d::e::ds) h3 ((x,y)::qs) H3 μ3 ((g1.trans g2).trans g3) rh3 (.cons ((rd.mono rh1 g2).mono rh2 g3) (re.mono rh2 g3) rp) f4
       . cases hc
theorem Zn9{T:Tb}{Y:Yx}(ps:Exs){Γ:Gm}{X:Cx}{E:XK}{k:Nat}{ks:List (Option Expr)}{vs:List Expr}{pos:Pos}(G:Gd T Γ X Y E k)(h15:ks.length<=15)(hc:chkp Γ ps ks vs=true)(hp:PPs X pos ks vs (Zi7 T Y E ps))(hall:ks.all (·.isSome)=true)(hl:ks.length=vs.length):PE X (.Dict ks vs pos) (ZbD T Y E (.dictl ps)):=by
 by_cases h0:ks=[]
 . subst h0
   cases vs with
   | cons a b=>cases hl
   | nil =>
     cases ps with
     | cons k r =>
       cases r with
       | nil=>unfold chkp at hc;cases hc
       | cons v r'=>unfold chkp at hc;cases hc
     | nil =>
       refine Zlo.imp fun Z H Q ⟨S,h,B,rh,rs,f⟩ p hp=>?_
       have f:Fin Y (RD Y) H B (Zcp (.dic []) h) Q E:=f
       exact f.new rh hp ⟨[],Zh,.nil⟩ (fun p hp=>by cases hp)
 . refine (Znt hp hall hl h0 h15).imp fun Z H Q ⟨S,h,B,rh,rs,f⟩ p hp=>?_
   have np:p ∉ B:=fun z=>by have:=rh.mut z;rw [hp] at this;exact this
   refine Zlp ks.length ps (Oq _) hc (Gr.lay0 hp) (rh.lay0 hp) (rs.mono rh (Gr.lay0 hp)) f fun ds h1 qs H1 μ1 g1 rh1 rp f1=>?_
   obtain ⟨hl1,nD⟩:=g1.out (Zh (H:=H)) np
   have g01:Gr H B H1 μ1:=(Gr.lay0 hp).trans g1
   split at f1
   . rename_i kvs ek
     obtain ⟨hz,f1⟩:=f1.iff
     obtain ⟨kvs',rfl,rk⟩:=rp.pairs ek
     refine ⟨hl1,kvs',rfl,by rw [<- rk.length];exact hz,?_⟩
     have f2:Fin Y (RD Y) H B (.ok (.ref h1.length) (h1++[.dic (ZbR [] kvs)])) Q E:=f1
     have g3:Gr H B (upd H1 p (.dK (Zdm [] kvs'))) (μ1++[p]):=by
       refine ⟨fun j a e=>?_,fun a ha=>?_,fun b o hb e=>?_,fun b u v e=>by rw [Zc (fun z=>by rw [z,hp] at e;cases e)];exact g01.fz b u v e⟩
       . have:=g01.pre j a e
         rw [Oe (Ob.mp this).1];exact this
       . rcases OD.mp ha with z|z
         . exact g01.new a z
         . rw [Ox.mp z];exact .inr hp
       . rw [Zc (fun z=>by rw [z,hp] at e;cases e)];exact g01.keep b o hb e
     refine f2.at g3 ?_ (.ref (by rw [rh1.len];simp))
     refine ⟨by simp [rh1.len],?_,fun j o a e1 e2=>?_,Zip rh1.ks (show Zbc (ZbR [] kvs) from ZdN (rp.keysOk ek) (fun p hp=>by cases hp))⟩
     . rw [List.nodup_append]
       refine ⟨rh1.nd,by simp,fun a ha b hb=>?_⟩
       rw [Ox.mp hb]
       intro z
       exact nD (z ▸ ha)
     . by_cases hj:j<h1.length
       . rw [Oe hj] at e1
         rw [Oe (by rw [<- rh1.len];exact hj)] at e2
         exact ((rh1.ob j o a e1 e2).swapD hl1 (fun z=>nD (z ▸ O1 e2))).more
       . have hj':j=h1.length:=by
           have:=(Ob.mp e1).1
           simp at this
           omega
         subst hj'
         rw [Om (Oq _)] at e1
         rw [Om (by rw [rh1.len];exact Oq _)] at e2
         simp [rh1.len] at e1 e2
         subst e1
         subst e2
         exact ⟨_,Zh,((rk.merge .nil).swapD hl1).more⟩
   . exact f1.elim
mutual
theorem Zj{T:Tb}{Y:Yx}:∀ (e:Ex) {Γ:Gm}{X:Cx}{E:XK}{k:Nat}{x:Expr},Gd T Γ X Y E k->chk Γ e x=true->PE X x (ZbD T Y E e)
 | .var i,Γ,X,E,k,x,G,h=>by
   unfold chk at h
   split at h
   . rw [Oa,Oa,Oa] at h
     obtain ⟨⟨⟨h1,h2⟩,h3⟩,h4⟩:=h
     refine (Zpw (by rw [G.N];exact of_decide_eq_true h1) (G.vis _ h2) (by simpa using h3) (by simpa using h4)).imp fun Z H Q ⟨S,h,B,rh,rs,f⟩=>?_
     obtain ⟨d,e,f⟩:=Fin.ofO (show Fin Y (RD Y) H B (R.ofO (S[i]?).join h) Q E from f)
     obtain ⟨v,e1,rd⟩:=rs.var e
     exact ⟨v,e1,f.ok rh rd⟩
   . cases h
 | .cst d,Γ,X,E,k,x,G,h=>Zmm G (by unfold chk at h;exact h)
 | .glo y,Γ,X,E,k,x,G,h=>by
   unfold chk at h
   split at h
   . rw [Oa] at h
     have e:=of_decide_eq_true h.1
     subst e
     obtain ⟨g1,g2⟩:=G.gl h.2
     intro pins s Z H Q I ⟨S,h,B,rh,rs,f⟩
     obtain ⟨d,e,f⟩:=Fin.ofO (show Fin Y (RD Y) H B (R.ofO (T.G y) h) Q E from f)
     obtain ⟨v,u,hm,rv,rd⟩:=G.gk.g y d e
     exact Zns g1 hm rv g2 pins s Z H Q I (f.ok rh (rd H B))
   . cases h
 | .bin op a b,Γ,X,E,k,x,G,h=>by
   unfold chk at h
   split at h
   . rw [Oa,Oa] at h
     have e:=of_decide_eq_true h.1.1
     subst e
     exact (Zri (ZpO G.gk.K op) (Zj a G h.1.2) (Zj b G h.2)).imp fun Z H Q ⟨S,h,B,rh,rs,f⟩=>Zm1 rh rs f
   . cases h
 | .cmp op a b,Γ,X,E,k,x,G,h=>by
   unfold chk at h
   split at h
   . rw [Oa,Oa,Oa] at h
     have e:=of_decide_eq_true h.1.1.1
     subst e
     exact (Znv (Zls G.room G.h60 G.gk op) (Zj a G h.1.1.2) (Zj b G h.1.2) (Zjt h.2)).imp fun Z H Q ⟨S,h,B,rh,rs,f⟩=>Zm1 rh rs f
   . cases h
 | .cmp2 o1 o2 a b c,Γ,X,E,k,x,G,h=>by unfold chk at h;cases h
 | .neg a,Γ,X,E,k,x,G,h=>by
   unfold chk at h
   split at h
   . refine (Zrg Zo1 (Zj a G h)).imp fun Z H Q ⟨S,h,B,rh,rs,f⟩=>⟨S,h,B,rh,rs,Fin.bind f fun d h1 x H1 μ1 _ g rh1 rd f1=>?_⟩
     cases rd with
     | int i=>exact ⟨i,rfl,Fin.ok f1 rh1 (.int _)⟩
     | _=>exact f1.elim
   . cases h
 | .nt a,Γ,X,E,k,x,G,h=>by
   unfold chk at h
   split at h
   . refine (Zpz (Zj a G h)).imp fun Z H Q ⟨S,h,B,rh,rs,f⟩=>⟨S,h,B,rh,rs,Fin.bind f fun d h1 x H1 μ1 _ g rh1 rd f1=>?_⟩
     cases rd with
     | bl i=>exact ⟨i,rfl,Fin.ok f1 rh1 (.bl _)⟩
     | _=>exact f1.elim
   . cases h
 | .ands es,Γ,X,E,k,x,G,h=>by
   unfold chk at h
   split at h
   . exact and_ok es G h
   . cases h
 | .ors es,Γ,X,E,k,x,G,h=>by
   unfold chk at h
   split at h
   . exact or_ok es G h
   . cases h
 | .ite c a b,Γ,X,E,k,x,G,h=>by
   unfold chk at h
   split at h
   . rw [Oa,Oa] at h
     refine (Zln (tst_ok c G h.1.1) (Zj a G h.1.2) (Zj b G h.2)).imp fun Z H Q ⟨S,h,B,rh,rs,f⟩=>⟨S,h,B,rh,rs,Fin.bind f fun d h1 x H1 μ1 _ g rh1 rd f1=>?_⟩
     subst rd
     cases d with
     | true=>exact ZiA ⟨S,h1,μ1,rh1,rs.mono rh g,f1⟩
     | false=>exact ZiB ⟨S,h1,μ1,rh1,rs.mono rh g,f1⟩
   . cases h
 | .tupl es,Γ,X,E,k,x,G,h=>by
   unfold chk at h
   split at h
   . refine (Zpx (evs_ok es G h)).imp fun Z H Q ⟨S,h,B,rh,rs,f⟩=>⟨S,h,B,rh,rs,Fin.bind f fun d h1 x H1 μ1 _ g rh1 rd f1=>?_⟩
     obtain ⟨hz,f1⟩:=f1.iff
     exact ⟨by rw [<- rd.length];exact hz,fun p hp=>f1.tup rh1 hp rd⟩
   . cases h
 | .lstl es,Γ,X,E,k,x,G,h=>by
   unfold chk at h
   split at h
   . refine (ZpB (evs_ok es G h)).imp fun Z H Q ⟨S,h,B,rh,rs,f⟩=>⟨S,h,B,rh,rs,Fin.bind f fun d h1 x H1 μ1 _ g rh1 rd f1=>?_⟩
     obtain ⟨hz,f1⟩:=f1.iff
     exact ⟨by rw [<- rd.length];exact hz,fun p hp=>f1.new rh1 hp ⟨_,Zh,rd.mono rh1 (Gr.lay hp)⟩⟩
   . cases h
 | .ix a i,Γ,X,E,k,x,G,h=>by
   unfold chk at h
   split at h
   . rw [Oa,Oa] at h
     exact (Zrj (ZnF G.gk) (Zj a G h.1.1) (Zj i G h.1.2) (ZkN h.2)).imp fun Z H Q ⟨S,h,B,rh,rs,f⟩=>Zm1 rh rs f
   . cases h
 | .sl a lo hi,Γ,X,E,k,x,G,h=>by
   unfold chk at h
   split at h
   . rw [Oa,Oa] at h
     refine (Zli (ZnD (E:=E) G.gk.K) (Zj a G h.1.1) (evo_ok lo G h.1.2) (evo_ok hi G h.2)).imp fun Z H Q ⟨S,h,B,rh,rs,f⟩=>⟨S,h,B,rh,rs,Fin.bind f fun d h1 x H1 μ1 _ g rh1 rd f1 =>
       ⟨S,h1,μ1,rh1,rs.mono rh g,Fin.bind f1 fun l h2 l' H2 μ2 _ g2 rh2 rl f2=>⟨S,h2,μ2,rh2,(rs.mono rh g).mono rh1 g2,Fin.bind f2 fun u h3 u' H3 μ3 _ g3 rh3 ru f3=>?_⟩⟩⟩
     subst rl ru
     exact ⟨d,h3,μ3,rh3,(rd.mono rh1 g2).mono rh2 g3,f3⟩
   . cases h
 | .blt f es,Γ,X,E,k,x,G,h=>by
   unfold chk at h
   split at h
   . rename_i y ys _
     rw [Oa,Oa] at h
     have e:=of_decide_eq_true h.1.1
     subst e
     have hs:=h.2
     have st:Z3 y=true:=by
       cases es with
       | nil=>rw [chks] at hs;cases hs
       | cons e r=>rw [chks,Oa,Oa] at hs;exact hs.1.2
     have sp:∀ pos,(backTo pos (starEach ys X.env)).any (·.1)=false:=by
       cases es with
       | nil=>rw [chks] at hs;cases hs
       | cons e r=>rw [chks,Oa,Oa] at hs;exact ZbV Γ X.env r ys hs.2
     exact (Zqk G f ((Oa _ _).mp h.1.2).1 (G.gl ((Oa _ _).mp h.1.2).2).1 (evs_ok es G h.2) (Zl X.env st) (sp _)).imp fun Z H Q ⟨S,h,B,rh,rs,f⟩=>⟨S,h,B,rh,rs,Fin.bind f fun d h1 x H1 μ1 _ g rh1 rd f1=>⟨d,h1,μ1,rh1,rd,f1⟩⟩
   . cases h
 | .call f es,Γ,X,E,k,x,G,h=>by
   unfold chk at h
   split at h
   . rename_i y ys _
     rw [Oa,Oa,Oa] at h
     have e:=of_decide_eq_true h.1.1.1
     subst e
     obtain ⟨ps,hd⟩:=G.defs _ (of_decide_eq_true h.1.1.2)
     obtain ⟨g1,g2⟩:=G.gl h.1.2
     have hs:=h.2
     have st:Z3 y=true:=by
       cases es with
       | nil=>rw [chks] at hs;cases hs
       | cons e r=>rw [chks,Oa,Oa] at hs;exact hs.1.2
     have sp:∀ pos,(backTo pos (starEach ys X.env)).any (·.1)=false:=by
       cases es with
       | nil=>rw [chks] at hs;cases hs
       | cons e r=>rw [chks,Oa,Oa] at hs;exact ZbV Γ X.env r ys hs.2
     exact (ZpD hd G.room g1 G.pass (evs_ok es G h.2) g2 (Zl X.env st) (sp _)).imp fun Z H Q ⟨S,h,B,rh,rs,f⟩=>⟨S,h,B,rh,rs,Fin.bind f fun d h1 x H1 μ1 _ g rh1 rd f1=>⟨d,h1,μ1,rh1,rd,f1⟩⟩
   . cases h
 | .meth m o es,Γ,X,E,k,x,G,h=>by
   unfold chk at h
   split at h
   . rename_i xo n ap ys cp
     rw [Oa,Oa,Oa,Oa,Oa] at h
     obtain ⟨⟨⟨⟨⟨h1,h2⟩,h3⟩,h4⟩,h5⟩,h6⟩:=h
     have e:=of_decide_eq_true h1
     subst e
     obtain ⟨sl,ty⟩:=ZrB m
     have tyl:∀ {H1:Hp}{μ1:List Addr}{h1:Hd}{d:D}{v:V},RH Y H1 μ1 h1->RD Y H1 μ1 d v->Zcl d h1=true->tyV X.K "list" v H1:=by
       intro H1 μ1 h1 d v rh r il
       cases r with
       | ref q =>
         rename_i i a
         have:∃ xs,h1[i]? = some (.lst xs):=by
           unfold Zcl at il
           simp only at il
           split at il
           . exact ⟨_,by assumption⟩
           . cases il
         obtain ⟨xs,hx⟩:=this
         obtain ⟨vs,hl,_⟩:=rh.ob i _ a hx q
         exact .inl ⟨rfl,vs,.of hl⟩
       | _=>cases il
     cases ys with
     | nil =>
       refine (ZpE PySem.F.plainAttrs_list sl ty (Zjs (Y:=Y) (E:=E) G.gk.K m) (Zj o G h2) (ZeR h3) h6).imp fun Z H Q ⟨S,h,B,rh,rs,f⟩=>⟨S,h,B,rh,rs,Fin.bind f fun d h1 x H1 μ1 _ g rh1 rd f1=>?_⟩
       obtain ⟨il,f1⟩:=f1.iff
       refine ⟨tyl rh1 rd il,?_⟩
       cases es with
       | nil=>exact ⟨d,[],h1,μ1,rh1,rd,.nil,f1⟩
       | cons e r=>unfold chks at h4;cases h4
     | cons y ys =>
       have st:Z3 y=true:=by
         cases es with
         | nil=>unfold chks at h4;cases h4
         | cons e r=>unfold chks at h4;rw [Oa,Oa] at h4;exact h4.1.2
       have sp:∀ pos,(backTo pos (starEach ys X.env)).any (·.1)=false:=by
         cases es with
         | nil=>unfold chks at h4;cases h4
         | cons e r=>unfold chks at h4;rw [Oa,Oa] at h4;exact ZbV Γ X.env r ys h4.2
       refine (Zrk PySem.F.plainAttrs_list sl ty (Zjs (Y:=Y) (E:=E) G.gk.K m) (Zj o G h2) (evs_ok es G h4) (ZeR h3) ?_ h6 (Zl X.env st) (sp _)).imp fun Z H Q ⟨S,h,B,rh,rs,f⟩=>⟨S,h,B,rh,rs,Fin.bind f fun d h1 x H1 μ1 _ g rh1 rd f1=>?_⟩
       . rw [Zd2 Γ X.env es (y::ys) h4]
         have:=of_decide_eq_true h5
         have h30:decide ((y::ys).length+([]:List Keyword).length+(if ([]:List Keyword).isEmpty then 0 else 1)<30)=true:=by
           rw [decide_eq_true_eq]
           simp only [List.isEmpty_nil,List.length_nil,if_true]
           omega
         rw [h30]
         rfl
       . obtain ⟨il,f1⟩:=f1.iff
         exact ⟨tyl rh1 rd il,S,h1,μ1,rh1,rs.mono rh g,f1.bind fun ds h2 xs H2 μ2 _ g2 rh2 rds f2=>⟨d,ds,h2,μ2,rh2,rd.mono rh1 g2,rds,f2⟩⟩
   . cases h
 | .comp NC js it g c e,Γ,X,E,k,x,G,h=>by
   unfold chk at h
   split at h
   . rename_i scope _
     rw [Oa,Oa,Oa,Oa,Oa,Oa,Oa] at h
     obtain ⟨⟨⟨⟨⟨⟨⟨h0,h1⟩,h2⟩,h3⟩,h4⟩,h5⟩,h6⟩,h7⟩:=h
     have S_:=ZhF h1
     rw [<- G.N,<- G.sc h0] at S_
     have Gc:=fun (C:Addr) (s3:Shared) (H3:Hp) (fp:List Addr)=>G.comp NC scope C s3 H3 fp S_.nd
     rw [OC] at h5
     refine (Znu (g:=tgR X.K g) (tc:=fun Z H Q=>∃ S h B,RH Y H B h/\RS Y H B S Z/\Fin Y (fun _ _ (a b:Bool)=>a=b) H B (tsto T c S h) Q E0) (te:=ZbD T Y E0 e) S_ rfl G.calm (evi_ok it G h2) (fun C s3 H3 fp=>⟨Zjo rfl S_.nd rfl (fun x hx=>?_) h4,?_,Zj e (Gc C s3 H3 fp) h7⟩) (ZqO X.K g) (fun j hj=>of_decide_eq_true (h5 j (List.mem_range.mpr hj))) (Zh1 X.env h3)).imp
       fun Z H Q ⟨S,h,B,rh,rs,f⟩=>⟨S,h,B,rh,rs,Fin.bind f fun w h1 J H1 μ1 _ g1 rh1 wj f1 D hD=>ZjJ G.gk.K (fun _ _ _ z=>z) rh1 (rs.mono rh g1) wj f1 hD⟩
     . have hl:=of_decide_eq_true hx
       have:(relabel scope X.env).names.lookup x=some .local:=by rw [ZaG,hl];rfl
       exact ⟨.inl this,.inr this⟩
     . exact ifs_ok c (Gc C s3 H3 fp) h6
   . cases h
 | .sorts e,Γ,X,E,k,x,G,h=>by unfold chk at h;cases h
 | .trev e,Γ,X,E,k,x,G,h=>by unfold chk at h;cases h
 | .lrv e,Γ,X,E,k,x,G,h=>by
   unfold chk at h
   split at h
   . rw [Oa,Oa,Oa,Oa,Oa] at h
     obtain ⟨⟨⟨⟨⟨h1,h2⟩,h3⟩,h4⟩,h5⟩,h6⟩:=h
     have e1:=of_decide_eq_true h1
     have e2:=of_decide_eq_true h2
     subst e1 e2
     refine (Zj9 G.calm (G.gl h3).1 (G.blt _ (by decide)) (G.gl h4).1 (G.blt _ (by decide)) (ZdH (Zj e G h5) Zfg (Zl X.env h6)) (Zl X.env h6)).imp fun Z H Q ⟨S,h,B,rh,rs,f⟩=>⟨S,h,B,rh,rs,Fin.bind f fun d h1 x H1 μ1 er g rh1 rd f1=>?_⟩
     cases d with
     | tup xs =>
       obtain ⟨a,vs,rfl,t,s⟩:=rd.tup_inv
       exact ⟨a,vs,rfl,G.gk.K ▸ t,fun p hp=>f1.new rh1 hp ⟨_,Zh,s.reverse.mono rh1 (Gr.lay hp)⟩⟩
     | _=>exact f1.elim
   . cases h
 | .tix o e,Γ,X,E,k,x,G,h=>by unfold chk at h;cases h
 | .any,Γ,X,E,k,x,G,h=>fun pins s Z H Q I ⟨S,h,B,rh,rs,f⟩=>f.elim
 | .att Cs o f,Γ,X,E,k,x,G,h=>by
   unfold chk at h
   split at h
   . rw [Oa,Oa,Oa,Oa] at h
     obtain ⟨⟨⟨⟨h1,h2⟩,h3⟩,h4⟩,h5⟩:=h
     have e:=of_decide_eq_true h1
     subst e
     exact (ZpC (Zj o G h2) (ZeR h3)).imp fun Z H Q ⟨S,h,B,rh,rs,f⟩=>⟨S,h,B,rh,rs,Fin.bind f fun d h1 x H1 μ1 _ g rh1 rd f1=>Zqp G h4 (of_decide_eq_true h5) rh1 rd f1⟩
   . cases h
 | .mk C es,Γ,X,E,k,x,G,h=>by
   unfold chk at h
   split at h
   . rw [Oa,Oa,Oa] at h
     obtain ⟨⟨⟨h1,h2⟩,h3⟩,h4⟩:=h
     have e:=of_decide_eq_true h1
     subst e
     exact ZrC G (of_decide_eq_true h2) h3 h4 (evs_ok es G h4)
   . cases h
 | .mcl C m o es,Γ,X,E,k,x,G,h=>by
   unfold chk at h
   split at h
   . rw [Oa,Oa,Oa,Oa,Oa,Oa] at h
     obtain ⟨⟨⟨⟨⟨⟨h1,h2⟩,h3⟩,h4⟩,h5⟩,h6⟩,h7⟩:=h
     have e:=of_decide_eq_true h1
     subst e
     exact ZpT G (of_decide_eq_true h5) h3 h4 (of_decide_eq_true h6) h7 (Zj o G h2) (evs_ok es G h4)
   . cases h
 | .maxd a d,Γ,X,E,k,x,G,h=>by
   unfold chk at h
   split at h
   . rw [Oa,Oa,Oa,Oa,Oa] at h
     obtain ⟨⟨⟨⟨⟨h1,h2⟩,h3⟩,h4⟩,h5⟩,h6⟩:=h
     have e1:=of_decide_eq_true h1
     have e2:=of_decide_eq_true h2
     subst e1 e2
     refine (Znq (G.gl h3).1 (G.blt _ (by decide)) G.calm (Zj a G h4) (Zj d G h6) (Zl X.env h5)).imp fun Z H Q ⟨S,h,B,rh,rs,f⟩=>⟨S,h,B,rh,rs,Fin.bind f fun x h1 v H1 μ1 _ g rh1 rx f1=>⟨S,h1,μ1,rh1,rs.mono rh g,Fin.bind f1 fun y h2 u H2 μ2 _ g2 rh2 ry f2=>?_⟩⟩
     cases ry with
     | int d =>
       obtain ⟨r,er,f2⟩:=Fin.ofO (show Fin Y (RD Y) H2 μ2 (R.ofO (((lstOf x h2).bind intsOf).map fun ns=>.int (Zcz ns d)) h2) Q E from f2)
       obtain ⟨ns,e2,rfl⟩:=Oo.mp er
       obtain ⟨zs,e3,e4⟩:=Option.bind_eq_some_iff.mp e2
       obtain ⟨a,vs,rfl,hl,rv⟩:=(rx.mono rh1 g2).lstOf rh2 e3
       rw [Zfq rv e4] at hl
       exact ⟨a,ns,d,rfl,rfl,G.gk.K ▸ hl,f2.ok rh2 (.int _)⟩
     | _=>exact f2.elim
   . cases h
 | .dictl ps,Γ,X,E,k,x,G,h=>by
   unfold chk at h
   split at h
   . rw [Oa] at h
     obtain ⟨p1,p2,p3⟩:=pairs_ok ps G h.2
     exact Zn9 ps G (of_decide_eq_true h.1) h.2 p1 p2 p3
   . cases h
theorem evs_ok{T:Tb}{Y:Yx}:∀ (e:Exs) {Γ:Gm}{X:Cx}{E:XK}{k:Nat}{x:List Expr},Gd T Γ X Y E k->chks Γ e x=true->PA X x (Zm0 T Y E e)
 | .nil,Γ,X,E,k,x,G,h=>by
   rw [chks] at h
   cases x with
   | nil=>exact Zfg.imp fun Z H Q ⟨S,h,B,rh,rs,f⟩=>Fin.ok (show Fin Y (RDs Y) H B (.ok [] h) Q E from f) rh .nil
   | cons a b=>cases h
 | .cons e r,Γ,X,E,k,x,G,h=>by
   cases x with
   | nil=>rw [chks] at h;cases h
   | cons y ys =>
     rw [chks,Oa,Oa] at h
     exact (ZdH (Zj e G h.1.1) (evs_ok r G h.2) (Zl X.env h.1.2)).imp fun Z H Q ⟨S,h,B,rh,rs,f⟩=>⟨S,h,B,rh,rs,Fin.bind f fun d h1 x H1 μ1 _ g rh1 rd f1 =>
       ⟨S,h1,μ1,rh1,rs.mono rh g,f1.bind fun ds h2 xs H2 μ2 _ g2 rh2 rds f2=>f2.ok rh2 (.cons (rd.mono rh1 g2) rds)⟩⟩
theorem and_ok{T:Tb}{Y:Yx}:∀ (e:Exs) {Γ:Gm}{X:Cx}{E:XK}{k:Nat}{x:List Expr}{pos:Pos},Gd T Γ X Y E k->chks Γ e x=true->PE X (.BoolOp .And x pos) (ZbD T Y E (.ands e))
 | .nil,Γ,X,E,k,x,pos,G,h=>fun pins s Z H Q I ⟨S,h,B,rh,rs,f⟩=>f.elim
 | .cons e r,Γ,X,E,k,x,pos,G,h=>by
   cases x with
   | nil=>rw [chks] at h;cases h
   | cons y ys =>
     rw [chks,Oa,Oa] at h
     cases r with
     | nil =>
       have h2:=h.2
       rw [chks] at h2
       cases ys with
       | nil=>exact (Zlj (Zj e G h.1.1)).imp fun Z H Q q=>q
       | cons a b=>cases h2
     | cons e' r' =>
       cases ys with
       | nil=>have h2:=h.2;rw [chks] at h2;cases h2
       | cons z zs =>
         refine (ZpF (Zj e G h.1.1) (and_ok (.cons e' r') G h.2)).imp fun Z H Q ⟨S,h,B,rh,rs,f⟩=>⟨S,h,B,rh,rs,Fin.bind f fun d h1 x H1 μ1 _ g rh1 rd f1=>?_⟩
         cases rd with
         | bl c =>
           refine ⟨c,rfl,?_⟩
           cases c with
           | true=>exact ZiA ⟨S,h1,μ1,rh1,rs.mono rh g,f1⟩
           | false=>exact ZiB (Fin.ok f1 rh1 (.bl _))
         | _=>exact f1.elim
theorem or_ok{T:Tb}{Y:Yx}:∀ (e:Exs) {Γ:Gm}{X:Cx}{E:XK}{k:Nat}{x:List Expr}{pos:Pos},Gd T Γ X Y E k->chks Γ e x=true->PE X (.BoolOp .Or x pos) (ZbD T Y E (.ors e))
 | .nil,Γ,X,E,k,x,pos,G,h=>fun pins s Z H Q I ⟨S,h,B,rh,rs,f⟩=>f.elim
 | .cons e r,Γ,X,E,k,x,pos,G,h=>by
   cases x with
   | nil=>rw [chks] at h;cases h
   | cons y ys =>
     rw [chks,Oa,Oa] at h
     cases r with
     | nil =>
       have h2:=h.2
       rw [chks] at h2
       cases ys with
       | nil=>exact (Zlj (Zj e G h.1.1)).imp fun Z H Q q=>q
       | cons a b=>cases h2
     | cons e' r' =>
       cases ys with
       | nil=>have h2:=h.2;rw [chks] at h2;cases h2
       | cons z zs =>
         refine (Zrh (Zj e G h.1.1) (or_ok (.cons e' r') G h.2)).imp fun Z H Q ⟨S,h,B,rh,rs,f⟩=>⟨S,h,B,rh,rs,Fin.bind f fun d h1 x H1 μ1 _ g rh1 rd f1=>?_⟩
         cases rd with
         | bl c =>
           refine ⟨c,rfl,?_⟩
           cases c with
           | true=>exact ZiA (Fin.ok f1 rh1 (.bl _))
           | false=>exact ZiB ⟨S,h1,μ1,rh1,rs.mono rh g,f1⟩
         | _=>exact f1.elim
theorem evo_ok{T:Tb}{Y:Yx}:∀ (e:Option Ex) {Γ:Gm}{X:Cx}{E:XK}{k:Nat}{x:Option Expr},Gd T Γ X Y E k->chko Γ e x=true->PO X x (ZsG T Y E e)
 | none,Γ,X,E,k,x,G,h=>by
   unfold chko at h
   cases x with
   | none=>exact Znk.imp fun Z H Q ⟨S,h,B,rh,rs,f⟩=>Fin.ok (show Fin Y _ H B (.ok none h) Q E from f) rh rfl
   | some a=>cases h
 | some e,Γ,X,E,k,x,G,h=>by
   unfold chko at h
   cases x with
   | none=>cases h
   | some a =>
     refine (Znj (Zj e G h)).imp fun Z H Q ⟨S,h,B,rh,rs,f⟩=>⟨S,h,B,rh,rs,Fin.bind f fun d h1 x H1 μ1 _ g rh1 rd f1=>?_⟩
     cases rd with
     | int i=>exact ⟨i,rfl,Fin.ok f1 rh1 rfl⟩
     | _=>exact f1.elim
theorem tst_ok{T:Tb}{Y:Yx}:∀ (e:Tx) {Γ:Gm}{X:Cx}{E:XK}{k:Nat}{x:Expr},Gd T Γ X Y E k->chkt Γ e x=true->PT X x (ZkS T Y E e)
 | .ex e,Γ,X,E,k,x,G,h=>by
   unfold chkt at h
   rw [Oa] at h
   have pl:=Zj6 G (Zj e G h.2) h.1
   by_cases hx:∀ l o r p,x≠.Compare l o r p
   . exact pl hx
   . have h2:=h.2
     cases e with
     | cmp op a b =>
       unfold chk at h2
       split at h2
       . rw [Oa,Oa,Oa] at h2
         have e:=of_decide_eq_true h2.1.1.1
         subst e
         exact Zob G (Zj a G h2.1.1.2) (Zj b G h2.1.2) h2.2
       . cases h2
     | cmp2 o1 o2 a b c=>unfold chk at h2;cases h2
     | _ =>
       refine pl fun l o r p z=>?_
       subst z
       rcases Zod h2 with ⟨_,_,_,q⟩|⟨_,_,_,_,_,q⟩<;>cases q
 | .ands ts,Γ,X,E,k,x,G,h=>by
   unfold chkt at h
   split at h
   . exact (tand_ok ts G h).pt
   . cases h
 | .ors ts,Γ,X,E,k,x,G,h=>by
   unfold chkt at h
   split at h
   . exact (tor_ok ts G h).pt
   . cases h
 | .nt t,Γ,X,E,k,x,G,h=>by
   unfold chkt at h
   split at h
   . exact (Zpo (tst_ok t G h)).imp fun Z H Q ⟨S,h,B,rh,rs,f⟩=>⟨S,h,B,rh,rs,Fin.bind (show Fin Y _ H B ((tst T t S h).bind fun c h1=>.ok (!c) h1) Q E from f) fun d h1 x H1 μ1 er g rh1 rd f1=>by
       subst rd
       exact Fin.ok f1 rh1 rfl⟩
   . cases h
theorem tand_ok{T:Tb}{Y:Yx}:∀ (e:Txs) {Γ:Gm}{X:Cx}{E:XK}{k:Nat}{x:List Expr}{pos:Pos},Gd T Γ X Y E k->chkts Γ e x=true->PW X (.BoolOp .And x pos) (ZkS T Y E (.ands e))
 | .one t,Γ,X,E,k,x,pos,G,h=>by
   unfold chkts at h
   split at h
   . exact (Znc (tst_ok t G h)).imp fun Z H Q q=>q
   . cases h
 | .cons t ts,Γ,X,E,k,x,pos,G,h=>by
   unfold chkts at h
   split at h
   . rw [Oa] at h
     refine (Zpm (tst_ok t G h.1) (tand_ok ts G h.2)).imp fun Z H Q ⟨S,h,B,rh,rs,f⟩=>⟨S,h,B,rh,rs,Fin.bind (show Fin Y _ H B ((tst T t S h).bind fun c h1=>if c then tstAnd T ts S h1 else .ok false h1) Q E from f) fun d h1 x H1 μ1 er g rh1 rd f1=>?_⟩
     subst rd
     cases d with
     | true=>exact ZiA ⟨S,h1,μ1,rh1,rs.mono rh g,f1⟩
     | false=>exact ZiB (Fin.ok f1 rh1 rfl)
   . cases h
theorem tor_ok{T:Tb}{Y:Yx}:∀ (e:Txs) {Γ:Gm}{X:Cx}{E:XK}{k:Nat}{x:List Expr}{pos:Pos},Gd T Γ X Y E k->chkts Γ e x=true->PW X (.BoolOp .Or x pos) (ZkS T Y E (.ors e))
 | .one t,Γ,X,E,k,x,pos,G,h=>by
   unfold chkts at h
   split at h
   . exact (Zpl (tst_ok t G h)).imp fun Z H Q q=>q
   . cases h
 | .cons t ts,Γ,X,E,k,x,pos,G,h=>by
   unfold chkts at h
   split at h
   . rw [Oa] at h
     refine (Zrd (tst_ok t G h.1) (tor_ok ts G h.2)).imp fun Z H Q ⟨S,h,B,rh,rs,f⟩=>⟨S,h,B,rh,rs,Fin.bind (show Fin Y _ H B ((tst T t S h).bind fun c h1=>if c then .ok true h1 else tstOr T ts S h1) Q E from f) fun d h1 x H1 μ1 er g rh1 rd f1=>?_⟩
     subst rd
     cases d with
     | true=>exact ZiA (Fin.ok f1 rh1 rfl)
     | false=>exact ZiB ⟨S,h1,μ1,rh1,rs.mono rh g,f1⟩
   . cases h
theorem ifs_ok{T:Tb}{Y:Yx}:∀ (c:Option Tx) {Γ:Gm}{X:Cx}{E:XK}{k:Nat}{x:List Expr},Gd T Γ X Y E k->chkf Γ c x=true->PIf X x (fun Z H Q=>∃ S h B,RH Y H B h/\RS Y H B S Z/\Fin Y (fun _ _ (a b:Bool)=>a=b) H B (tsto T c S h) Q E)
 | none,Γ,X,E,k,x,G,h=>by
   unfold chkf at h
   cases x with
   | nil =>
     intro pins s Z H Q I ⟨S,h,B,rh,rs,f⟩
     exact Znm pins s Z H Q I (Fin.ok (show Fin Y (fun _ _ (a b:Bool)=>a=b) H B (.ok true h) Q E from f) rh rfl)
   | cons a b=>cases h
 | some t,Γ,X,E,k,x,G,h=>by
   unfold chkf at h
   split at h
   . exact Znl (tst_ok t G h)
   . cases h
theorem evi_ok{T:Tb}{Y:Yx}:∀ (e:Ix) {Γ:Gm}{X:Cx}{E:XK}{k:Nat}{x tg:Expr},Gd T Γ X Y E k->chki Γ e tg x=true->PI X tg x (ZsH T Y E e)
 | .pl e,Γ,X,E,k,x,tg,G,h=>by
   unfold chki at h
   refine (Zpu (Zj e G h)).imp fun Z H Q ⟨S,h,B,rh,rs,f⟩=>⟨S,h,B,rh,rs,Fin.bind (show Fin Y _ H B ((ev T e S h).bind fun x h1=>R.ofO (ZY x h1) h1) Q E from f) fun d h1 x H1 μ1 er g rh1 rd f1=>?_⟩
   obtain ⟨w,ew,f1⟩:=f1.ofO
   exact ZmO G.gk.K rh1 rd ew fun J wj=>f1.ok rh1 wj
 | .rng e,Γ,X,E,k,x,tg,G,h=>by
   unfold chki at h
   split at h
   . rw [Oa,Oa,Oa] at h
     obtain ⟨⟨⟨h1,h2⟩,h3⟩,h4⟩:=h
     have e1:=of_decide_eq_true h1
     subst e1
     refine (Zj8 (G.gl h2).1 (G.blt _ (by decide)) (ZdH (Zj e G h3) Zfg (Zl X.env h4)) (Zl X.env h4)).imp fun Z H Q ⟨S,h,B,rh,rs,f⟩=>⟨S,h,B,rh,rs,Fin.bind f fun d h1 x H1 μ1 er g rh1 rd f1=>?_⟩
     cases rd with
     | int j =>
       obtain ⟨hz,f1⟩:=Fin.iff (show Fin Y (WJ Y) H1 μ1 (if ZaE j=true then .ok ⟨none,Zaq 0 j.toNat⟩ h1 else .bad) Q E from f1)
       unfold ZaE at hz
       rw [Oa] at hz
       exact ⟨j,rfl,of_decide_eq_true hz.1,of_decide_eq_true hz.2,f1.ok rh1 ZoY⟩
     | _=>exact f1.elim
   . cases h
 | .rng2 a b,Γ,X,E,k,x,tg,G,h=>by unfold chki at h;cases h
 | .enu e,Γ,X,E,k,x,tg,G,h=>by
   unfold chki at h
   split at h
   . rw [Oa,Oa,Oa,Oa] at h
     obtain ⟨⟨⟨⟨h1,h2⟩,h3⟩,h4⟩,h5⟩:=h
     have e1:=of_decide_eq_true h1
     subst e1
     have:∃ es kk tp,tg=.Tuple es kk tp:=by
       cases tg<;>first|exact ⟨_,_,_,rfl⟩|cases h5
     obtain ⟨es,kk,tp,rfl⟩:=this
     refine (Zno (G.gl h2).1 (G.blt _ (by decide)) (ZdH (Zj e G h3) Zfg (Zl X.env h4)) (Zl X.env h4)).imp fun Z H Q ⟨S,h,B,rh,rs,f⟩=>⟨S,h,B,rh,rs,Fin.bind f fun d h1 x H1 μ1 er g rh1 rd f1=>?_⟩
     obtain ⟨w,ew,f1⟩:=f1.ofO
     obtain ⟨w0,ew0,rfl⟩:=Oo.mp ew
     cases d with
     | ro xs =>
       cases ew0
       cases rd with
       | ro t s =>
         refine ⟨_,rfl,⟨_,G.gk.K ▸ t.sq⟩,f1.ok rh1 (Zi2 (Zoq G.gk.K rh1 t s) fun H2 μ2 h2 g2 rh2 st=>⟨_,G.gk.K ▸ (g2.rdF rh1 t).sq,s.mono rh1 g2⟩)⟩
     | ref i =>
       unfold ZgV at ew0
       simp only at ew0
       split at ew0
       . rename_i xs hi
         cases ew0
         obtain ⟨a,vs,rfl,hm,hl,s⟩:=rd.lst rh1 hi
         refine ⟨a,rfl,⟨vs,.of hl⟩,f1.ok rh1 (Zi2 (ZkB hm) fun H2 μ2 h2 g2 rh2 st=>?_)⟩
         obtain ⟨vs2,hl2,s2⟩:=rh2.ob i _ a (ZeY st) (g2.pre i a hm)
         exact ⟨vs2,.of hl2,s2⟩
       . cases ew0
     | _=>cases ew0
   . cases h
 | .rev e,Γ,X,E,k,x,tg,G,h=>by
   unfold chki at h
   split at h
   . rw [Oa,Oa,Oa] at h
     obtain ⟨⟨⟨h1,h2⟩,h3⟩,h4⟩:=h
     have e1:=of_decide_eq_true h1
     subst e1
     refine (Znn (G.gl h2).1 (G.blt _ (by decide)) (ZdH (Zj e G h3) Zfg (Zl X.env h4)) (Zl X.env h4)).imp fun Z H Q ⟨S,h,B,rh,rs,f⟩=>⟨S,h,B,rh,rs,Fin.bind f fun d h1 x H1 μ1 er g rh1 rd f1=>?_⟩
     obtain ⟨w,ew,f1⟩:=f1.ofO
     obtain ⟨w0,ew0,rfl⟩:=Oo.mp ew
     cases d with
     | tup xs =>
       cases ew0
       obtain ⟨a,vs,rfl,t,s⟩:=rd.tup_inv
       exact ⟨a,vs,rfl,.inl ⟨G.gk.K ▸ t,f1.ok rh1 (ZoZ G.gk.K rh1 t s)⟩⟩
     | ref i =>
       unfold Zc2 at ew0
       simp only at ew0
       split at ew0
       . rename_i xs ex
         cases ew0
         obtain ⟨a,vs,rfl,hi,hl,s⟩:=rd.lst rh1 ex
         exact ⟨a,vs,rfl,.inr ⟨.of hl,by rw [<- s.length];exact f1.ok rh1 (ZmL hi)⟩⟩
       . cases ew0
     | _=>cases ew0
   . cases h
 | .en1 e,Γ,X,E,k,x,tg,G,h=>by
   unfold chki at h
   split at h
   . rw [Oa,Oa,Oa,Oa,Oa] at h
     obtain ⟨⟨⟨⟨⟨h1,h0⟩,h2⟩,h3⟩,h4⟩,h5⟩:=h
     have e1:=of_decide_eq_true h1
     have e0:=of_decide_eq_true h0
     subst e1 e0
     have:∃ es kk tp,tg=.Tuple es kk tp:=by
       cases tg<;>first|exact ⟨_,_,_,rfl⟩|cases h5
     obtain ⟨es,kk,tp,rfl⟩:=this
     refine (Zpt (G.gl h2).1 (G.blt _ (by decide)) (Zj e G h3) Zlm (Zl X.env h4)).imp fun Z H Q ⟨S,h,B,rh,rs,f⟩=>⟨S,h,B,rh,rs,Fin.bind f fun d h1 x H1 μ1 er g rh1 rd f1=>?_⟩
     cases d with
     | tup xs =>
       obtain ⟨a,vs,rfl,t,s⟩:=rd.tup_inv
       exact ⟨a,rfl,rfl,⟨vs,G.gk.K ▸ t⟩,f1.ok rh1 (Zo0 G.gk.K rh1 t s)⟩
     | _=>exact f1.elim
   . cases h
 | .dk e,Γ,X,E,k,x,tg,G,h=>by
   unfold chki at h
   exact (Zrf (Zj e G h)).imp fun Z H Q ⟨S,h,B,rh,rs,f⟩=>⟨S,h,B,rh,rs,Fin.bind f fun d h1 x H1 μ1 er g rh1 rd f1=>Zqd rh1 rd f1⟩
theorem pairs_ok{T:Tb}{Y:Yx}:∀ (ps:Exs) {Γ:Gm}{X:Cx}{E:XK}{k:Nat}{ks:List (Option Expr)}{vs:List Expr}{pos:Pos},Gd T Γ X Y E k->chkp Γ ps ks vs=true->PPs X pos ks vs (Zi7 T Y E ps)/\ks.all (·.isSome)=true/\ks.length=vs.length
 | .nil,Γ,X,E,k,ks,vs,pos,G,h=>by
   unfold chkp at h
   rw [Oa] at h
   cases ks with
   | nil=>cases vs with
     | nil=>exact ⟨Zni,rfl,rfl⟩
     | cons a b=>cases h.2
   | cons a b=>cases h.1
 | .cons e r,Γ,X,E,k,ks,vs,pos,G,h=>by
   cases r with
   | nil=>unfold chkp at h;cases h
   | cons v r' =>
     unfold chkp at h
     simp only at h
     split at h
     . rw [Oa,Oa] at h
       obtain ⟨p1,p2,p3⟩:=pairs_ok r' (pos:=pos) G h.2
       refine ⟨Zlc (Zj e G h.1.1) (Zj v G h.1.2) p1,?_,?_⟩
       . rw [List.all_cons,p2];rfl
       . rw [Os,Os,p3]
     . cases h
end
end IV
end
section
namespace IV
open PySem PySem.Spec PyProof.Rows L2
noncomputable def ZdK:Expr->Bool
 | .ListComp _ _ _ _|.SetComp _ _ _ _|.DictComp _ _ _ _ _=>false
 | _=>true
noncomputable def Zlw:Expr->Bool
 | .Tuple _ _ _=>false
 | _=>true
noncomputable def ZlZ:Expr->Expr->Bool
 | .Name _ _,.ListComp _ _ _ _=>true
 | _,_=>false
mutual
noncomputable def Zdp(Γ:Gm):Sx->Stmt->Bool
 | .ret e,s=>match s with
   | .Return (some x) _=>chk Γ e x
   | _=>false
 | .set g e,s=>match s with
   | .Assign [tg] x _=>Zeg Γ.N (ownD Γ.sc) g tg&&chk Γ e x&&((ZdK x&&(!isTup tg || Zlw x)) || ZlZ tg x)
   | _=>false
 | .put o i e,s=>match s with
   | .Assign [.Subscript xo xi _] x _=>chk Γ o xo&&chk Γ i xi&&chk Γ e x&&Zfh xi&&ZdK x
   | _=>false
 | .aug i op e,s=>match s with
   | .AugAssign (.Name y _) op' x _=>decide (op=.Add)&&decide (op'=.Add)&&decide (Γ.N[i]? = some y)&&ownD Γ.sc y&&chk Γ e x
   | _=>false
 | .drp e,s=>match s with
   | .Expr x _=>chk Γ e x&&ZdK x
   | _=>false
 | .iff c a b,s=>match s with
   | .If t xs ys _=>chkt Γ c t&&chkSs Γ a xs&&chkSs Γ b ys
   | _=>false
 | .whl c b,s=>match s with
   | .While t xs [] _=>chkt Γ c t&&chkSs Γ b xs
   | _=>false
 | .forr g it b,s=>match s with
   | .For tg x xs [] _=>chki Γ it tg x&&Zd6 x&&Zeg Γ.N (ownD Γ.sc) g tg&&chkSs Γ b xs
   | _=>false
 | .pas,s=>match s with
   | .Pass _=>true
   | _=>false
 | .brk,s=>match s with
   | .Break _=>true
   | _=>false
 | .cnt,s=>match s with
   | .Continue _=>true
   | _=>false
 | .seta Cs o f e,s=>match s with
   | .Assign [.Attribute xo n _] x _=>decide (n=f)&&chk Γ o xo&&chk Γ e x&&ZdK x&&(Cs.all fun C=>decide (C∈Γ.kl.cs))&&decide (f∈Γ.kl.ats)
   | _=>false
 | .auga Cs o f e,s=>match s with
   | .AugAssign (.Attribute xo n _) op x _=>decide (op=.Add)&&decide (n=f)&&chk Γ o xo&&chk Γ e x&&(Cs.all fun C=>decide (C∈Γ.kl.cs))&&decide (f∈Γ.kl.ats)
   | _=>false
 | .any,_=>true
noncomputable def chkSs(Γ:Gm):Sxs->List Stmt->Bool
 | .nil,ss=>ss.isEmpty
 | .cons s r,ss=>match ss with
   | x::xs=>Zdp Γ s x&&chkSs Γ r xs
   | []=>false
end
noncomputable def Zw(Y:Yx)(H:Hp)(B:List Addr)(r:R (Fl×Ev))(D:Ends)(E:XK):Prop:=match r with
 | .bad=>False
 | .ok p h'=>∀ H' μ',Gr H B H' μ'->RH Y H' μ' h'->match p.1 with
   | .nx=>∀ σ',RS Y H' μ' p.2 σ'->D.nx σ' H'
   | .bk=>∀ σ',RS Y H' μ' p.2 σ'->D.bk σ' H'
   | .ct=>∀ σ',RS Y H' μ' p.2 σ'->D.ct σ' H'
   | .rt d=>∀ v,RD Y H' μ' d v->D.rt v H'
 | .exc c h'=>∀ H' μ' C,Gr H B H' μ'->RH Y H' μ' h'->Y.mg c=some (.ref C)->E (.ref C) none H'
section
variable {Y:Yx}{α β:Type}{rel:Hp->List Addr->α->β->Prop}{H H1:Hp}{B μ1:List Addr}{E:XK}{D:Ends}
theorem Zw.mono{r:R (Fl×Ev)}(g:Gr H B H1 μ1)(f:Zw Y H B r D E):Zw Y H1 μ1 r D E:=by
 cases r with
 | bad=>exact f
 | ok a h=>exact fun H' μ' g'=>f H' μ' (g.trans g')
 | exc c h=>exact fun H' μ' C g'=>f H' μ' C (g.trans g')
theorem Zw.bind{r:R α}{k:α->Hd->R (Fl×Ev)}{Q1:β->Hp->Prop}(f:Zw Y H B (r.bind k) D E)
   (hk:∀ a h1 b H1 μ1,r=.ok a h1->Gr H B H1 μ1->RH Y H1 μ1 h1->rel H1 μ1 a b->Zw Y H1 μ1 (k a h1) D E->Q1 b H1):Fin Y rel H B r Q1 E:=by
 cases r with
 | bad=>exact f
 | ok a h=>exact fun b H' μ' g' rh rl=>hk a h b H' μ' rfl g' rh rl (Zw.mono g' f)
 | exc c h=>exact f
theorem Zw.ofO{o:Option α}{h:Hd}{k:α->Hd->R (Fl×Ev)}(f:Zw Y H B ((R.ofO o h).bind k) D E):∃ a,o=some a/\Zw Y H B (k a h) D E:=by
 cases o with
 | none=>exact f.elim
 | some a=>exact ⟨a,rfl,f⟩
theorem Zw.nx{S:Ev}{Z:L2.St}{h:Hd}(f:Zw Y H B (.ok (.nx,S) h) D E)(rh:RH Y H B h)(rs:RS Y H B S Z):D.nx Z H:=f H B Gr.refl rh Z rs
theorem Zw.part{r:R (Fl×Ev)}{k:(Fl×Ev)->Hd->R (Fl×Ev)}{D1:Ends}(f:Zw Y H B (r.bind k) D E)
   (hk:∀ p h1 H1 μ1,r=.ok p h1->Gr H B H1 μ1->RH Y H1 μ1 h1->Zw Y H1 μ1 (k p h1) D E->match p.1 with
     | .nx=>∀ σ',RS Y H1 μ1 p.2 σ'->D1.nx σ' H1
     | .bk=>∀ σ',RS Y H1 μ1 p.2 σ'->D1.bk σ' H1
     | .ct=>∀ σ',RS Y H1 μ1 p.2 σ'->D1.ct σ' H1
     | .rt d=>∀ v,RD Y H1 μ1 d v->D1.rt v H1):Zw Y H B r D1 E:=by
 cases r with
 | bad=>exact f
 | ok p h=>exact fun H' μ' g' rh=>hk p h H' μ' rfl g' rh (Zw.mono g' f)
 | exc c h=>exact f
end
noncomputable def Zq1(T:Tb)(Y:Yx)(E:XK)(s:Sx):TS:=fun D Z H=>∃ S h B,RH Y H B h/\RS Y H B S Z/\Zw Y H B (xs1 T s S h) D E
noncomputable def Zoy(T:Tb)(Y:Yx)(E:XK)(s:Sxs):TS:=fun D Z H=>∃ S h B,RH Y H B h/\RS Y H B S Z/\Zw Y H B (xs2 T s S h) D E
theorem _root_.L2.PS.imp{X:Cx}{s:Stmt}{t t':TS}(h:PS X s t)(i:∀ D Z H,t' D Z H->t D Z H):PS X s t':=fun pins s Z H D I q=>h pins s Z H D I (i D Z H q)
theorem _root_.L2.PSs.imp{X:Cx}{s:List Stmt}{t t':TS}(h:PSs X s t)(i:∀ D Z H,t' D Z H->t D Z H):PSs X s t':=fun pins s Z H D I q=>h pins s Z H D I (i D Z H q)
structure GdS(T:Tb)(Γ:Gm)(X:Cx)(Y:Yx)(E:XK)(k:Nat):Prop extends Gd T Γ X Y E k where
 top:Γ.top=true
 fnt:∀ x,X.fn x=true
 own:PassesOwn (model X.prog X.w) X.A X.env X.xe
 bk:X.env.blockKind=.function
theorem GdS.ownD{T:Tb}{Γ:Gm}{X:Cx}{Y:Yx}{E:XK}{k:Nat}(G:GdS T Γ X Y E k):∀ x,ownD Γ.sc x=true->Loc X.env.scope x/\(X.fn x=true\/X.env.scope.names.lookup x=some .local):=by
 intro x h
 refine ⟨?_,.inl (G.fnt x)⟩
 unfold IV.ownD at h
 rw [G.sc G.top]
 rw [Bool.or_eq_true] at h
 exact h.imp of_decide_eq_true of_decide_eq_true
theorem ZcR{x:Expr}{t:Option Expr}{n:Nat}{env:Env}(h:ZdK x=true):swapsWith x t n env=pure false:=by
 cases x<;>first|rfl|cases h
theorem Zd1{tg x:Expr}{env:Env}(h:(!isTup tg || Zlw x)=true)(hg:∀ es p,tg≠.List es p):swappedStores [tg] x env=pure none:=by
 cases tg with
 | List es p=>exact absurd rfl (hg es p)
 | Tuple es k p =>
   cases x<;>first|rfl|cases h
 | _=>rfl
theorem ZkR{T:Tb}{Γ:Gm}{X:Cx}{Y:Yx}{E:XK}{k:Nat}(G:GdS T Γ X Y E k){i:Nat}{y:Str}{py pos spos:Pos}{elt:Expr}{gs:List Comprehension}{scope:Scope}{e:Ex}
   (hi:Γ.N[i]? = some y) (ho:ownD Γ.sc y=true) (h:chk Γ e (.ListComp elt gs scope pos)=true):PS X (.Assign [.Name y py] (.ListComp elt gs scope pos) spos) (ZkJ (ZbD T Y E e) (Zdg i)):=by
 obtain ⟨o1,o2⟩:=G.ownD y ho
 have hy:X.N[i]? = some y:=by rw [G.N];exact hi
 by_cases sw:swapsWith (.ListComp elt gs scope pos) (some (.Name y py)) spos.line X.env=pure true
 . cases e with
   | comp NC js it g c e =>
     unfold chk at h
     split at h
     . rename_i heq
       cases heq
       rw [Oa,Oa,Oa,Oa,Oa,Oa,Oa] at h
       obtain ⟨⟨⟨⟨⟨⟨⟨h0,h1⟩,h2⟩,h3⟩,h4⟩,h5⟩,h6⟩,h7⟩:=h
       have S_:=ZhF h1
       rw [<- G.N,<- G.sc h0] at S_
       have Gc:=fun (C:Addr) (s3:Shared) (H3:Hp) (fp:List Addr)=>G.toGd.comp NC scope C s3 H3 fp S_.nd
       rw [OC] at h5
       refine (Zh6 (g:=tgR X.K g) (tc:=fun Z H Q=>∃ S h B,RH Y H B h/\RS Y H B S Z/\Fin Y (fun _ _ (a b:Bool)=>a=b) H B (tsto T c S h) Q E0) (te:=ZbD T Y E0 e) G.nd hy o1 o2 S_ rfl G.calm (evi_ok it G.toGd h2) (fun C s3 H3 fp=>⟨Zjo rfl S_.nd rfl (fun x hx=>?_) h4,?_,Zj e (Gc C s3 H3 fp) h7⟩) (ZqO X.K g) (fun j hj=>of_decide_eq_true (h5 j (List.mem_range.mpr hj))) (Zh1 X.env h3) sw).imp
         fun D Z H q=>?_
       . have hl:=of_decide_eq_true hx
         have:(relabel scope X.env).names.lookup x=some .local:=by rw [ZaG,hl];rfl
         exact ⟨.inl this,.inr this⟩
       . exact ifs_ok c (Gc C s3 H3 fp) h6
       . obtain ⟨S,h,B,rh,rs,f⟩:=q
         exact ⟨S,h,B,rh,rs,Fin.bind f fun w h1 J H1 μ1 _ g1 rh1 wj f1 D hD=>ZjJ G.gk.K (fun _ _ _ z=>z) rh1 (rs.mono rh g1) wj f1 hD⟩
     . cases h
   | cst d=>cases d<;>(unfold chk Zmp at h;cases h)
   | any=>exact fun pins s Z H D I ⟨S,h,B,rh,rs,f⟩=>f.elim
   | _=>unfold chk at h;cases h
 . refine Zla G.nd hy o1 (Zj e G.toGd h) ?_ o2
   have e1:swapsWith (.ListComp elt gs scope pos) (some (.Name y py)) spos.line X.env=pure (X.env.blockKind==.function&&X.env.kindOf y==some .local&&py.line==pos.line&&!(scope.names.any fun (n,k)=>n==y&&(k==.local || k==.cell))):=rfl
   cases q:(X.env.blockKind==.function&&X.env.kindOf y==some .local&&py.line==pos.line&&!(scope.names.any fun (n,k)=>n==y&&(k==.local || k==.cell))) with
   | true=>rw [q] at e1;exact absurd e1 sw
   | false=>rw [q] at e1;exact e1
theorem Zqo{T:Tb}{Γ:Gm}{X:Cx}{Y:Yx}{E:XK}{k:Nat}(G:Gd T Γ X Y E k){Cs:List Str}{f:Str}{e:Ex}(hc:(Cs.all fun C=>decide (C∈Γ.kl.cs))=true)(hf:f∈Γ.kl.ats){H1:Hp}{μ1:List Addr}{h1:Hd}{d:D}{x:V}{S:Ev}{Z:L2.St}{D:Ends}(rh1:RH Y H1 μ1 h1)(rs1:RS Y H1 μ1 S Z)(rd:RD Y H1 μ1 d x)
   (f1:Zw Y H1 μ1 ((ZgB Cs f d h1).bind fun v h2=>(ev T e S h2).bind fun y h3=>match v,y with
     | .int a,.int b=>if (Zaa d h1).map (·.1)=(Zaa d h3).map (·.1) then (Zgi Cs f d (.int (a+b)) h3).bind fun _ h4=>.ok (.nx,S) h4 else .bad
     | _,_=>.bad) D E) :
   ∃ a C dx fs v,x=.ref a/\H1 a=some (.ins C dx fs)/\Cls X.K C/\ZaS X.K C f/\fs.lookup f=some v /\
     ZbD T Y E e Z H1 fun y H2=>Zrc v y H2 fun z H3=>∃ dx' fs',H3 a=some (.ins C dx' fs')/\fs'.length<1000/\D.nx Z (upd H3 a (.ins C dx' (ZbP f z fs'))):=by
 unfold ZgB at f1
 cases ei:Zaa d h1 with
 | none=>rw [ei] at f1;exact f1.elim
 | some p =>
   obtain ⟨C,fs⟩:=p
   rw [ei] at f1
   simp only at f1
   by_cases hC:C∈Cs
   . rw [if_pos hC] at f1
     obtain ⟨w,e1,f1⟩:=f1.ofO
     obtain ⟨i,a,Ca,dx,gs,rfl,rfl,q,hi,z,m,s⟩:=Zfr rh1 rd ei
     obtain ⟨v,l,rv⟩:=(s.look (f:=f)).1 w e1
     have hc':=hc
     rw [OC] at hc'
     obtain ⟨Ca',m',cl,na⟩:=G.cls C (of_decide_eq_true (hc' C hC))
     have m0:=m
     rw [G.gk.mg,m'] at m
     cases m
     refine ⟨a,Ca,dx,gs,v,rfl,z,cl,na f hf,l,S,h1,μ1,rh1,rs1,Zw.bind f1 fun y h3 u H3 μ3 _ g3 rh3 ry f3=>?_⟩
     cases w with
     | int p =>
       cases y with
       | int r =>
         cases rv
         cases ry
         refine ⟨p,r,rfl,rfl,?_⟩
         simp only at f3
         by_cases hk:Option.map (·.1) (some (C,fs))=(Zaa (.ref i) h3).map (·.1)
         . rw [if_pos hk] at f3
           obtain ⟨a',C',dx',fs',e4,z',_,_,l',nx⟩:=ZkQ (Q:=fun _ H'=>D.nx Z H') G hc hf rh3 (rd.mono rh1 g3) (.int _) (Zw.bind f3 fun _ h4 _ H4 μ4 _ g4 rh4 _ f4=>f4.nx rh4 ((rs1.mono rh1 g3).mono rh3 g4))
           cases e4
           cases e5:Zaa (.ref i) h3 with
           | none=>rw [e5] at hk;cases hk
           | some p3 =>
             obtain ⟨C3,fs3⟩:=p3
             rw [e5] at hk
             cases hk
             obtain ⟨i3,a3,Ca3,dx3,gs3,e6,e7,_,_,z3,m3,_⟩:=Zfr rh3 (rd.mono rh1 g3) e5
             cases e7
             rw [m0] at m3
             cases m3
             rw [z'] at z3
             cases z3
             exact ⟨dx',fs',z',l',nx⟩
         . rw [if_neg hk] at f3;exact f3.elim
       | _=>exact f3.elim
     | _=>exact f3.elim
   . rw [if_neg hC] at f1;exact f1.elim
mutual
theorem Zq0{T:Tb}{Y:Yx}:∀ (s:Sx) {Γ:Gm}{X:Cx}{E:XK}{k:Nat}{x:Stmt},GdS T Γ X Y E k->Zdp Γ s x=true->PS X x (Zq1 T Y E s)
 | .ret e,Γ,X,E,k,x,G,h=>by
   unfold Zdp at h
   split at h
   . exact (Zpp (Zj e G.toGd h)).imp fun D Z H ⟨S,h,B,rh,rs,f⟩=>⟨S,h,B,rh,rs,Zw.bind f fun d h1 v H1 μ1 _ g rh1 rd f1=>f1 H1 μ1 Gr.refl rh1 v rd⟩
   . cases h
 | .set g e,Γ,X,E,k,x,G,h=>by
   unfold Zdp at h
   split at h
   . rename_i tg xe pos
     rw [Oa,Oa] at h
     obtain ⟨⟨h1,h2⟩,h3⟩:=h
     have fin:∀ {D:Ends}{Z:L2.St}{H:Hp},Zq1 T Y E (.set g e) D Z H->ZkJ (ZbD T Y E e) (tgR X.K g) D Z H:=fun {D Z H} ⟨S,h,B,rh,rs,f⟩=>⟨S,h,B,rh,rs,Zw.bind f fun d h1 v H1 μ1 _ g1 rh1 rd f1=>by
       obtain ⟨ρ1,eb,f1⟩:=f1.ofO
       exact ZgO G.gk.K rd (rs.mono rh g1) eb fun σ1 rs1=>f1.nx rh1 rs1⟩
     rw [Bool.or_eq_true,Oa] at h3
     have pg:=Zjo (X:=X) G.N G.nd G.calm G.ownD h1
     rcases h3 with ⟨h3,h4⟩|h3
     . have nl:∀ es p,tg≠.List es p:=fun es p z=>by subst z;cases g<;>(unfold Zeg at h1;cases h1)
       cases g with
       | nm i =>
         cases tg with
         | Name y py =>
           unfold Zeg at h1
           rw [Oa] at h1
           obtain ⟨o1,o2⟩:=G.ownD y h1.2
           exact (Zla G.nd (by rw [G.N];exact of_decide_eq_true h1.1) o1 (Zj e G.toGd h2) (ZcR h3) o2).imp fun D Z H q=>fin q
         | _=>unfold Zeg at h1;cases h1
       | two i j =>
         refine (Zh7 (Zj e G.toGd h2) pg (ZcR h3) (Zd1 h4 nl) ?_).imp fun D Z H q=>fin q
         cases tg<;>first|rfl|(unfold Zeg at h1;cases h1)
       | many is =>
         refine (Zh7 (Zj e G.toGd h2) pg (ZcR h3) (Zd1 h4 nl) ?_).imp fun D Z H q=>fin q
         cases tg<;>first|rfl|(unfold Zeg at h1;cases h1)
     . cases tg with
       | Name y py =>
         cases xe with
         | ListComp elt gs scope pos =>
           cases g with
           | nm i =>
             unfold Zeg at h1
             rw [Oa] at h1
             exact (ZkR G (of_decide_eq_true h1.1) h1.2 h2).imp fun D Z H q=>fin q
           | two i j=>unfold Zeg at h1;cases h1
           | many is=>unfold Zeg at h1;cases h1
         | _=>cases h3
       | _=>cases h3
   . cases h
 | .put o i e,Γ,X,E,k,x,G,h=>by
   unfold Zdp at h
   split at h
   . rename_i xo xi p1 xe p2
     rw [Oa,Oa,Oa,Oa] at h
     obtain ⟨⟨⟨⟨h1,h2⟩,h3⟩,h4⟩,h5⟩:=h
     refine (Zh7 (pos:=p2) (Zj e G.toGd h3) (Zpv (pos:=p1) (Zj o G.toGd h1) (Zj i G.toGd h2) (Zpn (Y:=Y) (E:=E)) ?_) (by unfold swapsWithSole;exact ZcR h5) (Zd1 rfl (fun _ _ z=>by cases z)) rfl).imp fun D Z H ⟨S,h,B,rh,rs,f⟩=>⟨S,h,B,rh,rs,Zw.bind f fun d h1 v H1 μ1 _ g1 rh1 rd f1 =>
       ⟨S,h1,μ1,rh1,rs.mono rh g1,f1.bind fun d2 h2 v2 H2 μ2 _ g2 rh2 rd2 f2=>⟨S,h2,μ2,rh2,(rs.mono rh g1).mono rh1 g2,f2.bind fun d3 h3 v3 H3 μ3 _ g3 rh3 rd3 f3 =>
         ⟨d2,d3,d,h3,μ3,rh3,rd2.mono rh2 g3,rd3,(rd.mono rh1 g2).mono rh2 g3,f3.bind fun _ h4 _ H4 μ4 _ g4 rh4 _ f4=>f4.nx rh4 ((((rs.mono rh g1).mono rh1 g2).mono rh2 g3).mono rh3 g4)⟩⟩⟩⟩
     cases xi<;>first|(intro _;rfl)|cases h4
   . cases h
 | .aug i op e,Γ,X,E,k,x,G,h=>by
   unfold Zdp at h
   split at h
   . rw [Oa,Oa,Oa,Oa] at h
     obtain ⟨⟨⟨⟨h1,h2⟩,h3⟩,h4⟩,h5⟩:=h
     have e1:=of_decide_eq_true h1
     have e2:=of_decide_eq_true h2
     subst e1 e2
     obtain ⟨o1,o2⟩:=G.ownD _ h4
     refine (Zps G.nd (by rw [G.N];exact of_decide_eq_true h3) o1 (Zj e G.toGd h5) Zp7 o2).imp fun D Z H ⟨S,h,B,rh,rs,f⟩=>?_
     obtain ⟨d,ed,f⟩:=Zw.ofO f
     obtain ⟨v,ev,rd⟩:=rs.var ed
     refine ⟨v,ev,S,h,B,rh,rs,Zw.bind f fun d2 h2 v2 H2 μ2 _ g2 rh2 rd2 f2=>?_⟩
     cases rd with
     | int a =>
       cases rd2 with
       | int b=>exact ⟨a,b,rfl,rfl,Zw.nx f2 rh2 ((rs.mono rh g2).set (.int _))⟩
       | _=>exact f2.elim
     | _=>exact f2.elim
   . cases h
 | .drp e,Γ,X,E,k,x,G,h=>by
   unfold Zdp at h
   split at h
   . rw [Oa] at h
     exact (Znh (Zj e G.toGd h.1) (ZcR h.2)).imp fun D Z H ⟨S,h,B,rh,rs,f⟩=>⟨S,h,B,rh,rs,Zw.bind f fun d h1 v H1 μ1 _ g1 rh1 rd f1=>f1.nx rh1 (rs.mono rh g1)⟩
   . cases h
 | .iff c a b,Γ,X,E,k,x,G,h=>by
   unfold Zdp at h
   split at h
   . rw [Oa,Oa] at h
     refine (Zre (tst_ok c G.toGd h.1.1) (sts_ok a G h.1.2) (sts_ok b G h.2)).imp fun D Z H ⟨S,h,B,rh,rs,f⟩=>⟨S,h,B,rh,rs,Zw.bind f fun t h1 v H1 μ1 _ g1 rh1 rd f1=>?_⟩
     subst rd
     cases t with
     | true=>exact ZiA ⟨S,h1,μ1,rh1,rs.mono rh g1,f1⟩
     | false=>exact ZiB ⟨S,h1,μ1,rh1,rs.mono rh g1,f1⟩
   . cases h
 | .whl c b,Γ,X,E,k,x,G,h=>by
   unfold Zdp at h
   split at h
   . rw [Oa] at h
     refine (Zk9 G.own (tst_ok c G.toGd h.1) (sts_ok b G h.2)).imp fun D Z H ⟨S,h,B,rh,rs,f⟩=>?_
     refine ⟨fun m Z H=>∃ S h B,RH Y H B h/\RS Y H B S Z/\Zw Y H B (ZQ (tst T c) (xs2 T b) m S h) D E,⟨T.L,S,h,B,rh,rs,f⟩,?_⟩
     rintro m Z H ⟨S,h,B,rh,rs,f⟩
     cases m with
     | zero=>exact f.elim
     | succ m =>
       refine ⟨S,h,B,rh,rs,Zw.bind f fun t h1 v H1 μ1 _ g1 rh1 rd f1=>?_⟩
       subst rd
       cases t with
       | false=>exact ZiB (Zw.nx f1 rh1 (rs.mono rh g1))
       | true =>
         refine ZiA ⟨fun σ' H'=>∃ S h B,RH Y H' B h/\RS Y H' B S σ'/\Zw Y H' B (ZQ (tst T c) (xs2 T b) m S h) D E,fun σ' H' q=>⟨m,OH m,q⟩,S,h1,μ1,rh1,rs.mono rh g1,?_⟩
         refine Zw.part f1 fun p h2 H2 μ2 _ g2 rh2 f2=>?_
         obtain ⟨fl,ρ2⟩:=p
         cases fl with
         | nx=>exact fun σ' rs'=>⟨ρ2,h2,μ2,rh2,rs',f2⟩
         | ct=>exact fun σ' rs'=>⟨ρ2,h2,μ2,rh2,rs',f2⟩
         | bk=>exact fun σ' rs'=>Zw.nx f2 rh2 rs'
         | rt d=>exact fun v rv=>f2 H2 μ2 Gr.refl rh2 v rv
   . cases h
 | .forr g it b,Γ,X,E,k,x,G,h=>by
   unfold Zdp at h
   split at h
   . rw [Oa,Oa,Oa] at h
     obtain ⟨⟨⟨h1,h2⟩,h3⟩,h4⟩:=h
     refine (Zpq G.own G.calm (evi_ok it G.toGd h1) (Zjo (X:=X) G.N G.nd G.calm G.ownD h3) (sts_ok b G h4) (Zh1 X.env h2)).imp fun D Z H ⟨S,h,B,rh,rs,f⟩=>⟨S,h,B,rh,rs,Zw.bind f fun w h1 J H1 μ1 _ g1 rh1 wj f1=>?_⟩
     refine ⟨fun i m Z H=>∃ S h B,i<=w.xs.length/\m=w.xs.length - i/\Gr H1 μ1 H B/\RH Y H B h/\RS Y H B S Z/\Zw Y H B (Z0 w.src g (xs2 T b) (w.xs.drop i) S h) D E,⟨w.xs.length,S,h1,μ1,Nat.zero_le _,by simp,Gr.refl,rh1,rs.mono rh g1,f1⟩,?_⟩
     rintro i m Z H ⟨S,h,B,hi,rfl,g0,rh,rs,f⟩
     by_cases hlt:i<w.xs.length
     . obtain ⟨d,hd⟩:∃ d,w.xs[i]? = some d:=⟨_,Og hlt⟩
       have hdrop:w.xs.drop i=d::w.xs.drop (i+1):=by
         rw [List.drop_eq_getElem_cons hlt]
         have:=Og hlt
         rw [hd] at this
         rw [<- Option.some.inj this]
       rw [hdrop,Z0] at f
       by_cases hs:Wk.stays w.src h=true
       . rw [if_pos hs] at f
         obtain ⟨go,yl⟩:=(wj H B h g0 rh hs).1 i d hd
         refine .inr ⟨go,fun σ' H'=>∃ S h B,i+1<=w.xs.length/\Gr H1 μ1 H' B/\RH Y H' B h/\RS Y H' B S σ'/\Zw Y H' B (Z0 w.src g (xs2 T b) (w.xs.drop (i+1)) S h) D E,fun σ' H' ⟨S,h,B,q1,q2,q3,q4,q5⟩=>⟨_,Nat.sub_lt_sub_left hlt (OH i),S,h,B,q1,rfl,q2,q3,q4,q5⟩,fun x H' hy=>?_⟩
         obtain ⟨g2,rh2,rx⟩:=yl x H' hy
         split at f
         . exact f.elim
         . rename_i ρ1 hb
           refine ZgO G.gk.K rx (rs.mono rh g2) hb fun σ1 rs1=>⟨ρ1,h,B,rh2,rs1,Zw.part (Zw.mono g2 f) fun p h3 H3 μ3 _ g3 rh3 f3=>?_⟩
           have g03:=(g0.trans g2).trans g3
           obtain ⟨fl,ρ2⟩:=p
           cases fl with
           | nx=>exact fun σ' rs'=>⟨ρ2,h3,μ3,hlt,g03,rh3,rs',f3⟩
           | ct=>exact fun σ' rs'=>⟨ρ2,h3,μ3,hlt,g03,rh3,rs',f3⟩
           | bk=>exact fun σ' rs'=>Zw.nx f3 rh3 rs'
           | rt d=>exact fun v rv=>f3 H3 μ3 Gr.refl rh3 v rv
       . rw [if_neg hs] at f
         exact f.elim
     . have he:i=w.xs.length:=by omega
       subst he
       rw [List.drop_eq_nil_of_le (Oq _),Z0] at f
       by_cases hs:Wk.stays w.src h=true
       . rw [if_pos hs] at f
         exact .inl ⟨(wj H B h g0 rh hs).2,Zw.nx f rh rs⟩
       . rw [if_neg hs] at f
         exact f.elim
   . cases h
 | .pas,Γ,X,E,k,x,G,h=>by
   unfold Zdp at h
   split at h
   . exact Zng.imp fun D Z H ⟨S,h,B,rh,rs,f⟩=>Zw.nx f rh rs
   . cases h
 | .brk,Γ,X,E,k,x,G,h=>by
   unfold Zdp at h
   split at h
   . exact Zlb.imp fun D Z H ⟨S,h,B,rh,rs,f⟩=>f H B Gr.refl rh Z rs
   . cases h
 | .cnt,Γ,X,E,k,x,G,h=>by
   unfold Zdp at h
   split at h
   . exact Zhg.imp fun D Z H ⟨S,h,B,rh,rs,f⟩=>f H B Gr.refl rh Z rs
   . cases h
 | .any,Γ,X,E,k,x,G,h=>fun pins s Z H D I ⟨S,h,B,rh,rs,f⟩=>f.elim
 | .seta Cs o f e,Γ,X,E,k,x,G,h=>by
   unfold Zdp at h
   split at h
   . rw [Oa,Oa,Oa,Oa,Oa] at h
     obtain ⟨⟨⟨⟨⟨h1,h2⟩,h3⟩,h4⟩,h5⟩,h6⟩:=h
     have en:=of_decide_eq_true h1
     subst en
     exact (Zpr (Zj o G.toGd h2) (Zj e G.toGd h3) (ZcR h4)).imp fun D Z H ⟨S,h,B,rh,rs,f⟩=>⟨S,h,B,rh,rs,Zw.bind f fun d h1 v H1 μ1 _ g1 rh1 rd f1=>⟨S,h1,μ1,rh1,rs.mono rh g1,Zw.bind f1 fun d2 h2 v2 H2 μ2 _ g2 rh2 rd2 f2 =>
       ZkQ (Q:=fun _ H'=>D.nx Z H') G.toGd h5 (of_decide_eq_true h6) rh2 rd2 (rd.mono rh1 g2) (Zw.bind f2 fun _ h3 _ H3 μ3 _ g3 rh3 _ f3=>f3.nx rh3 (((rs.mono rh g1).mono rh1 g2).mono rh2 g3))⟩⟩
   . cases h
 | .auga Cs o f e,Γ,X,E,k,x,G,h=>by
   unfold Zdp at h
   split at h
   . rw [Oa,Oa,Oa,Oa,Oa] at h
     obtain ⟨⟨⟨⟨⟨h0,h1⟩,h2⟩,h3⟩,h5⟩,h6⟩:=h
     have eo:=of_decide_eq_true h0
     have en:=of_decide_eq_true h1
     subst eo
     subst en
     exact (Zj4 (Zj o G.toGd h2) (Zj e G.toGd h3) Zp8).imp fun D Z H ⟨S,h,B,rh,rs,f⟩=>⟨S,h,B,rh,rs,Zw.bind f fun d h1 x H1 μ1 _ g1 rh1 rd f1=>Zqo G.toGd h5 (of_decide_eq_true h6) rh1 (rs.mono rh g1) rd f1⟩
   . cases h
theorem sts_ok{T:Tb}{Y:Yx}:∀ (s:Sxs) {Γ:Gm}{X:Cx}{E:XK}{k:Nat}{x:List Stmt},GdS T Γ X Y E k->chkSs Γ s x=true->PSs X x (Zoy T Y E s)
 | .nil,Γ,X,E,k,x,G,h=>by
   unfold chkSs at h
   cases x with
   | nil=>exact Znf.imp fun D Z H ⟨S,h,B,rh,rs,f⟩=>Zw.nx f rh rs
   | cons a b=>cases h
 | .cons s r,Γ,X,E,k,x,G,h=>by
   unfold chkSs at h
   split at h
   . rw [Oa] at h
     refine (Zk8 (Zq0 s G h.1) (sts_ok r G h.2)).imp fun D Z H ⟨S,h,B,rh,rs,f⟩=>⟨S,h,B,rh,rs,Zw.part f fun p h1 H1 μ1 _ g1 rh1 f1=>?_⟩
     obtain ⟨fl,ρ1⟩:=p
     cases fl with
     | nx=>exact fun σ' rs'=>⟨ρ1,h1,μ1,rh1,rs',f1⟩
     | bk=>exact fun σ' rs'=>f1 H1 μ1 Gr.refl rh1 σ' rs'
     | ct=>exact fun σ' rs'=>f1 H1 μ1 Gr.refl rh1 σ' rs'
     | rt d=>exact fun v rv=>f1 H1 μ1 Gr.refl rh1 v rv
   . cases h
end
end IV
end
section
set_option tactic.hygienic false
namespace IV
open PySem PySem.Spec PyProof.Rows L2
structure BodyOk(K:PySem.W.Frag)(kl:Kl)(fs:List Str)(x q:Str)(fd:Fd)(st:Stmt)(f:Addr)(fdd:FuncData):Prop where
 fn:Fun K x q st f fdd
 sc:FnScope fd.N fd.ps (ZM st)
 hb:∀ (kV doc pm:Value) (an:Option Addr) (cdv ct:Value) (us:List Value),us.length=fd.ps.length->bindArgs (PySem.W.fnOf x q (ZcY st) (ZbH st) (ZM st) .none kV doc pm an cdv ct) ⟨us,[]⟩=pure (fd.ps.zip us)
 ck:chkSs ⟨fd.N,ZM st,fs,true,kl⟩ fd.body (ZbH st)=true
structure DefOk(K:PySem.W.Frag)(mg:Str->Option Value)(kl:Kl)(fs:List Str)(x:Str)(fd:Fd)(st:Stmt)(f:Addr)(fdd:FuncData):Prop where
 bd:BodyOk K kl fs x x fd st f fdd
 mg:mg x=some (.ref f)
structure Md(Pr:Program)(w:World)(K:PySem.W.Frag)(mg:Str->Option Value)(P:Pg)(kl:Kl):Prop where
 bare:ZeT K=true
 gd:∀ x kvs,P.GD x=some kvs->∃ a kvs',mg x=some (.ref a)/\DkK Pr w K a kvs'/\∀ H B,RKs ⟨K,mg⟩ H B kvs kvs'
 g:∀ x d,P.G x=some d->∃ v u,mg x=some u/\RelV v u/\∀ H B,RD ⟨K,mg⟩ H B d v
 blt:∀ x∈(["len", "isinstance", "int", "tuple", "list", "sum", "all", "sorted", "range", "enumerate", "reversed", "str", "bool", "max"]:List Str),mg x=none
 defs:∀ x fd,P.tb.lookup x=some fd->∃ st f fdd,DefOk K mg kl (P.tb.map (·.1)) x fd st f fdd
 cls:∀ C∈kl.cs,∃ a,mg C=some (.ref a)/\Cls K a/\∀ f∈kl.ats,ZaS K a f
 mts:∀ p∈kl.ms,∃ a f fdd fd st q,mg p.1=some (.ref a)/\Cls K a/\Meth K a p.2 f/\P.look (mnm p.1 p.2)=some fd/\BodyOk K kl (P.tb.map (·.1)) p.2 q fd st f fdd
 mks:∀ C∈kl.is,∃ a f fdd fd st q,mg C=some (.ref a)/\Mk K a f/\P.look (mnm C (O "__init__"))=some fd/\BodyOk K kl (P.tb.map (·.1)) (O "__init__") q fd st f fdd
theorem ZkK{Y:Yx}{H:Hp}{B:List Addr}{N:List Str}{ds:List D}{vs:List V}(r:RDs Y H B ds vs):RS Y H B (Zk N ds) (L2.start N vs):=by
 refine ⟨by simp [Zk,L2.start,r.length],fun i d e=>?_⟩
 unfold Zk at e
 unfold L2.start
 by_cases hi:i<ds.length
 . rw [Oe (by simpa using hi),On] at e
   rw [Oe (by simpa [<- r.length] using hi),On]
   obtain ⟨d',e1,e2⟩:=Oo.mp e
   cases e2
   obtain ⟨v,h1,h2⟩:=r.get e1
   exact ⟨v,by rw [h1];rfl,h2⟩
 . rw [Om (by simpa using hi)] at e
   have:=O1 e
   rw [List.mem_replicate] at this
   cases this.2
theorem Zm3{Y:Yx}{H:Hp}{B:List Addr}{r:R (Fl×Ev)}{Q:VK}{E:XK}(f:Fin Y (RD Y) H B (Zn r) Q E):Zw Y H B r {nx:=fun _ H'=>Q .non H',rt:=Q} E0:=by
 cases r with
 | bad=>exact f.elim
 | exc c h=>exact f.elim
 | ok p h =>
   obtain ⟨fl,S⟩:=p
   cases fl with
   | nx=>exact fun H' μ' g rh σ' _=>f .non H' μ' g rh .non
   | bk=>exact f.elim
   | ct=>exact f.elim
   | rt d=>exact fun H' μ' g rh v rv=>f v H' μ' g rh rv
section
variable {Pr:Program}{w:World}{K:PySem.W.Frag}{mg:Str->Option Value}{base:Heap}{P:Pg}{kl:Kl}
theorem Zgr{x:Str}{fd:Fd}(h:P.tb.lookup x=some fd):P.look x=some fd:=by unfold Pg.look;rw [h]
theorem ZkM{n:Nat}{x:Str}{fd:Fd}(hl:P.look x=some fd){vs:List V}{H:Hp}{Q:VK}{E:XK}(h:ZeC (P.tbl n) ⟨K,mg⟩ x vs H Q E):vs.length=fd.ps.length:=by
 obtain ⟨ds,h,B,rh,rs,f⟩:=h
 cases n with
 | zero=>exact f.elim
 | succ n =>
   have f:Fin ⟨K,mg⟩ (RD ⟨K,mg⟩) H B (run P (n+1) x ds h) Q E:=f
   rw [run,hl] at f
   obtain ⟨hz,_⟩:=f.iff
   rw [<- rs.length];exact hz
structure Lev(Pr:Program)(w:World)(K:PySem.W.Frag)(mg:Str->Option Value)(base:Heap)(P:Pg)(kl:Kl)(n:Nat):Prop where
 defs:∀ y∈P.tb.map (·.1),∃ ps,Def Pr w K mg base (2 * n+61) y ps (ZeC (P.tbl n) ⟨K,mg⟩ y)
 mts:∀ p∈kl.ms,∃ a f fd ps,mg p.1=some (.ref a)/\Cls K a/\Meth K a p.2 f/\FnOk Pr w K mg base (CXF Pr w) (2 * n+61) f fd ps (ZeC (P.tbl n) ⟨K,mg⟩ (mnm p.1 p.2))/\Binds K fd ps []
 mks:∀ C∈kl.is,∃ a f fd ps,mg C=some (.ref a)/\Mk K a f/\FnOk Pr w K mg base (CXF Pr w) (2 * n+61) f fd ps (ZeC (P.tbl n) ⟨K,mg⟩ (mnm C (O "__init__")))/\Binds K fd ps []
theorem ZgI(M:Md Pr w K mg P kl){x nm q:Str}{fd:Fd}{st:Stmt}{f:Addr}{fdd:FuncData}(hl:P.look x=some fd)(o:BodyOk K kl (P.tb.map (·.1)) nm q fd st f fdd) :
   ∀ n,Lev Pr w K mg base P kl n->FnOk Pr w K mg base (CXF Pr w) (2 * (n+1)+61) f fdd fd.ps (ZeC (P.tbl (n+1)) ⟨K,mg⟩ x):=by
 intro n ih
 obtain ⟨oc,od,kV,doc,pm,an,cdv,ct,osl,rfl,lk,hcd⟩:=o.fn.ex
 have S_:=o.sc
 rw [show 2 * (n+1)+61=(2 * n+61+1)+1 by omega]
 refine ZrP lk hcd S_ (fun vs H Q E h=>ZkM hl h) fun A outer s H vs Q E hr hsp=>?_
 refine Zmx (t:=Zoy (P.tbl n) ⟨K,mg⟩ E0 fd.body) (sts_ok fd.body (k:=2 * n+61) (Γ:=⟨fd.N,ZM st,P.tb.map (·.1),true,kl⟩) ⟨⟨⟨rfl,rfl,M.gd,M.g,M.bare⟩,rfl,fun _=>rfl,fun y hy=>?_,fun y hy=>hy,S_.nd,rfl,hr.mono (by omega),by omega,Zf3,ih.defs,M.blt,hr,M.cls,ih.mts,ih.mks⟩,rfl,fun _=>rfl,PassesOwn.never,?_⟩ o.ck) ?_
 . unfold ZmQ at hy
   rw [Bool.or_eq_true,Bool.or_eq_true] at hy
   rcases hy with (hy|hy)|hy
   . exact .inl (of_decide_eq_true hy)
   . exact .inr (.inl (of_decide_eq_true hy))
   . exact .inr (.inr (of_decide_eq_true hy))
 . show (if (ZM st).kind.isAnnotationScope then ScopeKind.function else (ZM st).kind)=.function
   rw [S_.kind];rfl
 . obtain ⟨ds,h,B,rh,rs,f⟩:=hsp
   have f:Fin ⟨K,mg⟩ (RD ⟨K,mg⟩) H B (run P (n+1) x ds h) Q E:=f
   rw [run,hl] at f
   obtain ⟨hz,f⟩:=f.iff
   exact ⟨Zk fd.N ds,h,B,rh,ZkK rs,Zm3 f⟩
theorem mem_lookup{α:Type}{l:List (Str×α)}{x:Str}(h:x∈l.map (·.1)):∃ a,l.lookup x=some a:=by
 induction l with
 | nil=>simp at h
 | cons p r ih =>
   rw [OF]
   by_cases e:x=p.1
   . have:(x==p.1)=true:=by simpa using e
     rw [this];exact ⟨_,rfl⟩
   . have:(x==p.1)=false:=by simpa using e
     rw [this]
     exact ih (by simpa [e] using h)
theorem ZgC{x:Str}{fd:Fd}{f:Addr}{fdd:FuncData}(hl:P.look x=some fd):FnOk Pr w K mg base (CXF Pr w) (2 * 0+61) f fdd fd.ps (ZeC (P.tbl 0) ⟨K,mg⟩ x) :=
 ⟨fun vs H Q E h=>ZkM hl h,fun A outer s H args us vs Q E _ _ _ _ h=>by obtain ⟨ds,h,B,rh,rs,f⟩:=h;exact f.elim⟩
theorem ZmE(M:Md Pr w K mg P kl):∀ n,Lev Pr w K mg base P kl n:=by
 intro n
 induction n with
 | zero =>
   refine ⟨fun y hy=>?_,fun p hp=>?_,fun C hC=>?_⟩
   . obtain ⟨fd,hl⟩:=mem_lookup hy
     obtain ⟨st,f,fdd,o⟩:=M.defs y fd hl
     exact ⟨fd.ps,f,fdd,o.mg,o.bd.fn.kp,o.bd.fn.binds o.bd.hb,ZgC (Zgr hl)⟩
   . obtain ⟨a,f,fdd,fd,st,q,m,c,me,hl,o⟩:=M.mts p hp
     exact ⟨a,f,fdd,fd.ps,m,c,me,ZgC hl,o.fn.binds o.hb⟩
   . obtain ⟨a,f,fdd,fd,st,q,m,me,hl,o⟩:=M.mks C hC
     exact ⟨a,f,fdd,fd.ps,m,me,ZgC hl,o.fn.binds o.hb⟩
 | succ n ih =>
   refine ⟨fun y hy=>?_,fun p hp=>?_,fun C hC=>?_⟩
   . obtain ⟨fd,hl⟩:=mem_lookup hy
     obtain ⟨st,f,fdd,o⟩:=M.defs y fd hl
     exact ⟨fd.ps,f,fdd,o.mg,o.bd.fn.kp,o.bd.fn.binds o.bd.hb,ZgI M (Zgr hl) o.bd n ih⟩
   . obtain ⟨a,f,fdd,fd,st,q,m,c,me,hl,o⟩:=M.mts p hp
     exact ⟨a,f,fdd,fd.ps,m,c,me,ZgI M hl o n ih,o.fn.binds o.hb⟩
   . obtain ⟨a,f,fdd,fd,st,q,m,me,hl,o⟩:=M.mks C hC
     exact ⟨a,f,fdd,fd.ps,m,me,ZgI M hl o n ih,o.fn.binds o.hb⟩
theorem ZpW(M:Md Pr w K mg P kl){x:Str}{a:Str}{fd:Fd}{fa:Addr}(n:Nat)(hl:P.tb.lookup x=some fd)(hps:fd.ps=[a])(hm:mg x=some (.ref fa)) :
   ∃ fdd:FuncData,(∀ (s:Shared) (v:Value),BindsTo s fdd ⟨[v],[]⟩ [(a,v)])/\∀ base:Heap,FnOk Pr w K mg base (CXF Pr w) (2 * (n+1)+61) fa fdd [a] (ZeC (P.tbl (n+1)) ⟨K,mg⟩ x):=by
 obtain ⟨st,f,fdd,o⟩:=M.defs x fd hl
 have e:=hm.symm.trans o.mg
 cases e
 refine ⟨fdd,fun s v=>?_,fun base=>hps ▸ ZgI M (Zgr hl) o.bd n (ZmE M n)⟩
 obtain ⟨oc,od,kV,doc,pm,an,cdv,ct,osl,rfl,lk,hcd⟩:=o.bd.fn.ex
 have:=o.bd.hb kV doc pm an cdv ct [v] (by rw [hps];rfl)
 rw [hps] at this
 exact BindsTo.of_eq this
end
theorem ZqJ{α:Type}{us:List α}(h:us.length=0):us=[]:=List.length_eq_zero_iff.mp h
theorem ZjQ{α:Type}{us:List α}{n:Nat}(h:us.length=n+1):∃ a r,us=a::r/\r.length=n:=by
 cases us with
 | nil=>cases h
 | cons a r=>exact ⟨a,r,rfl,Nat.succ.inj h⟩
theorem ZqI{α:Type}{us:List α}(h:us.length=1):∃ a0,us=[a0]:=by
 obtain ⟨a0,r,rfl,h2⟩:=ZjQ h
 exact ⟨a0,by rw [ZqJ h2]⟩
theorem ZqH{α:Type}{us:List α}(h:us.length=2):∃ a0 a1,us=[a0,a1]:=by
 obtain ⟨a0,r,rfl,h2⟩:=ZjQ h
 obtain ⟨a1,rfl⟩:=ZqI h2
 exact ⟨a0,a1,rfl⟩
theorem ZqG{α:Type}{us:List α}(h:us.length=3):∃ a0 a1 a2,us=[a0,a1,a2]:=by
 obtain ⟨a0,r,rfl,h2⟩:=ZjQ h
 obtain ⟨a1,a2,rfl⟩:=ZqH h2
 exact ⟨a0,a1,a2,rfl⟩
theorem ZqF{α:Type}{us:List α}(h:us.length=4):∃ a0 a1 a2 a3,us=[a0,a1,a2,a3]:=by
 obtain ⟨a0,r,rfl,h2⟩:=ZjQ h
 obtain ⟨a1,a2,a3,rfl⟩:=ZqG h2
 exact ⟨a0,a1,a2,a3,rfl⟩
theorem ZqE{α:Type}{us:List α}(h:us.length=5):∃ a0 a1 a2 a3 a4,us=[a0,a1,a2,a3,a4]:=by
 obtain ⟨a0,r,rfl,h2⟩:=ZjQ h
 obtain ⟨a1,a2,a3,a4,rfl⟩:=ZqF h2
 exact ⟨a0,a1,a2,a3,a4,rfl⟩
theorem Zsm{α:Type}{us:List α}(h:us.length=6):∃ a0 a1 a2 a3 a4 a5,us=[a0,a1,a2,a3,a4,a5]:=by
 obtain ⟨a0,r,rfl,h2⟩:=ZjQ h
 obtain ⟨a1,a2,a3,a4,a5,rfl⟩:=ZqE h2
 exact ⟨a0,a1,a2,a3,a4,a5,rfl⟩
end IV
end
section
namespace IV
open PySem PySem.Spec PyProof.Rows L2
noncomputable def All{α:Type}(p:α->Prop):List α->Prop
 | []=>True
 | a::l=>p a/\All p l
theorem All.mem{α:Type}{p:α->Prop}:∀ {l:List α},All p l->∀ a∈l,p a
 | [],_,a,h=>by simp at h
 | b::l,⟨h1,h2⟩,a,h=>by
   rcases O2.mp h with rfl|h
   . exact h1
   . exact All.mem h2 a h
theorem lookup_mem{α:Type}{l:List (Str×α)}{x:Str}{a:α}(h:l.lookup x=some a):(x,a)∈l:=by
 induction l with
 | nil=>cases h
 | cons p r ih =>
   rw [OF] at h
   by_cases e:x=p.1
   . have:(x==p.1)=true:=by simpa using e
     rw [this] at h
     cases h
     subst e
     exact Oi
   . have:(x==p.1)=false:=by simpa using e
     rw [this] at h
     exact Oh _ (ih h)
noncomputable def spL(K:PySem.W.Frag):Sp:=fun vs H Q _=>∃ (a:Addr) (ns:List Int),vs=[.ref a]/\SqL K H a (ns.map V.int)/\ns.length<=63/\Zop H/\∀ H',Q (.bl true) H'
theorem ZjD{Y:Yx}{H:Hp}{B:List Addr}:∀ ns:List Int,RDs Y H B (ns.map D.int) (ns.map V.int)
 | []=>.nil
 | n::r=>.cons (.int n) (ZjD r)
theorem ZqD {l:PySem.W.OpenLaw}{q:Program}{loose:List Str}{XP:(Str->Option Value)->Heap->Prop}{YP:World->Heap->Prop}{d:DefRec}{K:Params->PySem.W.Frag}{P:Pg}{kl:Kl}{fd:Fd} (n:Nat) (hn:l.most=some 63) (hdf:d.params.defaults=[]) (hd:d.name=O "law") (hr:Room (2 * (n+1)+61) callerA)
   (hY:∀ (w:World) (h:Heap),YP w h->(K w.params).In h) (hl:P.tb.lookup (O "law")=some fd) (hps:fd.ps=[O "_law_script"])
   (hrun:∀ ns:List Int,ns.length<=63->∃ h',run P (n+1) (O "law") [.ro (ns.map .int)] []=.ok (.bl true) h')
   (M:∀ (w:World) (mg:Str->Option Value) (h:Heap),(K w.params).In h->h.Ns mainGlobals mg->Md l.prog w (K w.params) mg P kl) :
   PySem.W.WalkO q loose XP YP l.row.toRowW d [] (fun f vs=>PySem.call f vs):=by
 refine L2.ZmP (n:=63) (k:=2 * (n+1)+61) (x := "_law_script") (CX:=fun w=>CXF l.prog w) (sp:=fun w=>spL (K w.params)) hn (by decide) hdf hr hY (fun w mg fa h KX G hmg=>?_) (fun _ _ a ns hl hO hS=>⟨a,ns,rfl,hS,hl,hO,fun _=>rfl⟩) fun _ _ _ _ _ z=>by obtain ⟨_,_,_,_,_,_,_,_,_,_,_,_,_,z⟩:=z;exact z
 rw [hd] at hmg
 obtain ⟨fdd,hb,F⟩:=ZpW (M w mg h KX G) n hl hps hmg
 refine ⟨fdd,hb,fun base _ _=>(F base).imp fun vs H Q E hsp=>?_⟩
 obtain ⟨a,ns,rfl,hS,hz,hO,hq⟩:=hsp
 obtain ⟨h',e⟩:=hrun ns hz
 refine ⟨[.ro (ns.map .int)],[],[],⟨rfl,.nil,fun i o a e=>by simp at e,fun i o e=>by simp at e⟩,.cons (.ro ?_ (ZjD ns)) .nil,?_⟩
 . rcases hS with hS|hS
   . rcases hS with hS|hS
     . rcases hO a with z|⟨o,xs,z⟩<;>(rw [z] at hS;cases hS)
     . exact .inl hS
   . exact .inr hS
 . show Fin _ _ H [] (run P (n+1) (O "law") [.ro (ns.map .int)] []) Q E
   rw [e]
   exact fun b H' μ' _ _ r=>by cases r;exact hq H'
theorem Zdy {K:PySem.W.Frag}{H:Hp}{a:Addr}{od:Option Addr}{its:Array Value}{n:Nat}{sl:Array (Option Value)}{vs:List V} (h:K.lookup a=some ⟨.type "tuple",od,.seq its n,sl⟩) (hz:its.size<=sizeLine) (r:Zi vs its.toList):SqT K H a vs :=
 .inr ⟨_,its,n,h,rfl,rfl,hz,r⟩
end IV
end
section
namespace IV
open PySem L2 PyProof.Rows
structure Chk(kl:Kl)(fs:List Str)(x q:Str)(fd:Fd)(st:Stmt):Prop where
 sc:FnScope fd.N fd.ps (ZM st)
 hb:∀ (kV doc pm:Value) (an:Option Addr) (cdv ct:Value) (us:List Value),us.length=fd.ps.length->bindArgs (PySem.W.fnOf x q (ZcY st) (ZbH st) (ZM st) .none kV doc pm an cdv ct) ⟨us,[]⟩=pure (fd.ps.zip us)
 ck:chkSs ⟨fd.N,ZM st,fs,true,kl⟩ fd.body (ZbH st)=true
variable {K:PySem.W.Frag}{h:Heap}{mg:Str->Option Value}{kl:Kl}{fs:List Str}{x q C:Str}{fd:Fd}{st:Stmt}{ca:Addr}{P:Pg}
theorem Chk.bd(c:Chk kl fs x q fd st){f:Addr}{fdd:FuncData}(F:Fun K x q st f fdd):BodyOk K kl fs x q fd st f fdd:=⟨F,c.sc,c.hb,c.ck⟩
noncomputable def ZN(K:PySem.W.Frag)(x:Str)(st:Stmt):Prop:=∃ f fdd,PySem.W.nsIn K mainGlobals x=some (some (.ref f))/\Fun K x x st f fdd
noncomputable def Zi1(K:PySem.W.Frag)(ca:Addr)(x q:Str)(st:Stmt):Prop:=∃ f fdd,PySem.W.findIn K (.ref ca) x=some (some (.ref f))/\PySem.W.isFn K (.ref f)=true/\PySem.W.keepIn K (.ref f)=true/\Fun K x q st f fdd
theorem Zg(X:K.In h)(G:h.Ns mainGlobals mg)(d:ZN K x st)(c:Chk kl fs x x fd st):∃ st f fdd,DefOk K mg kl fs x fd st f fdd:=by
 obtain ⟨f,fdd,a,F⟩:=d
 exact ⟨st,f,fdd,c.bd F,PySem.W.mg_of X G a⟩
theorem ZeN(X:K.In h)(G:h.Ns mainGlobals mg)(y:PySem.W.nsIn K mainGlobals C=some (some (.ref ca)))(cl:Cls K ca)(d:Zi1 K ca x q st)(c:Chk kl (P.tb.map (·.1)) x q fd st)(e:P.look (mnm C x)=some fd):∃ a f fdd fd st q,mg C=some (.ref a)/\Cls K a/\Meth K a x f/\P.look (mnm C x)=some fd/\BodyOk K kl (P.tb.map (·.1)) x q fd st f fdd:=by
 obtain ⟨f,fdd,u1,u2,u3,F⟩:=d
 exact ⟨ca,f,fdd,fd,st,q,PySem.W.mg_of X G y,cl,⟨u1,u2,u3⟩,e,c.bd F⟩
theorem ZpS (X:K.In h) (G:h.Ns mainGlobals mg) (y:PySem.W.nsIn K mainGlobals C=some (some (.ref ca))) (m:PySem.W.makesIn K ca=true) (k:PySem.W.keepIn K (.ref ca)=true) (d:Zi1 K ca (O "__init__") q st) (c:Chk kl (P.tb.map (·.1)) (O "__init__") q fd st) (e:P.look (mnm C (O "__init__"))=some fd):∃ a f fdd fd st q,mg C=some (.ref a)/\Mk K a f/\P.look (mnm C (O "__init__"))=some fd/\BodyOk K kl (P.tb.map (·.1)) (O "__init__") q fd st f fdd:=by
 obtain ⟨f,fdd,u1,u2,u3,F⟩:=d
 exact ⟨ca,f,fdd,fd,st,q,PySem.W.mg_of X G y,⟨m,u1,u2,k⟩,e,c.bd F⟩
end IV
end
section
set_option tactic.hygienic false
namespace IV
open PySem L2
theorem Zgo{a b:String}(h:Str.ofString a=Str.ofString b):a=b:=by
 have e:∀ s:String,(Str.ofString s).cps.toList=s.toList.map Char.toNat:=fun s=>by
   show (cpsOfBytes 0 0 s.toByteArray.data.toList).toArray.toList=_
   rw [cpsOfBytes_string]
 have h1:=congrArg (fun s:Str=>s.cps.toList) h
 simp only [e] at h1
 have h2:a.toList=b.toList:=by
   have inj:∀ {x y:Char},x.toNat=y.toNat->x=y:=fun {x y} q=>by
     have:x.val=y.val:=UInt32.toNat_inj.mp q
     exact Char.ext this
   exact (List.map_inj_right fun x y q=>inj q).mp h1
 exact String.toList_inj.mp h2
@[simp] theorem ofString_eq(a b:String):(Str.ofString a=Str.ofString b)↔a=b:=⟨Zgo,fun h=>h ▸ rfl⟩
@[simp] theorem ZnN(a b:String):(Str.ofString a==Str.ofString b)=(a==b):=by
 rw [Bool.eq_iff_iff]
 simp
noncomputable def Un{γ:Type}(k:γ):Type:=Unit
noncomputable def un{γ:Type}{k:γ}:Un k:=()
noncomputable def R.bnd{α β:Type}(r:R α)(k:α->Hd->R β)(u:Un k:=un):R β:=r.bind k
@[simp] theorem Ze{α β:Type}{a:α}{h:Hd}{k:α->Hd->R β}{u:Un k}:R.bnd (.ok a h) k u=k a h:=rfl
@[simp] theorem Zsj{α β:Type}{k:α->Hd->R β}{u:Un k}:R.bnd (R.bad:R α) k u=.bad:=rfl
section
variable {T:Tb}{S:Ev}{h:Hd}
@[simp] theorem bind_ok{α β:Type}{a:α}{h:Hd}{k:α->Hd->R β}:(R.ok a h).bind k=k a h:=rfl
@[simp] theorem bind_bad{α β:Type}{k:α->Hd->R β}:(R.bad:R α).bind k=.bad:=rfl
@[simp] theorem ofO_some{α:Type}{a:α}{h:Hd}:R.ofO (some a) h=.ok a h:=rfl
@[simp] theorem Zj7{α:Type}{a:α}{h:Hd}:(R.ok a h).plain=.ok a h:=rfl
@[simp] theorem Zed{i}:ev T (.var i) S h=R.ofO (S[i]?).join h:=rfl
@[simp] theorem ZgH{d}:ev T (.cst d) S h=.ok d h:=rfl
@[simp] theorem Zme{x}:ev T (.glo x) S h=R.ofO (T.G x) h:=rfl
@[simp] theorem Zmf{op a b}:ev T (.bin op a b) S h=(ev T a S h).bnd fun x h1=>(ev T b S h1).bnd fun y h2=>opB op x y h2:=rfl
@[simp] theorem ZiI{op a b}:ev T (.cmp op a b) S h=(ev T a S h).bnd fun x h1=>(ev T b S h1).bnd fun y h2=>opC T.GD op x y h2:=rfl
@[simp] theorem Ztb{a}:ev T (.neg a) S h=(ev T a S h).bnd fun x h1=>match x with
   | .int i=>.ok (.int (-i)) h1
   | _=>.bad:=rfl
@[simp] theorem Zts{a}:ev T (.nt a) S h=(ev T a S h).bnd fun x h1=>match x with
   | .bl b=>.ok (.bl (!b)) h1
   | _=>.bad:=rfl
@[simp] theorem Zsi{es}:ev T (.ands es) S h=evAnd T es S h:=rfl
@[simp] theorem Zta{es}:ev T (.ors es) S h=evOr T es S h:=rfl
@[simp] theorem Zqy{e}:evAnd T (.cons e .nil) S h=ev T e S h:=rfl
@[simp] theorem Zqx{e e' r}:evAnd T (.cons e (.cons e' r)) S h=(ev T e S h).bnd fun x h1=>match x with
     | .bl true=>evAnd T (.cons e' r) S h1
     | .bl false=>.ok (.bl false) h1
     | _=>.bad:=rfl
@[simp] theorem ZrT{e}:evOr T (.cons e .nil) S h=ev T e S h:=rfl
@[simp] theorem ZrS{e e' r}:evOr T (.cons e (.cons e' r)) S h=(ev T e S h).bnd fun x h1=>match x with
     | .bl true=>.ok (.bl true) h1
     | .bl false=>evOr T (.cons e' r) S h1
     | _=>.bad:=rfl
@[simp] theorem Zte{c a b}:ev T (.ite c a b) S h=(tst T c S h).bnd fun c h1=>if c then ev T a S h1 else ev T b S h1:=rfl
@[simp] theorem ZgE{es}:ev T (.tupl es) S h=(evs T es S h).bnd fun xs h1=>if xs.length<=sizeLine then .ok (.tup xs) h1 else .bad:=rfl
@[simp] theorem ZjH{es}:ev T (.lstl es) S h=(evs T es S h).bnd fun xs h1=>if xs.length<=sizeLine then Zcp (.lst xs) h1 else .bad:=rfl
@[simp] theorem ZhC{a i}:ev T (.ix a i) S h=(ev T a S h).bnd fun x h1=>(ev T i S h1).bnd fun y h2=>ZaD T.GD x y h2:=rfl
@[simp] theorem ZoN{a lo hi}:ev T (.sl a lo hi) S h=(ev T a S h).bnd fun x h1=>(evo T lo S h1).bnd fun l h2=>(evo T hi S h2).bnd fun u h3=>ZfL x l u h3:=rfl
@[simp] theorem Ztf{f es}:ev T (.blt f es) S h=(evs T es S h).bnd fun xs h1=>Z5 T.GD f xs h1:=rfl
@[simp] theorem ZeP{f es}:ev T (.call f es) S h=(evs T es S h).bnd fun xs h1=>T.C f xs h1:=rfl
@[simp] theorem Zsg{m o es}:ev T (.meth m o es) S h=(ev T o S h).bnd fun x h1=>if Zcl x h1 then (evs T es S h1).bnd fun xs h2=>Zaw m x xs h2 else .bad:=rfl
@[simp] theorem ZcX{NC js it g c e}:ev T (.comp NC js it g c e) S h=(evi T it S h).bnd fun w h1=>(Zx w.src g (tsto T c) (ev T e) w.xs (ZaM js S) [] h1).bnd fun xs h2=>Zcp (.lst xs) h2:=rfl
@[simp] theorem Zsh{e d}:ev T (.maxd e d) S h=(ev T e S h).bnd fun x h1=>(ev T d S h1).bnd fun y h2=>ZjN x y h2:=rfl
@[simp] theorem ZrR{ps}:ev T (.dictl ps) S h=(evs T ps S h).bnd fun xs h1=>match Zcw xs with
   | some kvs=>if kvs.length<=15 then Zcp (.dic (ZbR [] kvs)) h1 else .bad
   | none=>.bad:=rfl
@[simp] theorem Ztg{Cs o f}:ev T (.att Cs o f) S h=(ev T o S h).bnd fun x h1=>ZgB Cs f x h1:=rfl
@[simp] theorem Ztt{C es}:ev T (.mk C es) S h=(evs T es S h).bnd fun xs h1=>Zlz T.C C xs h1:=rfl
@[simp] theorem Ztc{C m o es}:ev T (.mcl C m o es) S h=(ev T o S h).bnd fun x h1=>match Zaa x h1 with
   | some (C',fs)=>if C'=C/\fs.lookup m=none then (evs T es S h1).bnd fun xs h2=>T.C (mnm C m) (x::xs) h2 else .bad
   | none=>.bad:=rfl
@[simp] theorem Zsf{e}:ev T (.trev e) S h=(ev T e S h).bnd fun x h1=>ZoT x h1:=rfl
@[simp] theorem Ztd{e}:ev T (.lrv e) S h=(ev T e S h).bnd fun x h1=>Zqn x h1:=rfl
@[simp] theorem Zs9{o e}:ev T (.tix o e) S h=(ev T o S h).bnd fun x h1=>if ZrK x then (ev T e S h1).bnd fun y h2=>Zr0 x y h2 else .bad:=rfl
@[simp] theorem ZqB{Cs o f e}:xs1 T (.seta Cs o f e) S h=(ev T e S h).bnd fun d h1=>(ev T o S h1).bnd fun x h2=>(Zgi Cs f x d h2).bnd fun _ h3=>.ok (.nx,S) h3:=rfl
@[simp] theorem ZqC{Cs o f e}:xs1 T (.auga Cs o f e) S h=(ev T o S h).bnd fun x h1=>(ZgB Cs f x h1).bnd fun v h2=>(ev T e S h2).bnd fun y h3=>match v,y with
   | .int a,.int b=>if (Zaa x h1).map (·.1)=(Zaa x h3).map (·.1) then (Zgi Cs f x (.int (a+b)) h3).bnd fun _ h4=>.ok (.nx,S) h4 else .bad
   | _,_=>.bad:=rfl
@[simp] theorem ZdT:evs T .nil S h=.ok [] h:=rfl
@[simp] theorem Zb6{e es}:evs T (.cons e es) S h=(ev T e S h).bnd fun x h1=>(evs T es S h1).bnd fun xs h2=>.ok (x::xs) h2:=rfl
@[simp] theorem Zmc:evo T none S h=.ok none h:=rfl
@[simp] theorem ZhA{e}:evo T (some e) S h=(ev T e S h).bnd fun x h1=>match x with
   | .int i=>.ok (some i) h1
   | _=>.bad:=rfl
@[simp] theorem ZhZ{e}:tst T (.ex e) S h=(ev T e S h).bnd fun x h1=>R.ofO (Zcs T.GD x h1) h1:=rfl
@[simp] theorem ZgX{ts}:tst T (.ands ts) S h=tstAnd T ts S h:=rfl
@[simp] theorem Zi5{ts}:tst T (.ors ts) S h=tstOr T ts S h:=rfl
@[simp] theorem Zsn{a}:tst T (.nt a) S h=(tst T a S h).bnd fun c h1=>.ok (!c) h1:=rfl
@[simp] theorem Zo2{t}:tstAnd T (.one t) S h=tst T t S h:=rfl
@[simp] theorem Zei{t ts}:tstAnd T (.cons t ts) S h=(tst T t S h).bnd fun c h1=>if c then tstAnd T ts S h1 else .ok false h1:=rfl
@[simp] theorem Zqu{t}:tstOr T (.one t) S h=tst T t S h:=rfl
@[simp] theorem ZeU{t ts}:tstOr T (.cons t ts) S h=(tst T t S h).bnd fun c h1=>if c then .ok true h1 else tstOr T ts S h1:=rfl
@[simp] theorem ZjU:tsto T none S h=.ok true h:=rfl
@[simp] theorem Zqt{t}:tsto T (some t) S h=tst T t S h:=rfl
@[simp] theorem Zmd{e}:evi T (.pl e) S h=(ev T e S h).bnd fun x h1=>R.ofO (ZY x h1) h1:=rfl
@[simp] theorem ZjG{e}:evi T (.rng e) S h=(ev T e S h).bnd fun x h1=>match x with
   | .int j=>if ZaE j then .ok ⟨none,Zaq 0 j.toNat⟩ h1 else .bad
   | _=>.bad:=rfl
@[simp] theorem Zn7{e}:evi T (.enu e) S h=(ev T e S h).bnd fun x h1=>R.ofO ((ZgV x h1).map fun w=>⟨w.src,ZdU w.xs⟩) h1:=rfl
@[simp] theorem Zse{e}:evi T (.rev e) S h=(ev T e S h).bnd fun x h1=>R.ofO ((Zc2 x h1).map fun w=>⟨w.src,w.xs.reverse⟩) h1:=rfl
@[simp] theorem Zn8{e}:evi T (.en1 e) S h=(ev T e S h).bnd fun x h1=>match x with
   | .tup xs=>.ok ⟨none,Zdo xs⟩ h1
   | _=>.bad:=rfl
@[simp] theorem Zs8{e}:evi T (.dk e) S h=(ev T e S h).bnd fun x h1=>Zl6 x h1:=rfl
@[simp] theorem ZmK{e}:xs1 T (.ret e) S h=(ev T e S h).bnd fun x h1=>.ok (.rt x,S) h1:=rfl
@[simp] theorem ZcQ{g e}:xs1 T (.set g e) S h=(ev T e S h).bnd fun x h1=>(R.ofO (Zcm g x S) h1).bnd fun ρ1 h2=>.ok (.nx,ρ1) h2:=rfl
@[simp] theorem Zr8{o i e}:xs1 T (.put o i e) S h=(ev T e S h).bnd fun x h1=>(ev T o S h1).bnd fun y h2=>(ev T i S h2).bnd fun z h3=>(Zcj y z x h3).bnd fun _ h4=>.ok (.nx,S) h4:=rfl
@[simp] theorem Zr9{e}:xs1 T (.drp e) S h=(ev T e S h).bnd fun _ h1=>.ok (.nx,S) h1:=rfl
@[simp] theorem Zdv{c a b}:xs1 T (.iff c a b) S h=(tst T c S h).bnd fun t h1=>if t then xs2 T a S h1 else xs2 T b S h1:=rfl
@[simp] theorem Zr7{c b}:xs1 T (.whl c b) S h=ZQ (tst T c) (xs2 T b) T.L S h:=rfl
@[simp] theorem Zcq{g it b}:xs1 T (.forr g it b) S h=(evi T it S h).bnd fun w h1=>Z0 w.src g (xs2 T b) w.xs S h1:=rfl
@[simp] theorem ZmJ:xs2 T .nil S h=.ok (.nx,S) h:=rfl
@[simp] theorem ZK{s r}:xs2 T (.cons s r) S h=(xs1 T s S h).bnd fun p h1=>match p with
   | (.nx,ρ1)=>xs2 T r ρ1 h1
   | p=>.ok p h1:=rfl
theorem Za{s:Sx}{r:Sxs}{ρ1:Ev}{h1:Hd}(e:xs1 T s S h=.ok (.nx,ρ1) h1):xs2 T (.cons s r) S h=xs2 T r ρ1 h1:=by rw [ZK,e];rfl
theorem Zf{s:Sx}{r:Sxs}{ρ1:Ev}{h1:Hd}{d:D}(e:xs1 T s S h=.ok (.rt d,ρ1) h1):xs2 T (.cons s r) S h=.ok (.rt d,ρ1) h1:=by rw [ZK,e];rfl
@[simp] theorem ZeQ{i d}:Zcm (.nm i) d S=some (S.set i (some d)):=rfl
@[simp] theorem ZhM{i j a b}:Zcm (.two i j) (.tup [a,b]) S=some ((S.set i (some a)).set j (some b)):=rfl
@[simp] theorem ZsJ{d:D}:Zn (.ok (.rt d,S) h)=.ok d h:=rfl
@[simp] theorem ZsK:Zn (.ok (.nx,S) h)=.ok .non h:=rfl
end
@[simp] theorem Zj0{xs:List D}{h:Hd}:seqOf (.tup xs) h=some xs:=rfl
@[simp] theorem Zrt{f:Int->Int->Bool}{i j:Int}{h:Hd}:Zgl f (.int i) (.int j) h=.ok (.bl (f i j)) h:=rfl
section
variable {GD:Str->Option (List (Key×D))}{h:Hd}
@[simp] theorem Zlt{x y}:opC GD .Eq x y h=Zbi false x y h:=rfl
@[simp] theorem ZsZ{x y}:opC GD .NotEq x y h=Zbi true x y h:=rfl
@[simp] theorem Zs0{i j}:opC GD .Lt (.int i) (.int j) h=.ok (.bl (decide (i<j))) h:=rfl
@[simp] theorem Zs1{i j}:opC GD .LtE (.int i) (.int j) h=.ok (.bl (decide (i<=j))) h:=rfl
@[simp] theorem Zs3{i j}:opC GD .Gt (.int i) (.int j) h=.ok (.bl (decide (j<i))) h:=rfl
@[simp] theorem Zs4{i j}:opC GD .GtE (.int i) (.int j) h=.ok (.bl (decide (j<=i))) h:=rfl
@[simp] theorem Zs2{x}:opC GD .Is x .non h=.ok (.bl (decide (x=.non))) h:=rfl
@[simp] theorem Zrv{x}:opC GD .IsNot x .non h=.ok (.bl (!decide (x=.non))) h:=rfl
@[simp] theorem Zqw{s n}:opC GD .In (.str s) (.kd n) h=match GD n with
   | some kvs=>.ok (.bl (Zab kvs (.inr s)).isSome) h
   | none=>.bad:=by
 show ZbE GD false (.str s) (.kd n) h=_
 unfold ZbE
 simp only [seqOf,lstOf,dicOf,keyOf]
 cases GD n<;>rfl
@[simp] theorem Zgm{s n}:opC GD .NotIn (.str s) (.kd n) h=match GD n with
   | some kvs=>.ok (.bl (!(Zab kvs (.inr s)).isSome)) h
   | none=>.bad:=by
 show ZbE GD true (.str s) (.kd n) h=_
 unfold ZbE
 simp only [seqOf,lstOf,dicOf,keyOf]
 cases GD n<;>rfl
theorem ZhW(ss:List Str):(ss.map D.str).all D.flat=true:=by
 rw [OC]
 intro x hx
 obtain ⟨s,_,rfl⟩:=List.mem_map.mp hx
 rfl
theorem any_words(ss:List Str)(x:Str):((ss.map D.str).any fun z=>eqF z (.str x))=decide (x∈ss):=by
 induction ss with
 | nil=>rfl
 | cons s r ih =>
   rw [Op,List.any_cons,ih]
   show ((s==x) || decide (x∈r))=_
   by_cases e:s=x
   . subst e;simp
   . have:(s==x)=false:=by simpa using e
     rw [this]
     have e':¬ x=s:=fun q=>e q.symm
     simp [e']
theorem Zgn{ss:List Str}{x:Str}:opC GD .In (.str x) (.tup (ss.map .str)) h=.ok (.bl (decide (x∈ss))) h:=by
 show ZbE GD false (.str x) (.tup (ss.map .str)) h=_
 unfold ZbE
 rw [Zj0]
 simp only [ZhW,any_words]
 rfl
@[simp] theorem Zrs{xs i}:ZaD GD (.tup xs) (.int i) h=R.ofO (atI xs i) h:=rfl
@[simp] theorem Zsc{xs i}:ZaD GD (.ro xs) (.int i) h=R.ofO (atI xs i) h:=rfl
@[simp] theorem ZnG{n s}:ZaD GD (.kd n) (.str s) h=match GD n with
   | some kvs=>R.ofO (Zab kvs (.inr s)) h
   | none=>.bad:=rfl
theorem Zu{i k xs}(e:h[i]? = some (.lst xs)):ZaD GD (.ref i) (.int k) h=R.ofO (atI xs k) h:=by
 unfold ZaD
 simp only [seqOf,lstOf,e]
@[simp] theorem Zr2{α:Type}{x:α}{l:List α}:atI (x::l) 0=some x:=by simp [atI,ixN]
theorem ZbN{α:Type}{l:List α}{k:Nat}:atI l (k:Int)=l[k]? := by
 unfold atI ixN
 by_cases hk:k<l.length
 . simp [hk]
 . simp [hk]
@[simp] theorem Ztw{α:Type}{x y:α}{l:List α}:atI (x::y::l) 1=some y:=ZbN (k:=1)
@[simp] theorem Ztv{α:Type}{x y z:α}{l:List α}:atI (x::y::z::l) 2=some z:=ZbN (k:=2)
@[simp] theorem Ztu{α:Type}{x y z w:α}{l:List α}:atI (x::y::z::w::l) 3=some w:=ZbN (k:=3)
theorem ZhT{α:Type}{l:List α}{x:α}:atI (l++[x]) (-1)=some x:=by
 unfold atI ixN
 rw [if_neg (by decide),if_pos (by simp;omega)]
 have:(-1+((l++[x]).length:Int)).toNat=l.length:=by simp;omega
 simp only [Option.bind_some,this]
 simp
@[simp] theorem Zrr{xs l u}:ZfL (.tup xs) l u h=.ok (.tup (cutD xs l u)) h:=rfl
@[simp] theorem Zqz{x:D}{l:List D}:cutD (x::l) (some 1) none=l:=by
 simp [cutD,HT.sIx]
@[simp] theorem Zi6{b}:Zcs GD (.bl b) h=some b:=rfl
@[simp] theorem ZqN{i}:Zcs GD (.int i) h=some (i != 0):=rfl
@[simp] theorem ZqL{xs}:Zcs GD (.tup xs) h=some (!xs.isEmpty):=rfl
@[simp] theorem ZqM:Zcs GD .non h=some false:=rfl
@[simp] theorem ZnK{i j}:opB .Add (.int i) (.int j) h=.ok (.int (i+j)) h:=rfl
@[simp] theorem Zsd{i j}:opB .Sub (.int i) (.int j) h=.ok (.int (i - j)) h:=rfl
theorem ZR{i j:Int}(hj:0<j):opB .Mod (.int i) (.int j) h=.ok (.int (i % j)) h:=if_pos hj
theorem Zcb{i j:Int}(hj:0<j/\j<1073741824):opB .FloorDiv (.int i) (.int j) h=.ok (.int (i / j)) h:=if_pos hj
theorem ZdI{i j:Int}(hj:i.natAbs<2 ^ 2000/\j.natAbs<2 ^ 2000):opB .Mult (.int i) (.int j) h=.ok (.int (i * j)) h:=if_pos hj
theorem ZeM{xs ys:List D}(hl:xs.length+ys.length<=sizeLine):opB .Add (.tup xs) (.tup ys) h=.ok (.tup (xs++ys)) h:=if_pos hl
@[simp] theorem Zlq{n:Bool}{x y:Str}:Zbi n (.str x) (.str y) h=.ok (.bl (if n then !decide (x=y) else decide (x=y))) h:=by
 have e:PyData.eqv (.str x) (.str y)=decide (x=y):=by
   show (x==y)=_
   rw [Bool.beq_eq_decide_eq]
 have q:Zbi n (.str x) (.str y) h=if min (PyData.str x).depth (PyData.str y).depth<=1100 then .ok (.bl (if n then !PyData.eqv (.str x) (.str y) else PyData.eqv (.str x) (.str y))) h else .bad:=rfl
 rw [q,if_pos (by simp [PyData.depth]),e]
@[simp] theorem Zlr{n:Bool}{x y:Int}:Zbi n (.int x) (.int y) h=.ok (.bl (if n then !decide (x=y) else decide (x=y))) h:=by
 have e:PyData.eqv (.int x) (.int y)=decide (x=y):=by
   show (x==y)=_
   rw [Bool.beq_eq_decide_eq]
 have q:Zbi n (.int x) (.int y) h=if min (PyData.int x).depth (PyData.int y).depth<=1100 then .ok (.bl (if n then !PyData.eqv (.int x) (.int y) else PyData.eqv (.int x) (.int y))) h else .bad:=rfl
 rw [q,if_pos (by simp [PyData.depth]),e]
end
@[simp] theorem Zqv{xs:List D}(h:xs.length<=1000):xs.length<=sizeLine:=OE h (by decide)
theorem Zd{P:Pg}{n:Nat}{f:Str}{fd:Fd}{ds:List D}{h:Hd}(e:P.tb.lookup f=some fd)(hl:ds.length=fd.ps.length):run P (n+1) f ds h=Zn (xs2 ⟨P.G,P.GD,run P n,P.L⟩ fd.body (Zk fd.N ds) h):=by
 rw [run,show P.look f=some fd by unfold Pg.look;rw [e]]
 simp only
 rw [if_pos hl]
theorem Zh3{P:Pg}{n:Nat}{f:Str}{fd:Fd}{ds:List D}{h:Hd}(hn:P.tb.lookup f=none)(e:P.ms.lookup f=some fd)(hl:ds.length=fd.ps.length):run P (n+1) f ds h=Zn (xs2 ⟨P.G,P.GD,run P n,P.L⟩ fd.body (Zk fd.N ds) h):=by
 rw [run,show P.look f=some fd by unfold Pg.look;rw [hn];exact e]
 simp only
 rw [if_pos hl]
end IV
namespace IV
open PySem L2
section
variable {h:Hd}{x y z w:DO}{r:List DO}
@[simp] theorem Zc1:(h++x::r)[h.length]? = some x:=by simp
@[simp] theorem Zr1:(h++x::y::r)[h.length+1]? = some y:=by simp
@[simp] theorem Zty:(h++x::y::z::r)[h.length+2]? = some z:=by simp
@[simp] theorem Ztx:(h++x::y::z::w::r)[h.length+3]? = some w:=by simp
@[simp] theorem ZoF{o:DO}:(h++x::r).set h.length o=h++o::r:=by simp
@[simp] theorem Ztr{o:DO}:(h++x::y::r).set (h.length+1) o=h++x::o::r:=by simp
@[simp] theorem Ztq{o:DO}:(h++x::y::z::r).set (h.length+2) o=h++x::y::o::r:=by simp
end
@[simp] theorem ZnO{o:DO}{h:Hd}:Zcp o h=.ok (.ref h.length) (h++[o]):=rfl
section
variable {h:Hd}
theorem ZZ{i:Nat}{ys:List D}{d:D}(e:h[i]? = some (.lst ys))(hz:ys.length<sizeLine):Zaw .app (.ref i) [d] h=.ok .non (h.set i (.lst (ys++[d]))):=by
 simp only [Zaw,e,ZcZ,Zik]
 rw [if_pos hz]
theorem ZdL{i:Nat}{ys:List D}{d:D}(e:h[i]? = some (.lst (ys++[d]))):Zaw .pop (.ref i) [] h=.ok d (h.set i (.lst ys)):=by
 simp only [Zaw,e,ZcZ,ZnR]
 simp
theorem Zm{i:Nat}{ys:List D}(e:h[i]? = some (.lst ys)):Zcl (.ref i) h=true:=by simp [Zcl,e]
theorem ZeF{GD:Str->Option (List (Key×D))}{i:Nat}{ys:List D}(e:h[i]? = some (.lst ys)):Zcs GD (.ref i) h=some (!ys.isEmpty):=by simp [Zcs,e]
@[simp] theorem Zl8{g:Tg}{body:Ev->Hd->R (Fl×Ev)}{S:Ev}:Z0 none g body [] S h=.ok (.nx,S) h:=rfl
theorem Z4{g:Tg}{body:Ev->Hd->R (Fl×Ev)}{d:D}{ds:List D}{S:Ev}:Z0 none g body (d::ds) S h=match Zcm g d S with
     | none=>.bad
     | some ρ1=>(body ρ1 h).bnd fun p h2=>match p with
       | (.nx,ρ2)=>Z0 none g body ds ρ2 h2
       | (.ct,ρ2)=>Z0 none g body ds ρ2 h2
       | (.bk,ρ2)=>.ok (.nx,ρ2) h2
       | (.rt d,ρ2)=>.ok (.rt d,ρ2) h2:=rfl
theorem ZF{src:Option (Nat×List D)}{g:Tg}{test:Ev->Hd->R Bool}{elt:Ev->Hd->R D}{d:D}{ds:List D}{S:Ev}{acc:List D}:Zx src g test elt (d::ds) S acc h=if Wk.stays src h/\acc.length<sizeLine then match Zcm g d S with
     | none=>.bad
     | some ρ1=>(test ρ1 h).plain.bnd fun b h1=>if b then (elt ρ1 h1).plain.bnd fun x h2=>Zx src g test elt ds S (acc++[x]) h2 else Zx src g test elt ds S acc h1
   else .bad:=rfl
theorem Zt{test:Ev->Hd->R Bool}{body:Ev->Hd->R (Fl×Ev)}{n:Nat}{S:Ev}:ZQ test body (n+1) S h=(test S h).bnd fun b h1=>if b then (body S h1).bnd fun p h2=>match p with
     | (.nx,ρ2)=>ZQ test body n ρ2 h2
     | (.ct,ρ2)=>ZQ test body n ρ2 h2
     | (.bk,ρ2)=>.ok (.nx,ρ2) h2
     | (.rt d,ρ2)=>.ok (.rt d,ρ2) h2
   else .ok (.nx,S) h1:=rfl
end
inductive Wd where
 | add|sub|mul|lt
 deriving DecidableEq
noncomputable def Wd.s:Wd->Str
 | .add=>O "+"
 | .sub=>O "-"
 | .mul=>O "*"
 | .lt=>O "<"
inductive T where
 | num (n:Int)|name (x:Str)|fn (x:Str) (e:T)|rcc (f x:Str) (e:T)|call (f a:T)|iff (c t e:T)|op (w:Wd) (a b:T)
noncomputable def T.d:T->D
 | .num n=>.tup [.str (O "num"),.int n]
 | .name x=>.tup [.str (O "name"),.str x]
 | .fn x e=>.tup [.str (O "fn"),.str x,e.d]
 | .rcc f x e=>.tup [.str (O "rec"),.str f,.str x,e.d]
 | .call f a=>.tup [.str (O "call"),f.d,a.d]
 | .iff c t e=>.tup [.str (O "if"),c.d,t.d,e.d]
 | .op w a b=>.tup [.str w.s,a.d,b.d]
noncomputable def T.parts:T->List T
 | .num _|.name _=>[]
 | .fn _ e|.rcc _ _ e=>[e]
 | .call f a=>[f,a]
 | .iff c t e=>[c,t,e]
 | .op _ a b=>[a,b]
noncomputable def T.places:T->List T
 | .num n=>[.num n]
 | .name x=>[.name x]
 | .fn x e=>.fn x e::e.places
 | .rcc f x e=>.rcc f x e::e.places
 | .call f a=>.call f a::(f.places++a.places)
 | .iff c t e=>.iff c t e::(c.places++(t.places++e.places))
 | .op w a b=>.op w a b::(a.places++b.places)
noncomputable def T.size(t:T):Nat:=t.places.length
theorem T.places_parts(t:T):t.places=t::t.parts.flatMap T.places:=by
 cases t<;>simp [T.places,T.parts]
end IV
end
section
namespace IV
open PySem L2
section
variable {U:Tb}{S:Ev}{h h1:Hd}{f:Str}{as:List D}{r:R D}
noncomputable abbrev Tb.say(U:Tb)(r:R D):Tb:=⟨U.G,U.GD,fun _ _ _=>r,U.L⟩
theorem ZA{s:Sx}{y:R (Fl×Ev)}(e:U.C f as h1=r)(q:xs1 U s S h=xs1 (U.say (U.C f as h1)) s S h)(z:xs1 (U.say r) s S h=y):xs1 U s S h=y:=by rw [q,e,z]
theorem ZaT{c:Tx}{a b:Sxs}(e:tst U c S h=.ok true h1):xs1 U (.iff c a b) S h=xs2 U a S h1:=by rw [Zdv,e];rfl
theorem ZaH{c:Tx}{a b:Sxs}(e:tst U c S h=.ok false h1):xs1 U (.iff c a b) S h=xs2 U b S h1:=by rw [Zdv,e];rfl
theorem Zbe{e:Ex}{d:D}(q:ev U e S h=.ok d h1):xs1 U (.ret e) S h=.ok (.rt d,S) h1:=by rw [ZmK,q];rfl
theorem Zc4{i:Nat}{e:Ex}{d:D}(q:ev U e S h=.ok d h1):xs1 U (.set (.nm i) e) S h=.ok (.nx,S.set i (some d)) h1:=by rw [ZcQ,q];rfl
theorem ZiE{g:Tg}{it:Ix}{b:Sxs}{w:Wk}(q:evi U it S h=.ok w h1):xs1 U (.forr g it b) S h=Z0 w.src g (xs2 U b) w.xs S h1:=by rw [Zcq,q];rfl
theorem Zcd{op:Operator}{a b:Ex}{x y:D}{h2:Hd}(p:ev U a S h=.ok x h1)(q:ev U b S h1=.ok y h2):ev U (.bin op a b) S h=opB op x y h2:=by rw [Zmf,p];simp only [Ze,q]
theorem Za3{op:CmpOp}{a b:Ex}{x y:D}{h2:Hd}(p:ev U a S h=.ok x h1)(q:ev U b S h1=.ok y h2):ev U (.cmp op a b) S h=opC U.GD op x y h2:=by rw [ZiI,p];simp only [Ze,q]
theorem Zhz{e:Ex}{b:Bool}(q:ev U e S h=.ok (.bl b) h1):tst U (.ex e) S h=.ok b h1:=by rw [ZhZ,q];rfl
theorem Zbo{b c:Bool}{y:R Bool}(q:y=.ok b h1)(e:b=c):y=.ok c h1:=e ▸ q
noncomputable def hdS:Sxs->Sx
 | .cons s _=>s
 | .nil=>.pas
noncomputable def tlS:Sxs->Sxs
 | .cons _ r=>r
 | .nil=>.nil
theorem rt1{ss:Sxs}{ρ1:Ev}{d:D}{h2:Hd}(e:xs1 U (hdS ss) S h=.ok (.rt d,ρ1) h2)(hs:ss=.cons (hdS ss) (tlS ss)):Zn (xs2 U ss S h)=.ok d h2:=by rw [hs,Zf e];rfl
theorem nx1{ss:Sxs}{ρ1:Ev}{h2:Hd}(e:xs1 U (hdS ss) S h=.ok (.nx,ρ1) h2)(hs:ss=.cons (hdS ss) (tlS ss)):xs2 U ss S h=xs2 U (tlS ss) ρ1 h2:=by rw [hs,Za e];rfl
theorem ZI{a:Ex}{es:Exs}{x:D}{xs:List D}{h2:Hd}(p:ev U a S h=.ok x h1)(q:evs U es S h1=.ok xs h2):evs U (.cons a es) S h=.ok (x::xs) h2:=by rw [Zb6,p,Ze,q];rfl
theorem Zqe{g:Str}{es:Exs}{xs:List D}(p:evs U es S h=.ok xs h1):ev U (.call g es) S h=U.C g xs h1:=by rw [ZeP,p];rfl
theorem Zmw{es:Exs}{e:Ex}{xs:List D}{z:Int}{d:D}(a:atI xs z=some d)(p:evs U es S h=.ok xs h)(q:ev U e S (h++[.lst xs])=.ok (.int z) (h++[.lst xs]))(hz:xs.length<=1000):ev U (.ix (.lstl es) e) S h=.ok d (h++[.lst xs]):=by
 rw [ZhC,ZjH,p,Ze,if_pos (OE hz (by decide)),ZnO,Ze,q,Ze,Zu (xs:=xs) (by simp),a]
 rfl
theorem Zb8{g:Str}{es:Exs}{xs:List D}{y:R D}(e:U.C g xs h1=y)(p:evs U es S h=.ok xs h1):ev U (.call g es) S h=y:=(Zqe p).trans e
theorem ZhB{es:Exs}{xs:List D}(p:evs U es S h=.ok xs h1)(hz:xs.length<=1000):ev U (.tupl es) S h=.ok (.tup xs) h1:=by rw [ZgE,p,Ze,if_pos (OE hz (by decide))]
theorem Zqf{a b:Ex}{x y:Str}{h2:Hd}(p:ev U a S h=.ok (.str x) h1)(q:ev U b S h1=.ok (.str y) h2):tst U (.ex (.cmp .Eq a b)) S h=.ok (decide (x=y)) h2:=Zhz ((Za3 p q).trans (by rw [Zlt,Zlq];rfl))
theorem Zfx{a b:Ex}{x y:Int}{h2:Hd}(p:ev U a S h=.ok (.int x) h1)(q:ev U b S h1=.ok (.int y) h2):tst U (.ex (.cmp .Eq a b)) S h=.ok (decide (x=y)) h2:=Zhz ((Za3 p q).trans (by rw [Zlt,Zlr];rfl))
theorem ZgG{a b:Ex}{x y:D}{h2:Hd}(p:ev U a S h=.ok x h1)(q:ev U b S h1=.ok y h2):ev U (.ix a b) S h=ZaD U.GD x y h2:=by rw [ZhC,p,Ze,q,Ze]
theorem ZoU{a b:Tx}{c:Bool}{h2:Hd}(p:tst U a S h=.ok true h1)(q:tst U b S h1=.ok c h2):tst U (.ands (.cons a (.one b))) S h=.ok c h2:=by rw [ZgX,Zei,p];exact q
theorem Zr3{a b:Tx}(p:tst U a S h=.ok false h1):tst U (.ands (.cons a (.one b))) S h=.ok false h1:=by rw [ZgX,Zei,p];rfl
theorem ZsY{a b:Tx}(p:tst U a S h=.ok true h1):tst U (.ors (.cons a (.one b))) S h=.ok true h1:=by rw [Zi5,ZeU,p];rfl
theorem Zrm{a b:Tx}{c:Bool}{h2:Hd}(p:tst U a S h=.ok false h1)(q:tst U b S h1=.ok c h2):tst U (.ors (.cons a (.one b))) S h=.ok c h2:=by rw [Zi5,ZeU,p];exact q
theorem ZfE{β:Type}(A:Tb->β){y:β}(e:U.C f as h1=r)(q:A U=A (U.say (U.C f as h1)))(z:A (U.say r)=y):A U=y:=by rw [q,e,z]
theorem ZrY{β:Type}(A:Tb->β){x:Str}{d:D}{y:β}(eg:U.G x=some d)(q:A U=A ⟨fun _=>U.G x,U.GD,U.C,U.L⟩)(z:A ⟨fun _=>some d,U.GD,U.C,U.L⟩=y):A U=y:=by rw [q,eg,z]
end
end IV
end
section
set_option tactic.hygienic false
namespace Gn
open PySem L2 IV
noncomputable def Zbx:Sxs:=(.cons (.iff (.ex (.cmp .NotIn (.ix (.var 0) (.cst (.int 0))) (.glo (O "FORMS")))) (.cons (.ret (.tupl .nil)) .nil) .nil) (.cons (.ret (.sl (.var 0) (some (.bin .Add (.cst (.int 1)) (.ix (.ix (.glo (O "FORMS")) (.ix (.var 0) (.cst (.int 0)))) (.cst (.int 0))))) none)) .nil))
noncomputable def Zbt:Fd:=⟨[(O "E")],[(O "E")],Zbx⟩
noncomputable def ZhO:Sxs:=(.cons (.set (.nm 1) (.lstl .nil)) (.cons (.set (.nm 2) (.lstl (.cons (.var 0) .nil))) (.cons (.whl (.ex (.var 2)) (.cons (.set (.nm 3) (.meth .pop (.var 2) .nil)) (.cons (.drp (.meth .app (.var 1) (.cons (.var 3) .nil))) (.cons (.forr (.nm 4) (.rev (.call (O "parts_of") (.cons (.var 3) .nil))) (.cons (.drp (.meth .app (.var 2) (.cons (.var 4) .nil))) .nil)) .nil)))) (.cons (.ret (.var 1)) .nil))))
noncomputable def Zb4:Fd:=⟨[(O "E")],[(O "E"),(O "found"),(O "waiting"),(O "place"),(O "part")],ZhO⟩
noncomputable def ZeB:Sxs:=(.cons (.set (.nm 2) (.bin .Add (.bin .Pow (.cst (.int 10)) (.cst (.int 30))) (.cst (.int 57)))) (.cons (.set (.nm 3) (.bin .Mult (.bin .Mod (.var 0) (.var 2)) (.cst (.int 271828182845904523536028747135)))) (.cons (.set (.nm 3) (.bin .Add (.var 3) (.bin .Mult (.bin .Mult (.var 1) (.var 1)) (.cst (.int 314159265358979323846264338327))))) (.cons (.ret (.bin .Mod (.bin .Add (.var 3) (.cst (.int 577215664901532860606512090082))) (.var 2))) .nil))))
noncomputable def Zaz:Fd:=⟨[(O "_law_cell"),(O "_law_k")],[(O "_law_cell"),(O "_law_k"),(O "_law_big"),(O "_law_number_here")],ZeB⟩
noncomputable def Zdr:Sxs:=(.cons (.set (.nm 1) (.ix (.var 0) (.cst (.int 1)))) (.cons (.put (.var 0) (.cst (.int 1)) (.bin .Add (.var 1) (.cst (.int 1)))) (.cons (.iff (.ex (.cmp .Lt (.var 1) (.blt .len (.cons (.ix (.var 0) (.cst (.int 0))) .nil)))) (.cons (.ret (.ix (.ix (.var 0) (.cst (.int 0))) (.var 1))) .nil) .nil) (.cons (.ret (.call (O "_law_mixed") (.cons (.var 1) (.cons (.cst (.int 7)) .nil)))) .nil))))
noncomputable def Zas:Fd:=⟨[(O "_law_state")],[(O "_law_state"),(O "_law_at")],Zdr⟩
noncomputable def ZeA:Sxs:=(.cons (.set (.nm 1) (.cst (.str (O "abcdefghijklmnopqrstuvwxyz")))) (.cons (.set (.nm 2) (.bin .Add (.cst (.int 1)) (.bin .Mod (.var 0) (.cst (.int 8))))) (.cons (.set (.nm 3) (.bin .Mod (.bin .FloorDiv (.var 0) (.cst (.int 8))) (.var 2))) (.cons (.set (.nm 4) (.bin .FloorDiv (.var 0) (.cst (.int 64)))) (.cons (.set (.nm 5) (.cst (.str (O "")))) (.cons (.forr (.nm 6) (.rng (.cst (.int 8))) (.cons (.set (.nm 5) (.bin .Add (.var 5) (.ix (.var 1) (.bin .Mod (.var 4) (.cst (.int 26)))))) (.cons (.set (.nm 4) (.bin .FloorDiv (.var 4) (.cst (.int 26)))) .nil))) (.cons (.set (.nm 7) (.lstl .nil)) (.cons (.forr (.nm 6) (.rng (.cst (.int 5))) (.cons (.set (.nm 8) (.ix (.var 1) (.bin .Mod (.bin .Add (.var 4) (.bin .Mult (.cst (.int 5)) (.var 6))) (.cst (.int 26))))) (.cons (.set (.nm 9) (.bin .Add (.bin .Add (.sl (.var 5) none (some (.var 3))) (.var 8)) (.sl (.var 5) (some (.bin .Add (.var 3) (.cst (.int 1)))) (some (.var 2))))) (.cons (.iff (.ex (.cmp .Eq (.bin .Mod (.bin .FloorDiv (.var 4) (.cst (.int 26))) (.cst (.int 4))) (.cst (.int 1)))) (.cons (.set (.nm 9) (.sl (.var 5) none (some (.bin .Sub (.cst (.int 8)) (.var 6))))) .nil) .nil) (.cons (.iff (.ex (.cmp .In (.var 9) (.tupl (.cons (.cst (.str (O "fn"))) (.cons (.cst (.str (O "rec"))) (.cons (.cst (.str (O "call"))) (.cons (.cst (.str (O "if"))) .nil))))))) (.cons (.set (.nm 9) (.bin .Mult (.cst (.str (O "q"))) (.blt .len (.cons (.var 9) .nil)))) .nil) .nil) (.cons (.drp (.meth .app (.var 7) (.cons (.var 9) .nil))) .nil)))))) (.cons (.ret (.var 7)) .nil)))))))))
noncomputable def Zay:Fd:=⟨[(O "_law_number_here")],[(O "_law_number_here"),(O "_law_letters"),(O "_law_long"),(O "_law_place"),(O "_law_rest"),(O "_law_base"),(O "_law_k"),(O "_law_found"),(O "_law_sign"),(O "_law_word")],ZeA⟩
noncomputable def Zez:Sxs:=(.cons (.set (.nm 2) (.dictl .nil)) (.cons (.forr (.two 3 4) (.pl (.var 0)) (.cons (.put (.var 2) (.var 3) (.var 4)) .nil)) (.cons (.ret (.comp [(O "_law_name"),(O "_law_wish"),(O "_law_known")] [none,some 1,some 2] (.pl (.blt .srt (.cons (.var 2) .nil))) (.nm 0) (some (.ex (.cmp .Eq (.ix (.var 2) (.var 0)) (.var 1)))) (.var 0))) .nil)))
noncomputable def Zax:Fd:=⟨[(O "_law_scope"),(O "_law_wish")],[(O "_law_scope"),(O "_law_wish"),(O "_law_known"),(O "_law_name"),(O "_law_held")],Zez⟩
noncomputable def ZbL:Sxs:=(.cons (.iff (.ex (.cmp .Eq (.var 0) (.cst (.str (O "n"))))) (.cons (.ret (.tupl (.cons (.cst (.str (O "num"))) (.cons (.ix (.lstl (.cons (.cst (.int 0)) (.cons (.cst (.int 1)) (.cons (.cst (.int 2)) (.cons (.bin .Mod (.bin .FloorDiv (.var 1) (.cst (.int 7))) (.cst (.int 1000000))) .nil))))) (.bin .Mod (.var 1) (.cst (.int 4)))) .nil)))) .nil) .nil) (.cons (.iff (.ex (.cmp .Eq (.var 0) (.cst (.str (O "f"))))) (.cons (.ret (.tupl (.cons (.cst (.str (O "fn"))) (.cons (.cst (.str (O "w"))) (.cons (.tupl (.cons (.cst (.str (O "-"))) (.cons (.tupl (.cons (.cst (.str (O "name"))) (.cons (.cst (.str (O "w"))) .nil))) (.cons (.tupl (.cons (.cst (.str (O "num"))) (.cons (.bin .Mod (.var 1) (.cst (.int 3))) .nil))) .nil)))) .nil))))) .nil) .nil) (.cons (.ret (.tupl (.cons (.cst (.str (O "fn"))) (.cons (.cst (.str (O "w"))) (.cons (.tupl (.cons (.cst (.str (O "call"))) (.cons (.tupl (.cons (.cst (.str (O "name"))) (.cons (.cst (.str (O "w"))) .nil))) (.cons (.tupl (.cons (.cst (.str (O "num"))) (.cons (.bin .Mod (.var 1) (.cst (.int 5))) .nil))) .nil)))) .nil))))) .nil)))
noncomputable def ZO:Fd:=⟨[(O "_law_wish"),(O "_law_number_here")],[(O "_law_wish"),(O "_law_number_here")],ZbL⟩
noncomputable def ZaY:Sx:=(.set (.nm 6) (.ix (.var 4) (.bin .Mod (.var 1) (.cst (.int 5)))))
noncomputable def Z9:Sx:=(.iff (.ex (.cmp .Eq (.var 0) (.cst (.str (O "g"))))) (.cons (.ret (.tupl (.cons (.cst (.str (O "fn"))) (.cons (.var 6) (.cons (.call (O "_law_any") (.cons (.cst (.str (O "n"))) (.cons (.bin .Add (.var 2) (.lstl (.cons (.tupl (.cons (.var 6) (.cons (.cst (.str (O "f"))) .nil))) .nil))) (.cons (.var 3) (.cons (.var 4) (.cons (.var 5) .nil)))))) .nil))))) .nil) .nil)
noncomputable def Z8:Sx:=(.iff (.ex (.cmp .Eq (.bin .Mod (.bin .FloorDiv (.var 1) (.cst (.int 5))) (.cst (.int 3))) (.cst (.int 0)))) (.cons (.ret (.tupl (.cons (.cst (.str (O "fn"))) (.cons (.var 6) (.cons (.call (O "_law_any") (.cons (.cst (.str (O "n"))) (.cons (.bin .Add (.var 2) (.lstl (.cons (.tupl (.cons (.var 6) (.cons (.cst (.str (O "n"))) .nil))) .nil))) (.cons (.var 3) (.cons (.var 4) (.cons (.var 5) .nil)))))) .nil))))) .nil) .nil)
noncomputable def ZaX:Sx:=(.set (.nm 7) (.ix (.var 4) (.bin .Mod (.bin .Add (.bin .Add (.bin .Mod (.var 1) (.cst (.int 5))) (.cst (.int 1))) (.bin .Mod (.bin .FloorDiv (.var 1) (.cst (.int 15))) (.cst (.int 4)))) (.cst (.int 5)))))
noncomputable def ZaW:Sx:=(.set (.nm 8) (.bin .Add (.var 2) (.lstl (.cons (.tupl (.cons (.var 7) (.cons (.cst (.str (O "f"))) .nil))) (.cons (.tupl (.cons (.var 6) (.cons (.cst (.str (O "n"))) .nil))) .nil)))))
noncomputable def ZaV:Sx:=(.set (.nm 9) (.tupl (.cons (.cst (.str (O "call"))) (.cons (.tupl (.cons (.cst (.str (O "name"))) (.cons (.var 7) .nil))) (.cons (.tupl (.cons (.cst (.str (O "-"))) (.cons (.tupl (.cons (.cst (.str (O "name"))) (.cons (.var 6) .nil))) (.cons (.tupl (.cons (.cst (.str (O "num"))) (.cons (.cst (.int 1)) .nil))) .nil)))) .nil)))))
noncomputable def Z7:Sx:=(.iff (.ex (.cmp .Eq (.bin .Mod (.bin .FloorDiv (.var 1) (.cst (.int 60))) (.cst (.int 3))) (.cst (.int 0)))) (.cons (.set (.nm 9) (.call (O "_law_any") (.cons (.cst (.str (O "n"))) (.cons (.var 8) (.cons (.var 3) (.cons (.var 4) (.cons (.var 5) .nil))))))) .nil) (.cons (.iff (.ex (.cmp .Eq (.bin .Mod (.bin .FloorDiv (.var 1) (.cst (.int 60))) (.cst (.int 3))) (.cst (.int 1)))) (.cons (.set (.nm 9) (.tupl (.cons (.ix (.lstl (.cons (.cst (.str (O "+"))) (.cons (.cst (.str (O "*"))) .nil))) (.bin .Mod (.bin .FloorDiv (.var 1) (.cst (.int 180))) (.cst (.int 2)))) (.cons (.call (O "_law_any") (.cons (.cst (.str (O "n"))) (.cons (.var 8) (.cons (.var 3) (.cons (.var 4) (.cons (.bin .Sub (.var 5) (.cst (.int 1))) .nil)))))) (.cons (.var 9) .nil))))) .nil) .nil) .nil))
noncomputable def Z6:Sx:=(.ret (.tupl (.cons (.cst (.str (O "rec"))) (.cons (.var 7) (.cons (.var 6) (.cons (.tupl (.cons (.cst (.str (O "if"))) (.cons (.tupl (.cons (.cst (.str (O "name"))) (.cons (.var 6) .nil))) (.cons (.var 9) (.cons (.call (O "_law_any") (.cons (.cst (.str (O "n"))) (.cons (.var 8) (.cons (.var 3) (.cons (.var 4) (.cons (.bin .Sub (.var 5) (.cst (.int 1))) .nil)))))) .nil))))) .nil))))))
noncomputable def ZfH:Sxs:=(.cons ZaY (.cons Z9 (.cons Z8 (.cons ZaX (.cons ZaW (.cons ZaV (.cons Z7 (.cons Z6 .nil))))))))
noncomputable def Z2:Fd:=⟨[(O "_law_wish"),(O "_law_rest"),(O "_law_scope"),(O "_law_state"),(O "_law_names_here"),(O "_law_room")],[(O "_law_wish"),(O "_law_rest"),(O "_law_scope"),(O "_law_state"),(O "_law_names_here"),(O "_law_room"),(O "_law_x"),(O "_law_f"),(O "_law_inner"),(O "_law_again")],ZfH⟩
noncomputable def ZcM:Sx:=(.set (.nm 5) (.bin .Mod (.var 0) (.cst (.int 6))))
noncomputable def Zbz:Sx:=(.iff (.ex (.cmp .Eq (.var 5) (.cst (.int 0)))) (.cons (.ret (.call (O "_law_plain") (.cons (.cst (.str (O "n"))) (.cons (.bin .FloorDiv (.var 0) (.cst (.int 6))) .nil)))) .nil) .nil)
noncomputable def Zby:Sx:=(.iff (.ex (.cmp .Lt (.var 5) (.cst (.int 3)))) (.cons (.set (.nm 6) (.call (O "_law_any") (.cons (.cst (.str (O "n"))) (.cons (.var 1) (.cons (.var 2) (.cons (.var 3) (.cons (.var 4) .nil))))))) (.cons (.ret (.tupl (.cons (.ix (.lstl (.cons (.cst (.str (O "+"))) (.cons (.cst (.str (O "-"))) (.cons (.cst (.str (O "*"))) (.cons (.cst (.str (O "<"))) .nil))))) (.bin .Mod (.bin .FloorDiv (.var 0) (.cst (.int 6))) (.cst (.int 4)))) (.cons (.var 6) (.cons (.call (O "_law_any") (.cons (.cst (.str (O "n"))) (.cons (.var 1) (.cons (.var 2) (.cons (.var 3) (.cons (.var 4) .nil)))))) .nil))))) .nil)) .nil)
noncomputable def ZcL:Sx:=(.set (.nm 7) (.ix (.lstl (.cons (.cst (.str (O "f"))) (.cons (.cst (.str (O "f"))) (.cons (.cst (.str (O "g"))) .nil)))) (.bin .Sub (.var 5) (.cst (.int 3)))))
noncomputable def ZcK:Sx:=(.set (.nm 8) (.call (O "_law_any") (.cons (.var 7) (.cons (.var 1) (.cons (.var 2) (.cons (.var 3) (.cons (.var 4) .nil)))))))
noncomputable def ZcJ:Sx:=(.ret (.tupl (.cons (.cst (.str (O "call"))) (.cons (.var 8) (.cons (.call (O "_law_any") (.cons (.ix (.dictl (.cons (.cst (.str (O "f"))) (.cons (.cst (.str (O "n"))) (.cons (.cst (.str (O "g"))) (.cons (.cst (.str (O "f"))) .nil))))) (.var 7)) (.cons (.var 1) (.cons (.var 2) (.cons (.var 3) (.cons (.var 4) .nil)))))) .nil)))))
noncomputable def Zch:Sxs:=(.cons ZcM (.cons Zbz (.cons Zby (.cons ZcL (.cons ZcK (.cons ZcJ .nil))))))
noncomputable def ZaI:Fd:=⟨[(O "_law_rest"),(O "_law_scope"),(O "_law_state"),(O "_law_names_here"),(O "_law_room")],[(O "_law_rest"),(O "_law_scope"),(O "_law_state"),(O "_law_names_here"),(O "_law_room"),(O "_law_way"),(O "_law_one"),(O "_law_wish"),(O "_law_fun")],Zch⟩
noncomputable def Zba:Sx:=(.put (.var 2) (.cst (.int 2)) (.bin .Sub (.ix (.var 2) (.cst (.int 2))) (.cst (.int 1))))
noncomputable def Za9:Sx:=(.set (.nm 5) (.call (O "_law_next") (.cons (.var 2) .nil)))
noncomputable def ZP:Sx:=(.iff (.ex (.cmp .Eq (.bin .Mod (.var 5) (.cst (.int 29))) (.cst (.int 0)))) (.cons (.set (.nm 0) (.ix (.lstl (.cons (.cst (.str (O "n"))) (.cons (.cst (.str (O "f"))) (.cons (.cst (.str (O "g"))) .nil)))) (.bin .Mod (.bin .FloorDiv (.var 5) (.cst (.int 29))) (.cst (.int 3))))) .nil) .nil)
noncomputable def Za8:Sx:=(.set (.nm 6) (.bin .FloorDiv (.var 5) (.cst (.int 87))))
noncomputable def Za7:Sx:=(.set (.nm 7) (.call (O "_law_there") (.cons (.var 1) (.cons (.var 0) .nil))))
noncomputable def Za6:Sx:=(.iff (.ands (.cons (.ex (.cmp .NotEq (.var 7) (.lstl .nil))) (.one (.ex (.cmp .Eq (.bin .Mod (.var 6) (.cst (.int 3))) (.cst (.int 0))))))) (.cons (.ret (.tupl (.cons (.cst (.str (O "name"))) (.cons (.ix (.var 7) (.bin .Mod (.bin .FloorDiv (.var 6) (.cst (.int 3))) (.blt .len (.cons (.var 7) .nil)))) .nil)))) .nil) .nil)
noncomputable def ZaB:Sx:=(.iff (.ors (.cons (.ex (.cmp .Lt (.var 4) (.cst (.int 1)))) (.one (.ex (.cmp .Lt (.ix (.var 2) (.cst (.int 2))) (.cst (.int 0))))))) (.cons (.ret (.call (O "_law_plain") (.cons (.var 0) (.cons (.bin .FloorDiv (.var 6) (.cst (.int 3))) .nil)))) .nil) .nil)
noncomputable def ZbM:Sx:=(.set (.nm 6) (.bin .FloorDiv (.var 6) (.cst (.int 30))))
noncomputable def Za5:Sx:=(.iff (.ex (.cmp .Eq (.bin .Mod (.var 6) (.cst (.int 8))) (.cst (.int 0)))) (.cons (.set (.nm 8) (.call (O "_law_any") (.cons (.cst (.str (O "n"))) (.cons (.var 1) (.cons (.var 2) (.cons (.var 3) (.cons (.bin .Sub (.var 4) (.cst (.int 1))) .nil))))))) (.cons (.set (.nm 9) (.call (O "_law_any") (.cons (.var 0) (.cons (.var 1) (.cons (.var 2) (.cons (.var 3) (.cons (.bin .Sub (.var 4) (.cst (.int 1))) .nil))))))) (.cons (.ret (.tupl (.cons (.cst (.str (O "if"))) (.cons (.var 8) (.cons (.var 9) (.cons (.call (O "_law_any") (.cons (.var 0) (.cons (.var 1) (.cons (.var 2) (.cons (.var 3) (.cons (.bin .Sub (.var 4) (.cst (.int 1))) .nil)))))) .nil)))))) .nil))) .nil)
noncomputable def ZaN:Sx:=(.iff (.ex (.cmp .Eq (.var 0) (.cst (.str (O "n"))))) (.cons (.ret (.call (O "_law_number") (.cons (.bin .FloorDiv (.var 6) (.cst (.int 8))) (.cons (.var 1) (.cons (.var 2) (.cons (.var 3) (.cons (.bin .Sub (.var 4) (.cst (.int 1))) .nil))))))) .nil) .nil)
noncomputable def Zbk:Sx:=(.ret (.call (O "_law_function") (.cons (.var 0) (.cons (.bin .FloorDiv (.var 6) (.cst (.int 8))) (.cons (.var 1) (.cons (.var 2) (.cons (.var 3) (.cons (.bin .Sub (.var 4) (.cst (.int 1))) .nil))))))))
noncomputable def Zky:Sxs:=(.cons Zba (.cons Za9 (.cons ZP (.cons Za8 (.cons Za7 (.cons Za6 (.cons ZaB (.cons ZbM (.cons Za5 (.cons ZaN (.cons Zbk .nil)))))))))))
noncomputable def ZX:Fd:=⟨[(O "_law_wish"),(O "_law_scope"),(O "_law_state"),(O "_law_names_here"),(O "_law_room")],[(O "_law_wish"),(O "_law_scope"),(O "_law_state"),(O "_law_names_here"),(O "_law_room"),(O "_law_number_here"),(O "_law_rest"),(O "_law_there_here"),(O "_law_asked_of"),(O "_law_first")],Zky⟩
noncomputable def ZcI:Sxs:=(.cons (.ret (.bin .Add (.cst (.int 1)) (.blt .sum (.cons (.comp [(O "_law_part")] [none] (.pl (.var 0)) (.nm 0) (some (.ex (.blt .isi (.cons (.var 0) (.cons (.cst (.ty "tuple")) .nil))))) (.call (O "_law_width") (.cons (.var 0) .nil))) .nil)))) .nil)
noncomputable def Z1:Fd:=⟨[(O "_law_told")],[(O "_law_told")],ZcI⟩
noncomputable def Zds:Sxs:=(.cons (.ret (.maxd (.comp [(O "_law_part")] [none] (.pl (.var 0)) (.nm 0) (some (.ex (.blt .isi (.cons (.var 0) (.cons (.cst (.ty "tuple")) .nil))))) (.bin .Add (.cst (.int 1)) (.call (O "_law_deep") (.cons (.var 0) .nil)))) (.cst (.int 0)))) .nil)
noncomputable def Zat:Fd:=⟨[(O "_law_told")],[(O "_law_told")],Zds⟩
noncomputable def Zal:Sx:=(.set (.nm 2) (.comp [(O "_law_k"),(O "_law_cell")] [none,none] (.enu (.sl (.var 0) (some (.var 1)) none)) (.two 0 1) none (.call (O "_law_mixed") (.cons (.var 1) (.cons (.bin .Add (.var 0) (.cst (.int 2))) .nil)))))
noncomputable def Zak:Sx:=(.set (.nm 3) (.lstl (.cons (.var 2) (.cons (.cst (.int 0)) (.cons (.cst (.int 26)) .nil)))))
noncomputable def Zaj:Sx:=(.set (.nm 4) (.call (O "_law_names") (.cons (.call (O "_law_next") (.cons (.var 3) .nil)) .nil)))
noncomputable def Zai:Sx:=(.set (.nm 5) (.call (O "_law_any") (.cons (.cst (.str (O "n"))) (.cons (.lstl .nil) (.cons (.var 3) (.cons (.var 4) (.cons (.cst (.int 7)) .nil)))))))
noncomputable def Zah:Sx:=(.forr (.nm 6) (.rng (.cst (.int 2))) (.cons (.iff (.ex (.cmp .Lt (.call (O "_law_width") (.cons (.var 5) .nil)) (.cst (.int 50)))) (.cons (.put (.var 3) (.cst (.int 2)) (.cst (.int 12))) (.cons (.set (.nm 5) (.tupl (.cons (.cst (.str (O "+"))) (.cons (.var 5) (.cons (.call (O "_law_any") (.cons (.cst (.str (O "n"))) (.cons (.lstl .nil) (.cons (.var 3) (.cons (.var 4) (.cons (.cst (.int 6)) .nil)))))) .nil))))) .nil)) .nil) .nil))
noncomputable def ZG:Sx:=(.iff (.ors (.cons (.ex (.cmp .Gt (.call (O "_law_width") (.cons (.var 5) .nil)) (.cst (.int 100)))) (.one (.ex (.cmp .Gt (.call (O "_law_deep") (.cons (.var 5) .nil)) (.cst (.int 20))))))) (.cons (.set (.nm 5) (.call (O "_law_plain") (.cons (.cst (.str (O "n"))) (.cons (.call (O "_law_next") (.cons (.var 3) .nil)) .nil)))) .nil) .nil)
noncomputable def Zcn:Sx:=(.ret (.var 5))
noncomputable def Zdk:Sxs:=(.cons Zal (.cons Zak (.cons Zaj (.cons Zai (.cons Zah (.cons ZG (.cons Zcn .nil)))))))
noncomputable def ZC:Fd:=⟨[(O "_law_script"),(O "_law_start")],[(O "_law_script"),(O "_law_start"),(O "_law_cells"),(O "_law_state"),(O "_law_names_here"),(O "_law_told"),(O "_law_k")],Zdk⟩
noncomputable def Zb1:List (Key×D):=[(.inr (O "fn"),.tup [.int 1,.int 1]),(.inr (O "rec"),.tup [.int 2,.int 1]),(.inr (O "call"),.tup [.int 0,.int 2]),(.inr (O "if"),.tup [.int 0,.int 3]),(.inr (O "+"),.tup [.int 0,.int 2]),(.inr (O "-"),.tup [.int 0,.int 2]),(.inr (O "*"),.tup [.int 0,.int 2]),(.inr (O "<"),.tup [.int 0,.int 2])]
structure Tre(P:Pg):Prop where
 parts:P.tb.lookup (O "parts_of")=some Zbt
 places:P.tb.lookup (O "places")=some Zb4
 g:P.G (O "FORMS")=some (.kd (O "FORMS"))
 gd:P.GD (O "FORMS")=some Zb1
 big:1000000<=P.L
theorem ZbF {P:Pg} (H:Tre P) {U:Tb} (hU:U.G=P.G/\U.GD=P.GD) {S:Ev}{e:Ex}{w:Str}{h:Hd}{x:Option D} (q:ev U e S h=.ok (.str w) h) (f:Zab Zb1 (.inr w)=x):tst U (.ex (.cmp .NotIn e (.glo (O "FORMS")))) S h=.ok (!x.isSome) h:=by
 have g:ev U (.glo (O "FORMS")) S h=.ok (.kd (O "FORMS")) h:=by
   rw [Zme,hU.1,H.g]
   rfl
 refine Zhz ((Za3 q g).trans ?_)
 rw [Zgm,hU.2,H.gd]
 simp only [f]
theorem ZjF {P:Pg} (H:Tre P) {U:Tb} (hU:U.G=P.G/\U.GD=P.GD) {S:Ev}{e:Ex}{w:Str}{h:Hd}{x:D} (q:ev U e S h=.ok (.str w) h) (f:Zab Zb1 (.inr w)=some x):ev U (.ix (.glo (O "FORMS")) e) S h=.ok x h:=by
 have g:ev U (.glo (O "FORMS")) S h=.ok (.kd (O "FORMS")) h:=by
   rw [Zme,hU.1,H.g]
   rfl
 rw [ZhC,g,Ze,q,Ze,ZnG,hU.2,H.gd]
 simp only [f]
 rfl
theorem Zdf{U:Tb}{S:Ev}{w:Str}{ds:List D}{h:Hd}:ev U (.ix (.var 0) (.cst (.int 0))) (some (.tup (.str w::ds))::S) h=.ok (.str w) h:=by
 show R.ofO (atI (D.str w::ds) 0) h=_
 rw [Zr2]
 rfl
theorem ZiF {P:Pg} (H:Tre P) {U:Tb} (hU:U.G=P.G/\U.GD=P.GD) {w:Str}{ds:List D}{h:Hd}{a b:Int} (e:Zab Zb1 (.inr w)=some (.tup [.int a,.int b])):ev U (.bin .Add (.cst (.int 1)) (.ix (.ix (.glo (O "FORMS")) (.ix (.var 0) (.cst (.int 0)))) (.cst (.int 0)))) [some (.tup (.str w::ds))] h=.ok (.int (1+a)) h:=by
 refine (Zcd (x:=.int 1) (y:=.int a) rfl ?_).trans rfl
 rw [ZhC,ZjF H hU Zdf e]
 rfl
theorem ZgF{U:Tb}{S:Ev}{e:Ex}{l:Int}{h:Hd}(q:ev U e S h=.ok (.int l) h):evo U (some e) S h=.ok (some l) h:=by
 rw [ZhA,q]
 rfl
theorem ZkP{U:Tb}{S:Ev}{a:Ex}{lo hi:Option Ex}{x:D}{l u:Option Int}{h:Hd}(p:ev U a S h=.ok x h)(q:evo U lo S h=.ok l h)(r:evo U hi S h=.ok u h):ev U (.sl a lo hi) S h=ZfL x l u h:=by
 simp only [ZoN,p,Ze,q,r]
theorem ZdG {P:Pg} (H:Tre P) (n:Nat) (h:Hd) (w:Str) (ds:List D) (e:Zab Zb1 (.inr w)=none):run P (n+1) (O "parts_of") [.tup (.str w::ds)] h=.ok (.tup []) h:=by
 rw [Zd H.parts rfl]
 show Zn (xs2 (P.tbl n) Zbx [some (.tup (.str w::ds))] h)=_
 rw [Zbx,Zf ((ZaT (ZbF H ⟨rfl,rfl⟩ Zdf e)).trans (Zf (Zbe (d:=.tup []) rfl)))]
 rfl
theorem ZV {P:Pg} (H:Tre P) (n:Nat) (h:Hd) (w:Str) (ds:List D) (a b:Int) (e:Zab Zb1 (.inr w)=some (.tup [.int a,.int b])):run P (n+1) (O "parts_of") [.tup (.str w::ds)] h=.ok (.tup (cutD (.str w::ds) (some (1+a)) none)) h:=by
 rw [Zd H.parts rfl]
 show Zn (xs2 (P.tbl n) Zbx [some (.tup (.str w::ds))] h)=_
 have q:=ZiF H (U:=P.tbl n) ⟨rfl,rfl⟩ (ds:=ds) (h:=h) e
 have r:ev (P.tbl n) (.sl (.var 0) (some (.bin .Add (.cst (.int 1)) (.ix (.ix (.glo (O "FORMS")) (.ix (.var 0) (.cst (.int 0)))) (.cst (.int 0))))) none) [some (.tup (.str w::ds))] h=.ok (.tup (cutD (.str w::ds) (some (1+a)) none)) h:=by
   exact (ZkP (a:=.var 0) (x:=.tup (.str w::ds)) rfl (ZgF q) rfl).trans rfl
 rw [Zbx,Za ((ZaH (ZbF H ⟨rfl,rfl⟩ Zdf e)).trans rfl),Zf (Zbe r)]
 rfl
theorem ZeI {P:Pg} (H:Tre P) (n:Nat) (t:T) (h:Hd):run P (n+1) (O "parts_of") [t.d] h=.ok (.tup (t.parts.map T.d)) h:=by
 cases t with
 | num z=>exact ZdG H n h (O "num") _ rfl
 | name x=>exact ZdG H n h (O "name") _ rfl
 | fn x e=>exact ZV H n h (O "fn") _ 1 1 rfl
 | rcc f x e=>exact ZV H n h (O "rec") _ 2 1 rfl
 | call f a=>exact ZV H n h (O "call") _ 0 2 rfl
 | iff c a b=>exact ZV H n h (O "if") _ 0 3 rfl
 | op w a b=>exact ZV H n h w.s _ 0 2 (by cases w<;>rfl)
theorem Zeu{U:Tb}{h:Hd}{F:List D}{E:D}(p:Option D):∀ (ps:List D) (W:List D) (q:Option D),W.length+ps.length<=1000000->∃ q',
   Z0 none (.nm 4) (xs2 U (.cons (.drp (.meth .app (.var 2) (.cons (.var 4) .nil))) .nil)) ps [some E,some (.ref h.length),some (.ref (h.length+1)),p,q] (h++[.lst F,.lst W])
     = .ok (.nx,[some E,some (.ref h.length),some (.ref (h.length+1)),p,q']) (h++[.lst F,.lst (W++ps)])
 | [],W,q,hz=>⟨q,by simp⟩
 | d::ds,W,q,hz=>by
   obtain ⟨q',e⟩:=Zeu (U:=U) (h:=h) (F:=F) (E:=E) p ds (W++[d]) (some d) (by simp at hz ⊢;omega)
   refine ⟨q',?_⟩
   have hz2:W.length<sizeLine:=by simp at hz;rw [sizeLine_eq];omega
   rw [Z4]
   simp [Zcl,Zaw,ZcZ,Zik,hz2,e]
theorem Zh9(t:T):1<=t.places.length:=by rw [T.places_parts];simp
theorem Zde:∀ W:List T,W.length<=(W.flatMap T.places).length
 | []=>by simp
 | t::W=>by
   have:=Zh9 t
   have:=Zde W
   rw [List.flatMap_cons,OA,Os]
   omega
theorem Zho{P:Pg}(H:Tre P){h:Hd}{E:D}(n:Nat):∀ (fuel:Nat) (W:List T) (F:List D) (p q:Option D),(W.flatMap T.places).length<fuel->F.length+(W.flatMap T.places).length<=900000->∃ p' q',
   ZQ (tst ⟨P.G,P.GD,run P (n+1),P.L⟩ (.ex (.var 2))) (xs2 ⟨P.G,P.GD,run P (n+1),P.L⟩ (.cons (.set (.nm 3) (.meth .pop (.var 2) .nil)) (.cons (.drp (.meth .app (.var 1) (.cons (.var 3) .nil))) (.cons (.forr (.nm 4) (.rev (.call (O "parts_of") (.cons (.var 3) .nil))) (.cons (.drp (.meth .app (.var 2) (.cons (.var 4) .nil))) .nil)) .nil))))
     fuel [some E,some (.ref h.length),some (.ref (h.length+1)),p,q] (h++[.lst F,.lst (W.map T.d).reverse])
     = .ok (.nx,[some E,some (.ref h.length),some (.ref (h.length+1)),p',q']) (h++[.lst (F++(W.flatMap T.places).map T.d),.lst []])
 | 0,W,F,p,q,h1,h2=>by omega
 | fuel+1,[],F,p,q,h1,h2=>⟨p,q,by rw [Zt];simp [Zcs]⟩
 | fuel+1,t::W,F,p,q,h1,h2=>by
   have e0:((t::W).flatMap T.places)=t::((t.parts++W).flatMap T.places):=by
     rw [List.flatMap_cons,T.places_parts t,List.flatMap_append]
     simp
   rw [e0] at h1 h2 ⊢
   have hp:t.parts.length<=3:=by cases t<;>simp [T.parts]
   simp only [Os] at h1 h2
   have h3:=Zde (t.parts++W)
   rw [OA] at h3
   obtain ⟨q1,e1⟩:=Zeu (U:=⟨P.G,P.GD,run P (n+1),P.L⟩) (h:=h) (F:=F++[t.d]) (E:=E) (some t.d) (t.parts.map T.d).reverse (W.map T.d).reverse q (by simp;omega)
   obtain ⟨p',q',e2⟩:=Zho H (h:=h) (E:=E) n fuel (t.parts++W) (F++[t.d]) (some t.d) q1 (by omega) (by rw [OA,List.length_singleton];omega)
   refine ⟨p',q',?_⟩
   have hz2:F.length<sizeLine:=by rw [sizeLine_eq];omega
   rw [Zt]
   simp [Zcs,Zcl,Zaw,ZcZ,Zik,ZnR,hz2,ZeI H,Zc2,e1]
   simpa using e2
theorem Zhc {P:Pg} (H:Tre P) (n:Nat) (t:T) (h:Hd) (hz:t.size<=800000):run P (n+2) (O "places") [t.d] h=.ok (.ref h.length) (h++[.lst (t.places.map T.d),.lst []]):=by
 rw [Zd H.places (by rfl)]
 obtain ⟨p',q',e⟩:=Zho H (h:=h) (E:=t.d) n P.L [t] [] none none (by have:=H.big;unfold T.size at hz;simp;omega) (by unfold T.size at hz;simp;omega)
 simp at e
 simp [Zb4,ZhO,Zk,sizeLine_eq,e]
end Gn
end
section
set_option tactic.hygienic false
set_option exponentiation.threshold 3000
namespace Gn
open PySem L2 IV
noncomputable def Up(i:Nat)(h h':Hd):Prop:=h.length<=h'.length/\∀ m,m<h.length->m≠i->h'[m]? = h[m]?
theorem Up.refl{i:Nat}{h:Hd}:Up i h h:=⟨Oq _,fun _ _ _=>rfl⟩
theorem Up.trans{i:Nat}{a b c:Hd}(x:Up i a b)(y:Up i b c):Up i a c :=
 ⟨OE x.1 y.1,fun m h1 h2=>(y.2 m (Ot h1 x.1) h2).trans (x.2 m h1 h2)⟩
theorem Up.set{i:Nat}{h:Hd}{o:DO}:Up i h (h.set i o):=⟨by simp,fun m _ h2=>by rw [Oc (Ne.symm h2)]⟩
theorem Up.app{i:Nat}{h g:Hd}:Up i h (h++g):=⟨by simp,fun m h1 _=>Oe h1⟩
theorem ZH{h:Hd}{i:Nat}{o:DO}(e:h[i]? = some o):i<h.length:=(Ob.mp e).1
theorem Up.at{i m:Nat}{h h':Hd}{o:DO}(u:Up i h h')(e:h[m]? = some o)(ne:m≠i):h'[m]? = some o:=(u.2 m (ZH e) ne).trans e
noncomputable def Alk(P:Pg)(f:Str)(fd:Fd):Prop:=∃ ps N,ps.length=fd.ps.length/\N.length=fd.N.length/\P.tb.lookup f=some ⟨ps,N,fd.body⟩
theorem Alk.same{P:Pg}{f:Str}{fd:Fd}(e:P.tb.lookup f=some fd):Alk P f fd:=⟨fd.ps,fd.N,rfl,rfl,e⟩
theorem ZeG{P:Pg}{n:Nat}{f:Str}{fd:Fd}{ds:List D}{h:Hd}(e:Alk P f fd)(hl:ds.length=fd.ps.length):run P (n+1) f ds h=Zn (xs2 ⟨P.G,P.GD,run P n,P.L⟩ fd.body (Zk fd.N ds) h):=by
 obtain ⟨ps,N,h1,h2,e⟩:=e
 rw [Zd e (hl.trans h1.symm)]
 unfold Zk
 rw [h2]
structure Mkr(P:Pg):Prop where
 mixed:P.tb.lookup (O "_law_mixed")=some Zaz
 next:P.tb.lookup (O "_law_next")=some Zas
 names:P.tb.lookup (O "_law_names")=some Zay
 there:P.tb.lookup (O "_law_there")=some Zax
 plain:P.tb.lookup (O "_law_plain")=some ZO
 function:Alk P (O "_law_function") Z2
 number:Alk P (O "_law_number") ZaI
 any:Alk P (O "_law_any") ZX
 width:P.tb.lookup (O "_law_width")=some Z1
 deep:P.tb.lookup (O "_law_deep")=some Zat
 program:Alk P (O "_law_program") ZC
noncomputable def big:Int:=1000000000000000000000000000057
noncomputable def mixed(c k:Int):Int:=(c % big * 271828182845904523536028747135+k * k * 314159265358979323846264338327+577215664901532860606512090082) % big
theorem ZU{i:Int}(h:-(2 ^ 128)<i)(h2:i<2 ^ 128):i.natAbs<2 ^ 2000:=by
 have:i.natAbs<2 ^ 128:=by omega
 exact Ot this (Nat.pow_le_pow_right (by decide) (by decide))
theorem ZjX{k:Int}(hk:-(2 ^ 60)<k/\k<2 ^ 60):0<=k * k/\k * k<2 ^ 120:=by
 have a:k.natAbs<2 ^ 60:=by omega
 have b:k.natAbs * k.natAbs<2 ^ 60 * 2 ^ 60:=Nat.mul_lt_mul'' a a
 have c2:((k.natAbs * k.natAbs:Nat):Int)=k * k:=Int.natAbs_mul_self
 rw [<- c2]
 constructor
 . omega
 . have:((k.natAbs * k.natAbs:Nat):Int)<((2 ^ 60 * 2 ^ 60:Nat):Int):=Int.ofNat_lt.mpr b
   exact this
theorem Zjh {P:Pg} (H:Mkr P) (n:Nat) (c k:Int) (h:Hd) (hk:-(2 ^ 60)<k/\k<2 ^ 60):run P (n+1) (O "_law_mixed") [.int c,.int k] h=.ok (.int (mixed c k)) h:=by
 rw [Zd H.mixed rfl]
 have hp:opB .Pow (.int 10) (.int 30) h=.ok (.int 1000000000000000000000000000000) h:=by
   show (if (0:Int)<=30/\(30:Int)<=1000000/\(10:Int).natAbs<2 ^ 64 then R.ok (D.int (10 ^ (30:Int).toNat)) h else R.bad)=_
   rw [if_pos (by decide)]
   rfl
 have h1:0<=c % 1000000000000000000000000000057/\c % 1000000000000000000000000000057<1000000000000000000000000000057:=⟨Int.emod_nonneg _ (by decide),Int.emod_lt_of_pos _ (by decide)⟩
 have hkk:=ZjX hk
 have e1:opB .Mod (.int c) (.int 1000000000000000000000000000057) h=.ok (.int (c % 1000000000000000000000000000057)) h:=ZR (by decide)
 have e2:opB .Mult (.int (c % 1000000000000000000000000000057)) (.int 271828182845904523536028747135) h=.ok (.int (c % 1000000000000000000000000000057 * 271828182845904523536028747135)) h:=ZdI ⟨ZU (by omega) (by omega),ZU (by decide) (by decide)⟩
 have e3:opB .Mult (.int k) (.int k) h=.ok (.int (k * k)) h:=ZdI ⟨ZU (by omega) (by omega),ZU (by omega) (by omega)⟩
 have e4:opB .Mult (.int (k * k)) (.int 314159265358979323846264338327) h=.ok (.int (k * k * 314159265358979323846264338327)) h:=ZdI ⟨ZU (by omega) (by omega),ZU (by decide) (by decide)⟩
 have e5:opB .Mod (.int (c % 1000000000000000000000000000057 * 271828182845904523536028747135+k * k * 314159265358979323846264338327+577215664901532860606512090082)) (.int 1000000000000000000000000000057) h=.ok (.int (mixed c k)) h:=ZR (by decide)
 simp [Zaz,ZeB,Zk,hp,e1,e2,e3,e4,e5]
noncomputable def St3(h:Hd)(i j:Nat)(cs:List Int)(at' b:Int):Prop:=h[i]? = some (.lst [.ref j,.int at',.int b])/\h[j]? = some (.lst (cs.map .int))/\i≠j
theorem Zh5 {P:Pg} (H:Mkr P) (n:Nat) {h:Hd}{i j:Nat}{cs:List Int}{a b:Int} (st:St3 h i j cs a b) (ha:0<=a/\a<2 ^ 50):∃ v,run P (n+2) (O "_law_next") [.ref i] h=.ok (.int v) (h.set i (.lst [.ref j,.int (a+1),.int b]))/\(v∈cs\/v=mixed a 7):=by
 obtain ⟨h1,h2,ne⟩:=st
 rw [Zd H.next rfl]
 have i1:=ZH h1
 have i2:(h.set i (.lst [.ref j,.int (a+1),.int b]))[i]? = some (.lst [.ref j,.int (a+1),.int b]):=by rw [Ol i1]
 have i3:(h.set i (.lst [.ref j,.int (a+1),.int b]))[j]? = some (.lst (cs.map .int)):=by rw [Oc ne];exact h2
 have hput:Zcj (.ref i) (.int 1) (.int (a+1)) h=.ok () (h.set i (.lst [.ref j,.int (a+1),.int b])):=by
   simp only [Zcj,h1]
   rfl
 have hlen:Z5 P.GD .len [.ref j] (h.set i (.lst [.ref j,.int (a+1),.int b]))=.ok (.int cs.length) (h.set i (.lst [.ref j,.int (a+1),.int b])):=by
   simp only [Z5,ZfI,seqOf,lstOf,i3]
   simp
 by_cases hc:a<cs.length
 . obtain ⟨k,rfl⟩:∃ k:Nat,a=k:=⟨a.toNat,by omega⟩
   have hk:k<cs.length:=by omega
   refine ⟨cs[k],?_,.inl (List.getElem_mem hk)⟩
   have hat:atI (cs.map D.int) (k:Int)=some (.int cs[k]):=by rw [IV.ZbN,On,Og hk];rfl
   simp [Zas,Zdr,Zk,Zu h1,hput,Zu i2,hlen,hk,Zu i3,hat]
 . refine ⟨mixed a 7,?_,.inr rfl⟩
   simp [Zas,Zdr,Zk,Zu h1,hput,Zu i2,hlen,hc,Zjh H n a 7 _ (by decide)]
noncomputable def Cl:List Str->T->Prop
 | _,.num n=>0<=n/\n<1000000
 | sc,.name x=>x∈sc
 | sc,.fn x e=>Cl (x::sc) e
 | sc,.rcc f x e=>Cl (x::f::sc) e/\f≠x
 | sc,.call f a=>Cl sc f/\Cl sc a
 | sc,.iff c t e=>Cl sc c/\Cl sc t/\Cl sc e
 | sc,.op _ a b=>Cl sc a/\Cl sc b
noncomputable def dep:T->Nat
 | .num _|.name _=>0
 | .fn _ e|.rcc _ _ e=>dep e+1
 | .call f a=>max (dep f) (dep a)+1
 | .iff c t e=>max (dep c) (max (dep t) (dep e))+1
 | .op _ a b=>max (dep a) (dep b)+1
theorem at4{a b c d:Int}(k:Int)(h0:0<=k)(h4:k<4):∃ v,atI [D.int a,.int b,.int c,.int d] k=some (.int v)/\(v=a\/v=b\/v=c\/v=d):=by
 have:k=0\/k=1\/k=2\/k=3:=by omega
 rcases this with rfl|rfl|rfl|rfl
 . exact ⟨a,by simp,.inl rfl⟩
 . exact ⟨b,by simp,.inr (.inl rfl)⟩
 . exact ⟨c,by simp,.inr (.inr (.inl rfl))⟩
 . exact ⟨d,by simp,.inr (.inr (.inr rfl))⟩
theorem ZeH {P:Pg} (H:Mkr P) (n:Nat) (w:Str) (v:Int) (h:Hd) (sc:List Str):∃ t g,run P (n+1) (O "_law_plain") [.str w,.int v] h=.ok (T.d t) (h++g)/\Cl sc t/\dep t<=2/\t.size<=4:=by
 rw [Zd H.plain rfl]
 have m4:opB .Mod (.int v) (.int 4)=fun h=>.ok (.int (v % 4)) h:=by funext h;exact ZR (by decide)
 have m3:opB .Mod (.int v) (.int 3)=fun h=>.ok (.int (v % 3)) h:=by funext h;exact ZR (by decide)
 have m5:opB .Mod (.int v) (.int 5)=fun h=>.ok (.int (v % 5)) h:=by funext h;exact ZR (by decide)
 have d7:opB .FloorDiv (.int v) (.int 7)=fun h=>.ok (.int (v / 7)) h:=by funext h;exact Zcb (by decide)
 have mm:opB .Mod (.int (v / 7)) (.int 1000000)=fun h=>.ok (.int (v / 7 % 1000000)) h:=by funext h;exact ZR (by decide)
 by_cases w1:w=O "n"
 . obtain ⟨u,e,hu⟩:=at4 (a:=0) (b:=1) (c:=2) (d:=v / 7 % 1000000) (v % 4) (by omega) (by omega)
   refine ⟨.num u,[.lst [.int 0,.int 1,.int 2,.int (v / 7 % 1000000)]],?_,by show 0<=u/\u<1000000;omega,by show 0<=2;omega,by show 1<=4;omega⟩
   have ix:ZaD P.GD (.ref h.length) (.int (v % 4)) (h++[.lst [.int 0,.int 1,.int 2,.int (v / 7 % 1000000)]])=R.ofO (atI [.int 0,.int 1,.int 2,.int (v / 7 % 1000000)] (v % 4)) _:=Zu Zc1
   simp [ZO,ZbL,Zk,w1,m4,d7,mm,sizeLine_eq,ix,e,T.d]
 . by_cases w2:w=O "f"
   . refine ⟨.fn (O "w") (.op .sub (.name (O "w")) (.num (v % 3))),[],?_,?_,by simp only [dep];omega,by show 4<=4;omega⟩
     . simp [ZO,ZbL,Zk,w2,m3,sizeLine_eq,T.d,Wd.s]
     . exact ⟨Oi,by show 0<=v % 3/\v % 3<1000000;omega⟩
   . refine ⟨.fn (O "w") (.call (.name (O "w")) (.num (v % 5))),[],?_,?_,by simp only [dep];omega,by show 4<=4;omega⟩
     . simp [ZO,ZbL,Zk,w1,w2,m5,sizeLine_eq,T.d]
     . exact ⟨Oi,by show 0<=v % 5/\v % 5<1000000;omega⟩
noncomputable def Zp:Str:=O "abcdefghijklmnopqrstuvwxyz"
theorem Zhn:Zp.length=26:=by decide +kernel
theorem Zil:PyData.strOk Zp=true:=by decide +kernel
noncomputable def Wl(n:Nat)(x:Str):Prop:=PyData.strOk x=true/\x.length<=n
noncomputable def ltr(k:Int):Nat:=Zp.cps.toList.getD k.toNat 0
noncomputable def lt1(k:Int):Str:=⟨#[ltr k]⟩
theorem Zim{GD:Str->Option (List (Key×D))}{h:Hd}(k:Int)(h0:0<=k)(h1:k<26):ZaD GD (.str Zp) (.int k) h=.ok (.str (lt1 k)) h/\Wl 1 (lt1 k):=by
 obtain ⟨m,rfl⟩:∃ m:Nat,k=m:=⟨k.toNat,by omega⟩
 have hl:Zp.cps.toList.length=26:=by decide +kernel
 have hm:m<Zp.cps.toList.length:=by omega
 have el:ltr m=Zp.cps.toList[m]:=by
   show Zp.cps.toList.getD (m:Int).toNat 0=_
   rw [Int.toNat_natCast,List.getD_eq_getElem?_getD,Og hm]
   rfl
 have e:atI Zp.cps.toList (m:Int)=some Zp.cps.toList[m]:=by rw [IV.ZbN,Og hm]
 unfold lt1
 rw [el]
 refine ⟨?_,Zid Zil (List.getElem_mem hm),by show (#[Zp.cps.toList[m]]:Array Nat).size<=1;simp⟩
 have q:ZaD GD (.str Zp) (.int (m:Int)) h=if Zp.length<=sizeLine then R.ofO ((atI Zp.cps.toList (m:Int)).map fun c=>.str ⟨#[c]⟩) h else .bad:=rfl
 rw [q,if_pos (by rw [Zhn,sizeLine_eq];decide),e]
 rfl
theorem len_cat{x y:Str}:(x++y).length=x.length+y.length:=by
 show (x.cps++y.cps).size=_
 rw [Array.size_append];rfl
theorem ZdW{x y:Str}{a b:Nat}{h:Hd}(hx:Wl a x)(hy:Wl b y)(hz:a+b<=1000):opB .Add (.str x) (.str y) h=.ok (.str (x++y)) h/\Wl (a+b) (x++y):=by
 have hl:(x++y).length=x.length+y.length:=len_cat
 refine ⟨if_pos (by rw [sizeLine_eq];have:=hx.2;have:=hy.2;omega),Zf4 hx.1 hy.1,by rw [hl];have:=hx.2;have:=hy.2;omega⟩
theorem ZlK{U:Tb}{h:Hd}{a l p f sg wd:Option D}:∀ (ks:List Int) (r:Int) (x:Str) (m:Nat) (k:Option D),Wl m x->x.length=m->m+ks.length<=100->∃ r' x' k',Wl (m+ks.length) x'/\x'.length=m+ks.length /\
   Z0 none (.nm 6) (xs2 U (.cons (.set (.nm 5) (.bin .Add (.var 5) (.ix (.var 1) (.bin .Mod (.var 4) (.cst (.int 26)))))) (.cons (.set (.nm 4) (.bin .FloorDiv (.var 4) (.cst (.int 26)))) .nil))) (ks.map D.int) [a,some (.str Zp),l,p,some (.int r),some (.str x),k,f,sg,wd] h
     = .ok (.nx,[a,some (.str Zp),l,p,some (.int r'),some (.str x'),k',f,sg,wd]) h
 | [],r,x,m,k,hx,hn,hm=>⟨r,x,k,hx,hn,rfl⟩
 | c::cs,r,x,m,k,hx,hn,hm=>by
   obtain ⟨e1,hy⟩:=Zim (GD:=U.GD) (h:=h) (r % 26) (by omega) (by omega)
   obtain ⟨e2,hxy⟩:=ZdW (h:=h) hx hy (by simp at hm;omega)
   obtain ⟨r',x',k',h1,h2,e3⟩:=ZlK (U:=U) (h:=h) (a:=a) (l:=l) (p:=p) (f:=f) (sg:=sg) (wd:=wd) cs (r / 26) (x++lt1 (r % 26)) (m+1) (some (.int c)) hxy (by rw [len_cat,hn];rfl) (by simp at hm ⊢;omega)
   have hcl:m+(c::cs).length=m+1+cs.length:=by rw [Os];omega
   refine ⟨r',x',k',by rw [hcl];exact h1,by rw [hcl];exact h2,?_⟩
   have e4:opB .Mod (.int r) (.int 26) h=.ok (.int (r % 26)) h:=ZR (by decide)
   have e5:opB .FloorDiv (.int r) (.int 26) h=.ok (.int (r / 26)) h:=Zcb (by decide)
   rw [Op,Z4]
   simp [e4,e1,e2,e5,e3]
theorem Zpd(x:Str)(l u:Option Int):(StrLaws.sliceText x l u).length<=x.length:=by
 unfold StrLaws.sliceText
 split
 . exact Oq _
 . show ((Builtin.Str.strSliceIndices l u 1 x.length).filterMap (x.cps[·]?)).toArray.size<=_
   rw [Of]
   refine OE (List.length_filterMap_le _ _) ?_
   unfold Builtin.Str.strSliceIndices
   refine PySem.sliceRange_length_le _ _ _ _ (fun _=>?_) (fun z=>absurd (by decide) z)
   cases l<;>cases u<;>simp<;>omega
theorem ZcT{x:Str}{m:Nat}{h:Hd}(hx:Wl m x)(hm:m<=1000)(l u:Option Int):ZfL (.str x) l u h=.ok (.str (StrLaws.sliceText x l u)) h/\Wl m (StrLaws.sliceText x l u):=by
 refine ⟨if_pos (by rw [sizeLine_eq];have:=hx.2;omega),Zlu hx.1 (Ze0 _ _ _),?_⟩
 have:=hx.2
 have q:(StrLaws.sliceText x l u).length<=x.length:=Zpd x l u
 omega
theorem in4 {GD:Str->Option (List (Key×D))}{h:Hd}{x:Str}:opC GD .In (.str x) (.tup [.str (O "fn"),.str (O "rec"),.str (O "call"),.str (O "if")]) h=.ok (.bl (decide (x∈[O "fn",O "rec",O "call",O "if"]))) h :=
 Zgn (ss:=[O "fn",O "rec",O "call",O "if"])
theorem len_str{GD:Str->Option (List (Key×D))}{h:Hd}{x:Str}{m:Nat}(hx:Wl m x)(hm:m<=1000):Z5 GD .len [.str x] h=.ok (.int x.length) h:=by
 show (if x.length<=sizeLine then _ else _)=_
 exact if_pos (by rw [sizeLine_eq];have:=hx.2;omega)
theorem ZoB {x:Str}{h:Hd}{m:Nat} (hx:Wl m x) (hm:m<=1000):opB .Mult (.str (O "q")) (.int x.length) h=.ok (.str (Zd3 (O "q") x.length)) h/\Wl m (Zd3 (O "q") x.length):=by
 have hq:(O "q").length=1:=by decide +kernel
 have:=hx.2
 refine ⟨if_pos ⟨by omega,by omega,by rw [hq];decide⟩,Zlv (by decide +kernel) _,?_⟩
 rw [ZdE,hq]
 omega
noncomputable def nmW(b:Str)(l p r c:Int):Str:=if r / 26 % 4=1 then StrLaws.sliceText b none (some (8 - c)) else StrLaws.sliceText b none (some p)++lt1 ((r+5 * c) % 26)++StrLaws.sliceText b (some (p+1)) (some l)
noncomputable def nmQ (w:Str):Str:=if w∈[O "fn",O "rec",O "call",O "if"] then Zd3 (O "q") w.length else w
noncomputable def nm(b:Str)(l p r c:Int):Str:=nmQ (nmW b l p r c)
theorem Zly{b:Str}(hb:Wl 8 b)(l p r c:Int):Wl 20 (nmW b l p r c):=by
 unfold nmW
 split
 . have q:=(ZcT (h:=[]) hb (by decide) none (some (8 - c))).2
   exact ⟨q.1,by have:=q.2;omega⟩
 . have q1:=(ZcT (h:=[]) hb (by decide) none (some p)).2
   have q2:=(Zim (GD:=fun _=>none) (h:=[]) ((r+5 * c) % 26) (by omega) (by omega)).2
   have q3:=(ZcT (h:=[]) hb (by decide) (some (p+1)) (some l)).2
   have q:=(ZdW (h:=[]) (ZdW (h:=[]) q1 q2 (by decide)).2 q3 (by decide)).2
   exact ⟨q.1,by have:=q.2;omega⟩
theorem Zry{b:Str}(hb:Wl 8 b)(l p r c:Int):Wl 20 (nm b l p r c):=by
 unfold nm nmQ
 split
 . exact (ZoB (h:=[]) (Zly hb l p r c) (by decide)).2
 . exact Zly hb l p r c
theorem Zjy{U:Tb}{h:Hd}{a:Option D}{l p r:Int}{b:Str}(hb:Wl 8 b):∀ (ks:List Int) (fo:List Str) (k sg wd:Option D),fo.length+ks.length<=100->(∀ c∈ks,0<=c/\c<100)->∃ k' sg' wd',
   Z0 none (.nm 6) (xs2 U (.cons (.set (.nm 8) (.ix (.var 1) (.bin .Mod (.bin .Add (.var 4) (.bin .Mult (.cst (.int 5)) (.var 6))) (.cst (.int 26))))) (.cons (.set (.nm 9) (.bin .Add (.bin .Add (.sl (.var 5) none (some (.var 3))) (.var 8)) (.sl (.var 5) (some (.bin .Add (.var 3) (.cst (.int 1)))) (some (.var 2))))) (.cons (.iff (.ex (.cmp .Eq (.bin .Mod (.bin .FloorDiv (.var 4) (.cst (.int 26))) (.cst (.int 4))) (.cst (.int 1)))) (.cons (.set (.nm 9) (.sl (.var 5) none (some (.bin .Sub (.cst (.int 8)) (.var 6))))) .nil) .nil) (.cons (.iff (.ex (.cmp .In (.var 9) (.tupl (.cons (.cst (.str (O "fn"))) (.cons (.cst (.str (O "rec"))) (.cons (.cst (.str (O "call"))) (.cons (.cst (.str (O "if"))) .nil))))))) (.cons (.set (.nm 9) (.bin .Mult (.cst (.str (O "q"))) (.blt .len (.cons (.var 9) .nil)))) .nil) .nil) (.cons (.drp (.meth .app (.var 7) (.cons (.var 9) .nil))) .nil))))))
     (ks.map D.int) [a,some (.str Zp),some (.int l),some (.int p),some (.int r),some (.str b),k,some (.ref h.length),sg,wd] (h++[.lst (fo.map .str)])
     = .ok (.nx,[a,some (.str Zp),some (.int l),some (.int p),some (.int r),some (.str b),k',some (.ref h.length),sg',wd']) (h++[.lst ((fo++ks.map (nm b l p r)).map .str)])
 | [],fo,k,sg,wd,h2,h3=>⟨k,sg,wd,by simp⟩
 | c::cs,fo,k,sg,wd,h2,h3=>by
   have hc:=h3 c (by simp)
   obtain ⟨e1,hy⟩:=Zim (GD:=U.GD) (h:=h++[.lst (fo.map .str)]) ((r+5 * c) % 26) (by omega) (by omega)
   have m5:opB .Mult (.int 5) (.int c) (h++[.lst (fo.map .str)])=.ok (.int (5 * c)) (h++[.lst (fo.map .str)]):=ZdI ⟨ZU (by decide) (by decide),ZU (by omega) (by omega)⟩
   have m26:opB .Mod (.int (r+5 * c)) (.int 26) (h++[.lst (fo.map .str)])=.ok (.int ((r+5 * c) % 26)) (h++[.lst (fo.map .str)]):=ZR (by decide)
   obtain ⟨f1,w1⟩:=ZcT (h:=h++[.lst (fo.map .str)]) hb (by decide) none (some p)
   obtain ⟨f2,w2⟩:=ZcT (h:=h++[.lst (fo.map .str)]) hb (by decide) (some (p+1)) (some l)
   obtain ⟨f3,w3⟩:=ZcT (h:=h++[.lst (fo.map .str)]) hb (by decide) none (some (8 - c))
   obtain ⟨c1,v1⟩:=ZdW (h:=h++[.lst (fo.map .str)]) w1 hy (by decide)
   obtain ⟨c2,v2⟩:=ZdW (h:=h++[.lst (fo.map .str)]) v1 w2 (by decide)
   have d26:opB .FloorDiv (.int r) (.int 26) (h++[.lst (fo.map .str)])=.ok (.int (r / 26)) (h++[.lst (fo.map .str)]):=Zcb (by decide)
   have m4:opB .Mod (.int (r / 26)) (.int 4) (h++[.lst (fo.map .str)])=.ok (.int (r / 26 % 4)) (h++[.lst (fo.map .str)]):=ZR (by decide)
   have hz:fo.length<16777216:=by simp at h2;omega
   generalize hy':lt1 ((r+5 * c) % 26)=y at *
   have fin:∀ (wd1:Str),Wl 20 wd1->(xs2 U (.cons (.iff (.ex (.cmp .In (.var 9) (.tupl (.cons (.cst (.str (O "fn"))) (.cons (.cst (.str (O "rec"))) (.cons (.cst (.str (O "call"))) (.cons (.cst (.str (O "if"))) .nil))))))) (.cons (.set (.nm 9) (.bin .Mult (.cst (.str (O "q"))) (.blt .len (.cons (.var 9) .nil)))) .nil) .nil) (.cons (.drp (.meth .app (.var 7) (.cons (.var 9) .nil))) .nil))
       [a,some (.str Zp),some (.int l),some (.int p),some (.int r),some (.str b),some (.int c),some (.ref h.length),some (.str y),some (.str wd1)] (h++[.lst (fo.map .str)]))
       = .ok (.nx,[a,some (.str Zp),some (.int l),some (.int p),some (.int r),some (.str b),some (.int c),some (.ref h.length),some (.str y),some (.str (nmQ wd1))]) (h++[.lst (fo.map .str++[.str (nmQ wd1)])]):=by
     intro wd1 hw
     unfold nmQ
     obtain ⟨eq,wq⟩:=ZoB (h:=h++[.lst (fo.map .str)]) hw (by decide)
     by_cases hin:wd1∈[O "fn",O "rec",O "call",O "if"]
     . rw [if_pos hin]
       have i4:=in4 (GD:=U.GD) (h:=h++[.lst (fo.map .str)]) (x:=wd1)
       rw [decide_eq_true hin] at i4
       simp only [ZK,Zdv,ZhZ,ZiI,Zed,ZgE,Zb6,ZdT,ZgH,O0,OJ,Option.join_some,ofO_some,Ze,bind_ok]
       rw [if_pos (by rw [sizeLine_eq];decide)]
       simp only [Ze,bind_ok,i4,Zi6,ofO_some,if_true]
       simp [len_str hw,eq,Zcl,Zaw,ZcZ,Zik,sizeLine_eq,hz]
     . rw [if_neg hin]
       have i4:=in4 (GD:=U.GD) (h:=h++[.lst (fo.map .str)]) (x:=wd1)
       rw [decide_eq_false hin] at i4
       simp only [ZK,Zdv,ZhZ,ZiI,Zed,ZgE,Zb6,ZdT,ZgH,O0,OJ,Option.join_some,ofO_some,Ze,bind_ok]
       rw [if_pos (by rw [sizeLine_eq];decide)]
       simp only [Ze,bind_ok,i4,Zi6,ofO_some]
       simp [Zcl,Zaw,ZcZ,Zik,sizeLine_eq,hz]
   have go:xs2 U (.cons (.set (.nm 8) (.ix (.var 1) (.bin .Mod (.bin .Add (.var 4) (.bin .Mult (.cst (.int 5)) (.var 6))) (.cst (.int 26))))) (.cons (.set (.nm 9) (.bin .Add (.bin .Add (.sl (.var 5) none (some (.var 3))) (.var 8)) (.sl (.var 5) (some (.bin .Add (.var 3) (.cst (.int 1)))) (some (.var 2))))) (.cons (.iff (.ex (.cmp .Eq (.bin .Mod (.bin .FloorDiv (.var 4) (.cst (.int 26))) (.cst (.int 4))) (.cst (.int 1)))) (.cons (.set (.nm 9) (.sl (.var 5) none (some (.bin .Sub (.cst (.int 8)) (.var 6))))) .nil) .nil) (.cons (.iff (.ex (.cmp .In (.var 9) (.tupl (.cons (.cst (.str (O "fn"))) (.cons (.cst (.str (O "rec"))) (.cons (.cst (.str (O "call"))) (.cons (.cst (.str (O "if"))) .nil))))))) (.cons (.set (.nm 9) (.bin .Mult (.cst (.str (O "q"))) (.blt .len (.cons (.var 9) .nil)))) .nil) .nil) (.cons (.drp (.meth .app (.var 7) (.cons (.var 9) .nil))) .nil)))))
       [a,some (.str Zp),some (.int l),some (.int p),some (.int r),some (.str b),some (.int c),some (.ref h.length),sg,wd] (h++[.lst (fo.map .str)])
       = .ok (.nx,[a,some (.str Zp),some (.int l),some (.int p),some (.int r),some (.str b),some (.int c),some (.ref h.length),some (.str y),some (.str (nm b l p r c))]) (h++[.lst (fo.map .str++[.str (nm b l p r c)])]):=by
     unfold nm nmW
     rw [hy']
     by_cases hr:r / 26 % 4=1
     . have q2:=fin _ ⟨w3.1,by have:=w3.2;omega⟩
       rw [if_pos hr,<- q2]
       simp [m5,m26,e1,f1,c1,f2,c2,d26,m4,hr,f3]
     . have q2:=fin _ ⟨v2.1,by have:=v2.2;omega⟩
       rw [if_neg hr,<- q2]
       simp [m5,m26,e1,f1,c1,f2,c2,d26,m4,hr]
   obtain ⟨k',sg',wd',e3⟩:=Zjy (U:=U) (h:=h) (a:=a) (l:=l) (p:=p) (r:=r) hb cs (fo++[nm b l p r c]) (some (.int c)) (some (.str y)) (some (.str (nm b l p r c))) (by simp at h2 ⊢;omega) (fun z hz=>h3 z (by simp [hz]))
   refine ⟨k',sg',wd',?_⟩
   rw [Op,Z4]
   simp only [ZeQ,List.set_cons_succ,List.set_cons_zero]
   rw [go]
   simp only [Ze,bind_ok]
   have:(fo++[nm b l p r c]).map D.str=fo.map .str++[.str (nm b l p r c)]:=by simp
   rw [<- this,e3]
   simp
theorem ZpY:∀ k∈[[102,110],[114,101,99],[99,97,108,108],[105,102]],∀ l∈[[102,110],[114,101,99],[99,97,108,108],[105,102],List.replicate k.length 113],k=l\/k.length≠l.length\/∀ i,i<4->∃ j,j<4/\j≠i/\k[j]?≠l[j]? := by decide +kernel
theorem Zjz{b:List Nat}{x y:Nat}(ne:x≠y)(a:List Nat)(h:a++x::b∈[[102,110],[114,101,99],[99,97,108,108],[105,102]]):a++y::b ∉ [[102,110],[114,101,99],[99,97,108,108],[105,102]]/\a++y::b≠List.replicate (a++x::b).length 113:=by
 have l4:(a++x::b).length<=4:=by
   have:∀ k∈[[102,110],[114,101,99],[99,97,108,108],[105,102]],k.length<=4:=by decide
   exact this _ h
 have sl:(a++x::b).length=(a++y::b).length:=by simp
 have no:∀ l∈[[102,110],[114,101,99],[99,97,108,108],[105,102],List.replicate (a++x::b).length 113],a++y::b≠l:=fun l hl e=>by
   rcases ZpY _ h l hl with q|q|q
   . rw [<- e] at q
     exact ne (List.cons.inj (List.append_cancel_left q)).1
   . exact q (by rw [<- e];exact sl)
   . obtain ⟨j,_,nj,d⟩:=q a.length (by simp at l4;omega)
     rw [<- e] at d
     rcases Nat.lt_or_ge j a.length with z|z
     . exact d (by rw [Oe z,Oe z])
     . rw [Om z,Om z] at d
       obtain ⟨m,hm⟩:∃ m,j - a.length=m+1:=⟨j - a.length - 1,by omega⟩
       rw [hm] at d
       exact d rfl
 refine ⟨fun m=>no _ (List.mem_append_left [List.replicate (a++x::b).length 113] m) rfl,no _ (Ov [[102,110],[114,101,99],[99,97,108,108],[105,102]] (Ox.mpr rfl))⟩
theorem ZlM {w:Str}:w∈[O "fn",O "rec",O "call",O "if"]↔w.cps.toList∈[[102,110],[114,101,99],[99,97,108,108],[105,102]]:=by
 have e:[[102,110],[114,101,99],[99,97,108,108],[105,102]]=[O "fn",O "rec",O "call",O "if"].map (·.cps.toList):=by decide +kernel
 rw [e]
 refine ⟨fun h=>List.mem_map_of_mem h,fun h=>?_⟩
 obtain ⟨v,hv,q⟩:=List.mem_map.mp h
 have:v=w:=by
   obtain ⟨⟨v⟩⟩:=v
   obtain ⟨⟨w⟩⟩:=w
   cases q;rfl
 exact this ▸ hv
theorem Zhb:∀ n,(Zd3 (O "q") n).cps.toList=List.replicate n 113
 | n=>by
   have:∀ (n:Nat) (a:Array Nat),((List.replicate n (O "q").cps).foldl (·++·) a).toList=a.toList++List.replicate n 113:=by
     intro n
     induction n with
     | zero=>intro a;simp
     | succ n ih=>intro a;rw [List.replicate_succ,List.foldl_cons,ih,Array.toList_append,Oz,List.replicate_succ];rfl
   have q:=this n #[]
   simpa [Zd3] using q
theorem nq{a b:List Nat}{x y:Nat}{v w:Str}(hv:v.cps.toList=a++x::b)(hw:w.cps.toList=a++y::b)(ne:x≠y):nmQ v≠nmQ w:=by
 have hl:v.length=(a++x::b).length/\w.length=(a++y::b).length:=by rw [<- hv,<- hw];exact ⟨by simp [Str.length],by simp [Str.length]⟩
 unfold nmQ
 intro e
 have e':=congrArg (·.cps.toList) e
 simp only [ZlM] at e'
 split at e'
 . rename_i kv
   rw [hv] at kv
   obtain ⟨k1,k2⟩:=Zjz ne a kv
   rw [if_neg (by rw [hw];exact k1),Zhb,hw,hl.1] at e'
   exact k2 e'.symm
 . split at e'
   . rename_i kw
     rw [hw] at kw
     obtain ⟨k1,k2⟩:=Zjz (Ne.symm ne) a kw
     rw [Zhb,hv,hl.2] at e'
     exact k2 e'
   . rw [hv,hw] at e'
     have:=List.append_cancel_left e'
     exact ne (List.cons.inj this).1
theorem Zjr(w:Str):(nmQ w).length=w.length:=by
 unfold nmQ
 split
 . rw [ZdE,show (O "q").length=1 by decide +kernel,Nat.mul_one]
 . rfl
theorem ZnT:∀ i j:Fin 26,ltr (i.val:Int)=ltr (j.val:Int)->i=j:=by decide +kernel
theorem Zrz{b:Str}{l p r:Int}(hb:b.length=8){c d:Int}(hc:0<=c/\c<5)(hd:0<=d/\d<5)(ne:c≠d):nm b l p r c≠nm b l p r d:=by
 unfold nm nmW
 split
 . intro e
   have e':=congrArg Str.length e
   have len:∀ z:Int,0<=z/\z<5->(StrLaws.sliceText b none (some (8 - z))).length=(8 - z).toNat:=fun z hz=>by
     have h8:b.cps.toList.length=8:=by simpa [Str.length] using hb
     rw [StrLaws.sliceText_to ⟨by omega,by omega⟩]
     show (List.take (8 - z - 0).toNat (List.drop 0 b.cps.toList)).toArray.size=_
     rw [Of,List.length_take,List.drop_zero,h8]
     omega
   rw [Zjr,Zjr,len c hc,len d hd] at e'
   omega
 . refine nq (a:=(StrLaws.sliceText b none (some p)).cps.toList) (b:=(StrLaws.sliceText b (some (p+1)) (some l)).cps.toList) (x:=ltr ((r+5 * c) % 26)) (y:=ltr ((r+5 * d) % 26)) ?_ ?_ ?_
   . show (_++#[ltr ((r+5 * c) % 26)]++_:Array Nat).toList=_
     simp
   . show (_++#[ltr ((r+5 * d) % 26)]++_:Array Nat).toList=_
     simp
   . intro e
     have q:=ZnT ⟨((r+5 * c) % 26).toNat,by omega⟩ ⟨((r+5 * d) % 26).toNat,by omega⟩ (by
       show ltr (((r+5 * c) % 26).toNat:Int)=ltr (((r+5 * d) % 26).toNat:Int)
       rw [Int.toNat_of_nonneg (by omega),Int.toNat_of_nonneg (by omega)];exact e)
     have q:=Fin.mk.inj q
     omega
theorem Zlx{b:Str}{l p r:Int}(hb:b.length=8):(([0,1,2,3,4]:List Int).map (nm b l p r)).Nodup:=by
 refine List.pairwise_map.mpr (List.Pairwise.imp_of_mem (R:=fun x y=>x≠y) (fun {x y} hx hy ne=>Zrz hb ?_ ?_ ne) (by decide))
 . simp at hx;omega
 . simp at hy;omega
theorem Zm5 {P:Pg} (H:Mkr P) (n:Nat) (v:Int) (h:Hd):∃ ns:List Str,ns.length=5/\(∀ x∈ns,Wl 20 x)/\ns.Nodup/\run P (n+1) (O "_law_names") [.int v] h=.ok (.ref h.length) (h++[.lst (ns.map .str)]):=by
 rw [Zd H.names rfl]
 have u8:Zaq 0 8=[0,1,2,3,4,5,6,7].map D.int:=by rfl
 have u5:Zaq 0 5=[0,1,2,3,4].map D.int:=by rfl
 have m8:opB .Mod (.int v) (.int 8) h=.ok (.int (v % 8)) h:=ZR (by decide)
 have d8:opB .FloorDiv (.int v) (.int 8) h=.ok (.int (v / 8)) h:=Zcb (by decide)
 have mp:opB .Mod (.int (v / 8)) (.int (1+v % 8)) h=.ok (.int (v / 8 % (1+v % 8))) h:=ZR (by omega)
 have d64:opB .FloorDiv (.int v) (.int 64) h=.ok (.int (v / 64)) h:=Zcb (by decide)
 obtain ⟨r',b,k',hb,hb8,e1⟩:=ZlK (U:=⟨P.G,P.GD,run P n,P.L⟩) (h:=h) (a:=some (.int v)) (l:=some (.int (1+v % 8))) (p:=some (.int (v / 8 % (1+v % 8)))) (f:=none) (sg:=none) (wd:=none) [0,1,2,3,4,5,6,7] (v / 64) (O "") 0 none ⟨by decide +kernel,by decide +kernel⟩ (by decide +kernel) (by decide)
 obtain ⟨k2,sg',wd',e2⟩:=Zjy (U:=⟨P.G,P.GD,run P n,P.L⟩) (h:=h) (a:=some (.int v)) (l:=1+v % 8) (p:=v / 8 % (1+v % 8)) (r:=r') hb [0,1,2,3,4] [] k' none none (by decide) (by decide)
 refine ⟨[0,1,2,3,4].map (nm b (1+v % 8) (v / 8 % (1+v % 8)) r'),rfl,fun x hx=>?_,Zlx hb8,?_⟩
 . obtain ⟨c,_,rfl⟩:=List.mem_map.mp hx
   exact Zry hb _ _ _ _
 generalize nm b (1+v % 8) (v / 8 % (1+v % 8)) r'=F at e2 ⊢
 simp only [Oy,OB] at e2
 have s8:ZaE 8=true:=by decide
 have s5:ZaE 5=true:=by decide
 unfold Zp at e1 e2
 rw [<- u8] at e1
 rw [<- u5] at e2
 try simp at e1
 try simp at e2
 simp [Zay,ZeA,Zk,m8,d8,mp,d64,s8,s5,e1,e2,sizeLine_eq]
end Gn
end
section
set_option tactic.hygienic false
namespace Gn
open PySem L2 IV
noncomputable abbrev Scp:=List (Str×Str)
noncomputable def pairOf(p:Str×Str):D:=.tup [.str p.1,.str p.2]
noncomputable def ZkA(h:Hd)(k:Nat)(sc:Scp):Prop:=h[k]? = some (.lst (sc.map pairOf))
structure KnOk(sc:Scp)(kn:List (Key×D)):Prop where
 key:∀ p∈kn,∃ x,p.1=Sum.inr x/\x∈sc.map (·.1)
 val:∀ p∈kn,∃ s,p.2=D.str s
theorem Zhe{kn:List (Key×D)}{k:Key}{v:D}{p:Key×D}(h:p∈putD kn k v):p∈kn\/p=(k,v):=by
 unfold putD at h
 split at h
 . obtain ⟨q,hq,e⟩:=List.mem_map.mp h
   split at e
   . rename_i ek
     right
     rw [<- e,ek]
   . left
     rw [<- e];exact hq
 . rcases OD.mp h with z|z
   . exact .inl z
   . exact .inr (Ox.mp z)
theorem Zk6{kn:List (Key×D)}{k:Key}{v:D}:(putD kn k v).length<=kn.length+1:=by
 unfold putD
 split<;>simp
theorem Znd{h:Hd}{kn:List (Key×D)}{x:Str}{v:D}(hz:kn.length<1000):Zcj (.ref h.length) (.str x) v (h++[.dic kn])=.ok () (h++[.dic (putD kn (.inr x) v)]):=by
 simp only [Zcj,Zc1,keyOf]
 rw [if_pos (by rw [sizeLine_eq];omega)]
 simp
theorem Zjx{U:Tb}{h:Hd}{k:Nat}{sc0:Scp}{w:Option D}(hs:ZkA h k sc0):∀ (sc:Scp) (kn:List (Key×D)) (a b:Option D),(∀ p∈sc,p∈sc0)->KnOk sc0 kn->kn.length+sc.length<=500->∃ kn' a' b',KnOk sc0 kn'/\kn'.length<=kn.length+sc.length /\
   Z0 (some (k,sc0.map pairOf)) (.two 3 4) (xs2 U (.cons (.put (.var 2) (.var 3) (.var 4)) .nil)) (sc.map pairOf) [some (.ref k),w,some (.ref h.length),a,b] (h++[.dic kn])
     = .ok (.nx,[some (.ref k),w,some (.ref h.length),a',b']) (h++[.dic kn'])
 | [],kn,a,b,h1,h2,h3=>by
   refine ⟨kn,a,b,h2,by simp,?_⟩
   have:(h++[DO.dic kn])[k]? = some (.lst (sc0.map pairOf)):=by rw [Oe (ZH hs)];exact hs
   simp [Z0,Wk.stays,this]
 | (x,s)::sc,kn,a,b,h1,h2,h3=>by
   simp only [Os] at h3
   have st:(h++[DO.dic kn])[k]? = some (.lst (sc0.map pairOf)):=by rw [Oe (ZH hs)];exact hs
   have hk:KnOk sc0 (putD kn (.inr x) (.str s)):=by
     refine ⟨fun p hp=>?_,fun p hp=>?_⟩
     . rcases Zhe hp with z|rfl
       . exact h2.key p z
       . exact ⟨x,rfl,List.mem_map.mpr ⟨(x,s),h1 _ (by simp),rfl⟩⟩
     . rcases Zhe hp with z|rfl
       . exact h2.val p z
       . exact ⟨s,rfl⟩
   have pl:=Zk6 (kn:=kn) (k:=.inr x) (v:=.str s)
   obtain ⟨kn',a',b',q1,q2,e⟩:=Zjx (U:=U) (w:=w) hs sc (putD kn (.inr x) (.str s)) (some (.str x)) (some (.str s)) (fun p hp=>h1 p (by simp [hp])) hk (by omega)
   refine ⟨kn',a',b',q1,by simp only [Os];omega,?_⟩
   rw [Op,Z0]
   simp only [Wk.stays,st,decide_true,if_true]
   have e2:=Znd (h:=h) (kn:=kn) (x:=x) (v:=.str s) (by omega)
   simp [pairOf,e2]
   simpa [pairOf] using e
theorem find_key{kn:List (Key×D)}{x:Str}(hx:Sum.inr x∈kn.map (·.1)):∃ v,Zab kn (.inr x)=some v/\(Sum.inr x,v)∈kn:=by
 induction kn with
 | nil=>simp at hx
 | cons p r ih =>
   unfold Zab
   by_cases e:p.1=Sum.inr x
   . refine ⟨p.2,?_,?_⟩
     . simp [List.find?_cons,e]
     . rw [<- e];exact Oi
   . obtain ⟨v,h1,h2⟩:=ih (by simpa [Ne.symm e] using hx)
     refine ⟨v,?_,Oh _ h2⟩
     simpa [List.find?_cons,e,Zab] using h1
theorem ZjB{sc:Scp}:∀ {kn:List (Key×D)},(∀ p∈kn,∃ x,p.1=Sum.inr x/\x∈sc.map (·.1))->∃ ss,ZcU kn=some ss/\ss.length=kn.length/\(∀ x∈ss,x∈sc.map (·.1)/\Sum.inr x∈kn.map (·.1))
 | [],_=>⟨[],rfl,rfl,by simp⟩
 | (k,v)::r,h=>by
   obtain ⟨x,e,hx⟩:=h (k,v) (by simp)
   cases e
   obtain ⟨ss,e1,e2,e3⟩:=ZjB (kn:=r) fun p hp=>h p (by simp [hp])
   refine ⟨x::ss,by rw [ZcU,e1];rfl,by simp [e2],fun y hy=>?_⟩
   rcases O2.mp hy with rfl|hy
   . exact ⟨hx,by simp⟩
   . exact ⟨(e3 y hy).1,by simp [(e3 y hy).2]⟩
theorem Zio{U:Tb}{h:Hd}{kn:List (Key×D)}{w:Str}{so:List Str}(hv:∀ p∈kn,∃ s,p.2=D.str s):∀ (xs:List Str) (acc:List Str),(∀ x∈xs,Sum.inr x∈kn.map (·.1))->acc.length+xs.length<=1000->∃ ys,(∀ y∈ys,y∈xs) /\
   Zx (some (h.length+1,so.map D.str)) (.nm 0) (tsto U (some (.ex (.cmp .Eq (.ix (.var 2) (.var 0)) (.var 1))))) (ev U (.var 0)) (xs.map D.str) [none,some (.str w),some (.ref h.length)] (acc.map .str) (h++[.dic kn,.lst (so.map .str)])
     = .ok ((acc++ys).map .str) (h++[.dic kn,.lst (so.map .str)])
 | [],acc,h1,h2=>⟨[],by simp,by simp [Zx,Wk.stays]⟩
 | x::xs,acc,h1,h2=>by
   simp only [Os] at h2
   obtain ⟨v,e1,hm⟩:=find_key (h1 x (by simp))
   obtain ⟨s,rfl⟩:∃ s,v=D.str s:=hv _ hm
   have ix:ZaD U.GD (.ref h.length) (.str x) (h++[.dic kn,.lst (so.map .str)])=.ok (.str s) (h++[.dic kn,.lst (so.map .str)]):=by
     simp [ZaD,dicOf,e1]
   have hz:acc.length<sizeLine:=by rw [sizeLine_eq];omega
   by_cases hw:s=w
   . obtain ⟨ys,q1,q2⟩:=Zio (U:=U) (h:=h) (w:=w) (so:=so) hv xs (acc++[x]) (fun y hy=>h1 y (by simp [hy])) (by simp;omega)
     refine ⟨x::ys,fun y hy=>?_,?_⟩
     . rcases O2.mp hy with rfl|hy
       . simp
       . simp [q1 y hy]
     . rw [Op,ZF]
       simp at q2
       simp [Wk.stays,hz,ix,hw,q2]
   . obtain ⟨ys,q1,q2⟩:=Zio (U:=U) (h:=h) (w:=w) (so:=so) hv xs acc (fun y hy=>h1 y (by simp [hy])) (by omega)
     refine ⟨ys,fun y hy=>by simp [q1 y hy],?_⟩
     rw [Op,ZF]
     simp at q2
     simp [Wk.stays,hz,ix,hw,q2]
theorem Zm4{P:Pg}(H:Mkr P)(n:Nat){h:Hd}{k:Nat}{sc:Scp}(w:Str)(hs:ZkA h k sc)(hl:sc.length<=60)(hok:∀ p∈sc,PyData.strOk p.1=true):∃ (ys:List Str) (g:Hd),(∀ y∈ys,y∈sc.map (·.1))/\g.length=2 /\
   run P (n+1) (O "_law_there") [.ref k,.str w] h=.ok (.ref (h.length+2)) (h++g++[.lst (ys.map .str)]):=by
 rw [Zd H.there rfl]
 obtain ⟨kn,a',b',hk,hkl,e1⟩:=Zjx (U:=⟨P.G,P.GD,run P n,P.L⟩) (w:=some (.str w)) hs sc [] none none (fun _ hp=>hp) ⟨by simp,by simp⟩ (by simp;omega)
 obtain ⟨ss,e2,e3,e4⟩:=ZjB hk.key
 have all:ss.all PyData.strOk=true:=by
   rw [OC]
   intro x hx
   obtain ⟨p,hp,rfl⟩:=List.mem_map.mp (e4 x hx).1
   exact hok p hp
 have perm:=ZcS ss
 obtain ⟨ys,q1,q2⟩:=Zio (U:=⟨P.G,P.GD,run P n,P.L⟩) (h:=h) (kn:=kn) (w:=w) (so:=ZbW ss) hk.val (ZbW ss) [] (fun x hx=>(e4 x (perm.mem_iff.mp hx)).2) (by rw [perm.length_eq];simp at hkl ⊢;omega)
 refine ⟨ys,[.dic kn,.lst ((ZbW ss).map .str)],fun y hy=>(e4 y (perm.mem_iff.mp (q1 y hy))).1,rfl,?_⟩
 have hsrt:Z5 P.GD .srt [.ref h.length] (h++[.dic kn])=.ok (.ref (h.length+1)) (h++[.dic kn,.lst ((ZbW ss).map .str)]):=by
   show ZdX P.GD [.ref h.length] (h++[.dic kn])=_
   simp only [ZdX,dicOf,Zc1,Option.bind_some,e2]
   rw [if_pos ⟨by simp at hkl;omega,all⟩]
   simp
 have hw1:ZY (.ref k) (h++[DO.dic []])=some ⟨some (k,sc.map pairOf),sc.map pairOf⟩:=by
   have:(h++[DO.dic []])[k]? = some (.lst (sc.map pairOf)):=by rw [Oe (ZH hs)];exact hs
   simp [ZY,this]
 have hw2:ZY (.ref (h.length+1)) (h++[DO.dic kn,.lst ((ZbW ss).map .str)])=some ⟨some (h.length+1,(ZbW ss).map .str),(ZbW ss).map .str⟩:=by
   simp [ZY]
 simp at q2 e1
 simp [Zax,Zez,Zk,Zcw,ZbR,hw1,e1,hsrt,hw2,ZaM,q2]
end Gn
end
section
namespace Gn
open PySem L2 IV
structure Ctx(cs:List Int)(ns:List Str)(h:Hd)(i j m k:Nat)(sc:Scp)(a b:Int):Prop where
 st:St3 h i j cs a b
 nm:h[m]? = some (.lst (ns.map .str))
 n5:ns.length=5
 nok:∀ x∈ns,Wl 20 x
 nd:ns.Nodup
 sca:ZkA h k sc
 sco:∀ p∈sc,Wl 20 p.1
 im:i≠m
 ik:i≠k
 ab:0<=a
variable {P:Pg}{cs:List Int}{ns:List Str}{h h':Hd}{i j m k:Nat}{sc:Scp}{a b a' b':Int}
theorem Ctx.up(c:Ctx cs ns h i j m k sc a b)(u:Up i h h')(st:St3 h' i j cs a' b')(ab:0<=a'):Ctx cs ns h' i j m k sc a' b' :=
 ⟨st,u.at c.nm (Ne.symm c.im),c.n5,c.nok,c.nd,u.at c.sca (Ne.symm c.ik),c.sco,c.im,c.ik,ab⟩
theorem St3.app{g:Hd}(s:St3 h i j cs a b):St3 (h++g) i j cs a b :=
 ⟨by rw [Oe (ZH s.1)];exact s.1,by rw [Oe (ZH s.2.1)];exact s.2.1,s.2.2⟩
theorem Ctx.app{g:Hd}(c:Ctx cs ns h i j m k sc a b):Ctx cs ns (h++g) i j m k sc a b:=c.up Up.app c.st.app c.ab
theorem Ctx.name(c:Ctx cs ns h i j m k sc a b){GD:Str->Option (List (Key×D))}(v:Int)(h0:0<=v)(h5:v<5):∃ x,ZaD GD (.ref m) (.int v) h=.ok (.str x) h/\Wl 20 x/\ns[v.toNat]? = some x:=by
 obtain ⟨q,rfl⟩:∃ q:Nat,v=q:=⟨v.toNat,by omega⟩
 have hq:q<ns.length:=by have:=c.n5;omega
 refine ⟨ns[q],?_,c.nok _ (List.getElem_mem hq),Og hq⟩
 rw [Zu c.nm,IV.ZbN,On,Og hq]
 rfl
noncomputable def A(r:Nat):Int:=4 ^ (r+1)
theorem ZhV(r:Nat):0<A r:=Int.pow_pos (by decide)
theorem Zqs(r:Nat):A (r+1)=4 * A r:=by unfold A;rw [Int.pow_succ];omega
inductive Made(cs:List Int)(h:Hd)(i j:Nat)(sc:Scp)(a mx:Int)(dm:Nat)(r:R D):Prop
 | mk (t:T) (h':Hd) (a' b':Int) (e:r=.ok (T.d t) h') (u:Up i h h') (s:St3 h' i j cs a' b') (l1:a<=a') (l2:a'<=a+mx) (c:Cl (sc.map (·.1)) t) (p:dep t<=dm)
noncomputable def ZjP(P:Pg)(r n0:Nat):Prop:=∀ (n:Nat) (cs:List Int) (ns:List Str) (h:Hd) (i j m k:Nat) (sc:Scp) (a b:Int) (w:Str) (room:Int),room<=r->Ctx cs ns h i j m k sc a b->sc.length+2 * r<=50->a+A r<2 ^ 50 ->
 Made cs h i j sc a (A r) (3 * r+3) (run P (n+n0) (O "_law_any") [.str w,.ref k,.ref i,.ref m,.int room] h)
theorem ZmD(H:Mkr P)(n:Nat)(c:Ctx cs ns h i j m k sc a b)(w:Str)(room:Int)(hl:sc.length<=50)(ha:a<2 ^ 50)(T1 T2 T3:Option D):∃ (v:Int) (w':Str) (ys:List Str) (h':Hd) (l:Nat),
   xs2 ⟨P.G,P.GD,run P (n+2),P.L⟩ (.cons Zba (.cons Za9 (.cons ZP (.cons Za8 (.cons Za7 .nil))))) [some (.str w),some (.ref k),some (.ref i),some (.ref m),some (.int room),T1,T2,T3,none,none] h
     = .ok (.nx,[some (.str w'),some (.ref k),some (.ref i),some (.ref m),some (.int room),some (.int v),some (.int (v / 87)),some (.ref l),none,none]) h'/\Up i h h'/\Ctx cs ns h' i j m k sc (a+1) (b - 1)/\h'[l]? = some (.lst (ys.map .str))/\(∀ y∈ys,y∈sc.map (·.1)):=by
 have i1:=c.st.1
 have lt:=ZH i1
 have p1:Zcj (.ref i) (.int 2) (.int (b - 1)) h=.ok () (h.set i (.lst [.ref j,.int a,.int (b - 1)])):=by
   simp only [Zcj,i1]
   rfl
 have s1:St3 (h.set i (.lst [.ref j,.int a,.int (b - 1)])) i j cs a (b - 1):=⟨by rw [Ol lt],by rw [Oc c.st.2.2];exact c.st.2.1,c.st.2.2⟩
 have c1:=c.up Up.set s1 c.ab
 obtain ⟨v,e2,_⟩:=Zh5 H n s1 ⟨c.ab,ha⟩
 have lt1:i<(h.set i (.lst [.ref j,.int a,.int (b - 1)])).length:=by simpa using lt
 have s2:St3 ((h.set i (.lst [.ref j,.int a,.int (b - 1)])).set i (.lst [.ref j,.int (a+1),.int (b - 1)])) i j cs (a+1) (b - 1):=⟨by rw [Ol lt1],by rw [Oc c.st.2.2];exact s1.2.1,c.st.2.2⟩
 have c2:=c1.up Up.set s2 (by have:=c.ab;omega)
 generalize hh2:(h.set i (.lst [.ref j,.int a,.int (b - 1)])).set i (.lst [.ref j,.int (a+1),.int (b - 1)])=h2 at e2 s2 c2
 have u2:Up i h h2:=hh2 ▸ Up.set.trans Up.set
 have m29:∀ h,opB .Mod (.int v) (.int 29) h=.ok (.int (v % 29)) h:=fun h=>ZR (by decide)
 have d29:∀ h,opB .FloorDiv (.int v) (.int 29) h=.ok (.int (v / 29)) h:=fun h=>Zcb (by decide)
 have m3:∀ h,opB .Mod (.int (v / 29)) (.int 3) h=.ok (.int (v / 29 % 3)) h:=fun h=>ZR (by decide)
 have d87:∀ h,opB .FloorDiv (.int v) (.int 87) h=.ok (.int (v / 87)) h:=fun h=>Zcb (by decide)
 have hix:ZaD P.GD (.ref i) (.int 2) h=.ok (.int b) h:=by rw [Zu i1];simp
 have step3:∃ (w':Str) (h3:Hd),xs1 ⟨P.G,P.GD,run P (n+2),P.L⟩ ZP [some (.str w),some (.ref k),some (.ref i),some (.ref m),some (.int room),some (.int v),T2,T3,none,none] h2
     = .ok (.nx,[some (.str w'),some (.ref k),some (.ref i),some (.ref m),some (.int room),some (.int v),T2,T3,none,none]) h3/\Up i h2 h3/\Ctx cs ns h3 i j m k sc (a+1) (b - 1):=by
   by_cases hv:v % 29=0
   . have q:v / 29 % 3=0\/v / 29 % 3=1\/v / 29 % 3=2:=by omega
     have ix:∀ z:Int,ZaD P.GD (.ref h2.length) (.int z) (h2++[.lst [.str (O "n"),.str (O "f"),.str (O "g")]])=R.ofO (atI [.str (O "n"),.str (O "f"),.str (O "g")] z) _:=fun z=>Zu Zc1
     rcases q with q|q|q
     . exact ⟨O "n",h2++[.lst [.str (O "n"),.str (O "f"),.str (O "g")]],by simp [ZP,m29,hv,d29,m3,sizeLine_eq,ix,q],Up.app,c2.app⟩
     . exact ⟨O "f",h2++[.lst [.str (O "n"),.str (O "f"),.str (O "g")]],by simp [ZP,m29,hv,d29,m3,sizeLine_eq,ix,q],Up.app,c2.app⟩
     . exact ⟨O "g",h2++[.lst [.str (O "n"),.str (O "f"),.str (O "g")]],by simp [ZP,m29,hv,d29,m3,sizeLine_eq,ix,q],Up.app,c2.app⟩
   . exact ⟨w,h2,by simp [ZP,m29,hv],Up.refl,c2⟩
 obtain ⟨w',h3,e3,u3,c3⟩:=step3
 obtain ⟨ys,g,hy,hg,e5⟩:=Zm4 H (n+1) w' c3.sca (by omega) (fun p hp=>(c3.sco p hp).1)
 refine ⟨v,w',ys,h3++g++[.lst (ys.map .str)],h3.length+2,?_,(u2.trans u3).trans (Up.app.trans Up.app),c3.app.app,?_,hy⟩
 . have x1:xs1 ⟨P.G,P.GD,run P (n+2),P.L⟩ Zba [some (.str w),some (.ref k),some (.ref i),some (.ref m),some (.int room),T1,T2,T3,none,none] h=.ok (.nx,[some (.str w),some (.ref k),some (.ref i),some (.ref m),some (.int room),T1,T2,T3,none,none]) (h.set i (.lst [.ref j,.int a,.int (b - 1)])):=by
     simp [Zba,hix,p1]
   have x2:xs1 ⟨P.G,P.GD,run P (n+2),P.L⟩ Za9 [some (.str w),some (.ref k),some (.ref i),some (.ref m),some (.int room),T1,T2,T3,none,none] (h.set i (.lst [.ref j,.int a,.int (b - 1)]))=.ok (.nx,[some (.str w),some (.ref k),some (.ref i),some (.ref m),some (.int room),some (.int v),T2,T3,none,none]) h2:=by
     simp [Za9,e2]
   have x4:∀ q,xs1 ⟨P.G,P.GD,run P (n+2),P.L⟩ Za8 [some (.str w'),some (.ref k),some (.ref i),some (.ref m),some (.int room),some (.int v),q,T3,none,none] h3=.ok (.nx,[some (.str w'),some (.ref k),some (.ref i),some (.ref m),some (.int room),some (.int v),some (.int (v / 87)),T3,none,none]) h3:=by
     intro q;simp [Za8,d87]
   have x5:xs1 ⟨P.G,P.GD,run P (n+2),P.L⟩ Za7 [some (.str w'),some (.ref k),some (.ref i),some (.ref m),some (.int room),some (.int v),some (.int (v / 87)),T3,none,none] h3=.ok (.nx,[some (.str w'),some (.ref k),some (.ref i),some (.ref m),some (.int room),some (.int v),some (.int (v / 87)),some (.ref (h3.length+2)),none,none]) (h3++g++[.lst (ys.map .str)]):=by
     simp only [Za7,ZcQ,ZeP,Zb6,ZdT,Zed,O0,OJ,Option.join_some,ofO_some,Ze,bind_ok,e5]
     rfl
   simp only [ZK,x1,Ze,bind_ok,x2,e3,x4,x5,ZmJ]
 . have:h3.length+2=(h3++g).length:=by simp [hg]
   rw [this]
   simp
end Gn
end
section
set_option tactic.hygienic false
namespace Gn
open PySem L2 IV
variable {P:Pg}{cs:List Int}{ns:List Str}{h h':Hd}{i j m k:Nat}{sc:Scp}{a b a' b':Int}
theorem Cl.mono{sc sc':List Str}:∀ {t:T},(∀ x∈sc,x∈sc')->Cl sc t->Cl sc' t
 | .num n,_,c=>c
 | .name x,s,c=>s x c
 | .fn x e,s,c=>Cl.mono (t:=e) (fun y hy=>by
     rcases O2.mp hy with z|z
     . rw [z];exact Oi
     . exact Oh _ (s y z)) c
 | .rcc f x e,s,c=>⟨Cl.mono (t:=e) (fun y hy=>by
     rcases O2.mp hy with z|z
     . rw [z];exact Oi
     . rcases O2.mp z with q|q
       . rw [q];exact Oh _ Oi
       . exact Oh _ (Oh _ (s y q))) c.1,c.2⟩
 | .call f e,s,c=>⟨Cl.mono s c.1,Cl.mono s c.2⟩
 | .iff p q r,s,c=>⟨Cl.mono s c.1,Cl.mono s c.2.1,Cl.mono s c.2.2⟩
 | .op w p q,s,c=>⟨Cl.mono s c.1,Cl.mono s c.2⟩
noncomputable def ZmM(z:Int):Wd:=if z=0 then .add else if z=1 then .sub else if z=2 then .mul else .lt
theorem wd4 (z:Int) (h0:0<=z) (h4:z<4):atI [D.str (O "+"),.str (O "-"),.str (O "*"),.str (O "<")] z=some (.str (ZmM z).s):=by
 have:z=0\/z=1\/z=2\/z=3:=by omega
 rcases this with rfl|rfl|rfl|rfl<;>simp [ZmM,Wd.s]
noncomputable def me(rest:Int)(k i m:Nat)(room:Int)(a b c d:Option D):Ev:=[some (.int rest),some (.ref k),some (.ref i),some (.ref m),some (.int room),a,b,c,d]
theorem ZpP(H:Mkr P){r n0:Nat}(ih:ZjP P r n0)(hn:1<=n0)(n:Nat)(c:Ctx cs ns h i j m k sc a b)(rest:Int)(room:Int)(hr:room<=r)(hl:sc.length+2 * r<=50)(ha:a+2 * A r<2 ^ 50) :
   Made cs h i j sc a (2 * A r) (3 * r+4) (run P (n+n0+1) (O "_law_number") [.int rest,.ref k,.ref i,.ref m,.int room] h):=by
 have Ap:=ZhV r
 rw [ZeG H.number rfl]
 show Made cs h i j sc a (2 * A r) (3 * r+4) (Zn (xs2 (P.tbl (n+n0)) Zch (me rest k i m room none none none none) h))
 have x1:∀ h,xs1 (P.tbl (n+n0)) ZcM (me rest k i m room none none none none) h=.ok (.nx,me rest k i m room (some (.int (rest % 6))) none none none) h:=fun h=>rfl
 rw [Zch,Za (x1 h)]
 obtain ⟨n1,e1⟩:∃ n1,n+n0=n1+1:=⟨n+n0 - 1,by omega⟩
 by_cases h0:rest % 6=0
 . obtain ⟨t,g,e2,ct,pt⟩:=ZeH H n1 (O "n") (rest / 6) h (sc.map (·.1))
   refine ⟨t,h++g,a,b,?_,Up.app,c.st.app,by omega,by omega,ct,by omega⟩
   rw [<- e1] at e2
   have x2:xs1 (P.tbl (n+n0)) Zbz (me rest k i m room (some (.int (rest % 6))) none none none) h=.ok (.rt t.d,me rest k i m room (some (.int (rest % 6))) none none none) (h++g):=(ZaT (Zbo (Zfx rfl rfl) (decide_eq_true h0))).trans (Zf (ZA e2 rfl rfl))
   rw [Zf x2]
   rfl
 . have x2:xs1 (P.tbl (n+n0)) Zbz (me rest k i m room (some (.int (rest % 6))) none none none) h=.ok (.nx,me rest k i m room (some (.int (rest % 6))) none none none) h:=(ZaH (Zbo (Zfx rfl rfl) (decide_eq_false h0))).trans rfl
   rw [Za x2]
   have lt:tst (P.tbl (n+n0)) (.ex (.cmp .Lt (.var 5) (.cst (.int 3)))) (me rest k i m room (some (.int (rest % 6))) none none none) h=.ok (decide (rest % 6<3)) h:=rfl
   by_cases h3:rest % 6<3
   . obtain ⟨t1,g1,a1,b1,e2,u1,s1,l1,l2,c1,p1⟩:=ih n cs ns h i j m k sc a b (O "n") room hr c hl (by omega)
     have cc:=c.up u1 s1 (by have:=c.ab;omega)
     obtain ⟨t2,g2,a2,b2,e3,u2,s2,l3,l4,c2,p2⟩:=ih n cs ns (g1++[.lst [.str (O "+"),.str (O "-"),.str (O "*"),.str (O "<")]]) i j m k sc a1 b1 (O "n") room hr cc.app hl (by omega)
     refine ⟨.op (ZmM (rest / 6 % 4)) t1 t2,g2,a2,b2,?_,u1.trans (Up.app.trans u2),s2,by omega,by omega,⟨c1,c2⟩,by simp only [dep];omega⟩
     have w4:=wd4 (rest / 6 % 4) (by omega) (by omega)
     have x3:xs1 (P.tbl (n+n0)) Zby (me rest k i m room (some (.int (rest % 6))) none none none) h=.ok (.rt (T.op (ZmM (rest / 6 % 4)) t1 t2).d,me rest k i m room (some (.int (rest % 6))) (some t1.d) none none) g2:=by
       refine (ZaT (Zbo lt (decide_eq_true h3))).trans ?_
       refine (Za (ρ1:=me rest k i m room (some (.int (rest % 6))) (some t1.d) none none) (h1:=g1) (ZA e2 rfl rfl)).trans ?_
       exact Zf (Zbe (ZhB (ZI (Zmw w4 rfl rfl (by simp)) (ZI rfl (ZI (Zb8 e3 rfl) rfl))) (by simp)))
     rw [Zf x3]
     rfl
   . have w3:∃ ws,(ws=O "f" \/ ws=O "g")/\atI [D.str (O "f"),.str (O "f"),.str (O "g")] (rest % 6 - 3)=some (.str ws):=by
       have:rest % 6 - 3=0\/rest % 6 - 3=1\/rest % 6 - 3=2:=by omega
       rcases this with q|q|q<;>rw [q]<;>simp
     obtain ⟨ws,hws,w3⟩:=w3
     obtain ⟨t1,g1,a1,b1,e2,u1,s1,l1,l2,c1,p1⟩:=ih n cs ns (h++[.lst [.str (O "f"),.str (O "f"),.str (O "g")]]) i j m k sc a b ws room hr c.app hl (by omega)
     have cc:=c.app.up u1 s1 (by have:=c.ab;omega)
     have dd:∃ ws',ZaD P.GD (.ref g1.length) (.str ws) (g1++[.dic [(.inr (O "f"),.str (O "n")),(.inr (O "g"),.str (O "f"))]])=.ok (.str ws') (g1++[.dic [(.inr (O "f"),.str (O "n")),(.inr (O "g"),.str (O "f"))]]):=by
       rcases hws with rfl|rfl
       . exact ⟨O "n",by simp [ZaD,dicOf,Zab]⟩
       . exact ⟨O "f",by simp [ZaD,dicOf,Zab]⟩
     obtain ⟨ws',dd⟩:=dd
     obtain ⟨t2,g2,a2,b2,e3,u2,s2,l3,l4,c2,p2⟩:=ih n cs ns (g1++[.dic [(.inr (O "f"),.str (O "n")),(.inr (O "g"),.str (O "f"))]]) i j m k sc a1 b1 ws' room hr cc.app hl (by omega)
     refine ⟨.call t1 t2,g2,a2,b2,?_,Up.app.trans (u1.trans (Up.app.trans u2)),s2,by omega,by omega,⟨c1,c2⟩,by simp only [dep];omega⟩
     have x3:xs1 (P.tbl (n+n0)) Zby (me rest k i m room (some (.int (rest % 6))) none none none) h=.ok (.nx,me rest k i m room (some (.int (rest % 6))) none none none) h:=(ZaH (Zbo lt (decide_eq_false h3))).trans rfl
     have x4:xs1 (P.tbl (n+n0)) ZcL (me rest k i m room (some (.int (rest % 6))) none none none) h=.ok (.nx,me rest k i m room (some (.int (rest % 6))) none (some (.str ws)) none) (h++[.lst [.str (O "f"),.str (O "f"),.str (O "g")]]):=Zc4 (i:=7) (Zmw w3 rfl rfl (by simp))
     have x5:xs1 (P.tbl (n+n0)) ZcK (me rest k i m room (some (.int (rest % 6))) none (some (.str ws)) none) (h++[.lst [.str (O "f"),.str (O "f"),.str (O "g")]])=.ok (.nx,me rest k i m room (some (.int (rest % 6))) none (some (.str ws)) (some t1.d)) g1:=ZA e2 rfl rfl
     have p6:ev (P.tbl (n+n0)) (.ix (.dictl (.cons (.cst (.str (O "f"))) (.cons (.cst (.str (O "n"))) (.cons (.cst (.str (O "g"))) (.cons (.cst (.str (O "f"))) .nil))))) (.var 7)) (me rest k i m room (some (.int (rest % 6))) none (some (.str ws)) (some t1.d)) g1=.ok (.str ws') (g1++[.dic [(.inr (O "f"),.str (O "n")),(.inr (O "g"),.str (O "f"))]]):=dd
     have x6:xs1 (P.tbl (n+n0)) ZcJ (me rest k i m room (some (.int (rest % 6))) none (some (.str ws)) (some t1.d)) g1=.ok (.rt (T.call t1 t2).d,me rest k i m room (some (.int (rest % 6))) none (some (.str ws)) (some t1.d)) g2:=Zbe (ZhB (ZI rfl (ZI rfl (ZI ((Zqe (ZI p6 rfl)).trans e3) rfl))) (by simp))
     rw [Za x3,Za x4,Za x5,Zf x6]
     rfl
end Gn
end
section
set_option tactic.hygienic false
namespace Gn
open PySem L2 IV
variable {P:Pg}{cs:List Int}{ns:List Str}{h h':Hd}{i j m k:Nat}{sc:Scp}{a b a' b':Int}
theorem Ctx.wider(c:Ctx cs ns h i j m k sc a b)(more:Scp)(hm:∀ p∈more,Wl 20 p.1):Ctx cs ns (h++[.lst (more.map pairOf),.lst ((sc++more).map pairOf)]) i j m (h.length+1) (sc++more) a b:=by
 have c1:=c.app (g:=[.lst (more.map pairOf),.lst ((sc++more).map pairOf)])
 refine ⟨c1.st,c1.nm,c1.n5,c1.nok,c1.nd,by unfold ZkA;simp,fun p hp=>?_,c1.im,?_,c1.ab⟩
 . rcases OD.mp hp with z|z
   . exact c.sco p z
   . exact hm p z
 . have:=ZH c.st.1
   omega
theorem ZgK(c:Ctx cs ns h i j m k sc a b)(more:Scp)(hz:sc.length+more.length<=100):opB .Add (.ref k) (.ref h.length) (h++[.lst (more.map pairOf)])=.ok (.ref (h.length+1)) (h++[.lst (more.map pairOf),.lst ((sc++more).map pairOf)]):=by
 have hk:(h++[DO.lst (more.map pairOf)])[k]? = some (.lst (sc.map pairOf)):=by rw [Oe (ZH c.sca)];exact c.sca
 simp only [opB,ZmF,hk,Zc1]
 rw [if_pos (by simp;rw [sizeLine_eq];omega)]
 simp
theorem ZqZ{sc:Scp}{x s:Str}:∀ y∈(sc++[(x,s)]).map (·.1),y∈x::sc.map (·.1):=fun y hy=>by
 rw [List.map_append] at hy
 rcases OD.mp hy with z|z
 . exact Oh _ z
 . have:y=x:=by simpa using z
   rw [this];exact Oi
theorem unlike{ns:List Str}(n5:ns.length=5)(nd:ns.Nodup){x f:Str}{rest:Int}(ax:ns[(rest % 5).toNat]? = some x)(af:ns[((rest % 5+1+rest / 15 % 4) % 5).toNat]? = some f):f≠x:=fun e=>by
 have q:=(List.getElem?_inj (i:=(rest % 5).toNat) (j:=((rest % 5+1+rest / 15 % 4) % 5).toNat) (by rw [n5];omega) nd).mp (by rw [ax,af,e])
 omega
noncomputable def fe(w:Str)(rest:Int)(k i m:Nat)(room:Int)(a b c d:Option D):Ev:=[some (.str w),some (.int rest),some (.ref k),some (.ref i),some (.ref m),some (.int room),a,b,c,d]
theorem ZrQ {N:Nat}{s:Str}{w:Str}{rest:Int}{room:Int}{x:Str}{t1:T}{g1 h1:Hd} (hc:opB .Add (.ref k) (.ref h.length) (h++[.lst ([(x,s)].map pairOf)])=.ok (.ref (h.length+1)) h1) (e1:run P N (O "_law_any") [.str (O "n"),.ref (h.length+1),.ref i,.ref m,.int room] h1=.ok t1.d g1):ev (P.tbl N) (.tupl (.cons (.cst (.str (O "fn"))) (.cons (.var 6) (.cons (.call (O "_law_any") (.cons (.cst (.str (O "n"))) (.cons (.bin .Add (.var 2) (.lstl (.cons (.tupl (.cons (.var 6) (.cons (.cst (.str s)) .nil))) .nil))) (.cons (.var 3) (.cons (.var 4) (.cons (.var 5) .nil)))))) .nil)))) (fe w rest k i m room (some (.str x)) none none none) h=.ok (T.fn x t1).d g1:=by
 have b:ev (P.tbl N) (.bin .Add (.var 2) (.lstl (.cons (.tupl (.cons (.var 6) (.cons (.cst (.str s)) .nil))) .nil))) (fe w rest k i m room (some (.str x)) none none none) h=.ok (.ref (h.length+1)) h1:=(Zcd (x:=.ref k) (y:=.ref h.length) (h1:=h) (h2:=h++[.lst ([(x,s)].map pairOf)]) rfl rfl).trans hc
 exact ZhB (ZI rfl (ZI rfl (ZI ((Zqe (ZI rfl (ZI b rfl))).trans e1) rfl))) (by simp)
theorem Zqc(H:Mkr P){r n0:Nat}(ih:ZjP P r n0)(n:Nat)(c:Ctx cs ns h i j m k sc a b)(w:Str)(rest:Int)(room:Int)(hr:room<=r)(hl:sc.length+2+2 * r<=50)(ha:a+2 * A r<2 ^ 50) :
   Made cs h i j sc a (2 * A r) (3 * r+6) (run P (n+n0+1) (O "_law_function") [.str w,.int rest,.ref k,.ref i,.ref m,.int room] h):=by
 have Ap:=ZhV r
 have hab:=c.ab
 rw [ZeG H.function rfl]
 obtain ⟨x,ex,wx,ax⟩:=c.name (GD:=P.GD) (rest % 5) (by clear ih ha hab hl hr;omega) (by clear ih ha hab hl hr;omega)
 show Made cs h i j sc a (2 * A r) (3 * r+6) (Zn (xs2 (P.tbl (n+n0)) (.cons ZaY (.cons Z9 (.cons Z8 (.cons ZaX (.cons ZaW (.cons ZaV (.cons Z7 (.cons Z6 .nil)))))))) (fe w rest k i m room none none none none) h))
 have x1:xs1 (P.tbl (n+n0)) ZaY (fe w rest k i m room none none none none) h=.ok (.nx,fe w rest k i m room (some (.str x)) none none none) h:=by
   exact Zc4 (i:=6) ex
 rw [Za x1]
 by_cases hg:w=O "g"
 . have hc:=ZgK c [(x,O "f")] (by simp;omega)
   obtain ⟨t1,g1,a1,b1,e1,u1,s1,l1,l2,c1,p1⟩:=ih n cs ns _ i j m (h.length+1) (sc++[(x,O "f")]) a b (O "n") room hr (c.wider [(x,O "f")] (by simp [wx])) (by simp;omega) (by omega)
   refine ⟨.fn x t1,g1,a1,b1,?_,Up.app.trans u1,s1,l1,by omega,Cl.mono (t:=t1) ZqZ c1,by simp only [dep];omega⟩
   have e:xs1 (P.tbl (n+n0)) Z9 (fe w rest k i m room (some (.str x)) none none none) h=.ok (.rt (T.fn x t1).d,fe w rest k i m room (some (.str x)) none none none) g1:=by
     subst hg
     exact (ZaT rfl).trans (Zf (Zbe (ZrQ hc e1)))
   rw [Zf e]
   rfl
 have x2:xs1 (P.tbl (n+n0)) Z9 (fe w rest k i m room (some (.str x)) none none none) h=.ok (.nx,fe w rest k i m room (some (.str x)) none none none) h:=by
   exact (ZaH (Zbo (Zqf rfl rfl) (decide_eq_false hg))).trans rfl
 rw [Za x2]
 by_cases h3:rest / 5 % 3=0
 . have hc:=ZgK c [(x,O "n")] (by simp;omega)
   obtain ⟨t1,g1,a1,b1,e1,u1,s1,l1,l2,c1,p1⟩:=ih n cs ns _ i j m (h.length+1) (sc++[(x,O "n")]) a b (O "n") room hr (c.wider [(x,O "n")] (by simp [wx])) (by simp;omega) (by omega)
   refine ⟨.fn x t1,g1,a1,b1,?_,Up.app.trans u1,s1,l1,by omega,Cl.mono (t:=t1) ZqZ c1,by simp only [dep];omega⟩
   have e:xs1 (P.tbl (n+n0)) Z8 (fe w rest k i m room (some (.str x)) none none none) h=.ok (.rt (T.fn x t1).d,fe w rest k i m room (some (.str x)) none none none) g1:=(ZaT (Zbo (Zfx (x:=rest / 5 % 3) rfl rfl) (decide_eq_true h3))).trans (Zf (Zbe (ZrQ hc e1)))
   rw [Zf e]
   rfl
 have x3:xs1 (P.tbl (n+n0)) Z8 (fe w rest k i m room (some (.str x)) none none none) h=.ok (.nx,fe w rest k i m room (some (.str x)) none none none) h:=by
   exact (ZaH (Zbo (Zfx (x:=rest / 5 % 3) rfl rfl) (decide_eq_false h3))).trans rfl
 obtain ⟨f,ef,wf,af⟩:=c.name (GD:=P.GD) ((rest % 5+1+rest / 15 % 4) % 5) (by clear ih ha hab hl hr;omega) (by clear ih ha hab hl hr;omega)
 have nfx:f≠x:=unlike c.n5 c.nd ax af
 have x4:xs1 (P.tbl (n+n0)) ZaX (fe w rest k i m room (some (.str x)) none none none) h=.ok (.nx,fe w rest k i m room (some (.str x)) (some (.str f)) none none) h:=by
   exact Zc4 (i:=7) ef
 have hc:=ZgK c [(f,O "f"),(x,O "n")] (by simp;omega)
 have cw:=c.wider [(f,O "f"),(x,O "n")] (by simp [wx,wf])
 have sub:∀ y∈(sc++[(f,O "f"),(x,O "n")]).map (·.1),y∈x::f::sc.map (·.1):=fun y hy=>by simp at hy ⊢;rcases hy with z|z|z<;>simp [z]
 generalize hh1:(h++[DO.lst ([(f,O "f"),(x,O "n")].map pairOf),.lst ((sc++[(f,O "f"),(x,O "n")]).map pairOf)])=h1 at hc cw
 have ug:Up i h h1:=by rw [<- hh1];exact Up.app
 have hl1:h1.length=h.length+2:=by rw [<- hh1];simp
 have x5:xs1 (P.tbl (n+n0)) ZaW (fe w rest k i m room (some (.str x)) (some (.str f)) none none) h=.ok (.nx,fe w rest k i m room (some (.str x)) (some (.str f)) (some (.ref (h.length+1))) none) h1:=by
   exact Zc4 (i:=8) ((Zcd (x:=.ref k) (y:=.ref h.length) (h1:=h) (h2:=h++[.lst ([(f,O "f"),(x,O "n")].map pairOf)]) rfl rfl).trans hc)
 have x6:xs1 (P.tbl (n+n0)) ZaV (fe w rest k i m room (some (.str x)) (some (.str f)) (some (.ref (h.length+1))) none) h1=.ok (.nx,fe w rest k i m room (some (.str x)) (some (.str f)) (some (.ref (h.length+1))) (some (T.call (.name f) (.op .sub (.name x) (.num 1))).d)) h1:=by
   exact rfl
 rw [Za x3,Za x4,Za x5,Za x6]
 generalize hsc:sc++[(f,O "f"),(x,O "n")]=sc1 at cw sub hh1
 have hsl:sc1.length=sc.length+2:=by rw [<- hsc];simp
 clear x1 x2 x3 x4 x5 x6 hc hh1 hsc ex ef
 have last:∀ (t1:T) (g1:Hd) (a1 b1:Int),Up i h1 g1->St3 g1 i j cs a1 b1->a<=a1->a1<=a+A r->Cl (x::f::sc.map (·.1)) t1->dep t1<=3 * r+4 ->
     xs1 (P.tbl (n+n0)) Z7 (fe w rest k i m room (some (.str x)) (some (.str f)) (some (.ref (h.length+1))) (some (T.call (.name f) (.op .sub (.name x) (.num 1))).d)) h1=.ok (.nx,fe w rest k i m room (some (.str x)) (some (.str f)) (some (.ref (h.length+1))) (some t1.d)) g1 ->
     Made cs h i j sc a (2 * A r) (3 * r+6) (Zn (xs2 (P.tbl (n+n0)) (.cons Z7 (.cons Z6 .nil)) (fe w rest k i m room (some (.str x)) (some (.str f)) (some (.ref (h.length+1))) (some (T.call (.name f) (.op .sub (.name x) (.num 1))).d)) h1)):=by
   intro t1 g1 a1 b1 u1 s1 l1 l2 c1 p1 x7
   rw [Za x7]
   obtain ⟨t2,g2,a2,b2,e2,u2,s2,l3,l4,c2,p2⟩:=ih n cs ns g1 i j m (h.length+1) sc1 a1 b1 (O "n") (room - 1) (by clear ha;omega) (cw.up u1 s1 (by clear hl ha hr;omega)) (by clear ha hr;omega) (by clear hl hr;omega)
   refine ⟨.rcc f x (.iff (.name x) t1 t2),g2,a2,b2,?_,ug.trans (u1.trans u2),s2,Int.le_trans l1 l3,by clear hl hr ha;omega,⟨⟨Oi,c1,Cl.mono sub c2⟩,nfx⟩,by simp only [dep];clear hl hr ha;omega⟩
   have e:xs1 (P.tbl (n+n0)) Z6 (fe w rest k i m room (some (.str x)) (some (.str f)) (some (.ref (h.length+1))) (some t1.d)) g1=.ok (.rt (T.rcc f x (.iff (.name x) t1 t2)).d,fe w rest k i m room (some (.str x)) (some (.str f)) (some (.ref (h.length+1))) (some t1.d)) g2:=by
     exact Zbe (ZhB (ZI rfl (ZI rfl (ZI rfl (ZI (ZhB (ZI rfl (ZI rfl (ZI rfl (ZI (Zb8 e2 rfl) rfl)))) (by simp)) rfl)))) (by simp))
   rw [Zf e]
   rfl
 by_cases q0:rest / 60 % 3=0
 . obtain ⟨t1,g1,a1,b1,e1,u1,s1,l1,l2,c1,p1⟩:=ih n cs ns h1 i j m (h.length+1) sc1 a b (O "n") room hr cw (by clear ha hr;omega) (by clear hl hr;omega)
   refine last t1 g1 a1 b1 u1 s1 l1 l2 (Cl.mono sub c1) (by omega) ?_
   exact (ZaT (Zbo (Zfx (x:=rest / 60 % 3) rfl rfl) (decide_eq_true q0))).trans (Za (ZA e1 rfl rfl))
 . by_cases q1:rest / 60 % 3=1
   . have w2:∃ wd:Wd,atI [D.str (O "+"),.str (O "*")] (rest / 180 % 2)=some (.str wd.s):=by
       have:rest / 180 % 2=0\/rest / 180 % 2=1:=by clear ih ha hl hr q0 q1;omega
       rcases this with z|z<;>rw [z]
       . exact ⟨.add,by simp [Wd.s]⟩
       . exact ⟨.mul,by simp [Wd.s]⟩
     obtain ⟨wd,w2⟩:=w2
     obtain ⟨t1,g1,a1,b1,e1,u1,s1,l1,l2,c1,p1⟩:=ih n cs ns _ i j m (h.length+1) sc1 a b (O "n") (room - 1) (by clear ha;omega) (cw.app (g:=[.lst [.str (O "+"),.str (O "*")]])) (by clear ha hr;omega) (by clear hl hr;omega)
     refine last (.op wd t1 (.call (.name f) (.op .sub (.name x) (.num 1)))) g1 a1 b1 (Up.app.trans u1) s1 l1 l2 ⟨Cl.mono sub c1,Oh _ Oi,Oi,by show (0:Int)<=1/\(1:Int)<1000000;decide⟩ (by simp only [dep];clear hl hr ha;omega) ?_
     exact (ZaH (Zbo (Zfx (x:=rest / 60 % 3) rfl rfl) (decide_eq_false q0))).trans (Za ((ZaT (Zbo (Zfx (x:=rest / 60 % 3) rfl rfl) (decide_eq_true q1))).trans (Za (Zc4 (i:=9) (ZhB (ZI (Zmw w2 rfl rfl (by simp)) (ZI (Zb8 e1 rfl) rfl)) (by simp))))))
   . refine last (.call (.name f) (.op .sub (.name x) (.num 1))) h1 a b Up.refl cw.st (Int.le_refl _) (by omega) ⟨Oh _ Oi,Oi,by show (0:Int)<=1/\(1:Int)<1000000;decide⟩ (by simp only [dep];omega) ?_
     exact (ZaH (Zbo (Zfx (x:=rest / 60 % 3) rfl rfl) (decide_eq_false q0))).trans (Za ((ZaH (Zbo (Zfx (x:=rest / 60 % 3) rfl rfl) (decide_eq_false q1))).trans rfl))
end Gn
end
section
set_option tactic.hygienic false
namespace Gn
open PySem L2 IV
variable {P:Pg}{cs:List Int}{ns:List Str}{h h':Hd}{i j m k:Nat}{sc:Scp}{a b a' b':Int}
theorem Zjl(rd:Nat->Option PyData):∀ ys:List Str,D.pys rd (ys.map D.str)=some (ys.map PyData.str)
 | []=>rfl
 | y::ys=>by rw [Op,D.pys,Zjl rd ys];rfl
theorem Zie{l:Nat}{ys:List Str}(e:h[l]? = some (.lst (ys.map .str))):Zbi true (.ref l) (.ref h.length) (h++[.lst []])=.ok (.bl (!ys.isEmpty)) (h++[.lst []]):=by
 have e1:(h++[DO.lst []])[l]? = some (.lst (ys.map .str)):=by rw [Oe (ZH e)];exact e
 have p1:ZfK (h++[.lst []]) (.ref l)=some (.list (ys.map .str)):=by
   show ZbZ (h++[.lst []]) 4 l=_
   rw [ZbZ,e1]
   simp [Zjl]
 have p2:ZfK (h++[DO.lst []]) (.ref h.length)=some (.list []):=by
   show ZbZ (h++[.lst []]) 4 h.length=_
   rw [ZbZ,Zc1]
   rfl
 unfold IV.Zbi
 rw [p1,p2]
 simp only
 have d0:min (PyData.list (ys.map .str)).depth (PyData.list []).depth<=1100:=by
   have:(PyData.list []).depth<=1:=by decide +kernel
   omega
 rw [if_pos d0]
 cases ys with
 | nil=>rfl
 | cons y r=>rfl
theorem Zdu{U:Tb}{R:Sxs}{ρ':Ev}{h':Hd}{s:Sx}{A B_:Sxs}{S:Ev}{h:Hd}(e:xs2 U (.cons s A) S h=.ok (.nx,ρ') h')(q:∀ ρ1 h1,xs2 U A ρ1 h1=.ok (.nx,ρ') h'->xs2 U B_ ρ1 h1=xs2 U R ρ' h'):xs2 U (.cons s B_) S h=xs2 U R ρ' h':=by
 rw [ZK] at e ⊢
 cases r1:xs1 U s S h with
 | bad=>rw [r1] at e;cases e
 | exc c h1=>rw [r1] at e;cases e
 | ok p h1 =>
   rw [r1] at e
   obtain ⟨fl,ρ1⟩:=p
   cases fl with
   | nx=>exact q ρ1 h1 e
   | bk=>cases e
   | ct=>cases e
   | rt d=>cases e
theorem ZqA{U:Tb}{s1 s2 s3 s4 s5:Sx}{S ρ':Ev}{h h':Hd}(R:Sxs)(e:xs2 U (.cons s1 (.cons s2 (.cons s3 (.cons s4 (.cons s5 .nil))))) S h=.ok (.nx,ρ') h'):xs2 U (.cons s1 (.cons s2 (.cons s3 (.cons s4 (.cons s5 R))))) S h=xs2 U R ρ' h' :=
 Zdu e fun _ _ e=>Zdu e fun _ _ e=>Zdu e fun _ _ e=>Zdu e fun _ _ e=>Zdu e fun _ _ e=>by cases e;rfl
noncomputable def ae(w:Str)(k i m:Nat)(room v q:Int)(l:Nat)(a b:Option D):Ev:=[some (.str w),some (.ref k),some (.ref i),some (.ref m),some (.int room),some (.int v),some (.int q),some (.ref l),a,b]
theorem any_gen(H:Mkr P)(n1:Nat)(c:Ctx cs ns h i j m k sc a b)(w:Str)(room:Int)(mx:Int)(dm:Nat)(hdm:2<=dm)(hl:sc.length<=50)(ha:a<2 ^ 50)(hmx:1<=mx)
   (rc:1<=room->∃ r n0 n',room - 1<=(r:Nat)/\ZjP P r n0/\n1+2=n'+n0+1/\1<=n0/\sc.length+2+2 * r<=50/\1+3 * A r<=mx/\a+mx<2 ^ 50/\3 * r+6<=dm) :
   Made cs h i j sc a mx dm (run P (n1+3) (O "_law_any") [.str w,.ref k,.ref i,.ref m,.int room] h):=by
 have hab:=c.ab
 rw [ZeG H.any rfl]
 obtain ⟨v,w',ys,h5,l,e5,u5,c5,hy,hys⟩:=ZmD H n1 c w room hl ha none none none
 have st:Zk ZX.N [.str w,.ref k,.ref i,.ref m,.int room]=[some (.str w),some (.ref k),some (.ref i),some (.ref m),some (.int room),none,none,none,none,none]:=rfl
 rw [st,show ZX.body=.cons Zba (.cons Za9 (.cons ZP (.cons Za8 (.cons Za7 (.cons Za6 (.cons ZaB (.cons ZbM (.cons Za5 (.cons ZaN (.cons Zbk .nil)))))))))) from rfl,ZqA _ e5]
 show Made cs h i j sc a mx dm (Zn (xs2 (P.tbl (n1+2)) (.cons Za6 (.cons ZaB (.cons ZbM (.cons Za5 (.cons ZaN (.cons Zbk .nil)))))) (ae w' k i m room v (v / 87) l none none) h5))
 have nn:=Zie hy
 have t1:tst (P.tbl (n1+2)) (.ex (.cmp .NotEq (.var 7) (.lstl .nil))) (ae w' k i m room v (v / 87) l none none) h5=.ok (!ys.isEmpty) (h5++[.lst []]):=Zhz ((Za3 (x:=.ref l) (y:=.ref h5.length) (h1:=h5) (h2:=h5++[DO.lst []]) rfl rfl).trans nn)
 have t2:∀ h,tst (P.tbl (n1+2)) (.ex (.cmp .Eq (.bin .Mod (.var 6) (.cst (.int 3))) (.cst (.int 0)))) (ae w' k i m room v (v / 87) l none none) h=.ok (decide (v / 87 % 3=0)) h:=fun h=>Zfx rfl rfl
 have t8:∀ h,tst (P.tbl (n1+2)) (.ex (.cmp .Eq (.bin .Mod (.var 6) (.cst (.int 8))) (.cst (.int 0)))) (ae w' k i m room v (v / 87 / 30) l none none) h=.ok (decide (v / 87 / 30 % 8=0)) h:=fun h=>Zfx rfl rfl
 by_cases hn:ys.isEmpty=false/\v / 87 % 3=0
 ·
   have hp:0<ys.length:=by
     cases ys with
     | nil=>simp at hn
     | cons y r=>simp
   have ix:opB .Mod (.int (v / 87 / 3)) (.int ys.length) (h5++[.lst []])=.ok (.int (v / 87 / 3 % ys.length)) (h5++[.lst []]):=ZR (by omega)
   have hb:(0:Int)<=v / 87 / 3 % ys.length/\v / 87 / 3 % ys.length<ys.length:=⟨Int.emod_nonneg _ (by omega),Int.emod_lt_of_pos _ (by omega)⟩
   obtain ⟨q,hq⟩:∃ q:Nat,v / 87 / 3 % ys.length=q:=⟨(v / 87 / 3 % ys.length).toNat,by omega⟩
   have hql:q<ys.length:=by omega
   have hl5:(h5++[DO.lst []])[l]? = some (.lst (ys.map .str)):=by rw [Oe (ZH hy)];exact hy
   have len:Z5 P.GD .len [.ref l] (h5++[.lst []])=.ok (.int ys.length) (h5++[.lst []]):=by
     simp only [Z5,ZfI,seqOf,lstOf,hl5]
     simp
   have at5:ZaD P.GD (.ref l) (.int (q:Int)) (h5++[.lst []])=.ok (.str ys[q]) (h5++[.lst []]):=by
     rw [Zu hl5,IV.ZbN,On,Og hql]
     rfl
   refine ⟨.name ys[q],h5++[.lst []],a+1,b - 1,?_,u5.trans Up.app,c5.st.app,by omega,by omega,hys _ (List.getElem_mem hql),Nat.zero_le _⟩
   have x6:xs1 (P.tbl (n1+2)) Za6 (ae w' k i m room v (v / 87) l none none) h5=.ok (.rt (T.name ys[q]).d,(ae w' k i m room v (v / 87) l none none)) (h5++[.lst []]):=by
     have el:ev (P.tbl (n1+2)) (.blt .len (.cons (.var 7) .nil)) (ae w' k i m room v (v / 87) l none none) (h5++[.lst []])=.ok (.int ys.length) (h5++[.lst []]):=len
     have ei:ev (P.tbl (n1+2)) (.bin .Mod (.bin .FloorDiv (.var 6) (.cst (.int 3))) (.blt .len (.cons (.var 7) .nil))) (ae w' k i m room v (v / 87) l none none) (h5++[.lst []])=.ok (.int (q:Int)) (h5++[.lst []]):=(Zcd (x:=.int (v / 87 / 3)) rfl el).trans (ix.trans (by rw [hq]))
     rw [hn.1] at t1
     exact (ZaT (ZoU t1 (Zbo (t2 _) (decide_eq_true hn.2)))).trans (Zf (Zbe (ZhB (ZI rfl (ZI ((ZgG (x:=.ref l) rfl ei).trans at5) rfl)) (by simp))))
   rw [Zf x6]
   rfl
 . have x6:xs1 (P.tbl (n1+2)) Za6 (ae w' k i m room v (v / 87) l none none) h5
       = .ok (.nx,(ae w' k i m room v (v / 87) l none none)) (h5++[.lst []]):=by
     cases q:ys.isEmpty with
     | true =>
       rw [q] at t1
       exact (ZaH (Zr3 t1)).trans rfl
     | false =>
       rw [q] at t1
       have h3:¬ v / 87 % 3=0:=fun z=>hn ⟨q,z⟩
       exact (ZaH (ZoU t1 (Zbo (t2 _) (decide_eq_false h3)))).trans rfl
   have c6:=c5.app (g:=[.lst []])
   have u6:=u5.trans (Up.app (i:=i) (g:=[.lst []]))
   clear t1 nn
   generalize hh6:h5++[.lst []]=h6 at x6 c6 u6
   rw [Za x6]
   have ix2:ZaD P.GD (.ref i) (.int 2) h6=.ok (.int (b - 1)) h6:=by rw [Zu c6.st.1];simp
   have r1:tst (P.tbl (n1+2)) (.ex (.cmp .Lt (.var 4) (.cst (.int 1)))) (ae w' k i m room v (v / 87) l none none) h6=.ok (decide (room<1)) h6:=rfl
   have r2:tst (P.tbl (n1+2)) (.ex (.cmp .Lt (.ix (.var 2) (.cst (.int 2))) (.cst (.int 0)))) (ae w' k i m room v (v / 87) l none none) h6=.ok (decide (b - 1<0)) h6:=Zhz ((Za3 (y:=.int 0) (h2:=h6) ((ZgG (x:=.ref i) (y:=.int 2) rfl rfl).trans ix2) rfl).trans rfl)
   obtain ⟨t,g,ep,ct,pt⟩:=ZeH H (n1+1) w' (v / 87 / 3) h6 (sc.map (·.1))
   by_cases hr:room<1
   . refine ⟨t,h6++g,a+1,b - 1,?_,u6.trans Up.app,c6.st.app,by omega,by omega,ct,by omega⟩
     have x7:xs1 (P.tbl (n1+2)) ZaB (ae w' k i m room v (v / 87) l none none) h6=.ok (.rt t.d,(ae w' k i m room v (v / 87) l none none)) (h6++g):=(ZaT (ZsY (Zbo r1 (decide_eq_true hr)))).trans (Zf (ZA ep rfl rfl))
     rw [Zf x7]
     rfl
   . by_cases hb:b - 1<0
     . refine ⟨t,h6++g,a+1,b - 1,?_,u6.trans Up.app,c6.st.app,by omega,by omega,ct,by omega⟩
       have x7:xs1 (P.tbl (n1+2)) ZaB (ae w' k i m room v (v / 87) l none none) h6=.ok (.rt t.d,(ae w' k i m room v (v / 87) l none none)) (h6++g):=(ZaT (Zrm (Zbo r1 (decide_eq_false hr)) (Zbo r2 (decide_eq_true hb)))).trans (Zf (ZA ep rfl rfl))
       rw [Zf x7]
       rfl
     . obtain ⟨r,n0,n',q1,ih,q2,q3,q4,q5,q6,q7⟩:=rc (by omega)
       have Ap:=ZhV r
       have x7:xs1 (P.tbl (n1+2)) ZaB (ae w' k i m room v (v / 87) l none none) h6
           = .ok (.nx,(ae w' k i m room v (v / 87) l none none)) h6:=by
         exact (ZaH (Zrm (Zbo r1 (decide_eq_false hr)) (Zbo r2 (decide_eq_false hb)))).trans rfl
       have x8:xs1 (P.tbl (n1+2)) ZbM (ae w' k i m room v (v / 87) l none none) h6
           = .ok (.nx,(ae w' k i m room v (v / 87 / 30) l none none)) h6:=by
         exact rfl
       rw [Za x7,Za x8]
       by_cases h8:v / 87 / 30 % 8=0
       . obtain ⟨t1,g1,a1,b1,e1,u1,s1,l1,l2,c1,p1⟩:=ih (n'+1) cs ns h6 i j m k sc (a+1) (b - 1) (O "n") (room - 1) q1 c6 (by omega) (by omega)
         have cc1:=c6.up u1 s1 (by omega)
         obtain ⟨t2,g2,a2,b2,e2,u2,s2,l3,l4,c2,p2⟩:=ih (n'+1) cs ns g1 i j m k sc a1 b1 w' (room - 1) q1 cc1 (by omega) (by omega)
         have cc2:=cc1.up u2 s2 (by omega)
         obtain ⟨t3,g3,a3,b3,e3,u3,s3,l5,l6,c3,p3⟩:=ih (n'+1) cs ns g2 i j m k sc a2 b2 w' (room - 1) q1 cc2 (by omega) (by omega)
         rw [show n'+1+n0=n1+2 by omega] at e1 e2 e3
         refine ⟨.iff t1 t2 t3,g3,a3,b3,?_,u6.trans (u1.trans (u2.trans u3)),s3,by omega,by omega,⟨c1,c2,c3⟩,by simp only [dep];omega⟩
         have x9:xs1 (P.tbl (n1+2)) Za5 (ae w' k i m room v (v / 87 / 30) l none none) h6=.ok (.rt (T.iff t1 t2 t3).d,(ae w' k i m room v (v / 87 / 30) l (some t1.d) (some t2.d))) g3:=by
           refine (ZaT (Zbo (t8 _) (decide_eq_true h8))).trans ?_
           refine (Za (ρ1:=ae w' k i m room v (v / 87 / 30) l (some t1.d) none) (h1:=g1) (ZA e1 rfl rfl)).trans ?_
           refine (Za (ρ1:=ae w' k i m room v (v / 87 / 30) l (some t1.d) (some t2.d)) (h1:=g2) (ZA e2 rfl rfl)).trans ?_
           exact Zf (ZA e3 rfl rfl)
         rw [Zf x9]
         rfl
       . have x9:xs1 (P.tbl (n1+2)) Za5 (ae w' k i m room v (v / 87 / 30) l none none) h6=.ok (.nx,(ae w' k i m room v (v / 87 / 30) l none none)) h6:=(ZaH (Zbo (t8 _) (decide_eq_false h8))).trans rfl
         rw [Za x9]
         by_cases hw:w'=O "n"
         . obtain ⟨t1,g1,a1,b1,e1,u1,s1,l1,l2,c1,p1⟩:=ZpP H ih q3 n' c6 (v / 87 / 30 / 8) (room - 1) q1 (by omega) (by omega)
           rw [<- q2] at e1
           refine ⟨t1,g1,a1,b1,?_,u6.trans u1,s1,by omega,by omega,c1,by omega⟩
           have x10:xs1 (P.tbl (n1+2)) ZaN (ae w' k i m room v (v / 87 / 30) l none none) h6=.ok (.rt t1.d,(ae w' k i m room v (v / 87 / 30) l none none)) g1:=(ZaT (Zbo (Zqf rfl rfl) (decide_eq_true hw))).trans (Zf (ZA e1 rfl rfl))
           rw [Zf x10]
           rfl
         . obtain ⟨t1,g1,a1,b1,e1,u1,s1,l1,l2,c1,p1⟩:=Zqc H ih n' c6 w' (v / 87 / 30 / 8) (room - 1) q1 (by omega) (by omega)
           rw [<- q2] at e1
           refine ⟨t1,g1,a1,b1,?_,u6.trans u1,s1,by omega,by omega,c1,by omega⟩
           have x10:xs1 (P.tbl (n1+2)) ZaN (ae w' k i m room v (v / 87 / 30) l none none) h6=.ok (.nx,(ae w' k i m room v (v / 87 / 30) l none none)) h6:=(ZaH (Zbo (Zqf rfl rfl) (decide_eq_false hw))).trans rfl
           have x11:xs1 (P.tbl (n1+2)) Zbk (ae w' k i m room v (v / 87 / 30) l none none) h6=.ok (.rt t1.d,(ae w' k i m room v (v / 87 / 30) l none none)) g1:=ZA e1 rfl rfl
           rw [Za x10,Zf x11]
           rfl
theorem ZmC(H:Mkr P):∀ r:Nat,ZjP P r (2 * r+3)
 | 0=>fun n cs ns h i j m k sc a b w room hr c hl ha=>by
   have:=any_gen H n c w room (A 0) 3 (by decide) (by omega) (by have:=ZhV 0;omega) (by decide) (fun z=>by omega)
   exact this
 | r+1=>fun n cs ns h i j m k sc a b w room hr c hl ha=>by
   have Ap:=ZhV r
   have As:=Zqs r
   have:=any_gen H (n+2 * r+2) c w room (A (r+1)) (3 * (r+1)+3) (by omega) (by omega) (by omega) (by omega) (fun _=>⟨r,2 * r+3,n,by omega,ZmC H r,by omega,by omega,by omega,by omega,by omega,by omega⟩)
   rw [show n+(2 * (r+1)+3)=n+2 * r+2+3 by omega]
   exact this
end Gn
end
section
namespace Gn
open PySem L2 IV
noncomputable def front:T->List D
 | .num n=>[.str (O "num"),.int n]
 | .name x=>[.str (O "name"),.str x]
 | .fn x _=>[.str (O "fn"),.str x]
 | .rcc f x _=>[.str (O "rec"),.str f,.str x]
 | .call _ _=>[.str (O "call")]
 | .iff _ _ _=>[.str (O "if")]
 | .op w _ _=>[.str w.s]
theorem Zmk(t:T):t.d=.tup (front t++t.parts.map T.d):=by cases t<;>rfl
noncomputable def Zgy:D->Bool
 | .str _|.int _=>true
 | _=>false
theorem ZiD(t:T):∀ d∈front t,Zgy d=true:=by cases t<;>simp [front,Zgy]
theorem ZlY {GD:Str->Option (List (Key×D))}{d:D}{h:Hd} (hf:Zgy d=true):Z5 GD .isi [d,.ty "tuple"] h=.ok (.bl false) h:=by
 cases d with
 | str x=>rfl
 | int x=>rfl
 | _=>cases hf
theorem Zn0 {GD:Str->Option (List (Key×D))}{xs:List D}{h:Hd}:Z5 GD .isi [.tup xs,.ty "tuple"] h=.ok (.bl true) h:=rfl
noncomputable abbrev isT:Tx:=.ex (.blt .isi (.cons (.var 0) (.cons (.cst (.ty "tuple")) .nil)))
theorem ZfA{U:Tb}{e:Ex}{h:Hd}{acc rest:List D}:∀ ds:List D,(∀ d∈ds,Zgy d=true)->acc.length<sizeLine->Zx none (.nm 0) (tsto U (some isT)) (ev U e) (ds++rest) [none] acc h=Zx none (.nm 0) (tsto U (some isT)) (ev U e) rest [none] acc h
 | [],_,_=>rfl
 | d::ds,hd,hz=>by
   have:=ZlY (GD:=U.GD) (h:=h) (hd d (by simp))
   rw [List.cons_append,ZF]
   simp [Wk.stays,hz,this]
   exact ZfA ds (fun x hx=>hd x (by simp [hx])) hz
theorem Zfy{U:Tb}{e:Ex}{f:T->Int}:∀ (ts:List T) (acc:List D) (h:Hd),(∀ t∈ts,∀ h,∃ g,ev U e [some t.d] h=.ok (.int (f t)) (h++g))->acc.length+ts.length<=1000->∃ g,Zx none (.nm 0) (tsto U (some isT)) (ev U e) (ts.map T.d) [none] acc h=.ok (acc++ts.map fun t=>.int (f t)) (h++g)
 | [],acc,h,_,_=>⟨[],by simp [Zx,Wk.stays]⟩
 | t::ts,acc,h,ht,hz=>by
   simp only [Os] at hz
   obtain ⟨g1,e1⟩:=ht t (by simp) h
   obtain ⟨g2,e2⟩:=Zfy (U:=U) (e:=e) (f:=f) ts (acc++[.int (f t)]) (h++g1) (fun x hx=>ht x (by simp [hx])) (by simp;omega)
   refine ⟨g1++g2,?_⟩
   have hz2:acc.length<sizeLine:=by rw [sizeLine_eq];omega
   have it:Z5 U.GD .isi [t.d,.ty "tuple"] h=.ok (.bl true) h:=by rw [Zmk];exact Zn0
   rw [Op,ZF]
   simp [Wk.stays,hz2,it,e1,e2]
theorem ZdV{U:Tb}{e:Ex}{f:T->Int}(t:T)(h:Hd)(ht:∀ s∈t.parts,∀ h,∃ g,ev U e [some s.d] h=.ok (.int (f s)) (h++g)):∃ g,Zx none (.nm 0) (tsto U (some isT)) (ev U e) (front t++t.parts.map T.d) [none] [] h=.ok (t.parts.map fun s=>.int (f s)) (h++g):=by
 obtain ⟨g,e1⟩:=Zfy (f:=f) t.parts [] h ht (by cases t<;>simp [T.parts])
 refine ⟨g,?_⟩
 rw [ZfA _ (ZiD t) (by rw [sizeLine_eq];simp),e1]
 simp
theorem ints_map(f:T->Int):∀ ts:List T,intsOf (ts.map fun s=>D.int (f s))=some (ts.map f)
 | []=>rfl
 | t::ts=>by rw [Op,intsOf,ints_map f ts];rfl
variable {P:Pg}
theorem Zjd(t:T):(t.size:Int)=1+(t.parts.map fun s=>(s.size:Int)).sum:=by
 unfold T.size
 rw [T.places_parts]
 have:∀ ts:List T,((ts.flatMap T.places).length:Int)=(ts.map fun s=>(s.places.length:Int)).sum:=by
   intro ts
   induction ts with
   | nil=>rfl
   | cons t ts ih=>rw [List.flatMap_cons,OA,Op,OI,<- ih];omega
 rw [Os,<- this]
 omega
theorem Zb7{t s:T}(hs:s∈t.parts):dep s<dep t:=by
 cases t<;>simp [T.parts] at hs<;>simp only [dep]
 . subst hs;omega
 . subst hs;omega
 . rcases hs with rfl|rfl<;>omega
 . rcases hs with rfl|rfl|rfl<;>omega
 . rcases hs with rfl|rfl<;>omega
theorem Zjg (H:Mkr P):∀ (d n:Nat) (t:T) (h:Hd),dep t<=d->∃ g,run P (n+d+1) (O "_law_width") [t.d] h=.ok (.int t.size) (h++g):=by
 intro d
 induction d with
 | zero =>
   intro n t h hd
   rw [Zd H.width rfl]
   obtain ⟨g,e⟩:=ZdV (U:=⟨P.G,P.GD,run P (n+0),P.L⟩) (e:=.call (O "_law_width") (.cons (.var 0) .nil)) (f:=fun s=>(s.size:Int)) t h (fun s hs=>by have:=Zb7 hs;omega)
   refine ⟨g++[.lst (t.parts.map fun s=>.int s.size)],?_⟩
   rw [Zjd,Zmk]
   have sm:Z5 P.GD .sum [.ref (h++g).length] (h++g++[.lst (t.parts.map fun s=>D.int s.size)])=.ok (.int (t.parts.map fun s=>(s.size:Int)).sum) (h++g++[.lst (t.parts.map fun s=>D.int s.size)]):=by
     simp only [Z5,ZmB,lstOf,Zc1,Option.bind_some,ints_map]
     rfl
   simp at sm e
   simp [Z1,ZcI,Zk,ZY,ZaM,e,sm]
 | succ d ih =>
   intro n t h hd
   rw [Zd H.width rfl]
   obtain ⟨g,e⟩:=ZdV (U:=⟨P.G,P.GD,run P (n+(d+1)),P.L⟩) (e:=.call (O "_law_width") (.cons (.var 0) .nil)) (f:=fun s=>(s.size:Int)) t h (fun s hs h1=>by
     have:=Zb7 hs
     obtain ⟨g,e⟩:=ih n s h1 (by omega)
     refine ⟨g,?_⟩
     have e':run P (n+(d+1)) (O "_law_width") [s.d] h1=.ok (.int s.size) (h1++g):=e
     simp [e'])
   refine ⟨g++[.lst (t.parts.map fun s=>.int s.size)],?_⟩
   rw [Zjd,Zmk]
   have sm:Z5 P.GD .sum [.ref (h++g).length] (h++g++[.lst (t.parts.map fun s=>D.int s.size)])=.ok (.int (t.parts.map fun s=>(s.size:Int)).sum) (h++g++[.lst (t.parts.map fun s=>D.int s.size)]):=by
     simp only [Z5,ZmB,lstOf,Zc1,Option.bind_some,ints_map]
     rfl
   simp at sm e
   simp [Z1,ZcI,Zk,ZY,ZaM,e,sm]
end Gn
end
section
namespace Gn
open PySem L2 IV
variable {P:Pg}
theorem max2(x y:Nat):(if (1+(y:Int)) > 1+x then 1+(y:Int) else 1+x)=((max x y+1:Nat):Int):=by
 split<;>omega
theorem Zqi(t:T):Zcz (t.parts.map fun s=>1+(dep s:Int)) 0=dep t:=by
 cases t with
 | num n=>rfl
 | name x=>rfl
 | fn x e=>simp [T.parts,Zcz,dep];omega
 | rcc f x e=>simp [T.parts,Zcz,dep];omega
 | call f a=>simp only [T.parts,Zcz,dep,Op,Oy,List.foldl_cons,List.foldl_nil];rw [max2]
 | op w f a=>simp only [T.parts,Zcz,dep,Op,Oy,List.foldl_cons,List.foldl_nil];rw [max2]
 | iff c t e =>
   simp only [T.parts,Zcz,dep,Op,Oy,List.foldl_cons,List.foldl_nil]
   rw [max2]
   split<;>omega
theorem Zpi (H:Mkr P):∀ (d n:Nat) (t:T) (h:Hd),dep t<=d->∃ g,run P (n+d+1) (O "_law_deep") [t.d] h=.ok (.int (dep t)) (h++g):=by
 have fin:∀ (t:T) (h g:Hd),ZjN (.ref (h++g).length) (.int 0) (h++g++[.lst (t.parts.map fun s=>D.int (1+(dep s:Int)))])=.ok (.int (dep t)) (h++g++[.lst (t.parts.map fun s=>D.int (1+(dep s:Int)))]):=by
   intro t h g
   have q:intsOf (t.parts.map fun s=>D.int (1+(dep s:Int)))=some (t.parts.map fun s=>1+(dep s:Int)):=ints_map (fun s=>1+(dep s:Int)) t.parts
   simp only [ZjN,lstOf,Zc1,Option.bind_some,q,Option.map_some,Zqi,ofO_some]
 intro d
 induction d with
 | zero =>
   intro n t h hd
   rw [Zd H.deep rfl]
   obtain ⟨g,e⟩:=ZdV (U:=⟨P.G,P.GD,run P (n+0),P.L⟩) (e:=.bin .Add (.cst (.int 1)) (.call (O "_law_deep") (.cons (.var 0) .nil))) (f:=fun s=>1+(dep s:Int)) t h (fun s hs=>by have:=Zb7 hs;omega)
   refine ⟨g++[.lst (t.parts.map fun s=>.int (1+(dep s:Int)))],?_⟩
   have sm:=fin t h g
   rw [Zmk]
   simp at sm e
   simp [Zat,Zds,Zk,ZY,ZaM,e,sm]
 | succ d ih =>
   intro n t h hd
   rw [Zd H.deep rfl]
   obtain ⟨g,e⟩:=ZdV (U:=⟨P.G,P.GD,run P (n+(d+1)),P.L⟩) (e:=.bin .Add (.cst (.int 1)) (.call (O "_law_deep") (.cons (.var 0) .nil))) (f:=fun s=>1+(dep s:Int)) t h (fun s hs h1=>by
     have:=Zb7 hs
     obtain ⟨g,e⟩:=ih n s h1 (by omega)
     refine ⟨g,?_⟩
     have e':run P (n+(d+1)) (O "_law_deep") [s.d] h1=.ok (.int (dep s)) (h1++g):=e
     simp [e'])
   refine ⟨g++[.lst (t.parts.map fun s=>.int (1+(dep s:Int)))],?_⟩
   have sm:=fin t h g
   rw [Zmk]
   simp at sm e
   simp [Zat,Zds,Zk,ZY,ZaM,e,sm]
theorem Zfz(H:Mkr P){n:Nat}{h:Hd}{k:Nat}{xs0:List D}(hk:h[k]? = some (.lst xs0)):∀ (xs:List Int) (j:Nat) (acc:List Int),acc.length+xs.length<=1000->j+xs.length<=1000->∃ cs:List Int,cs.length=acc.length+xs.length /\
   Zx (some (k,xs0)) (.two 0 1) (tsto ⟨P.G,P.GD,run P (n+1),P.L⟩ none) (ev ⟨P.G,P.GD,run P (n+1),P.L⟩ (.call (O "_law_mixed") (.cons (.var 1) (.cons (.bin .Add (.var 0) (.cst (.int 2))) .nil)))) (xs.mapIdx fun q x=>D.tup [.int ((q+j:Nat):Int),.int x]) [none,none] (acc.map .int) h
     = .ok (cs.map .int) h
 | [],j,acc,_,_=>⟨acc,by simp,by simp [Zx,Wk.stays,hk]⟩
 | x::xs,j,acc,h1,h2=>by
   simp only [Os] at h1 h2
   obtain ⟨cs,q1,q2⟩:=Zfz H hk xs (j+1) (acc++[mixed x ((j:Int)+2)]) (by simp;omega) (by omega)
   refine ⟨cs,by simp at q1;simp;omega,?_⟩
   have e1:=Zjh H n x ((j:Int)+2) h ⟨by omega,by omega⟩
   have hz:acc.length<sizeLine:=by rw [sizeLine_eq];omega
   have ei:(fun (q:Nat) (x:Int)=>D.tup [.int ((q+1+j:Nat):Int),.int x])=fun q x=>D.tup [.int ((q+(j+1):Nat):Int),.int x]:=by
     funext q x
     rw [show q+1+j=q+(j+1) by omega]
   rw [List.mapIdx_cons,ZF]
   simp only [Wk.stays,hk,decide_true,true_and,List.length_map,hz,if_true,ZhM,List.set_cons_zero,List.set_cons_succ,ZjU,Zj7,Ze,bind_ok,ZeP,Zb6,ZdT,Zed,O0,OJ,Option.join_some,ofO_some,Zmf,ZgH,ZnK,Nat.zero_add,e1]
   rw [ei]
   have:=q2
   rw [List.map_append] at this
   exact this
end Gn
end
section
set_option tactic.hygienic false
namespace Gn
open PySem L2 IV
variable {P:Pg}{cs:List Int}{ns:List Str}{h h':Hd}{i j m:Nat}{a b:Int}
theorem ZgT(H:Mkr P)(r N:Nat)(hN:2 * r+3<=N){k:Nat}{sc:Scp}(c:Ctx cs ns h i j m k sc a b)(w:Str)(room:Int)(hr:room<=r)(hl:sc.length+2 * r<=50)(ha:a+A r<2 ^ 50) :
   Made cs h i j sc a (A r) (3 * r+3) (run P N (O "_law_any") [.str w,.ref k,.ref i,.ref m,.int room] h):=by
 have:=ZmC H r (N - (2 * r+3)) cs ns h i j m k sc a b w room hr c hl ha
 rw [show N - (2 * r+3)+(2 * r+3)=N by omega] at this
 exact this
theorem ZgU (H:Mkr P) (N:Nat) (t:T) (h:Hd) (hd:dep t<N):∃ g,run P N (O "_law_width") [t.d] h=.ok (.int t.size) (h++g):=by
 obtain ⟨g,e⟩:=Zjg H (dep t) (N - dep t - 1) t h (Oq _)
 rw [show N - dep t - 1+dep t+1=N by omega] at e
 exact ⟨g,e⟩
theorem Zoa (H:Mkr P) (N:Nat) (t:T) (h:Hd) (hd:dep t<N):∃ g,run P N (O "_law_deep") [t.d] h=.ok (.int (dep t)) (h++g):=by
 obtain ⟨g,e⟩:=Zpi H (dep t) (N - dep t - 1) t h (Oq _)
 rw [show N - dep t - 1+dep t+1=N by omega] at e
 exact ⟨g,e⟩
theorem Ctx.bare{k:Nat}{sc:Scp}(c:Ctx cs ns h i j m k sc a b):Ctx cs ns (h++[.lst []]) i j m h.length [] a b:=by
 have c1:=c.app (g:=[.lst []])
 refine ⟨c1.st,c1.nm,c1.n5,c1.nok,c1.nd,by unfold ZkA;simp,by simp,c1.im,?_,c1.ab⟩
 have:=ZH c.st.1
 omega
theorem turn(H:Mkr P){N:Nat}(hN:40<=N){k:Nat}{sc:Scp}(c:Ctx cs ns h i j m k sc a b){t:T}(ct:Cl [] t)(hd:dep t<=30)(ha:a<2 ^ 45)(S_ st ce kk:Option D):∃ t' h' a' b',Cl [] t'/\dep t'<=max (dep t) 21+1/\Up i h h'/\Ctx cs ns h' i j m k sc a' b'/\a<=a'/\a'<=a+A 6 /\
   xs2 ⟨P.G,P.GD,run P N,P.L⟩ (.cons (.iff (.ex (.cmp .Lt (.call (O "_law_width") (.cons (.var 5) .nil)) (.cst (.int 50)))) (.cons (.put (.var 3) (.cst (.int 2)) (.cst (.int 12))) (.cons (.set (.nm 5) (.tupl (.cons (.cst (.str (O "+"))) (.cons (.var 5) (.cons (.call (O "_law_any") (.cons (.cst (.str (O "n"))) (.cons (.lstl .nil) (.cons (.var 3) (.cons (.var 4) (.cons (.cst (.int 6)) .nil)))))) .nil))))) .nil)) .nil) .nil)
     [S_,st,ce,some (.ref i),some (.ref m),some t.d,kk] h=.ok (.nx,[S_,st,ce,some (.ref i),some (.ref m),some t'.d,kk]) h':=by
 have A6:A 6=16384:=by decide
 have hab:=c.ab
 obtain ⟨g,ew⟩:=ZgU H N t h (by omega)
 have c1:=c.app (g:=g)
 by_cases hw:(t.size:Int)<50
 . have i1:=c1.st.1
   have p1:Zcj (.ref i) (.int 2) (.int 12) (h++g)=.ok () ((h++g).set i (.lst [.ref j,.int a,.int 12])):=by
     simp only [Zcj,i1]
     rfl
   have s1:St3 ((h++g).set i (.lst [.ref j,.int a,.int 12])) i j cs a 12:=⟨by rw [Ol (ZH i1)],by rw [Oc c1.st.2.2];exact c1.st.2.1,c1.st.2.2⟩
   have u1:Up i h ((h++g).set i (.lst [.ref j,.int a,.int 12])):=Up.app.trans Up.set
   have c2:=c1.up (Up.set (o:=.lst [.ref j,.int a,.int 12])) s1 hab
   generalize (h++g).set i (.lst [.ref j,.int a,.int 12])=h2 at p1 s1 u1 c2
   obtain ⟨t1,h3,a1,b1,e1,u3,s3,l1,l2,c3,p3⟩:=ZgT H 6 N (by omega) c2.bare (O "n") 6 (by decide) (by simp) (by rw [A6];omega)
   have u4:=u1.trans ((Up.app (i:=i) (g:=[.lst []])).trans u3)
   refine ⟨.op .add t t1,h3,a1,b1,⟨ct,c3⟩,by simp only [dep];omega,u4,c.up u4 s3 (by omega),l1,l2,?_⟩
   simp [ew,hw,p1,sizeLine_eq,e1,T.d,Wd.s]
 . refine ⟨t,h++g,a,b,ct,by omega,Up.app,c1,by omega,by rw [A6];omega,?_⟩
   simp [ew,hw]
theorem Zf2 (H:Mkr P) {N:Nat} (hN:40<=N) (zs:List Int) (st:Int) (h:Hd) (hz:zs.length<=100):∃ t h',run P (N+1) (O "_law_program") [.ro (zs.map .int),.int st] h=.ok (T.d t) h'/\Cl [] t/\t.size<=100/\dep t<=20/\h.length<=h'.length/\∀ q,q<h.length->h'[q]? = h[q]? := by
 have A7:A 7=65536:=by decide
 have A6:A 6=16384:=by decide
 rw [ZeG H.program rfl]
 obtain ⟨ys,hys⟩:∃ ys:List Int,cutD (zs.map D.int) (some st) none=ys.map .int:=⟨(zs.drop (HT.sIx zs.length 0 (some st))).take (HT.sIx zs.length zs.length none - HT.sIx zs.length 0 (some st)),by simp [cutD,List.map_drop,List.map_take]⟩
 have hyl:ys.length<=100:=by
   have:(cutD (zs.map D.int) (some st) none).length<=(zs.map D.int).length:=by
     unfold cutD
     rw [List.length_take,List.length_drop]
     omega
   rw [hys] at this
   simp at this
   omega
 obtain ⟨N2,hN2⟩:∃ N2,N=N2+1:=⟨N - 1,by omega⟩
 obtain ⟨cs,hcl,ec⟩:=Zfz H (n:=N2) (h:=h++[.lst (ys.map .int)]) (k:=h.length) (xs0:=ys.map .int) (by simp) ys 0 [] (by simp;omega) (by omega)
 have en:ZdU (ys.map D.int)=ys.mapIdx fun q x=>D.tup [.int ((q+0:Nat):Int),.int x]:=by
   unfold ZdU
   apply List.ext_getElem?
   intro q
   simp [List.getElem?_mapIdx]
   cases ys[q]?<;>rfl
 have osl:ZfL (.ro (zs.map D.int)) (some st) none h=.ok (.ref h.length) (h++[.lst (ys.map .int)]):=by
   show Zcp (.lst (cutD (zs.map D.int) (some st) none)) h=_
   rw [hys]
   rfl
 have x1:xs1 ⟨P.G,P.GD,run P N,P.L⟩ Zal [some (.ro (zs.map .int)),some (.int st),none,none,none,none,none] h=.ok (.nx,[some (.ro (zs.map .int)),some (.int st),some (.ref (h.length+1)),none,none,none,none]) (h++[.lst (ys.map .int),.lst (cs.map .int)]):=by
   rw [hN2]
   simp only [Oy] at ec
   have wl:ZgV (.ref h.length) (h++[DO.lst (ys.map .int)])=some ⟨some (h.length,ys.map .int),ys.map .int⟩:=by simp [ZgV]
   simp only [Zal,ZcQ,ZcX,Zn7,ZoN,Zed,OJ,O0,Option.join_some,ofO_some,Ze,bind_ok,ZhA,Zmc,osl,wl,Option.map_some,ZaM,Op,Oy,Option.bind_none,en,ec]
   simp
 have x2:xs1 ⟨P.G,P.GD,run P N,P.L⟩ Zak [some (.ro (zs.map .int)),some (.int st),some (.ref (h.length+1)),none,none,none,none] (h++[.lst (ys.map .int),.lst (cs.map .int)])=.ok (.nx,[some (.ro (zs.map .int)),some (.int st),some (.ref (h.length+1)),some (.ref (h.length+2)),none,none,none]) (h++[.lst (ys.map .int),.lst (cs.map .int),.lst [.ref (h.length+1),.int 0,.int 26]]):=by
   simp [Zak,sizeLine_eq]
 have st2:St3 (h++[.lst (ys.map .int),.lst (cs.map .int),.lst [.ref (h.length+1),.int 0,.int 26]]) (h.length+2) (h.length+1) cs 0 26:=⟨by simp,by simp,by omega⟩
 obtain ⟨N3,hN3⟩:∃ N3,N=N3+2:=⟨N - 2,by omega⟩
 obtain ⟨v,e3,_⟩:=Zh5 H N3 st2 (by decide)
 rw [<- hN3] at e3
 obtain ⟨ns,n5,nok,nnd,e4⟩:=Zm5 H N2 v (h++[.lst (ys.map .int),.lst (cs.map .int),.lst [.ref (h.length+1),.int 1,.int 26]])
 rw [<- hN2] at e4
 have sset:(h++[DO.lst (ys.map .int),.lst (cs.map .int),.lst [.ref (h.length+1),.int 0,.int 26]]).set (h.length+2) (.lst [.ref (h.length+1),.int (0+1),.int 26])=h++[.lst (ys.map .int),.lst (cs.map .int),.lst [.ref (h.length+1),.int 1,.int 26]]:=by simp
 rw [sset] at e3
 have x3:xs1 ⟨P.G,P.GD,run P N,P.L⟩ Zaj [some (.ro (zs.map .int)),some (.int st),some (.ref (h.length+1)),some (.ref (h.length+2)),none,none,none] (h++[.lst (ys.map .int),.lst (cs.map .int),.lst [.ref (h.length+1),.int 0,.int 26]])=.ok (.nx,[some (.ro (zs.map .int)),some (.int st),some (.ref (h.length+1)),some (.ref (h.length+2)),some (.ref (h.length+3)),none,none]) (h++[.lst (ys.map .int),.lst (cs.map .int),.lst [.ref (h.length+1),.int 1,.int 26],.lst (ns.map .str)]):=by
   simp only [Zaj,ZcQ,ZeP,Zb6,ZdT,Zed,OJ,O0,Option.join_some,ofO_some,Ze,bind_ok,e3,e4]
   simp
 have c4:Ctx cs ns (h++[.lst (ys.map .int),.lst (cs.map .int),.lst [.ref (h.length+1),.int 1,.int 26],.lst (ns.map .str)]++[.lst []]) (h.length+2) (h.length+1) (h.length+3) (h.length+4) [] 1 26 :=
   ⟨⟨by simp,by simp,by omega⟩,by simp,n5,nok,nnd,by unfold ZkA;simp,by simp,by omega,by omega,by decide⟩
 obtain ⟨t4,h4,a4,b4,e5,u4,s4,l1,l2,ct4,d4⟩:=ZgT H 7 N (by omega) c4 (O "n") 7 (by decide) (by decide) (by rw [A7];decide)
 have c5:=c4.up u4 s4 (by omega)
 have x4:xs1 ⟨P.G,P.GD,run P N,P.L⟩ Zai [some (.ro (zs.map .int)),some (.int st),some (.ref (h.length+1)),some (.ref (h.length+2)),some (.ref (h.length+3)),none,none] (h++[.lst (ys.map .int),.lst (cs.map .int),.lst [.ref (h.length+1),.int 1,.int 26],.lst (ns.map .str)])=.ok (.nx,[some (.ro (zs.map .int)),some (.int st),some (.ref (h.length+1)),some (.ref (h.length+2)),some (.ref (h.length+3)),some t4.d,none]) h4:=by
   simp at e5
   simp [Zai,sizeLine_eq,e5]
 obtain ⟨t5,h5,a5,b5,ct5,d5,u5,c6,l3,l4,e6⟩:=turn H hN c5 ct4 (by omega) (by rw [A7] at l2;omega) (some (.ro (zs.map .int))) (some (.int st)) (some (.ref (h.length+1))) (some (.int 0))
 obtain ⟨t6,h6,a6,b6,ct6,d6,u6,c7,l5,l6,e7⟩:=turn H hN c6 ct5 (by omega) (by rw [A7] at l2;rw [A6] at l4;omega) (some (.ro (zs.map .int))) (some (.int st)) (some (.ref (h.length+1))) (some (.int 1))
 have x5:xs1 ⟨P.G,P.GD,run P N,P.L⟩ Zah [some (.ro (zs.map .int)),some (.int st),some (.ref (h.length+1)),some (.ref (h.length+2)),some (.ref (h.length+3)),some t4.d,none] h4=.ok (.nx,[some (.ro (zs.map .int)),some (.int st),some (.ref (h.length+1)),some (.ref (h.length+2)),some (.ref (h.length+3)),some t6.d,some (.int 1)]) h6:=by
   have s2:ZaE 2=true:=by decide
   have up2:Zaq 0 2=[.int 0,.int 1]:=by rfl
   simp only [Zah,Zcq,ZjG,ZgH,Ze,bind_ok,s2,if_true,show (2:Int).toNat=2 from rfl,up2,Z4,ZeQ,List.set_cons_succ,List.set_cons_zero,e6,e7,Zl8]
 obtain ⟨g1,ew⟩:=ZgU H N t6 h6 (by omega)
 have old:∀ (hh:Hd),Up (h.length+2) (h++[.lst (ys.map .int),.lst (cs.map .int),.lst [.ref (h.length+1),.int 1,.int 26],.lst (ns.map .str)]++[.lst []]) hh->h.length<=hh.length/\∀ q,q<h.length->hh[q]? = h[q]? := by
   intro hh u
   refine ⟨OE (by simp) u.1,fun q hq=>?_⟩
   rw [u.2 q (by simp;omega) (by omega),Oz,Oe hq]
 have uu:=(u4.trans u5).trans u6
 have whole:∀ (tf:T) (hf:Hd),xs1 ⟨P.G,P.GD,run P N,P.L⟩ ZG [some (.ro (zs.map .int)),some (.int st),some (.ref (h.length+1)),some (.ref (h.length+2)),some (.ref (h.length+3)),some t6.d,some (.int 1)] h6=.ok (.nx,[some (.ro (zs.map .int)),some (.int st),some (.ref (h.length+1)),some (.ref (h.length+2)),some (.ref (h.length+3)),some tf.d,some (.int 1)]) hf ->
     Zn (xs2 ⟨P.G,P.GD,run P N,P.L⟩ ZC.body (Zk ZC.N [.ro (zs.map .int),.int st]) h)=.ok tf.d hf:=by
   intro tf hf e
   show Zn (xs2 ⟨P.G,P.GD,run P N,P.L⟩ (.cons Zal (.cons Zak (.cons Zaj (.cons Zai (.cons Zah (.cons ZG (.cons Zcn .nil))))))) [some (.ro (zs.map .int)),some (.int st),none,none,none,none,none] h)=_
   rw [ZK,x1]
   simp only [Ze,bind_ok]
   rw [ZK,x2]
   simp only [Ze,bind_ok]
   rw [ZK,x3]
   simp only [Ze,bind_ok]
   rw [ZK,x4]
   simp only [Ze,bind_ok]
   rw [ZK,x5]
   simp only [Ze,bind_ok]
   rw [ZK,e]
   exact rfl
 have pl:∀ g2:Hd,∃ tp hp,run P N (O "_law_next") [.ref (h.length+2)] (h6++g2)=.ok (.int tp) (hp)/\Up (h.length+2) h6 hp:=by
   intro g2
   obtain ⟨v2,e8,_⟩:=Zh5 H N3 (c7.app (g:=g2)).st ⟨c7.ab,by rw [A7] at l2;rw [A6] at l4 l6;omega⟩
   rw [<- hN3] at e8
   exact ⟨v2,_,e8,Up.app.trans Up.set⟩
 by_cases hw:(100:Int)<t6.size
 . obtain ⟨v2,hp,e8,u8⟩:=pl g1
   obtain ⟨tp,gp,e9,ctp,dtp⟩:=ZeH H N2 (O "n") v2 hp []
   rw [<- hN2] at e9
   obtain ⟨o1,o2⟩:=old _ (uu.trans (u8.trans (Up.app (g:=gp))))
   refine ⟨tp,hp++gp,whole tp _ ?_,ctp,?_,by omega,o1,o2⟩
   . simp [ZG,ew,hw,e8,e9]
   . omega
 . obtain ⟨g2,ed⟩:=Zoa H N t6 (h6++g1) (by omega)
   by_cases hd:(20:Int)<dep t6
   . obtain ⟨v2,hp,e8,u8⟩:=pl (g1++g2)
     obtain ⟨tp,gp,e9,ctp,dtp⟩:=ZeH H N2 (O "n") v2 hp []
     rw [<- hN2] at e9
     obtain ⟨o1,o2⟩:=old _ (uu.trans (u8.trans (Up.app (g:=gp))))
     refine ⟨tp,hp++gp,whole tp _ ?_,ctp,?_,by omega,o1,o2⟩
     . simp at ed e8
       simp [ZG,ew,hw,ed,hd,e8,e9]
     . omega
   . obtain ⟨o1,o2⟩:=old _ (uu.trans (Up.app (g:=g1++g2)))
     refine ⟨t6,h6++(g1++g2),whole t6 _ ?_,ct6,by omega,by omega,o1,o2⟩
     simp at ed
     simp [ZG,ew,hw,ed,hd]
end Gn
end
section
namespace Rw
open PySem L2 IV Gn
noncomputable def Zy:Sxs:=(.cons (.iff (.ors (.cons (.ex (.cmp .NotEq (.ix (.var 1) (.cst (.int 0))) (.cst (.str (O "num"))))) (.one (.ex (.cmp .NotEq (.ix (.var 2) (.cst (.int 0))) (.cst (.str (O "num")))))))) (.cons (.ret (.cst .non)) .nil) .nil) (.cons (.iff (.ex (.cmp .Eq (.var 0) (.cst (.str (O "<"))))) (.cons (.ret (.tupl (.cons (.cst (.str (O "num"))) (.cons (.ite (.ex (.cmp .Lt (.ix (.var 1) (.cst (.int 1))) (.ix (.var 2) (.cst (.int 1))))) (.cst (.int 1)) (.cst (.int 0))) .nil)))) .nil) .nil) (.cons (.iff (.ex (.cmp .Eq (.var 0) (.cst (.str (O "+"))))) (.cons (.ret (.tupl (.cons (.cst (.str (O "num"))) (.cons (.bin .Mod (.bin .Add (.ix (.var 1) (.cst (.int 1))) (.ix (.var 2) (.cst (.int 1)))) (.glo (O "BEYOND"))) .nil)))) .nil) .nil) (.cons (.iff (.ex (.cmp .Eq (.var 0) (.cst (.str (O "-"))))) (.cons (.ret (.tupl (.cons (.cst (.str (O "num"))) (.cons (.bin .Mod (.bin .Sub (.ix (.var 1) (.cst (.int 1))) (.ix (.var 2) (.cst (.int 1)))) (.glo (O "BEYOND"))) .nil)))) .nil) .nil) (.cons (.ret (.tupl (.cons (.cst (.str (O "num"))) (.cons (.bin .Mod (.bin .Mult (.ix (.var 1) (.cst (.int 1))) (.ix (.var 2) (.cst (.int 1)))) (.glo (O "BEYOND"))) .nil)))) .nil)))))
noncomputable def Zbq:Fd:=⟨[(O "word"),(O "first"),(O "second")],[(O "word"),(O "first"),(O "second")],Zy⟩
variable {P:Pg}{h:Hd}
noncomputable def wk(w:Wd)(a b:Int):Int:=match w with
 | .lt=>if a<b then 1 else 0
 | .add=>(a+b) % 1000000
 | .sub=>(a - b) % 1000000
 | .mul=>a * b % 1000000
theorem worked_nn (hw:P.tb.lookup (O "worked")=some Zbq) (hb:P.G (O "BEYOND")=some (.int 1000000)) (n:Nat) (w:Wd) {x y:Int} (hx:0<=x/\x<1000000) (hy:0<=y/\y<1000000):run P (n+1) (O "worked") [.str w.s,(T.num x).d,(T.num y).d] h=.ok (T.num (wk w x y)).d h:=by
 rw [Zd hw (by rfl)]
 have gb:∀ S,ev (P.tbl n) (.glo (O "BEYOND")) S h=.ok (.int 1000000) h:=fun S=>by
   show R.ofO (P.G (O "BEYOND")) h=_
   rw [hb]
   rfl
 have m2:opB .Mult (.int x) (.int y) h=.ok (.int (x * y)) h:=ZdI ⟨ZU (by omega) (by omega),ZU (by omega) (by omega)⟩
 have fin:∀ (S:Ev) (e:Ex) (z:Int),ev (P.tbl n) e S h=.ok (.int z) h->xs1 (P.tbl n) (.ret (.tupl (.cons (.cst (.str (O "num"))) (.cons (.bin .Mod e (.glo (O "BEYOND"))) .nil)))) S h=.ok (.rt (T.num (z % 1000000)).d,S) h:=fun S e z q =>
   Zbe (ZhB (ZI rfl (ZI ((Zcd q (gb S)).trans (ZR (by decide))) rfl)) (by simp))
 show Zn (xs2 (P.tbl n) Zy [some (.str w.s),some (T.num x).d,some (T.num y).d] h)=_
 rw [nx1 (U:=P.tbl n) (ss:=Zy) (ρ1:=[some (.str w.s),some (T.num x).d,some (T.num y).d]) (h2:=h) rfl rfl]
 cases w with
 | lt=>by_cases e:x<y<;>simp [Zy,tlS,T.d,Wd.s,wk,e,sizeLine_eq]
 | add =>
   rw [nx1 (U:=P.tbl n) (ss:=tlS Zy) (ρ1:=[some (.str Wd.add.s),some (T.num x).d,some (T.num y).d]) (h2:=h) rfl rfl]
   exact rt1 (U:=P.tbl n) (ss:=tlS (tlS Zy)) ((ZaT rfl).trans (Zf (fin _ _ (x+y) rfl))) rfl
 | sub =>
   rw [nx1 (U:=P.tbl n) (ss:=tlS Zy) (ρ1:=[some (.str Wd.sub.s),some (T.num x).d,some (T.num y).d]) (h2:=h) rfl rfl,nx1 (U:=P.tbl n) (ss:=tlS (tlS Zy)) (ρ1:=[some (.str Wd.sub.s),some (T.num x).d,some (T.num y).d]) (h2:=h) rfl rfl]
   exact rt1 (U:=P.tbl n) (ss:=tlS (tlS (tlS Zy))) ((ZaT rfl).trans (Zf (fin _ _ (x - y) rfl))) rfl
 | mul =>
   rw [nx1 (U:=P.tbl n) (ss:=tlS Zy) (ρ1:=[some (.str Wd.mul.s),some (T.num x).d,some (T.num y).d]) (h2:=h) rfl rfl,nx1 (U:=P.tbl n) (ss:=tlS (tlS Zy)) (ρ1:=[some (.str Wd.mul.s),some (T.num x).d,some (T.num y).d]) (h2:=h) rfl rfl,nx1 (U:=P.tbl n) (ss:=tlS (tlS (tlS Zy))) (ρ1:=[some (.str Wd.mul.s),some (T.num x).d,some (T.num y).d]) (h2:=h) rfl rfl]
   exact rt1 (U:=P.tbl n) (ss:=tlS (tlS (tlS (tlS Zy)))) (fin _ _ (x * y) m2) rfl
end Rw
end
section
namespace IV
open PySem L2
mutual
noncomputable def D.pure:D->Bool
 | .non|.bl _|.int _|.str _=>true
 | .tup xs=>D.pures xs
 | _=>false
noncomputable def D.pures:List D->Bool
 | []=>true
 | x::xs=>D.pure x&&D.pures xs
end
mutual
noncomputable def D.dp:D->Nat
 | .tup xs=>D.dps xs+1
 | _=>0
noncomputable def D.dps:List D->Nat
 | []=>0
 | x::xs=>max (D.dp x) (D.dps xs)
end
mutual
theorem Zgj{rd:Nat->Option PyData}:∀ d:D,d.pure=true->∃ p,D.py rd d=some p/\p.depth<=d.dp/\PyData.eqv p p=true
 | .non,_=>⟨.none,rfl,Oq _,rfl⟩
 | .bl b,_=>⟨.bool b,rfl,Oq _,by simp [PyData.eqv]⟩
 | .int b,_=>⟨.int b,rfl,Oq _,by simp [PyData.eqv]⟩
 | .str b,_=>⟨.str b,rfl,Oq _,by simp [PyData.eqv]⟩
 | .tup xs,h=>by
   obtain ⟨ps,e1,e2,e3⟩:=pys_same (rd:=rd) xs (by simpa [D.pure] using h)
   refine ⟨.tuple ps,by simp [D.py,e1],?_,?_⟩
   . simp only [PyData.depth,D.dp];omega
   . simpa [PyData.eqv] using e3
 | .ref _,h=>by cases h
 | .ty _,h=>by cases h
 | .ro _,h=>by cases h
 | .kd _,h=>by cases h
theorem pys_same{rd:Nat->Option PyData}:∀ ds:List D,D.pures ds=true->∃ ps,D.pys rd ds=some ps/\PyData.depthAll ps<=D.dps ds/\PyData.eqvAll ps ps=true
 | [],_=>⟨[],rfl,Oq _,by simp [PyData.eqvAll]⟩
 | x::xs,h=>by
   rw [D.pures,Oa] at h
   obtain ⟨p,a1,a2,a3⟩:=Zgj (rd:=rd) x h.1
   obtain ⟨ps,b1,b2,b3⟩:=pys_same (rd:=rd) xs h.2
   refine ⟨p::ps,by simp [D.pys,a1,b1],?_,?_⟩
   . simp only [PyData.depthAll,D.dps];omega
   . simp [PyData.eqvAll,a3,b3]
end
theorem Zkf{n:Bool}{d:D}{h:Hd}(hp:d.pure=true)(hd:d.dp<=1100):Zbi n d d h=.ok (.bl (!n)) h:=by
 obtain ⟨p,e1,e2,e3⟩:=Zgj (rd:=ZbZ h 4) d hp
 unfold Zbi
 rw [show ZfK h d=some p from e1]
 simp only
 rw [if_pos (by omega),e3]
 cases n<;>rfl
end IV
end
section
namespace Rw
open PySem L2 IV Gn
theorem T.pure_d:∀ t:T,t.d.pure=true
 | .num _=>rfl
 | .name _=>rfl
 | .fn _ e=>by simp [T.d,D.pure,D.pures,T.pure_d e]
 | .rcc _ _ e=>by simp [T.d,D.pure,D.pures,T.pure_d e]
 | .call f a=>by simp [T.d,D.pure,D.pures,T.pure_d f,T.pure_d a]
 | .iff c t e=>by simp [T.d,D.pure,D.pures,T.pure_d c,T.pure_d t,T.pure_d e]
 | .op _ f a=>by simp [T.d,D.pure,D.pures,T.pure_d f,T.pure_d a]
theorem T.dp_d:∀ t:T,t.d.dp=dep t+1
 | .num _=>rfl
 | .name _=>rfl
 | .fn _ e=>by simp [T.d,D.dp,D.dps,T.dp_d e,dep]
 | .rcc _ _ e=>by simp [T.d,D.dp,D.dps,T.dp_d e,dep]
 | .call f a=>by simp [T.d,D.dp,D.dps,T.dp_d f,T.dp_d a,dep]
 | .iff c t e=>by simp [T.d,D.dp,D.dps,T.dp_d c,T.dp_d t,T.dp_d e,dep]
 | .op _ f a=>by simp [T.d,D.dp,D.dps,T.dp_d f,T.dp_d a,dep]
theorem wk_ok(w:Wd)(a b:Int):0<=wk w a b/\wk w a b<1000000:=by
 cases w<;>simp only [wk]
 . omega
 . omega
 . exact ⟨Int.emod_nonneg _ (by decide),Int.emod_lt_of_pos _ (by decide)⟩
 . split<;>omega
end Rw
end
section
namespace Tm
open PySem L2 IV
noncomputable def Zag:Sxs:=(.cons (.iff (.ex (.cmp .NotIn (.ix (.var 0) (.cst (.int 0))) (.glo (O "FORMS")))) (.cons (.ret (.tupl .nil)) .nil) .nil) (.cons (.ret (.sl (.var 0) (some (.cst (.int 1))) (some (.bin .Add (.cst (.int 1)) (.ix (.ix (.glo (O "FORMS")) (.ix (.var 0) (.cst (.int 0)))) (.cst (.int 0))))))) .nil))
noncomputable def Zae:Fd:=⟨[(O "E")],[(O "E")],Zag⟩
noncomputable def ZbC:Sxs:=(.cons (.iff (.ex (.cmp .NotIn (.ix (.var 0) (.cst (.int 0))) (.glo (O "FORMS")))) (.cons (.ret (.var 0)) .nil) .nil) (.cons (.ret (.sl (.var 0) none (some (.bin .Add (.cst (.int 1)) (.ix (.ix (.glo (O "FORMS")) (.ix (.var 0) (.cst (.int 0)))) (.cst (.int 0))))))) .nil))
noncomputable def Zbu:Fd:=⟨[(O "E")],[(O "E")],ZbC⟩
noncomputable def Zaf:Sxs:=(.cons (.iff (.ex (.cmp .NotIn (.ix (.var 0) (.cst (.int 0))) (.glo (O "FORMS")))) (.cons (.ret (.cst (.int 0))) .nil) .nil) (.cons (.ret (.ix (.ix (.glo (O "FORMS")) (.ix (.var 0) (.cst (.int 0)))) (.cst (.int 1)))) .nil))
noncomputable def Zad:Fd:=⟨[(O "front")],[(O "front")],Zaf⟩
noncomputable def ZjM:Sxs:=(.cons (.set (.nm 1) (.lstl .nil)) (.cons (.forr (.nm 2) (.rev (.var 0)) (.cons (.set (.nm 3) (.comp [(O "k"),(O "done")] [none,some 1] (.rng (.call (O "count_parts") (.cons (.var 2) .nil))) (.nm 0) none (.meth .pop (.var 1) .nil))) (.cons (.drp (.meth .app (.var 1) (.cons (.bin .Add (.var 2) (.blt .tup (.cons (.var 3) .nil))) .nil))) .nil))) (.cons (.ret (.ix (.var 1) (.cst (.int 0)))) .nil)))
noncomputable def ZcW:Fd:=⟨[(O "fronts")],[(O "fronts"),(O "done"),(O "front"),(O "parts")],ZjM⟩
noncomputable def Zgf:Sxs:=(.cons (.ret (.cmp .Gt (.blt .len (.cons (.call (O "places") (.cons (.var 0) .nil)) .nil)) (.glo (O "WIDEST")))) .nil)
noncomputable def Zbl:Fd:=⟨[(O "E")],[(O "E")],Zgf⟩
noncomputable def Zdt:Sxs:=(.cons (.forr (.two 2 3) (.pl (.var 1)) (.cons (.iff (.ex (.cmp .Eq (.var 2) (.var 0))) (.cons (.ret (.var 3)) .nil) .nil) .nil)) (.cons (.ret (.cst .non)) .nil))
noncomputable def Zav:Fd:=⟨[(O "name"),(O "around")],[(O "name"),(O "around"),(O "known"),(O "thing")],Zdt⟩
noncomputable def ZmA:Sxs:=(.cons (.iff (.ex (.cmp .Eq (.ix (.var 0) (.cst (.int 0))) (.cst (.str (O "clo"))))) (.cons (.ret (.sl (.var 0) (some (.cst (.int 1))) none)) .nil) .nil) (.cons (.ret (.tupl (.cons (.var 0) (.cons (.tupl .nil) .nil)))) .nil))
noncomputable def ZcE:Fd:=⟨[(O "thing")],[(O "thing")],ZmA⟩
noncomputable def ZiU:Sxs:=(.cons (.iff (.ex (.cmp .NotEq (.ix (.var 0) (.cst (.int 0))) (.cst (.str (O "name"))))) (.cons (.ret (.cst .non)) .nil) .nil) (.cons (.ret (.call (O "bound_to") (.cons (.ix (.var 0) (.cst (.int 1))) (.cons (.var 1) .nil)))) .nil))
noncomputable def Zar:Fd:=⟨[(O "place"),(O "around")],[(O "place"),(O "around")],ZiU⟩
noncomputable def ZhN:Sxs:=(.cons (.ret (.bin .Add (.blt .tup (.cons (.comp [(O "name")] [none] (.pl (.call (O "bound_names") (.cons (.var 0) .nil))) (.nm 0) none (.tupl (.cons (.var 0) (.cons (.cst .non) .nil)))) .nil)) (.var 1))) .nil)
noncomputable def Zb2:Fd:=⟨[(O "place"),(O "around")],[(O "place"),(O "around")],ZhN⟩
noncomputable def ZiV:Sxs:=(.cons (.ret (.cmp .In (.ix (.var 0) (.cst (.int 0))) (.glo (O "VALUES")))) .nil)
noncomputable def Zau:Fd:=⟨[(O "E")],[(O "E")],ZiV⟩
noncomputable def Zcg:Sx:=(.set (.nm 2) (.blt .tup (.cons (.comp [(O "name"),(O "filling")] [none,some 1] (.dk (.var 1)) (.nm 0) none (.tupl (.cons (.var 0) (.cons (.tupl (.cons (.cst (.str (O "clo"))) (.cons (.ix (.var 1) (.var 0)) (.cons (.tupl .nil) .nil)))) .nil)))) .nil)))
noncomputable def Zcf:Sx:=(.ret (.mcl (O "Pen") (O "filled") (.mk (O "Pen") (.cons (.cst .non) .nil)) (.cons (.var 0) (.cons (.var 2) .nil))))
noncomputable def Zmz:Sxs:=(.cons Zcg (.cons Zcf .nil))
noncomputable def ZcD:Fd:=⟨[(O "E"),(O "filling")],[(O "E"),(O "filling"),(O "around")],Zmz⟩
noncomputable def ZfS:Sxs:=(.cons (.iff (.ex (.cmp .Eq (.ix (.var 0) (.cst (.int 0))) (.cst (.str (O "if"))))) (.cons (.ret (.sl (.var 0) (some (.cst (.int 1))) (some (.cst (.int 2))))) .nil) .nil) (.cons (.ret (.call (O "parts_of") (.cons (.var 0) .nil))) .nil))
noncomputable def Zs:Fd:=⟨[(O "E")],[(O "E")],ZfS⟩
noncomputable def ZgQ:Sxs:=(.cons (.forr (.two 1 2) (.en1 (.call (O "parts_first") (.cons (.var 0) .nil))) (.cons (.iff (.nt (.ex (.call (O "is_value") (.cons (.var 2) .nil)))) (.cons (.ret (.var 1)) .nil) .nil) .nil)) (.cons (.ret (.cst .non)) .nil))
noncomputable def ZaK:Fd:=⟨[(O "E")],[(O "E"),(O "k"),(O "part")],ZgQ⟩
noncomputable def ZiO:Sxs:=(.cons (.set (.nm 1) (.lstl (.cons (.tupl (.cons (.var 0) (.cons (.call (O "first_open") (.cons (.var 0) .nil)) .nil))) .nil))) (.cons (.whl (.ex (.cmp .IsNot (.ix (.ix (.var 1) (.neg (.cst (.int 1)))) (.cst (.int 1))) (.cst .non))) (.cons (.set (.nm 2) (.ix (.ix (.ix (.var 1) (.neg (.cst (.int 1)))) (.cst (.int 0))) (.ix (.ix (.var 1) (.neg (.cst (.int 1)))) (.cst (.int 1))))) (.cons (.drp (.meth .app (.var 1) (.cons (.tupl (.cons (.var 2) (.cons (.call (O "first_open") (.cons (.var 2) .nil)) .nil))) .nil))) .nil))) (.cons (.ret (.var 1)) .nil)))
noncomputable def Zbr:Fd:=⟨[(O "E")],[(O "E"),(O "way"),(O "inner")],ZiO⟩
noncomputable def ZcN:Sxs:=(.cons (.iff (.ex (.cmp .Eq (.ix (.var 0) (.cst (.int 0))) (.cst (.str (O "fn"))))) (.cons (.ret (.call (O "put_in") (.cons (.ix (.var 0) (.cst (.int 2))) (.cons (.dictl (.cons (.ix (.var 0) (.cst (.int 1))) (.cons (.var 1) .nil))) .nil)))) .nil) .nil) (.cons (.iff (.ex (.cmp .Eq (.ix (.var 0) (.cst (.int 0))) (.cst (.str (O "rec"))))) (.cons (.ret (.call (O "put_in") (.cons (.ix (.var 0) (.cst (.int 3))) (.cons (.dictl (.cons (.ix (.var 0) (.cst (.int 1))) (.cons (.var 0) (.cons (.ix (.var 0) (.cst (.int 2))) (.cons (.var 1) .nil))))) .nil)))) .nil) .nil) (.cons (.ret (.cst .non)) .nil)))
noncomputable def ZcF:Fd:=⟨[(O "F"),(O "A")],[(O "F"),(O "A")],ZcN⟩
noncomputable def ZhQ:Sxs:=(.cons (.iff (.ex (.cmp .NotEq (.ix (.var 0) (.cst (.int 0))) (.cst (.str (O "num"))))) (.cons (.ret (.cst .non)) .nil) .nil) (.cons (.ret (.ite (.ex (.cmp .Eq (.ix (.var 0) (.cst (.int 1))) (.cst (.int 0)))) (.var 2) (.var 1))) .nil))
noncomputable def Zb5:Fd:=⟨[(O "C"),(O "T"),(O "E")],[(O "C"),(O "T"),(O "E")],ZhQ⟩
noncomputable def ZfF:Sx:=(.iff (.ors (.cons (.ex (.cmp .NotEq (.ix (.var 1) (.cst (.int 0))) (.cst (.str (O "num"))))) (.one (.ex (.cmp .NotEq (.ix (.var 2) (.cst (.int 0))) (.cst (.str (O "num")))))))) (.cons (.ret (.cst .non)) .nil) .nil)
noncomputable def ZiN:Sx:=(.iff (.ex (.cmp .Eq (.var 0) (.cst (.str (O "<"))))) (.cons (.ret (.tupl (.cons (.cst (.str (O "num"))) (.cons (.ite (.ex (.cmp .Lt (.ix (.var 1) (.cst (.int 1))) (.ix (.var 2) (.cst (.int 1))))) (.cst (.int 1)) (.cst (.int 0))) .nil)))) .nil) .nil)
noncomputable def ZiM:Sx:=(.iff (.ex (.cmp .Eq (.var 0) (.cst (.str (O "+"))))) (.cons (.ret (.tupl (.cons (.cst (.str (O "num"))) (.cons (.bin .Mod (.bin .Add (.ix (.var 1) (.cst (.int 1))) (.ix (.var 2) (.cst (.int 1)))) (.glo (O "BEYOND"))) .nil)))) .nil) .nil)
noncomputable def ZiL:Sx:=(.iff (.ex (.cmp .Eq (.var 0) (.cst (.str (O "-"))))) (.cons (.ret (.tupl (.cons (.cst (.str (O "num"))) (.cons (.bin .Mod (.bin .Sub (.ix (.var 1) (.cst (.int 1))) (.ix (.var 2) (.cst (.int 1)))) (.glo (O "BEYOND"))) .nil)))) .nil) .nil)
noncomputable def ZiK:Sx:=(.ret (.tupl (.cons (.cst (.str (O "num"))) (.cons (.bin .Mod (.bin .Mult (.ix (.var 1) (.cst (.int 1))) (.ix (.var 2) (.cst (.int 1)))) (.glo (O "BEYOND"))) .nil))))
noncomputable def Zy:Sxs:=(.cons ZfF (.cons ZiN (.cons ZiM (.cons ZiL (.cons ZiK .nil)))))
noncomputable def Zbq:Fd:=⟨[(O "word"),(O "first"),(O "second")],[(O "word"),(O "first"),(O "second")],Zy⟩
noncomputable def ZiY:Sx:=(.iff (.ex (.cmp .Eq (.ix (.var 0) (.cst (.int 0))) (.cst (.str (O "call"))))) (.cons (.ret (.call (O "called") (.cons (.ix (.var 0) (.cst (.int 1))) (.cons (.ix (.var 0) (.cst (.int 2))) .nil)))) .nil) .nil)
noncomputable def ZiX:Sx:=(.iff (.ex (.cmp .Eq (.ix (.var 0) (.cst (.int 0))) (.cst (.str (O "if"))))) (.cons (.ret (.call (O "chosen") (.cons (.ix (.var 0) (.cst (.int 1))) (.cons (.ix (.var 0) (.cst (.int 2))) (.cons (.ix (.var 0) (.cst (.int 3))) .nil))))) .nil) .nil)
noncomputable def ZiW:Sx:=(.ret (.call (O "worked") (.cons (.ix (.var 0) (.cst (.int 0))) (.cons (.ix (.var 0) (.cst (.int 1))) (.cons (.ix (.var 0) (.cst (.int 2))) .nil)))))
noncomputable def ZaR:Sxs:=(.cons ZiY (.cons ZiX (.cons ZiW .nil)))
noncomputable def ZcG:Fd:=⟨[(O "E")],[(O "E")],ZaR⟩
noncomputable def ZiT:Sxs:=(.cons (.set (.nm 2) (.var 1)) (.cons (.forr (.two 3 4) (.rev (.var 0)) (.cons (.set (.nm 2) (.bin .Add (.bin .Add (.sl (.var 3) none (some (.var 4))) (.tupl (.cons (.var 2) .nil))) (.sl (.var 3) (some (.bin .Add (.var 4) (.cst (.int 1)))) none))) .nil)) (.cons (.ret (.var 2)) .nil)))
noncomputable def Zbs:Fd:=⟨[(O "way"),(O "E")],[(O "way"),(O "E"),(O "whole"),(O "place"),(O "inner")],ZiT⟩
noncomputable def ZbK:Sx:=(.iff (.ex (.call (O "is_value") (.cons (.var 0) .nil))) (.cons (.ret (.tupl (.cons (.cst (.str (O "value"))) .nil))) .nil) .nil)
noncomputable def ZcH:Sx:=(.set (.nm 1) (.call (O "way_down") (.cons (.var 0) .nil)))
noncomputable def ZbJ:Sx:=(.set (.nm 2) (.call (O "become") (.cons (.ix (.ix (.var 1) (.neg (.cst (.int 1)))) (.cst (.int 0))) .nil)))
noncomputable def ZaA:Sx:=(.iff (.ex (.cmp .Is (.var 2) (.cst .non))) (.cons (.ret (.tupl (.cons (.cst (.str (O "stuck"))) .nil))) .nil) .nil)
noncomputable def ZbI:Sx:=(.ret (.tupl (.cons (.cst (.str (O "loud"))) (.cons (.call (O "put_back") (.cons (.sl (.var 1) none (some (.neg (.cst (.int 1))))) (.cons (.var 2) .nil))) .nil))))
noncomputable def Zkx:Sxs:=(.cons ZbK (.cons ZcH (.cons ZbJ (.cons ZaA (.cons ZbI .nil)))))
noncomputable def Zb3:Fd:=⟨[(O "E")],[(O "E"),(O "way"),(O "F")],Zkx⟩
noncomputable def ZiS:Sx:=(.set (.nm 2) (.lstl (.cons (.var 0) .nil)))
noncomputable def ZiR:Sx:=(.set (.nm 3) (.call (O "stepped") (.cons (.var 0) .nil)))
noncomputable def ZiQ:Sx:=(.whl (.ex (.cmp .Eq (.ix (.var 3) (.cst (.int 0))) (.cst (.str (O "loud"))))) (.cons (.iff (.ex (.cmp .Gt (.blt .len (.cons (.var 2) .nil)) (.var 1))) (.cons (.ret (.tupl (.cons (.var 2) (.cons (.cst (.str (O "open"))) .nil)))) .nil) .nil) (.cons (.iff (.ex (.call (O "is_wide") (.cons (.ix (.var 3) (.cst (.int 1))) .nil))) (.cons (.ret (.tupl (.cons (.var 2) (.cons (.cst (.str (O "wide"))) .nil)))) .nil) .nil) (.cons (.drp (.meth .app (.var 2) (.cons (.ix (.var 3) (.cst (.int 1))) .nil))) (.cons (.set (.nm 3) (.call (O "stepped") (.cons (.ix (.var 3) (.cst (.int 1))) .nil))) .nil)))))
noncomputable def ZiP:Sx:=(.ret (.tupl (.cons (.var 2) (.cons (.ix (.var 3) (.cst (.int 0))) .nil))))
noncomputable def ZfG:Sxs:=(.cons ZiS (.cons ZiR (.cons ZiQ (.cons ZiP .nil))))
noncomputable def ZcC:Fd:=⟨[(O "E"),(O "most")],[(O "E"),(O "most"),(O "row"),(O "step")],ZfG⟩
noncomputable def ZcO:Sxs:=(.cons (.seta [(O "Pen")] (.var 0) (O "most") (.var 1)) (.cons (.seta [(O "Pen")] (.var 0) (O "used") (.cst (.int 0))) .nil))
noncomputable def ZL:Fd:=⟨[(O "self"),(O "most")],[(O "self"),(O "most")],ZcO⟩
noncomputable def Zb9:Sxs:=(.cons (.iff (.ex (.cmp .Eq (.att [(O "Pen")] (.var 0) (O "used")) (.att [(O "Pen")] (.var 0) (O "most")))) (.cons .any .nil) .nil) (.cons (.auga [(O "Pen")] (.var 0) (O "used") (.cst (.int 1))) .nil))
noncomputable def ZD:Fd:=⟨[(O "self")],[(O "self")],Zb9⟩
noncomputable def Zci:Sxs:=(.cons (.set (.nm 3) (.lstl .nil)) (.cons (.set (.nm 4) (.lstl (.cons (.tupl (.cons (.var 1) (.cons (.var 2) .nil))) .nil))) (.cons (.whl (.ex (.var 4)) (.cons (.set (.nm 5) (.meth .pop (.var 4) .nil)) (.cons (.set (.nm 6) (.call (O "meant_by") (.cons (.ix (.var 5) (.cst (.int 0))) (.cons (.ix (.var 5) (.cst (.int 1))) .nil)))) (.cons (.iff (.ex (.cmp .Is (.var 6) (.cst .non))) (.cons (.drp (.mcl (O "Pen") (O "take_place") (.var 0) .nil)) (.cons (.drp (.meth .app (.var 3) (.cons (.call (O "front_of") (.cons (.ix (.var 5) (.cst (.int 0))) .nil)) .nil))) (.cons (.set (.nm 7) (.call (O "within") (.cons (.ix (.var 5) (.cst (.int 0))) (.cons (.ix (.var 5) (.cst (.int 1))) .nil)))) (.cons (.drp (.meth .ext (.var 4) (.cons (.comp [(O "part"),(O "inner")] [none,some 7] (.rev (.call (O "parts_of") (.cons (.ix (.var 5) (.cst (.int 0))) .nil))) (.nm 0) none (.tupl (.cons (.var 0) (.cons (.var 1) .nil)))) .nil))) .nil)))) (.cons (.drp (.meth .app (.var 4) (.cons (.call (O "opened") (.cons (.var 6) .nil)) .nil))) .nil)) .nil)))) (.cons (.ret (.call (O "built") (.cons (.var 3) .nil))) .nil))))
noncomputable def ZaL:Fd:=⟨[(O "self"),(O "E"),(O "around")],[(O "self"),(O "E"),(O "around"),(O "fronts"),(O "waiting"),(O "pair"),(O "thing"),(O "inner")],Zci⟩
structure Trm(P:Pg):Prop extends Gn.Tre P where
 bound_names:P.tb.lookup (O "bound_names")=some Zae
 front_of:P.tb.lookup (O "front_of")=some Zbu
 count_parts:P.tb.lookup (O "count_parts")=some Zad
 built:P.tb.lookup (O "built")=some ZcW
 bound_to:P.tb.lookup (O "bound_to")=some Zav
 opened:P.tb.lookup (O "opened")=some ZcE
 meant_by:P.tb.lookup (O "meant_by")=some Zar
 within:P.tb.lookup (O "within")=some Zb2
 is_value:P.tb.lookup (O "is_value")=some Zau
 put_in:P.tb.lookup (O "put_in")=some ZcD
 parts_first:P.tb.lookup (O "parts_first")=some Zs
 first_open:P.tb.lookup (O "first_open")=some ZaK
 way_down:P.tb.lookup (O "way_down")=some Zbr
 called:P.tb.lookup (O "called")=some ZcF
 chosen:P.tb.lookup (O "chosen")=some Zb5
 worked:P.tb.lookup (O "worked")=some Zbq
 become:P.tb.lookup (O "become")=some ZcG
 put_back:P.tb.lookup (O "put_back")=some Zbs
 stepped:P.tb.lookup (O "stepped")=some Zb3
 n_Pen___init__:P.tb.lookup (mnm (O "Pen") (O "__init__"))=none
 Pen___init__:P.ms.lookup (mnm (O "Pen") (O "__init__"))=some ZL
 n_Pen_take_place:P.tb.lookup (mnm (O "Pen") (O "take_place"))=none
 Pen_take_place:P.ms.lookup (mnm (O "Pen") (O "take_place"))=some ZD
 n_Pen_filled:P.tb.lookup (mnm (O "Pen") (O "filled"))=none
 Pen_filled:P.ms.lookup (mnm (O "Pen") (O "filled"))=some ZaL
 gv:P.G (O "VALUES")=some (.tup [.str (O "num"),.str (O "fn"),.str (O "rec")])
 gb:P.G (O "BEYOND")=some (.int 1000000)
structure Trw(P:Pg):Prop extends Trm P where
 is_wide:P.tb.lookup (O "is_wide")=some Zbl
 row_of:P.tb.lookup (O "row_of")=some ZcC
 gw:P.G (O "WIDEST")=some (.int 120)
end Tm
end
section
namespace Tm
open PySem L2 IV
variable {P:Pg}{h:Hd}
section
variable {w:Wd}
@[simp] theorem Zsl:(w.s=O "num")↔False:=by cases w<;>simp [Wd.s]
@[simp] theorem Zsa:(w.s=O "name")↔False:=by cases w<;>simp [Wd.s]
@[simp] theorem Zsb:(w.s=O "call")↔False:=by cases w<;>simp [Wd.s]
@[simp] theorem Zto:(w.s=O "if")↔False:=by cases w<;>simp [Wd.s]
@[simp] theorem Ztp:(w.s=O "fn")↔False:=by cases w<;>simp [Wd.s]
@[simp] theorem Zsk:(w.s=O "rec")↔False:=by cases w<;>simp [Wd.s]
@[simp] theorem Zcr:Zab Gn.Zb1 (.inr w.s)=some (.tup [.int 0,.int 2]):=by cases w<;>rfl
end
noncomputable def bnd:T->List Str
 | .fn x _=>[x]
 | .rcc f x _=>[f,x]
 | _=>[]
noncomputable def fr:T->List D
 | .num n=>[.str (O "num"),.int n]
 | .name x=>[.str (O "name"),.str x]
 | .fn x _=>[.str (O "fn"),.str x]
 | .rcc f x _=>[.str (O "rec"),.str f,.str x]
 | .call _ _=>[.str (O "call")]
 | .iff _ _ _=>[.str (O "if")]
 | .op w _ _=>[.str w.s]
theorem Zmj(t:T):t.d=.tup (fr t++t.parts.map T.d):=by cases t<;>rfl
theorem Zm9 (H:Trm P) (n:Nat) (t:T) (h:Hd):run P (n+1) (O "bound_names") [t.d] h=.ok (.tup ((bnd t).map .str)) h:=by
 have no:∀ (w:Str) (ds:List D),Zab Gn.Zb1 (.inr w)=none->run P (n+1) (O "bound_names") [.tup (.str w::ds)] h=.ok (.tup []) h:=fun w ds e=>by
   rw [Zd H.bound_names rfl]
   show Zn (xs2 (P.tbl n) Zag [some (.tup (.str w::ds))] h)=_
   rw [Zag,Zf ((ZaT (Gn.ZbF H.toTre ⟨rfl,rfl⟩ Gn.Zdf e)).trans (Zf (Zbe (d:=.tup []) rfl)))]
   rfl
 have yes:∀ (w:Str) (ds:List D) (a b:Int),Zab Gn.Zb1 (.inr w)=some (.tup [.int a,.int b])->run P (n+1) (O "bound_names") [.tup (.str w::ds)] h=.ok (.tup (cutD (.str w::ds) (some 1) (some (1+a)))) h:=fun w ds a b e=>by
   rw [Zd H.bound_names rfl]
   show Zn (xs2 (P.tbl n) Zag [some (.tup (.str w::ds))] h)=_
   have q:=Gn.ZiF H.toTre (U:=P.tbl n) ⟨rfl,rfl⟩ (ds:=ds) (h:=h) e
   have r:ev (P.tbl n) (.sl (.var 0) (some (.cst (.int 1))) (some (.bin .Add (.cst (.int 1)) (.ix (.ix (.glo (O "FORMS")) (.ix (.var 0) (.cst (.int 0)))) (.cst (.int 0)))))) [some (.tup (.str w::ds))] h=.ok (.tup (cutD (.str w::ds) (some 1) (some (1+a)))) h:=(Gn.ZkP (a:=.var 0) (x:=.tup (.str w::ds)) rfl rfl (Gn.ZgF q)).trans rfl
   rw [Zag,Za ((ZaH (Gn.ZbF H.toTre ⟨rfl,rfl⟩ Gn.Zdf e)).trans rfl),Zf (Zbe r)]
   rfl
 cases t with
 | num z=>exact no (O "num") _ rfl
 | name x=>exact no (O "name") _ rfl
 | fn x e=>exact yes (O "fn") _ 1 1 rfl
 | rcc f x e=>exact yes (O "rec") _ 2 1 rfl
 | call f a=>exact yes (O "call") _ 0 2 rfl
 | iff c a b=>exact yes (O "if") _ 0 3 rfl
 | op w a b=>exact yes w.s _ 0 2 Zcr
theorem ZdQ (H:Trm P) (n:Nat) (h:Hd) (w:Str) (ds:List D) (e:Zab Gn.Zb1 (.inr w)=none):run P (n+1) (O "front_of") [.tup (.str w::ds)] h=.ok (.tup (.str w::ds)) h:=by
 rw [Zd H.front_of rfl]
 show Zn (xs2 (P.tbl n) ZbC [some (.tup (.str w::ds))] h)=_
 rw [ZbC,Zf ((ZaT (Gn.ZbF H.toTre ⟨rfl,rfl⟩ Gn.Zdf e)).trans (Zf (Zbe (d:=.tup (.str w::ds)) rfl)))]
 rfl
theorem ZW (H:Trm P) (n:Nat) (h:Hd) (w:Str) (ds:List D) (a b:Int) (e:Zab Gn.Zb1 (.inr w)=some (.tup [.int a,.int b])):run P (n+1) (O "front_of") [.tup (.str w::ds)] h=.ok (.tup (cutD (.str w::ds) none (some (1+a)))) h:=by
 rw [Zd H.front_of rfl]
 show Zn (xs2 (P.tbl n) ZbC [some (.tup (.str w::ds))] h)=_
 have q:=Gn.ZiF H.toTre (U:=P.tbl n) ⟨rfl,rfl⟩ (ds:=ds) (h:=h) e
 have r:ev (P.tbl n) (.sl (.var 0) none (some (.bin .Add (.cst (.int 1)) (.ix (.ix (.glo (O "FORMS")) (.ix (.var 0) (.cst (.int 0)))) (.cst (.int 0)))))) [some (.tup (.str w::ds))] h=.ok (.tup (cutD (.str w::ds) none (some (1+a)))) h:=(Gn.ZkP (a:=.var 0) (x:=.tup (.str w::ds)) rfl rfl (Gn.ZgF q)).trans rfl
 rw [ZbC,Za ((ZaH (Gn.ZbF H.toTre ⟨rfl,rfl⟩ Gn.Zdf e)).trans rfl),Zf (Zbe r)]
 rfl
theorem Zji (H:Trm P) (n:Nat) (t:T) (h:Hd):run P (n+1) (O "front_of") [t.d] h=.ok (.tup (fr t)) h:=by
 cases t with
 | num z=>exact ZdQ H n h (O "num") _ rfl
 | name x=>exact ZdQ H n h (O "name") _ rfl
 | fn x e=>exact ZW H n h (O "fn") _ 1 1 rfl
 | rcc f x e=>exact ZW H n h (O "rec") _ 2 1 rfl
 | call f a=>exact ZW H n h (O "call") _ 0 2 rfl
 | iff c a b=>exact ZW H n h (O "if") _ 0 3 rfl
 | op w a b=>exact ZW H n h w.s _ 0 2 Zcr
theorem Zm7 (H:Trm P) (n:Nat) (t:T) (h:Hd):run P (n+1) (O "count_parts") [.tup (fr t)] h=.ok (.int t.parts.length) h:=by
 have no:∀ (w:Str) (ds:List D),Zab Gn.Zb1 (.inr w)=none->run P (n+1) (O "count_parts") [.tup (.str w::ds)] h=.ok (.int 0) h:=fun w ds e=>by
   rw [Zd H.count_parts rfl]
   show Zn (xs2 (P.tbl n) Zaf [some (.tup (.str w::ds))] h)=_
   rw [Zaf,Zf ((ZaT (Gn.ZbF H.toTre ⟨rfl,rfl⟩ Gn.Zdf e)).trans (Zf (Zbe (d:=.int 0) rfl)))]
   rfl
 have yes:∀ (w:Str) (ds:List D) (a b:Int),Zab Gn.Zb1 (.inr w)=some (.tup [.int a,.int b])->run P (n+1) (O "count_parts") [.tup (.str w::ds)] h=.ok (.int b) h:=fun w ds a b e=>by
   rw [Zd H.count_parts rfl]
   show Zn (xs2 (P.tbl n) Zaf [some (.tup (.str w::ds))] h)=_
   have r:ev (P.tbl n) (.ix (.ix (.glo (O "FORMS")) (.ix (.var 0) (.cst (.int 0)))) (.cst (.int 1))) [some (.tup (.str w::ds))] h=.ok (.int b) h:=by
     rw [ZhC,Gn.ZjF H.toTre ⟨rfl,rfl⟩ Gn.Zdf e]
     rfl
   rw [Zaf,Za ((ZaH (Gn.ZbF H.toTre ⟨rfl,rfl⟩ Gn.Zdf e)).trans rfl),Zf (Zbe r)]
   rfl
 cases t with
 | num z=>exact no (O "num") _ rfl
 | name x=>exact no (O "name") _ rfl
 | fn x e=>exact yes (O "fn") _ 1 1 rfl
 | rcc f x e=>exact yes (O "rec") _ 2 1 rfl
 | call f a=>exact yes (O "call") _ 0 2 rfl
 | iff c a b=>exact yes (O "if") _ 0 3 rfl
 | op w a b=>exact yes w.s _ 0 2 Zcr
noncomputable abbrev Ar:=List (Str×Option T)
noncomputable def thd (V:T):D:=.tup [.str (O "clo"),V.d,.tup []]
noncomputable def ard(p:Str×Option T):D:=.tup [.str p.1,match p.2 with|some V=>thd V|none=>.non]
noncomputable def get:Ar->Str->Option T
 | [],_=>none
 | (y,v)::r,x=>if y=x then v else get r x
noncomputable def oD:Option T->D
 | some V=>thd V
 | none=>.non
noncomputable def Zfj:Sxs:=(.cons (.iff (.ex (.cmp .Eq (.var 2) (.var 0))) (.cons (.ret (.var 3)) .nil) .nil) .nil)
theorem ZrF{U:Tb}{x:Str}{o:D}:∀ (ar:Ar) (a b:Option D),(∃ S,Z0 none (.two 2 3) (xs2 U Zfj) (ar.map ard) [some (.str x),some o,a,b] h=.ok (.rt (oD (get ar x)),S) h)\/(get ar x=none/\∃ S,Z0 none (.two 2 3) (xs2 U Zfj) (ar.map ard) [some (.str x),some o,a,b] h=.ok (.nx,S) h)
 | [],a,b=>.inr ⟨rfl,_,rfl⟩
 | (y,v)::r,a,b=>by
   by_cases e:y=x
   . refine .inl ⟨[some (.str x),some o,some (.str x),some (oD v)],?_⟩
     rw [Op,Z4]
     cases v<;>simp [ard,Zfj,get,e,oD]
   . have ih:=ZrF (U:=U) (x:=x) (o:=o) r (some (.str y)) (some (match v with|some V=>thd V|none=>.non))
     rw [Op,Z4]
     simp only [get,if_neg e]
     rcases ih with ⟨S,q⟩|⟨q0,S,q⟩
     . refine .inl ⟨S,?_⟩
       cases v<;>(simp only at q;simp [ard,Zfj,e] at q ⊢;exact q)
     . refine .inr ⟨q0,S,?_⟩
       cases v<;>(simp only at q;simp [ard,Zfj,e] at q ⊢;exact q)
theorem ZsL (H:Trm P) (n:Nat) (x:Str) (ar:Ar):run P (n+1) (O "bound_to") [.str x,.tup (ar.map ard)] h=.ok (oD (get ar x)) h:=by
 rw [Zd H.bound_to (by rfl)]
 rcases ZrF (U:=⟨P.G,P.GD,run P n,P.L⟩) (h:=h) (x:=x) (o:=.tup (ar.map ard)) ar none none with ⟨S,q⟩|⟨q0,S,q⟩
 . unfold Zfj at q
   simp [Zav,Zdt,Zk,ZY,q]
 . unfold Zfj at q
   simp [Zav,Zdt,Zk,ZY,q,q0,oD]
noncomputable def ZeD(ar:Ar):T->Option T
 | .name x=>get ar x
 | _=>none
theorem Zm6 (H:Trm P) (n:Nat) (t:T) (ar:Ar):run P (n+2) (O "meant_by") [t.d,.tup (ar.map ard)] h=.ok (oD (ZeD ar t)) h:=by
 rw [Zd H.meant_by (by cases t<;>rfl)]
 cases t with
 | name x =>
   exact ZfE (U:=P.tbl (n+1)) (fun U=>Zn (xs2 U Zar.body (Zk Zar.N [(T.name x).d,.tup (ar.map ard)]) h)) (ZsL H n (h:=h) x ar) rfl rfl
 | op w a b=>cases w<;>exact rfl
 | _=>exact rfl
noncomputable def inn(t:T)(ar:Ar):Ar:=(bnd t).map (fun x=>(x,none))++ar
theorem ZhL{U:Tb}:∀ (xs:List Str) (acc:List D),acc.length+xs.length<=1000->Zx none (.nm 0) (tsto U none) (ev U (.tupl (.cons (.var 0) (.cons (.cst .non) .nil)))) (xs.map .str) [none] acc h=.ok (acc++(xs.map fun x=>D.tup [.str x,.non])) h
 | [],acc,_=>by simp [Zx,Wk.stays]
 | x::xs,acc,hz=>by
   have ih:=ZhL (U:=U) xs (acc++[.tup [.str x,.non]]) (by simp at hz ⊢;omega)
   have hl:acc.length<16777216:=by simp at hz;omega
   rw [Op,ZF]
   simp [Wk.stays,hl,sizeLine_eq]
   simpa using ih
theorem ZkW (H:Trm P) (n:Nat) (t:T) (ar:Ar) (hz:ar.length<=100000):run P (n+2) (O "within") [t.d,.tup (ar.map ard)] h=.ok (.tup ((inn t ar).map ard)) (h++[.lst ((bnd t).map fun x=>.tup [.str x,.non])]):=by
 rw [Zd H.within (by cases t<;>rfl)]
 have e:=Zm9 H n t h
 have hb:(bnd t).length<=2:=by cases t<;>simp [bnd]
 have c:=ZhL (U:=⟨P.G,P.GD,run P (n+1),P.L⟩) (h:=h) (bnd t) [] (by simp;omega)
 have cat:∀ h',opB .Add (.tup ((bnd t).map fun x=>D.tup [.str x,.non])) (.tup (ar.map ard)) h'=.ok (.tup ((inn t ar).map ard)) h':=by
   intro h'
   rw [ZeM (by rw [sizeLine_eq];simp;omega)]
   simp [inn,ard,Function.comp_def]
 simp at c
 simp [Zb2,ZhN,Zk,e,ZY,ZaM,c,Z5,ZhR,lstOf,cat]
theorem ZkY (H:Trm P) (n:Nat) (V:T):run P (n+1) (O "opened") [thd V] h=.ok (.tup [V.d,.tup []]) h:=by
 rw [Zd H.opened (by rfl)]
 exact rfl
end Tm
end
section
namespace Tm
open PySem L2 IV
variable {P:Pg}
noncomputable def sub:Ar->T->T
 | _,.num n=>.num n
 | ar,.name x=>(get ar x).getD (.name x)
 | ar,.fn x e=>.fn x (sub ((x,none)::ar) e)
 | ar,.rcc f x e=>.rcc f x (sub ((f,none)::(x,none)::ar) e)
 | ar,.call f a=>.call (sub ar f) (sub ar a)
 | ar,.iff c t e=>.iff (sub ar c) (sub ar t) (sub ar e)
 | ar,.op w a b=>.op w (sub ar a) (sub ar b)
noncomputable def mu:Ar->T->Nat
 | _,.num _=>1
 | ar,.name x=>match get ar x with
   | some V=>V.size+1
   | none=>1
 | ar,.fn x e=>1+mu ((x,none)::ar) e
 | ar,.rcc f x e=>1+mu ((f,none)::(x,none)::ar) e
 | ar,.call f a=>1+(mu ar f+mu ar a)
 | ar,.iff c t e=>1+(mu ar c+(mu ar t+mu ar e))
 | ar,.op _ a b=>1+(mu ar a+mu ar b)
noncomputable def NN(ar:Ar):Prop:=∀ x,get ar x=none
theorem NN.cons{ar:Ar}(h:NN ar)(y:Str):NN ((y,none)::ar):=fun x=>by
 unfold get
 split
 . rfl
 . exact h x
theorem Zbn:∀ (t:T) {ar:Ar},NN ar->sub ar t=t
 | .num _,_,_=>rfl
 | .name x,_,h=>by rw [sub,h x];rfl
 | .fn x e,_,h=>by rw [sub,Zbn e (h.cons x)]
 | .rcc f x e,_,h=>by rw [sub,Zbn e ((h.cons x).cons f)]
 | .call f a,_,h=>by rw [sub,Zbn f h,Zbn a h]
 | .iff c t e,_,h=>by rw [sub,Zbn c h,Zbn t h,Zbn e h]
 | .op w a b,_,h=>by rw [sub,Zbn a h,Zbn b h]
theorem Zb(t:T):t.size=1+(t.parts.map T.size).sum:=by
 unfold T.size
 rw [T.places_parts]
 simp only [Os,List.length_flatMap]
 omega
theorem ZS(t:T):1<=t.size:=by rw [Zb];omega
theorem Zda:∀ (t:T) {ar:Ar},NN ar->mu ar t=t.size
 | .num _,_,_=>rfl
 | .name x,_,h=>by rw [mu,h x];rfl
 | .fn x e,_,h=>by rw [mu,Zda e (h.cons x),Zb (.fn x e)];simp [T.parts]
 | .rcc f x e,_,h=>by rw [mu,Zda e ((h.cons x).cons f),Zb (.rcc f x e)];simp [T.parts]
 | .call f a,_,h=>by rw [mu,Zda f h,Zda a h,Zb (.call f a)];simp [T.parts]
 | .iff c t e,_,h=>by rw [mu,Zda c h,Zda t h,Zda e h,Zb (.iff c t e)];simp [T.parts]
 | .op w a b,_,h=>by rw [mu,Zda a h,Zda b h,Zb (.op w a b)];simp [T.parts]
theorem ZfV(t:T)(ar:Ar)(h:ZeD ar t=none):(sub ar t).parts=t.parts.map (sub (inn t ar))/\fr (sub ar t)=fr t:=by
 cases t with
 | name x=>rw [sub,show get ar x=none from h];exact ⟨rfl,rfl⟩
 | _=>exact ⟨rfl,rfl⟩
theorem ZlA(t:T)(ar:Ar)(h:ZeD ar t=none):mu ar t=1+(t.parts.map (mu (inn t ar))).sum:=by
 cases t with
 | name x=>rw [mu,show get ar x=none from h];rfl
 | _=>simp [mu,T.parts,inn,bnd]
theorem Zf5{t:T}{ar:Ar}{V:T}(h:ZeD ar t=some V):sub ar t=V/\mu ar t=V.size+1:=by
 cases t with
 | name x =>
   have e:get ar x=some V:=h
   exact ⟨by rw [sub,e];rfl,by rw [mu,e]⟩
 | _=>cases h
theorem Zdb:∀ (t:T) (ar:Ar),mu ar t<=2 * (sub ar t).size
 | .num _,_=>by simp [mu,sub,T.size,T.places]
 | .name x,ar=>by
   cases e:get ar x with
   | none=>simp [mu,sub,e,T.size,T.places]
   | some V=>have:=ZS V;simp [mu,sub,e];omega
 | .fn x e,ar=>by have:=Zdb e ((x,none)::ar);rw [sub,mu,Zb];simp [T.parts];omega
 | .rcc f x e,ar=>by have:=Zdb e ((f,none)::(x,none)::ar);rw [sub,mu,Zb];simp [T.parts];omega
 | .call f a,ar=>by have:=Zdb f ar;have:=Zdb a ar;rw [sub,mu,Zb];simp [T.parts];omega
 | .iff c t e,ar=>by have:=Zdb c ar;have:=Zdb t ar;have:=Zdb e ar;rw [sub,mu,Zb];simp [T.parts];omega
 | .op w a b,ar=>by have:=Zdb a ar;have:=Zdb b ar;rw [sub,mu,Zb];simp [T.parts];omega
noncomputable def tf(t:T):D:=.tup (fr t)
theorem ZT{h:Hd}{i:Nat}{o:DO}(e:h[i]? = some o):i<h.length:=(Ob.mp e).1
theorem keep{h:Hd}{i:Nat}{o:DO}{g:Hd}(e:h[i]? = some o):(h++g)[i]? = some o:=by
 rw [Oe (ZT e)]
 exact e
structure B_(h0 h:Hd)(fk dk:Nat)(fs ds:List D):Prop where
 f:h[fk]? = some (.lst fs)
 d:h[dk]? = some (.lst ds)
 ne:dk≠fk
 o1:h0.length<=dk
 ol:h0.length<=h.length
 old:∀ i,i<h0.length->h[i]? = h0[i]?
theorem B_.set{h0 h:Hd}{fk dk:Nat}{fs ds:List D}(b:B_ h0 h fk dk fs ds)(es:List D):B_ h0 (h.set dk (.lst es)) fk dk fs es :=
 ⟨by rw [Oc b.ne];exact b.f,by rw [Ol (ZT b.d)],b.ne,b.o1,by simpa using b.ol,fun i hi=>by rw [Oc (by have:=b.o1;omega)];exact b.old i hi⟩
theorem B_.app{h0 h g:Hd}{fk dk:Nat}{fs ds:List D}(b:B_ h0 h fk dk fs ds):B_ h0 (h++g) fk dk fs ds :=
 ⟨keep b.f,keep b.d,b.ne,b.o1,by have:=b.ol;simp;omega,fun i hi=>by rw [Oe (by have:=b.ol;omega)];exact b.old i hi⟩
theorem Zmu{U:Tb}{h0:Hd}{fk dk:Nat}{fs:List D}:∀ (ks xs D0 acc:List D) (h:Hd),ks.length=xs.length->acc.length+xs.length<=1000->B_ h0 h fk dk fs (D0++xs.reverse)->∃ h',
   Zx none (.nm 0) (tsto U none) (ev U (.meth .pop (.var 1) .nil)) ks [none,some (.ref dk)] acc h=.ok (acc++xs) h'/\B_ h0 h' fk dk fs D0
 | [],[],D0,acc,h,_,_,b=>⟨h,by simp [Zx,Wk.stays],by simpa using b⟩
 | [],_::_,_,_,_,e,_,_=>by cases e
 | _::_,[],_,_,_,e,_,_=>by cases e
 | k::ks,x::xs,D0,acc,h,e,hz,b=>by
   have b1:B_ h0 h fk dk fs ((D0++xs.reverse)++[x]):=by simpa using b
   obtain ⟨h',q,b2⟩:=Zmu (U:=U) ks xs D0 (acc++[x]) _ (by simpa using e) (by simp at hz ⊢;omega) (b1.set (D0++xs.reverse))
   refine ⟨h',?_,b2⟩
   have pp:=ZdL b1.d
   have il:=Zm b1.d
   have hl:acc.length<16777216:=by simp at hz;omega
   rw [ZF]
   simp [Wk.stays,hl,sizeLine_eq,il,pp]
   simpa using q
noncomputable def ZdM:Sxs:=(.cons (.set (.nm 3) (.comp [(O "k"),(O "done")] [none,some 1] (.rng (.call (O "count_parts") (.cons (.var 2) .nil))) (.nm 0) none (.meth .pop (.var 1) .nil))) (.cons (.drp (.meth .app (.var 1) (.cons (.bin .Add (.var 2) (.blt .tup (.cons (.var 3) .nil))) .nil))) .nil))
theorem ZmV(H:Trm P)(n:Nat){h0 h:Hd}{fk dk:Nat}{fs D0:List D}(t:T)(b:B_ h0 h fk dk fs (D0++(t.parts.map T.d).reverse))(hz:D0.length<=1000000)(o0 o3:Option D):∃ h' o3',
   xs2 (P.tbl (n+1)) ZdM [o0,some (.ref dk),some (tf t),o3] h=.ok (.nx,[o0,some (.ref dk),some (tf t),o3']) h'/\B_ h0 h' fk dk fs (D0++[t.d]):=by
 have hp:t.parts.length<=3:=by cases t<;>simp [T.parts]
 have hf:(fr t).length<=3:=by cases t<;>simp [fr]
 have ec:=Zm7 H n t h
 obtain ⟨h1,q1,b1⟩:=Zmu (U:=P.tbl (n+1)) (Zaq 0 t.parts.length) (t.parts.map T.d) D0 [] h (by simp [Zaq]) (by simp;omega) b
 have s62:ZaE (t.parts.length:Int)=true:=by simp [ZaE];omega
 have b2:=(b1.app (g:=[.lst (t.parts.map T.d)])).set (D0++[t.d])
 refine ⟨_,some (.ref h1.length),?_,b2⟩
 have k1:(h1++[DO.lst (t.parts.map T.d)])[dk]? = some (.lst D0):=keep b1.d
 have x1:xs1 (P.tbl (n+1)) (.set (.nm 3) (.comp [(O "k"),(O "done")] [none,some 1] (.rng (.call (O "count_parts") (.cons (.var 2) .nil))) (.nm 0) none (.meth .pop (.var 1) .nil))) [o0,some (.ref dk),some (tf t),o3] h=.ok (.nx,[o0,some (.ref dk),some (tf t),some (.ref h1.length)]) (h1++[.lst (t.parts.map T.d)]):=by
   have ei:evi (P.tbl (n+1)) (.rng (.call (O "count_parts") (.cons (.var 2) .nil))) [o0,some (.ref dk),some (tf t),o3] h=.ok ⟨none,Zaq 0 t.parts.length⟩ h:=by
     have e1:ev (P.tbl (n+1)) (.call (O "count_parts") (.cons (.var 2) .nil)) [o0,some (.ref dk),some (tf t),o3] h=.ok (.int t.parts.length) h:=ec
     rw [ZjG,e1,Ze]
     exact (if_pos s62).trans (by rw [Int.toNat_natCast])
   rw [ZcQ,ZcX,ei,Ze]
   simp only [ZaM,Op,Oy,Option.bind_none,Option.bind_some]
   rw [show ([o0,some (D.ref dk),some (tf t),o3][1]?).join=some (.ref dk) from rfl,q1]
   rfl
 have x2:xs1 (P.tbl (n+1)) (.drp (.meth .app (.var 1) (.cons (.bin .Add (.var 2) (.blt .tup (.cons (.var 3) .nil))) .nil))) [o0,some (.ref dk),some (tf t),some (.ref h1.length)] (h1++[.lst (t.parts.map T.d)])=.ok (.nx,[o0,some (.ref dk),some (tf t),some (.ref h1.length)]) (List.set (h1++[.lst (t.parts.map T.d)]) dk (.lst (D0++[t.d]))):=by
   have ap:=ZZ (d:=t.d) k1 (by rw [sizeLine_eq];omega)
   have il:=Zm k1
   have ad:∀ h',opB .Add (tf t) (.tup (t.parts.map T.d)) h'=.ok t.d h':=fun h'=>by rw [Zmj];exact ZeM (by rw [sizeLine_eq];simp;omega)
   simp [il,Z5,ZhR,lstOf,ad,ap]
 rw [ZdM,Za x1,Za x2]
 rfl
end Tm
end
section
namespace Tm
open PySem L2 IV
variable {P:Pg}
theorem ZcB{j:Nat}{L:List D}{g:Tg}{body:Ev->Hd->R (Fl×Ev)}{d:D}{ds:List D}{S ρ1 ρ2:Ev}{h h2:Hd}(e:h[j]? = some (.lst L))(b:Zcm g d S=some ρ1)(q:body ρ1 h=.ok (.nx,ρ2) h2):Z0 (some (j,L)) g body (d::ds) S h=Z0 (some (j,L)) g body ds ρ2 h2:=by
 have:Wk.stays (some (j,L)) h=true:=by simp [Wk.stays,e]
 rw [Z0,if_pos this,b]
 simp only
 rw [q]
 rfl
theorem ZdR{j:Nat}{L:List D}{g:Tg}{body:Ev->Hd->R (Fl×Ev)}{S:Ev}{h:Hd}(e:h[j]? = some (.lst L)):Z0 (some (j,L)) g body [] S h=.ok (.nx,S) h:=by
 have:Wk.stays (some (j,L)) h=true:=by simp [Wk.stays,e]
 rw [Z0,if_pos this]
noncomputable def wb(P:Pg)(n fk dk:Nat)(fs:List D)(o0:Option D)(rest:List D)(o2 o3:Option D)(h:Hd):R (Fl×Ev):=Z0 (some (fk,fs)) (.nm 2) (xs2 (P.tbl (n+1)) ZdM) rest [o0,some (.ref dk),o2,o3] h
noncomputable def Bt(P:Pg)(n:Nat)(h0:Hd)(fk dk:Nat)(fs:List D)(o0:Option D)(xs D0 D1:List D):Prop:=∀ (rest:List D) (h:Hd) (o2 o3:Option D),B_ h0 h fk dk fs D0->∃ h' o2' o3',wb P n fk dk fs o0 (xs++rest) o2 o3 h=wb P n fk dk fs o0 rest o2' o3' h'/\B_ h0 h' fk dk fs D1
section
variable {n:Nat}{h0:Hd}{fk dk:Nat}{fs:List D}{o0:Option D}{xs ys D0 D1 D2:List D}
theorem Bt.trans(a:Bt P n h0 fk dk fs o0 xs D0 D1)(b:Bt P n h0 fk dk fs o0 ys D1 D2):Bt P n h0 fk dk fs o0 (xs++ys) D0 D2:=fun rest h o2 o3 q=>by
 obtain ⟨h1,o21,o31,e1,q1⟩:=a (ys++rest) h o2 o3 q
 obtain ⟨h2,o22,o32,e2,q2⟩:=b rest h1 o21 o31 q1
 exact ⟨h2,o22,o32,by rw [Oz,e1,e2],q2⟩
theorem Bt.front(H:Trm P)(t:T)(hz:D0.length<=1000000):Bt P n h0 fk dk fs o0 [tf t] (D0++(t.parts.map T.d).reverse) (D0++[t.d]):=fun rest h o2 o3 b=>by
 obtain ⟨h',o3',e,b'⟩:=ZmV H n t b hz o0 o3
 exact ⟨h',some (tf t),o3',ZcB b.f rfl e,b'⟩
end
theorem ZbQ(H:Trm P){n:Nat}{h0:Hd}{fk dk:Nat}{fs:List D}{o0:Option D}:∀ (t:T) (D0:List D),D0.length+t.size<=1000000->Bt P n h0 fk dk fs o0 (t.places.map tf).reverse D0 (D0++[t.d])
 | .num m,D0,hz=>by simpa [T.places,T.parts] using Bt.front (P:=P) (n:=n) (h0:=h0) (fk:=fk) (dk:=dk) (fs:=fs) (o0:=o0) (D0:=D0) H (.num m) (by omega)
 | .name m,D0,hz=>by simpa [T.places,T.parts] using Bt.front (P:=P) (n:=n) (h0:=h0) (fk:=fk) (dk:=dk) (fs:=fs) (o0:=o0) (D0:=D0) H (.name m) (by omega)
 | .fn x e,D0,hz=>by
   rw [Zb] at hz
   simp only [T.parts,Op,Oy,OI,List.sum_nil] at hz
   have a:=(ZbQ H (n:=n) (h0:=h0) (fk:=fk) (dk:=dk) (fs:=fs) (o0:=o0) e D0 (by omega)).trans (Bt.front H (.fn x e) (by omega))
   simpa [T.places,T.parts] using a
 | .rcc f x e,D0,hz=>by
   rw [Zb] at hz
   simp only [T.parts,Op,Oy,OI,List.sum_nil] at hz
   have a:=(ZbQ H (n:=n) (h0:=h0) (fk:=fk) (dk:=dk) (fs:=fs) (o0:=o0) e D0 (by omega)).trans (Bt.front H (.rcc f x e) (by omega))
   simpa [T.places,T.parts] using a
 | .call f a,D0,hz=>by
   rw [Zb] at hz
   simp only [T.parts,Op,Oy,OI,List.sum_nil] at hz
   have s1:=ZS f
   have q:=(ZbQ H (n:=n) (h0:=h0) (fk:=fk) (dk:=dk) (fs:=fs) (o0:=o0) a D0 (by omega)).trans (ZbQ H f (D0++[a.d]) (by simp;omega))
   have r:=Bt.front (P:=P) (n:=n) (h0:=h0) (fk:=fk) (dk:=dk) (fs:=fs) (o0:=o0) (D0:=D0) H (.call f a) (by omega)
   simp only [T.parts,Op,Oy,List.reverse_cons,List.reverse_nil,OB] at r
   rw [<- Oz] at r
   simpa [T.places] using q.trans r
 | .op w f a,D0,hz=>by
   rw [Zb] at hz
   simp only [T.parts,Op,Oy,OI,List.sum_nil] at hz
   have s1:=ZS f
   have q:=(ZbQ H (n:=n) (h0:=h0) (fk:=fk) (dk:=dk) (fs:=fs) (o0:=o0) a D0 (by omega)).trans (ZbQ H f (D0++[a.d]) (by simp;omega))
   have r:=Bt.front (P:=P) (n:=n) (h0:=h0) (fk:=fk) (dk:=dk) (fs:=fs) (o0:=o0) (D0:=D0) H (.op w f a) (by omega)
   simp only [T.parts,Op,Oy,List.reverse_cons,List.reverse_nil,OB] at r
   rw [<- Oz] at r
   simpa [T.places] using q.trans r
 | .iff c t e,D0,hz=>by
   rw [Zb] at hz
   simp only [T.parts,Op,Oy,OI,List.sum_nil] at hz
   have s1:=ZS c
   have s2:=ZS t
   have q:=((ZbQ H (n:=n) (h0:=h0) (fk:=fk) (dk:=dk) (fs:=fs) (o0:=o0) e D0 (by omega)).trans (ZbQ H t (D0++[e.d]) (by simp;omega))).trans (ZbQ H c (D0++[e.d]++[t.d]) (by simp;omega))
   have r:=Bt.front (P:=P) (n:=n) (h0:=h0) (fk:=fk) (dk:=dk) (fs:=fs) (o0:=o0) (D0:=D0) H (.iff c t e) (by omega)
   simp only [T.parts,Op,Oy,List.reverse_cons,List.reverse_nil,OB] at r
   rw [<- Oz,<- Oz] at r
   simpa [T.places] using q.trans r
theorem Zjj (H:Trm P) (n:Nat) (t:T) {h:Hd}{fk:Nat} (hf:h[fk]? = some (.lst (t.places.map tf))) (hz:t.size<=500000):∃ g,run P (n+2) (O "built") [.ref fk] h=.ok t.d (h++g):=by
 rw [Zd H.built (by rfl)]
 have b0:B_ h (h++[.lst []]) fk h.length (t.places.map tf) []:=⟨keep hf,by simp,by have:=ZT hf;omega,Oq _,by simp,fun i hi=>Oe hi⟩
 obtain ⟨h1,o2,o3,e1,b1⟩:=ZbQ H (n:=n) (o0:=some (.ref fk)) t [] (by simp;omega) [] _ none none b0
 have e2:wb P n fk h.length (t.places.map tf) (some (.ref fk)) [] o2 o3 h1=.ok (.nx,[some (.ref fk),some (.ref h.length),o2,o3]) h1:=ZdR b1.f
 rw [e2,List.append_nil] at e1
 have ex:∃ g,h1=h++g:=⟨h1.drop h.length,by
   apply List.ext_getElem?
   intro i
   rcases Nat.lt_or_ge i h.length with q|q
   . rw [b1.old i q,Oe q]
   . rw [Om q,List.getElem?_drop]
     congr 1
     omega⟩
 obtain ⟨g,rfl⟩:=ex
 refine ⟨g,?_⟩
 have x0:=Zu (GD:=P.GD) (k:=0) b1.d
 have hw:Zc2 (.ref fk) (h++[.lst []])=some ⟨some (fk,t.places.map tf),t.places.map tf⟩:=by simp [Zc2,b0.f]
 unfold wb ZdM at e1
 simp only [Pg.tbl] at e1
 simp only [OB] at x0
 simp [ZcW,ZjM,Zk,sizeLine_eq,hw,e1,x0]
end Tm
end
section
namespace Tm
open PySem L2 IV
variable {P:Pg}
noncomputable def Za1 (mo:D) (u:Int):DO:=.ins (O "Pen") [(O "most",mo),(O "used",.int u)]
noncomputable def Lim(mo:D)(z:Int):Prop:=mo=.non\/∃ m:Int,mo=.int m/\z<=m
theorem Lim.le{mo:D}{y z:Int}(l:Lim mo z)(h:y<=z):Lim mo y:=by
 rcases l with e|⟨m,e,q⟩
 . exact .inl e
 . exact .inr ⟨m,e,by omega⟩
theorem ZoD (H:Trm P) (n:Nat) (mo:D) (h:Hd):Zlz (run P (n+1)) (O "Pen") [mo] h=.ok (.ref h.length) (h++[Za1 mo 0]):=by
 unfold Zlz
 rw [Zh3 H.n_Pen___init__ H.Pen___init__ (by rfl)]
 simp [ZL,ZcO,Zk,Zgi,Zj3,sizeLine_eq,Za1]
theorem Zn1{u:Int}{h:Hd}:IV.Zbi false (D.int u) D.non h=.ok (D.bl false) h:=by
 have e:PyData.eqv (.int u) .none=false:=by simp [PyData.eqv]
 show (if min (PyData.int u).depth PyData.none.depth<=1100 then R.ok (D.bl (if false then !PyData.eqv (.int u) .none else PyData.eqv (.int u) .none)) h else .bad)=_
 rw [if_pos (by simp [PyData.depth]),e]
 rfl
theorem ZkX (H:Trm P) (n:Nat) {h:Hd}{pk:Nat}{mo:D}{u:Int} (lm:Lim mo (u+1)) (hp:h[pk]? = some (Za1 mo u)):run P (n+1) (mnm (O "Pen") (O "take_place")) [.ref pk] h=.ok .non (h.set pk (Za1 mo (u+1))):=by
 rw [Zh3 H.n_Pen_take_place H.Pen_take_place (by rfl)]
 have ne:IV.Zbi false (D.int u) mo h=.ok (D.bl false) h:=by
   rcases lm with rfl|⟨m,rfl,q⟩
   . exact Zn1
   . have:¬ u=m:=by omega
     simp [this]
 unfold Za1 at hp ⊢
 simp [ZD,Zb9,Zk,ZgB,Zaa,hp,List.lookup,ne,Zgi,Zj3]
noncomputable def pr(p:T×Ar):D:=.tup [p.1.d,.tup (p.2.map ard)]
structure Fi(mo:D)(h0 h:Hd)(pk fk wk:Nat)(u:Int)(F:List D)(W:List D):Prop where
 p:h[pk]? = some (Za1 mo u)
 f:h[fk]? = some (.lst F)
 w:h[wk]? = some (.lst W)
 ne:fk≠wk
 o2:h0.length<=fk
 o3:h0.length<=wk
 ol:h0.length<=h.length
 old:∀ i,i<h0.length->i≠pk->h[i]? = h0[i]?
section
variable {mo:D}{h0 h g:Hd}{pk fk wk:Nat}{u:Int}{F W:List D}
theorem Fi.app(q:Fi mo h0 h pk fk wk u F W):Fi mo h0 (h++g) pk fk wk u F W:=⟨keep q.p,keep q.f,keep q.w,q.ne,q.o2,q.o3,by have:=q.ol;simp;omega,fun i hi hn=>by rw [Oe (by have:=q.ol;omega)];exact q.old i hi hn⟩
theorem Zgp{i j:Nat}{l:List D}(a:h[i]? = some (Za1 mo u))(b:h[j]? = some (.lst l)):i≠j:=fun z=>by
 rw [z,b] at a
 cases a
theorem Fi.setP(q:Fi mo h0 h pk fk wk u F W)(v:Int):Fi mo h0 (h.set pk (Za1 mo v)) pk fk wk v F W :=
 ⟨by rw [Ol (ZT q.p)],by rw [Oc (Zgp q.p q.f)];exact q.f,by rw [Oc (Zgp q.p q.w)];exact q.w,q.ne,q.o2,q.o3,by simpa using q.ol,fun i hi hn=>by rw [Oc (Ne.symm hn)];exact q.old i hi hn⟩
theorem Fi.setF(q:Fi mo h0 h pk fk wk u F W)(G:List D):Fi mo h0 (h.set fk (.lst G)) pk fk wk u G W :=
 ⟨by rw [Oc (Zgp q.p q.f).symm];exact q.p,by rw [Ol (ZT q.f)],by rw [Oc q.ne];exact q.w,q.ne,q.o2,q.o3,by simpa using q.ol,fun i hi hn=>by rw [Oc (by have:=q.o2;omega)];exact q.old i hi hn⟩
theorem Fi.setW(q:Fi mo h0 h pk fk wk u F W)(G:List D):Fi mo h0 (h.set wk (.lst G)) pk fk wk u F G :=
 ⟨by rw [Oc (Zgp q.p q.w).symm];exact q.p,by rw [Oc q.ne.symm];exact q.f,by rw [Ol (ZT q.w)],q.ne,q.o2,q.o3,by simpa using q.ol,fun i hi hn=>by rw [Oc (by have:=q.o3;omega)];exact q.old i hi hn⟩
end
noncomputable def fl1:Sx:=(.set (.nm 5) (.meth .pop (.var 4) .nil))
noncomputable def fl2:Sx:=(.set (.nm 6) (.call (O "meant_by") (.cons (.ix (.var 5) (.cst (.int 0))) (.cons (.ix (.var 5) (.cst (.int 1))) .nil))))
noncomputable def fa1:Sx:=(.drp (.mcl (O "Pen") (O "take_place") (.var 0) .nil))
noncomputable def fa2:Sx:=(.drp (.meth .app (.var 3) (.cons (.call (O "front_of") (.cons (.ix (.var 5) (.cst (.int 0))) .nil)) .nil)))
noncomputable def fa3:Sx:=(.set (.nm 7) (.call (O "within") (.cons (.ix (.var 5) (.cst (.int 0))) (.cons (.ix (.var 5) (.cst (.int 1))) .nil))))
noncomputable def fa4:Sx:=(.drp (.meth .ext (.var 4) (.cons (.comp [(O "part"),(O "inner")] [none,some 7] (.rev (.call (O "parts_of") (.cons (.ix (.var 5) (.cst (.int 0))) .nil))) (.nm 0) none (.tupl (.cons (.var 0) (.cons (.var 1) .nil)))) .nil)))
noncomputable def fb1:Sx:=(.drp (.meth .app (.var 4) (.cons (.call (O "opened") (.cons (.var 6) .nil)) .nil)))
noncomputable def fl3:Sx:=(.iff (.ex (.cmp .Is (.var 6) (.cst .non))) (.cons fa1 (.cons fa2 (.cons fa3 (.cons fa4 .nil)))) (.cons fb1 .nil))
noncomputable def ZbG:Sxs:=.cons fl1 (.cons fl2 (.cons fl3 .nil))
theorem Zn6:Zci=.cons (.set (.nm 3) (.lstl .nil)) (.cons (.set (.nm 4) (.lstl (.cons (.tupl (.cons (.var 1) (.cons (.var 2) .nil))) .nil))) (.cons (.whl (.ex (.var 4)) ZbG) (.cons (.ret (.call (O "built") (.cons (.var 3) .nil))) .nil))):=rfl
theorem Zmv{U:Tb}{h:Hd}{a:D}:∀ (ds acc:List D),acc.length+ds.length<=1000->Zx none (.nm 0) (tsto U none) (ev U (.tupl (.cons (.var 0) (.cons (.var 1) .nil)))) ds [none,some a] acc h=.ok (acc++ds.map fun d=>D.tup [d,a]) h
 | [],acc,_=>by simp [Zx,Wk.stays]
 | x::xs,acc,hz=>by
   have ih:=Zmv (U:=U) (h:=h) (a:=a) xs (acc++[.tup [x,a]]) (by simp at hz ⊢;omega)
   have hl:acc.length<16777216:=by simp at hz;omega
   rw [ZF]
   simp [Wk.stays,hl,sizeLine_eq]
   simpa using ih
theorem Zo5(H:Trm P)(n:Nat){mo:D}{h0 h:Hd}{pk fk wk:Nat}{u:Int}{F W:List D}(t:T)(ar:Ar)(lm:Lim mo (u+1))(q:Fi mo h0 h pk fk wk u F (W++[pr (t,ar)]))(hF:F.length<=1000000)(hW:W.length<=1000000)(ha:ar.length<=90000)(o1 o2 o5 o6 o7:Option D):∃ h' o5' o6' o7' u' F' W',
   xs2 (P.tbl (n+2)) ZbG [some (.ref pk),o1,o2,some (.ref fk),some (.ref wk),o5,o6,o7] h=.ok (.nx,[some (.ref pk),o1,o2,some (.ref fk),some (.ref wk),o5',o6',o7']) h'/\Fi mo h0 h' pk fk wk u' F' W' /\
     ((ZeD ar t=none/\u'=u+1/\F'=F++[tf t]/\W'=W++(t.parts.reverse.map fun s=>pr (s,inn t ar)))\/∃ V,ZeD ar t=some V/\u'=u/\F'=F/\W'=W++[pr (V,[])]):=by
 have q1:=q.setW W
 have pp:=ZdL (h:=h) q.w
 have il:=Zm q.w
 have x1:xs1 (P.tbl (n+2)) fl1 [some (.ref pk),o1,o2,some (.ref fk),some (.ref wk),o5,o6,o7] h=.ok (.nx,[some (.ref pk),o1,o2,some (.ref fk),some (.ref wk),some (pr (t,ar)),o6,o7]) (h.set wk (.lst W)):=by
   simp [fl1,il,pp]
 generalize h.set wk (.lst W)=h1 at *
 have em:=Zm6 H n (h:=h1) t ar
 have x2:xs1 (P.tbl (n+2)) fl2 [some (.ref pk),o1,o2,some (.ref fk),some (.ref wk),some (pr (t,ar)),o6,o7] h1=.ok (.nx,[some (.ref pk),o1,o2,some (.ref fk),some (.ref wk),some (pr (t,ar)),some (oD (ZeD ar t)),o7]) h1:=by
   simp [fl2,pr,Pg.tbl,em]
 cases hm:ZeD ar t with
 | none =>
   rw [hm] at x2
   have e1:=ZkX H (n+1) lm q1.p
   have q2:=q1.setP (u+1)
   have pen:=q1.p
   have y1:xs1 (P.tbl (n+2)) fa1 [some (.ref pk),o1,o2,some (.ref fk),some (.ref wk),some (pr (t,ar)),some .non,o7] h1=.ok (.nx,[some (.ref pk),o1,o2,some (.ref fk),some (.ref wk),some (pr (t,ar)),some .non,o7]) (h1.set pk (Za1 mo (u+1))):=by
     unfold Za1 at pen
     simp [fa1,Zaa,pen,List.lookup,Pg.tbl,e1]
   generalize h1.set pk (Za1 mo (u+1))=h2 at *
   have ef:=Zji H (n+1) t h2
   have q3:=q2.setF (F++[tf t])
   have ap:=ZZ (d:=tf t) q2.f (by rw [sizeLine_eq];omega)
   have il2:=Zm q2.f
   have y2:xs1 (P.tbl (n+2)) fa2 [some (.ref pk),o1,o2,some (.ref fk),some (.ref wk),some (pr (t,ar)),some .non,o7] h2=.ok (.nx,[some (.ref pk),o1,o2,some (.ref fk),some (.ref wk),some (pr (t,ar)),some .non,o7]) (h2.set fk (.lst (F++[tf t]))):=by
     unfold tf at ap ⊢
     simp [fa2,il2,pr,Pg.tbl,ef,ap]
   generalize h2.set fk (.lst (F++[tf t]))=h3 at *
   have ew:=ZkW H n (h:=h3) t ar (by omega)
   have q4:=q3.app (g:=[.lst ((bnd t).map fun x=>.tup [.str x,.non])])
   have y3:xs1 (P.tbl (n+2)) fa3 [some (.ref pk),o1,o2,some (.ref fk),some (.ref wk),some (pr (t,ar)),some .non,o7] h3=.ok (.nx,[some (.ref pk),o1,o2,some (.ref fk),some (.ref wk),some (pr (t,ar)),some .non,some (.tup ((inn t ar).map ard))]) (h3++[.lst ((bnd t).map fun x=>.tup [.str x,.non])]):=by
     simp [fa3,pr,Pg.tbl,ew]
   generalize h3++[DO.lst ((bnd t).map fun x=>.tup [.str x,.non])]=h4 at *
   have ep:=Gn.ZeI H.toTre (n+1) t h4
   have hp:t.parts.length<=3:=by cases t<;>simp [T.parts]
   have ec:=Zmv (U:=P.tbl (n+2)) (h:=h4) (a:=.tup ((inn t ar).map ard)) (t.parts.map T.d).reverse [] (by simp;omega)
   have q5:=q4.app (g:=[.lst ((t.parts.map T.d).reverse.map fun d=>D.tup [d,.tup ((inn t ar).map ard)])])
   have q6:=q5.setW (W++(t.parts.map T.d).reverse.map fun d=>D.tup [d,.tup ((inn t ar).map ard)])
   have kw:=q5.w
   have il4:=Zm q4.w
   have y4:xs1 (P.tbl (n+2)) fa4 [some (.ref pk),o1,o2,some (.ref fk),some (.ref wk),some (pr (t,ar)),some .non,some (.tup ((inn t ar).map ard))] h4=.ok (.nx,[some (.ref pk),o1,o2,some (.ref fk),some (.ref wk),some (pr (t,ar)),some .non,some (.tup ((inn t ar).map ard))]) (List.set (h4++[.lst ((t.parts.map T.d).reverse.map fun d=>D.tup [d,.tup ((inn t ar).map ard)])]) wk (.lst (W++(t.parts.map T.d).reverse.map fun d=>D.tup [d,.tup ((inn t ar).map ard)]))):=by
     have ex:Zaw .ext (.ref wk) [.ref h4.length] (h4++[.lst ((t.parts.map T.d).reverse.map fun d=>D.tup [d,.tup ((inn t ar).map ard)])])=.ok .non (List.set (h4++[.lst ((t.parts.map T.d).reverse.map fun d=>D.tup [d,.tup ((inn t ar).map ard)])]) wk (.lst (W++(t.parts.map T.d).reverse.map fun d=>D.tup [d,.tup ((inn t ar).map ard)]))):=by
       simp only [Zaw,kw,ZcZ,ZnS,Zc1]
       rw [if_pos (by rw [sizeLine_eq];simp;omega)]
     generalize (t.parts.map T.d)=pd at *
     generalize (D.tup ((inn t ar).map ard))=ia at *
     simp only [OB] at ec
     simp only [Pg.tbl] at ec
     simp only [List.map_reverse] at ex
     simp [fa4,il4,pr,Pg.tbl,ep,Zc2,ZaM,ec,ex]
   have y5:xs1 (P.tbl (n+2)) fl3 [some (.ref pk),o1,o2,some (.ref fk),some (.ref wk),some (pr (t,ar)),some .non,o7] h1=.ok (.nx,[some (.ref pk),o1,o2,some (.ref fk),some (.ref wk),some (pr (t,ar)),some .non,some (.tup ((inn t ar).map ard))]) (List.set (h4++[.lst ((t.parts.map T.d).reverse.map fun d=>D.tup [d,.tup ((inn t ar).map ard)])]) wk (.lst (W++(t.parts.map T.d).reverse.map fun d=>D.tup [d,.tup ((inn t ar).map ard)]))):=by
     have z:xs1 (P.tbl (n+2)) fl3 [some (.ref pk),o1,o2,some (.ref fk),some (.ref wk),some (pr (t,ar)),some .non,o7] h1=xs2 (P.tbl (n+2)) (.cons fa1 (.cons fa2 (.cons fa3 (.cons fa4 .nil)))) [some (.ref pk),o1,o2,some (.ref fk),some (.ref wk),some (pr (t,ar)),some .non,o7] h1:=by
       rw [fl3,Zdv]
       simp [-ZK]
     rw [z,Za y1,Za y2,Za y3,Za y4]
     rfl
   refine ⟨_,some (pr (t,ar)),some .non,some (.tup ((inn t ar).map ard)),u+1,F++[tf t],_,?_,q6,.inl ⟨rfl,rfl,rfl,?_⟩⟩
   . rw [ZbG,Za x1]
     have x2':xs1 (P.tbl (n+2)) fl2 [some (.ref pk),o1,o2,some (.ref fk),some (.ref wk),some (pr (t,ar)),o6,o7] h1=.ok (.nx,[some (.ref pk),o1,o2,some (.ref fk),some (.ref wk),some (pr (t,ar)),some .non,o7]) h1:=x2
     rw [Za x2',Za y5]
     rfl
   . simp [pr,List.map_reverse,Function.comp_def]
 | some V =>
   rw [hm] at x2
   have eo:=ZkY H (n+1) (h:=h1) V
   have q2:=q1.setW (W++[pr (V,[])])
   have ap:=ZZ (d:=pr (V,[])) q1.w (by rw [sizeLine_eq];omega)
   have il1:=Zm q1.w
   have y5:xs1 (P.tbl (n+2)) fl3 [some (.ref pk),o1,o2,some (.ref fk),some (.ref wk),some (pr (t,ar)),some (thd V),o7] h1=.ok (.nx,[some (.ref pk),o1,o2,some (.ref fk),some (.ref wk),some (pr (t,ar)),some (thd V),o7]) (h1.set wk (.lst (W++[pr (V,[])]))):=by
     have nn:thd V≠.non:=by simp [thd]
     generalize thd V=tv at *
     generalize pr (t,ar)=pp' at *
     simp [pr] at ap ⊢
     simp [fl3,fb1,nn,il1,Pg.tbl,eo,ap]
   refine ⟨_,some (pr (t,ar)),some (thd V),o7,u,F,W++[pr (V,[])],?_,q2,.inr ⟨V,rfl,rfl,rfl,rfl⟩⟩
   rw [ZbG,Za x1]
   have x2':xs1 (P.tbl (n+2)) fl2 [some (.ref pk),o1,o2,some (.ref fk),some (.ref wk),some (pr (t,ar)),o6,o7] h1=.ok (.nx,[some (.ref pk),o1,o2,some (.ref fk),some (.ref wk),some (pr (t,ar)),some (thd V),o7]) h1:=x2
   rw [Za x2',Za y5]
   rfl
end Tm
end
section
namespace Tm
open PySem L2 IV
variable {P:Pg}
noncomputable def tot(W:List (T×Ar)):Nat:=(W.map fun p=>(sub p.2 p.1).size).sum
noncomputable def tmu(W:List (T×Ar)):Nat:=(W.map fun p=>mu p.2 p.1).sum
noncomputable def Wok(p:T×Ar):Prop:=p.2.length+2 * p.1.size<=90000/\∀ x V,get p.2 x=some V->2 * V.size<=90000
theorem Zbj:∀ (xs:List Str) (ar:Ar) {x:Str}{V:T},get (xs.map (fun y=>(y,none))++ar) x=some V->get ar x=some V
 | [],ar,x,V,e=>e
 | y::xs,ar,x,V,e=>by
   rw [Op,List.cons_append,get] at e
   split at e
   . cases e
   . exact Zbj xs ar e
theorem Zjp{t s:T}(hs:s∈t.parts):s.size+1<=t.size:=by
 rw [Zb t]
 have:∀ l:List T,s∈l->s.size<=(l.map T.size).sum:=by
   intro l
   induction l with
   | nil=>intro z;cases z
   | cons a r ih =>
     intro z
     rw [Op,OI]
     rcases O2.mp z with rfl|z
     . omega
     . have:=ih z;omega
 have:=this _ hs
 omega
theorem Wok.part{t s:T}{ar:Ar}(w:Wok (t,ar))(hs:s∈t.parts):Wok (s,inn t ar):=by
 have h1:=Zjp hs
 have hb:(bnd t).length<=2:=by cases t<;>simp [bnd]
 have h2:=w.1
 simp only at h2
 refine ⟨?_,fun x V e=>w.2 x V (Zbj _ _ e)⟩
 have:(inn t ar).length=(bnd t).length+ar.length:=by simp [inn]
 simp only
 omega
theorem ZpQ(t:T)(ar:Ar):1<=mu ar t:=by
 cases t<;>simp [mu]
 split<;>omega
theorem ZlH:∀ W:List (T×Ar),W.length<=tmu W
 | []=>Oq _
 | p::W=>by
   have:=ZlH W
   have:=ZpQ p.1 p.2
   simp [tmu] at *
   omega
theorem Zbh(A B_:List (T×Ar)):tot (A++B_)=tot A+tot B_:=by simp [tot]
theorem Zdx(A B_:List (T×Ar)):tmu (A++B_)=tmu A+tmu B_:=by simp [tmu]
theorem ZjV(t:T)(ar:Ar)(h:ZeD ar t=none):(sub ar t).size=1+tot (t.parts.reverse.map fun s=>(s,inn t ar)):=by
 rw [Zb,(ZfV t ar h).1,List.map_map]
 simp [tot,Function.comp_def,List.map_reverse]
theorem ZjW(t:T)(ar:Ar)(h:ZeD ar t=none):mu ar t=1+tmu (t.parts.reverse.map fun s=>(s,inn t ar)):=by
 rw [ZlA t ar h]
 simp [tmu,Function.comp_def,List.map_reverse]
noncomputable def com(W:List (T×Ar)):List D:=(W.reverse.flatMap fun p=>(sub p.2 p.1).places).map tf
theorem ZgJ(W:List (T×Ar))(t:T)(ar:Ar):com (W++[(t,ar)])=(sub ar t).places.map tf++com W:=by simp [com]
theorem Zku(W:List (T×Ar))(t:T)(ar:Ar)(h:ZeD ar t=none):com (W++[(t,ar)])=tf t::com (W++t.parts.reverse.map fun s=>(s,inn t ar)):=by
 obtain ⟨h1,h2⟩:=ZfV t ar h
 rw [ZgJ,T.places_parts,Op,show tf (sub ar t)=tf t by unfold tf;rw [h2],h1]
 simp [com,List.flatMap_append,List.map_reverse,List.flatMap_map]
theorem Zmo(W:List (T×Ar))(t V:T)(ar:Ar)(h:ZeD ar t=some V):com (W++[(t,ar)])=com (W++[(V,[])]):=by
 rw [ZgJ,ZgJ,(Zf5 h).1,Zbn V (fun x=>rfl)]
theorem Zin(H:Trm P)(n:Nat){mo:D}{h0:Hd}{pk fk wk:Nat}{o1 o2:Option D}:∀ (fuel:Nat) (W:List (T×Ar)) (F:List D) (u:Int) (h:Hd) (o5 o6 o7:Option D),Lim mo (u+(tot W:Int))->tmu W<fuel->F.length+tot W<=500000->tmu W<=1000000->(∀ p∈W,Wok p)->Fi mo h0 h pk fk wk u F (W.map pr)->∃ h' o5' o6' o7',
   ZQ (tst (P.tbl (n+2)) (.ex (.var 4))) (xs2 (P.tbl (n+2)) ZbG) fuel [some (.ref pk),o1,o2,some (.ref fk),some (.ref wk),o5,o6,o7] h=.ok (.nx,[some (.ref pk),o1,o2,some (.ref fk),some (.ref wk),o5',o6',o7']) h'/\Fi mo h0 h' pk fk wk (u+(tot W:Int)) (F++com W) []
 | 0,W,F,u,h,o5,o6,o7,lm,hf,_,_,_,_=>by omega
 | fuel+1,W,F,u,h,o5,o6,o7,lm,hf,hz,hm,ok,q=>by
   rcases List.eq_nil_or_concat W with rfl|⟨V,p,rfl⟩
   . refine ⟨h,o5,o6,o7,?_,by simpa [com,tot] using q⟩
     have tr:Zcs P.GD (.ref wk) h=some false:=by rw [ZeF q.w];rfl
     rw [Zt]
     simp [Pg.tbl,tr]
   . obtain ⟨t,ar⟩:=p
     rw [List.concat_eq_append] at lm hf hz hm ok q ⊢
     have q':Fi mo h0 h pk fk wk u F (V.map pr++[pr (t,ar)]):=by simpa using q
     have hW:=ok (t,ar) (by simp)
     have okV:∀ p∈V,Wok p:=fun p hp=>ok p (by simp [hp])
     rw [Zdx] at hf hm
     rw [Zbh] at lm hz
     have lv:=ZlH V
     have sp:=ZS (sub ar t)
     have e1:tot [(t,ar)]=(sub ar t).size:=by simp [tot]
     have e2:tmu [(t,ar)]=mu ar t:=by simp [tmu]
     rw [e1] at lm hz
     rw [e2] at hf hm
     obtain ⟨h1,o51,o61,o71,u1,F1,W1,x,q1,c⟩:=Zo5 H n t ar (lm.le (by omega)) q' (by omega) (by rw [List.length_map];omega) (by have:=hW.1;simp only at this;omega) o1 o2 o5 o6 o7
     have tr:Zcs P.GD (.ref wk) h=some true:=by rw [ZeF q.w];simp
     have step:∀ (r:R (Fl×Ev)),ZQ (tst (P.tbl (n+2)) (.ex (.var 4))) (xs2 (P.tbl (n+2)) ZbG) fuel [some (.ref pk),o1,o2,some (.ref fk),some (.ref wk),o51,o61,o71] h1=r->ZQ (tst (P.tbl (n+2)) (.ex (.var 4))) (xs2 (P.tbl (n+2)) ZbG) (fuel+1) [some (.ref pk),o1,o2,some (.ref fk),some (.ref wk),o5,o6,o7] h=r:=by
       intro r e
       have te:tst (P.tbl (n+2)) (.ex (.var 4)) [some (.ref pk),o1,o2,some (.ref fk),some (.ref wk),o5,o6,o7] h=.ok true h:=by
         simp [Pg.tbl,tr]
       rw [Zt,te,Ze,if_pos rfl,x,Ze]
       exact e
     rcases c with ⟨hm0,rfl,rfl,rfl⟩|⟨X,hm0,rfl,rfl,rfl⟩
     . have t1:=ZjV t ar hm0
       have t2:=ZjW t ar hm0
       obtain ⟨h2,o52,o62,o72,e,q2⟩:=Zin H n (o1:=o1) (o2:=o2) fuel (V++t.parts.reverse.map fun s=>(s,inn t ar)) (F++[tf t]) (u+1) h1 o51 o61 o71 (lm.le (by rw [Zbh];omega)) (by rw [Zdx];omega) (by rw [Zbh,OA];simp only [Os,List.length_nil];omega) (by rw [Zdx];omega) (fun p hp=>by
         rcases OD.mp hp with hp|hp
         . exact okV p hp
         . obtain ⟨s,hs,rfl⟩:=List.mem_map.mp hp
           exact hW.part (by simpa using hs)) (by simpa [List.map_map,Function.comp_def] using q1)
       refine ⟨h2,o52,o62,o72,step _ e,?_⟩
       rw [Zku V t ar hm0,show u+((tot (V++[(t,ar)]):Nat):Int)=u+1+((tot (V++t.parts.reverse.map fun s=>(s,inn t ar)):Nat):Int) by rw [Zbh,Zbh,e1,t1];omega]
       simpa using q2
     . obtain ⟨s1,s2⟩:=Zf5 hm0
       have nn:NN []:=fun x=>rfl
       have mX:mu [] X=X.size:=Zda X nn
       have sX:sub [] X=X:=Zbn X nn
       have eX:tot [(X,[])]=X.size:=by simp [tot,sX]
       rw [s1] at lm
       obtain ⟨h2,o52,o62,o72,e,q2⟩:=Zin H n (o1:=o1) (o2:=o2) fuel (V++[(X,[])]) F1 u1 h1 o51 o61 o71 (lm.le (by rw [Zbh,eX];omega)) (by rw [Zdx];simp [tmu,mX] at *;omega) (by rw [Zbh];simp [tot,sX];rw [s1] at hz;simp [tot] at hz;omega) (by rw [Zdx];simp [tmu,mX] at *;omega) (fun p hp=>by
         rcases OD.mp hp with hp|hp
         . exact okV p hp
         . rw [Ox.mp hp]
           refine ⟨?_,fun x V e=>by cases e⟩
           cases t with
           | name y=>have:=hW.2 y X hm0;simp only [List.length_nil];omega
           | _=>cases hm0) (by simpa using q1)
       refine ⟨h2,o52,o62,o72,step _ e,?_⟩
       rw [Zmo V t X ar hm0,show tot (V++[(t,ar)])=tot (V++[(X,[])]) by rw [Zbh,Zbh,e1,eX,s1]]
       exact q2
end Tm
end
section
namespace Tm
open PySem L2 IV
variable {P:Pg}
theorem grown{h0 h:Hd}(hl:h0.length<=h.length)(old:∀ i,i<h0.length->h[i]? = h0[i]?):∃ g,h=h0++g:=⟨h.drop h0.length,by
 apply List.ext_getElem?
 intro i
 rcases Nat.lt_or_ge i h0.length with q|q
 . rw [old i q,Oe q]
 . rw [Om q,List.getElem?_drop]
   congr 1
   omega⟩
noncomputable def Aft(h0 h:Hd)(pk:Nat)(mo:D)(u:Int):Prop:=h[pk]? = some (Za1 mo u)/\h0.length<=h.length/\∀ i,i<h0.length->i≠pk->h[i]? = h0[i]?
theorem ZkZ(H:Trm P)(n:Nat)(t:T)(ar:Ar){mo:D}{h0 h:Hd}{pk:Nat}{u:Int}(a:Aft h0 h pk mo u)(lm:Lim mo (u+((sub ar t).size:Int)))(hw:Wok (t,ar))(hz:(sub ar t).size<=400000) :
   ∃ h',run P (n+3) (mnm (O "Pen") (O "filled")) [.ref pk,t.d,.tup (ar.map ard)] h=.ok (sub ar t).d h'/\Aft h0 h' pk mo (u+((sub ar t).size:Int)):=by
 obtain ⟨hp,hl,old⟩:=a
 rw [Zh3 H.n_Pen_filled H.Pen_filled (by rfl)]
 have q0:Fi mo h0 (h++[.lst [],.lst ([(t,ar)].map pr)]) pk h.length (h.length+1) u [] ([(t,ar)].map pr):=⟨keep hp,by simp,by simp,by omega,hl,by omega,by simp;omega,fun i hi hn=>by rw [Oe (by omega)];exact old i hi hn⟩
 have e1:tot [(t,ar)]=(sub ar t).size:=by simp [tot]
 have e2:tmu [(t,ar)]=mu ar t:=by simp [tmu]
 have ml:=Zdb t ar
 have big:=H.big
 obtain ⟨h1,o5,o6,o7,x,q1⟩:=Zin H n (o1:=some t.d) (o2:=some (.tup (ar.map ard))) P.L [(t,ar)] [] u _ none none none (by rw [e1];exact lm) (by rw [e2];omega) (by rw [e1];simp;omega) (by rw [e2];omega) (fun p hp=>by rw [Ox.mp hp];exact hw) q0
 have qf:=q1.f
 have ec:com [(t,ar)]=(sub ar t).places.map tf:=by simp [com]
 rw [ec,OB] at qf
 obtain ⟨g2,e3⟩:=Zjj H n (sub ar t) qf (by omega)
 have q2:=q1.app (g:=g2)
 refine ⟨h1++g2,?_,by rw [<- e1];exact q2.p,q2.ol,q2.old⟩
 have x1:xs1 (P.tbl (n+2)) (.set (.nm 3) (.lstl .nil)) [some (.ref pk),some t.d,some (.tup (ar.map ard)),none,none,none,none,none] h=.ok (.nx,[some (.ref pk),some t.d,some (.tup (ar.map ard)),some (.ref h.length),none,none,none,none]) (h++[.lst []]):=by simp [sizeLine_eq]
 have x2:xs1 (P.tbl (n+2)) (.set (.nm 4) (.lstl (.cons (.tupl (.cons (.var 1) (.cons (.var 2) .nil))) .nil))) [some (.ref pk),some t.d,some (.tup (ar.map ard)),some (.ref h.length),none,none,none,none] (h++[.lst []])=.ok (.nx,[some (.ref pk),some t.d,some (.tup (ar.map ard)),some (.ref h.length),some (.ref (h.length+1)),none,none,none]) (h++[.lst [],.lst ([(t,ar)].map pr)]):=by simp [sizeLine_eq,pr]
 have x3:xs1 (P.tbl (n+2)) (.whl (.ex (.var 4)) ZbG) [some (.ref pk),some t.d,some (.tup (ar.map ard)),some (.ref h.length),some (.ref (h.length+1)),none,none,none] (h++[.lst [],.lst ([(t,ar)].map pr)])=.ok (.nx,[some (.ref pk),some t.d,some (.tup (ar.map ard)),some (.ref h.length),some (.ref (h.length+1)),o5,o6,o7]) h1:=x
 have x4:xs1 (P.tbl (n+2)) (.ret (.call (O "built") (.cons (.var 3) .nil))) [some (.ref pk),some t.d,some (.tup (ar.map ard)),some (.ref h.length),some (.ref (h.length+1)),o5,o6,o7] h1=.ok (.rt (sub ar t).d,[some (.ref pk),some t.d,some (.tup (ar.map ard)),some (.ref h.length),some (.ref (h.length+1)),o5,o6,o7]) (h1++g2):=by simp [Pg.tbl,e3]
 show Zn (xs2 (P.tbl (n+2)) Zci [some (.ref pk),some t.d,some (.tup (ar.map ard)),none,none,none,none,none] h)=_
 rw [Zn6,Za x1,Za x2,Za x3,Zf x4]
 rfl
noncomputable abbrev Fil:=List (Str×T)
noncomputable def Fil.ar(f:Fil):Ar:=f.map fun p=>(p.1,some p.2)
noncomputable def Fil.kv(f:Fil):List (Key×D):=f.map fun p=>(.inr p.1,p.2.d)
theorem Zi3:∀ {f:Fil}{x:Str}{V:T},(f.map (·.1)).Nodup->(x,V)∈f->Zab f.kv (.inr x)=some V.d
 | (y,W)::r,x,V,nd,hm=>by
   rw [Op,List.nodup_cons] at nd
   unfold Zab Fil.kv
   rw [Op,List.find?_cons]
   rcases O2.mp hm with e|hm
   . cases e
     simp
   . have ne:y≠x:=fun z=>nd.1 (by rw [z];exact List.mem_map.mpr ⟨(x,V),hm,rfl⟩)
     have:¬ (Sum.inr y:Key)=Sum.inr x:=fun z=>ne (Sum.inr.inj z)
     simp only [this,decide_false]
     exact Zi3 nd.2 hm
noncomputable def fe1:Ex:=(.tupl (.cons (.var 0) (.cons (.tupl (.cons (.cst (.str (O "clo"))) (.cons (.ix (.var 1) (.var 0)) (.cons (.tupl .nil) .nil)))) .nil)))
theorem ZoR{U:Tb}{h:Hd}{dk:Nat}{f:Fil}(nd:(f.map (·.1)).Nodup)(hd:h[dk]? = some (.fdic f.kv)):∀ (r:Fil) (acc:List D),(∀ p∈r,p∈f)->acc.length+r.length<=1000 ->
   Zx none (.nm 0) (tsto U none) (ev U fe1) (r.map fun p=>D.str p.1) [none,some (.ref dk)] acc h=.ok (acc++r.ar.map ard) h
 | [],acc,_,_=>by simp [Zx,Wk.stays,Fil.ar]
 | (x,V)::r,acc,hm,hz=>by
   have ih:=ZoR (U:=U) nd hd r (acc++[ard (x,some V)]) (fun p hp=>hm p (Oh _ hp)) (by simp at hz ⊢;omega)
   have hl:acc.length<16777216:=by simp at hz;omega
   have hv:=Zi3 nd (hm (x,V) Oi)
   have ix:ZaD U.GD (.ref dk) (.str x) h=.ok V.d h:=by simp [ZaD,dicOf,hd,hv]
   have ee:ev U fe1 [some (.str x),some (.ref dk)] h=.ok (ard (x,some V)) h:=by simp [fe1,ix,sizeLine_eq,ard,thd]
   rw [Op,ZF]
   simp [Wk.stays,hl,sizeLine_eq,ee]
   simpa [Fil.ar] using ih
theorem ZoC(H:Trm P)(n:Nat)(t:T)(f:Fil){h0 h:Hd}{dk:Nat}(nd:(f.map (·.1)).Nodup)(hf:f.length<=100)(hd:h[dk]? = some (.dic f.kv))(ho:h0.length<=dk)(hl:h0.length<=h.length)(old:∀ i,i<h0.length->h[i]? = h0[i]?)(hw:Wok (t,f.ar))(hz:(sub f.ar t).size<=400000) :
   ∃ g,run P (n+4) (O "put_in") [t.d,.ref dk] h=.ok (sub f.ar t).d (h0++g):=by
 rw [Zd H.put_in (by rfl)]
 have hdl:=ZT hd
 generalize hh1:h.set dk (.fdic f.kv)=h1
 have d1:h1[dk]? = some (.fdic f.kv):=by rw [<- hh1,Ol hdl]
 have l1:h1.length=h.length:=by rw [<- hh1];simp
 have old1:∀ i,i<h0.length->h1[i]? = h0[i]? := fun i hi=>by rw [<- hh1,Oc (by omega)];exact old i hi
 have ec:=ZoR (U:=P.tbl (n+3)) nd d1 f [] (fun p hp=>hp) (by simp;omega)
 have ks:(f.kv.map fun p=>ZlO p.1)=f.map fun p=>D.str p.1:=by simp [Fil.kv,ZlO,Function.comp_def]
 have x1:xs1 (P.tbl (n+3)) Zcg [some t.d,some (.ref dk),none] h=.ok (.nx,[some t.d,some (.ref dk),some (.tup (f.ar.map ard))]) (h1++[.lst (f.ar.map ard)]):=by
   have ei:evi (P.tbl (n+3)) (.dk (.var 1)) [some t.d,some (.ref dk),none] h=.ok ⟨none,f.map fun p=>D.str p.1⟩ h1:=by
     simp [Zl6,hd,hh1,ks]
   have ev1:ev (P.tbl (n+3)) (.comp [(O "name"),(O "filling")] [none,some 1] (.dk (.var 1)) (.nm 0) none fe1) [some t.d,some (.ref dk),none] h=.ok (.ref h1.length) (h1++[.lst (f.ar.map ard)]):=by
     rw [ZcX,ei,Ze]
     simp only [ZaM,Op,Oy,Option.bind_none,Option.bind_some]
     rw [show ([some t.d,some (D.ref dk),none][1]?).join=some (.ref dk) from rfl,ec]
     rfl
   unfold fe1 at ev1
   simp [-ZcX,Zcg,ev1,Z5,ZhR,lstOf]
 generalize hh2:h1++[DO.lst (f.ar.map ard)]=h2 at x1
 have l2:h2.length=h.length+1:=by rw [<- hh2];simp [l1]
 have old2:∀ i,i<h0.length->(h2++[Za1 .non 0])[i]? = h0[i]? := fun i hi=>by
   rw [Oe (by omega),<- hh2,Oe (by omega)]
   exact old1 i hi
 have ep:=ZoD H (n+2) .non h2
 obtain ⟨h3,e,a3⟩:=ZkZ H n t f.ar (mo:=.non) (h0:=h0) (h:=h2++[Za1 .non 0]) (pk:=h2.length) (u:=0) ⟨by simp,by simp;omega,fun i hi _=>old2 i hi⟩ (.inl rfl) hw hz
 obtain ⟨g,rfl⟩:=grown a3.2.1 (fun i hi=>a3.2.2 i hi (by omega))
 refine ⟨g,?_⟩
 have io:Zaa (.ref h2.length) (h2++[Za1 .non 0])=some (O "Pen",[(O "most",.non),(O "used",.int 0)]):=by simp [Zaa,Za1]
 have x2:xs1 (P.tbl (n+3)) Zcf [some t.d,some (.ref dk),some (.tup (f.ar.map ard))] h2=.ok (.rt (sub f.ar t).d,[some t.d,some (.ref dk),some (.tup (f.ar.map ard))]) (h0++g):=by
   simp [Zcf,Pg.tbl,ep,io,List.lookup,e]
 show Zn (xs2 (P.tbl (n+3)) (.cons Zcg (.cons Zcf .nil)) [some t.d,some (.ref dk),none] h)=_
 rw [Za x1,Zf x2]
 rfl
end Tm
end
section
namespace Tm
open PySem L2 IV
variable {P:Pg}{h:Hd}
noncomputable def isV:T->Bool
 | .num _|.fn _ _|.rcc _ _ _=>true
 | _=>false
noncomputable def pf:T->List T
 | .iff c _ _=>[c]
 | t=>t.parts
noncomputable def ZdP:Nat->List T->Option Nat
 | _,[]=>none
 | k,t::r=>if isV t then ZdP (k+1) r else some k
noncomputable def fo(t:T):Option Nat:=ZdP 1 (pf t)
noncomputable def oN:Option Nat->D
 | some k=>.int (k:Int)
 | none=>.non
theorem ZoE (H:Trm P) (n:Nat) (t:T):run P (n+1) (O "is_value") [t.d] h=.ok (.bl (isV t)) h:=by
 rw [Zd H.is_value (by cases t<;>rfl)]
 refine ZrY (U:=P.tbl n) (fun U=>Zn (xs2 U Zau.body (Zk Zau.N [t.d]) h)) H.gv ?_ ?_
 . cases t with
   | op w a b=>cases w<;>exact rfl
   | _=>exact rfl
 . cases t with
   | op w a b=>cases w<;>exact rfl
   | _=>exact rfl
theorem ZsM (H:Trm P) (n:Nat) (t:T):run P (n+2) (O "parts_first") [t.d] h=.ok (.tup ((pf t).map T.d)) h:=by
 rw [Zd H.parts_first (by cases t<;>rfl)]
 have ep:=Gn.ZeI H.toTre n t h
 cases t with
 | iff c a b=>exact rfl
 | op w a b=>exact ZfE (U:=P.tbl (n+1)) (fun U=>Zn (xs2 U Zs.body (Zk Zs.N [(T.op w a b).d]) h)) ep (by cases w<;>rfl) (by cases w<;>rfl)
 | _=>exact ZfE (U:=P.tbl (n+1)) (fun U=>Zn (xs2 U Zs.body (Zk Zs.N [T.d _]) h)) ep rfl rfl
noncomputable def Zeq:Sxs:=(.cons (.iff (.nt (.ex (.call (O "is_value") (.cons (.var 2) .nil)))) (.cons (.ret (.var 1)) .nil) .nil) .nil)
noncomputable def cnt(k:Nat):List T->List D
 | []=>[]
 | t::r=>.tup [.int ((k+1:Nat):Int),t.d]::cnt (k+1) r
theorem ZhH:∀ (ts:List T) (k:Nat),((ts.map T.d).mapIdx fun i x=>D.tup [.int ((k+i+1:Nat):Int),x])=cnt k ts
 | [],_=>rfl
 | t::r,k=>by
   rw [Op,List.mapIdx_cons,cnt,<- ZhH r (k+1)]
   congr 1
   . congr 1
     funext i x
     congr 4
     omega
theorem ZrI(H:Trm P)(n:Nat){E:D}:∀ (ts:List T) (k:Nat) (a b:Option D),(∃ S,Z0 none (.two 1 2) (xs2 (P.tbl (n+1)) Zeq) (cnt k ts) [some E,a,b] h=.ok (.rt (oN (ZdP (k+1) ts)),S) h)\/(ZdP (k+1) ts=none/\∃ S,Z0 none (.two 1 2) (xs2 (P.tbl (n+1)) Zeq) (cnt k ts) [some E,a,b] h=.ok (.nx,S) h)
 | [],k,a,b=>.inr ⟨rfl,_,rfl⟩
 | t::r,k,a,b=>by
   have ev:=ZoE H n (h:=h) t
   rw [cnt,Z4]
   cases hv:isV t with
   | false =>
     rw [hv] at ev
     refine .inl ⟨[some E,some (.int ((k+1:Nat):Int)),some t.d],?_⟩
     simp [Zeq,Pg.tbl,ev,ZdP,hv,oN]
   | true =>
     rw [hv] at ev
     have x:xs2 (P.tbl (n+1)) Zeq [some E,some (.int ((k+1:Nat):Int)),some t.d] h=.ok (.nx,[some E,some (.int ((k+1:Nat):Int)),some t.d]) h:=by simp [Zeq,Pg.tbl,ev]
     have ih:=ZrI H n (E:=E) r (k+1) (some (.int ((k+1:Nat):Int))) (some t.d)
     simp only [ZhM,List.set_cons_zero,List.set_cons_succ,x,Ze,ZdP,hv,if_true]
     exact ih
theorem Zq7 (H:Trm P) (n:Nat) (t:T):run P (n+3) (O "first_open") [t.d] h=.ok (oN (fo t)) h:=by
 rw [Zd H.first_open (by cases t<;>rfl)]
 have ep:=ZsM H n (h:=h) t
 have ei:evi (P.tbl (n+2)) (.en1 (.call (O "parts_first") (.cons (.var 0) .nil))) [some t.d,none,none] h=.ok ⟨none,cnt 0 (pf t)⟩ h:=by
   have e1:ev (P.tbl (n+2)) (.call (O "parts_first") (.cons (.var 0) .nil)) [some t.d,none,none] h=.ok (.tup ((pf t).map T.d)) h:=ep
   rw [Zn8,e1,Ze]
   have:=ZhH (pf t) 0
   simp only [Nat.zero_add] at this
   simp only [Zdo,this]
 show Zn (xs2 (P.tbl (n+2)) (.cons (.forr (.two 1 2) (.en1 (.call (O "parts_first") (.cons (.var 0) .nil))) Zeq) (.cons (.ret (.cst .non)) .nil)) [some t.d,none,none] h)=_
 rcases ZrI H (n+1) (E:=t.d) (h:=h) (pf t) 0 none none with ⟨S,q⟩|⟨q0,S,q⟩
 . have x:xs1 (P.tbl (n+2)) (.forr (.two 1 2) (.en1 (.call (O "parts_first") (.cons (.var 0) .nil))) Zeq) [some t.d,none,none] h=.ok (.rt (oN (fo t)),S) h:=by
     rw [Zcq,ei,Ze]
     exact q
   rw [Zf x]
   rfl
 . have x:xs1 (P.tbl (n+2)) (.forr (.two 1 2) (.en1 (.call (O "parts_first") (.cons (.var 0) .nil))) Zeq) [some t.d,none,none] h=.ok (.nx,S) h:=by
     rw [Zcq,ei,Ze]
     exact q
   rw [Za x]
   have:fo t=none:=q0
   rw [this]
   rfl
noncomputable def pth:T->List (T×Nat)
 | .call f a=>if isV f then (if isV a then [] else (.call f a,2)::pth a) else (.call f a,1)::pth f
 | .op w f a=>if isV f then (if isV a then [] else (.op w f a,2)::pth a) else (.op w f a,1)::pth f
 | .iff c t e=>if isV c then [] else (.iff c t e,1)::pth c
 | _=>[]
noncomputable def bot:T->T
 | .call f a=>if isV f then (if isV a then .call f a else bot a) else bot f
 | .op w f a=>if isV f then (if isV a then .op w f a else bot a) else bot f
 | .iff c t e=>if isV c then .iff c t e else bot c
 | t=>t
noncomputable def Zbg(t:T):List D:=(pth t).map (fun p=>D.tup [p.1.d,.int (p.2:Int)])++[.tup [(bot t).d,.non]]
theorem ZmN(t:T)(nv:isV t=false)(nn:∀ x,t≠.name x):(fo t=none/\pth t=[]/\bot t=t)\/∃ k s,fo t=some k/\pth t=(t,k)::pth s/\bot t=bot s/\isV s=false/\s∈t.parts/\(∀ GD,ZaD GD t.d (.int (k:Int)) h=.ok s.d h):=by
 cases t with
 | num _=>cases nv
 | fn _ _=>cases nv
 | rcc _ _ _=>cases nv
 | name x=>exact absurd rfl (nn x)
 | call f a =>
   cases hf:isV f with
   | false=>exact .inr ⟨1,f,by simp [fo,pf,T.parts,ZdP,hf],by simp [pth,hf],by simp [bot,hf],hf,by simp [T.parts],fun GD=>by simp [T.d]⟩
   | true =>
     cases ha:isV a with
     | false=>exact .inr ⟨2,a,by simp [fo,pf,T.parts,ZdP,hf,ha],by simp [pth,hf,ha],by simp [bot,hf,ha],ha,by simp [T.parts],fun GD=>by simp [T.d]⟩
     | true=>exact .inl ⟨by simp [fo,pf,T.parts,ZdP,hf,ha],by simp [pth,hf,ha],by simp [bot,hf,ha]⟩
 | op w f a =>
   cases hf:isV f with
   | false=>exact .inr ⟨1,f,by simp [fo,pf,T.parts,ZdP,hf],by simp [pth,hf],by simp [bot,hf],hf,by simp [T.parts],fun GD=>by simp [T.d]⟩
   | true =>
     cases ha:isV a with
     | false=>exact .inr ⟨2,a,by simp [fo,pf,T.parts,ZdP,hf,ha],by simp [pth,hf,ha],by simp [bot,hf,ha],ha,by simp [T.parts],fun GD=>by simp [T.d]⟩
     | true=>exact .inl ⟨by simp [fo,pf,T.parts,ZdP,hf,ha],by simp [pth,hf,ha],by simp [bot,hf,ha]⟩
 | iff c a b =>
   cases hf:isV c with
   | false=>exact .inr ⟨1,c,by simp [fo,pf,ZdP,hf],by simp [pth,hf],by simp [bot,hf],hf,by simp [T.parts],fun GD=>by simp [T.d]⟩
   | true=>exact .inl ⟨by simp [fo,pf,ZdP,hf],by simp [pth,hf],by simp [bot,hf]⟩
end Tm
end
section
namespace Tm
open PySem L2 IV
variable {P:Pg}{h:Hd}
theorem ZoH{l:List D}{a:D}:atI (l++[a]) (-1)=some a:=ZhT
theorem Zqj{l:List D}{a:D}:cutD (l++[a]) none (some (-1))=l:=by
 have e:HT.sIx (l++[a]).length (l++[a]).length (some (-1))=l.length:=by simp [HT.sIx];omega
 have e0:HT.sIx (l++[a]).length 0 none=0:=by simp [HT.sIx]
 unfold cutD
 rw [e,e0]
 simp
theorem Zoc{t s:T}(c:Gn.Cl [] t)(nv:isV t=false)(hs:s∈t.parts):Gn.Cl [] s:=by
 cases t with
 | num _=>cases nv
 | fn _ _=>cases nv
 | rcc _ _ _=>cases nv
 | name _=>cases hs
 | call f a=>simp [T.parts] at hs;rcases hs with rfl|rfl;exact c.1;exact c.2
 | op w f a=>simp [T.parts] at hs;rcases hs with rfl|rfl;exact c.1;exact c.2
 | iff f a b=>simp [T.parts] at hs;rcases hs with rfl|rfl|rfl;exact c.1;exact c.2.1;exact c.2.2
theorem ZrX{t:T}(c:Gn.Cl [] t):∀ x,t≠.name x:=fun x e=>by subst e;cases c
noncomputable def wd(t:T):D:=.tup [t.d,oN (fo t)]
noncomputable def wc:Tx:=(.ex (.cmp .IsNot (.ix (.ix (.var 1) (.neg (.cst (.int 1)))) (.cst (.int 1))) (.cst .non)))
noncomputable def Zfi:Sxs:=(.cons (.set (.nm 2) (.ix (.ix (.ix (.var 1) (.neg (.cst (.int 1)))) (.cst (.int 0))) (.ix (.ix (.var 1) (.neg (.cst (.int 1)))) (.cst (.int 1))))) (.cons (.drp (.meth .app (.var 1) (.cons (.tupl (.cons (.var 2) (.cons (.call (O "first_open") (.cons (.var 2) .nil)) .nil))) .nil))) .nil))
theorem ZoI(H:Trm P)(n:Nat){E:D}:∀ (fuel:Nat) (t:T) (A:List D) (o2:Option D),t.size<=fuel->A.length+t.size<=1000000->Gn.Cl [] t->isV t=false->∃ o2',
   ZQ (tst (P.tbl (n+3)) wc) (xs2 (P.tbl (n+3)) Zfi) fuel [some E,some (.ref h.length),o2] (h++[.lst (A++[wd t])])=.ok (.nx,[some E,some (.ref h.length),o2']) (h++[.lst (A++Zbg t)])
 | 0,t,A,o2,hf,_,_,_=>by have:=ZS t;omega
 | fuel+1,t,A,o2,hf,hz,c,nv=>by
   have ix:∀ (B_:List D) (b:D),ZaD P.GD (.ref h.length) (.int (-1)) (h++[.lst (B_++[b])])=.ok b (h++[.lst (B_++[b])]):=fun B_ b=>by rw [Zu (xs:=B_++[b]) (by simp),ZoH];rfl
   rcases ZmN (h:=h++[.lst (A++[wd t])]) t nv (ZrX c) with ⟨h1,h2,h3⟩|⟨k,s,h1,h2,h3,h4,h5,h6⟩
   . refine ⟨o2,?_⟩
     have i1:=ix A (wd t)
     rw [Zt]
     simp only [wd,h1,oN] at i1 ⊢
     have te:tst (P.tbl (n+3)) wc [some E,some (.ref h.length),o2] (h++[.lst (A++[.tup [t.d,.non]])])=.ok false (h++[.lst (A++[.tup [t.d,.non]])]):=by simp [wc,Pg.tbl,i1]
     rw [te,Ze,if_neg (by decide)]
     simp [Zbg,h2,h3]
   . have sl:=Zjp h5
     obtain ⟨o2',e⟩:=ZoI H n (E:=E) fuel s (A++[wd t]) (some s.d) (by omega) (by simp;omega) (Zoc c nv h5) h4
     refine ⟨o2',?_⟩
     have i1:=ix A (wd t)
     have i2:=h6 P.GD
     have ef:=Zq7 H n (h:=h++[.lst (A++[wd t])]) s
     have te:tst (P.tbl (n+3)) wc [some E,some (.ref h.length),o2] (h++[.lst (A++[wd t])])=.ok true (h++[.lst (A++[wd t])]):=by
       unfold wd at i1 ⊢
       simp only [h1,oN] at i1 ⊢
       simp [wc,Pg.tbl,i1]
     have x1:xs1 (P.tbl (n+3)) (.set (.nm 2) (.ix (.ix (.ix (.var 1) (.neg (.cst (.int 1)))) (.cst (.int 0))) (.ix (.ix (.var 1) (.neg (.cst (.int 1)))) (.cst (.int 1))))) [some E,some (.ref h.length),o2] (h++[.lst (A++[wd t])])=.ok (.nx,[some E,some (.ref h.length),some s.d]) (h++[.lst (A++[wd t])]):=by
       unfold wd at i1 i2 ⊢
       simp only [h1,oN] at i1 i2 ⊢
       simp [Pg.tbl,i1,i2]
     have ap:=ZZ (h:=h++[.lst (A++[wd t])]) (i:=h.length) (ys:=A++[wd t]) (d:=wd s) (by simp) (by rw [sizeLine_eq];simp;omega)
     have il:Zcl (.ref h.length) (h++[.lst (A++[wd t])])=true:=by simp [Zcl]
     have x2:xs1 (P.tbl (n+3)) (.drp (.meth .app (.var 1) (.cons (.tupl (.cons (.var 2) (.cons (.call (O "first_open") (.cons (.var 2) .nil)) .nil))) .nil))) [some E,some (.ref h.length),some s.d] (h++[.lst (A++[wd t])])=.ok (.nx,[some E,some (.ref h.length),some s.d]) (h++[.lst (A++[wd t]++[wd s])]):=by
       rw [ZoF] at ap
       generalize hh:h++[DO.lst (A++[wd t])]=h1 at *
       unfold wd at ap ⊢
       simp [Pg.tbl,il,ef,sizeLine_eq,ap]
     rw [Zt,te,Ze,if_pos rfl,Zfi,Za x1,Za x2]
     show ZQ (tst (P.tbl (n+3)) wc) (xs2 (P.tbl (n+3)) Zfi) fuel [some E,some (.ref h.length),some s.d] (h++[.lst (A++[wd t]++[wd s])])=_
     rw [e]
     simp [Zbg,h2,h3,wd,h1,oN]
theorem Zq4 (H:Trm P) (n:Nat) (t:T) (c:Gn.Cl [] t) (nv:isV t=false) (hz:t.size<=100000):run P (n+4) (O "way_down") [t.d] h=.ok (.ref h.length) (h++[.lst (Zbg t)]):=by
 rw [Zd H.way_down (by rfl)]
 have ef:=Zq7 H n (h:=h) t
 have big:=H.big
 obtain ⟨o2,e⟩:=ZoI H n (h:=h) (E:=t.d) P.L t [] none (by omega) (by simp;omega) c nv
 have x1:xs1 (P.tbl (n+3)) (.set (.nm 1) (.lstl (.cons (.tupl (.cons (.var 0) (.cons (.call (O "first_open") (.cons (.var 0) .nil)) .nil))) .nil))) [some t.d,none,none] h=.ok (.nx,[some t.d,some (.ref h.length),none]) (h++[.lst ([]++[wd t])]):=by
   simp [Pg.tbl,ef,sizeLine_eq,wd]
 have x2:xs1 (P.tbl (n+3)) (.whl wc Zfi) [some t.d,some (.ref h.length),none] (h++[.lst ([]++[wd t])])=.ok (.nx,[some t.d,some (.ref h.length),o2]) (h++[.lst ([]++Zbg t)]):=e
 have x3:xs1 (P.tbl (n+3)) (.ret (.var 1)) [some t.d,some (.ref h.length),o2] (h++[.lst ([]++Zbg t)])=.ok (.rt (.ref h.length),[some t.d,some (.ref h.length),o2]) (h++[.lst ([]++Zbg t)]):=by simp
 show Zn (xs2 (P.tbl (n+3)) (.cons (.set (.nm 1) (.lstl (.cons (.tupl (.cons (.var 0) (.cons (.call (O "first_open") (.cons (.var 0) .nil)) .nil))) .nil))) (.cons (.whl wc Zfi) (.cons (.ret (.var 1)) .nil))) [some t.d,none,none] h)=_
 rw [Za x1,Za x2,Zf x3]
 rfl
noncomputable def Zck:T->Nat->T->T
 | .call _ a,1,u=>.call u a
 | .call f _,2,u=>.call f u
 | .op w _ a,1,u=>.op w u a
 | .op w f _,2,u=>.op w f u
 | .iff _ t e,1,u=>.iff u t e
 | s,_,_=>s
noncomputable def Zb0:List (T×Nat)->T->T
 | [],u=>u
 | (s,k)::r,u=>Zck s k (Zb0 r u)
noncomputable def Vp:T×Nat->Prop
 | (.call _ _,1)|(.call _ _,2)|(.op _ _ _,1)|(.op _ _ _,2)|(.iff _ _ _,1)=>True
 | _=>False
theorem Zd4:∀ t:T,∀ p∈pth t,Vp p
 | .num _,p,hp=>by cases hp
 | .name _,p,hp=>by cases hp
 | .fn _ _,p,hp=>by cases hp
 | .rcc _ _ _,p,hp=>by cases hp
 | .call f a,p,hp=>by
   simp only [pth] at hp
   split at hp
   . split at hp
     . cases hp
     . rcases O2.mp hp with rfl|hp
       . trivial
       . exact Zd4 a p hp
   . rcases O2.mp hp with rfl|hp
     . trivial
     . exact Zd4 f p hp
 | .op w f a,p,hp=>by
   simp only [pth] at hp
   split at hp
   . split at hp
     . cases hp
     . rcases O2.mp hp with rfl|hp
       . trivial
       . exact Zd4 a p hp
   . rcases O2.mp hp with rfl|hp
     . trivial
     . exact Zd4 f p hp
 | .iff c t e,p,hp=>by
   simp only [pth] at hp
   split at hp
   . cases hp
   . rcases O2.mp hp with rfl|hp
     . trivial
     . exact Zd4 c p hp
noncomputable def pd(p:T×Nat):D:=.tup [p.1.d,.int (p.2:Int)]
noncomputable def lb1:Sx:=(.set (.nm 2) (.bin .Add (.bin .Add (.sl (.var 3) none (some (.var 4))) (.tupl (.cons (.var 2) .nil))) (.sl (.var 3) (some (.bin .Add (.var 4) (.cst (.int 1)))) none)))
noncomputable def Zcc:Sxs:=(.cons lb1 .nil)
theorem Zo6{U:Tb}{a b:D}(p:T×Nat)(v:Vp p)(u:T):xs2 U Zcc [some a,some b,some u.d,some p.1.d,some (.int (p.2:Int))] h=.ok (.nx,[some a,some b,some (Zck p.1 p.2 u).d,some p.1.d,some (.int (p.2:Int))]) h:=by
 have o:∀ (xs ys:List D),xs.length+ys.length<=10->opB .Add (.tup xs) (.tup ys) h=.ok (.tup (xs++ys)) h:=fun xs ys q=>ZeM (by rw [sizeLine_eq];omega)
 obtain ⟨s,k⟩:=p
 have go:∀ r,xs1 U lb1 [some a,some b,some u.d,some s.d,some (.int (k:Int))] h=.ok (.nx,[some a,some b,some r,some s.d,some (.int (k:Int))]) h->xs2 U Zcc [some a,some b,some u.d,some s.d,some (.int (k:Int))] h=.ok (.nx,[some a,some b,some r,some s.d,some (.int (k:Int))]) h:=fun r e=>by
   rw [Zcc,Za e]
   rfl
 unfold Vp at v
 split at v
 . rename_i e;cases e;exact go _ (by simp [lb1,T.d,Zck,cutD,HT.sIx,o,sizeLine_eq])
 . rename_i e;cases e;exact go _ (by simp [lb1,T.d,Zck,cutD,HT.sIx,o,sizeLine_eq])
 . rename_i e;cases e;exact go _ (by simp [lb1,T.d,Zck,cutD,HT.sIx,o,sizeLine_eq])
 . rename_i e;cases e;exact go _ (by simp [lb1,T.d,Zck,cutD,HT.sIx,o,sizeLine_eq])
 . rename_i e;cases e;exact go _ (by simp [lb1,T.d,Zck,cutD,HT.sIx,o,sizeLine_eq])
 . cases v
theorem ZlL{U:Tb}{a b:D}{wk:Nat}{L:List D}(hw:h[wk]? = some (.lst L)):∀ (ps:List (T×Nat)) (rest:List D) (u:T) (o3 o4:Option D),(∀ p∈ps,Vp p)->∃ o3' o4',
   Z0 (some (wk,L)) (.two 3 4) (xs2 U Zcc) ((ps.map pd).reverse++rest) [some a,some b,some u.d,o3,o4] h=Z0 (some (wk,L)) (.two 3 4) (xs2 U Zcc) rest [some a,some b,some (Zb0 ps u).d,o3',o4'] h
 | [],rest,u,o3,o4,_=>⟨o3,o4,rfl⟩
 | p::ps,rest,u,o3,o4,v=>by
   obtain ⟨o31,o41,e⟩:=ZlL (U:=U) (a:=a) (b:=b) hw ps (pd p::rest) u o3 o4 (fun q hq=>v q (Oh _ hq))
   refine ⟨some p.1.d,some (.int (p.2:Int)),?_⟩
   rw [Op,List.reverse_cons,Oz,List.cons_append,OB,e]
   exact ZcB hw rfl (Zo6 p (v p Oi) (Zb0 ps u))
theorem Zpj (H:Trm P) (n:Nat) {wk:Nat} (ps:List (T×Nat)) (u:T) (hw:h[wk]? = some (.lst (ps.map pd))) (v:∀ p∈ps,Vp p):run P (n+1) (O "put_back") [.ref wk,u.d] h=.ok (Zb0 ps u).d h:=by
 rw [Zd H.put_back (by rfl)]
 obtain ⟨o3,o4,e⟩:=ZlL (U:=P.tbl n) (a:=.ref wk) (b:=u.d) hw ps [] u none none v
 rw [List.append_nil,ZdR hw] at e
 have hwk:Zc2 (.ref wk) h=some ⟨some (wk,ps.map pd),ps.map pd⟩:=by simp [Zc2,hw]
 have x1:xs1 (P.tbl n) (.set (.nm 2) (.var 1)) [some (.ref wk),some u.d,none,none,none] h=.ok (.nx,[some (.ref wk),some u.d,some u.d,none,none]) h:=by simp
 have x2:xs1 (P.tbl n) (.forr (.two 3 4) (.rev (.var 0)) Zcc) [some (.ref wk),some u.d,some u.d,none,none] h=.ok (.nx,[some (.ref wk),some u.d,some (Zb0 ps u).d,o3,o4]) h:=by
   have ei:evi (P.tbl n) (.rev (.var 0)) [some (.ref wk),some u.d,some u.d,none,none] h=.ok ⟨some (wk,ps.map pd),(ps.map pd).reverse⟩ h:=by simp [hwk]
   rw [Zcq,ei,Ze]
   exact e
 have x3:xs1 (P.tbl n) (.ret (.var 2)) [some (.ref wk),some u.d,some (Zb0 ps u).d,o3,o4] h=.ok (.rt (Zb0 ps u).d,[some (.ref wk),some u.d,some (Zb0 ps u).d,o3,o4]) h:=by simp
 show Zn (xs2 (P.tbl n) (.cons (.set (.nm 2) (.var 1)) (.cons (.forr (.two 3 4) (.rev (.var 0)) Zcc) (.cons (.ret (.var 2)) .nil))) [some (.ref wk),some u.d,none,none,none] h)=_
 rw [Za x1,Za x2,Zf x3]
 rfl
end Tm
end
section
namespace Tm
open PySem L2 IV
variable {P:Pg}{h:Hd}
noncomputable def Zbf(f:Str)(F:T)(x:Str)(A:T):Fil:=if f=x then [(x,A)] else [(f,F),(x,A)]
noncomputable def bec:T->Option T
 | .call F A=>match F with
   | .fn x e=>some (sub (Fil.ar [(x,A)]) e)
   | .rcc f x e=>some (sub (Fil.ar (Zbf f (.rcc f x e) x A)) e)
   | _=>none
 | .iff c t e=>match c with
   | .num z=>some (if z=0 then e else t)
   | _=>none
 | .op w a b=>match a,b with
   | .num a,.num b=>some (.num (_root_.Rw.wk w a b))
   | _,_=>none
 | _=>none
noncomputable def next(t:T):Option T:=(bec (bot t)).map (Zb0 (pth t))
noncomputable def oT:Option T->D
 | some t=>t.d
 | none=>.non
theorem ZbO{M:Nat}(hM:1<=M):∀ (t:T) (ar:Ar),(∀ x V,get ar x=some V->V.size<=M)->(sub ar t).size<=t.size * M
 | .num _,_,_=>by simp [sub,T.size,T.places];omega
 | .name x,ar,hv=>by
   cases e:get ar x with
   | none=>simp [sub,e,T.size,T.places];omega
   | some V=>have:=hv x V e;simp [sub,e];simp [T.size,T.places] at *;omega
 | .fn x e,ar,hv=>by
   have ih:=ZbO hM e ((x,none)::ar) (fun y V q=>hv y V (Zbj [x] ar q))
   rw [sub,Zb,Zb (.fn x e)]
   simp [T.parts,Nat.add_mul] at ih ⊢
   omega
 | .rcc f x e,ar,hv=>by
   have ih:=ZbO hM e ((f,none)::(x,none)::ar) (fun y V q=>hv y V (Zbj [f,x] ar q))
   rw [sub,Zb,Zb (.rcc f x e)]
   simp [T.parts,Nat.add_mul] at ih ⊢
   omega
 | .call f a,ar,hv=>by
   have i1:=ZbO hM f ar hv
   have i2:=ZbO hM a ar hv
   rw [sub,Zb,Zb (.call f a)]
   simp [T.parts,Nat.add_mul] at i1 i2 ⊢
   omega
 | .op w f a,ar,hv=>by
   have i1:=ZbO hM f ar hv
   have i2:=ZbO hM a ar hv
   rw [sub,Zb,Zb (.op w f a)]
   simp [T.parts,Nat.add_mul] at i1 i2 ⊢
   omega
 | .iff c t e,ar,hv=>by
   have i1:=ZbO hM c ar hv
   have i2:=ZbO hM t ar hv
   have i3:=ZbO hM e ar hv
   rw [sub,Zb,Zb (.iff c t e)]
   simp [T.parts,Nat.add_mul] at i1 i2 i3 ⊢
   omega
theorem Zl2:∀ (f:Fil) {x:Str}{V:T},get f.ar x=some V->(x,V)∈f
 | [],x,V,e=>by cases e
 | (y,W)::r,x,V,e=>by
   rw [Fil.ar,Op,get] at e
   split at e
   . rename_i q
     cases e
     rw [<- q]
     exact Oi
   . exact Oh _ (Zl2 r e)
theorem ZgD{t:T}{f:Fil}(ht:t.size<=300)(hf:f.length<=2)(hs:∀ p∈f,p.2.size<=300):Wok (t,f.ar)/\(sub f.ar t).size<=400000/\(sub f.ar t).size<=t.size * 300:=by
 have hv:∀ x V,get f.ar x=some V->V.size<=300:=fun x V e=>hs (x,V) (Zl2 f e)
 have:=ZbO (M:=300) (by omega) t f.ar hv
 refine ⟨⟨?_,fun x V e=>by have:=hv x V e;omega⟩,by omega,this⟩
 have:f.ar.length=f.length:=by simp [Fil.ar]
 simp only
 omega
theorem Zk1 (H:Trm P) (n:Nat) (F A:T) (hv:isV F=true) (hF:F.size<=300) (hA:A.size<=300):∃ g,run P (n+5) (O "called") [F.d,A.d] h=.ok (oT (bec (.call F A))) (h++g):=by
 rw [Zd H.called (by cases F<;>rfl)]
 have gr:∀ (f:Fil),∃ k,k=h.length/\(h++[DO.dic f.kv])[k]? = some (.dic f.kv):=fun f=>⟨_,rfl,by simp⟩
 cases F with
 | num z=>exact ⟨[],by rw [List.append_nil];exact rfl⟩
 | fn x e =>
   have he:e.size<=300:=by rw [Zb] at hF;simp [T.parts] at hF;omega
   obtain ⟨w1,w2,_⟩:=ZgD (t:=e) (f:=[(x,A)]) he (by simp) (by simp;omega)
   obtain ⟨g,q⟩:=ZoC H n e [(x,A)] (h0:=h) (h:=h++[.dic (Fil.kv [(x,A)])]) (dk:=h.length) (by simp) (by simp) (by simp) (Oq _) (by simp) (fun i hi=>Oe hi) w1 w2
   refine ⟨g,?_⟩
   exact rt1 (U:=P.tbl (n+4)) (ss:=ZcN) (S:=[some (T.fn x e).d,some A.d]) (ZA q rfl rfl) rfl
 | rcc f x e =>
   have he:e.size<=300:=by rw [Zb] at hF;simp [T.parts] at hF;omega
   have hlen:(Zbf f (.rcc f x e) x A).length<=2:=by unfold Zbf;split<;>simp
   have hnd:((Zbf f (.rcc f x e) x A).map (·.1)).Nodup:=by
     unfold Zbf
     split
     . simp
     . simpa using (by assumption)
   obtain ⟨w1,w2,_⟩:=ZgD (t:=e) (f:=Zbf f (.rcc f x e) x A) he hlen (by
     unfold Zbf
     split
     . simp;omega
     . simp;exact ⟨hF,hA⟩)
   obtain ⟨g,q⟩:=ZoC H n e (Zbf f (.rcc f x e) x A) (h0:=h) (h:=h++[.dic (Fil.kv (Zbf f (.rcc f x e) x A))]) (dk:=h.length) hnd (by omega) (by simp) (Oq _) (by simp) (fun i hi=>Oe hi) w1 w2
   refine ⟨g,?_⟩
   have mg:ZbR [] [(Sum.inr f,(T.rcc f x e).d),(Sum.inr x,A.d)]=Fil.kv (Zbf f (.rcc f x e) x A):=by
     unfold Zbf
     by_cases z:f=x
     . subst z;simp [ZbR,putD,Fil.kv]
     . have:¬ (Sum.inr f:Key)=Sum.inr x:=fun q=>z (Sum.inr.inj q)
       simp [ZbR,putD,Fil.kv,z]
   rw [<- mg] at q
   show Zn (xs2 (P.tbl (n+4)) ZcN [some (T.rcc f x e).d,some A.d] h)=_
   rw [nx1 (U:=P.tbl (n+4)) (ss:=ZcN) (S:=[some (T.rcc f x e).d,some A.d]) (ρ1:=[some (T.rcc f x e).d,some A.d]) (h2:=h) rfl rfl]
   exact rt1 (U:=P.tbl (n+4)) (ss:=tlS ZcN) (ZA q rfl rfl) rfl
 | _=>cases hv
theorem Zk0 (H:Trm P) (n:Nat) (c a b:T) (hv:isV c=true):run P (n+1) (O "chosen") [c.d,a.d,b.d] h=.ok (oT (bec (.iff c a b))) h:=by
 rw [Zd H.chosen (by rfl)]
 cases c with
 | num z=>by_cases e:z=0<;>simp [Zb5,ZhQ,Zk,T.d,bec,oT,e]
 | fn x e=>exact rfl
 | rcc f x e=>exact rfl
 | _=>cases hv
theorem ZkV (H:Trm P) (n:Nat) (w:Wd) (a b:T) (va:isV a=true) (vb:isV b=true) (ca:Gn.Cl [] a) (cb:Gn.Cl [] b):run P (n+1) (O "worked") [.str w.s,a.d,b.d] h=.ok (oT (bec (.op w a b))) h:=by
 have no:∀ (a b:T),xs1 (P.tbl n) ZfF [some (.str w.s),some a.d,some b.d] h=.ok (.rt .non,[some (.str w.s),some a.d,some b.d]) h->run P (n+1) (O "worked") [.str w.s,a.d,b.d] h=.ok .non h:=fun a b e=>by
   rw [Zd H.worked (by rfl)]
   exact rt1 (U:=P.tbl n) (ss:=Zy) e rfl
 cases a with
 | num x =>
   cases b with
   | num y =>
     exact _root_.Rw.worked_nn H.worked H.gb n w ca cb
   | fn _ _=>exact no (.num x) (.fn _ _) rfl
   | rcc _ _ _=>exact no (.num x) (.rcc _ _ _) rfl
   | _=>cases vb
 | fn _ _=>exact no (.fn _ _) b rfl
 | rcc _ _ _=>exact no (.rcc _ _ _) b rfl
 | _=>cases va
noncomputable def Red:T->Prop
 | .call f a=>isV f=true/\isV a=true
 | .op _ f a=>isV f=true/\isV a=true
 | .iff c _ _=>isV c=true
 | _=>False
theorem Zce:∀ t:T,isV t=false->Gn.Cl [] t->Red (bot t)/\Gn.Cl [] (bot t)/\(bot t).size<=t.size
 | .num _,nv,_=>by cases nv
 | .name x,_,c=>by cases c
 | .fn _ _,nv,_=>by cases nv
 | .rcc _ _ _,nv,_=>by cases nv
 | .call f a,_,c=>by
   have z:(T.call f a).size=1+(f.size+a.size):=by rw [Zb];simp [T.parts]
   simp only [bot]
   split
   . split
     . exact ⟨⟨by assumption,by assumption⟩,c,Oq _⟩
     . rename_i q;have ih:=Zce a (by simpa using q) c.2;exact ⟨ih.1,ih.2.1,by omega⟩
   . rename_i q;have ih:=Zce f (by simpa using q) c.1;exact ⟨ih.1,ih.2.1,by omega⟩
 | .op w f a,_,c=>by
   have z:(T.op w f a).size=1+(f.size+a.size):=by rw [Zb];simp [T.parts]
   simp only [bot]
   split
   . split
     . exact ⟨⟨by assumption,by assumption⟩,c,Oq _⟩
     . rename_i q;have ih:=Zce a (by simpa using q) c.2;exact ⟨ih.1,ih.2.1,by omega⟩
   . rename_i q;have ih:=Zce f (by simpa using q) c.1;exact ⟨ih.1,ih.2.1,by omega⟩
 | .iff f a b,_,c=>by
   have z:(T.iff f a b).size=1+(f.size+(a.size+b.size)):=by rw [Zb];simp [T.parts]
   simp only [bot]
   split
   . exact ⟨by assumption,c,Oq _⟩
   . rename_i q;have ih:=Zce f (by simpa using q) c.1;exact ⟨ih.1,ih.2.1,by omega⟩
theorem Zk2 (H:Trm P) (n:Nat) (t:T) (r:Red t) (c:Gn.Cl [] t) (hz:t.size<=300):∃ g,run P (n+6) (O "become") [t.d] h=.ok (oT (bec t)) (h++g):=by
 rw [Zd H.become (by rfl)]
 cases t with
 | call F A =>
   have z:(T.call F A).size=1+(F.size+A.size):=by rw [Zb];simp [T.parts]
   obtain ⟨g,e⟩:=Zk1 H n (h:=h) F A r.1 (by omega) (by omega)
   exact ⟨g,rt1 (U:=P.tbl (n+5)) (ss:=ZaR) (S:=[some (T.call F A).d]) (ZA e rfl rfl) rfl⟩
 | iff a b d =>
   have e:=Zk0 H (n+4) (h:=h) a b d r
   exact ⟨[],by
     rw [List.append_nil]
     show Zn (xs2 (P.tbl (n+5)) ZaR [some (T.iff a b d).d] h)=_
     rw [nx1 (U:=P.tbl (n+5)) (ss:=ZaR) (S:=[some (T.iff a b d).d]) (ρ1:=[some (T.iff a b d).d]) (h2:=h) rfl rfl]
     exact rt1 (U:=P.tbl (n+5)) (ss:=tlS ZaR) (ZA e rfl rfl) rfl⟩
 | op w a b =>
   have e:=ZkV H (n+4) (h:=h) w a b r.1 r.2 c.1 c.2
   exact ⟨[],by
     rw [List.append_nil]
     show Zn (xs2 (P.tbl (n+5)) ZaR [some (T.op w a b).d] h)=_
     rw [nx1 (U:=P.tbl (n+5)) (ss:=ZaR) (S:=[some (T.op w a b).d]) (ρ1:=[some (T.op w a b).d]) (h2:=h) (by cases w<;>rfl) rfl,nx1 (U:=P.tbl (n+5)) (ss:=tlS ZaR) (S:=[some (T.op w a b).d]) (ρ1:=[some (T.op w a b).d]) (h2:=h) (by cases w<;>rfl) rfl]
     exact rt1 (U:=P.tbl (n+5)) (ss:=tlS (tlS ZaR)) (ZA e rfl rfl) rfl⟩
 | _=>cases r
noncomputable def ans (t:T):D:=if isV t then .tup [.str (O "value")] else match next t with
 | some u=>.tup [.str (O "loud"),u.d]
 | none=>.tup [.str (O "stuck")]
theorem Zf1 (H:Trm P) (n:Nat) (t:T) (c:Gn.Cl [] t) (hz:t.size<=300):∃ g,run P (n+7) (O "stepped") [t.d] h=.ok (ans t) (h++g):=by
 rw [Zd H.stepped (by rfl)]
 have ev:=ZoE H (n+5) (h:=h) t
 show ∃ g,Zn (xs2 (P.tbl (n+6)) (.cons ZbK (.cons ZcH (.cons ZbJ (.cons ZaA (.cons ZbI .nil))))) [some t.d,none,none] h)=_
 cases nv:isV t with
 | true =>
   rw [nv] at ev
   refine ⟨[],?_⟩
   have x1:xs1 (P.tbl (n+6)) ZbK [some t.d,none,none] h=.ok (.rt (.tup [.str (O "value")]),[some t.d,none,none]) h:=ZA ev rfl rfl
   rw [Zf x1,List.append_nil,ans,nv]
   rfl
 | false =>
   rw [nv] at ev
   have x1:xs1 (P.tbl (n+6)) ZbK [some t.d,none,none] h=.ok (.nx,[some t.d,none,none]) h:=ZA ev rfl rfl
   have ew:=Zq4 H (n+2) (h:=h) t c nv (by omega)
   have x2:xs1 (P.tbl (n+6)) ZcH [some t.d,none,none] h=.ok (.nx,[some t.d,some (.ref h.length),none]) (h++[.lst (Zbg t)]):=ZA ew rfl rfl
   obtain ⟨r1,r2,r3⟩:=Zce t nv c
   obtain ⟨g,eb⟩:=Zk2 H n (h:=h++[.lst (Zbg t)]) (bot t) r1 r2 (by omega)
   have ix:ZaD P.GD (.ref h.length) (.int (-1)) (h++[.lst (Zbg t)])=.ok (.tup [(bot t).d,.non]) (h++[.lst (Zbg t)]):=by rw [Zu (xs:=Zbg t) (by simp),Zbg,ZoH];rfl
   have x3:xs1 (P.tbl (n+6)) ZbJ [some t.d,some (.ref h.length),none] (h++[.lst (Zbg t)])=.ok (.nx,[some t.d,some (.ref h.length),some (oT (bec (bot t)))]) (h++[.lst (Zbg t)]++g):=by
     simp [ZbJ,Pg.tbl,ix,eb]
   rw [Za x1,Za x2,Za x3]
   have kw:(h++[DO.lst (Zbg t)]++g)[h.length]? = some (.lst (Zbg t)):=by simp
   cases hb:bec (bot t) with
   | none =>
     refine ⟨[.lst (Zbg t)]++g,?_⟩
     have x4:xs1 (P.tbl (n+6)) ZaA [some t.d,some (.ref h.length),some (oT none)] (h++[.lst (Zbg t)]++g)=.ok (.rt (.tup [.str (O "stuck")]),[some t.d,some (.ref h.length),some (oT none)]) (h++[.lst (Zbg t)]++g):=by simp [ZaA,oT,sizeLine_eq]
     rw [Zf x4,ans,nv,next,hb,<- Oz]
     rfl
   | some u =>
     generalize hh:h++[DO.lst (Zbg t)]++g=h1 at *
     have nn:u.d≠.non:=by cases u<;>simp [T.d]
     have x4:xs1 (P.tbl (n+6)) ZaA [some t.d,some (.ref h.length),some (oT (some u))] h1=.ok (.nx,[some t.d,some (.ref h.length),some (oT (some u))]) h1:=by simp [ZaA,oT,nn]
     have ep:=Zpj H (n+5) (h:=h1++[.lst ((pth t).map pd)]) (wk:=h1.length) (pth t) u (by simp) (Zd4 t)
     have sl:ZfL (.ref h.length) none (some (-1)) h1=.ok (.ref h1.length) (h1++[.lst ((pth t).map pd)]):=by
       have:cutD (Zbg t) none (some (-1))=(pth t).map pd:=by rw [Zbg,Zqj];rfl
       simp [ZfL,lstOf,kw,this]
     refine ⟨[.lst (Zbg t)]++g++[.lst ((pth t).map pd)],?_⟩
     have x5:xs1 (P.tbl (n+6)) ZbI [some t.d,some (.ref h.length),some (oT (some u))] h1=.ok (.rt (.tup [.str (O "loud"),(Zb0 (pth t) u).d]),[some t.d,some (.ref h.length),some (oT (some u))]) (h1++[.lst ((pth t).map pd)]):=by
       simp [ZbI,Pg.tbl,sl,oT,ep,sizeLine_eq]
     rw [Za x4,Zf x5,ans,nv,next,hb,<- Oz,<- Oz,hh]
     rfl
end Tm
end
section
namespace Tm
open PySem L2 IV
variable {P:Pg}{h:Hd}
noncomputable def Kp(ar:Ar)(sc sc':List Str):Prop:=∀ x∈sc,(∃ V,get ar x=some V/\Gn.Cl [] V)\/(get ar x=none/\x∈sc')
theorem Kp.bind{ar:Ar}{sc sc':List Str}(k:Kp ar sc sc')(y:Str):Kp ((y,none)::ar) (y::sc) (y::sc'):=fun x hx=>by
 unfold get
 by_cases e:y=x
 . rw [if_pos e]
   exact .inr ⟨rfl,by rw [e];exact Oi⟩
 . rw [if_neg e]
   rcases O2.mp hx with z|z
   . exact absurd z.symm e
   . rcases k x z with q|q
     . exact .inl q
     . exact .inr ⟨q.1,Oh _ q.2⟩
theorem Kp.two{ar:Ar}{sc sc':List Str}(k:Kp ar sc sc')(f x:Str):Kp ((f,none)::(x,none)::ar) (x::f::sc) (x::f::sc'):=fun z hz=>by
 have q:=(k.bind x).bind f z (by simp at hz ⊢;rcases hz with h|h|h<;>simp [h])
 rcases q with q|q
 . exact .inl q
 . exact .inr ⟨q.1,by have:=q.2;simp at this ⊢;rcases this with h|h|h<;>simp [h]⟩
theorem Zbw:∀ (t:T) {ar:Ar}{sc sc':List Str},Kp ar sc sc'->Gn.Cl sc t->Gn.Cl sc' (sub ar t)
 | .num _,_,_,_,_,c=>c
 | .name x,ar,sc,sc',k,c=>by
   rcases k x c with ⟨V,e,cv⟩|⟨e,m⟩
   . rw [sub,e]
     exact Gn.Cl.mono (fun y hy=>by cases hy) cv
   . rw [sub,e]
     exact m
 | .fn x e,_,_,_,k,c=>Zbw e (k.bind x) c
 | .rcc f x e,_,_,_,k,c=>⟨Zbw e (k.two f x) c.1,c.2⟩
 | .call f a,_,_,_,k,c=>⟨Zbw f k c.1,Zbw a k c.2⟩
 | .iff f a b,_,_,_,k,c=>⟨Zbw f k c.1,Zbw a k c.2.1,Zbw b k c.2.2⟩
 | .op _ f a,_,_,_,k,c=>⟨Zbw f k c.1,Zbw a k c.2⟩
theorem Zbv:∀ t:T,Gn.dep t<t.size
 | .num _=>by simp [Gn.dep,T.size,T.places]
 | .name _=>by simp [Gn.dep,T.size,T.places]
 | .fn x e=>by have:=Zbv e;rw [Zb];simp [Gn.dep,T.parts];omega
 | .rcc f x e=>by have:=Zbv e;rw [Zb];simp [Gn.dep,T.parts];omega
 | .call f a=>by have:=Zbv f;have:=Zbv a;rw [Zb];simp [Gn.dep,T.parts];omega
 | .op w f a=>by have:=Zbv f;have:=Zbv a;rw [Zb];simp [Gn.dep,T.parts];omega
 | .iff c t e=>by have:=Zbv c;have:=Zbv t;have:=Zbv e;rw [Zb];simp [Gn.dep,T.parts];omega
theorem Zma{f:Fil}(hc:∀ p∈f,Gn.Cl [] p.2)(sc:List Str)(hk:∀ x∈sc,x∈f.map (·.1)):Kp f.ar sc []:=fun x hx=>by
 have:∀ (f:Fil),(∀ p∈f,Gn.Cl [] p.2)->x∈f.map (·.1)->∃ V,get f.ar x=some V/\Gn.Cl [] V:=by
   intro f
   induction f with
   | nil=>intro _ z;cases z
   | cons p r ih =>
     intro hc z
     rw [Fil.ar,Op,get]
     by_cases e:p.1=x
     . rw [if_pos e]
       exact ⟨p.2,rfl,hc p Oi⟩
     . rw [if_neg e]
       rw [Op] at z
       rcases O2.mp z with q|q
       . exact absurd q.symm e
       . exact ih (fun p hp=>hc p (Oh _ hp)) q
 exact .inl (this f hc (hk x hx))
theorem Zom(t u:T)(r:Red t)(c:Gn.Cl [] t)(hz:t.size<=300)(e:bec t=some u):Gn.Cl [] u/\u.size<=t.size * 300:=by
 cases t with
 | call F A =>
   have z:(T.call F A).size=1+(F.size+A.size):=by rw [Zb];simp [T.parts]
   cases F with
   | fn x b =>
     cases e
     have zb:(T.fn x b).size=1+b.size:=by rw [Zb];simp [T.parts]
     have fo:=ZgD (t:=b) (f:=[(x,A)]) (by omega) (by simp) (by simp;omega)
     refine ⟨Zbw b (Zma (by simp;exact c.2) [x] (by simp)) c.1,OE fo.2.2 (Nat.mul_le_mul_right _ (by rw [z,zb];omega))⟩
   | rcc f x b =>
     cases e
     have zb:(T.rcc f x b).size=1+b.size:=by rw [Zb];simp [T.parts]
     have mem:∀ p∈Zbf f (.rcc f x b) x A,p.2=.rcc f x b\/p.2=A:=by
       intro p hp
       unfold Zbf at hp
       split at hp
       . simp at hp;rw [hp];exact .inr rfl
       . simp at hp;rcases hp with rfl|rfl
         . exact .inl rfl
         . exact .inr rfl
     have fo:=ZgD (t:=b) (f:=Zbf f (.rcc f x b) x A) (by omega) (by unfold Zbf;split<;>simp) (fun p hp=>by rcases mem p hp with q|q<;>rw [q]<;>omega)
     refine ⟨Zbw b (Zma (fun p hp=>by rcases mem p hp with q|q<;>rw [q];exact c.1;exact c.2) [x,f] (by unfold Zbf;split<;>simp_all)) c.1.1,OE fo.2.2 (Nat.mul_le_mul_right _ (by rw [z,zb];omega))⟩
   | _=>cases e
 | iff a b d =>
   have z:(T.iff a b d).size=1+(a.size+(b.size+d.size)):=by rw [Zb];simp [T.parts]
   cases a with
   | num m =>
     simp only [bec,Option.some.injEq] at e
     subst e
     split
     . exact ⟨c.2.2,by omega⟩
     . exact ⟨c.2.1,by omega⟩
   | _=>cases e
 | op w a b =>
   cases a with
   | num x =>
     cases b with
     | num y =>
       cases e
       have:=_root_.Rw.wk_ok w x y
       exact ⟨this,by simp [T.size,T.places]⟩
     | _=>cases e
   | _=>cases e
 | _=>cases r
theorem Zld:∀ (t:T) (u:T),Gn.Cl [] t->Gn.Cl [] u->Gn.Cl [] (Zb0 (pth t) u)/\(Zb0 (pth t) u).size<=t.size+u.size:=by
 have two:∀ a b c u:Nat,a<=b+u->1+(a+c)<=1+(b+c)+u:=fun a b c u q=>by omega
 have two':∀ a b c u:Nat,a<=b+u->1+(c+a)<=1+(c+b)+u:=fun a b c u q=>by omega
 have z2:∀ f a,(T.call f a).size=1+(f.size+a.size):=fun f a=>by rw [Zb];simp [T.parts]
 have o2:∀ w f a,(T.op w f a).size=1+(f.size+a.size):=fun w f a=>by rw [Zb];simp [T.parts]
 have i2:∀ f a b,(T.iff f a b).size=1+(f.size+(a.size+b.size)):=fun f a b=>by rw [Zb];simp [T.parts]
 intro t u
 induction t with
 | num _=>exact fun _ cu=>⟨cu,Nat.le_add_left _ _⟩
 | name _=>exact fun _ cu=>⟨cu,Nat.le_add_left _ _⟩
 | fn _ _ _=>exact fun _ cu=>⟨cu,Nat.le_add_left _ _⟩
 | rcc _ _ _ _=>exact fun _ cu=>⟨cu,Nat.le_add_left _ _⟩
 | call f a q1 q2 =>
   intro c cu
   cases hf:isV f with
   | false =>
     simp only [pth,hf,Zb0,Zck,OG,if_false]
     exact ⟨⟨(q1 c.1 cu).1,c.2⟩,by rw [z2,z2];exact two _ _ _ _ (q1 c.1 cu).2⟩
   | true =>
     cases ha:isV a with
     | false =>
       simp only [pth,hf,ha,Zb0,Zck,OG,if_false,if_true]
       exact ⟨⟨c.1,(q2 c.2 cu).1⟩,by rw [z2,z2];exact two' _ _ _ _ (q2 c.2 cu).2⟩
     | true =>
       simp only [pth,hf,ha,Zb0,if_true]
       exact ⟨cu,Nat.le_add_left _ _⟩
 | op w f a q1 q2 =>
   intro c cu
   cases hf:isV f with
   | false =>
     simp only [pth,hf,Zb0,Zck,OG,if_false]
     exact ⟨⟨(q1 c.1 cu).1,c.2⟩,by rw [o2,o2];exact two _ _ _ _ (q1 c.1 cu).2⟩
   | true =>
     cases ha:isV a with
     | false =>
       simp only [pth,hf,ha,Zb0,Zck,OG,if_false,if_true]
       exact ⟨⟨c.1,(q2 c.2 cu).1⟩,by rw [o2,o2];exact two' _ _ _ _ (q2 c.2 cu).2⟩
     | true =>
       simp only [pth,hf,ha,Zb0,if_true]
       exact ⟨cu,Nat.le_add_left _ _⟩
 | iff f a b q1 q2 q3 =>
   intro c cu
   cases hf:isV f with
   | false =>
     simp only [pth,hf,Zb0,Zck,OG,if_false]
     exact ⟨⟨(q1 c.1 cu).1,c.2.1,c.2.2⟩,by rw [i2,i2];exact two _ _ _ _ (q1 c.1 cu).2⟩
   | true =>
     simp only [pth,hf,Zb0,if_true]
     exact ⟨cu,Nat.le_add_left _ _⟩
theorem Zhk{t u:T}(nv:isV t=false)(c:Gn.Cl [] t)(hz:t.size<=120)(e:next t=some u):Gn.Cl [] u/\u.size<=40000:=by
 obtain ⟨v,e1,rfl⟩:=Oo.mp e
 obtain ⟨r1,r2,r3⟩:=Zce t nv c
 obtain ⟨b1,b2⟩:=Zom (bot t) v r1 r2 (by omega) e1
 obtain ⟨p1,p2⟩:=Zld t v c b1
 have:(bot t).size * 300<=120 * 300:=Nat.mul_le_mul_right _ (by omega)
 exact ⟨p1,by omega⟩
end Tm
end
section
namespace Tm
open PySem L2 IV
variable {P:Pg}
noncomputable def row:Nat->T->List T×Str
 | 0,t=>([t],if isV t then O "value" else match next t with
   | none=>O "stuck"
   | some _=>O "open")
 | m+1,t=>if isV t then ([t],O "value") else match next t with
   | none=>([t],O "stuck")
   | some u=>if 120<u.size then ([t],O "wide") else (t::(row m u).1,(row m u).2)
theorem Zpg (H:Trw P) (n:Nat) (t:T) (hz:t.size<=800000) (h:Hd):run P (n+3) (O "is_wide") [t.d] h=.ok (.bl (decide (120<t.size))) (h++[.lst (t.places.map T.d),.lst []]):=by
 rw [Zd H.is_wide (by rfl)]
 have e:=Gn.Zhc H.toTrm.toTre n t h hz
 have gw:=H.gw
 generalize P.G=PG at gw
 have l:(h++[DO.lst (t.places.map T.d),.lst []])[h.length]? = some (.lst (t.places.map T.d)):=by simp
 have c:decide ((120:Int)<(t.places.length:Int))=decide (120<t.size):=by
   rw [Bool.eq_iff_iff]
   simp only [decide_eq_true_eq]
   unfold T.size
   omega
 simp [Zbl,Zgf,Zk,e,gw,Z5,ZfI,seqOf,lstOf,c]
noncomputable def rw1:Sx:=(.iff (.ex (.cmp .Gt (.blt .len (.cons (.var 2) .nil)) (.var 1))) (.cons (.ret (.tupl (.cons (.var 2) (.cons (.cst (.str (O "open"))) .nil)))) .nil) .nil)
noncomputable def rw2:Sx:=(.iff (.ex (.call (O "is_wide") (.cons (.ix (.var 3) (.cst (.int 1))) .nil))) (.cons (.ret (.tupl (.cons (.var 2) (.cons (.cst (.str (O "wide"))) .nil)))) .nil) .nil)
noncomputable def rw3:Sx:=(.drp (.meth .app (.var 2) (.cons (.ix (.var 3) (.cst (.int 1))) .nil)))
noncomputable def rw4:Sx:=(.set (.nm 3) (.call (O "stepped") (.cons (.ix (.var 3) (.cst (.int 1))) .nil)))
noncomputable def Zdn:Sxs:=.cons rw1 (.cons rw2 (.cons rw3 (.cons rw4 .nil)))
noncomputable def rwc:Tx:=(.ex (.cmp .Eq (.ix (.var 3) (.cst (.int 0))) (.cst (.str (O "loud")))))
theorem Zpf:ZfG=.cons (.set (.nm 2) (.lstl (.cons (.var 0) .nil))) (.cons (.set (.nm 3) (.call (O "stepped") (.cons (.var 0) .nil))) (.cons (.whl rwc Zdn) (.cons (.ret (.tupl (.cons (.var 2) (.cons (.ix (.var 3) (.cst (.int 0))) .nil)))) .nil))):=rfl
theorem ZoJ(H:Trw P)(n:Nat){h:Hd}{E:D}(M:Nat)(hM:M<=1000):∀ (m:Nat) (t:T) (A:List T) (g:Hd) (fuel:Nat),A.length+m=M->m<fuel->Gn.Cl [] t->t.size<=120->∃ g' f S,
   ZQ (tst (P.tbl (n+7)) rwc) (xs2 (P.tbl (n+7)) Zdn) fuel [some E,some (.int (M:Int)),some (.ref h.length),some (ans t)] (h++.lst ((A++[t]).map T.d)::g)=.ok (f,S) (h++.lst ((A++(row m t).1).map T.d)::g') /\
     (f=.rt (.tup [.ref h.length,.str (row m t).2])\/(f=.nx/\S=[some E,some (.int (M:Int)),some (.ref h.length),some (.tup [.str (row m t).2])]))
 | m,t,A,g,0,_,hf,_,_=>by omega
 | m,t,A,g,fuel+1,hA,hf,c,hz=>by
   have stop:∀ w:String,w ≠ "loud" -> ans t=.tup [.str (Str.ofString w)]->row m t=([t],Str.ofString w)->∃ g' f S,ZQ (tst (P.tbl (n+7)) rwc) (xs2 (P.tbl (n+7)) Zdn) (fuel+1) [some E,some (.int (M:Int)),some (.ref h.length),some (ans t)] (h++.lst ((A++[t]).map T.d)::g)=.ok (f,S) (h++.lst ((A++(row m t).1).map T.d)::g') /\
       (f=.rt (.tup [.ref h.length,.str (row m t).2])\/(f=.nx/\S=[some E,some (.int (M:Int)),some (.ref h.length),some (.tup [.str (row m t).2])])):=by
     intro w hw e1 e2
     refine ⟨g,.nx,_,?_,.inr ⟨rfl,rfl⟩⟩
     rw [e1,e2,Zt]
     have te:tst (P.tbl (n+7)) rwc [some E,some (.int (M:Int)),some (.ref h.length),some (.tup [.str (Str.ofString w)])] (h++.lst ((A++[t]).map T.d)::g)=.ok false (h++.lst ((A++[t]).map T.d)::g):=by simp [rwc,hw]
     rw [te,Ze,if_neg (by decide)]
   cases nv:isV t with
   | true=>exact stop "value" (by decide) (by simp [ans,nv]) (by cases m<;>simp [row,nv])
   | false =>
     cases hn:next t with
     | none=>exact stop "stuck" (by decide) (by simp [ans,nv,hn]) (by cases m<;>simp [row,nv,hn])
     | some u =>
       have ea:ans t=.tup [.str (O "loud"),u.d]:=by simp [ans,nv,hn]
       obtain ⟨cu,su⟩:=Zhk nv c hz hn
       have kl:∀ (x:DO) (g:Hd),(h++x::g)[h.length]? = some x:=fun x g=>by simp
       have te:∀ h',tst (P.tbl (n+7)) rwc [some E,some (.int (M:Int)),some (.ref h.length),some (.tup [.str (O "loud"),u.d])] h'=.ok true h':=fun h'=>by simp [rwc]
       rw [ea,Zt,te,Ze,if_pos rfl]
       have len:∀ h',h'[h.length]? = some (.lst ((A++[t]).map T.d))->Z5 P.GD .len [.ref h.length] h'=.ok (.int ((A.length:Int)+1)) h':=fun h' q=>by simp [Z5,ZfI,seqOf,lstOf,q]
       cases m with
       | zero =>
         have x1:xs1 (P.tbl (n+7)) rw1 [some E,some (.int (M:Int)),some (.ref h.length),some (.tup [.str (O "loud"),u.d])] (h++.lst ((A++[t]).map T.d)::g)=.ok (.rt (.tup [.ref h.length,.str (O "open")]),[some E,some (.int (M:Int)),some (.ref h.length),some (.tup [.str (O "loud"),u.d])]) (h++.lst ((A++[t]).map T.d)::g):=by
           have q:=len _ (kl (.lst ((A++[t]).map T.d)) g)
           have cc:(M:Int)<(A.length:Int)+1:=by omega
           generalize (A++[t]).map T.d=ad at q ⊢
           simp [rw1,Pg.tbl,q,cc,sizeLine_eq]
         refine ⟨g,.rt (.tup [.ref h.length,.str (O "open")]),[some E,some (.int (M:Int)),some (.ref h.length),some (.tup [.str (O "loud"),u.d])],?_,.inl (by simp [row,nv,hn])⟩
         rw [Zdn,Zf x1,Ze]
         simp [row]
       | succ m =>
         have x1:xs1 (P.tbl (n+7)) rw1 [some E,some (.int (M:Int)),some (.ref h.length),some (.tup [.str (O "loud"),u.d])] (h++.lst ((A++[t]).map T.d)::g)=.ok (.nx,[some E,some (.int (M:Int)),some (.ref h.length),some (.tup [.str (O "loud"),u.d])]) (h++.lst ((A++[t]).map T.d)::g):=by
           have q:=len _ (kl (.lst ((A++[t]).map T.d)) g)
           have cc:¬ (M:Int)<(A.length:Int)+1:=by omega
           generalize (A++[t]).map T.d=ad at q ⊢
           simp [rw1,Pg.tbl,q,cc]
         have ew:=Zpg H (n+4) u (by omega) (h++.lst ((A++[t]).map T.d)::g)
         have asc:∀ (x:DO) (g g2:Hd),h++x::g++g2=h++x::(g++g2):=fun x g g2=>by simp
         rw [asc] at ew
         by_cases hw:120<u.size
         . have x2:xs1 (P.tbl (n+7)) rw2 [some E,some (.int (M:Int)),some (.ref h.length),some (.tup [.str (O "loud"),u.d])] (h++.lst ((A++[t]).map T.d)::g)=.ok (.rt (.tup [.ref h.length,.str (O "wide")]),[some E,some (.int (M:Int)),some (.ref h.length),some (.tup [.str (O "loud"),u.d])]) (h++.lst ((A++[t]).map T.d)::(g++[.lst (u.places.map T.d),.lst []])):=by
             generalize (A++[t]).map T.d=ad at *
             simp [rw2,Pg.tbl,ew,hw,sizeLine_eq]
           refine ⟨g++[.lst (u.places.map T.d),.lst []],.rt (.tup [.ref h.length,.str (O "wide")]),[some E,some (.int (M:Int)),some (.ref h.length),some (.tup [.str (O "loud"),u.d])],?_,.inl (by simp [row,nv,hn,hw])⟩
           rw [Zdn,Za x1,Zf x2,Ze]
           simp [row,nv,hn,hw]
         . have x2:xs1 (P.tbl (n+7)) rw2 [some E,some (.int (M:Int)),some (.ref h.length),some (.tup [.str (O "loud"),u.d])] (h++.lst ((A++[t]).map T.d)::g)=.ok (.nx,[some E,some (.int (M:Int)),some (.ref h.length),some (.tup [.str (O "loud"),u.d])]) (h++.lst ((A++[t]).map T.d)::(g++[.lst (u.places.map T.d),.lst []])):=by
             generalize (A++[t]).map T.d=ad at *
             simp [rw2,Pg.tbl,ew,hw]
           have ap:=ZZ (d:=u.d) (kl (.lst ((A++[t]).map T.d)) (g++[.lst (u.places.map T.d),.lst []])) (by rw [sizeLine_eq];simp;omega)
           have il:=Zm (kl (.lst ((A++[t]).map T.d)) (g++[.lst (u.places.map T.d),.lst []]))
           rw [ZoF] at ap
           have x3:xs1 (P.tbl (n+7)) rw3 [some E,some (.int (M:Int)),some (.ref h.length),some (.tup [.str (O "loud"),u.d])] (h++.lst ((A++[t]).map T.d)::(g++[.lst (u.places.map T.d),.lst []]))=.ok (.nx,[some E,some (.int (M:Int)),some (.ref h.length),some (.tup [.str (O "loud"),u.d])]) (h++.lst ((A++[t]++[u]).map T.d)::(g++[.lst (u.places.map T.d),.lst []])):=by
             rw [List.map_append (l₁:=A++[t]) (l₂:=[u])]
             generalize (A++[t]).map T.d=ad at *
             generalize g++[.lst (u.places.map T.d),.lst []]=g1 at *
             simp [rw3,il,ap]
           obtain ⟨g2,es⟩:=Zf1 H.toTrm n (h:=h++.lst ((A++[t]++[u]).map T.d)::(g++[.lst (u.places.map T.d),.lst []])) u cu (by omega)
           rw [asc] at es
           have x4:xs1 (P.tbl (n+7)) rw4 [some E,some (.int (M:Int)),some (.ref h.length),some (.tup [.str (O "loud"),u.d])] (h++.lst ((A++[t]++[u]).map T.d)::(g++[.lst (u.places.map T.d),.lst []]))=.ok (.nx,[some E,some (.int (M:Int)),some (.ref h.length),some (ans u)]) (h++.lst ((A++[t]++[u]).map T.d)::(g++[.lst (u.places.map T.d),.lst []]++g2)):=by
             generalize (A++[t]++[u]).map T.d=ad at *
             generalize g++[.lst (u.places.map T.d),.lst []]=g1 at *
             simp [rw4,Pg.tbl,es]
           obtain ⟨g',f,S,e,q⟩:=ZoJ H n (h:=h) (E:=E) M hM m u (A++[t]) (g++[.lst (u.places.map T.d),.lst []]++g2) fuel (by simp;omega) (by omega) cu (by omega)
           have er:row (m+1) t=(t::(row m u).1,(row m u).2):=by simp [row,nv,hn,hw]
           refine ⟨g',f,S,?_,by rw [er];exact q⟩
           rw [Zdn,Za x1,Za x2,Za x3,Za x4,er]
           have e2:A++t::(row m u).1=A++[t]++(row m u).1:=by simp
           rw [e2]
           exact e
theorem Zq5 (H:Trw P) (n:Nat) (t:T) (M:Nat) (hM:M<=1000) (c:Gn.Cl [] t) (hz:t.size<=120) (h:Hd):∃ g,run P (n+8) (O "row_of") [t.d,.int (M:Int)] h=.ok (.tup [.ref h.length,.str (row M t).2]) (h++.lst ((row M t).1.map T.d)::g):=by
 rw [Zd H.row_of (by rfl)]
 obtain ⟨g1,es⟩:=Zf1 H.toTrm n (h:=h++[.lst [t.d]]) t c (by omega)
 have big:=H.big
 obtain ⟨g',f,S,e,q⟩:=ZoJ H n (h:=h) (E:=t.d) M hM M t [] g1 P.L (by simp) (by omega) c hz
 refine ⟨g',?_⟩
 have x1:xs1 (P.tbl (n+7)) (.set (.nm 2) (.lstl (.cons (.var 0) .nil))) [some t.d,some (.int (M:Int)),none,none] h=.ok (.nx,[some t.d,some (.int (M:Int)),some (.ref h.length),none]) (h++[.lst [t.d]]):=by simp [sizeLine_eq]
 have x2:xs1 (P.tbl (n+7)) (.set (.nm 3) (.call (O "stepped") (.cons (.var 0) .nil))) [some t.d,some (.int (M:Int)),some (.ref h.length),none] (h++[.lst [t.d]])=.ok (.nx,[some t.d,some (.int (M:Int)),some (.ref h.length),some (ans t)]) (h++.lst (([]++[t]).map T.d)::g1):=by
   have:h++[DO.lst [t.d]]++g1=h++.lst (([]++[t]).map T.d)::g1:=by simp
   rw [this] at es
   simp [Pg.tbl]
   simp at es
   simp [es]
 have x3:xs1 (P.tbl (n+7)) (.whl rwc Zdn) [some t.d,some (.int (M:Int)),some (.ref h.length),some (ans t)] (h++.lst (([]++[t]).map T.d)::g1)=.ok (f,S) (h++.lst (([]++(row M t).1).map T.d)::g'):=e
 simp only [OB] at x2 x3
 show Zn (xs2 (P.tbl (n+7)) ZfG [some t.d,some (.int (M:Int)),none,none] h)=_
 rw [Zpf,Za x1,Za x2]
 rcases q with rfl|⟨rfl,rfl⟩
 . rw [Zf x3]
   rfl
 . have x4:xs1 (P.tbl (n+7)) (.ret (.tupl (.cons (.var 2) (.cons (.ix (.var 3) (.cst (.int 0))) .nil)))) [some t.d,some (.int (M:Int)),some (.ref h.length),some (.tup [.str (row M t).2])] (h++.lst ((row M t).1.map T.d)::g')=.ok (.rt (.tup [.ref h.length,.str (row M t).2]),[some t.d,some (.int (M:Int)),some (.ref h.length),some (.tup [.str (row M t).2])]) (h++.lst ((row M t).1.map T.d)::g'):=by simp [sizeLine_eq]
   rw [Za x3,Zf x4]
   rfl
end Tm
end
section
namespace K41L
open PySem L2 IV
noncomputable def Zbb:Sx:=(.set (.nm 1) (.call (O "places") (.cons (.var 0) .nil)))
noncomputable def Zap:Sx:=(.set (.nm 2) (.lstl .nil))
noncomputable def Zao:Sx:=(.set (.nm 3) (.lstl .nil))
noncomputable def Zan:Sx:=(.forr (.nm 4) (.rev (.var 1)) (.cons (.set (.nm 5) (.comp [(O "part"),(O "numbers")] [none,some 3] (.pl (.call (O "parts_of") (.cons (.var 4) .nil))) (.nm 0) none (.meth .pop (.var 1) .nil))) (.cons (.drp (.meth .app (.var 2) (.cons (.bin .Add (.call (O "front_of") (.cons (.var 4) .nil)) (.blt .tup (.cons (.var 5) .nil))) .nil))) (.cons (.drp (.meth .app (.var 3) (.cons (.bin .Sub (.blt .len (.cons (.var 1) .nil)) (.blt .len (.cons (.var 2) .nil))) .nil))) .nil))))
noncomputable def Zam:Sx:=(.drp (.meth .rev (.var 2) .nil))
noncomputable def Zco:Sx:=(.ret (.tupl (.cons (.var 2) (.cons (.cst (.int 0)) .nil))))
noncomputable def ZfT:Sxs:=(.cons Zbb (.cons Zap (.cons Zao (.cons Zan (.cons Zam (.cons Zco .nil))))))
noncomputable def Zac:Fd:=⟨[(O "E")],[(O "E"),(O "told"),(O "cells"),(O "numbers"),(O "place"),(O "parts")],ZfT⟩
noncomputable def ZaQ:Sx:=(.set (.nm 1) (.mk (O "Pen") (.cons (.glo (O "WIDEST")) .nil)))
noncomputable def ZaP:Sx:=(.set (.nm 2) (.lstl .nil))
noncomputable def ZaO:Sx:=(.set (.nm 3) (.lstl (.cons (.ix (.var 0) (.cst (.int 1))) .nil)))
noncomputable def ZbB:Sx:=(.whl (.ex (.var 3)) (.cons (.set (.nm 4) (.ix (.ix (.var 0) (.cst (.int 0))) (.meth .pop (.var 3) .nil))) (.cons (.drp (.mcl (O "Pen") (O "take_place") (.var 1) .nil)) (.cons (.drp (.meth .app (.var 2) (.cons (.call (O "front_of") (.cons (.var 4) .nil)) .nil))) (.cons (.drp (.meth .ext (.var 3) (.cons (.lrv (.call (O "parts_of") (.cons (.var 4) .nil))) .nil))) .nil)))))
noncomputable def ZbA:Sx:=(.ret (.call (O "built") (.cons (.var 2) .nil)))
noncomputable def ZgP:Sxs:=(.cons ZaQ (.cons ZaP (.cons ZaO (.cons ZbB (.cons ZbA .nil)))))
noncomputable def ZaJ:Fd:=⟨[(O "state")],[(O "state"),(O "pen"),(O "fronts"),(O "waiting"),(O "cell")],ZgP⟩
noncomputable def Za0:Sx:=(.set (.nm 1) (.lstl (.cons (.var 0) .nil)))
noncomputable def ZaZ:Sx:=(.set (.nm 2) (.lstl .nil))
noncomputable def ZbT:Sx:=(.whl (.ex (.cmp .NotEq (.var 1) (.lstl .nil))) (.cons (.set (.nm 3) (.meth .pop (.var 1) .nil)) (.cons (.set (.nm 4) (.bin .Add (.blt .len (.cons (.var 2) .nil)) (.cst (.int 1)))) (.cons (.set (.nm 5) (.lstl .nil)) (.cons (.forr (.nm 6) (.pl (.var 3)) (.cons (.iff (.ex (.blt .isi (.cons (.var 6) (.cons (.cst (.ty "tuple")) .nil)))) (.cons (.drp (.meth .app (.var 5) (.cons (.var 4) .nil))) (.cons (.set (.nm 4) (.bin .Add (.var 4) (.call (O "_law_width") (.cons (.var 6) .nil)))) .nil)) (.cons (.drp (.meth .app (.var 5) (.cons (.var 6) .nil))) .nil)) .nil)) (.cons (.drp (.meth .app (.var 2) (.cons (.blt .tup (.cons (.var 5) .nil)) .nil))) (.cons (.set (.nm 1) (.bin .Add (.var 1) (.comp [(O "_law_part")] [none] (.rev (.var 3)) (.nm 0) (some (.ex (.blt .isi (.cons (.var 0) (.cons (.cst (.ty "tuple")) .nil))))) (.var 0)))) .nil)))))))
noncomputable def Zdl:Sx:=(.ret (.var 2))
noncomputable def ZhP:Sxs:=(.cons Za0 (.cons ZaZ (.cons ZbT (.cons Zdl .nil))))
noncomputable def Za2:Fd:=⟨[(O "_law_told")],[(O "_law_told"),(O "_law_waiting"),(O "_law_cells_here"),(O "_law_here"),(O "_law_at"),(O "_law_made"),(O "_law_part")],ZhP⟩
noncomputable def ZeS:Sx:=(.forr (.nm 1) (.pl (.lstl (.cons (.call (O "_law_program") (.cons (.var 0) (.cons (.cst (.int 1)) .nil))) (.cons (.ix (.ix (.call (O "row_of") (.cons (.call (O "_law_program") (.cons (.var 0) (.cons (.cst (.int 0)) .nil))) (.cons (.cst (.int 30)) .nil))) (.cst (.int 0))) (.neg (.cst (.int 1)))) .nil)))) (.cons (.set (.nm 2) (.call (O "graph_begun") (.cons (.var 1) .nil))) (.cons (.set (.nm 3) (.call (O "_law_cells") (.cons (.var 1) .nil))) (.cons (.iff (.ors (.cons (.nt (.ex (.blt .isi (.cons (.var 2) (.cons (.cst (.ty "tuple")) .nil))))) (.cons (.ex (.cmp .NotEq (.blt .len (.cons (.var 2) .nil)) (.cst (.int 2)))) (.cons (.nt (.ex (.blt .isi (.cons (.ix (.var 2) (.cst (.int 0))) (.cons (.cst (.ty "list")) .nil))))) (.one (.ex (.cmp .NotEq (.var 2) (.tupl (.cons (.var 3) (.cons (.cst (.int 0)) .nil)))))))))) (.cons (.ret (.cst (.bl false))) .nil) .nil) (.cons (.iff (.ex (.cmp .NotEq (.call (O "graph_read") (.cons (.var 2) .nil)) (.var 1))) (.cons (.ret (.cst (.bl false))) .nil) .nil) (.cons (.drp (.meth .clr (.ix (.var 2) (.cst (.int 0))) .nil)) (.cons (.iff (.ex (.cmp .NotEq (.call (O "graph_begun") (.cons (.var 1) .nil)) (.tupl (.cons (.var 3) (.cons (.cst (.int 0)) .nil))))) (.cons (.ret (.cst (.bl false))) .nil) .nil) .nil)))))))
noncomputable def ZjL:Sx:=(.ret (.cst (.bl true)))
noncomputable def ZrZ:Sxs:=(.cons ZeS (.cons ZjL .nil))
noncomputable def Zf8:Fd:=⟨[(O "_law_script")],[(O "_law_script"),(O "_law_told"),(O "_law_found"),(O "_law_due")],ZrZ⟩
structure Lw(P:Pg):Prop where
 t:Tm.Trw P
 m:Gn.Mkr P
 graph_begun:P.tb.lookup (O "graph_begun")=some Zac
 graph_read:P.tb.lookup (O "graph_read")=some ZaJ
 law_cells:P.tb.lookup (O "_law_cells")=some Za2
 law:P.tb.lookup (O "law")=some Zf8
end K41L
end
section
namespace K41L
open PySem L2 IV Tm
variable {P:Pg}
noncomputable def ZE:Nat->List T->List (Nat×T)
 | _,[]=>[]
 | i,t::ts=>(i,t)::ZE (i+t.size) ts
noncomputable def nD(p:Nat×T):D:=.int (p.1:Int)
noncomputable def cell(i:Nat)(t:T):D:=.tup (fr t++(ZE (i+1) t.parts).map nD)
noncomputable def cells:Nat->T->List D
 | i,.num n=>[cell i (.num n)]
 | i,.name x=>[cell i (.name x)]
 | i,.fn x e=>cell i (.fn x e)::cells (i+1) e
 | i,.rcc f x e=>cell i (.rcc f x e)::cells (i+1) e
 | i,.call f a=>cell i (.call f a)::(cells (i+1) f++cells (i+1+f.size) a)
 | i,.iff c t e=>cell i (.iff c t e)::(cells (i+1) c++(cells (i+1+c.size) t++cells (i+1+c.size+t.size) e))
 | i,.op w a b=>cell i (.op w a b)::(cells (i+1) a++cells (i+1+a.size) b)
noncomputable def Zq:Nat->List T->List D
 | _,[]=>[]
 | i,t::ts=>cells i t++Zq (i+t.size) ts
noncomputable def szs(ts:List T):Nat:=(ts.map T.size).sum
theorem Zbm(t:T)(ts:List T):szs (t::ts)=t.size+szs ts:=by simp [szs]
theorem Zct(t:T):t.size=1+szs t.parts:=Zb t
theorem Za4(i:Nat)(t:T):cells i t=cell i t::Zq (i+1) t.parts:=by cases t<;>simp [cells,Zq,T.parts]
theorem ZdJ:∀ (ts:List T) (i:Nat),(ZE i ts).length=ts.length
 | [],_=>rfl
 | t::ts,i=>by simp [ZE,ZdJ ts]
theorem Zeh:∀ (m:Nat) (t:T) (i:Nat),t.size<=m->(cells i t).length=t.size
 | 0,t,i,h=>by have:=ZS t;omega
 | m+1,t,i,h=>by
   have L:∀ (ts:List T) (i:Nat),szs ts<=m->(Zq i ts).length=szs ts:=by
     intro ts
     induction ts with
     | nil=>intro i _;rfl
     | cons t ts ih =>
       intro i q
       rw [Zbm] at q ⊢
       rw [Zq,OA,Zeh m t i (by omega),ih _ (by omega)]
   have:=Zct t
   rw [Za4,Os,L _ _ (by omega)]
   omega
theorem Zdq:∀ (ts:List T) (i:Nat),(Zq i ts).length=szs ts
 | [],i=>rfl
 | t::ts,i=>by rw [Zq,OA,Zeh t.size t i (Oq _),Zdq ts,Zbm]
theorem ZfC:∀ (a b:List T) (i:Nat),Zq i (a++b)=Zq i a++Zq (i+szs a) b
 | [],b,i=>rfl
 | t::a,b,i=>by rw [List.cons_append,Zq,Zq,ZfC a b,Zbm,Oz,Nat.add_assoc]
theorem Zgs:∀ ts:List T,ts.length<=szs ts
 | []=>Oq _
 | t::ts=>by have:=Zgs ts;have:=ZS t;rw [Zbm,Os];omega
theorem Zog (H:Trm P) (n i:Nat) (t:T) (h:Hd):run P (n+1) (O "front_of") [cell i t] h=.ok (tf t) h:=by
 cases t with
 | num z=>exact ZdQ H n h (O "num") _ rfl
 | name x=>exact ZdQ H n h (O "name") _ rfl
 | fn x e=>exact ZW H n h (O "fn") _ 1 1 rfl
 | rcc f x e=>exact ZW H n h (O "rec") _ 2 1 rfl
 | call f a=>exact ZW H n h (O "call") _ 0 2 rfl
 | iff c a b=>exact ZW H n h (O "if") _ 0 3 rfl
 | op w a b=>exact ZW H n h w.s _ 0 2 Zcr
theorem Zof (H:Gn.Tre P) (n i:Nat) (t:T) (h:Hd):run P (n+1) (O "parts_of") [cell i t] h=.ok (.tup ((ZE (i+1) t.parts).map nD)) h:=by
 cases t with
 | num z=>exact Gn.ZdG H n h (O "num") _ rfl
 | name x=>exact Gn.ZdG H n h (O "name") _ rfl
 | fn x e=>exact Gn.ZV H n h (O "fn") _ 1 1 rfl
 | rcc f x e=>exact Gn.ZV H n h (O "rec") _ 2 1 rfl
 | call f a=>exact Gn.ZV H n h (O "call") _ 0 2 rfl
 | iff c a b=>exact Gn.ZV H n h (O "if") _ 0 3 rfl
 | op w a b=>exact Gn.ZV H n h w.s _ 0 2 Zcr
theorem ZmI{h0 h:Hd}{fk dk:Nat}{fs ds:List D}(b:B_ h0 h fk dk fs ds)(hf:h0.length<=fk)(es:List D):B_ h0 (h.set fk (.lst es)) fk dk es ds :=
 ⟨by rw [Ol (ZT b.f)],by rw [Oc b.ne.symm];exact b.d,b.ne,b.o1,by simpa using b.ol,fun i hi=>by rw [Oc (by omega)];exact b.old i hi⟩
noncomputable def gb1:Sx:=(.set (.nm 5) (.comp [(O "part"),(O "numbers")] [none,some 3] (.pl (.call (O "parts_of") (.cons (.var 4) .nil))) (.nm 0) none (.meth .pop (.var 1) .nil)))
noncomputable def gb2:Sx:=(.drp (.meth .app (.var 2) (.cons (.bin .Add (.call (O "front_of") (.cons (.var 4) .nil)) (.blt .tup (.cons (.var 5) .nil))) .nil)))
noncomputable def gb3:Sx:=(.drp (.meth .app (.var 3) (.cons (.bin .Sub (.blt .len (.cons (.var 1) .nil)) (.blt .len (.cons (.var 2) .nil))) .nil)))
noncomputable def Zjv:Sxs:=.cons gb1 (.cons gb2 (.cons gb3 .nil))
theorem ZrO:Zan=.forr (.nm 4) (.rev (.var 1)) Zjv:=rfl
theorem Zsq(H:Trm P)(n:Nat){h0 h:Hd}{tk ck nk i:Nat}{tl C N:List D}(t:T)(ht:h0[tk]? = some (.lst tl))(hc:h0.length<=ck)(b:B_ h0 h ck nk C (N++((ZE (i+1) t.parts).map nD).reverse))(hi:C.length+1+i=tl.length)(hz:tl.length<=1000)(hN:N.length<=1000)(o0 o5:Option D):∃ h' o5',
   xs2 (P.tbl (n+1)) Zjv [o0,some (.ref tk),some (.ref ck),some (.ref nk),some t.d,o5] h=.ok (.nx,[o0,some (.ref tk),some (.ref ck),some (.ref nk),some t.d,o5']) h'/\B_ h0 h' ck nk (C++[cell i t]) (N++[.int (i:Int)]):=by
 have hp:t.parts.length<=3:=by cases t<;>simp [T.parts]
 have hf:(fr t).length<=3:=by cases t<;>simp [fr]
 have ep:=Gn.ZeI H.toTre n t h
 have hl:=ZdJ t.parts (i+1)
 obtain ⟨h1,q1,b1⟩:=Zmu (U:=P.tbl (n+1)) (t.parts.map T.d) ((ZE (i+1) t.parts).map nD) N [] h (by simp [hl]) (by simp [hl];omega) b
 have b2:=b1.app (g:=[.lst ((ZE (i+1) t.parts).map nD)])
 have b3:=ZmI b2 hc (C++[cell i t])
 have b4:=b3.set (N++[.int (i:Int)])
 refine ⟨_,some (.ref h1.length),?_,b4⟩
 have x1:xs1 (P.tbl (n+1)) gb1 [o0,some (.ref tk),some (.ref ck),some (.ref nk),some t.d,o5] h=.ok (.nx,[o0,some (.ref tk),some (.ref ck),some (.ref nk),some t.d,some (.ref h1.length)]) (h1++[.lst ((ZE (i+1) t.parts).map nD)]):=by
   have ei:evi (P.tbl (n+1)) (.pl (.call (O "parts_of") (.cons (.var 4) .nil))) [o0,some (.ref tk),some (.ref ck),some (.ref nk),some t.d,o5] h=.ok ⟨none,t.parts.map T.d⟩ h:=by
     have e1:ev (P.tbl (n+1)) (.call (O "parts_of") (.cons (.var 4) .nil)) [o0,some (.ref tk),some (.ref ck),some (.ref nk),some t.d,o5] h=.ok (.tup (t.parts.map T.d)) h:=ep
     rw [Zmd,e1,Ze]
     rfl
   rw [gb1,ZcQ,ZcX,ei,Ze]
   simp only [ZaM,Op,Oy,Option.bind_none,Option.bind_some]
   rw [show ([o0,some (.ref tk),some (.ref ck),some (D.ref nk),some t.d,o5][3]?).join=some (.ref nk) from rfl,q1]
   rfl
 have x2:xs1 (P.tbl (n+1)) gb2 [o0,some (.ref tk),some (.ref ck),some (.ref nk),some t.d,some (.ref h1.length)] (h1++[.lst ((ZE (i+1) t.parts).map nD)])=.ok (.nx,[o0,some (.ref tk),some (.ref ck),some (.ref nk),some t.d,some (.ref h1.length)]) (List.set (h1++[.lst ((ZE (i+1) t.parts).map nD)]) ck (.lst (C++[cell i t]))):=by
   have ap:=ZZ (d:=cell i t) b2.f (by rw [sizeLine_eq];omega)
   have il:=Zm b2.f
   have ef:=Zji H n t (h1++[.lst ((ZE (i+1) t.parts).map nD)])
   have ad:∀ h',opB .Add (.tup (fr t)) (.tup ((ZE (i+1) t.parts).map nD)) h'=.ok (cell i t) h':=fun h'=>ZeM (by rw [sizeLine_eq];simp [hl];omega)
   have kk:(h1++[DO.lst ((ZE (i+1) t.parts).map nD)])[h1.length]? = some (.lst ((ZE (i+1) t.parts).map nD)):=Zc1
   generalize h1++[DO.lst ((ZE (i+1) t.parts).map nD)]=h2 at *
   have tu:Z5 P.GD .tup [.ref h1.length] h2=.ok (.tup ((ZE (i+1) t.parts).map nD)) h2:=by simp only [Z5,ZhR,lstOf,kk];rfl
   generalize (ZE (i+1) t.parts).map nD=ns at *
   simp [gb2,Pg.tbl,il,ef,tu,ad,ap]
 have x3:xs1 (P.tbl (n+1)) gb3 [o0,some (.ref tk),some (.ref ck),some (.ref nk),some t.d,some (.ref h1.length)] (List.set (h1++[.lst ((ZE (i+1) t.parts).map nD)]) ck (.lst (C++[cell i t])))=.ok (.nx,[o0,some (.ref tk),some (.ref ck),some (.ref nk),some t.d,some (.ref h1.length)]) (List.set (List.set (h1++[.lst ((ZE (i+1) t.parts).map nD)]) ck (.lst (C++[cell i t]))) nk (.lst (N++[.int (i:Int)]))):=by
   have ap:=ZZ (d:=.int (i:Int)) b3.d (by rw [sizeLine_eq];omega)
   have il:=Zm b3.d
   have kt:=(b3.old tk (ZT ht)).trans ht
   have kc:=b3.f
   generalize List.set (h1++[DO.lst ((ZE (i+1) t.parts).map nD)]) ck (.lst (C++[cell i t]))=h3 at *
   have l1:Z5 P.GD .len [.ref tk] h3=.ok (.int (tl.length:Int)) h3:=by simp [Z5,ZfI,seqOf,lstOf,kt]
   have l2:Z5 P.GD .len [.ref ck] h3=.ok (.int ((C.length:Int)+1)) h3:=by simp [Z5,ZfI,seqOf,lstOf,kc]
   have hs:(tl.length:Int) - ((C.length:Int)+1)=(i:Int):=by omega
   simp [gb3,Pg.tbl,il,l1,l2,hs,ap]
 rw [Zjv,Za x1,Za x2,Za x3]
 rfl
noncomputable def wg(P:Pg)(n tk ck nk:Nat)(tl:List D)(o0:Option D)(rest:List D)(o4 o5:Option D)(h:Hd):R (Fl×Ev):=Z0 (some (tk,tl)) (.nm 4) (xs2 (P.tbl (n+1)) Zjv) rest [o0,some (.ref tk),some (.ref ck),some (.ref nk),o4,o5] h
noncomputable def Gt(P:Pg)(n:Nat)(h0:Hd)(tk ck nk:Nat)(tl:List D)(o0:Option D)(xs C0 N0 C1 N1:List D):Prop:=∀ (rest:List D) (h:Hd) (o4 o5:Option D),B_ h0 h ck nk C0 N0->∃ h' o4' o5',wg P n tk ck nk tl o0 (xs++rest) o4 o5 h=wg P n tk ck nk tl o0 rest o4' o5' h'/\B_ h0 h' ck nk C1 N1
section
variable {n:Nat}{h0:Hd}{tk ck nk:Nat}{tl:List D}{o0:Option D}{xs ys C0 C1 C2 N0 N1 N2:List D}
theorem Gt.nil:Gt P n h0 tk ck nk tl o0 [] C0 N0 C0 N0:=fun rest h o2 o3 b=>⟨h,o2,o3,rfl,b⟩
theorem Gt.trans(a:Gt P n h0 tk ck nk tl o0 xs C0 N0 C1 N1)(b:Gt P n h0 tk ck nk tl o0 ys C1 N1 C2 N2):Gt P n h0 tk ck nk tl o0 (xs++ys) C0 N0 C2 N2:=fun rest h o2 o3 q=>by
 obtain ⟨h1,o21,o31,e1,q1⟩:=a (ys++rest) h o2 o3 q
 obtain ⟨h2,o22,o32,e2,q2⟩:=b rest h1 o21 o31 q1
 exact ⟨h2,o22,o32,by rw [Oz,e1,e2],q2⟩
end
theorem Zl3(H:Trm P){n:Nat}{h0:Hd}{tk ck nk:Nat}{tl:List D}{o0:Option D}(ht:h0[tk]? = some (.lst tl))(hc:h0.length<=ck)(hz:tl.length<=1000):∀ (m:Nat) (t:T) (i:Nat) (C N:List D),t.size<=m->C.length+t.size+i=tl.length->N.length+t.size<=1000 ->
   Gt P n h0 tk ck nk tl o0 (t.places.map T.d).reverse C N (C++(cells i t).reverse) (N++[.int (i:Int)])
 | 0,t,i,C,N,h,_,_=>by have:=ZS t;omega
 | m+1,t,i,C,N,h,hi,hN=>by
   have L:∀ (ts:List T) (i:Nat) (C N:List D),szs ts<=m->C.length+szs ts+i<=tl.length->C.length+szs ts+i=tl.length->N.length+szs ts<=1000 ->
       Gt P n h0 tk ck nk tl o0 ((ts.flatMap T.places).map T.d).reverse C N (C++(Zq i ts).reverse) (N++((ZE i ts).map nD).reverse):=by
     intro ts
     induction ts with
     | nil=>intro i C N _ _ _ _;simpa [Zq,ZE] using Gt.nil
     | cons t ts ih =>
       intro i C N q1 _ q2 q3
       rw [Zbm] at q1 q2 q3
       have a:=ih (i+t.size) C N (by omega) (by omega) (by omega) (by omega)
       have lt:=Zgs ts
       have b:=Zl3 H (n:=n) (nk:=nk) (o0:=o0) ht hc hz m t i (C++(Zq (i+t.size) ts).reverse) (N++((ZE (i+t.size) ts).map nD).reverse) (by omega) (by simp [Zdq];omega) (by simp [ZdJ];omega)
       have c:=a.trans b
       simpa [Zq,ZE,nD] using c
   have e:=Zct t
   have a:=L t.parts (i+1) C N (by omega) (by omega) (by omega) (by omega)
   have hb:Gt P n h0 tk ck nk tl o0 [t.d] (C++(Zq (i+1) t.parts).reverse) (N++((ZE (i+1) t.parts).map nD).reverse) (C++(Zq (i+1) t.parts).reverse++[cell i t]) (N++[.int (i:Int)]):=fun rest h o4 o5 b=>by
     obtain ⟨h',o5',q,b'⟩:=Zsq H n t ht hc b (by simp [Zdq];omega) hz (by omega) o0 o5
     exact ⟨h',some t.d,o5',ZcB ((b.old tk (ZT ht)).trans ht) rfl q,b'⟩
   have c:=a.trans hb
   rw [T.places_parts,Za4]
   simpa using c
theorem ZiH{h h1:Hd}(hl:h.length<=h1.length)(q:∀ i,i<h.length->h1[i]? = h[i]?):∃ g,h1=h++g:=⟨h1.drop h.length,by
 apply List.ext_getElem?
 intro i
 rcases Nat.lt_or_ge i h.length with c|c
 . rw [q i c,Oe c]
 . rw [Om c,List.getElem?_drop]
   congr 1
   omega⟩
theorem Zjk (H:Lw P) (n:Nat) (t:T) (hz:t.size<=120) (h:Hd):∃ g k,run P (n+3) (O "graph_begun") [t.d] h=.ok (.tup [.ref k,.int 0]) (h++g)/\h.length<=k/\(h++g)[k]? = some (.lst (cells 0 t)):=by
 rw [Zd H.graph_begun (by rfl)]
 have ep:=Gn.Zhc H.t.toTrm.toTre n t h (by omega)
 have hl:(t.places.map T.d).length=t.size:=by simp [T.size]
 have ht:(h++[DO.lst (t.places.map T.d),.lst []])[h.length]? = some (.lst (t.places.map T.d)):=by simp
 have ol:h.length<=(h++[DO.lst (t.places.map T.d),.lst []]).length:=by simp
 have old:∀ i,i<h.length->(h++[DO.lst (t.places.map T.d),.lst []])[i]? = h[i]? := fun i hi=>Oe hi
 generalize htl:t.places.map T.d=tl at *
 generalize h++[DO.lst tl,.lst []]=h0 at *
 have b0:B_ h0 (h0++[.lst [],.lst []]) h0.length (h0.length+1) [] []:=⟨by simp,by simp,by omega,by omega,by simp,fun i hi=>Oe hi⟩
 obtain ⟨h1,o4,o5,e1,b1⟩:=Zl3 H.t.toTrm (n:=n+1) (nk:=h0.length+1) (o0:=some t.d) ht (Oq h0.length) (by omega) t.size t 0 [] [] (Oq _) (by simp;omega) (by simp;omega) [] _ none none b0
 have kt:=(b1.old h.length (ZT ht)).trans ht
 have e2:wg P (n+1) h.length h0.length (h0.length+1) tl (some t.d) [] o4 o5 h1=.ok (.nx,[some t.d,some (.ref h.length),some (.ref h0.length),some (.ref (h0.length+1)),o4,o5]) h1:=ZdR kt
 rw [e2,List.append_nil,htl] at e1
 have x1:xs1 (P.tbl (n+2)) Zbb [some t.d,none,none,none,none,none] h=.ok (.nx,[some t.d,some (.ref h.length),none,none,none,none]) h0:=Zc4 (Zb8 ep rfl)
 have x2:xs1 (P.tbl (n+2)) Zap [some t.d,some (.ref h.length),none,none,none,none] h0=.ok (.nx,[some t.d,some (.ref h.length),some (.ref h0.length),none,none,none]) (h0++[.lst []]):=by simp [Zap,sizeLine_eq]
 have x3:xs1 (P.tbl (n+2)) Zao [some t.d,some (.ref h.length),some (.ref h0.length),none,none,none] (h0++[.lst []])=.ok (.nx,[some t.d,some (.ref h.length),some (.ref h0.length),some (.ref (h0.length+1)),none,none]) (h0++[.lst [],.lst []]):=by simp [Zao,sizeLine_eq]
 have x4:xs1 (P.tbl (n+2)) Zan [some t.d,some (.ref h.length),some (.ref h0.length),some (.ref (h0.length+1)),none,none] (h0++[.lst [],.lst []])=.ok (.nx,[some t.d,some (.ref h.length),some (.ref h0.length),some (.ref (h0.length+1)),o4,o5]) h1:=by
   have ei:evi (P.tbl (n+2)) (.rev (.var 1)) [some t.d,some (.ref h.length),some (.ref h0.length),some (.ref (h0.length+1)),none,none] (h0++[.lst [],.lst []])=.ok ⟨some (h.length,tl),tl.reverse⟩ (h0++[.lst [],.lst []]):=by
     have:=(b0.old h.length (ZT ht)).trans ht
     generalize h0++[DO.lst [],.lst []]=hh at *
     simp [Zc2,this]
   rw [ZrO,ZiE ei]
   exact e1
 have b2:=ZmI b1 (Oq _) (cells 0 t)
 have x5:xs1 (P.tbl (n+2)) Zam [some t.d,some (.ref h.length),some (.ref h0.length),some (.ref (h0.length+1)),o4,o5] h1=.ok (.nx,[some t.d,some (.ref h.length),some (.ref h0.length),some (.ref (h0.length+1)),o4,o5]) (h1.set h0.length (.lst (cells 0 t))):=by
   have k:=b1.f
   have il:=Zm k
   simp only [OB] at k
   have rv:Zaw .rev (.ref h0.length) [] h1=.ok .non (h1.set h0.length (.lst (cells 0 t))):=by simp [Zaw,k,ZcZ,ZpU]
   simp [Zam,il,rv]
 obtain ⟨g,hg⟩:=ZiH (h:=h) (h1:=h1.set h0.length (.lst (cells 0 t))) (by have:=b2.ol;omega) (fun i hi=>by rw [b2.old i (by omega),old i hi])
 refine ⟨g,h0.length,?_,ol,by rw [<- hg];exact b2.f⟩
 show Zn (xs2 (P.tbl (n+2)) (.cons Zbb (.cons Zap (.cons Zao (.cons Zan (.cons Zam (.cons Zco .nil)))))) [some t.d,none,none,none,none,none] h)=_
 rw [Za x1,Za x2,Za x3,Za x4,Za x5,<- hg]
 rfl
end K41L
end
section
namespace K41L
open PySem L2 IV Tm
variable {P:Pg}
noncomputable def Seg(A:List D)(p:Nat×T):Prop:=∃ pre post,A=pre++cells p.1 p.2++post/\pre.length=p.1
theorem Zoz{A:List D}:∀ (ts:List T) (i:Nat) (pre post:List D),A=pre++Zq i ts++post->pre.length=i->∀ p∈ZE i ts,Seg A p
 | [],_,_,_,_,_,p,hp=>by cases hp
 | t::ts,i,pre,post,e,hl,p,hp=>by
   rcases O2.mp hp with rfl|hp
   . exact ⟨pre,Zq (i+t.size) ts++post,by rw [e,Zq];simp,hl⟩
   . exact Zoz ts (i+t.size) (pre++cells i t) post (by rw [e,Zq];simp) (by rw [OA,Zeh t.size t i (Oq _),hl]) p hp
theorem seg_at{A:List D}{i:Nat}{t:T}(s:Seg A (i,t)):A[i]? = some (cell i t)/\∀ p∈ZE (i+1) t.parts,Seg A p:=by
 obtain ⟨pre,post,e,hl⟩:=s
 simp only at e hl
 rw [Za4] at e
 refine ⟨?_,Zoz t.parts (i+1) (pre++[cell i t]) post (by rw [e];simp) (by simp [hl])⟩
 rw [e,<- hl]
 simp
noncomputable def lr1:Sx:=(.set (.nm 4) (.ix (.ix (.var 0) (.cst (.int 0))) (.meth .pop (.var 3) .nil)))
noncomputable def lr2:Sx:=(.drp (.mcl (O "Pen") (O "take_place") (.var 1) .nil))
noncomputable def lr3:Sx:=(.drp (.meth .app (.var 2) (.cons (.call (O "front_of") (.cons (.var 4) .nil)) .nil)))
noncomputable def lr4:Sx:=(.drp (.meth .ext (.var 3) (.cons (.lrv (.call (O "parts_of") (.cons (.var 4) .nil))) .nil)))
noncomputable def ZlG:Sxs:=.cons lr1 (.cons lr2 (.cons lr3 (.cons lr4 .nil)))
theorem Zsp(H:Trm P)(n:Nat){mo:D}{h0 h:Hd}{sk pk fk wk i:Nat}{u:Int}{A F W:List D}(t:T)(lm:Lim mo (u+1))(hA:h0[sk]? = some (.lst A))(hp0:h0.length<=pk)(ha:A[i]? = some (cell i t))(q:Fi mo h0 h pk fk wk u F (W++[.int (i:Int)]))(hF:F.length<=1000)(hW:W.length<=1000)(o4:Option D):∃ h',
   xs2 (P.tbl (n+1)) ZlG [some (.tup [.ref sk,.int 0]),some (.ref pk),some (.ref fk),some (.ref wk),o4] h=.ok (.nx,[some (.tup [.ref sk,.int 0]),some (.ref pk),some (.ref fk),some (.ref wk),some (cell i t)]) h'/\Fi mo h0 h' pk fk wk (u+1) (F++[tf t]) (W++((ZE (i+1) t.parts).map nD).reverse):=by
 have q1:=q.setW W
 have hs:(h.set wk (.lst W))[sk]? = some (.lst A):=(q1.old sk (ZT hA) (by have:=ZT hA;omega)).trans hA
 have x1:xs1 (P.tbl (n+1)) lr1 [some (.tup [.ref sk,.int 0]),some (.ref pk),some (.ref fk),some (.ref wk),o4] h=.ok (.nx,[some (.tup [.ref sk,.int 0]),some (.ref pk),some (.ref fk),some (.ref wk),some (cell i t)]) (h.set wk (.lst W)):=by
   have pp:=ZdL (h:=h) q.w
   have il:=Zm q.w
   have ix:ZaD P.GD (.ref sk) (.int (i:Int)) (h.set wk (.lst W))=.ok (cell i t) (h.set wk (.lst W)):=by rw [Zu hs,IV.ZbN,ha];rfl
   generalize h.set wk (.lst W)=h1 at *
   simp [lr1,Pg.tbl,il,pp,ix]
 generalize h.set wk (.lst W)=h1 at *
 have q2:=q1.setP (u+1)
 have x2:xs1 (P.tbl (n+1)) lr2 [some (.tup [.ref sk,.int 0]),some (.ref pk),some (.ref fk),some (.ref wk),some (cell i t)] h1=.ok (.nx,[some (.tup [.ref sk,.int 0]),some (.ref pk),some (.ref fk),some (.ref wk),some (cell i t)]) (h1.set pk (Za1 mo (u+1))):=by
   have e1:=ZkX H n lm q1.p
   have pen:=q1.p
   unfold Za1 at pen
   simp [lr2,Zaa,pen,List.lookup,Pg.tbl,e1]
 generalize h1.set pk (Za1 mo (u+1))=h2 at *
 have q3:=q2.setF (F++[tf t])
 have x3:xs1 (P.tbl (n+1)) lr3 [some (.tup [.ref sk,.int 0]),some (.ref pk),some (.ref fk),some (.ref wk),some (cell i t)] h2=.ok (.nx,[some (.tup [.ref sk,.int 0]),some (.ref pk),some (.ref fk),some (.ref wk),some (cell i t)]) (h2.set fk (.lst (F++[tf t]))):=by
   have ef:=Zog H n i t h2
   have ap:=ZZ (d:=tf t) q2.f (by rw [sizeLine_eq];omega)
   have il:=Zm q2.f
   generalize cell i t=c at *
   simp [lr3,Pg.tbl,il,ef,ap]
 generalize h2.set fk (.lst (F++[tf t]))=h3 at *
 have q4:=q3.app (g:=[.lst ((ZE (i+1) t.parts).map nD).reverse])
 have q5:=q4.setW (W++((ZE (i+1) t.parts).map nD).reverse)
 refine ⟨_,?_,q5⟩
 have x4:xs1 (P.tbl (n+1)) lr4 [some (.tup [.ref sk,.int 0]),some (.ref pk),some (.ref fk),some (.ref wk),some (cell i t)] h3=.ok (.nx,[some (.tup [.ref sk,.int 0]),some (.ref pk),some (.ref fk),some (.ref wk),some (cell i t)]) (List.set (h3++[.lst ((ZE (i+1) t.parts).map nD).reverse]) wk (.lst (W++((ZE (i+1) t.parts).map nD).reverse))):=by
   have ep:=Zof H.toTre n i t h3
   have hl:((ZE (i+1) t.parts).map nD).length<=3:=by rw [List.length_map,ZdJ];cases t<;>simp [T.parts]
   have il:=Zm q3.w
   have kw:=q4.w
   generalize cell i t=c at *
   generalize (ZE (i+1) t.parts).map nD=ns at *
   have ex:Zaw .ext (.ref wk) [.ref h3.length] (h3++[.lst ns.reverse])=.ok .non (List.set (h3++[.lst ns.reverse]) wk (.lst (W++ns.reverse))):=by
     simp only [Zaw,kw,ZcZ,ZnS,Zc1]
     rw [if_pos (by rw [sizeLine_eq];simp;omega)]
   simp [lr4,Pg.tbl,il,ep,Zqn,ex]
 rw [ZlG,Za x1,Za x2,Za x3,Za x4]
 rfl
noncomputable def tot(W:List (Nat×T)):Nat:=(W.map fun p=>p.2.size).sum
theorem Zi8:∀ (ts:List T) (i:Nat),tot (ZE i ts)=szs ts
 | [],_=>rfl
 | t::ts,i=>by have:=Zi8 ts (i+t.size);simp only [tot,ZE,szs,Op,OI] at *;omega
theorem Zlf:∀ (ts:List T) (i:Nat),((ZE i ts).flatMap fun p=>p.2.places)=ts.flatMap T.places
 | [],_=>rfl
 | t::ts,i=>by rw [ZE,List.flatMap_cons,List.flatMap_cons,Zlf ts]
theorem Zjw:∀ W:List (Nat×T),W.length<=tot W
 | []=>Oq _
 | p::W=>by have:=Zjw W;have:=ZS p.2;simp only [tot,Op,OI,Os] at *;omega
theorem ZrH(H:Trm P)(n:Nat){h0:Hd}{sk pk fk wk:Nat}{A:List D}(hA:h0[sk]? = some (.lst A))(hp0:h0.length<=pk):∀ (fuel:Nat) (W:List (Nat×T)) (F:List D) (u:Int) (h:Hd) (o4:Option D),tot W<fuel->(∀ p∈W,Seg A p)->Lim (.int 120) (u+tot W)->F.length+tot W<=1000->Fi (.int 120) h0 h pk fk wk u F (W.map nD).reverse->∃ h' o4',
   ZQ (tst (P.tbl (n+1)) (.ex (.var 3))) (xs2 (P.tbl (n+1)) ZlG) fuel [some (.tup [.ref sk,.int 0]),some (.ref pk),some (.ref fk),some (.ref wk),o4] h=.ok (.nx,[some (.tup [.ref sk,.int 0]),some (.ref pk),some (.ref fk),some (.ref wk),o4']) h'/\Fi (.int 120) h0 h' pk fk wk (u+tot W) (F++(W.flatMap fun p=>p.2.places).map tf) []
 | 0,W,F,u,h,o4,hf,_,_,_,_=>by omega
 | fuel+1,[],F,u,h,o4,hf,_,_,_,q=>by
   refine ⟨h,o4,?_,by simpa [tot] using q⟩
   have te:tst (P.tbl (n+1)) (.ex (.var 3)) [some (.tup [.ref sk,.int 0]),some (.ref pk),some (.ref fk),some (.ref wk),o4] h=.ok false h:=by
     have:=ZeF (GD:=P.GD) q.w
     simp [Pg.tbl,this]
   rw [Zt,te]
   rfl
 | fuel+1,(i,t)::W,F,u,h,o4,hf,hs,lm,hz,q=>by
   have te:tst (P.tbl (n+1)) (.ex (.var 3)) [some (.tup [.ref sk,.int 0]),some (.ref pk),some (.ref fk),some (.ref wk),o4] h=.ok true h:=by
     have:=ZeF (GD:=P.GD) q.w
     simp [Pg.tbl,this]
   have e1:tot ((i,t)::W)=t.size+tot W:=by simp [tot]
   have e2:tot (ZE (i+1) t.parts++W)=szs t.parts+tot W:=by rw [<- Zi8 t.parts (i+1)];simp [tot]
   have e3:=Zct t
   have l1:=Zjw W
   have e4:u+(tot ((i,t)::W):Nat)=u+1+(tot (ZE (i+1) t.parts++W):Nat):=by rw [e1,e2];omega
   have q':Fi (.int 120) h0 h pk fk wk u F ((W.map nD).reverse++[.int (i:Int)]):=by simpa [nD] using q
   obtain ⟨sa,sp⟩:=seg_at (hs (i,t) (by simp))
   obtain ⟨h1,x,q1⟩:=Zsp H n t (lm.le (by omega)) hA hp0 sa q' (by omega) (by simp;omega) o4
   obtain ⟨h2,o',y,q2⟩:=ZrH H n hA hp0 fuel (ZE (i+1) t.parts++W) (F++[tf t]) (u+1) h1 (some (cell i t)) (by omega) (fun p hp=>(OD.mp hp).elim (sp p) (fun z=>hs p (by simp [z]))) (by rw [<- e4];exact lm) (by simp;omega) (by simpa using q1)
   refine ⟨h2,o',?_,?_⟩
   . rw [Zt,te]
     simp only [Ze,if_true]
     rw [x]
     exact y
   . rw [e4]
     have:((i,t)::W).flatMap (fun p=>p.2.places)=t::(ZE (i+1) t.parts++W).flatMap fun p=>p.2.places:=by
       rw [List.flatMap_cons,List.flatMap_append,Zlf,T.places_parts]
       rfl
     rw [this]
     simpa using q2
theorem Zph (H:Lw P) (n:Nat) (t:T) (hz:t.size<=120) {h:Hd}{sk:Nat} (hA:h[sk]? = some (.lst (cells 0 t))):∃ g,run P (n+3) (O "graph_read") [.tup [.ref sk,.int 0]] h=.ok t.d (h++g):=by
 rw [Zd H.graph_read (by rfl)]
 have ep:=ZoD H.t.toTrm (n+1) (.int 120) h
 have gw:=H.t.gw
 have q0:Fi (.int 120) h (h++[Za1 (.int 120) 0,.lst [],.lst [.int 0]]) h.length (h.length+1) (h.length+2) 0 [] (([(0,t)]:List (Nat×T)).map nD).reverse:=⟨by simp,by simp,by simp [nD],by omega,by omega,by omega,by simp,fun i hi _=>Oe hi⟩
 have big:=H.t.big
 have e0:tot [(0,t)]=t.size:=by simp [tot]
 obtain ⟨h1,o4,e1,q1⟩:=ZrH H.t.toTrm (n+1) hA (Oq h.length) P.L [(0,t)] [] 0 _ none (by omega) (fun p hp=>by rw [Ox.mp hp];exact ⟨[],[],by simp,rfl⟩) (.inr ⟨120,rfl,by omega⟩) (by simp;omega) q0
 have kf:h1[h.length+1]? = some (.lst (t.places.map tf)):=by simpa using q1.f
 obtain ⟨g1,eb⟩:=Zjj H.t.toTrm n t kf (by omega)
 obtain ⟨g,hg⟩:=ZiH (h:=h) (h1:=h1) q1.ol (fun i hi=>q1.old i hi (by omega))
 refine ⟨g++g1,?_⟩
 have x1:xs1 (P.tbl (n+2)) ZaQ [some (.tup [.ref sk,.int 0]),none,none,none,none] h=.ok (.nx,[some (.tup [.ref sk,.int 0]),some (.ref h.length),none,none,none]) (h++[Za1 (.int 120) 0]):=by
   simp [ZaQ,Pg.tbl,gw,ep]
 have x2:xs1 (P.tbl (n+2)) ZaP [some (.tup [.ref sk,.int 0]),some (.ref h.length),none,none,none] (h++[Za1 (.int 120) 0])=.ok (.nx,[some (.tup [.ref sk,.int 0]),some (.ref h.length),some (.ref (h.length+1)),none,none]) (h++[Za1 (.int 120) 0,.lst []]):=by simp [ZaP,sizeLine_eq]
 have x3:xs1 (P.tbl (n+2)) ZaO [some (.tup [.ref sk,.int 0]),some (.ref h.length),some (.ref (h.length+1)),none,none] (h++[Za1 (.int 120) 0,.lst []])=.ok (.nx,[some (.tup [.ref sk,.int 0]),some (.ref h.length),some (.ref (h.length+1)),some (.ref (h.length+2)),none]) (h++[Za1 (.int 120) 0,.lst [],.lst [.int 0]]):=by simp [ZaO,sizeLine_eq]
 have x4:xs1 (P.tbl (n+2)) ZbB [some (.tup [.ref sk,.int 0]),some (.ref h.length),some (.ref (h.length+1)),some (.ref (h.length+2)),none] (h++[Za1 (.int 120) 0,.lst [],.lst [.int 0]])=.ok (.nx,[some (.tup [.ref sk,.int 0]),some (.ref h.length),some (.ref (h.length+1)),some (.ref (h.length+2)),o4]) h1:=e1
 have x5:xs1 (P.tbl (n+2)) ZbA [some (.tup [.ref sk,.int 0]),some (.ref h.length),some (.ref (h.length+1)),some (.ref (h.length+2)),o4] h1=.ok (.rt t.d,[some (.tup [.ref sk,.int 0]),some (.ref h.length),some (.ref (h.length+1)),some (.ref (h.length+2)),o4]) (h1++g1):=Zbe (Zb8 eb rfl)
 show Zn (xs2 (P.tbl (n+2)) (.cons ZaQ (.cons ZaP (.cons ZaO (.cons ZbB (.cons ZbA .nil))))) [some (.tup [.ref sk,.int 0]),none,none,none,none] h)=_
 rw [Za x1,Za x2,Za x3,Za x4,Zf x5,hg,Oz]
 rfl
end K41L
end
section
namespace K41L
open PySem L2 IV Tm
variable {P:Pg}
noncomputable def ZfR (e:Ex):Tx:=(.ex (.blt .isi (.cons e (.cons (.cst (.ty "tuple")) .nil))))
noncomputable def flt(d:D):Prop:=(∃ s,d=.str s)\/∃ z,d=.int z
theorem Zl7(t:T):∀ d∈fr t,flt d:=by
 cases t<;>simp [fr,flt]
theorem Zot{U:Tb}{S:Ev}{h:Hd}{e:Ex}{xs:List D}(q:ev U e S h=.ok (.tup xs) h):tst U (ZfR e) S h=.ok true h:=by
 simp [ZfR,q,Z5,Zkz,ZkF,Zeb]
theorem ZoM{U:Tb}{S:Ev}{h:Hd}{e:Ex}{d:D}(q:ev U e S h=.ok d h)(f:flt d):tst U (ZfR e) S h=.ok false h:=by
 rcases f with ⟨s,rfl⟩|⟨z,rfl⟩<;>simp [ZfR,q,Z5,Zkz,ZkF,Zeb]
noncomputable def lc1:Sx:=(.set (.nm 3) (.meth .pop (.var 1) .nil))
noncomputable def lc2:Sx:=(.set (.nm 4) (.bin .Add (.blt .len (.cons (.var 2) .nil)) (.cst (.int 1))))
noncomputable def lc3:Sx:=(.set (.nm 5) (.lstl .nil))
noncomputable def la1:Sx:=(.drp (.meth .app (.var 5) (.cons (.var 4) .nil)))
noncomputable def la2:Sx:=(.set (.nm 4) (.bin .Add (.var 4) (.call (O "_law_width") (.cons (.var 6) .nil))))
noncomputable def lb1:Sx:=(.drp (.meth .app (.var 5) (.cons (.var 6) .nil)))
noncomputable def Zep:Sxs:=(.cons (.iff (ZfR (.var 6)) (.cons la1 (.cons la2 .nil)) (.cons lb1 .nil)) .nil)
noncomputable def lc4:Sx:=(.forr (.nm 6) (.pl (.var 3)) Zep)
noncomputable def lc5:Sx:=(.drp (.meth .app (.var 2) (.cons (.blt .tup (.cons (.var 5) .nil)) .nil)))
noncomputable def cpE:Ex:=(.comp [(O "_law_part")] [none] (.rev (.var 3)) (.nm 0) (some (ZfR (.var 0))) (.var 0))
noncomputable def lc6:Sx:=(.set (.nm 1) (.bin .Add (.var 1) cpE))
noncomputable def ZlF:Sxs:=.cons lc1 (.cons lc2 (.cons lc3 (.cons lc4 (.cons lc5 (.cons lc6 .nil)))))
noncomputable def tcW:Tx:=(.ex (.cmp .NotEq (.var 1) (.lstl .nil)))
structure Mk(h1 h:Hd)(M:List D):Prop where
 m:h[h1.length]? = some (.lst M)
 old:∀ i,i<h1.length->h[i]? = h1[i]?
theorem Mk.app{h1 h g:Hd}{M:List D}(q:Mk h1 h M):Mk h1 (h++g) M:=⟨keep q.m,fun i hi=>by rw [Oe (by have:=ZT q.m;omega)];exact q.old i hi⟩
theorem Mk.set{h1 h:Hd}{M:List D}(q:Mk h1 h M)(N:List D):Mk h1 (h.set h1.length (.lst N)) N:=⟨by rw [Ol (ZT q.m)],fun i hi=>by rw [Oc (by omega)];exact q.old i hi⟩
theorem ZoL{U:Tb}{h1:Hd}{o0 o1 o2 o3 o4:Option D}:∀ (xs M:List D) (h:Hd) (o6:Option D),(∀ d∈xs,flt d)->M.length+xs.length<=1000->Mk h1 h M->∃ h' o6',(∀ rest,Z0 none (.nm 6) (xs2 U Zep) (xs++rest) [o0,o1,o2,o3,o4,some (.ref h1.length),o6] h=Z0 none (.nm 6) (xs2 U Zep) rest [o0,o1,o2,o3,o4,some (.ref h1.length),o6'] h')/\Mk h1 h' (M++xs)
 | [],M,h,o6,_,_,q=>⟨h,o6,fun _=>rfl,by simpa using q⟩
 | x::xs,M,h,o6,hx,hz,q=>by
   simp only [Os] at hz
   obtain ⟨h2,o2',e,q2⟩:=ZoL (U:=U) (h1:=h1) (o0:=o0) (o1:=o1) (o2:=o2) (o3:=o3) (o4:=o4) xs (M++[x]) _ (some x) (fun d hd=>hx d (by simp [hd])) (by simp;omega) (q.set (M++[x]))
   refine ⟨h2,o2',fun rest=>?_,by simpa using q2⟩
   rw [<- e rest,List.cons_append,Z4]
   have f:=ZoM (U:=U) (S:=[o0,o1,o2,o3,o4,some (.ref h1.length),some x]) (h:=h) (e:=.var 6) rfl (hx x (by simp))
   have ap:=ZZ (d:=x) q.m (by rw [sizeLine_eq];omega)
   have il:=Zm q.m
   have y:xs2 U Zep [o0,o1,o2,o3,o4,some (.ref h1.length),some x] h=.ok (.nx,[o0,o1,o2,o3,o4,some (.ref h1.length),some x]) (h.set h1.length (.lst (M++[x]))):=by
     rw [Zep,Za ((ZaH f).trans (show xs2 U (.cons lb1 .nil) [o0,o1,o2,o3,o4,some (.ref h1.length),some x] h=.ok (.nx,[o0,o1,o2,o3,o4,some (.ref h1.length),some x]) (h.set h1.length (.lst (M++[x]))) by simp [lb1,il,ap]))]
     rfl
   simp only [ZeQ,List.set]
   rw [y]
   rfl
theorem ZoK(H:Gn.Mkr P)(n:Nat){h1:Hd}{o0 o1 o2 o3:Option D}:∀ (ts:List T) (a:Nat) (M:List D) (h:Hd) (o6:Option D),(∀ t∈ts,Gn.dep t<=240)->M.length+ts.length<=1000->Mk h1 h M->∃ h' o4' o6',Z0 none (.nm 6) (xs2 (P.tbl (n+241)) Zep) (ts.map T.d) [o0,o1,o2,o3,some (.int (a:Int)),some (.ref h1.length),o6] h=.ok (.nx,[o0,o1,o2,o3,o4',some (.ref h1.length),o6']) h'/\Mk h1 h' (M++(ZE a ts).map nD)
 | [],a,M,h,o6,_,_,q=>⟨h,some (.int (a:Int)),o6,rfl,by simpa [ZE] using q⟩
 | t::ts,a,M,h,o6,hx,hz,q=>by
   simp only [Os] at hz
   have q1:=q.set (M++[.int (a:Int)])
   have ap:=ZZ (d:=.int (a:Int)) q.m (by rw [sizeLine_eq];omega)
   have il:=Zm q.m
   have f:=Zot (U:=P.tbl (n+241)) (S:=[o0,o1,o2,o3,some (.int (a:Int)),some (.ref h1.length),some t.d]) (h:=h) (e:=.var 6) (xs:=fr t++t.parts.map T.d) (by rw [<- Zmj];rfl)
   have y1:xs1 (P.tbl (n+241)) la1 [o0,o1,o2,o3,some (.int (a:Int)),some (.ref h1.length),some t.d] h=.ok (.nx,[o0,o1,o2,o3,some (.int (a:Int)),some (.ref h1.length),some t.d]) (h.set h1.length (.lst (M++[.int (a:Int)]))):=by simp [la1,il,ap]
   generalize h.set h1.length (.lst (M++[.int (a:Int)]))=h2 at *
   obtain ⟨g,ew⟩:=Gn.Zjg H 240 n t h2 (hx t (by simp))
   have y2:xs1 (P.tbl (n+241)) la2 [o0,o1,o2,o3,some (.int (a:Int)),some (.ref h1.length),some t.d] h2=.ok (.nx,[o0,o1,o2,o3,some (.int ((a+t.size:Nat):Int)),some (.ref h1.length),some t.d]) (h2++g):=Zc4 ((Zcd (x:=.int (a:Int)) (y:=.int (t.size:Int)) rfl (Zb8 ew rfl)).trans rfl)
   obtain ⟨h3,o4',o6',e,q3⟩:=ZoK H n (h1:=h1) (o0:=o0) (o1:=o1) (o2:=o2) (o3:=o3) ts (a+t.size) (M++[.int (a:Int)]) (h2++g) (some t.d) (fun s hs=>hx s (by simp [hs])) (by simp;omega) q1.app
   refine ⟨h3,o4',o6',?_,by simpa [ZE,nD] using q3⟩
   rw [Op,Z4]
   have y:xs2 (P.tbl (n+241)) Zep [o0,o1,o2,o3,some (.int (a:Int)),some (.ref h1.length),some t.d] h=.ok (.nx,[o0,o1,o2,o3,some (.int ((a+t.size:Nat):Int)),some (.ref h1.length),some t.d]) (h2++g):=by
     rw [Zep,Za ((ZaT f).trans ((Za y1).trans ((Za y2).trans rfl)))]
     rfl
   simp only [ZeQ,List.set]
   rw [y]
   exact e
theorem Zmt{U:Tb}{h:Hd}:∀ (ts:List T) (acc rest:List D),acc.length+ts.length<=1000->Zx none (.nm 0) (tsto U (some (ZfR (.var 0)))) (ev U (.var 0)) (ts.map T.d++rest) [none] acc h=Zx none (.nm 0) (tsto U (some (ZfR (.var 0)))) (ev U (.var 0)) rest [none] (acc++ts.map T.d) h
 | [],acc,rest,_=>by simp
 | t::ts,acc,rest,hz=>by
   simp only [Os] at hz
   have ih:=Zmt (U:=U) (h:=h) ts (acc++[t.d]) rest (by simp;omega)
   have f:=Zot (U:=U) (S:=[some t.d]) (h:=h) (e:=.var 0) (xs:=fr t++t.parts.map T.d) (by rw [<- Zmj];rfl)
   have hl:acc.length<16777216:=by omega
   rw [Op,List.cons_append,ZF]
   simp [Wk.stays,hl,sizeLine_eq,f]
   simpa using ih
theorem Zms{U:Tb}{h:Hd}:∀ (xs acc:List D),(∀ d∈xs,flt d)->acc.length<=1000->Zx none (.nm 0) (tsto U (some (ZfR (.var 0)))) (ev U (.var 0)) xs [none] acc h=.ok acc h
 | [],acc,_,_=>by simp [Zx,Wk.stays]
 | x::xs,acc,hx,hz=>by
   have ih:=Zms (U:=U) (h:=h) xs acc (fun d hd=>hx d (by simp [hd])) hz
   have f:=ZoM (U:=U) (S:=[some x]) (h:=h) (e:=.var 0) (d:=x) rfl (hx x (by simp))
   have hl:acc.length<16777216:=by omega
   rw [ZF]
   simp [Wk.stays,hl,sizeLine_eq,f]
   exact ih
structure Lc(h0 h:Hd)(ck wk:Nat)(C W:List D):Prop where
 c:h[ck]? = some (.lst C)
 w:h[wk]? = some (.lst W)
 ne:ck≠wk
 o1:h0.length<=ck
 o2:h0.length<=wk
 ol:h0.length<=h.length
 old:∀ i,i<h0.length->h[i]? = h0[i]?
theorem Zso(H:Gn.Mkr P)(n:Nat){h0 h:Hd}{ck wk:Nat}{C W:List D}(t:T)(hd:Gn.dep t<=240)(q:Lc h0 h ck wk C (W++[t.d]))(hC:C.length<=1000)(hW:W.length<=1000)(o0 o3 o4 o5 o6:Option D):∃ h' wk' o4' o5' o6',
   xs2 (P.tbl (n+241)) ZlF [o0,some (.ref wk),some (.ref ck),o3,o4,o5,o6] h=.ok (.nx,[o0,some (.ref wk'),some (.ref ck),some t.d,o4',o5',o6']) h'/\Lc h0 h' ck wk' (C++[cell C.length t]) (W++(t.parts.map T.d).reverse):=by
 have hp:t.parts.length<=3:=by cases t<;>simp [T.parts]
 have hf:(fr t).length<=3:=by cases t<;>simp [fr]
 have pp:=ZdL (h:=h) q.w
 have il:=Zm q.w
 have lw:=ZT q.w
 have x1:xs1 (P.tbl (n+241)) lc1 [o0,some (.ref wk),some (.ref ck),o3,o4,o5,o6] h=.ok (.nx,[o0,some (.ref wk),some (.ref ck),some t.d,o4,o5,o6]) (h.set wk (.lst W)):=by simp [lc1,il,pp]
 have q1:Lc h0 (h.set wk (.lst W)) ck wk C W:=⟨by rw [Oc q.ne.symm];exact q.c,by rw [Ol lw],q.ne,q.o1,q.o2,by simpa using q.ol,fun i hi=>by rw [Oc (by have:=q.o2;omega)];exact q.old i hi⟩
 generalize h.set wk (.lst W)=h1 at *
 have x2:xs1 (P.tbl (n+241)) lc2 [o0,some (.ref wk),some (.ref ck),some t.d,o4,o5,o6] h1=.ok (.nx,[o0,some (.ref wk),some (.ref ck),some t.d,some (.int ((C.length+1:Nat):Int)),o5,o6]) h1:=by
   have kc:=q1.c
   simp [lc2,Z5,ZfI,seqOf,lstOf,kc]
 have x3:xs1 (P.tbl (n+241)) lc3 [o0,some (.ref wk),some (.ref ck),some t.d,some (.int ((C.length+1:Nat):Int)),o5,o6] h1=.ok (.nx,[o0,some (.ref wk),some (.ref ck),some t.d,some (.int ((C.length+1:Nat):Int)),some (.ref h1.length),o6]) (h1++[.lst []]):=by simp [lc3,sizeLine_eq]
 have m0:Mk h1 (h1++[.lst []]) []:=⟨by simp,fun i hi=>Oe hi⟩
 obtain ⟨h2,o62,e2,m2⟩:=ZoL (U:=P.tbl (n+241)) (o0:=o0) (o1:=some (.ref wk)) (o2:=some (.ref ck)) (o3:=some t.d) (o4:=some (.int ((C.length+1:Nat):Int))) (fr t) [] _ o6 (Zl7 t) (by simp;omega) m0
 obtain ⟨h3,o43,o63,e3,m3⟩:=ZoK H n (o0:=o0) (o1:=some (.ref wk)) (o2:=some (.ref ck)) (o3:=some t.d) t.parts (C.length+1) ([]++fr t) h2 o62 (fun s hs=>by have:=Gn.Zb7 hs;omega) (by simp;omega) m2
 have x4:xs1 (P.tbl (n+241)) lc4 [o0,some (.ref wk),some (.ref ck),some t.d,some (.int ((C.length+1:Nat):Int)),some (.ref h1.length),o6] (h1++[.lst []])=.ok (.nx,[o0,some (.ref wk),some (.ref ck),some t.d,o43,some (.ref h1.length),o63]) h3:=by
   have ei:evi (P.tbl (n+241)) (.pl (.var 3)) [o0,some (.ref wk),some (.ref ck),some t.d,some (.int ((C.length+1:Nat):Int)),some (.ref h1.length),o6] (h1++[.lst []])=.ok ⟨none,fr t++t.parts.map T.d⟩ (h1++[.lst []]):=by
     rw [Zmj]
     rfl
   rw [lc4,ZiE ei]
   exact (e2 _).trans e3
 have l1c:=ZT q1.c
 have l1w:=ZT q1.w
 have kc3:h3[ck]? = some (.lst C):=(m3.old ck l1c).trans q1.c
 have x5:xs1 (P.tbl (n+241)) lc5 [o0,some (.ref wk),some (.ref ck),some t.d,o43,some (.ref h1.length),o63] h3=.ok (.nx,[o0,some (.ref wk),some (.ref ck),some t.d,o43,some (.ref h1.length),o63]) (h3.set ck (.lst (C++[cell C.length t]))):=by
   have km:=m3.m
   have il3:=Zm kc3
   have ap:=ZZ (d:=cell C.length t) kc3 (by rw [sizeLine_eq];omega)
   have tu:Z5 P.GD .tup [.ref h1.length] h3=.ok (cell C.length t) h3:=by simp only [Z5,ZhR,lstOf,km];rfl
   simp [lc5,Pg.tbl,il3,tu,ap]
 have l3:=ZT m3.m
 have kw4:(h3.set ck (.lst (C++[cell C.length t])))[wk]? = some (.lst W):=by rw [Oc q1.ne];exact (m3.old wk l1w).trans q1.w
 have kc4:(h3.set ck (.lst (C++[cell C.length t])))[ck]? = some (.lst (C++[cell C.length t])):=by rw [Ol (by omega)]
 have old4:∀ i,i<h0.length->(h3.set ck (.lst (C++[cell C.length t])))[i]? = h0[i]? := fun i hi=>by rw [Oc (by have:=q1.o1;omega),m3.old i (by have:=q1.ol;omega)];exact q1.old i hi
 have len4:h0.length<=(h3.set ck (.lst (C++[cell C.length t]))).length:=by have:=q1.ol;simp;omega
 generalize h3.set ck (.lst (C++[cell C.length t]))=h4 at *
 have cc:Zx none (.nm 0) (tsto (P.tbl (n+241)) (some (ZfR (.var 0)))) (ev (P.tbl (n+241)) (.var 0)) (fr t++t.parts.map T.d).reverse [none] [] h4=.ok (t.parts.map T.d).reverse h4:=by
   have a:=Zmt (U:=P.tbl (n+241)) (h:=h4) t.parts.reverse [] (fr t).reverse (by simp;omega)
   have b:=Zms (U:=P.tbl (n+241)) (h:=h4) (fr t).reverse ([]++t.parts.reverse.map T.d) (fun d hd=>Zl7 t d (List.mem_reverse.mp hd)) (by simp;omega)
   have c:=a.trans b
   simpa using c
 have ecp:ev (P.tbl (n+241)) cpE [o0,some (.ref wk),some (.ref ck),some t.d,o43,some (.ref h1.length),o63] h4=.ok (.ref h4.length) (h4++[.lst (t.parts.map T.d).reverse]):=by
   have ei:evi (P.tbl (n+241)) (.rev (.var 3)) [o0,some (.ref wk),some (.ref ck),some t.d,o43,some (.ref h1.length),o63] h4=.ok ⟨none,(fr t++t.parts.map T.d).reverse⟩ h4:=by
     rw [Zmj]
     rfl
   rw [cpE,ZcX,ei,Ze]
   simp only [ZaM,Op,Oy,Option.bind_none]
   rw [cc]
   rfl
 have x6:xs1 (P.tbl (n+241)) lc6 [o0,some (.ref wk),some (.ref ck),some t.d,o43,some (.ref h1.length),o63] h4=.ok (.nx,[o0,some (.ref (h4.length+1)),some (.ref ck),some t.d,o43,some (.ref h1.length),o63]) (h4++[.lst (t.parts.map T.d).reverse,.lst (W++(t.parts.map T.d).reverse)]):=by
   have kw5:(h4++[DO.lst (t.parts.map T.d).reverse])[wk]? = some (.lst W):=keep kw4
   have k5:(h4++[DO.lst (t.parts.map T.d).reverse])[h4.length]? = some (.lst (t.parts.map T.d).reverse):=Zc1
   have ad:opB .Add (.ref wk) (.ref h4.length) (h4++[DO.lst (t.parts.map T.d).reverse])=.ok (.ref (h4.length+1)) (h4++[.lst (t.parts.map T.d).reverse,.lst (W++(t.parts.map T.d).reverse)]):=by
     have hl:W.length+(t.parts.map T.d).reverse.length<=sizeLine:=by rw [sizeLine_eq];simp;omega
     generalize (t.parts.map T.d).reverse=pd at *
     simp only [opB,ZmF,lstOf,kw5,k5]
     simp [hl]
   exact Zc4 ((Zcd (x:=.ref wk) rfl ecp).trans ad)
 have l4:=ZT kw4
 have l4c:=ZT kc4
 have q6:Lc h0 (h4++[.lst (t.parts.map T.d).reverse,.lst (W++(t.parts.map T.d).reverse)]) ck (h4.length+1) (C++[cell C.length t]) (W++(t.parts.map T.d).reverse):=⟨keep kc4,Zr1,by omega,q1.o1,by omega,by simp;omega,fun i hi=>by rw [Oe (by omega)];exact old4 i hi⟩
 refine ⟨_,h4.length+1,o43,some (.ref h1.length),o63,?_,q6⟩
 rw [ZlF,Za x1,Za x2,Za x3,Za x4,Za x5,Za x6]
 rfl
end K41L
end
section
namespace K41L
open PySem L2 IV Tm
variable {P:Pg}
theorem Zjm:∀ l:List T,D.pures (l.map T.d)=true
 | []=>rfl
 | t::r=>by
   have:=Zjm r
   simp [D.pures,_root_.Rw.T.pure_d,this]
theorem Zie{h:Hd}{a b:Nat}{xs:List D}(hp:D.pures xs=true)(e1:h[a]? = some (.lst xs))(e2:h[b]? = some (.lst [])):IV.Zbi true (.ref a) (.ref b) h=.ok (.bl (!xs.isEmpty)) h:=by
 have pb:ZfK h (.ref b)=some (.list []):=by
   show ZbZ h 4 b=_
   rw [ZbZ,e2]
   rfl
 have pa:∃ ps,ZfK h (.ref a)=some (.list ps)/\ps.isEmpty=xs.isEmpty:=by
   cases xs with
   | nil=>exact ⟨[],by show ZbZ h 4 a=_;rw [ZbZ,e1];rfl,rfl⟩
   | cons x xs =>
     rw [D.pures,Oa] at hp
     obtain ⟨p,a1,_,_⟩:=Zgj (rd:=ZbZ h 3) x hp.1
     obtain ⟨ps,b1,_,_⟩:=pys_same (rd:=ZbZ h 3) xs hp.2
     exact ⟨p::ps,by show ZbZ h 4 a=_;rw [ZbZ,e1];simp [D.pys,a1,b1],rfl⟩
 obtain ⟨ps,pa,pe⟩:=pa
 unfold IV.Zbi
 rw [pa,pb]
 simp only
 rw [if_pos (by simp [PyData.depth,PyData.depthAll]),<- pe]
 cases ps<;>simp [PyData.eqv,PyData.eqvAll]
theorem ZrG(H:Gn.Mkr P)(n:Nat){h0:Hd}{ck:Nat}{o0:Option D}:∀ (fuel:Nat) (W:List T) (C:List D) (h:Hd) (wk:Nat) (o3 o4 o5 o6:Option D),szs W<fuel->(∀ t∈W,Gn.dep t<=240)->C.length+szs W<=1000->Lc h0 h ck wk C (W.map T.d).reverse->∃ h' wk' o3' o4' o5' o6',
   ZQ (tst (P.tbl (n+241)) tcW) (xs2 (P.tbl (n+241)) ZlF) fuel [o0,some (.ref wk),some (.ref ck),o3,o4,o5,o6] h=.ok (.nx,[o0,some (.ref wk'),some (.ref ck),o3',o4',o5',o6']) h'/\Lc h0 h' ck wk' (C++Zq C.length W) []
 | 0,W,C,h,wk,o3,o4,o5,o6,hf,_,_,_=>by omega
 | fuel+1,W,C,h,wk,o3,o4,o5,o6,hf,hd,hz,q=>by
   have te:tst (P.tbl (n+241)) tcW [o0,some (.ref wk),some (.ref ck),o3,o4,o5,o6] h=.ok (!((W.map T.d).reverse).isEmpty) (h++[.lst []]):=by
     have hp:D.pures (W.map T.d).reverse=true:=by rw [<- List.map_reverse];exact Zjm _
     have e:opC (P.tbl (n+241)).GD .NotEq (.ref wk) (.ref h.length) (h++[.lst []])=.ok (.bl (!((W.map T.d).reverse).isEmpty)) (h++[.lst []]):=Zie hp (keep q.w) Zc1
     exact Zhz ((Za3 (x:=.ref wk) (y:=.ref h.length) (h2:=h++[.lst []]) rfl rfl).trans e)
   have q0:Lc h0 (h++[.lst []]) ck wk C (W.map T.d).reverse:=⟨keep q.c,keep q.w,q.ne,q.o1,q.o2,by have:=q.ol;simp;omega,fun i hi=>by rw [Oe (by have:=q.ol;omega)];exact q.old i hi⟩
   rw [Zt,te,Ze]
   cases W with
   | nil=>exact ⟨_,wk,o3,o4,o5,o6,rfl,by simpa [Zq] using q0⟩
   | cons t W =>
     rw [Zbm] at hf hz
     have hs:=Zct t
     have hw:=Zgs W
     have ea:szs (t.parts++W)=szs t.parts+szs W:=by simp [szs]
     obtain ⟨h1,wk1,o41,o51,o61,x,q1⟩:=Zso H n t (hd t (by simp)) (W:=(W.map T.d).reverse) (by simpa using q0) (by omega) (by simp;omega) o0 o3 o4 o5 o6
     obtain ⟨h2,wk2,o32,o42,o52,o62,y,q2⟩:=ZrG H n (o0:=o0) fuel (t.parts++W) (C++[cell C.length t]) h1 wk1 (some t.d) o41 o51 o61 (by omega) (fun s hs=>(OD.mp hs).elim (fun z=>by have:=Gn.Zb7 z;have:=hd t (by simp);omega) (fun z=>hd s (by simp [z]))) (by simp;omega) (by simpa using q1)
     refine ⟨h2,wk2,o32,o42,o52,o62,?_,?_⟩
     . have:(!((t::W).map T.d).reverse.isEmpty)=true:=by simp
       rw [this,if_pos rfl,x]
       exact y
     . rw [Zq,Za4,hs]
       rw [ZfC] at q2
       have e:C.length+(1+szs t.parts)=C.length+1+szs t.parts:=by omega
       rw [e]
       simpa using q2
theorem Zm8 (H:Lw P) (n:Nat) (t:T) (hz:t.size<=120) (h:Hd):∃ g k,run P (n+242) (O "_law_cells") [t.d] h=.ok (.ref k) (h++g)/\h.length<=k/\(h++g)[k]? = some (.lst (cells 0 t)):=by
 rw [Zd H.law_cells (by rfl)]
 have big:=H.t.big
 have dl:=Zbv t
 have q0:Lc h (h++[.lst [t.d],.lst []]) (h.length+1) h.length [] (([t]:List T).map T.d).reverse:=⟨Zr1,Zc1,by omega,by omega,by omega,by simp,fun i hi=>Oe hi⟩
 have es:szs [t]=t.size:=by simp [szs]
 obtain ⟨h1,wk,o3,o4,o5,o6,e1,q1⟩:=ZrG H.m n (o0:=some t.d) P.L [t] [] _ h.length none none none none (by omega) (fun s hs=>by rw [Ox.mp hs];omega) (by simp;omega) q0
 obtain ⟨g,hg⟩:=ZiH q1.ol q1.old
 refine ⟨g,h.length+1,?_,by omega,by rw [<- hg];simpa [Zq] using q1.c⟩
 have x1:xs1 (P.tbl (n+241)) Za0 [some t.d,none,none,none,none,none,none] h=.ok (.nx,[some t.d,some (.ref h.length),none,none,none,none,none]) (h++[.lst [t.d]]):=by simp [Za0,sizeLine_eq]
 have x2:xs1 (P.tbl (n+241)) ZaZ [some t.d,some (.ref h.length),none,none,none,none,none] (h++[.lst [t.d]])=.ok (.nx,[some t.d,some (.ref h.length),some (.ref (h.length+1)),none,none,none,none]) (h++[.lst [t.d],.lst []]):=by simp [ZaZ,sizeLine_eq]
 have x3:xs1 (P.tbl (n+241)) ZbT [some t.d,some (.ref h.length),some (.ref (h.length+1)),none,none,none,none] (h++[.lst [t.d],.lst []])=.ok (.nx,[some t.d,some (.ref wk),some (.ref (h.length+1)),o3,o4,o5,o6]) h1:=e1
 show Zn (xs2 (P.tbl (n+241)) (.cons Za0 (.cons ZaZ (.cons ZbT (.cons Zdl .nil)))) [some t.d,none,none,none,none,none,none] h)=_
 rw [Za x1,Za x2,Za x3,<- hg]
 rfl
theorem Zkv(i:Nat)(t:T):(cell i t).pure=true/\(cell i t).dp<=1:=by
 cases t<;>simp [cell,fr,T.parts,ZE,nD,D.pure,D.pures,D.dp,D.dps]
theorem ZfB:∀ (m:Nat) (t:T) (i:Nat),t.size<=m->∀ d∈cells i t,d.pure=true/\d.dp<=1
 | 0,t,i,h,_,_=>by have:=ZS t;omega
 | m+1,t,i,h,d,hd=>by
   have L:∀ (ts:List T) (i:Nat),szs ts<=m->∀ d∈Zq i ts,d.pure=true/\d.dp<=1:=by
     intro ts
     induction ts with
     | nil=>intro i _ d hd;cases hd
     | cons t ts ih =>
       intro i q d hd
       rw [Zbm] at q
       rw [Zq] at hd
       rcases OD.mp hd with z|z
       . exact ZfB m t i (by omega) d z
       . exact ih _ (by omega) d z
   rw [Za4] at hd
   have:=Zct t
   rcases O2.mp hd with rfl|z
   . exact Zkv i t
   . exact L _ _ (by omega) d z
theorem Zhf:∀ (l:List D),(∀ d∈l,d.pure=true/\d.dp<=1)->D.pures l=true/\D.dps l<=1
 | [],_=>⟨rfl,Nat.zero_le _⟩
 | d::l,q=>by
   have a:=q d (by simp)
   have b:=Zhf l (fun x hx=>q x (by simp [hx]))
   refine ⟨by simp [D.pures,a.1,b.1],?_⟩
   simp only [D.dps]
   omega
theorem Zjc{n:Bool}{h:Hd}{a b:Nat}{l:List D}(hp:D.pures l=true)(hd:D.dps l<=1)(e1:h[a]? = some (.lst l))(e2:h[b]? = some (.lst l)):IV.Zbi n (.tup [.ref a,.int 0]) (.tup [.ref b,.int 0]) h=.ok (.bl (!n)) h:=by
 obtain ⟨ps,p1,p2,p3⟩:=pys_same (rd:=ZbZ h 3) l hp
 have p:∀ c,h[c]? = some (.lst l)->ZfK h (.tup [.ref c,.int 0])=some (.tuple [.list ps,.int 0]):=fun c ec=>by
   have:ZbZ h 4 c=some (.list ps):=by rw [ZbZ,ec];simp [p1]
   simp only [ZfK,D.py,D.pys,this,Option.bind_some,Option.map_some]
 unfold IV.Zbi
 rw [p a e1,p b e2]
 simp only
 rw [if_pos (by simp [PyData.depth,PyData.depthAll];omega),show PyData.eqv (.tuple [.list ps,.int 0]) (.tuple [.list ps,.int 0])=true by simp [PyData.eqv,PyData.eqvAll,p3]]
 cases n<;>rfl
noncomputable def lw1:Sx:=(.set (.nm 2) (.call (O "graph_begun") (.cons (.var 1) .nil)))
noncomputable def lw2:Sx:=(.set (.nm 3) (.call (O "_law_cells") (.cons (.var 1) .nil)))
noncomputable def lw3:Sx:=(.iff (.ors (.cons (.nt (.ex (.blt .isi (.cons (.var 2) (.cons (.cst (.ty "tuple")) .nil))))) (.cons (.ex (.cmp .NotEq (.blt .len (.cons (.var 2) .nil)) (.cst (.int 2)))) (.cons (.nt (.ex (.blt .isi (.cons (.ix (.var 2) (.cst (.int 0))) (.cons (.cst (.ty "list")) .nil))))) (.one (.ex (.cmp .NotEq (.var 2) (.tupl (.cons (.var 3) (.cons (.cst (.int 0)) .nil)))))))))) (.cons (.ret (.cst (.bl false))) .nil) .nil)
noncomputable def lw4:Sx:=(.iff (.ex (.cmp .NotEq (.call (O "graph_read") (.cons (.var 2) .nil)) (.var 1))) (.cons (.ret (.cst (.bl false))) .nil) .nil)
noncomputable def lw5:Sx:=(.drp (.meth .clr (.ix (.var 2) (.cst (.int 0))) .nil))
noncomputable def lw6:Sx:=(.iff (.ex (.cmp .NotEq (.call (O "graph_begun") (.cons (.var 1) .nil)) (.tupl (.cons (.var 3) (.cons (.cst (.int 0)) .nil))))) (.cons (.ret (.cst (.bl false))) .nil) .nil)
noncomputable def ZlE:Sxs:=.cons lw1 (.cons lw2 (.cons lw3 (.cons lw4 (.cons lw5 (.cons lw6 .nil)))))
noncomputable def lwI:Ix:=(.pl (.lstl (.cons (.call (O "_law_program") (.cons (.var 0) (.cons (.cst (.int 1)) .nil))) (.cons (.ix (.ix (.call (O "row_of") (.cons (.call (O "_law_program") (.cons (.var 0) (.cons (.cst (.int 0)) .nil))) (.cons (.cst (.int 30)) .nil))) (.cst (.int 0))) (.neg (.cst (.int 1)))) .nil))))
theorem ZrD:ZeS=.forr (.nm 1) lwI ZlE:=rfl
theorem Zos(H:Lw P)(t:T)(hz:t.size<=120)(h:Hd)(o0 o2 o3:Option D):∃ h' o2' o3',xs2 (P.tbl 250) ZlE [o0,some t.d,o2,o3] h=.ok (.nx,[o0,some t.d,o2',o3']) h'/\∀ i,i<h.length->h'[i]? = h[i]? := by
 obtain ⟨g1,k,e1,hk,c1⟩:=Zjk H 247 t hz h
 obtain ⟨g2,j,e2,hj,c2⟩:=Zm8 H 8 t hz (h++g1)
 have old2:∀ i,i<h.length->(h++g1++g2)[i]? = h[i]? := fun i hi=>by rw [Oz,Oe hi]
 have c1':(h++g1++g2)[k]? = some (.lst (cells 0 t)):=keep c1
 have lk:=ZT c1
 have x1:xs1 (P.tbl 250) lw1 [o0,some t.d,o2,o3] h=.ok (.nx,[o0,some t.d,some (.tup [.ref k,.int 0]),o3]) (h++g1):=Zc4 (Zb8 e1 rfl)
 have x2:xs1 (P.tbl 250) lw2 [o0,some t.d,some (.tup [.ref k,.int 0]),o3] (h++g1)=.ok (.nx,[o0,some t.d,some (.tup [.ref k,.int 0]),some (.ref j)]) (h++g1++g2):=Zc4 (Zb8 e2 rfl)
 have hkj:k≠j:=by omega
 have hl2:h.length<=(h++g1++g2).length:=by simp
 generalize h++g1++g2=h2 at *
 obtain ⟨cp,cd⟩:=Zhf _ (ZfB t.size t 0 (Oq _))
 have s1:=Zjc (n:=true) cp cd c1' c2
 have x3:xs1 (P.tbl 250) lw3 [o0,some t.d,some (.tup [.ref k,.int 0]),some (.ref j)] h2=.ok (.nx,[o0,some t.d,some (.tup [.ref k,.int 0]),some (.ref j)]) h2:=by
   simp [lw3,Z5,Zkz,ZfI,ZkF,Zeb,lstOf,c1',sizeLine_eq,s1]
 obtain ⟨g3,e4⟩:=Zph H 247 t hz c1'
 have dl:=Zbv t
 have s2:opC (P.tbl 250).GD .NotEq t.d t.d (h2++g3)=.ok (.bl false) (h2++g3):=Zkf (n:=true) (_root_.Rw.T.pure_d t) (by rw [_root_.Rw.T.dp_d];omega)
 have x4:xs1 (P.tbl 250) lw4 [o0,some t.d,some (.tup [.ref k,.int 0]),some (.ref j)] h2=.ok (.nx,[o0,some t.d,some (.tup [.ref k,.int 0]),some (.ref j)]) (h2++g3):=(ZaH (Zhz ((Za3 (Zb8 e4 rfl) rfl).trans s2))).trans rfl
 have c3:(h2++g3)[k]? = some (.lst (cells 0 t)):=keep c1'
 have c4:(h2++g3)[j]? = some (.lst (cells 0 t)):=keep c2
 have old3:∀ i,i<h.length->(h2++g3)[i]? = h[i]? := fun i hi=>by rw [Oe (by omega)];exact old2 i hi
 have hl3:h.length<=(h2++g3).length:=by simp;omega
 generalize h2++g3=h3 at *
 have x5:xs1 (P.tbl 250) lw5 [o0,some t.d,some (.tup [.ref k,.int 0]),some (.ref j)] h3=.ok (.nx,[o0,some t.d,some (.tup [.ref k,.int 0]),some (.ref j)]) (h3.set k (.lst [])):=by
   have il:=Zm c3
   have cl:Zaw .clr (.ref k) [] h3=.ok .non (h3.set k (.lst [])):=by simp [Zaw,c3,ZcZ,ZpV]
   simp [lw5,il,cl]
 have c5:(h3.set k (.lst []))[j]? = some (.lst (cells 0 t)):=by rw [Oc hkj];exact c4
 have old4:∀ i,i<h.length->(h3.set k (.lst []))[i]? = h[i]? := fun i hi=>by rw [Oc (by omega)];exact old3 i hi
 have hl4:h.length<=(h3.set k (.lst [])).length:=by simpa using hl3
 generalize h3.set k (.lst [])=h4 at *
 obtain ⟨g5,k',e6,_,c6⟩:=Zjk H 247 t hz h4
 have s3:opC (P.tbl 250).GD .NotEq (.tup [.ref k',.int 0]) (.tup [.ref j,.int 0]) (h4++g5)=.ok (.bl false) (h4++g5):=Zjc (n:=true) cp cd c6 (keep c5)
 have x6:xs1 (P.tbl 250) lw6 [o0,some t.d,some (.tup [.ref k,.int 0]),some (.ref j)] h4=.ok (.nx,[o0,some t.d,some (.tup [.ref k,.int 0]),some (.ref j)]) (h4++g5):=(ZaH (Zhz ((Za3 (Zb8 e6 rfl) (y:=.tup [.ref j,.int 0]) rfl).trans s3))).trans rfl
 refine ⟨h4++g5,some (.tup [.ref k,.int 0]),some (.ref j),?_,fun i hi=>by rw [Oe (by omega)];exact old4 i hi⟩
 rw [ZlE,Za x1,Za x2,Za x3,Za x4,Za x5,Za x6]
 rfl
theorem Zha:∀ (m:Nat) (t:T),Gn.Cl [] t->t.size<=120->∃ r u,(row m t).1=r++[u]/\u.size<=120
 | 0,t,c,hz=>⟨[],t,rfl,hz⟩
 | m+1,t,c,hz=>by
   cases nv:isV t with
   | true=>exact ⟨[],t,by simp [row,nv],hz⟩
   | false =>
     cases hn:next t with
     | none=>exact ⟨[],t,by simp [row,nv,hn],hz⟩
     | some u =>
       by_cases hw:120<u.size
       . exact ⟨[],t,by simp [row,nv,hn,hw],hz⟩
       . obtain ⟨r,v,e,q⟩:=Zha m u (Zhk nv c hz hn).1 (by omega)
         exact ⟨t::r,v,by simp [row,nv,hn,hw,e],q⟩
theorem Zq6 (H:Lw P) (zs:List Int) (hz:zs.length<=63):∃ h',run P (250+1) (O "law") [.ro (zs.map .int)] []=.ok (.bl true) h':=by
 obtain ⟨t,h1,e1,ct,st,_,_,_⟩:=Gn.Zf2 H.m (N:=249) (by omega) zs 1 [] (by omega)
 obtain ⟨s,h2,e2,cs,ss,_,_,_⟩:=Gn.Zf2 H.m (N:=249) (by omega) zs 0 h1 (by omega)
 obtain ⟨g,e3⟩:=Zq5 H.t 242 s 30 (by omega) cs (by omega) h2
 obtain ⟨r,u,er,hu⟩:=Zha 30 s cs (by omega)
 rw [er] at e3
 have k3:(h2++DO.lst ((r++[u]).map T.d)::g)[h2.length]? = some (.lst (r.map T.d++[u.d])):=by simp
 generalize h2++DO.lst ((r++[u]).map T.d)::g=h3 at *
 generalize D.ro (zs.map .int)=ro at *
 generalize (row 30 s).2=w at *
 have ix:ZaD P.GD (.ref h2.length) (.int (-1)) h3=.ok u.d h3:=by rw [Zu k3,IV.ZhT];rfl
 have e4:ev (P.tbl 250) (.call (O "_law_program") (.cons (.var 0) (.cons (.cst (.int 1)) .nil))) [some ro,none,none,none] []=.ok t.d h1:=Zb8 e1 rfl
 have e5:ev (P.tbl 250) (.call (O "row_of") (.cons (.call (O "_law_program") (.cons (.var 0) (.cons (.cst (.int 0)) .nil))) (.cons (.cst (.int 30)) .nil))) [some ro,none,none,none] h1=.ok (.tup [.ref h2.length,.str w]) h3:=Zb8 e3 (ZI (Zb8 e2 rfl) rfl)
 have e6:ev (P.tbl 250) (.ix (.ix (.call (O "row_of") (.cons (.call (O "_law_program") (.cons (.var 0) (.cons (.cst (.int 0)) .nil))) (.cons (.cst (.int 30)) .nil))) (.cst (.int 0))) (.neg (.cst (.int 1)))) [some ro,none,none,none] h1=.ok u.d h3:=(ZgG ((ZgG e5 rfl).trans rfl) rfl).trans ix
 have ei:evi (P.tbl 250) lwI [some ro,none,none,none] []=.ok ⟨some (h3.length,[t.d,u.d]),[t.d,u.d]⟩ (h3++[.lst [t.d,u.d]]):=by
   have el:ev (P.tbl 250) (.lstl (.cons (.call (O "_law_program") (.cons (.var 0) (.cons (.cst (.int 1)) .nil))) (.cons (.ix (.ix (.call (O "row_of") (.cons (.call (O "_law_program") (.cons (.var 0) (.cons (.cst (.int 0)) .nil))) (.cons (.cst (.int 30)) .nil))) (.cst (.int 0))) (.neg (.cst (.int 1)))) .nil))) [some ro,none,none,none] []=.ok (.ref h3.length) (h3++[.lst [t.d,u.d]]):=by
     rw [ZjH,ZI e4 (ZI e6 rfl),Ze,if_pos (by rw [sizeLine_eq];simp)]
     rfl
   rw [lwI,Zmd,el,Ze]
   simp [ZY]
 have k4:(h3++[DO.lst [t.d,u.d]])[h3.length]? = some (.lst [t.d,u.d]):=Zc1
 generalize h3++[DO.lst [t.d,u.d]]=h4 at *
 have l4:=ZT k4
 obtain ⟨h5,o2,o3,x1,old5⟩:=Zos H t (by omega) h4 (some ro) none none
 have k5:=(old5 _ l4).trans k4
 obtain ⟨h6,o2',o3',x2,old6⟩:=Zos H u (by omega) h5 (some ro) o2 o3
 have k6:=(old6 _ (ZT k5)).trans k5
 have y:xs1 (P.tbl 250) ZeS [some ro,none,none,none] []=.ok (.nx,[some ro,some u.d,o2',o3']) h6:=by
   rw [ZrD,ZiE ei,ZcB k4 rfl x1,ZcB k5 rfl x2,ZdR k6]
 refine ⟨h6,?_⟩
 rw [Zd H.law (by rfl)]
 show Zn (xs2 (P.tbl 250) (.cons ZeS (.cons ZjL .nil)) [some ro,none,none,none] [])=_
 rw [Za y]
 rfl
end K41L
end
section
namespace K41
open PySem L2 IV PyProof.Rows
noncomputable def Zqm:Sxs:=(.cons .any .nil)
noncomputable def Zmb:Fd:=⟨[(O "k")],[(O "k")],Zqm⟩
noncomputable abbrev Zae:Fd:=Tm.Zae
noncomputable abbrev Zbt:Fd:=Gn.Zbt
noncomputable abbrev Zbu:Fd:=Tm.Zbu
noncomputable abbrev Zad:Fd:=Tm.Zad
noncomputable abbrev ZcW:Fd:=Tm.ZcW
noncomputable abbrev Zb4:Fd:=Gn.Zb4
noncomputable abbrev Zbl:Fd:=Tm.Zbl
noncomputable abbrev Zav:Fd:=Tm.Zav
noncomputable abbrev ZcE:Fd:=Tm.ZcE
noncomputable abbrev Zar:Fd:=Tm.Zar
noncomputable abbrev Zb2:Fd:=Tm.Zb2
noncomputable abbrev Zau:Fd:=Tm.Zau
noncomputable abbrev ZcD:Fd:=Tm.ZcD
noncomputable abbrev Zs:Fd:=Tm.Zs
noncomputable abbrev ZaK:Fd:=Tm.ZaK
noncomputable abbrev Zbr:Fd:=Tm.Zbr
noncomputable abbrev ZcF:Fd:=Tm.ZcF
noncomputable abbrev Zb5:Fd:=Tm.Zb5
noncomputable abbrev Zbq:Fd:=Tm.Zbq
noncomputable abbrev ZcG:Fd:=Tm.ZcG
noncomputable abbrev Zbs:Fd:=Tm.Zbs
noncomputable abbrev Zb3:Fd:=Tm.Zb3
noncomputable abbrev ZcC:Fd:=Tm.ZcC
noncomputable abbrev Zac:Fd:=K41L.Zac
noncomputable abbrev ZaJ:Fd:=K41L.ZaJ
noncomputable abbrev Zaz:Fd:=Gn.Zaz
noncomputable abbrev Zas:Fd:=Gn.Zas
noncomputable abbrev Zay:Fd:=Gn.Zay
noncomputable abbrev Zax:Fd:=Gn.Zax
noncomputable abbrev ZO:Fd:=Gn.ZO
noncomputable abbrev Z2:Fd:=Gn.Z2
noncomputable abbrev ZaI:Fd:=Gn.ZaI
noncomputable abbrev ZX:Fd:=Gn.ZX
noncomputable abbrev Z1:Fd:=Gn.Z1
noncomputable abbrev Zat:Fd:=Gn.Zat
noncomputable def ZC:Fd:=⟨[(O "_law_script"),(O "_law_start")],[(O "_law_script"),(O "_law_start"),(O "_law_cells_here"),(O "_law_state"),(O "_law_names_here"),(O "_law_told"),(O "_law_k")],Gn.Zdk⟩
noncomputable abbrev Za2:Fd:=K41L.Za2
noncomputable abbrev Zf8:Fd:=K41L.Zf8
noncomputable abbrev ZL:Fd:=Tm.ZL
noncomputable abbrev ZD:Fd:=Tm.ZD
noncomputable def ZgR:Sxs:=(.cons (.drp (.call (O "_wall") (.cons (.cst (.int 0)) .nil))) .nil)
noncomputable def ZdS:Fd:=⟨[(O "self"),(O "front"),(O "parts")],[(O "self"),(O "front"),(O "parts")],ZgR⟩
noncomputable abbrev ZaL:Fd:=Tm.ZaL
noncomputable def ZiZ:Sxs:=(.cons (.set (.nm 2) (.call (O "opened") (.cons (.var 1) .nil))) (.cons (.ret (.mcl (O "Pen") (O "filled") (.var 0) (.cons (.ix (.var 2) (.cst (.int 0))) (.cons (.ix (.var 2) (.cst (.int 1))) .nil)))) .nil))
noncomputable def Zfw:Fd:=⟨[(O "self"),(O "thing")],[(O "self"),(O "thing"),(O "pair")],ZiZ⟩
noncomputable def tb:List (Str×Fd):=[((O "_wall"),Zmb),((O "bound_names"),Zae),((O "parts_of"),Zbt),((O "front_of"),Zbu),((O "count_parts"),Zad),((O "built"),ZcW),((O "places"),Zb4),((O "is_wide"),Zbl),((O "bound_to"),Zav),((O "opened"),ZcE),((O "meant_by"),Zar),((O "within"),Zb2),((O "is_value"),Zau),((O "put_in"),ZcD),((O "parts_first"),Zs),((O "first_open"),ZaK),((O "way_down"),Zbr),((O "called"),ZcF),((O "chosen"),Zb5),((O "worked"),Zbq),((O "become"),ZcG),((O "put_back"),Zbs),((O "stepped"),Zb3),((O "row_of"),ZcC),((O "graph_begun"),Zac),((O "graph_read"),ZaJ),((O "_law_mixed"),Zaz),((O "_law_next"),Zas),((O "_law_names"),Zay),((O "_law_there"),Zax),((O "_law_plain"),ZO),((O "_law_function"),Z2),((O "_law_number"),ZaI),((O "_law_any"),ZX),((O "_law_width"),Z1),((O "_law_deep"),Zat),((O "_law_program"),ZC),((O "_law_cells"),Za2),((O "law"),Zf8)]
noncomputable def ms:List (Str×Fd):=[(mnm (O "Pen") (O "__init__"),ZL),(mnm (O "Pen") (O "take_place"),ZD),(mnm (O "Pen") (O "joined"),ZdS),(mnm (O "Pen") (O "filled"),ZaL),(mnm (O "Pen") (O "told"),Zfw)]
noncomputable def cG:List (Str×D):=[((O "WIDEST"),(.int 120)),((O "VALUES"),(.tup [(.str (O "num")),(.str (O "fn")),(.str (O "rec"))])),((O "BEYOND"),(.int 1000000)),((O "FORMS"),.kd (O "FORMS"))]
noncomputable def cD:List (Str×List (Key×D)):=[((O "FORMS"),[(.inr (O "fn"),(.tup [(.int 1),(.int 1)])),(.inr (O "rec"),(.tup [(.int 2),(.int 1)])),(.inr (O "call"),(.tup [(.int 0),(.int 2)])),(.inr (O "if"),(.tup [(.int 0),(.int 3)])),(.inr (O "+"),(.tup [(.int 0),(.int 2)])),(.inr (O "-"),(.tup [(.int 0),(.int 2)])),(.inr (O "*"),(.tup [(.int 0),(.int 2)])),(.inr (O "<"),(.tup [(.int 0),(.int 2)]))])]
noncomputable def pg:Pg:=⟨tb,fun x=>cG.lookup x,fun x=>cD.lookup x,1000000,ms⟩
noncomputable def kl:Kl:=⟨[(O "Pen")],[(O "most"),(O "used")],[((O "Pen"),(O "take_place")),((O "Pen"),(O "joined")),((O "Pen"),(O "filled")),((O "Pen"),(O "told"))],[(O "Pen")]⟩
noncomputable def top(i:Nat):Stmt:=PySem.Challenge.pw_samestride_k41_graph_begun.main.body.getD i (.Pass ⟨0,0,0,0⟩)
noncomputable def fs:List Str:=tb.map (·.1)
local macro_rules|`(tactic| wtm_at "chk")=>`(tactic| exact ⟨by constructor<;>decide +kernel,fun _ _ _ _ _ _ us hl=>by
   first
   | (have e:=ZqJ (show us.length=0 from hl);subst e;rfl)
   | (obtain ⟨a0,e⟩:=ZqI (show us.length=1 from hl);subst e;rfl)
   | (obtain ⟨a0,a1,e⟩:=ZqH (show us.length=2 from hl);subst e;rfl)
   | (obtain ⟨a0,a1,a2,e⟩:=ZqG (show us.length=3 from hl);subst e;rfl)
   | (obtain ⟨a0,a1,a2,a3,e⟩:=ZqF (show us.length=4 from hl);subst e;rfl)
   | (obtain ⟨a0,a1,a2,a3,a4,e⟩:=ZqE (show us.length=5 from hl);subst e;rfl)
   | (obtain ⟨a0,a1,a2,a3,a4,a5,e⟩:=Zsm (show us.length=6 from hl);subst e;rfl)
   | (obtain ⟨a0,a1,a2,a3,a4,a5,a6,e⟩:=us_7 (show us.length=7 from hl);subst e;rfl),by decide +kernel⟩)
abbrev Ck(n:String)(f:Fd)(s:Stmt):Prop:=Chk kl fs (O n) (O n) f s
noncomputable abbrev ZkT:=top 0
theorem Zp3:Ck "_wall" Zmb ZkT:=by wtm_at "chk"
noncomputable abbrev Zc9:=top 7
theorem ZfQ:Ck "bound_names" Zae Zc9:=by wtm_at "chk"
noncomputable abbrev Ze4:=top 8
theorem Zis:Ck "parts_of" Zbt Ze4:=by wtm_at "chk"
noncomputable abbrev Ze9:=top 9
theorem Zix:Ck "front_of" Zbu Ze9:=by wtm_at "chk"
noncomputable abbrev Zc8:=top 10
theorem ZfP:Ck "count_parts" Zad Zc8:=by wtm_at "chk"
noncomputable abbrev Zje:=top 11
theorem ZnX:Ck "built" ZcW Zje:=by wtm_at "chk"
noncomputable abbrev Zg4:=top 12
theorem ZlT:Ck "places" Zb4 Zg4:=by wtm_at "chk"
noncomputable abbrev Zf0:=top 13
theorem Zko:Ck "is_wide" Zbl Zf0:=by wtm_at "chk"
noncomputable abbrev Zfa:=top 15
theorem Ziy:Ck "bound_to" Zav Zfa:=by wtm_at "chk"
noncomputable abbrev Zg5:=top 16
theorem ZlU:Ck "opened" ZcE Zg5:=by wtm_at "chk"
noncomputable abbrev Ze5:=top 17
theorem Zit:Ck "meant_by" Zar Ze5:=by wtm_at "chk"
noncomputable abbrev Zg1:=top 18
theorem ZlQ:Ck "within" Zb2 Zg1:=by wtm_at "chk"
noncomputable abbrev Ze8:=top 23
theorem Ziw:Ck "is_value" Zau Ze8:=by wtm_at "chk"
noncomputable abbrev Zg3:=top 24
theorem ZlS:Ck "put_in" ZcD Zg3:=by wtm_at "chk"
noncomputable abbrev Zc5:=top 25
theorem ZfM:Ck "parts_first" Zs Zc5:=by wtm_at "chk"
noncomputable abbrev ZdB:=top 26
theorem Zgv:Ck "first_open" ZaK ZdB:=by wtm_at "chk"
noncomputable abbrev Ze2:=top 27
theorem Ziq:Ck "way_down" Zbr Ze2:=by wtm_at "chk"
noncomputable abbrev Zg7:=top 28
theorem ZlW:Ck "called" ZcF Zg7:=by wtm_at "chk"
noncomputable abbrev Zg6:=top 29
theorem ZlV:Ck "chosen" Zb5 Zg6:=by wtm_at "chk"
noncomputable abbrev Zg0:=top 30
theorem ZlP:Ck "worked" Zbq Zg0:=by wtm_at "chk"
noncomputable abbrev Zg8:=top 31
theorem ZlX:Ck "become" ZcG Zg8:=by wtm_at "chk"
noncomputable abbrev Ze3:=top 32
theorem Zir:Ck "put_back" Zbs Ze3:=by wtm_at "chk"
noncomputable abbrev ZfY:=top 33
theorem Zkm:Ck "stepped" Zb3 ZfY:=by wtm_at "chk"
noncomputable abbrev Zg2:=top 34
theorem ZlR:Ck "row_of" ZcC Zg2:=by wtm_at "chk"
noncomputable abbrev Zc7:=top 36
theorem ZfO:Ck "graph_begun" Zac Zc7:=by wtm_at "chk"
noncomputable abbrev ZdA:=top 37
theorem Zgu:Ck "graph_read" ZaJ ZdA:=by wtm_at "chk"
noncomputable abbrev Zen:=top 39
theorem Zht:Ck "_law_mixed" Zaz Zen:=by wtm_at "chk"
noncomputable abbrev Ze6:=top 40
theorem Ziu:Ck "_law_next" Zas Ze6:=by wtm_at "chk"
noncomputable abbrev Zem:=top 41
theorem Zhs:Ck "_law_names" Zay Zem:=by wtm_at "chk"
noncomputable abbrev Zek:=top 42
theorem Zhq:Ck "_law_there" Zax Zek:=by wtm_at "chk"
noncomputable abbrev Zel:=top 43
theorem Zhr:Ck "_law_plain" ZO Zel:=by wtm_at "chk"
noncomputable abbrev Zcu:=top 44
theorem Zfn:Ck "_law_function" Z2 Zcu:=by wtm_at "chk"
noncomputable abbrev Zdz:=top 45
theorem Zgt:Ck "_law_number" ZaI Zdz:=by wtm_at "chk"
noncomputable abbrev ZfZ:=top 46
theorem Zkn:Ck "_law_any" ZX ZfZ:=by wtm_at "chk"
noncomputable abbrev Zej:=top 47
theorem Zhp:Ck "_law_width" Z1 Zej:=by wtm_at "chk"
noncomputable abbrev Ze7:=top 48
theorem Ziv:Ck "_law_deep" Zat Ze7:=by wtm_at "chk"
noncomputable abbrev Zc6:=top 49
theorem ZfN:Ck "_law_program" ZC Zc6:=by wtm_at "chk"
noncomputable abbrev Zeo:=top 50
theorem Zhu:Ck "_law_cells" Za2 Zeo:=by wtm_at "chk"
noncomputable abbrev ZoA:=top 51
theorem ZrJ:Ck "law" Zf8 ZoA:=by wtm_at "chk"
noncomputable abbrev Zcv:Stmt:=inClass (top 19) 0
theorem Zfo:Chk kl fs (O "__init__") (O "Pen.__init__") ZL Zcv:=by wtm_at "chk"
noncomputable abbrev ZbY:Stmt:=inClass (top 19) 1
theorem Zd9:Chk kl fs (O "take_place") (O "Pen.take_place") ZD ZbY:=by wtm_at "chk"
noncomputable abbrev ZdC:Stmt:=inClass (top 19) 2
theorem Zgw:Chk kl fs (O "joined") (O "Pen.joined") ZdS ZdC:=by wtm_at "chk"
noncomputable abbrev ZdD:Stmt:=inClass (top 19) 3
theorem Zgx:Chk kl fs (O "filled") (O "Pen.filled") ZaL ZdD:=by wtm_at "chk"
noncomputable abbrev Zfb:Stmt:=inClass (top 19) 4
theorem Ziz:Chk kl fs (O "told") (O "Pen.told") Zfw Zfb:=by wtm_at "chk"
end K41
end
section
namespace K41
open PySem L2 IV
theorem ZpX:pg.tb.lookup (O "law")=some Zf8:=by kernel_rfl
theorem ZgT:Gn.Alk pg (O "_law_any") Gn.ZX:=⟨ZX.ps,ZX.N,rfl,rfl,by kernel_rfl⟩
theorem mkr:Gn.Mkr pg:=⟨by kernel_rfl,by kernel_rfl,by kernel_rfl,by kernel_rfl,by kernel_rfl,.same (by kernel_rfl),.same (by kernel_rfl),ZgT,by kernel_rfl,by kernel_rfl,⟨ZC.ps,ZC.N,rfl,rfl,by kernel_rfl⟩⟩
theorem tre:Gn.Tre pg:=by
 constructor
 all_goals (first|kernel_rfl|decide)
theorem trm:Tm.Trm pg:=by
 constructor
 exact tre
 all_goals (first|kernel_rfl|decide)
theorem trw:Tm.Trw pg:=by
 constructor
 exact trm
 all_goals (first|kernel_rfl|decide)
theorem lw:K41L.Lw pg:=by
 constructor
 exact trw
 exact mkr
 all_goals kernel_rfl
theorem runs:∀ ns:List Int,ns.length<=63->∃ h',run pg (250+1) (O "law") [.ro (ns.map .int)] []=.ok (.bl true) h':=fun ns hl=>K41L.Zq6 lw ns hl
end K41
end
section
set_option maxHeartbeats 4000000
namespace K41
open PySem L2 IV PyProof.Rows
theorem md{Pr:Program}{w:World}{K:PySem.W.Frag}{h:Heap}{mg:Str->Option Value}{ca1:Addr}{t1:Tok}{q3:Addr}{r4:Option Addr}{n5:Nat}{v6:Array (Option Value)}{t8:Tok}{t9:Tok}{t10:Tok}{t12:Tok}{q14:Addr}{e15:Nat}{j19:Int}{t20:Tok}{q21:Addr}{r22:Option Addr}{n23:Nat}{v24:Array (Option Value)}{t26:Tok}{t27:Tok}{j28:Int}{t29:Tok}{q30:Addr}{r31:Option Addr}{n32:Nat}{v33:Array (Option Value)}{t35:Tok}{t36:Tok}{j37:Int}{t38:Tok}{q39:Addr}{r40:Option Addr}{n41:Nat}{v42:Array (Option Value)}{t44:Tok}{t45:Tok}{j46:Int}{t47:Tok}{q48:Addr}{r49:Option Addr}{n50:Nat}{v51:Array (Option Value)}{t53:Tok}{t54:Tok}{j55:Int}{t56:Tok}{q57:Addr}{r58:Option Addr}{n59:Nat}{v60:Array (Option Value)}{t62:Tok}{t63:Tok}{j64:Int}{t65:Tok}{q66:Addr}{r67:Option Addr}{n68:Nat}{v69:Array (Option Value)}{t71:Tok}{t72:Tok}{j73:Int}{t74:Tok}{q75:Addr}{r76:Option Addr}{n77:Nat}{v78:Array (Option Value)}{t80:Tok}{t81:Tok}{j82:Int}{t83:Tok}{q84:Addr}{r85:Option Addr}{n86:Nat}{v87:Array (Option Value)}{t89:Tok}{t90:Tok}(X:K.In h)(G:h.Ns mainGlobals mg)
   (tb0:ZeT K=true)
   (d1:ZN K (O "_wall") ZkT)
   (d2:ZN K (O "bound_names") Zc9)
   (d3:ZN K (O "parts_of") Ze4)
   (d4:ZN K (O "front_of") Ze9)
   (d5:ZN K (O "count_parts") Zc8)
   (d6:ZN K (O "built") Zje)
   (d7:ZN K (O "places") Zg4)
   (d8:ZN K (O "is_wide") Zf0)
   (d9:ZN K (O "bound_to") Zfa)
   (d10:ZN K (O "opened") Zg5)
   (d11:ZN K (O "meant_by") Ze5)
   (d12:ZN K (O "within") Zg1)
   (d13:ZN K (O "is_value") Ze8)
   (d14:ZN K (O "put_in") Zg3)
   (d15:ZN K (O "parts_first") Zc5)
   (d16:ZN K (O "first_open") ZdB)
   (d17:ZN K (O "way_down") Ze2)
   (d18:ZN K (O "called") Zg7)
   (d19:ZN K (O "chosen") Zg6)
   (d20:ZN K (O "worked") Zg0)
   (d21:ZN K (O "become") Zg8)
   (d22:ZN K (O "put_back") Ze3)
   (d23:ZN K (O "stepped") ZfY)
   (d24:ZN K (O "row_of") Zg2)
   (d25:ZN K (O "graph_begun") Zc7)
   (d26:ZN K (O "graph_read") ZdA)
   (d27:ZN K (O "_law_mixed") Zen)
   (d28:ZN K (O "_law_next") Ze6)
   (d29:ZN K (O "_law_names") Zem)
   (d30:ZN K (O "_law_there") Zek)
   (d31:ZN K (O "_law_plain") Zel)
   (d32:ZN K (O "_law_function") Zcu)
   (d33:ZN K (O "_law_number") Zdz)
   (d34:ZN K (O "_law_any") ZfZ)
   (d35:ZN K (O "_law_width") Zej)
   (d36:ZN K (O "_law_deep") Ze7)
   (d37:ZN K (O "_law_program") Zc6)
   (d38:ZN K (O "_law_cells") Zeo)
   (d39:ZN K (O "law") ZoA)
   (y1a:PySem.W.nsIn K mainGlobals (O "Pen")=some (some (.ref ca1))) (y1b:PySem.W.plainGet K ca1 Str.empty=true) (y1c:PySem.W.hasDictIn K ca1=true) (y1d:PySem.W.plainOver K ca1=true) (y1e:PySem.W.findIn K (.ref ca1) "__setattr__" = some (some (.builtin "object.__setattr__")))
   (y1n1:PySem.W.findIn K (.ref ca1) (O "most")=some none)
   (y1n2:PySem.W.findIn K (.ref ca1) (O "used")=some none)
   (y1m:PySem.W.makesIn K ca1=true) (y1k:PySem.W.keepIn K (.ref ca1)=true)
   (u1:Zi1 K ca1 (O "__init__") (O "Pen.__init__") Zcv)
   (u2:Zi1 K ca1 (O "take_place") (O "Pen.take_place") ZbY)
   (u3:Zi1 K ca1 (O "joined") (O "Pen.joined") ZdC)
   (u4:Zi1 K ca1 (O "filled") (O "Pen.filled") ZdD)
   (u5:Zi1 K ca1 (O "told") (O "Pen.told") Zfb)
   (z1:PySem.W.nsIn K mainGlobals (O "len")=some none)
   (z2:PySem.W.nsIn K mainGlobals (O "isinstance")=some none)
   (z3:PySem.W.nsIn K mainGlobals (O "int")=some none)
   (z4:PySem.W.nsIn K mainGlobals (O "tuple")=some none)
   (z5:PySem.W.nsIn K mainGlobals (O "list")=some none)
   (z6:PySem.W.nsIn K mainGlobals (O "sum")=some none)
   (z7:PySem.W.nsIn K mainGlobals (O "all")=some none)
   (z8:PySem.W.nsIn K mainGlobals (O "sorted")=some none)
   (z9:PySem.W.nsIn K mainGlobals (O "range")=some none)
   (z10:PySem.W.nsIn K mainGlobals (O "enumerate")=some none)
   (z11:PySem.W.nsIn K mainGlobals (O "reversed")=some none)
   (z12:PySem.W.nsIn K mainGlobals (O "str")=some none)
   (z13:PySem.W.nsIn K mainGlobals (O "bool")=some none)
   (z14:PySem.W.nsIn K mainGlobals (O "max")=some none)
   (g2:PySem.W.nsIn K mainGlobals (O "WIDEST")=some (some (.int 120 t1)))
   (h7:K.lookup q3=some ⟨.type "tuple",r4,.seq #[.str (O "num") t8,.str (O "fn") t9,.str (O "rec") t10] n5,v6⟩)
   (g11:PySem.W.nsIn K mainGlobals (O "VALUES")=some (some (.ref q3)))
   (g13:PySem.W.nsIn K mainGlobals (O "BEYOND")=some (some (.int 1000000 t12)))
   (h25:K.lookup q21=some ⟨.type "tuple",r22,.seq #[.int 1 t26,.int 1 t27] n23,v24⟩)
   (h34:K.lookup q30=some ⟨.type "tuple",r31,.seq #[.int 2 t35,.int 1 t36] n32,v33⟩)
   (h43:K.lookup q39=some ⟨.type "tuple",r40,.seq #[.int 0 t44,.int 2 t45] n41,v42⟩)
   (h52:K.lookup q48=some ⟨.type "tuple",r49,.seq #[.int 0 t53,.int 3 t54] n50,v51⟩)
   (h61:K.lookup q57=some ⟨.type "tuple",r58,.seq #[.int 0 t62,.int 2 t63] n59,v60⟩)
   (h70:K.lookup q66=some ⟨.type "tuple",r67,.seq #[.int 0 t71,.int 2 t72] n68,v69⟩)
   (h79:K.lookup q75=some ⟨.type "tuple",r76,.seq #[.int 0 t80,.int 2 t81] n77,v78⟩)
   (h88:K.lookup q84=some ⟨.type "tuple",r85,.seq #[.int 0 t89,.int 2 t90] n86,v87⟩)
   (g16:PySem.W.nsIn K mainGlobals (O "FORMS")=some (some (.ref q14)))
   (h17:K.lookup q14=some ⟨.type "dict",none,.dict #[⟨j19,.str (O "fn") t20,.ref q21⟩,⟨j28,.str (O "rec") t29,.ref q30⟩,⟨j37,.str (O "call") t38,.ref q39⟩,⟨j46,.str (O "if") t47,.ref q48⟩,⟨j55,.str (O "+") t56,.ref q57⟩,⟨j64,.str (O "-") t65,.ref q66⟩,⟨j73,.str (O "*") t74,.ref q75⟩,⟨j82,.str (O "<") t83,.ref q84⟩] e15,#[]⟩)
   (x91:j19=hashStr w (O "fn"))
   (x92:j28=hashStr w (O "rec"))
   (x93:j37=hashStr w (O "call"))
   (x94:j46=hashStr w (O "if"))
   (x95:j55=hashStr w (O "+"))
   (x96:j64=hashStr w (O "-"))
   (x97:j73=hashStr w (O "*"))
   (x98:j82=hashStr w (O "<"))
   (w18:(q14==sysModules)=false):Md Pr w K mg pg kl:=by
 have D_FORMS:∃ a kvs',mg (O "FORMS")=some (.ref a)/\DkK Pr w K a kvs'/\∀ H B,RKs ⟨K,mg⟩ H B (cD.lookup (O "FORMS") |>.getD []) kvs':=by
   refine ⟨q14,[(Sum.inr (O "fn"),(.ref q21)),(Sum.inr (O "rec"),(.ref q30)),(Sum.inr (O "call"),(.ref q39)),(Sum.inr (O "if"),(.ref q48)),(Sum.inr (O "+"),(.ref q57)),(Sum.inr (O "-"),(.ref q66)),(Sum.inr (O "*"),(.ref q75)),(Sum.inr (O "<"),(.ref q84))],PySem.W.mg_of X G g16,⟨_,_,_,[(Sum.inr (O "fn"),.ref q21),(Sum.inr (O "rec"),.ref q30),(Sum.inr (O "call"),.ref q39),(Sum.inr (O "if"),.ref q48),(Sum.inr (O "+"),.ref q57),(Sum.inr (O "-"),.ref q66),(Sum.inr (O "*"),.ref q75),(Sum.inr (O "<"),.ref q84)],h17,⟨rfl,rfl,rfl⟩,rfl,?_,(.cons (Zo (O "fn") t20) rfl (.cons (Zo (O "rec") t29) rfl (.cons (Zo (O "call") t38) rfl (.cons (Zo (O "if") t47) rfl (.cons (Zo (O "+") t56) rfl (.cons (Zo (O "-") t65) rfl (.cons (Zo (O "*") t74) rfl (.cons (Zo (O "<") t83) rfl .nil)))))))),(by show ([Sum.inr (O "fn"),Sum.inr (O "rec"),Sum.inr (O "call"),Sum.inr (O "if"),Sum.inr (O "+"),Sum.inr (O "-"),Sum.inr (O "*"),Sum.inr (O "<")]:List Key).Nodup;decide +kernel),(.cons ⟨rfl,ZaF⟩ (.cons ⟨rfl,ZaF⟩ (.cons ⟨rfl,ZaF⟩ (.cons ⟨rfl,ZaF⟩ (.cons ⟨rfl,ZaF⟩ (.cons ⟨rfl,ZaF⟩ (.cons ⟨rfl,ZaF⟩ (.cons ⟨rfl,ZaF⟩ .nil)))))))),(by show 8<=sizeLine;decide),w18⟩,fun _ _=>(.cons (.tup (Zdy (vs:=[(.int 1),(.int 1)]) h25 (by show 2<=sizeLine;decide) (.cons Zr (.cons Zr .nil))) (.cons (.int _) (.cons (.int _) .nil))) (.cons (.tup (Zdy (vs:=[(.int 2),(.int 1)]) h34 (by show 2<=sizeLine;decide) (.cons Zr (.cons Zr .nil))) (.cons (.int _) (.cons (.int _) .nil))) (.cons (.tup (Zdy (vs:=[(.int 0),(.int 2)]) h43 (by show 2<=sizeLine;decide) (.cons Zr (.cons Zr .nil))) (.cons (.int _) (.cons (.int _) .nil))) (.cons (.tup (Zdy (vs:=[(.int 0),(.int 3)]) h52 (by show 2<=sizeLine;decide) (.cons Zr (.cons Zr .nil))) (.cons (.int _) (.cons (.int _) .nil))) (.cons (.tup (Zdy (vs:=[(.int 0),(.int 2)]) h61 (by show 2<=sizeLine;decide) (.cons Zr (.cons Zr .nil))) (.cons (.int _) (.cons (.int _) .nil))) (.cons (.tup (Zdy (vs:=[(.int 0),(.int 2)]) h70 (by show 2<=sizeLine;decide) (.cons Zr (.cons Zr .nil))) (.cons (.int _) (.cons (.int _) .nil))) (.cons (.tup (Zdy (vs:=[(.int 0),(.int 2)]) h79 (by show 2<=sizeLine;decide) (.cons Zr (.cons Zr .nil))) (.cons (.int _) (.cons (.int _) .nil))) (.cons (.tup (Zdy (vs:=[(.int 0),(.int 2)]) h88 (by show 2<=sizeLine;decide) (.cons Zr (.cons Zr .nil))) (.cons (.int _) (.cons (.int _) .nil))) .nil))))))))⟩
   exact (by
       intro e he
       simp only [List.mem_toArray,O2,List.not_mem_nil,or_false] at he
       rcases he with rfl|rfl|rfl|rfl|rfl|rfl|rfl|rfl
       . exact ⟨Sum.inr (O "fn"),Zo (O "fn") t20,x91⟩
       . exact ⟨Sum.inr (O "rec"),Zo (O "rec") t29,x92⟩
       . exact ⟨Sum.inr (O "call"),Zo (O "call") t38,x93⟩
       . exact ⟨Sum.inr (O "if"),Zo (O "if") t47,x94⟩
       . exact ⟨Sum.inr (O "+"),Zo (O "+") t56,x95⟩
       . exact ⟨Sum.inr (O "-"),Zo (O "-") t65,x96⟩
       . exact ⟨Sum.inr (O "*"),Zo (O "*") t74,x97⟩
       . exact ⟨Sum.inr (O "<"),Zo (O "<") t83,x98⟩
     )
 refine ⟨tb0,fun x kvs hx=>?_,fun x d hx=>?_,?_,fun x fd hx=>?_,?_,?_,?_⟩
 . have hm:(x,kvs)∈cD:=lookup_mem hx
   have e:(x,kvs)=((O "FORMS"),(cD.lookup (O "FORMS") |>.getD [])):=by
     simp only [cD,O2,List.not_mem_nil,or_false] at hm
     exact hm
   cases e
   exact D_FORMS
 . have hm:(x,d)∈cG:=lookup_mem hx
   have all:All (fun p:Str×D=>∃ v u,mg p.1=some u/\RelV v u/\∀ H B,RD ⟨K,mg⟩ H B p.2 v) cG:=⟨⟨(.int 120),_,PySem.W.mg_of X G g2,Zr,fun _ _=>(.int _)⟩,⟨(.ref q3),_,PySem.W.mg_of X G g11,ZaF,fun _ _=>(.tup (Zdy (vs:=[(.str (O "num")),(.str (O "fn")),(.str (O "rec"))]) h7 (by show 3<=sizeLine;decide) (.cons Zfc (.cons Zfc (.cons Zfc .nil)))) (.cons (.str _ (by decide +kernel)) (.cons (.str _ (by decide +kernel)) (.cons (.str _ (by decide +kernel)) .nil))))⟩,⟨(.int 1000000),_,PySem.W.mg_of X G g13,Zr,fun _ _=>(.int _)⟩,⟨.ref q14,_,PySem.W.mg_of X G g16,rfl,fun _ _=>.kd (PySem.W.mg_of X G g16)⟩,trivial⟩
   exact all.mem _ hm
 . have all:All (fun x:Str=>mg x=none) ["len", "isinstance", "int", "tuple", "list", "sum", "all", "sorted", "range", "enumerate", "reversed", "str", "bool", "max"]:=⟨PySem.W.mg_none_of X G z1,PySem.W.mg_none_of X G z2,PySem.W.mg_none_of X G z3,PySem.W.mg_none_of X G z4,PySem.W.mg_none_of X G z5,PySem.W.mg_none_of X G z6,PySem.W.mg_none_of X G z7,PySem.W.mg_none_of X G z8,PySem.W.mg_none_of X G z9,PySem.W.mg_none_of X G z10,PySem.W.mg_none_of X G z11,PySem.W.mg_none_of X G z12,PySem.W.mg_none_of X G z13,PySem.W.mg_none_of X G z14,trivial⟩
   exact all.mem
 . have hm:(x,fd)∈tb:=lookup_mem hx
   have all:All (fun p:Str×Fd=>∃ st f fdd,DefOk K mg kl fs p.1 p.2 st f fdd) tb:=⟨Zg X G d1 Zp3,Zg X G d2 ZfQ,Zg X G d3 Zis,Zg X G d4 Zix,Zg X G d5 ZfP,Zg X G d6 ZnX,Zg X G d7 ZlT,Zg X G d8 Zko,Zg X G d9 Ziy,Zg X G d10 ZlU,Zg X G d11 Zit,Zg X G d12 ZlQ,Zg X G d13 Ziw,Zg X G d14 ZlS,Zg X G d15 ZfM,Zg X G d16 Zgv,Zg X G d17 Ziq,Zg X G d18 ZlW,Zg X G d19 ZlV,Zg X G d20 ZlP,Zg X G d21 ZlX,Zg X G d22 Zir,Zg X G d23 Zkm,Zg X G d24 ZlR,Zg X G d25 ZfO,Zg X G d26 Zgu,Zg X G d27 Zht,Zg X G d28 Ziu,Zg X G d29 Zhs,Zg X G d30 Zhq,Zg X G d31 Zhr,Zg X G d32 Zfn,Zg X G d33 Zgt,Zg X G d34 Zkn,Zg X G d35 Zhp,Zg X G d36 Ziv,Zg X G d37 ZfN,Zg X G d38 Zhu,Zg X G d39 ZrJ,trivial⟩
   exact all.mem _ hm
 . have all:All (fun C=>∃ a,mg C=some (.ref a)/\Cls K a/\∀ f∈kl.ats,ZaS K a f) kl.cs:=⟨⟨ca1,PySem.W.mg_of X G y1a,⟨y1b,y1c,y1d,y1e⟩,(show All (fun f=>ZaS K ca1 f) kl.ats from ⟨y1n1,y1n2,trivial⟩).mem⟩,trivial⟩
   exact all.mem
 . have all:All (fun p:Str×Str=>∃ a f fdd fd st q,mg p.1=some (.ref a)/\Cls K a/\Meth K a p.2 f/\pg.look (mnm p.1 p.2)=some fd/\BodyOk K kl (pg.tb.map (·.1)) p.2 q fd st f fdd) kl.ms:=⟨ZeN X G y1a ⟨y1b,y1c,y1d,y1e⟩ u2 Zd9 (by kernel_rfl),ZeN X G y1a ⟨y1b,y1c,y1d,y1e⟩ u3 Zgw (by kernel_rfl),ZeN X G y1a ⟨y1b,y1c,y1d,y1e⟩ u4 Zgx (by kernel_rfl),ZeN X G y1a ⟨y1b,y1c,y1d,y1e⟩ u5 Ziz (by kernel_rfl),trivial⟩
   exact all.mem
 . have all:All (fun C:Str=>∃ a f fdd fd st q,mg C=some (.ref a)/\Mk K a f/\pg.look (mnm C (O "__init__"))=some fd/\BodyOk K kl (pg.tb.map (·.1)) (O "__init__") q fd st f fdd) kl.is:=⟨ZpS X G y1a y1m y1k u1 Zfo (by kernel_rfl),trivial⟩
   exact all.mem
end K41
end
section
set_option maxHeartbeats 4000000
open PySem PySem.W PyProof.Rows
local macro_rules|`(tactic| wtm_at "dg")=>`(tactic| (refine' ⟨_,_,?na,L2.Zl5 ?l ?c ?k⟩;(case na=>k_is);(case l=>k_is);(case c=>k_is);(case k=>k_is)))
local macro_rules|`(tactic| wtm_at "mg")=>`(tactic| (refine' ⟨_,_,?na,?f,?k,L2.Zl5 ?l ?c ?kk⟩;(case na=>k_is);(case f=>k_is);(case l=>k_is);(case c=>k_is);(case k=>k_is);(case kk=>k_is)))
set_option maxRecDepth 100000 in
set_option maxHeartbeats 0 in
theorem PySem.Challenge.cw_samestride_k41_graph_begun_holds : PySem.Challenge.rw_samestride_k41_graph_begun.Holds := by
 refine K41hd ?_
 k_fill
 refine IV.ZqD (l:=PySem.Challenge.rw_samestride_k41_graph_begun) (P:=K41.pg) 250 rfl rfl rfl ⟨rfl,by decide,by decide⟩ (kl:=K41.kl) (fun w h Y=>PySem.W.kIn_of Y) K41.ZpX rfl K41.runs ?MM0
 case MM0 =>
   intro w mg h KX G
   refine' K41.md KX G ?tb0 ?d1 ?d2 ?d3 ?d4 ?d5 ?d6 ?d7 ?d8 ?d9 ?d10 ?d11 ?d12 ?d13 ?d14 ?d15 ?d16 ?d17 ?d18 ?d19 ?d20 ?d21 ?d22 ?d23 ?d24 ?d25 ?d26 ?d27 ?d28 ?d29 ?d30 ?d31 ?d32 ?d33 ?d34 ?d35 ?d36 ?d37 ?d38 ?d39 ?y1a ?y1b ?y1c ?y1d ?y1e ?y1n1 ?y1n2 ?y1m ?y1k ?u1 ?u2 ?u3 ?u4 ?u5 ?z1 ?z2 ?z3 ?z4 ?z5 ?z6 ?z7 ?z8 ?z9 ?z10 ?z11 ?z12 ?z13 ?z14 ?g2 ?h7 ?g11 ?g13 ?h25 ?h34 ?h43 ?h52 ?h61 ?h70 ?h79 ?h88 ?g16 ?h17 ?x91 ?x92 ?x93 ?x94 ?x95 ?x96 ?x97 ?x98 ?w18
   (case tb0=>(first|k_is|kernel_rfl|decide +kernel))
   (case y1a=>k_is)
   (case y1b=>k_is)
   (case y1c=>k_is)
   (case y1d=>k_is)
   (case y1e=>k_is)
   (case y1n1=>k_is)
   (case y1n2=>k_is)
   (case y1m=>k_is)
   (case y1k=>k_is)
   (case u1=>wtm_at "mg")
   (case u2=>wtm_at "mg")
   (case u3=>wtm_at "mg")
   (case u4=>wtm_at "mg")
   (case u5=>wtm_at "mg")
   (case d1=>wtm_at "dg")
   (case d2=>wtm_at "dg")
   (case d3=>wtm_at "dg")
   (case d4=>wtm_at "dg")
   (case d5=>wtm_at "dg")
   (case d6=>wtm_at "dg")
   (case d7=>wtm_at "dg")
   (case d8=>wtm_at "dg")
   (case d9=>wtm_at "dg")
   (case d10=>wtm_at "dg")
   (case d11=>wtm_at "dg")
   (case d12=>wtm_at "dg")
   (case d13=>wtm_at "dg")
   (case d14=>wtm_at "dg")
   (case d15=>wtm_at "dg")
   (case d16=>wtm_at "dg")
   (case d17=>wtm_at "dg")
   (case d18=>wtm_at "dg")
   (case d19=>wtm_at "dg")
   (case d20=>wtm_at "dg")
   (case d21=>wtm_at "dg")
   (case d22=>wtm_at "dg")
   (case d23=>wtm_at "dg")
   (case d24=>wtm_at "dg")
   (case d25=>wtm_at "dg")
   (case d26=>wtm_at "dg")
   (case d27=>wtm_at "dg")
   (case d28=>wtm_at "dg")
   (case d29=>wtm_at "dg")
   (case d30=>wtm_at "dg")
   (case d31=>wtm_at "dg")
   (case d32=>wtm_at "dg")
   (case d33=>wtm_at "dg")
   (case d34=>wtm_at "dg")
   (case d35=>wtm_at "dg")
   (case d36=>wtm_at "dg")
   (case d37=>wtm_at "dg")
   (case d38=>wtm_at "dg")
   (case d39=>wtm_at "dg")
   (case z1=>k_is)
   (case z2=>k_is)
   (case z3=>k_is)
   (case z4=>k_is)
   (case z5=>k_is)
   (case z6=>k_is)
   (case z7=>k_is)
   (case z8=>k_is)
   (case z9=>k_is)
   (case z10=>k_is)
   (case z11=>k_is)
   (case z12=>k_is)
   (case z13=>k_is)
   (case z14=>k_is)
   (case g2=>k_is)
   (case g11=>k_is)
   (case h7=>k_is)
   (case g13=>k_is)
   (case g16=>k_is)
   (case h17=>k_is)
   (case h25=>k_is)
   (case h34=>k_is)
   (case h43=>k_is)
   (case h52=>k_is)
   (case h61=>k_is)
   (case h70=>k_is)
   (case h79=>k_is)
   (case h88=>k_is)
   (case x91=>(first|rfl|k_is|fail))
   (case x92=>(first|rfl|k_is|fail))
   (case x93=>(first|rfl|k_is|fail))
   (case x94=>(first|rfl|k_is|fail))
   (case x95=>(first|rfl|k_is|fail))
   (case x96=>(first|rfl|k_is|fail))
   (case x97=>(first|rfl|k_is|fail))
   (case x98=>(first|rfl|k_is|fail))
   (case w18=>rfl)
end
