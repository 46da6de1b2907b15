import PyProof.Rows.All
import Wide.All
import OpenK.AllK
import Wide.FinOn
import PyProof.EqAt
import PyProof.EqKinds
import PyProof.TupleCall
import Lean
import PySem.Challenge.RW_samestride_k23_rows_loud
set_option Elab.async false
set_option linter.all false
set_option maxRecDepth 100000
open PySem.Str renaming ofString->O
open Bool renaming and_eq_true->Oa
open List renaming getElem?_eq_some_iff->Ob
open List renaming getElem?_set_ne->Oc
open PySem.Heap renaming get?_push_of_some->Od
open List renaming getElem?_append_left->Oe
open List renaming size_toArray->Of
open List renaming getElem?_eq_getElem->Og
open List renaming mem_cons_of_mem->Oh
open List renaming mem_cons_self->Oi
open PySem.Heap renaming get?_push_size->Oj
open List renaming mem_of_getElem?->O1
open List renaming getElem?_set_self->Ol
open List renaming getElem?_append_right->Om
open List renaming getElem?_map->On
open Option renaming map_eq_some_iff->Oo
open List renaming map_cons->Op
open Nat renaming le_refl->Oq
open List renaming mem_cons->O2
open List renaming length_cons->Os
open Nat renaming lt_of_lt_of_le->O3
open Nat renaming ne_of_lt->Ou
open List renaming mem_append_right->Ov
open Bool renaming false_ne_true->Ow
open List renaming mem_singleton->Ox
open List renaming map_nil->Oy
open List renaming append_assoc->Oz
open List renaming length_append->OA
open List renaming nil_append->OB
open List renaming all_eq_true->OC
open List renaming mem_append->OD
open Nat renaming le_trans->OE
open List renaming lookup_cons->OF
open Bool renaming false_eq_true->OG
open Nat renaming lt_succ_self->OH
open List renaming sum_cons->OI
open List renaming getElem?_cons_zero->OJ
open List renaming getElem?_cons_succ->O0
section
open PySem PySem.W PyProof.Rows
set_option maxHeartbeats 0
namespace PySem.W.Fast
def tw5412804065677899840:=0
def tw15429836160991418464:=0
def tw2790035947129354400:=0
def tw12757307217293927680:=0
def tw13536552949410758912:=0
def tw3066806429692894592:=0
def tw10369555010059260320:=0
def tw7566448555390959072:=0
def tw12109380610892787200:=0
def tw322302788196050656:=0
def tw2696155876313222944:=0
def tw2365043520534621056:=0
def tw12606416434323597216:=0
def tw304129806293315552:=0
def tw17652723666602033120:=0
def tw1222620794499966977:=0
def tw182268960698843169:=0
def tw9641543974631356481:=0
def tw10111717805384891553:=0
def tw1433054783806159201:=0
def tw11726061498612486593:=0
def tw2678842620544897473:=0
def tw16204241248041860609:=0
def tw2617724190836954721:=0
def tw10573390999478390369:=0
def tw16062786602283659905:=0
def tw14022555731972743905:=0
def tw10457111957932252097:=0
def tw12352060810531606530:=0
def tw5745548393913357538:=0
def tw11690706727195973922:=0
def tw3121705583629592962:=0
def tw14381977509742843458:=0
def tw8834103463063435010:=0
def tw8004104758527907778:=0
def tw6932518743681491971:=0
def tw15225436219208788099:=0
def tw14325513765461428547:=0
def tw17885933251217257891:=0
def tw4829771278619425315:=0
def tw9503347562069001795:=0
def tw6059309315114940163:=0
def tw1003111989422029731:=0
def tw6025250382770029604:=0
def tw15494065475479777444:=0
def tw9243260786164733124:=0
def tw6753775529644162340:=0
def tw16724397177717748036:=0
def tw13692830736098345476:=0
def tw18372243942597579332:=0
def tw18011754147753370212:=0
def tw382509076237230916:=0
def tw3867550540070646596:=0
def tw11819199490646308676:=0
def tw4704695381427337060:=0
def tw885010576946334596:=0
def tw9097470591031616388:=0
def tw10932018246811655076:=0
def tw5266362753976760228:=0
def tw2738707024438042725:=0
def tw15745371299825596517:=0
def tw5209363631015397989:=0
def tw8234778001946286693:=0
def tw15495590696861348613:=0
def tw9232476612708115301:=0
def tw5277819848639118277:=0
def tw53962582994639845:=0
def tw7831894349434173446:=0
def tw15385261074068784262:=0
def tw9353810395319550086:=0
def tw8722294901594897638:=0
def tw4522929153176069510:=0
def tw3321801675805500806:=0
def tw14342606182113714566:=0
def tw18437903893344425446:=0
def tw16266125905734320614:=0
def tw13639626658517210630:=0
def tw5276284900298347398:=0
def tw291765786649322438:=0
def tw16318610773336656870:=0
def tw2539385021324383271:=0
def tw108674778668955815:=0
def tw5844900372783316487:=0
def tw15443134768614261479:=0
def tw13002039320228305671:=0
def tw14493870080129436455:=0
def tw3267981346682499911:=0
def tw9863071723733983175:=0
def tw7561795841113209928:=0
def tw1790285267155615848:=0
def tw15135281712116517000:=0
def tw6689932173674085576:=0
def tw98176864324499784:=0
def tw5477160738975903048:=0
def tw13201149574569371112:=0
def tw9159097620029901352:=0
def tw2911804197213512424:=0
def tw6167605329080949576:=0
def tw17313339654377334696:=0
def tw11688506609227753416:=0
def tw9663513911361045480:=0
def tw16362005040278557705:=0
def tw186746995627863113:=0
def tw12222189700215373929:=0
def tw14023344934930919625:=0
def tw1664141599640163561:=0
def tw14961015567853229289:=0
def tw7060200679825025257:=0
def tw5291932288057027881:=0
def tw4110839606403878185:=0
def tw17241174277153841449:=0
def tw14104366800387792201:=0
def tw14091646349978988873:=0
def tw18312762220017621353:=0
def tw14929674663718997353:=0
def tw14548582136252909961:=0
def tw14645758745951200649:=0
def tw7243360867488307689:=0
def tw10363682453325110889:=0
def tw13873568335075892969:=0
def tw3831251871625115401:=0
def tw7542103333632669513:=0
def tw17151451914444666761:=0
def tw14178320940604980234:=0
def tw10335009570784031754:=0
def tw11401224124433669162:=0
def tw782300326857604266:=0
def tw10443715948206978250:=0
def tw17122018250980482314:=0
def tw18354003603901357418:=0
def tw94991429208157642:=0
def tw18149631923587095018:=0
def tw13030481402255233610:=0
def tw4890613314301570730:=0
def tw9139640726781576938:=0
def tw15179221402378029834:=0
def tw1414954557328082730:=0
def tw4493647094746487658:=0
def tw10503401776006652778:=0
def tw16416075748187212682:=0
def tw16641705450035338218:=0
def tw11489006818693647403:=0
def tw10910528956633619531:=0
def tw842100676179855467:=0
def tw3246100112998360235:=0
def tw3945107206852982955:=0
def tw15587582196761670859:=0
def tw12863660355064702155:=0
def tw16901943142673341675:=0
def tw5249416531641790699:=0
def tw107908593511094667:=0
def tw13960882951660074475:=0
def tw9993095711502793323:=0
def tw11499385956435246827:=0
def tw11635664973226729259:=0
def tw2261056006651760459:=0
def tw13744845533100201931:=0
def tw9361651262444910924:=0
def tw14620033739109427596:=0
def tw14322196588436231660:=0
def tw772866359737844364:=0
def tw18353672260681909900:=0
def tw11531251638085923500:=0
def tw2093394802467776236:=0
def tw1575503990966230764:=0
def tw4304115276034690828:=0
def tw2033838406347683660:=0
def tw8584263962012587916:=0
def tw10832335205304698796:=0
def tw3784041308949706893:=0
def tw10566463352443307181:=0
def tw4873143411537689869:=0
def tw15689133524571443533:=0
def tw16679772939129771469:=0
def tw10534950317723621997:=0
def tw14340746948051831533:=0
def tw7300655984350425869:=0
def tw16698975630905477198:=0
def tw8409034903362524270:=0
def tw3563877065074990478:=0
def tw9998344975633824206:=0
def tw15730546191822378574:=0
def tw14069884592458393262:=0
def tw17481063420385686254:=0
def tw2049884310562833166:=0
def tw10487265910733220718:=0
def tw4697073133149903726:=0
def tw18387029404216702894:=0
def tw10237752275332566958:=0
def tw7328226965661885455:=0
def tw17946770579551343631:=0
def tw5647092219577101391:=0
def tw8184074214221881487:=0
def tw12509965435814565007:=0
def tw11642349540865295567:=0
def tw15656433483084513519:=0
def tw9083339528696176975:=0
def tw17647416120109510031:=0
def tw3331835209292616079:=0
def tw4189034428416889295:=0
def tw693602627896481359:=0
def tw16765129313234318959:=0
def tw12177221525957042831:=0
def tw13605756971916508879:=0
def tw15205761133238586191:=0
def tw10004142876162371439:=0
def tw10085067478759520239:=0
def tw12454640120222396464:=0
def tw9976335739742091312:=0
def tw11556923426404438096:=0
def tw3384760555443979344:=0
def tw13523325654256023792:=0
def tw12827525947905666320:=0
def tw7319451015421945168:=0
def tw2942474321321249200:=0
def tw4313140740371601872:=0
def tw4418816631468053008:=0
def tw857891686127100624:=0
def tw11718611344867775216:=0
def tw1397292694547964752:=0
def tw11472081275922891664:=0
def tw1211897290272993425:=0
def tw1022733276157873585:=0
def tw12728769665821935217:=0
def tw14998745747274088113:=0
def tw5499183395684864689:=0
def tw11589338009070192401:=0
def tw933197223704916849:=0
def tw4707967603809030097:=0
def tw15942109287878762449:=0
def tw16480666777069242353:=0
def tw9652727399919388722:=0
def tw16072522847484262482:=0
def tw7096981501515012306:=0
def tw17473423554763218514:=0
def tw3785186033671800466:=0
def tw12679729182026632946:=0
def tw286444492917238514:=0
def tw8685160061185886994:=0
def tw5224963487575268210:=0
def tw13620745519729162162:=0
def tw13413655254901818707:=0
def tw4082976286750199155:=0
def tw8865570780806408563:=0
def tw7499490965008597395:=0
def tw4370731571043259155:=0
def tw18170216211071337299:=0
def tw6993247633324668755:=0
def tw15733004772859835315:=0
def tw7168728661165800403:=0
def tw17974807213966328884:=0
def tw5056211813460387924:=0
def tw6392008485862738068:=0
def tw2938822816846564628:=0
def tw12151523894271548756:=0
def tw11983995361672105332:=0
def tw5046886727227763124:=0
def tw10361980350596636084:=0
def tw988751117459549652:=0
def tw15252145523152834036:=0
def tw7593026501593502292:=0
def tw14896273903032189556:=0
def tw3182384391165425460:=0
def tw8146279852824541012:=0
def tw17632984387082147732:=0
def tw8503152258726781908:=0
def tw181261006467598357:=0
def tw16440691894287002741:=0
def tw2692664693970040981:=0
def tw15597541071339251893:=0
def tw5484589161358062773:=0
def tw6621191767344058581:=0
def tw15247377856652681429:=0
def tw18352683694180125909:=0
def tw12936987509425310965:=0
def tw10180952885835051349:=0
def tw13508112745567302005:=0
def tw6383932532368979541:=0
def tw13212614747116907189:=0
def tw10384151744601998165:=0
def tw2308506951530575701:=0
def tw1335470053068565526:=0
def tw13023148101327952982:=0
def tw4866883573181024630:=0
def tw9599497708298528278:=0
def tw11284281062327667254:=0
def tw677442614775568982:=0
def tw14089206517230261846:=0
def tw15382291039860097686:=0
def tw399615785758512790:=0
def tw10743386107017516854:=0
def tw6803453487114506134:=0
def tw5316893489036437527:=0
def tw41804232771413047:=0
def tw7324617649985914967:=0
def tw11253845882936745303:=0
def tw15602425221964155255:=0
def tw8760599781258166711:=0
def tw16720453928066335223:=0
def tw11401137575143216695:=0
def tw2690557731414050359:=0
def tw4533411458284627543:=0
def tw6551270431513171831:=0
def tw5440987810388779895:=0
def tw18089927466585788343:=0
def tw4485319433764341719:=0
def tw13073776209171402968:=0
def tw5866830555088822520:=0
def tw8584762842086869272:=0
def tw3935345346035204376:=0
def tw4033392772528573848:=0
def tw2237909703994544536:=0
def tw16080963618410245624:=0
def tw17903125472426934808:=0
def tw11362259312724272792:=0
def tw2659120123196049176:=0
def tw16159990148118164280:=0
def tw11579468350491690904:=0
def tw14230533635451890616:=0
def tw11121261804786096088:=0
def tw5863300739290246233:=0
def tw1390546684777932889:=0
def tw11772646202408616121:=0
def tw10866687967642371353:=0
def tw11732974862246963545:=0
def tw12539402081570552153:=0
def tw11037450429361161593:=0
def tw7327189235925215673:=0
def tw16126968348650833433:=0
def tw4455521794354480697:=0
def tw5744493207381953113:=0
def tw12793788802411023993:=0
def tw1856409840242052985:=0
def tw10117515743447850873:=0
def tw560869573373017370:=0
def tw5488820128222073274:=0
def tw15321501818989184570:=0
def tw4732611872308012634:=0
def tw17485321463126016602:=0
def tw16873358248227421818:=0
def tw15784241273468975962:=0
def tw8865415948358007738:=0
def tw12755822229548887067:=0
def tw2996771030314028571:=0
def tw7631958935761350203:=0
def tw8297132062685035067:=0
def tw12506638528024378939:=0
def tw9017600420046385819:=0
def tw1602979145170826907:=0
def tw13386922501036063451:=0
def tw7731288346761672635:=0
def tw805039751860320316:=0
def tw6814153679974265916:=0
def tw17141774381227716764:=0
def tw10937120440494433468:=0
def tw13871290950205782300:=0
def tw4429375316974799580:=0
def tw16294621684391044892:=0
def tw16951088169904949020:=0
def tw361045298749890364:=0
def tw10551541764704924508:=0
def tw6068703764158304124:=0
def tw1324876713945875356:=0
def tw2149286148601434301:=0
def tw6165898035288215165:=0
def tw734548318219431581:=0
def tw13752833344510909117:=0
def tw4195325914511458109:=0
def tw11324446115719633885:=0
def tw14310575171909875709:=0
def tw12755312312446446622:=0
def tw18239911551846820926:=0
def tw4884708668245955870:=0
def tw5662171250770204990:=0
def tw3045283960205087326:=0
def tw9766033051087849567:=0
def tw17363162037191225471:=0
def tw2847726231769332959:=0
def tw11660820580119028991:=0
def tw16701362330254880031:=0
def tw10266775658923304383:=0
def tw17028418780355127839:=0
def tw11975144696736731775:=0
def tw3748866145340950207:=0
def tw16752855659830122303:=0
def tw2113008411901809631:=0
def tw1944450432172961702:=0
def tw14350362164750672391:=0
end PySem.W.Fast
open_top K23hd for PySem.Challenge.rw_samestride_k23_rows_loud
end
section
namespace L2
open PySem PySem.Spec PyProof.Rows
noncomputable abbrev Key:=Sum Int Str
noncomputable def ZfS:Key->Value->Bool
 | .inl k,v=>Value.isInt k v
 | .inr x,v=>Value.isStrOf x v
noncomputable def Zvz(w:World):Key->Int
 | .inl k=>hashInt k
 | .inr x=>hashStr w x
theorem ZF:∀ {k:Key}{v:Value},ZfS k v=true->(∃ i t,k=Sum.inl i/\v=Value.int i t)\/(∃ x t,k=Sum.inr x/\v=Value.str x t)
 | .inl i,v,h=>by
   obtain ⟨t,e⟩:=Value.isInt_shape (k:=i) (v:=v) h;exact .inl ⟨i,t,rfl,e⟩
 | .inr x,v,h=>by
   obtain ⟨t,e⟩:=Value.isStrOf_shape (x:=x) (v:=v) h;exact .inr ⟨x,t,rfl,e⟩
theorem ZlT(i:Int)(t:Tok):ZfS (.inl i) (.int i t)=true:=by simp [ZfS,Value.isInt]
theorem Zq(x:Str)(t:Tok):ZfS (.inr x) (.str x t)=true:=by simp [ZfS,Value.isStrOf]
theorem Zsl(a b:Int):decide ((Sum.inl a:Key)=Sum.inl b)=(a==b):=by
 by_cases e:a=b
 . subst e;simp
 . have h:¬ (Sum.inl a:Key)=Sum.inl b:=fun q=>e (Sum.inl.inj q);rw [decide_eq_false h];exact (beq_eq_false_iff_ne.mpr e).symm
theorem Zsi(a b:Str):decide ((Sum.inr a:Key)=Sum.inr b)=decide (a=b):=by
 by_cases e:a=b
 . subst e;simp
 . have h:¬ (Sum.inr a:Key)=Sum.inr b:=fun q=>e (Sum.inr.inj q);rw [decide_eq_false h,decide_eq_false e]
theorem Zsk(a:Int)(b:Str):decide ((Sum.inl a:Key)=Sum.inr b)=false:=decide_eq_false (fun q=>nomatch q)
theorem Zsj(a:Str)(b:Int):decide ((Sum.inr a:Key)=Sum.inl b)=false:=decide_eq_false (fun q=>nomatch q)
noncomputable def ZE(prog:Program)(w:World):PySem.KeyKind prog w Key where
 is:=ZfS
 hash:=Zvz w
 inj:=fun v a b ha hb=>by
   rcases ZF ha with ⟨i,t,rfl,rfl⟩|⟨x,t,rfl,rfl⟩
   . rcases ZF hb with ⟨j,u,rfl,e⟩|⟨y,u,rfl,e⟩
     . injection e with e1 _;rw [e1]
     . exact nomatch e
   . rcases ZF hb with ⟨j,u,rfl,e⟩|⟨y,u,rfl,e⟩
     . exact nomatch e
     . injection e with e1 _;rw [e1]
 byValue:=fun k v h=>by
   rcases ZF h with ⟨i,t,rfl,rfl⟩|⟨x,t,rfl,rfl⟩<;>rfl
 pyHash:=fun hv h=>by
   rcases ZF hv with ⟨i,t,rfl,rfl⟩|⟨x,t,rfl,rfl⟩
   . exact wpAny_pyHash_int h
   . exact wpAny_pyHash_str h
 eqBool:=fun hu hv h=>by
   rcases ZF hu with ⟨i,t,rfl,rfl⟩|⟨x,t,rfl,rfl⟩
   . rcases ZF hv with ⟨j,u,rfl,rfl⟩|⟨y,u,rfl,rfl⟩
     . rw [Zsl] at h;exact wpAny_eqBool_int h
     . rw [Zsk] at h;exact SeqAt.EqAt.int_str i t y u _ _ _ _ h
   . rcases ZF hv with ⟨j,u,rfl,rfl⟩|⟨y,u,rfl,rfl⟩
     . rw [Zsj] at h;exact SeqAt.EqAt.str_int x t j u _ _ _ _ h
     . rw [Zsi] at h;exact wpAny_eqBool_str h
 «strs»:=fun k x t v h=>by
   rcases ZF h with ⟨i,u,rfl,e⟩|⟨y,u,rfl,e⟩
   . exact nomatch e
   . injection e with e1 _;subst e1;cases v<;>rfl
theorem Zip(prog:Program)(w:World)(i:Int)(t:Tok):(ZE prog w).is (.inl i) (.int i t)=true:=ZlT i t
theorem Zio(prog:Program)(w:World)(x:Str)(t:Tok):(ZE prog w).is (.inr x) (.str x t)=true:=Zq x t
end L2
namespace L2
open PySem PySem.Spec PyProof.Rows
inductive V where
 | non|bl (b:Bool)|int (i:Int)|str (x:Str)|byt (b:Array UInt8)|flt (b:UInt64)|ref (a:Addr)|ty (n:String)
 deriving DecidableEq
noncomputable def RelV:V->Value->Prop
 | .non,u=>u=Value.none
 | .bl b,u=>u=Value.bool b
 | .int i,u=>∃ t,u=Value.int i t
 | .str x,u=>∃ t,u=Value.str x t
 | .byt b,u=>∃ t,u=Value.bytes b t
 | .flt b,u=>∃ t,u=Value.float b t
 | .ref a,u=>u=Value.ref a
 | .ty n,u=>u=Value.type n
noncomputable abbrev Zm:List V->List Value->Prop:=Paired RelV
theorem Zm.length{xs:List V}{us:List Value}(r:Zm xs us):xs.length=us.length:=Paired.length r
theorem Zm.get:∀ {xs:List V}{us:List Value}{i:Nat}{x:V},Zm xs us->xs[i]? = some x->∃ u,us[i]? = some u/\RelV x u
 | _,_,_,_,.nil,e=>by simp at e
 | _,_,0,_,.cons r _,e=>by simp at e;subst e;exact ⟨_,rfl,r⟩
 | _,_,i+1,x,.cons _ t,e=>by
   obtain ⟨u,h1,h2⟩:=Zm.get (i:=i) (x:=x) t (by simpa using e);exact ⟨u,by simpa using h1,h2⟩
theorem Zm.set{x:V}{u:Value}(r:RelV x u):∀ {xs:List V}{us:List Value} (i:Nat),Zm xs us->Zm (xs.set i x) (us.set i u)
 | _,_,_,.nil=>.nil
 | _,_,0,.cons _ t=>.cons r t
 | _,_,i+1,.cons q t=>.cons q (Zm.set r i t)
theorem Zm.append:∀ {xs ys:List V}{us ws:List Value},Zm xs us->Zm ys ws->Zm (xs++ys) (us++ws)
 | _,_,_,_,.nil,s=>s
 | _,_,_,_,.cons r t,s=>.cons r (Zm.append t s)
theorem Zm.take:∀ {xs:List V}{us:List Value} (n:Nat),Zm xs us->Zm (xs.take n) (us.take n)
 | _,_,0,_=>.nil
 | _,_,_+1,.nil=>.nil
 | _,_,n+1,.cons r t=>.cons r (Zm.take n t)
theorem Zm.drop:∀ {xs:List V}{us:List Value} (n:Nat),Zm xs us->Zm (xs.drop n) (us.drop n)
 | _,_,0,r=>r
 | _,_,_+1,.nil=>.nil
 | _,_,n+1,.cons _ t=>Zm.drop n t
noncomputable def Zen:Option V->Option Value->Prop
 | some v,some u=>RelV v u
 | none,none=>True
 | _,_=>False
noncomputable def KV{κ:Type}:List (κ×V)->List (κ×Value)->Prop:=Paired fun (p:κ×V) (q:κ×Value)=>p.1=q.1/\RelV p.2 q.2
noncomputable def kV:Key->V
 | .inl i=>.int i
 | .inr x=>.str x
inductive HO where
 | lst (xs:List V)
 | tup (xs:List V)
 | dK (kvs:List (Key×V))|dT (kvs:List (List Key×V))
 | set (S_:Int->Bool) (n:Nat)
 | ins (C dx:Addr) (fs:List (Str×V))
 | own (x:Addr)
 | xd (fs:List (Str×V))
 | met (f x:Addr)
 | rng (lo hi:Int)
 | frz (o:Obj) (u:HO)
 | tbl (ps:Array Value)
 | ext (φ:Heap->Prop)
noncomputable abbrev Hp:=Addr->Option HO
noncomputable def upd(H:Hp)(a:Addr)(o:HO):Hp:=fun b=>if b=a then some o else H b
theorem Zi{H:Hp}{a:Addr}{o:HO}:upd H a o a=some o:=by unfold upd;rw [if_pos rfl]
theorem Zg{H:Hp}{a b:Addr}{o:HO}(h:b≠a):upd H a o b=H b:=by unfold upd;rw [if_neg h]
theorem ZM{H:Hp}{a b:Addr}{o:HO}(h:H a=some o)(h':H b=none):a≠b:=by
 intro e;subst e;rw [h] at h';cases h'
section
variable (P:Program) (w:World)
noncomputable def Zbn (h:Heap) (a:Addr) (items:Array Value):Prop:=∃ o,h.get? a=some o/\o.cls=.type "tuple" /\ o.dict=none/\∃ n,o.data=.seq items n
theorem Zbn.tup{h:Heap}{a:Addr}{items:Array Value}(x:Zbn h a items):IsTup h a items:=let ⟨o,ho,hc,_,r⟩:=x;⟨o,ho,hc,r⟩
theorem Zbn.fresh (h:Heap) (items:Array Value):Zbn (h.push {cls:=.type "tuple",data:=.seq items}) h.objs.size items:=⟨_,Oj _ rfl,rfl,rfl,_,rfl⟩
noncomputable def Zak(H:Hp)(h:Heap)(a:Addr):HO->Prop
 | .lst xs=>xs.length<=sizeLine/\∃ (its:List Value) (n:Nat),Zm xs its/\h.get? a=some {cls:=.type "list",data:=.seq its.toArray n}
 | .tup xs=>xs.length<=sizeLine/\∃ its:List Value,Zm xs its/\Zbn h a its.toArray
 | .dK kvs=>kvs.length<=sizeLine/\(a==sysModules)=false/\∃ vs,KV kvs vs/\h.DictOf (ZE P w) a vs
 | .dT kvs=>kvs.length<=sizeLine/\(a==sysModules)=false/\∃ xs:List (List Key×Addr×Value),
     Paired (fun (p:List Key×V) (q:List Key×Addr×Value)=>p.1=q.1/\H q.2.1=some (.tup (p.1.map kV))/\RelV p.2 q.2.2) kvs xs /\
     ∃ o es ep,h.get? a=some o/\o.ExactDict/\o.data=.dict es ep/\es.toList=xs.map (entryOfKey (tupleKind (ZE P w)))/\(xs.map (·.1)).Nodup
 | .set S_ n=>h.SetOf (intKind P w) a S_ n
 | .ins C dx fs=>H dx=some (.own a)/\fs.length<=1000/\dx≠a/\h.get? a=some (PySem.W.instObj C dx) /\
     ∃ mA,h.Ns1 dx mA/\(∀ f,Zen (fs.lookup f) (mA f))/\PySem.Within mA (fs.map (·.1))
 | .own _=>∃ o,h.get? a=some o
 | .xd fs=>∃ mA,h.Ns1 a mA/\∀ f,Zen (fs.lookup f) (mA f)
 | .rng lo hi=>∃ t u v,h.get? a=some {cls:=.type "range",data:=.fields #[.int lo t,.int hi u,.int 1 v]}
 | .frz o u=>h.get? a=some o/\Zak H h a u
 | .tbl ps=>h.get? a=some {cls:=.none,data:=.fields ps}
 | .met f x=>h.get? a=some (PySem.W.methodObj (.ref f) (.ref x))
 | .ext φ=>φ h/\(∃ o,h.get? a=some o)/\∀ h1 h2:Heap,φ h1->(∀ o,h1.get? a=some o->h2.get? a=some o)->φ h2
noncomputable def HOk(H:Hp)(h:Heap):Prop:=∀ a o,H a=some o->Zak P w H h a o
end
section
variable {P:Program}{w:World}{H H':Hp}{h h':Heap}{a:Addr}{o:HO}
theorem Zak.lt(x:Zak P w H h a o):a<h.objs.size:=by
 cases o with
 | lst xs=>obtain ⟨_,_,_,_,e⟩:=x;exact Heap.lt_size e
 | tup xs=>obtain ⟨_,_,_,p⟩:=x;exact p.tup.lt
 | dK kvs=>obtain ⟨_,_,_,_,o,_,_,e,_⟩:=x;exact Heap.lt_size e
 | dT kvs=>obtain ⟨_,_,_,_,o,_,_,e,_⟩:=x;exact Heap.lt_size e
 | set S_ n=>obtain ⟨o,_,_,_,e,_⟩:=x;exact Heap.lt_size e
 | ins C dx fs=>obtain ⟨_,_,_,e,_⟩:=x;exact Heap.lt_size e
 | own y=>obtain ⟨_,e⟩:=x;exact Heap.lt_size e
 | xd fs=>obtain ⟨_,⟨_,_,_,e,_⟩,_⟩:=x;exact Heap.lt_size e
 | rng lo hi=>obtain ⟨_,_,_,e⟩:=x;exact Heap.lt_size e
 | frz ob u=>obtain ⟨e,_⟩:=x;exact Heap.lt_size e
 | tbl ps=>exact Heap.lt_size (show h.get? a=some _ from x)
 | met f y=>exact Heap.lt_size (show h.get? a=some _ from x)
 | ext φ=>obtain ⟨_,⟨_,e⟩,_⟩:=x;exact Heap.lt_size e
theorem Paired.mapP{α β:Type}{F G:α->β->Prop}:∀ {l₁:List α}{l₂:List β},Paired F l₁ l₂->(∀ a b,F a b->G a b)->Paired G l₁ l₂
 | _,_,.nil,_=>.nil
 | _,_,.cons r t,f=>.cons (f _ _ r) (Paired.mapP t f)
theorem Zak.stay(x:Zak P w H h a o)(k:∀ b u,(b=a\/H b=some (.own a))->h.get? b=some u->h'.get? b=some u)
   (ho:∀ b,H b=some (.own a)->H' b=some (.own a)) (ht:∀ b xs,H b=some (.tup xs)->H' b=some (.tup xs)):Zak P w H' h' a o:=by
 induction o with
 | lst xs=>obtain ⟨z,its,n,r,e⟩:=x;exact ⟨z,its,n,r,k _ _ (.inl rfl) e⟩
 | tup xs=>obtain ⟨z,its,r,ob,e,c⟩:=x;exact ⟨z,its,r,ob,k _ _ (.inl rfl) e,c⟩
 | dK kvs=>obtain ⟨z,y,vs,r,ob,es,ep,e,c⟩:=x;exact ⟨z,y,vs,r,ob,es,ep,k _ _ (.inl rfl) e,c⟩
 | dT kvs =>
   obtain ⟨z,y,xs,r,ob,es,ep,e,c⟩:=x;exact ⟨z,y,xs,Paired.mapP r fun p q z=>⟨z.1,ht _ _ z.2.1,z.2.2⟩,ob,es,ep,k _ _ (.inl rfl) e,c⟩
 | set S_ n=>obtain ⟨ob,es,ep,t,e,c⟩:=x;exact ⟨ob,es,ep,t,k _ _ (.inl rfl) e,c⟩
 | ins C dx fs =>
   obtain ⟨d,z,ne,e,mA,⟨od,es,ep,e2,c⟩,r⟩:=x;exact ⟨ho _ d,z,ne,k _ _ (.inl rfl) e,mA,⟨od,es,ep,k _ _ (.inr d) e2,c⟩,r⟩
 | own y=>obtain ⟨ob,e⟩:=x;exact ⟨ob,k _ _ (.inl rfl) e⟩
 | xd fs=>obtain ⟨mA,⟨od,es,ep,e,c⟩,r⟩:=x;exact ⟨mA,⟨od,es,ep,k _ _ (.inl rfl) e,c⟩,r⟩
 | rng lo hi=>obtain ⟨t,u,v,e⟩:=x;exact ⟨t,u,v,k _ _ (.inl rfl) e⟩
 | frz ob u ih=>obtain ⟨e,q⟩:=x;exact ⟨k _ _ (.inl rfl) e,ih q⟩
 | tbl ps =>
   have e:h.get? a=some {cls:=.none,data:=.fields ps}:=x;show h'.get? a=some {cls:=.none,data:=.fields ps};exact k a _ (.inl rfl) e
 | met f y =>
   have e:h.get? a=some (PySem.W.methodObj (.ref f) (.ref y)):=x;show h'.get? a=some (PySem.W.methodObj (.ref f) (.ref y));exact k a _ (.inl rfl) e
 | ext φ=>obtain ⟨p,⟨o,e⟩,st⟩:=x;exact ⟨st _ _ p fun o q=>k _ _ (.inl rfl) q,⟨o,k _ _ (.inl rfl) e⟩,st⟩
theorem HOk.lt(x:HOk P w H h)(e:H a=some o):a<h.objs.size:=(x a o e).lt
theorem HOk.fresh(x:HOk P w H h)(e:h.objs.size<=a):H a=none:=by
 cases q:H a with
 | none=>rfl
 | some u=>exact absurd (O3 (x.lt q) e) (Nat.lt_irrefl _)
theorem HOk.kept(x:HOk P w H h)(k:∀ b u,h.get? b=some u->h'.get? b=some u):HOk P w H h':=fun a o e =>
 (x a o e).stay (fun b u _ q=>k b u q) (fun _ q=>q) fun _ _ q=>q
theorem HOk.laid(x:HOk P w H h)(k:∀ b u,h.get? b=some u->h'.get? b=some u)(hp:h.objs.size<=a)(new:Zak P w (upd H a o) h' a o):HOk P w (upd H a o) h':=fun b u e=>by
 have hn:=x.fresh hp;by_cases hb:b=a
 . subst hb;rw [Zi] at e;cases e;exact new
 . rw [Zg hb] at e;exact (x b u e).stay (fun c v _ q=>k c v q) (fun c q=>by rw [Zg (ZM q hn)];exact q) fun c xs q=>by rw [Zg (ZM q hn)];exact q
end
noncomputable def Rd(H:Hp)(a:Addr)(u:HO):Prop:=H a=some u\/∃ o,H a=some (.frz o u)
theorem Rd.ok{P:Program}{w:World}{H:Hp}{h:Heap}{a:Addr}{u:HO}(r:Rd H a u)(x:HOk P w H h):Zak P w H h a u:=by
 rcases r with r|⟨o,r⟩
 . exact x a u r
 . obtain ⟨_,q⟩:=x a _ r;exact q
noncomputable def Mut:Option HO->Prop
 | some (.lst _)=>True
 | some (.dK _)=>True
 | some (.dT _)=>True
 | some (.set _ _)=>True
 | some (.ins _ _ _)=>True
 | some (.ext _)=>True
 | _=>False
section
variable {P:Program}{w:World}{H:Hp}{h h':Heap}{x e:Addr}{o':HO}
theorem HOk.write(ok:HOk P w H h)(mu:Mut (H x))(he:e=x\/H e=some (.own x))(k:∀ b u,b≠e->h.get? b=some u->h'.get? b=some u)(heo:∃ u,h'.get? e=some u)
   (new:Zak P w (upd H x o') h' x o'):HOk P w (upd H x o') h':=fun b u q=>by
 have nown:∀ c y,H c=some (.own y)->c≠x:=fun c y r z=>by subst z;rw [r] at mu;exact mu
 have ntup:∀ c xs,H c=some (.tup xs)->c≠x:=fun c xs r z=>by subst z;rw [r] at mu;exact mu
 by_cases hb:b=x
 . subst hb;rw [Zi] at q;cases q;exact new
 . rw [Zg hb] at q;by_cases hbe:b=e
   . have q':H b=some (.own x):=by
       rcases he with z|z
       . exact absurd (hbe.trans z) hb
       . rw [hbe];exact z
     rw [q] at q';cases q';obtain ⟨v,hv⟩:=heo;exact ⟨v,by rw [hbe];exact hv⟩
   . refine (ok b u q).stay (fun c v hc r=>k c v ?_ r) (fun c r=>by rw [Zg (nown c b r)];exact r) fun c xs r=>by rw [Zg (ntup c xs r)];exact r
     rcases hc with rfl|hc
     . exact hbe
     . rintro rfl;rcases he with z|z
       . exact nown c b hc z
       . rw [hc] at z;cases z;exact hb rfl
end
structure Un(fs ex:List Addr)(H H':Hp)(h h':Heap):Prop where
 keep:∀ b o,h.get? b=some o->H b=none->b ∉ fs->b ∉ ex->h'.get? b=some o
 slot:∀ b o,h.get? b=some o->H b=none->b∈fs->b ∉ ex->∃ sl,h'.get? b=some {o with slots:=sl}
 free:∀ b o,h.get? b=some o->H b=none->b ∉ ex->H' b=none
 there:∀ b o,h.get? b=some o->b ∉ ex->∃ o',h'.get? b=some o'
 tups:∀ b xs,H b=some (.tup xs)->H' b=some (.tup xs)
 frzs:∀ b o u,H b=some (.frz o u)->H' b=some (.frz o u)
 tbls:∀ b ps,H b=some (.tbl ps)->∃ more,H' b=some (.tbl (ps++more))
section
variable {fs fs' ex ex':List Addr}{H H1 H2:Hp}{h h1 h2 h':Heap}{a x e:Addr}{o:HO}
theorem Un.any(u:Un fs ex H H1 h h1){b:Addr}{ob:Obj}(q:h.get? b=some ob)(n:H b=none)(hx:b ∉ ex):∃ sl,h1.get? b=some {ob with slots:=sl}:=by
 by_cases hb:b∈fs
 . exact u.slot b ob q n hb hx
 . exact ⟨ob.slots,u.keep b ob q n hb hx⟩
theorem Un.trans(a:Un fs ex H H1 h h1)(b:Un fs ex H1 H2 h1 h2):Un fs ex H H2 h h2 where
 keep:=fun c ob q n hc hx=>b.keep c ob (a.keep c ob q n hc hx) (a.free c ob q n hx) hc hx
 slot:=fun c ob q n hc hx=>by
   obtain ⟨sl,e1⟩:=a.slot c ob q n hc hx;obtain ⟨sl',e2⟩:=b.slot c _ e1 (a.free c ob q n hx) hc hx;exact ⟨sl',e2⟩
 free:=fun c ob q n hx=>by
   obtain ⟨o',e1⟩:=a.there c ob q hx;exact b.free c o' e1 (a.free c ob q n hx) hx
 there:=fun c ob q hx=>by
   obtain ⟨o',e1⟩:=a.there c ob q hx;exact b.there c o' e1 hx
 tups:=fun c xs q=>b.tups c xs (a.tups c xs q)
 frzs:=fun c ob xs q=>b.frzs c ob xs (a.frzs c ob xs q)
 tbls:=fun c ps q=>by
   obtain ⟨m1,e1⟩:=a.tbls c ps q;obtain ⟨m2,e2⟩:=b.tbls c _ e1;exact ⟨m1++m2,by rw [e2,Array.append_assoc]⟩
theorem Un.kept(k:∀ b u,h.get? b=some u->h'.get? b=some u):Un fs ex H H h h' :=
 ⟨fun b ob q _ _ _=>k b ob q,fun b ob q _ _ _=>⟨ob.slots,k b ob q⟩,fun _ _ _ n _=>n,fun b ob q _=>⟨ob,k b ob q⟩,fun _ _ q=>q,fun _ _ _ q=>q,fun _ ps q=>⟨#[],by rw [q];simp⟩⟩
theorem Un.refl:Un fs ex H H h h:=Un.kept fun _ _ q=>q
theorem Un.laid(k:∀ b u,h.get? b=some u->h'.get? b=some u)(hp:h.objs.size<=a)(hn:H a=none):Un fs ex H (upd H a o) h h' where
 keep:=fun b u q _ _ _=>k b u q
 slot:=fun b u q _ _ _=>⟨u.slots,k b u q⟩
 free:=fun b u q n _=>by rw [Zg (Ou (O3 (Heap.lt_size q) hp))];exact n
 there:=fun b u q _=>⟨u,k b u q⟩
 tups:=fun b xs q=>by rw [Zg (ZM q hn)];exact q
 frzs:=fun b u xs q=>by rw [Zg (ZM q hn)];exact q
 tbls:=fun b ps q=>⟨#[],by rw [Zg (ZM q hn),q];simp⟩
theorem Un.write(mu:Mut (H x))(he:e=x\/H e=some (.own x))(k:∀ b u,b≠e->h.get? b=some u->h'.get? b=some u)(heo:∃ u,h'.get? e=some u):Un fs ex H (upd H x o) h h':=by
 have hx:∀ b,H b=none->b≠x:=fun b n z=>by subst z;rw [n] at mu;exact mu
 have hb:∀ b,H b=none->b≠e:=fun b n z=>by
   subst z;rcases he with r|r
   . exact hx b n r
   . rw [n] at r;cases r
 have hm:∀ b u,H b=some u->¬ Mut (some u)->b≠x:=fun b u q nm z=>by subst z;rw [q] at mu;exact nm mu
 refine ⟨fun b u q n _ _=>k b u (hb b n) q,fun b u q n _ _=>⟨u.slots,k b u (hb b n) q⟩,fun b u q n _=>by rw [Zg (hx b n)];exact n,fun b u q _=>?_,
   fun b xs q=>by rw [Zg (hm b _ q fun z=>z)];exact q,fun b u xs q=>by rw [Zg (hm b _ q fun z=>z)];exact q,fun b ps q=>⟨#[],by rw [Zg (hm b _ q fun z=>z),q];simp⟩⟩
 by_cases hbe:b=e
 . subst hbe;exact heo
 . exact ⟨u,k b u hbe q⟩
end
noncomputable def trk(h:Heap)(H:Hp):List Addr:=(List.range h.objs.size).filter fun a=>(H a).isSome
noncomputable def Zhv(h:Heap)(H:Hp):Heap:=PySem.W.hideAll h (trk h H)
theorem Zl2(h:Heap)(H:Hp):(Zhv h H).objs.size=h.objs.size:=PySem.W.hideAll_size _ _
theorem ZnL{h:Heap}{H:Hp}{b:Addr}{o:Obj}(e:h.get? b=some o)(n:H b=none):(Zhv h H).get? b=some o :=
 PySem.W.hideAll_get _ e fun hm=>by
   have q:(H b).isSome=true:=(List.mem_filter.mp hm).2;rw [n] at q;simp at q
theorem Zpz{h:Heap}{H:Hp}{b:Addr}{o:Obj}(e:(Zhv h H).get? b=some o):h.get? b=some o/\H b=none:=by
 have e':h.get? b=some o:=PySem.W.of_hideAll (trk h H) e;refine ⟨e',?_⟩;cases q:H b with
 | none=>rfl
 | some x =>
   have hm:b∈trk h H:=List.mem_filter.mpr ⟨List.mem_range.mpr (Heap.lt_size e'),by simp [q]⟩;have z:(Zhv h H).get? b=none:=PySem.W.hideAll_none (trk h H) hm;rw [z] at e;cases e
end L2
namespace L2
open PySem PySem.Spec PyProof.Rows
structure Mod(K:PySem.W.Frag)(mg:Str->Option Value)(base:Heap):Prop where
 kin:K.In base
 glob:base.Ns mainGlobals mg
 blt:∃ mb,base.Ns builtinsNs mb/\∀ x:Str,x ≠ "__name__" -> mb x=bootBuiltins x
 nolimit:base.NoLimit
structure Cx where
 prog:Program
 w:World
 K:PySem.W.Frag
 mg:Str->Option Value
 base:Heap
 A:Around
 N:List Str
 s₀:Shared
 H₀:Hp
 env:Env
 outer:List Env
 stack:List Env
 ex:List Addr
 fn:Str->Bool
 calm:Bool
 pn:List (Addr×Obj)
 xe:Value->Shared->Prop
noncomputable def frs(l:List Env):List Addr:=l.filterMap (·.frame)
noncomputable abbrev Cx.fs(X:Cx):List Addr:=frs X.outer
noncomputable def Vis(sc:Scope)(x:Str):Prop:=sc.names.lookup x=some .local\/sc.names.lookup x=some .cell\/sc.names.lookup x=some .free
noncomputable def Loc(sc:Scope)(x:Str):Prop:=sc.names.lookup x=some .local\/sc.names.lookup x=some .cell
noncomputable def Look(env:Env)(h:Heap)(m:Str->Option Value)(x:Str)(u:Value):Prop :=
 (env.kindOf x=some .local/\m x=some u)\/((env.kindOf x=some .cell\/env.kindOf x=some .free)/\∃ c,env.cells.lookup x=some c/\h.IsCell c (some u))
structure Cx.Ok(X:Cx):Prop where
 mod:Mod X.K X.mg X.base
 kind:X.env.scope.kind=.function
 glob:X.env.globals=mainGlobals
 blt:X.env.builtins=builtinsNs
 above:X.s₀.heap.objs.size<=X.env.locals
 inj:∀ x y c,X.env.cells.lookup x=some c->X.env.cells.lookup y=some c->x=y
 has:∀ x,(X.env.kindOf x=some .cell\/X.env.kindOf x=some .free)->∃ c,X.env.cells.lookup x=some c
 cab:∀ x c,X.fn x=true->X.env.cells.lookup x=some c->X.s₀.heap.objs.size<=c
 hd:X.calm=true->X.A.handled=none
 frames:X.A.frames=some X.stack
 stk:X.stack=X.outer\/(X.stack=X.env::X.outer/\X.env.frame=some X.env.locals)
 exf:∀ b∈X.ex,b≠X.env.locals/\∀ x c,X.env.cells.lookup x=some c->c≠b
 bs:∀ b o,X.base.get? b=some o->X.s₀.heap.get? b=some o/\X.H₀ b=none
 bsz:X.base.objs.size<=X.s₀.heap.objs.size
 noex:∀ b o,X.base.get? b=some o->b ∉ X.ex
 exfs:∀ b∈X.ex,b ∉ X.fs
 funs:X.s₀.heap.FunFrames X.base X.outer
 frf:∀ b∈X.fs,X.H₀ b=none
structure Inv(X:Cx)(pins:List (Addr×Obj))(Z:List (Option V))(H:Hp)(s:Shared):Prop where
 ok:X.Ok
 os:s.os=X.s₀.os
 bare:AllBare s.gens
 base:Un X.fs X.ex X.H₀ H X.s₀.heap s.heap
 loc:∃ m,s.heap.Ns X.env.locals m/\∀ (i:Nat) (x:Str) (v:V),X.N[i]? = some x->Z[i]? = some (some v)->Vis X.env.scope x->∃ u,RelV v u/\Look X.env s.heap m x u
 cell:∀ x c,X.env.cells.lookup x=some c->∃ v,s.heap.IsCell c v
 free:H X.env.locals=none
 freeC:∀ x c,X.env.cells.lookup x=some c->H c=none
 pin:∀ p∈X.pn++pins,s.heap.get? p.1=some p.2/\H p.1=none/\p.1≠X.env.locals/\p.1 ∉ X.fs/\∀ v,p.2.data≠.cell v
 hok:HOk X.prog X.w H s.heap
 len:Z.length=X.N.length
section
variable {X:Cx}{pins:List (Addr×Obj)}{Z:List (Option V)}{H H':Hp}{s:Shared}{h':Heap}
theorem Cx.Ok.nofr(ok:X.Ok){b:Addr}{o:Obj}(e:X.base.get? b=some o):b ∉ X.fs:=fun hb=>by
 have:=(ok.funs.mem hb).1;rw [e] at this;cases this
theorem Inv.bs(I:Inv X pins Z H s):∀ b o,X.base.get? b=some o->s.heap.get? b=some o/\H b=none:=fun b o e =>
 ⟨I.base.keep b o (I.ok.bs b o e).1 (I.ok.bs b o e).2 (I.ok.nofr e) (I.ok.noex b o e),I.base.free b o (I.ok.bs b o e).1 (I.ok.bs b o e).2 (I.ok.noex b o e)⟩
theorem Inv.bk(I:Inv X pins Z H s):∀ b o,X.base.get? b=some o->s.heap.get? b=some o:=fun b o e=>(I.bs b o e).1
theorem Inv.mod(I:Inv X pins Z H s):Mod X.K X.mg X.base:=I.ok.mod
theorem Inv.kIn(I:Inv X pins Z H s):X.K.In s.heap:=I.ok.mod.kin.keeps I.bk
theorem Inv.lt(I:Inv X pins Z H s):X.env.locals<s.heap.objs.size:=let ⟨_,hn,_⟩:=I.loc;hn.lt
theorem Inv.sz(I:Inv X pins Z H s):X.s₀.heap.objs.size<=s.heap.objs.size:=OE I.ok.above (Nat.le_of_lt I.lt)
theorem Inv.nofs(I:Inv X pins Z H s){a:Addr}(h:s.heap.objs.size<=a):a ∉ X.fs:=fun hb=>by
 obtain ⟨_,o,ho,_⟩:=I.ok.funs.mem hb;exact absurd (O3 (Heap.lt_size ho) (OE I.sz h)) (Nat.lt_irrefl _)
theorem Inv.cne(I:Inv X pins Z H s):∀ x c,X.env.cells.lookup x=some c->c≠X.env.locals:=fun x c e z=>by
 obtain ⟨v,o,ho,hd⟩:=I.cell x c e;obtain ⟨m,⟨o',es,ep,ho',hd',_⟩,_⟩:=I.loc;rw [z,ho'] at ho;cases ho;rw [hd'] at hd;cases hd
theorem Inv.funs(I:Inv X pins Z H s):s.heap.FunFrames X.base X.outer:=by
 have all:∀ (l:List Env),(∀ b∈frs l,b∈X.fs)->X.s₀.heap.FunFrames X.base l->s.heap.FunFrames X.base l:=by
   intro l;induction l with
   | nil=>intro _ _;trivial
   | cons env r ih =>
     intro hs hl;obtain ⟨hk,⟨L,o,hf,hn,ho,hd⟩,hr⟩:=hl;have hL:L∈X.fs:=hs L (by unfold frs;rw [List.filterMap_cons,hf];exact Oi);obtain ⟨sl,e⟩:=I.base.slot L o ho (I.ok.frf L hL) hL fun z=>I.ok.exfs L z hL;exact ⟨hk,⟨L,_,hf,hn,e,hd⟩,ih (fun b hb=>hs b (by unfold frs;rw [List.filterMap_cons,hf];exact Oh _ hb)) hr⟩
 exact all X.outer (fun _ hb=>hb) I.ok.funs
theorem Inv.stack(I:Inv X pins Z H s):s.heap.FunFrames X.base X.stack:=by
 rcases I.ok.stk with e|⟨e,hf⟩
 . rw [e];exact I.funs
 . rw [e];obtain ⟨m,hn,_⟩:=I.loc;refine .cons (by rw [I.ok.kind];decide) hf hn ?_ I.funs;exact Heap.get?_none_of_le (OE I.ok.bsz I.ok.above)
theorem Inv.stkSub(I:Inv X pins Z H s):∀ b∈frs X.stack,b∈X.env.locals::X.fs:=fun b hb=>by
 rcases I.ok.stk with e|⟨e,hf⟩
 . rw [e] at hb;exact Oh _ hb
 . rw [e] at hb;unfold frs at hb;rw [List.filterMap_cons,hf] at hb;exact hb
theorem Inv.stkFree(I:Inv X pins Z H s):∀ b∈frs X.stack,H b=none:=fun b hb=>by
 rcases O2.mp (I.stkSub b hb) with e|hb
 . rw [e];exact I.free
 . obtain ⟨_,o,ho,_⟩:=I.ok.funs.mem hb;exact I.base.free b o ho (I.ok.frf b hb) fun z=>I.ok.exfs b z hb
theorem Inv.step{g':Array GenState}{t':Nat}{d':Drawn}{ch:List Addr}(I:Inv X pins Z H s)
   (hch:∀ b∈ch,(b∈X.ex\/X.s₀.heap.objs.size<=b)/\b≠X.env.locals/\(∀ x c,X.env.cells.lookup x=some c->c≠b)/\∀ p∈X.pn++pins,p.1≠b)
   (keep:∀ b o,b≠X.env.locals->b ∉ X.fs->b ∉ ch->s.heap.get? b=some o->H b=none->h'.get? b=some o)
   (slot:∀ b o,b≠X.env.locals->b∈X.fs->b ∉ ch->s.heap.get? b=some o->H b=none->∃ sl,h'.get? b=some {o with slots:=sl}) (free:∀ b o,b ∉ ch->s.heap.get? b=some o->H b=none->H' b=none)
   (there:∀ b o,b ∉ ch->s.heap.get? b=some o->∃ o',h'.get? b=some o')
   (tups:∀ b xs,H b=some (.tup xs)->H' b=some (.tup xs)) (frzs:∀ b o u,H b=some (.frz o u)->H' b=some (.frz o u)) (tbls:∀ b ps,H b=some (.tbl ps)->∃ more,H' b=some (.tbl (ps++more)))
   (ns:∀ m,s.heap.Ns X.env.locals m->h'.Ns X.env.locals m) (hok:HOk X.prog X.w H' h') (hg:AllBare g') :
   Inv X pins Z H' {s with heap:=h',gens:=g',drawn:=d',toks:=t'}:=by
 have neL:∀ b o,X.s₀.heap.get? b=some o->b≠X.env.locals:=fun b o e=>Ou (O3 (Heap.lt_size e) I.ok.above);have neC:∀ b o,X.s₀.heap.get? b=some o->b ∉ X.ex->b ∉ ch:=fun b o e hx hb=>by
   rcases (hch b hb).1 with z|z
   . exact hx z
   . exact absurd (O3 (Heap.lt_size e) z) (Nat.lt_irrefl _)
 have cellK:∀ x c,X.env.cells.lookup x=some c->∀ v,s.heap.IsCell c v->h'.IsCell c v:=fun x c e v ⟨o,ho,hd⟩=>by
   have nch:c ∉ ch:=fun z=>(hch c z).2.2.1 x c e rfl;by_cases hc:c∈X.fs
   . obtain ⟨sl,q⟩:=slot c o (I.cne x c e) hc nch ho (I.freeC x c e);exact ⟨_,q,hd⟩
   . exact ⟨o,keep c o (I.cne x c e) hc nch ho (I.freeC x c e),hd⟩
 refine ⟨I.ok,I.os,hg,⟨fun b o e n hb hx=>?_,fun b o e n hb hx=>?_,fun b o e n hx=>?_,fun b o e hx=>?_,fun b xs e=>tups b xs (I.base.tups b xs e),fun b o xs e=>frzs b o xs (I.base.frzs b o xs e),fun b ps e=>?_⟩,?_,fun x c e=>?_,?_,fun x c e=>?_,fun p hp=>?_,hok,I.len⟩
 . exact keep b o (neL b o e) hb (neC b o e hx) (I.base.keep b o e n hb hx) (I.base.free b o e n hx)
 . obtain ⟨sl,e1⟩:=I.base.slot b o e n hb hx;obtain ⟨sl',e2⟩:=slot b _ (neL b o e) hb (neC b o e hx) e1 (I.base.free b o e n hx);exact ⟨sl',e2⟩
 . obtain ⟨o',e1⟩:=I.base.there b o e hx;exact free b o' (neC b o e hx) e1 (I.base.free b o e n hx)
 . obtain ⟨o',e1⟩:=I.base.there b o e hx;exact there b o' (neC b o e hx) e1
 . obtain ⟨m1,e1⟩:=I.base.tbls b ps e;obtain ⟨m2,e2⟩:=tbls b _ e1;exact ⟨m1++m2,by rw [e2,Array.append_assoc]⟩
 . obtain ⟨m,hn,hl⟩:=I.loc;refine ⟨m,ns m hn,fun i x v e1 e2 e3=>?_⟩;obtain ⟨u,r,l⟩:=hl i x v e1 e2 e3;refine ⟨u,r,?_⟩;rcases l with l|⟨k,c,e,z⟩
   . exact .inl l
   . exact .inr ⟨k,c,e,cellK x c e _ z⟩
 . obtain ⟨v,z⟩:=I.cell x c e;exact ⟨v,cellK x c e v z⟩
 . obtain ⟨m,⟨o,_,_,ho,_⟩,_⟩:=I.loc;exact free _ o (fun z=>(hch _ z).2.1 rfl) ho I.free
 . obtain ⟨v,o,ho,hd⟩:=I.cell x c e;exact free c o (fun z=>(hch c z).2.2.1 x c e rfl) ho (I.freeC x c e)
 . obtain ⟨e,n,ne,nf,d⟩:=I.pin p hp;have nch:p.1 ∉ ch:=fun z=>(hch p.1 z).2.2.2 p hp rfl;exact ⟨keep p.1 p.2 ne nf nch e n,free p.1 p.2 nch e n,ne,nf,d⟩
theorem Inv.un{t':Nat}(I:Inv X pins Z H s)(u:Un X.fs [] H H' s.heap h')(hok:HOk X.prog X.w H' h'):Inv X pins Z H' {s with heap:=h',toks:=t'}:=by
 obtain ⟨m,⟨o,es,ep,ho,r⟩,_⟩:=id I.loc;obtain ⟨sl,hL⟩:=u.any ho I.free (by simp);exact I.step (g':=s.gens) (d':=s.drawn) (ch:=[]) (fun _ z=>nomatch z) (fun b o _ hb _ e n=>u.keep b o e n hb (by simp)) (fun b o _ hb _ e n=>u.slot b o e n hb (by simp)) (fun b o _ e n=>u.free b o e n (by simp)) (fun b o _ e=>u.there b o e (by simp)) u.tups u.frzs u.tbls (fun m' hm=>by
   obtain ⟨o',es',ep',ho',r'⟩:=hm;rw [ho] at ho';cases ho';exact ⟨_,es',ep',hL,r'⟩) hok I.bare
theorem Inv.call{g':Array GenState}{t':Nat}{d':Drawn}{ch:List Addr}(I:Inv X pins Z H s)(u:Un (frs X.stack) ch H H' s.heap h')(hok:HOk X.prog X.w H' h')(hg:AllBare g')
   (hch:∀ b∈ch,(b∈X.ex\/X.s₀.heap.objs.size<=b)/\b≠X.env.locals/\(∀ x c,X.env.cells.lookup x=some c->c≠b)/\∀ p∈X.pn++pins,p.1≠b) :
   Inv X pins Z H' {s with heap:=h',gens:=g',drawn:=d',toks:=t'}:=by
 obtain ⟨m,⟨o,es,ep,ho,r⟩,_⟩:=id I.loc;obtain ⟨sl,hL⟩:=u.any ho I.free fun z=>(hch _ z).2.1 rfl;exact I.step (ch:=ch) hch (fun b o hL hb hc e n=>u.keep b o e n (fun z=>(O2.mp (I.stkSub b z)).elim hL hb) hc) (fun b o _ _ hc e n=>u.any e n hc) (fun b o hc e n=>u.free b o e n hc) (fun b o hc e=>u.there b o e hc) u.tups u.frzs u.tbls (fun m' hm=>by
   obtain ⟨o',es',ep',ho',r'⟩:=hm;rw [ho] at ho';cases ho';exact ⟨_,es',ep',hL,r'⟩) hok hg
theorem Inv.turned{t':Nat}{it:Addr}(I:Inv X pins Z H s)(k:∀ b o,b≠it->s.heap.get? b=some o->h'.get? b=some o)(hn:H it=none)(hL:it≠X.env.locals)
   (h1:it∈X.ex\/X.s₀.heap.objs.size<=it) (h2:∀ x c,X.env.cells.lookup x=some c->c≠it) (h3:∀ p∈X.pn++pins,p.1≠it):Inv X pins Z H {s with heap:=h',toks:=t'}:=by
 have nit:∀ b u,H b=some u->b≠it:=fun b u e z=>by rw [z,hn] at e;cases e
 refine I.step (g':=s.gens) (d':=s.drawn) (ch:=[it]) (fun b hb=>?_) (fun b o _ _ hc e _=>k b o (fun z=>hc (by simp [z])) e) (fun b o _ _ hc e _=>⟨o.slots,k b o (fun z=>hc (by simp [z])) e⟩) (fun _ _ _ _ n=>n)
   (fun b o hc e=>⟨o,k b o (fun z=>hc (by simp [z])) e⟩) (fun _ _ e=>e) (fun _ _ _ e=>e) (fun b ps e=>⟨#[],by rw [e];simp⟩) (fun m hm=>?_) (fun b u e=>?_) I.bare
 . have e:b=it:=by simpa using hb
   subst e;exact ⟨h1,hL,h2,h3⟩
 . obtain ⟨o,es,ep,ho,r⟩:=hm;exact ⟨o,es,ep,k _ o (Ne.symm hL) ho,r⟩
 . refine (I.hok b u e).stay (fun c v hc q=>k c v ?_ q) (fun _ q=>q) fun _ _ q=>q;rcases hc with z|z
   . rw [z];exact nit b u e
   . exact nit c _ z
theorem Inv.tok(I:Inv X pins Z H s)(t:Nat):Inv X pins Z H {s with toks:=t}:=I.un (h':=s.heap) (t':=t) Un.refl I.hok
theorem Inv.kept{t':Nat}(I:Inv X pins Z H s)(k:∀ b u,s.heap.get? b=some u->h'.get? b=some u):Inv X pins Z H {s with heap:=h',toks:=t'}:=I.un (Un.kept k) (I.hok.kept k)
theorem Inv.laid{a:Addr}{o:HO}{t':Nat}(I:Inv X pins Z H s)(k:∀ b u,s.heap.get? b=some u->h'.get? b=some u)(hp:s.heap.objs.size<=a)(new:Zak X.prog X.w (upd H a o) h' a o) :
   Inv X pins Z (upd H a o) {s with heap:=h',toks:=t'}:=I.un (Un.laid k hp (I.hok.fresh hp)) (I.hok.laid k hp new)
theorem Inv.write{x e:Addr}{o:HO}{t':Nat}(I:Inv X pins Z H s)(mu:Mut (H x))(he:e=x\/H e=some (.own x))(k:∀ b u,b≠e->s.heap.get? b=some u->h'.get? b=some u)(heo:∃ u,h'.get? e=some u)
   (new:Zak X.prog X.w (upd H x o) h' x o):Inv X pins Z (upd H x o) {s with heap:=h',toks:=t'}:=I.un (Un.write mu he k heo) (I.hok.write mu he k heo new)
theorem Inv.weak{σ':List (Option V)}(I:Inv X pins Z H s)(hl:σ'.length=Z.length)(w:∀ (i:Nat) v,σ'[i]? = some (some v)->Z[i]? = some (some v)):Inv X pins σ' H s :=
 ⟨I.ok,I.os,I.bare,I.base,let ⟨m,hn,hl'⟩:=I.loc;⟨m,hn,fun i x v e1 e2 e3=>hl' i x v e1 (w i v e2) e3⟩,I.cell,I.free,I.freeC,I.pin,I.hok,hl.trans I.len⟩
theorem Inv.pins_of{pins':List (Addr×Obj)}(I:Inv X pins Z H s)(h:∀ p∈pins',s.heap.get? p.1=some p.2/\H p.1=none/\p.1≠X.env.locals/\p.1 ∉ X.fs/\∀ v,p.2.data≠.cell v):Inv X pins' Z H s :=
 ⟨I.ok,I.os,I.bare,I.base,I.loc,I.cell,I.free,I.freeC,fun p hp=>(OD.mp hp).elim (fun z=>I.pin p (List.mem_append_left _ z)) (h p),I.hok,I.len⟩
theorem Zil{N:List Str}(hN:N.Nodup){i j:Nat}{x:Str}(a:N[i]? = some x)(b:N[j]? = some x):i=j:=by
 obtain ⟨h1,e1⟩:=Ob.mp a;obtain ⟨h2,e2⟩:=Ob.mp b;exact (List.getElem_inj hN).mp (e1.trans e2.symm)
theorem Zgw{M:Model}{A:Around}{E:Value->Shared->Prop}{i:Nat}{x:Str}{v:V}{u:Value}{Q:Unit->Shared->Prop}(I:Inv X pins Z H s)(hN:X.N.Nodup)(hi:X.N[i]? = some x)(hx:Loc X.env.scope x)(r:RelV v u)
   (h:∀ s',Inv X pins (Z.set i (some v)) H s'->(∃ a,Heap.SameBut a s.heap s'.heap/\(a=X.env.locals\/X.env.cells.lookup x=some a))->Q () s') (hf:X.fn x=true\/X.env.scope.names.lookup x=some .local:=by first|exact .inl rfl|exact .inr rfl|assumption):wpAny M A (storeName X.env x u) Q E s:=by
 obtain ⟨m,hn,hl⟩:=id I.loc;have hcls:(X.env.scope.kind==.class || (X.env.scope.kind==.module&&X.env.locals != X.env.globals))=false:=by rw [I.ok.kind];rfl
 have hiσ:i<Z.length:=by rw [I.len];exact (Ob.mp hi).1
 have cne:=I.cne;have tracked:∀ {a:Addr}{h':Heap},(∃ o,s.heap.get? a=some o/\H a=none)->Heap.SameBut a s.heap h'->HOk X.prog X.w H h':=fun {a h'} ha hs b ob e=>by
   obtain ⟨_,_,hfree⟩:=ha;refine (I.hok b ob e).stay (fun c w' hc q=>(hs.2 c ?_).trans q) (fun _ q=>q) fun _ _ q=>q;rintro rfl;rcases hc with rfl|hc
   . rw [hfree] at e;cases e
   . rw [hfree] at hc;cases hc
 rcases hx with hk|hk
 . refine wpAny_storeName_local hk hn (fun h' hn' hs=>?_) hcls;obtain ⟨oL,_,_,hoL,_⟩:=id hn;refine h _ ⟨I.ok,I.os,I.bare,⟨fun b o e n hb hx=>?_,fun b o e n hb hx=>?_,I.base.free,fun b o e hx=>?_,I.base.tups,I.base.frzs,I.base.tbls⟩,⟨_,hn',fun j y v' e1 e2 e3=>?_⟩,fun y c e=>?_,I.free,I.freeC,fun p hp=>?_,tracked ⟨oL,hoL,I.free⟩ hs,by simpa using I.len⟩ ⟨_,hs,.inl rfl⟩
   . exact (hs.2 b (Ou (O3 (Heap.lt_size e) I.ok.above))).trans (I.base.keep b o e n hb hx)
   . obtain ⟨sl,e1⟩:=I.base.slot b o e n hb hx;exact ⟨sl,(hs.2 b (Ou (O3 (Heap.lt_size e) I.ok.above))).trans e1⟩
   . obtain ⟨o',e1⟩:=I.base.there b o e hx;exact ⟨o',(hs.2 b (Ou (O3 (Heap.lt_size e) I.ok.above))).trans e1⟩
   . by_cases hj:j=i
     . subst hj;rw [hi] at e1;cases e1;rw [Ol hiσ] at e2;cases e2;exact ⟨u,r,.inl ⟨hk,by simp⟩⟩
     . rw [Oc (Ne.symm hj)] at e2;obtain ⟨u',r',q⟩:=hl j y v' e1 e2 e3;refine ⟨u',r',?_⟩;rcases q with ⟨k,e⟩|⟨k,c,e,z⟩
       . refine .inl ⟨k,?_⟩;have:y≠x:=fun e=>hj (Zil hN e1 (e ▸ hi));simp [this,e]
       . exact .inr ⟨k,c,e,z.sameBut hs (cne y c e)⟩
   . obtain ⟨w',z⟩:=I.cell y c e;exact ⟨w',z.sameBut hs (cne y c e)⟩
   . obtain ⟨e,n,ne,nf,d⟩:=I.pin p hp;exact ⟨(hs.2 p.1 ne).trans e,n,ne,nf,d⟩
 . have hfn:X.fn x=true:=by
     rcases hf with z|z
     . exact z
     . rw [z] at hk;cases hk
   obtain ⟨c,hc⟩:=I.ok.has x (.inl hk);obtain ⟨w',z⟩:=I.cell x c hc;refine wpAny_storeName_cell I.ok.kind hk hc z (fun h' hc' hs=>?_);obtain ⟨oc,hoc,hocd⟩:=id z;refine h {s with heap:=h'} ⟨I.ok,I.os,I.bare,⟨fun b o e n hb hx=>?_,fun b o e n hb hx=>?_,I.base.free,fun b o e hx=>?_,I.base.tups,I.base.frzs,I.base.tbls⟩,⟨m,hn.sameBut hs (Ne.symm (cne x c hc)),fun j y v' e1 e2 e3=>?_⟩,fun y c' e=>?_,I.free,I.freeC,fun p hp=>?_,tracked ⟨oc,hoc,I.freeC x c hc⟩ hs,by simpa using I.len⟩ ⟨c,hs,.inr hc⟩
   . exact (hs.2 b (Ou (O3 (Heap.lt_size e) (I.ok.cab x c hfn hc)))).trans (I.base.keep b o e n hb hx)
   . obtain ⟨sl,e1⟩:=I.base.slot b o e n hb hx;exact ⟨sl,(hs.2 b (Ou (O3 (Heap.lt_size e) (I.ok.cab x c hfn hc)))).trans e1⟩
   . obtain ⟨o',e1⟩:=I.base.there b o e hx;exact ⟨o',(hs.2 b (Ou (O3 (Heap.lt_size e) (I.ok.cab x c hfn hc)))).trans e1⟩
   . by_cases hj:j=i
     . subst hj;rw [hi] at e1;cases e1;rw [Ol hiσ] at e2;cases e2;exact ⟨u,r,.inr ⟨.inl hk,c,hc,hc'⟩⟩
     . rw [Oc (Ne.symm hj)] at e2;obtain ⟨u',r',q⟩:=hl j y v' e1 e2 e3;refine ⟨u',r',?_⟩;rcases q with q|⟨k,c',e,z'⟩
       . exact .inl q
       . refine .inr ⟨k,c',e,z'.sameBut hs ?_⟩;rintro rfl;exact hj (Zil hN e1 (I.ok.inj _ _ _ e hc ▸ hi))
   . by_cases hcc:c'=c
     . subst hcc;exact ⟨_,hc'⟩
     . obtain ⟨w2,z2⟩:=I.cell y c' e;exact ⟨w2,z2.sameBut hs hcc⟩
   . obtain ⟨e,n,ne,nf,d⟩:=I.pin p hp;refine ⟨(hs.2 p.1 ?_).trans e,n,ne,nf,d⟩;intro q;rw [q,hoc] at e;have q':oc=p.2:=Option.some.inj e;exact d w' (by rw [<- q'];exact hocd)
theorem ZdV{M:Model}{A:Around}{E:Value->Shared->Prop}{i:Nat}{x:Str}{v:V}{u:Value}{Q:Unit->Shared->Prop}(I:Inv X pins Z H s)(hN:X.N.Nodup)(hi:X.N[i]? = some x)(hx:Loc X.env.scope x)(r:RelV v u)
   (h:∀ s',Inv X pins (Z.set i (some v)) H s'->Q () s') (hf:X.fn x=true\/X.env.scope.names.lookup x=some .local:=by first|exact .inl rfl|exact .inr rfl|assumption):wpAny M A (storeName X.env x u) Q E s :=
 Zgw I hN hi hx r (fun s' I' _=>h s' I') hf
theorem Inv.call'{s':Shared}{ch:List Addr}(I:Inv X pins Z H s)(ho:s'.os=s.os)(u:Un (frs X.stack) ch H H' s.heap s'.heap)(hok:HOk X.prog X.w H' s'.heap)(hg:AllBare s'.gens)
   (hch:∀ b∈ch,(b∈X.ex\/X.s₀.heap.objs.size<=b)/\b≠X.env.locals/\(∀ x c,X.env.cells.lookup x=some c->c≠b)/\∀ p∈X.pn++pins,p.1≠b):Inv X pins Z H' s':=by
 obtain ⟨h',g',d',t',o'⟩:=s';have e:o'=s.os:=ho;subst e;exact I.call (g':=g') (t':=t') (d':=d') u hok hg hch
end
noncomputable abbrev XK:=Value->Option Addr->Hp->Prop
noncomputable abbrev St:=List (Option V)
noncomputable abbrev VK:=V->Hp->Prop
noncomputable abbrev TE:=St->Hp->VK->Prop
noncomputable abbrev TT:=St->Hp->(Bool->Hp->Prop)->Prop
noncomputable abbrev TA:=St->Hp->(List V->Hp->Prop)->Prop
structure Ends where
 nx:St->Hp->Prop
 rt:VK
 bk:St->Hp->Prop:=fun _ _=>False
 ct:St->Hp->Prop:=fun _ _=>False
noncomputable abbrev TS:=Ends->St->Hp->Prop
noncomputable def EP(X:Cx)(pins:List (Addr×Obj))(Z:St)(Q:VK)(u:Value)(s':Shared):Prop:=∃ v H',Inv X pins Z H' s'/\RelV v u/\Q v H'
noncomputable def TP(X:Cx)(pins:List (Addr×Obj))(Z:St)(Q:Bool->Hp->Prop)(b:Bool)(s':Shared):Prop:=∃ H',Inv X pins Z H' s'/\Q b H'
noncomputable def AP(X:Cx)(pins:List (Addr×Obj))(Z:St)(Q:List V->Hp->Prop)(us:List Value)(s':Shared):Prop:=∃ vs H',Inv X pins Z H' s'/\Zm vs us/\Q vs H'
noncomputable def SP(X:Cx)(pins:List (Addr×Obj))(D:Ends)(f:Flow)(s':Shared):Prop :=
 match f with
 | .next=>∃ σ' H',Inv X pins σ' H' s'/\D.nx σ' H'
 | .brk=>∃ σ' H',Inv X pins σ' H' s'/\D.bk σ' H'
 | .cont=>∃ σ' H',Inv X pins σ' H' s'/\D.ct σ' H'
 | .ret u=>∃ v σ' H',Inv X pins σ' H' s'/\RelV v u/\D.rt v H'
noncomputable def PE(X:Cx)(e:Expr)(t:TE):Prop :=
 ∀ (pins:List (Addr×Obj)) (s:Shared) (Z:St) (H:Hp) (Q:VK),Inv X pins Z H s->t Z H Q->wpAny (model X.prog X.w) X.A (eval e X.env) (EP X pins Z Q) X.xe s
noncomputable def PT(X:Cx)(e:Expr)(t:TT):Prop :=
 ∀ (pins:List (Addr×Obj)) (s:Shared) (Z:St) (H:Hp) (Q:Bool->Hp->Prop),Inv X pins Z H s->t Z H Q->wpAny (model X.prog X.w) X.A (isTrue e X.env (eval e X.env)) (TP X pins Z Q) X.xe s
noncomputable def PW(X:Cx)(e:Expr)(t:TT):Prop :=
 ∀ (whole:Sem Value) (pins:List (Addr×Obj)) (s:Shared) (Z:St) (H:Hp) (Q:Bool->Hp->Prop),Inv X pins Z H s->t Z H Q->wpAny (model X.prog X.w) X.A (isTrue e X.env whole) (TP X pins Z Q) X.xe s
theorem PW.pt{X:Cx}{e:Expr}{t:TT}(h:PW X e t):PT X e t:=h _
noncomputable def PA(X:Cx)(es:List Expr)(t:TA):Prop :=
 ∀ (pos:Pos) (pins:List (Addr×Obj)) (s:Shared) (Z:St) (H:Hp) (Q:List V->Hp->Prop),Inv X pins Z H s->t Z H Q->wpAny (model X.prog X.w) X.A (spliced (backTo pos (starEach es X.env))) (AP X pins Z Q) X.xe s
noncomputable def PS(X:Cx)(st:Stmt)(t:TS):Prop :=
 ∀ (pins:List (Addr×Obj)) (s:Shared) (Z:St) (H:Hp) (D:Ends),Inv X pins Z H s->t D Z H->wpAny (model X.prog X.w) X.A (exec st X.env) (SP X pins D) X.xe s
noncomputable def PSs(X:Cx)(st:List Stmt)(t:TS):Prop :=
 ∀ (pins:List (Addr×Obj)) (s:Shared) (Z:St) (H:Hp) (D:Ends),Inv X pins Z H s->t D Z H->wpAny (model X.prog X.w) X.A (execs st X.env) (SP X pins D) X.xe s
theorem thn{α:Type}{t:Sem α}{Q Q':α->Shared->Prop}{M:Model}{A:Around}{E:Value->Shared->Prop}{s:Shared}(h:wpAny M A t Q E s)(hQ:∀ a s,Q a s->Q' a s):wpAny M A t Q' E s:=wpAny_mono h hQ fun _ _ x=>x
end L2
namespace L2
open PySem PySem.Spec PyProof.Rows
section
variable {X:Cx}
noncomputable def ZuX(i:Nat):TE:=fun Z H Q=>∃ v,Z[i]? = some (some v)/\Q v H
noncomputable def tC(v:V):TE:=fun _ H Q=>Q v H
theorem ZrK {i:Nat}{x:Str}{pos:Pos} (hN:X.N[i]? = some x) (hv:Vis X.env.scope x) (hd:(x==("__debug__" : Str))=false:=by decide) (hcd:(x==("__classdict__" : Str))=false:=by decide):PE X (.Name x pos) (ZuX i):=by
 intro pins s Z H Q I h;obtain ⟨v,e,h⟩:=h;obtain ⟨m,hn,hl⟩:=I.loc;obtain ⟨u,r,l⟩:=hl i x v hN e hv;have fin:EP X pins Z Q u s:=⟨v,H,I,r,h⟩
 rcases l with ⟨hk,hm⟩|⟨hk,c,hc,hcell⟩
 . exact wpAny_Name (wpAny_loadName_local I.ok.kind hk hn hm fin) hd
 . rcases hk with hk|hk
   . exact wpAny_Name (wpAny_loadName_cell I.ok.kind hk hc hcell fin) hd
   . exact wpAny_Name (wpAny_loadName_free I.ok.kind hk hc hcell fin hcd) hd
theorem Zm6{i j pos}:PE X (.Constant (.int i) j pos) (tC (.int i)):=fun _ _ _ H _ I h=>wpAny_Constant_int ⟨.int i,H,I.tok _,⟨_,rfl⟩,h⟩
theorem ZtO{b j pos}:PE X (.Constant (.bool b) j pos) (tC (.bl b)):=fun _ _ _ H _ I h=>Constant_bool ⟨.bl b,H,I,rfl,h⟩
theorem Zm3{j pos}:PE X (.Constant .none j pos) (tC .non):=fun _ _ _ H _ I h=>Constant_none ⟨.non,H,I,rfl,h⟩
theorem ZrM{x j pos}:PE X (.Constant (.str x) j pos) (tC (.str x)):=fun _ _ _ H _ I h=>Calls.Constant_str ⟨.str x,H,I.tok _,⟨_,rfl⟩,h⟩
noncomputable def Gl(X:Cx)(x:Str):Prop:=X.env.kindOf x=some .globalImplicit
theorem Zcs{E:Value->Shared->Prop}{pins:List (Addr×Obj)}{s:Shared}{Z:St}{H:Hp}{x:Str}{u:Value}{pos:Pos}{Q:Value->Shared->Prop}(I:Inv X pins Z H s)(hg:Gl X x)(hm:X.mg x=some u)(h:Q u s)
   (hd:(x==("__debug__" : Str))=false:=by decide):wpAny (model X.prog X.w) X.A (eval (.Name x pos) X.env) Q E s :=
 Calls.Name_function_global I.ok.kind hg (Calls.loadGlobal_global (by rw [I.ok.glob];exact I.mod.glob.keeps I.bk) hm h) hd
theorem ZcU{E:Value->Shared->Prop}{pins:List (Addr×Obj)}{s:Shared}{Z:St}{H:Hp}{x:Str}{u:Value}{pos:Pos}{Q:Value->Shared->Prop}(I:Inv X pins Z H s)(hg:Gl X x)(hm:X.mg x=none)(hv:bootBuiltins x=some u)(h:Q u s)
   (hn:x ≠ "__name__" := by decide) (hd:(x==("__debug__" : Str))=false:=by decide):wpAny (model X.prog X.w) X.A (eval (.Name x pos) X.env) Q E s:=by
 obtain ⟨mb,h1,h2⟩:=I.mod.blt;exact Calls.Name_function_global I.ok.kind hg (Calls.loadGlobal_builtin (by rw [I.ok.glob];exact I.mod.glob.keeps I.bk) hm (by rw [I.ok.blt];exact h1.keeps I.bk) ((h2 x hn).trans hv) h) hd
theorem Zpe {x:Str}{v:V}{u:Value}{pos:Pos} (hg:Gl X x) (hm:X.mg x=some u) (r:RelV v u) (hd:(x==("__debug__" : Str))=false:=by decide):PE X (.Name x pos) (tC v) :=
 fun _ _ _ H _ I h=>Zcs I hg hm ⟨v,H,I,r,h⟩ hd
theorem Zpi {x:Str}{v:V}{u:Value}{pos:Pos} (hg:Gl X x) (hm:X.mg x=none) (hv:bootBuiltins x=some u) (r:RelV v u) (hn:x ≠ "__name__" := by decide) (hd:(x==("__debug__" : Str))=false:=by decide):PE X (.Name x pos) (tC v) :=
 fun _ _ _ H _ I h=>ZcU I hg hm hv ⟨v,H,I,r,h⟩ hn hd
variable {a b:Expr}{ta tb:TE}{pos:Pos}
variable {tA tB':TT}{rest:List Expr}
noncomputable def Zva(t u:TT):TT:=fun Z H Q=>t Z H fun c H1=>if c=true then u Z H1 Q else Q false H1
noncomputable def tOr(t u:TT):TT:=fun Z H Q=>t Z H fun c H1=>if c=true then Q true H1 else u Z H1 Q
noncomputable def Zu2(t:TT):TT:=fun Z H Q=>t Z H fun c H1=>Q (!c) H1
theorem ZoY(ha:PT X a tA):PW X (.BoolOp .And [a] pos) tA:=by
 intro wh pins s Z H Q I h;refine isTrue_and (thn (ha pins s Z H Q I h) fun c s1 e=>?_);cases c with
 | true=>exact isTrue_and_nil e
 | false=>exact e
theorem Zrx(ha:PT X a tA):PW X (.BoolOp .Or [a] pos) tA:=by
 intro wh pins s Z H Q I h;refine isTrue_or (thn (ha pins s Z H Q I h) fun c s1 e=>?_);cases c with
 | false=>exact isTrue_or_nil e
 | true=>exact e
theorem Zry(ha:PT X a tA)(hb:PW X (.BoolOp .And (b::rest) pos) tB'):PW X (.BoolOp .And (a::b::rest) pos) (Zva tA tB'):=by
 intro wh pins s Z H Q I h;refine isTrue_and (thn (ha pins s Z H _ I h) fun c s1 ⟨H1,I1,q1⟩=>?_);cases c with
 | true=>exact hb wh pins s1 Z H1 Q I1 q1
 | false=>exact ⟨H1,I1,q1⟩
theorem ZtE(ha:PT X a tA)(hb:PW X (.BoolOp .Or (b::rest) pos) tB'):PW X (.BoolOp .Or (a::b::rest) pos) (tOr tA tB'):=by
 intro wh pins s Z H Q I h;refine isTrue_or (thn (ha pins s Z H _ I h) fun c s1 ⟨H1,I1,q1⟩=>?_);cases c with
 | true=>exact ⟨H1,I1,q1⟩
 | false=>exact hb wh pins s1 Z H1 Q I1 q1
theorem ZrA(ha:PT X a tA):PT X (.UnaryOp .Not a pos) (Zu2 tA):=by
 intro pins s Z H Q I h;exact isTrue_not (ha pins s Z H (fun c H1=>Q (!c) H1) I h)
noncomputable def Ztm(ta tb:TE):TE:=fun Z H Q=>ta Z H fun x H1=>∃ c,x=.bl c/\if c=true then tb Z H1 Q else Q (.bl false) H1
noncomputable def Zu1(ta tb:TE):TE:=fun Z H Q=>ta Z H fun x H1=>∃ c,x=.bl c/\if c=true then Q (.bl true) H1 else tb Z H1 Q
noncomputable def Ztf(ta:TE):TE:=fun Z H Q=>ta Z H fun x H1=>∃ c,x=.bl c/\Q (.bl (!c)) H1
theorem Zm2{op}{t:TE}(h:PE X a t):PE X (.BoolOp op [a] pos) t:=fun pins s Z H Q I hw=>BoolOp_one (h pins s Z H Q I hw)
theorem ZrS(ha:PE X a ta)(hb:PE X (.BoolOp .And (b::rest) pos) tb):PE X (.BoolOp .And (a::b::rest) pos) (Ztm ta tb):=by
 intro pins s Z H Q I h;refine BoolOp_and (thn (ha pins s Z H _ I h) fun v s1 ⟨x,H1,I1,r1,q1⟩=>?_);obtain ⟨c,rfl,q1⟩:=q1;cases r1;refine wpAny_truthy_bool ?_;cases c with
 | true=>exact hb pins s1 Z H1 Q I1 q1
 | false=>exact ⟨.bl false,H1,I1,rfl,q1⟩
theorem ZtK(ha:PE X a ta)(hb:PE X (.BoolOp .Or (b::rest) pos) tb):PE X (.BoolOp .Or (a::b::rest) pos) (Zu1 ta tb):=by
 intro pins s Z H Q I h;refine BoolOp_or (thn (ha pins s Z H _ I h) fun v s1 ⟨x,H1,I1,r1,q1⟩=>?_);obtain ⟨c,rfl,q1⟩:=q1;cases r1;refine wpAny_truthy_bool ?_;cases c with
 | false=>exact hb pins s1 Z H1 Q I1 q1
 | true=>exact ⟨.bl true,H1,I1,rfl,q1⟩
theorem ZrN(ha:PE X a ta):PE X (.UnaryOp .Not a pos) (Ztf ta):=by
 intro pins s Z H Q I h;refine UnaryOp_ (thn (ha pins s Z H _ I h) fun v s1 ⟨x,H1,I1,r1,q1⟩=>?_);obtain ⟨c,rfl,q1⟩:=q1;cases r1;exact not_of (wpAny_truthy_bool ⟨.bl (!c),H1,I1,rfl,q1⟩)
noncomputable def tIf(t:TT)(ta tb:TE):TE:=fun Z H Q=>t Z H fun c H1=>if c=true then ta Z H1 Q else tb Z H1 Q
theorem Zm7{c:Expr}(hc:PT X c tA)(ha:PE X a ta)(hb:PE X b tb):PE X (.IfExp c a b pos) (tIf tA ta tb):=by
 intro pins s Z H Q I h;refine wpAny_IfExp (thn (hc pins s Z H _ I h) fun d s1 ⟨H1,I1,q1⟩=>?_);cases d with
 | true=>exact ha pins s1 Z H1 Q I1 q1
 | false=>exact hb pins s1 Z H1 Q I1 q1
end
end L2
namespace L2
open PySem PySem.Spec PyProof.Rows
noncomputable def SqL(K:PySem.W.Frag)(H:Hp)(a:Addr)(xs:List V):Prop :=
 Rd H a (.lst xs) \/
   ∃ (o:Obj) (its:Array Value) (n:Nat),K.lookup a=some o/\o.cls=.type "list" /\ o.dict=none/\o.data=.seq its n/\its.size<=sizeLine/\Zm xs its.toList
noncomputable def SqT(K:PySem.W.Frag)(H:Hp)(a:Addr)(xs:List V):Prop :=
 Rd H a (.tup xs) \/
   ∃ (o:Obj) (its:Array Value) (n:Nat),K.lookup a=some o/\o.cls=.type "tuple" /\ o.data=.seq its n/\its.size<=sizeLine/\Zm xs its.toList
noncomputable def ZvQ:Value->Option V
 | .none=>some .non
 | .bool b=>some (.bl b)
 | .int i _=>some (.int i)
 | .str x _=>some (.str x)
 | .bytes b _=>some (.byt b)
 | .float b _=>some (.flt b)
 | .ref a=>some (.ref a)
 | .type n=>some (.ty n)
 | _=>none
theorem RelV.abs{x:V}{u:Value}(r:RelV x u):ZvQ u=some x:=by
 cases x with
 | non=>cases r;rfl
 | bl _=>cases r;rfl
 | int _=>obtain ⟨t,rfl⟩:=r;rfl
 | str _=>obtain ⟨t,rfl⟩:=r;rfl
 | byt _=>obtain ⟨t,rfl⟩:=r;rfl
 | flt _=>obtain ⟨t,rfl⟩:=r;rfl
 | ref _=>cases r;rfl
 | ty _=>cases r;rfl
theorem RelV.inj{x y:V}{u:Value}(r:RelV x u)(q:RelV y u):x=y:=Option.some.inj (r.abs.symm.trans q.abs)
theorem Zm.inj:∀ {xs ys:List V}{us:List Value},Zm xs us->Zm ys us->xs=ys
 | _,_,_,.nil,.nil=>rfl
 | _,_,_,.cons r t,.cons r' t'=>by rw [r.inj r',Zm.inj t t']
section
variable {X:Cx}{pins:List (Addr×Obj)}{Z:St}{H:Hp}{s:Shared}{a:Addr}{xs ys:List V}
theorem SqL.of{K:PySem.W.Frag}(h:H a=some (.lst xs)):SqL K H a xs:=.inl (.inl h)
theorem Inv.list(I:Inv X pins Z H s)(h:SqL X.K H a xs):∃ its:List Value,Zm xs its/\PlainL s.heap a its.toArray/\xs.length<=sizeLine:=by
 rcases h with h|⟨o,its,n,hk,hc,hd,hs,hz,r⟩
 . obtain ⟨z,its,n,r,e⟩:=h.ok I.hok;exact ⟨its,r,⟨_,n,e,rfl,rfl,rfl⟩,z⟩
 . refine ⟨its.toList,r,⟨o,n,I.kIn a o hk,hc,hd,by simpa using hs⟩,?_⟩;have e:=r.length;simp only [Array.length_toList] at e;omega
theorem Inv.tuple(I:Inv X pins Z H s)(h:SqT X.K H a xs):∃ its:List Value,Zm xs its/\IsTup s.heap a its.toArray/\xs.length<=sizeLine:=by
 rcases h with h|⟨o,its,n,hk,hc,hs,hz,r⟩
 . obtain ⟨z,its,r,p⟩:=h.ok I.hok;exact ⟨its,r,p.tup,z⟩
 . refine ⟨its.toList,r,⟨o,I.kIn a o hk,hc,n,by simpa using hs⟩,?_⟩;have e:=r.length;simp only [Array.length_toList] at e;omega
theorem Inv.list_inj(I:Inv X pins Z H s)(h:SqL X.K H a xs)(h':SqL X.K H a ys):xs=ys:=by
 obtain ⟨its,r,⟨o,n,e,_,_,d⟩,_⟩:=I.list h;obtain ⟨its',r',⟨o',n',e',_,_,d'⟩,_⟩:=I.list h';rw [e] at e';cases e';rw [d] at d';injection d' with d1 _;have:its=its':=by simpa using congrArg Array.toList d1
 subst this;exact r.inj r'
theorem Inv.tuple_inj(I:Inv X pins Z H s)(h:SqT X.K H a xs)(h':SqT X.K H a ys):xs=ys:=by
 obtain ⟨its,r,⟨o,e,_,n,d⟩,_⟩:=I.tuple h;obtain ⟨its',r',⟨o',e',_,n',d'⟩,_⟩:=I.tuple h';rw [e] at e';cases e';rw [d] at d';injection d' with d1 _;have:its=its':=by simpa using congrArg Array.toList d1
 subst this;exact r.inj r'
end
noncomputable abbrev Cx.wish(X:Cx)(E:Value->Shared->Prop):Cx:={X with xe:=E}
noncomputable abbrev Cx.nox(X:Cx):Cx:=X.wish fun _ _=>False
theorem Cx.Ok.wish{X:Cx}(ok:X.Ok)(E:Value->Shared->Prop):(X.wish E).Ok :=
 ⟨ok.mod,ok.kind,ok.glob,ok.blt,ok.above,ok.inj,ok.has,ok.cab,ok.hd,ok.frames,ok.stk,ok.exf,ok.bs,ok.bsz,ok.noex,ok.exfs,ok.funs,ok.frf⟩
theorem Cx.Ok.unwish{X:Cx}{E:Value->Shared->Prop}(ok:(X.wish E).Ok):X.Ok :=
 ⟨ok.mod,ok.kind,ok.glob,ok.blt,ok.above,ok.inj,ok.has,ok.cab,ok.hd,ok.frames,ok.stk,ok.exf,ok.bs,ok.bsz,ok.noex,ok.exfs,ok.funs,ok.frf⟩
section
variable {X:Cx}{pins:List (Addr×Obj)}{Z:St}{H:Hp}{s:Shared}{E:Value->Shared->Prop}
theorem Inv.wish(I:Inv X pins Z H s)(E:Value->Shared->Prop):Inv (X.wish E) pins Z H s:=⟨I.ok.wish E,I.os,I.bare,I.base,I.loc,I.cell,I.free,I.freeC,I.pin,I.hok,I.len⟩
theorem Inv.unwish(I:Inv (X.wish E) pins Z H s):Inv X pins Z H s:=⟨I.ok.unwish,I.os,I.bare,I.base,I.loc,I.cell,I.free,I.freeC,I.pin,I.hok,I.len⟩
end
section
variable {X:Cx}{st:Stmt}{rest:List Stmt}{t u:TS}{e:Expr}{te:TE}{pos:Pos}
noncomputable def Zqt:TS:=fun D Z H=>D.nx Z H
noncomputable def ZuZ(t u:TS):TS:=fun D Z H=>t {D with nx:=u D} Z H
theorem Zo1:PSs X [] Zqt:=fun _ _ Z H _ I h=>wpAny_execs_nil ⟨Z,H,I,h⟩
theorem ZmR(h1:PS X st t)(h2:PSs X rest u):PSs X (st::rest) (ZuZ t u):=by
 intro pins s Z H D I h;refine wpAny_execs_cons (thn (h1 pins s Z H {D with nx:=u D} I h) fun f s1 q=>?_);cases f with
 | next =>
   obtain ⟨σ',H',I',q⟩:=q;exact h2 pins s1 σ' H' D I' q
 | ret v=>exact q
 | brk=>exact q
 | cont=>exact q
theorem Zo0(h1:PS X st t):PSs X [st] t:=by
 intro pins s Z H D I h;refine wpAny_execs_cons (thn (h1 pins s Z H D I h) fun f s1 q=>?_);cases f with
 | next=>exact wpAny_execs_nil q
 | ret v=>exact q
 | brk=>exact q
 | cont=>exact q
noncomputable def Zrh:TS:=fun D Z H=>D.bk Z H
noncomputable def Ztj:TS:=fun D Z H=>D.ct Z H
theorem Zo2:PS X (.Pass pos) Zqt:=fun _ _ Z H _ I h=>wpAny_Pass ⟨Z,H,I,h⟩
theorem ZmU:PS X (.Break pos) Zrh:=fun _ _ Z H _ I h=>wpAny_Break ⟨Z,H,I,h⟩
theorem Zif:PS X (.Continue pos) Ztj:=fun _ _ Z H _ I h=>wpAny_Continue ⟨Z,H,I,h⟩
theorem Inv.quiet{pins:List (Addr×Obj)}{Z:St}{H:Hp}{s:Shared}(I:Inv X pins Z H s):interactive X.env=false:=by simp [interactive,I.ok.kind]
noncomputable def Zth(te:TE):TS:=fun D Z H=>te Z H fun _ H1=>D.nx Z H1
theorem Zo3(he:PE X e te)(hs:swapsWith e none pos.line X.env=pure false:=by rfl):PS X (.Expr e pos) (Zth te):=by
 intro pins s Z H D I h;exact wpAny_Expr_any (thn (he pins s Z H _ I h) fun v s1 ⟨x,H1,I1,r1,q1⟩=>⟨Z,H1,I1,q1⟩) I.quiet hs
noncomputable def Zu0(te:TE):TS:=fun D Z H=>te Z H D.rt
theorem ZrB(he:PE X e te):PS X (.Return (some e) pos) (Zu0 te):=by
 intro pins s Z H D I h;exact wpAny_Return_some (thn (he pins s Z H _ I h) fun v s1 ⟨x,H1,I1,r1,q1⟩=>⟨x,Z,H1,I1,r1,q1⟩)
noncomputable def Zu4(c:TT)(t u:TS):TS:=fun D Z H=>c Z H fun b H1=>if b=true then t D Z H1 else u D Z H1
theorem ZtF{c:Expr}{a b:List Stmt}{tc:TT}(hc:PT X c tc)(ha:PSs X a t)(hb:PSs X b u):PS X (.If c a b pos) (Zu4 tc t u):=by
 intro pins s Z H D I h;refine wpAny_If (thn (hc pins s Z H _ I h) fun d s1 ⟨H1,I1,q1⟩=>?_);cases d with
 | true=>exact ha pins s1 Z H1 D I1 q1
 | false=>exact hb pins s1 Z H1 D I1 q1
end
noncomputable abbrev TG:=V->St->Hp->(St->Hp->Prop)->Prop
noncomputable abbrev TGs:=List V->St->Hp->(St->Hp->Prop)->Prop
noncomputable def PG(X:Cx)(target:Expr)(t:TG):Prop :=
 ∀ (pins:List (Addr×Obj)) (s:Shared) (Z:St) (H:Hp) (v:V) (u:Value) (Q:St->Hp->Prop),Inv X pins Z H s->RelV v u->t v Z H Q ->
   wpAny (model X.prog X.w) X.A (assign target X.env u) (fun _ s'=>∃ σ' H',Inv X pins σ' H' s'/\Q σ' H') X.xe s
noncomputable def PGs(X:Cx)(ts:List Expr)(t:TGs):Prop :=
 ∀ (pins:List (Addr×Obj)) (s:Shared) (Z:St) (H:Hp) (vs:List V) (us:List Value) (Q:St->Hp->Prop),Inv X pins Z H s->Zm vs us->t vs Z H Q ->
   wpAny (model X.prog X.w) X.A (assignInOrder ((assignEach ts X.env).map (·.2)) us) (fun _ s'=>∃ σ' H',Inv X pins σ' H' s'/\Q σ' H') X.xe s
noncomputable abbrev Zop:=V->V->V->Hp->(Hp->Prop)->Prop
noncomputable def Zqo(X:Cx)(t:Zop):Prop :=
 ∀ (pins:List (Addr×Obj)) (s:Shared) (Z:St) (H:Hp) (o i v:V) (ov iv u:Value) (Q:Hp->Prop),Inv X pins Z H s->RelV o ov->RelV i iv->RelV v u->t o i v H Q ->
   wpAny (model X.prog X.w) X.A (setItem ov iv u) (fun _ s'=>∃ H',Inv X pins Z H' s'/\Q H') X.xe s
noncomputable abbrev TIp:=V->V->Hp->VK->Prop
noncomputable def PIp(X:Cx)(op:Operator)(t:TIp):Prop :=
 ∀ (pins:List (Addr×Obj)) (s:Shared) (Z:St) (H:Hp) (x y:V) (v u:Value) (Q:VK),Inv X pins Z H s->RelV x v->RelV y u->t x y H Q ->
   wpAny (model X.prog X.w) X.A (inplaceOp op v u) (EP X pins Z Q) X.xe s
section
variable {X:Cx}{pos:Pos}
noncomputable def ZdB(i:Nat):TG:=fun v Z H Q=>Q (Z.set i (some v)) H
theorem Ze9{i:Nat}{x:Str}(hN:X.N.Nodup)(hi:X.N[i]? = some x)(hx:Loc X.env.scope x)(hf:X.fn x=true\/X.env.scope.names.lookup x=some .local:=by first|exact .inl rfl|exact .inr rfl|assumption):PG X (.Name x pos) (ZdB i):=by
 intro pins s Z H v u Q I r h;exact wpAny_assign_Name (ZdV I hN hi hx r (fun s' I'=>⟨_,H,I',h⟩) hf)
noncomputable def ZpT:TGs:=fun vs Z H Q=>vs=[]/\Q Z H
noncomputable def ZiH(t:TG)(u:TGs):TGs:=fun vs Z H Q=>∃ v r,vs=v::r/\t v Z H fun σ' H'=>u r σ' H' Q
theorem ZkK:PGs X [] ZpT:=by
 intro pins s Z H vs us Q I r h;obtain ⟨e,h⟩:=h;subst e;cases r;exact assignInOrder_nil ⟨Z,H,I,h⟩
theorem ZfJ{e:Expr}{es:List Expr}{t:TG}{u:TGs}(h1:PG X e t)(h2:PGs X es u)
   (hs:(assignEach (e::es) X.env).map (·.2)=assign e X.env::(assignEach es X.env).map (·.2):=by rfl):PGs X (e::es) (ZiH t u):=by
 intro pins s Z H vs us Q I r h;obtain ⟨v,vr,e1,h⟩:=h;subst e1;cases r with
 | cons r rr =>
   rw [hs];refine assignInOrder_cons (thn (h1 pins s Z H _ _ _ I r h) fun _ s1 ⟨σ1,H1,I1,q1⟩=>?_);exact h2 pins s1 σ1 H1 _ _ Q I1 rr q1
noncomputable def ZpS(K:PySem.W.Frag)(n:Nat)(t:TGs):TG:=fun v Z H Q=>∃ a xs,v=.ref a/\SqT K H a xs/\xs.length=n/\t xs Z H Q
theorem Zm0{es:List Expr}{k:Nat}{t:TGs}{n:Nat}(hc:X.calm=true)(h:PGs X es t)
   (hn:(assignEach es X.env).length=n:=by rfl) (hst:(assignEach es X.env).findIdx? (·.1)=none:=by rfl):PG X (.Tuple es k pos) (ZpS X.K n t):=by
 intro pins s Z H v u Q I r hw;obtain ⟨a,xs,e1,hq,hl,hw⟩:=hw;subst e1;cases r;obtain ⟨its,rv,ht,hz⟩:=I.tuple hq;refine assign_Tuple_tuple (I.ok.hd hc) ht (by simp [hn,<- hl,rv.length]) hst fun h' hx=>?_;have I1:Inv X pins Z H {s with heap:=h'}:=I.kept (t':=s.toks) fun b o e=>hx b o (Ou (Heap.lt_size e)) e;exact h pins _ Z H xs _ Q I1 (by simpa using rv) hw
noncomputable def ZvB(to ti:TE)(t:Zop):TG:=fun v Z H Q=>to Z H fun o H1=>ti Z H1 fun i H2=>t o i v H2 fun H3=>Q Z H3
theorem ZrJ{o i:Expr}{to ti:TE}{t:Zop}(ho:PE X o to)(hi:PE X i ti)(hs:Zqo X t)
   (ha:∀ v,assign (.Subscript o i pos) X.env v=(do
     let ov <- holding [v] (eval o X.env);let iv <- holding [v,ov] (eval i X.env)
     standAt pos
     holding [v,ov,iv] (setItem ov iv v)
     release [v,ov,iv] []):=by intro _;rfl):PG X (.Subscript o i pos) (ZvB to ti t):=by
 intro pins s Z H v u Q I r h;rw [ha];refine wpAny_bind (wpAny_holding (thn (ho pins s Z H _ I h) fun ov s1 ⟨x,H1,I1,r1,q1⟩=>?_));refine wpAny_bind (wpAny_holding (thn (hi pins s1 Z H1 _ I1 q1) fun iv s2 ⟨y,H2,I2,r2,q2⟩=>?_));refine wpAny_bind (wpAny_standAt (wpAny_bind (wpAny_holding (thn (hs pins s2 Z H2 x y v ov iv u _ I2 r1 r2 r q2) fun _ s3 ⟨H3,I3,q3⟩=>?_))));exact wpAny_release ⟨Z,H3,I3,q3⟩
noncomputable def Zmp(te:TE)(g:TG):TS:=fun D Z H=>te Z H fun x H1=>g x Z H1 D.nx
theorem Zjo{tg e:Expr}{te:TE}{g:TG}(he:PE X e te)(hg:PG X tg g)(hs:swapsWithSole [tg] e pos.line X.env=pure false:=by rfl)(hw:swappedStores [tg] e X.env=pure none:=by rfl)
   (h1:(assignEach [tg] X.env).map (·.2)=[assign tg X.env]:=by rfl):PS X (.Assign [tg] e pos) (Zmp te g):=by
 intro pins s Z H D I h;refine wpAny_Assign_stores (thn (he pins s Z H _ I h) fun v s1 ⟨x,H1,I1,r1,q1⟩=>?_) hs hw;rw [h1];exact thn (hg pins s1 Z H1 x v _ I1 r1 q1) fun _ s2 q=>q
theorem Zjn{i:Nat}{x:Str}{e:Expr}{te:TE}{pos':Pos}(hN:X.N.Nodup)(hi:X.N[i]? = some x)(hx:Loc X.env.scope x)(he:PE X e te)(hs:swapsWith e (some (.Name x pos')) pos.line X.env=pure false:=by rfl)(hf:X.fn x=true\/X.env.scope.names.lookup x=some .local:=by first|exact .inl rfl|exact .inr rfl|assumption) :
   PS X (.Assign [.Name x pos'] e pos) (Zmp te (ZdB i)):=by
 intro pins s Z H D I h;refine wpAny_Assign_Name (thn (he pins s Z H _ I h) fun v s1 ⟨y,H1,I1,r1,q1⟩=>?_) hs;exact ZdV I1 hN hi hx r1 (fun s2 I2=>⟨_,H1,I2,q1⟩) hf
noncomputable def Zu9(i:Nat)(te:TE)(ti:TIp):TS:=fun D Z H=>∃ x,Z[i]? = some (some x)/\te Z H fun y H1=>ti x y H1 fun z H2=>D.nx (Z.set i (some z)) H2
theorem ZrE{i:Nat}{x:Str}{e:Expr}{te:TE}{op:Operator}{ti:TIp}{pos':Pos}(hN:X.N.Nodup)(hi:X.N[i]? = some x)(hx:Loc X.env.scope x)(he:PE X e te)(ho:PIp X op ti)(hf:X.fn x=true\/X.env.scope.names.lookup x=some .local:=by first|exact .inl rfl|exact .inr rfl|assumption) :
   PS X (.AugAssign (.Name x pos') op e pos) (Zu9 i te ti):=by
 intro pins s Z H D I h;obtain ⟨v,e1,h⟩:=h;obtain ⟨m,hn,hl⟩:=I.loc;have vis:Vis X.env.scope x:=by rcases hx with k|k;exact .inl k;exact .inr (.inl k)
 obtain ⟨u,r,l⟩:=hl i x v hi e1 vis;refine wpAny_AugAssign_Name ?_;have go:wpAny (model X.prog X.w) X.A (eval e X.env) (fun w s₂=>wpAny (model X.prog X.w) X.A (inplaceOp op u w) (fun r s₃=>wpAny (model X.prog X.w) X.A (storeName X.env x r) (fun _=>SP X pins D .next) X.xe s₃) X.xe s₂) X.xe s:=by
   refine thn (he pins s Z H _ I h) fun w s1 ⟨y,H1,I1,r1,q1⟩=>?_;refine thn (ho pins s1 Z H1 v y u w _ I1 r r1 q1) fun z s2 ⟨zv,H2,I2,r2,q2⟩=>?_;exact ZdV I2 hN hi hx r2 (fun s3 I3=>⟨_,H2,I3,q2⟩) hf
 rcases l with ⟨hk,hm⟩|⟨hk,c,hc,hcell⟩
 . exact wpAny_loadName_local I.ok.kind hk hn hm go
 . rcases hk with hk|hk
   . exact wpAny_loadName_cell I.ok.kind hk hc hcell go
   . rcases hx with k|k
     . have:X.env.scope.names.lookup x=some .free:=hk;rw [k] at this;cases this
     . have:X.env.scope.names.lookup x=some .free:=hk;rw [k] at this;cases this
noncomputable def ipI(f:Int->Int->Int):TIp:=fun x y H Q=>∃ i j,x=.int i/\y=.int j/\Q (.int (f i j)) H
theorem Zsq:PIp X .Add (ipI fun i j=>i+j):=by
 intro pins s Z H x y v u Q I r1 r2 h;obtain ⟨i,j,e1,e2,q⟩:=h;subst e1;subst e2;obtain ⟨t,rfl⟩:=r1;obtain ⟨t',rfl⟩:=r2;exact iadd_int ⟨.int _,H,I.tok _,⟨_,rfl⟩,q⟩
end
section
variable {X:Cx}{pos:Pos}
noncomputable def Zrd(c:TT)(tb:TS):TS:=fun D Z H=>∃ W:Nat->St->Hp->Prop,(∃ m,W m Z H)/\∀ m Z H,W m Z H ->
 c Z H fun b H1=>if b=true then ∃ N:St->Hp->Prop,(∀ σ' H',N σ' H'->∃ m',m'<m/\W m' σ' H')/\tb {D with nx:=N,ct:=N,bk:=D.nx} Z H1 else D.nx Z H1
theorem ZmS{c:Expr}{body:List Stmt}{tc:TT}{tb:TS}(hp:PassesOwn (model X.prog X.w) X.A X.env X.xe)(hc:PT X c tc)(hb:PSs X body tb):PS X (.While c body [] pos) (Zrd tc tb):=by
 intro pins s Z H D I h;obtain ⟨W,⟨m0,w0⟩,turn⟩:=h;refine wpAny_While (codeAny_whileLoop (fun n s'=>∃ σ' H',Inv X pins σ' H' s'/\W n σ' H') ?_ m0 ⟨Z,H,I,w0⟩);rintro n s1 ⟨σ1,H1,I1,w1⟩;refine wpAny_passesOwn hp (thn (hc pins s1 σ1 H1 _ I1 (turn n σ1 H1 w1)) fun b s2 ⟨H2,I2,q2⟩=>?_);cases b with
 | true =>
   obtain ⟨N,hN,q2⟩:=q2;rw [if_pos rfl];refine wpAny_passesOwn hp (thn (hb pins s2 σ1 H2 _ I2 q2) fun f s3 q3=>?_);cases f with
   | next =>
     obtain ⟨σ3,H3,I3,n3⟩:=q3;obtain ⟨m',hm,w3⟩:=hN σ3 H3 n3;exact ⟨m',hm,σ3,H3,I3,w3⟩
   | cont =>
     obtain ⟨σ3,H3,I3,n3⟩:=q3;obtain ⟨m',hm,w3⟩:=hN σ3 H3 n3;exact ⟨m',hm,σ3,H3,I3,w3⟩
   | brk=>exact q3
   | ret v=>exact q3
 | false =>
   rw [if_neg Ow];exact wpAny_execs_nil ⟨σ1,H2,I2,q2⟩
end
structure It where
 go:Nat->Hp->Prop
 yld:Nat->Hp->V->Hp->Prop
 stop:Nat->Hp->Prop
noncomputable def Zdd(X:Cx)(pins:List (Addr×Obj))(H:Hp)(b:Addr):Prop :=
 H b=none/\b≠X.env.locals/\b ∉ X.fs/\(b∈X.ex\/X.s₀.heap.objs.size<=b)/\(∀ x c,X.env.cells.lookup x=some c->c≠b)/\∀ p∈X.pn++pins,p.1≠b
theorem Inv.fpOk{X:Cx}{pins:List (Addr×Obj)}{Z:St}{H H':Hp}{s:Shared}{b:Addr}(I:Inv X pins Z H s)(hb:s.heap.objs.size<=b)(hn:H' b=none):Zdd X pins H' b:=by
 refine ⟨hn,Nat.ne_of_gt (O3 I.lt hb),I.nofs hb,.inr (OE I.sz hb),fun x c e z=>?_,fun p hp z=>?_⟩
 . obtain ⟨v,q⟩:=I.cell x c e;exact absurd (O3 q.lt (by rw [z];exact hb)) (Nat.lt_irrefl _)
 . exact absurd (O3 (Heap.lt_size (I.pin p hp).1) (by rw [z];exact hb)) (Nat.lt_irrefl _)
structure Turn(P:Program)(w:World)(K:PySem.W.Frag)(tg:Expr)(J:It)(fp:List Addr)(it:Addr)(tn:Nat->Heap->Prop):Prop where
 mem:it∈fp
 obj:∀ i h,tn i h->∀ b∈fp,∃ o,h.get? b=some o/\∀ v,o.data≠.cell v
 keep:∀ i h h',tn i h->(∀ b∈fp,∀ o,h.get? b=some o->h'.get? b=some o)->tn i h'
 item:∀ (X:Cx),X.prog=P->X.w=w->X.K=K->X.calm=true->∀ (i:Nat) (pins:List (Addr×Obj)) (s:Shared) (Z:St) (H:Hp) (E:Value->Shared->Prop),Inv X pins Z H s->(∀ b∈fp,Zdd X pins H b)->tn i s.heap->J.go i H ->
   wpAny (model P w) X.A (pyNext (.ref it)) (fun r s1=>∃ u,r=some u /\
     wpAny (model P w) X.A (letOwnedTupleGo tg (.ref it) u) (fun _ s2=>∃ x H',Inv X pins Z H' s2/\RelV x u/\J.yld i H x H'/\tn (i+1) s2.heap/\∀ b∈fp,H' b=none) E s1) E s
 done:∀ (X:Cx),X.prog=P->X.w=w->X.K=K->X.calm=true->∀ (i:Nat) (pins:List (Addr×Obj)) (s:Shared) (Z:St) (H:Hp) (E:Value->Shared->Prop),Inv X pins Z H s->(∀ b∈fp,Zdd X pins H b)->tn i s.heap->J.stop i H ->
   wpAny (model P w) X.A (pyNext (.ref it)) (fun r s1=>r=none/\Inv X pins Z H s1) E s
 self:∀ (A:Around) (i:Nat) (s:Shared) (Q:Value->Shared->Prop) (E:Value->Shared->Prop),tn i s.heap->Q (.ref it) s->wpAny (model P w) A (pyIter (.ref it)) Q E s
noncomputable abbrev TI:=St->Hp->(It->Hp->Prop)->Prop
noncomputable def PIE(X:Cx)(pins:List (Addr×Obj))(Z:St)(tg:Expr)(R:It->Hp->Prop)(itv:Value)(s2:Shared):Prop :=
 ∃ (it:Addr) (fp:List Addr) (tn:Nat->Heap->Prop) (J:It) (H':Hp),itv=.ref it/\Inv X pins Z H' s2/\Turn X.prog X.w X.K tg J fp it tn/\tn 0 s2.heap/\(∀ b∈fp,Zdd X pins H' b)/\R J H'
noncomputable def PI(X:Cx)(tg iter:Expr)(wi:TI):Prop :=
 ∀ (pins:List (Addr×Obj)) (s:Shared) (Z:St) (H:Hp) (R:It->Hp->Prop),Inv X pins Z H s->wi Z H R ->
   wpAny (model X.prog X.w) X.A (eval iter X.env) (fun v s1=>wpAny (model X.prog X.w) X.A (pyIter v) (PIE X pins Z tg R) X.xe s1) X.xe s
theorem ZgL{M:Model}{A:Around}{E:Value->Shared->Prop}{s:Shared}{tg:Expr}{it:Addr}{u:Value}{o:Obj}{n:String}{vs:Array Value}{Q:Unit->Shared->Prop}(ho:s.heap.get? it=some o)(hc:o.cls=.type n)(hd:o.data=.fields vs)
   (hn:["enumerate", "zip", "dict_itemiterator", "dict_reverseitemiterator", "odict_iterator", "itertools.zip_longest", "itertools.pairwise"].contains n=false) (hQ:Q () s):wpAny M A (letOwnedTupleGo tg (.ref it) u) Q E s:=by
 unfold letOwnedTupleGo;cases tg<;>first
   | exact wpAny_pure hQ
   | (cases u<;>first
       | exact wpAny_pure hQ
       | (refine wpAny_bind (wpAny_load ho ?_)
          rw [hc,hd];show wpAny M A (if (["enumerate", "zip", "dict_itemiterator", "dict_reverseitemiterator", "odict_iterator", "itertools.zip_longest", "itertools.pairwise"].contains n&&vs[0]?==some (rawInt _))=true then _ else _) Q E s;rw [if_neg (by intro h;rw [hn,Bool.false_and] at h;cases h)];exact wpAny_pure hQ))
noncomputable def Itl(K:PySem.W.Frag)(a:Addr):It :=
 ⟨fun i H=>∃ xs x,SqL K H a xs/\xs[i]? = some x,fun i H x H'=>H'=H/\∀ xs,SqL K H a xs->xs[i]? = some x,fun i H=>∃ xs,SqL K H a xs/\xs.length<=i⟩
noncomputable def Itt(K:PySem.W.Frag)(a:Addr):It :=
 ⟨fun i H=>∃ xs x,SqT K H a xs/\xs[i]? = some x,fun i H x H'=>H'=H/\∀ xs,SqT K H a xs->xs[i]? = some x,fun i H=>∃ xs,SqT K H a xs/\xs.length<=i⟩
noncomputable def Itr(lo:Int)(n:Nat):It:=⟨fun i _=>i<n,fun i H x H'=>H'=H/\x=.int (lo+i),fun i _=>n<=i⟩
theorem Zli{P:Program}{w:World}{K:PySem.W.Frag}{tg:Expr}(a it:Addr):Turn P w K tg (Itl K a) [it] it (fun i h=>h.IsListIter it a i) where
 mem:=by simp
 obj:=fun i h st b hb=>by
   have e:b=it:=by simpa using hb
   subst e;obtain ⟨o,e,c,d⟩:=st;exact ⟨o,e,fun v z=>by rw [d] at z;cases z⟩
 keep:=fun i h h' st k=>st.at fun o e=>k it (by simp) o e
 item:=by
   intro X hP hw hK hc i pins s Z H E I hf st hg;subst hP hw hK;obtain ⟨xs,x,hq,hx⟩:=hg;obtain ⟨its,rv,p,hz⟩:=I.list hq;obtain ⟨u,hu,ru⟩:=rv.get hx;obtain ⟨f0,f1,f2,f3,f4,f5⟩:=hf it (by simp);refine wpAny_pyNext_list_item st p.isList (x:=u) (by simpa using hu) fun h' st' sb=>?_;have I1:Inv X pins Z H {s with heap:=h'}:=I.turned (t':=s.toks) (fun b o hb e=>(sb.2 b hb).trans e) f0 f1 f3 f4 f5;obtain ⟨o,e,c,d⟩:=id st';exact ⟨u,rfl,ZgL (s:={s with heap:=h'}) e c d (by decide) ⟨x,H,I1,ru,⟨rfl,fun ys hy=>by rw [I.list_inj hy hq];exact hx⟩,st',fun b hb=>(hf b hb).1⟩⟩
 done:=by
   intro X hP hw hK hc i pins s Z H E I hf st hg;subst hP hw hK;obtain ⟨xs,hq,hx⟩:=hg;obtain ⟨its,rv,p,hz⟩:=I.list hq;obtain ⟨f0,f1,f2,f3,f4,f5⟩:=hf it (by simp);have hl:=rv.length;exact wpAny_pyNext_list_end (I.ok.hd hc) st p.isList (by simp;omega) fun h' eb=>⟨rfl,I.turned (t':=s.toks) (fun b o hb e=>eb b o hb e) f0 f1 f3 f4 f5⟩
 self:=fun _ _ _ _ _ st h=>wpAny_pyIter_listiter st h
theorem Zja{P:Program}{w:World}{K:PySem.W.Frag}{tg:Expr}(a it:Addr):Turn P w K tg (Itt K a) [it] it (fun i h=>h.IsTupleIter it a i) where
 mem:=by simp
 obj:=fun i h st b hb=>by
   have e:b=it:=by simpa using hb
   subst e;obtain ⟨o,e,c,d⟩:=st;exact ⟨o,e,fun v z=>by rw [d] at z;cases z⟩
 keep:=fun i h h' st k=>st.at fun o e=>k it (by simp) o e
 item:=by
   intro X hP hw hK hc i pins s Z H E I hf st hg;subst hP hw hK;obtain ⟨xs,x,hq,hx⟩:=hg;obtain ⟨its,rv,p,hz⟩:=I.tuple hq;obtain ⟨u,hu,ru⟩:=rv.get hx;obtain ⟨f0,f1,f2,f3,f4,f5⟩:=hf it (by simp);refine wpAny_pyNext_tuple_item st (show s.heap.IsTuple a its.toArray from p) (x:=u) (by simpa using hu) fun h' st' sb=>?_;have I1:Inv X pins Z H {s with heap:=h'}:=I.turned (t':=s.toks) (fun b o hb e=>(sb.2 b hb).trans e) f0 f1 f3 f4 f5;obtain ⟨o,e,c,d⟩:=id st';exact ⟨u,rfl,ZgL (s:={s with heap:=h'}) e c d (by decide) ⟨x,H,I1,ru,⟨rfl,fun ys hy=>by rw [I.tuple_inj hy hq];exact hx⟩,st',fun b hb=>(hf b hb).1⟩⟩
 done:=by
   intro X hP hw hK hc i pins s Z H E I hf st hg;subst hP hw hK;obtain ⟨xs,hq,hx⟩:=hg;obtain ⟨its,rv,p,hz⟩:=I.tuple hq;obtain ⟨f0,f1,f2,f3,f4,f5⟩:=hf it (by simp);have hl:=rv.length;exact wpAny_pyNext_tuple_end (I.ok.hd hc) st (show s.heap.IsTuple a its.toArray from p) (by simp;omega) fun h' eb=>⟨rfl,I.turned (t':=s.toks) (fun b o hb e=>eb b o hb e) f0 f1 f3 f4 f5⟩
 self:=fun _ _ _ _ _ st h=>wpAny_pyIter_tupleiter st h
theorem Zjb{P:Program}{w:World}{K:PySem.W.Frag}{tg:Expr}(it:Addr)(lo:Int)(n:Nat):Turn P w K tg (Itr lo n) [it] it (fun i h=>IsRangeIter h it (lo+(i:Nat) * 1) ((n:Int) - (i:Nat)) 1) where
 mem:=by simp
 obj:=fun i h st b hb=>by
   have e:b=it:=by simpa using hb
   subst e;exact ⟨_,st,fun v z=>by
     have z':Data.fields _=Data.cell v:=z;cases z'⟩
 keep:=fun i h h' st k=>k it (by simp) _ st
 item:=by
   intro X hP hw hK hc i pins s Z H E I hf st hg;subst hP hw hK;obtain ⟨f0,f1,f2,f3,f4,f5⟩:=hf it (by simp);have W:=Walks.range (prog:=X.prog) (w:=X.w) (I.ok.hd hc) it lo 1 n;refine W.item i s _ _ hg st fun v h' tk hv st' kk=>?_;obtain ⟨t,rfl⟩:=hv;have I1:Inv X pins Z H {s with heap:=h',toks:=tk}:=I.turned (fun b o hb e=>kk b o (by simpa using hb) e) f0 f1 f3 f4 f5;refine ⟨_,rfl,ZgL (s:={s with heap:=h',toks:=tk}) (n := "range_iterator") st' rfl rfl (by decide) ⟨.int (lo+i),H,I1,⟨t,?_⟩,⟨rfl,rfl⟩,st',fun b hb=>(hf b hb).1⟩⟩;rw [Int.mul_one]
 done:=by
   intro X hP hw hK hc i pins s Z H E I hf st hg;subst hP hw hK;obtain ⟨f0,f1,f2,f3,f4,f5⟩:=hf it (by simp);exact wpAny_pyNext_range_end (I.ok.hd hc) st (by have:n<=i:=hg;omega) fun h' eb=>⟨rfl,I.turned (t':=s.toks) (fun b o hb e=>eb b o hb e) f0 f1 f3 f4 f5⟩
 self:=fun _ _ _ _ _ st h=>wpAny_pyIter_rangeiter st h
end L2
namespace L2
open PySem PySem.Spec PyProof.Rows
section
variable {X:Cx}{tg:Expr}
theorem ZmD{pins:List (Addr×Obj)}{Z:St}{H:Hp}{s:Shared}{R:It->Hp->Prop}{E:Value->Shared->Prop}{lo hi:Int}{t u v:Tok}{tk:Nat}(I:Inv X pins Z H s)(h1:-(2 ^ 62)<=lo)(h2:lo<2 ^ 62)(h3:-(2 ^ 62)<=hi)(h4:hi<2 ^ 62)
   (q:R (Itr lo (hi - lo).toNat) H):wpAny (model X.prog X.w) X.A (pyIter (.ref s.heap.objs.size)) (PIE X pins Z tg R) E {s with heap:=s.heap.push {cls:=.type "range",data:=.fields #[.int lo t,.int hi u,.int 1 v]},toks:=tk}:=by
 refine wpAny_pyIter_range (IsRange.new ..) (small_one h1 h2 h3 h4) ?_;have I1:Inv X pins Z H {s with heap:=s.heap.push {cls:=.type "range",data:=.fields #[.int lo t,.int hi u,.int 1 v]},toks:=tk}:=I.kept fun b o e=>Od _ e;refine ⟨(s.heap.push {cls:=.type "range",data:=.fields #[.int lo t,.int hi u,.int 1 v]}).objs.size,[(s.heap.push {cls:=.type "range",data:=.fields #[.int lo t,.int hi u,.int 1 v]}).objs.size],_,_,H,rfl,
   I1.kept (t':=tk) fun b o e=>Od _ e,Zjb _ lo (hi - lo).toNat,?_,fun b hb=>?_,q⟩
 . have e1:lo+((0:Nat):Int) * 1=lo:=by simp
   have e2:(((hi - lo).toNat:Nat):Int) - ((0:Nat):Int)=Builtin.Range.rangeSize lo hi 1:=by rw [rangeSize_one];split<;>omega
   show IsRangeIter _ _ (lo+((0:Nat):Int) * 1) ((((hi - lo).toNat:Nat):Int) - ((0:Nat):Int)) 1;rw [e1,e2];exact Oj _ rfl
 . have e:b=(s.heap.push {cls:=.type "range",data:=.fields #[.int lo t,.int hi u,.int 1 v]}).objs.size:=by simpa using hb
   subst e;exact I1.fpOk (Oq _) (I1.hok.fresh (Oq _))
noncomputable def Zug(ta:TA):TI:=fun Z H R=>ta Z H fun vs H1=>∃ j:Int,vs=[.int j]/\-(2 ^ 62)<=j/\j<2 ^ 62/\R (Itr 0 j.toNat) H1
theorem ZlG {a:Expr}{ta:TA}{p pos:Pos} (hg:Gl X "range") (hm:X.mg "range" = none) (ha:PA X [a] ta) (hs:starEach [a] X.env=[(false,eval a X.env)]:=by rfl):PI X tg (.Call (.Name "range" p) [a] [] pos) (Zug ta):=by
 intro pins s Z H R I h;refine Call_ (ZcU I hg hm boot_range (PyProof.Rows.callWith_type1 (thn (ha pos pins s Z H _ I h) fun us s1 ⟨vs,H1,I1,r1,q1⟩=>?_) hs rfl));obtain ⟨j,e,q1,q2,q⟩:=q1;subst e;cases r1 with
 | cons r rr =>
   cases rr;obtain ⟨t,rfl⟩:=r;exact call_range_1 (ZmD I1 (by omega) (by omega) q1 q2 (by simpa using q))
noncomputable def Zu5(wi:TI)(g:TG)(tb:TS):TS:=fun D Z H=>wi Z H fun J H1=>∃ W:Nat->Nat->St->Hp->Prop,(∃ m,W 0 m Z H1)/\∀ i m Z H,W i m Z H ->
 (J.stop i H/\D.nx Z H)\/(J.go i H/\∃ N:St->Hp->Prop,(∀ σ' H',N σ' H'->∃ m',m'<m/\W (i+1) m' σ' H')/\∀ x H',J.yld i H x H'->g x Z H' fun σ2 H2=>tb {D with nx:=N,ct:=N,bk:=D.nx} σ2 H2)
noncomputable def Zet(fp:List Addr)(h:Heap):List (Addr×Obj):=fp.filterMap fun b=>(h.get? b).map fun o=>(b,o)
theorem ZaT{fp:List Addr}{h:Heap}{b:Addr}{o:Obj}(hb:b∈fp)(e:h.get? b=some o):(b,o)∈Zet fp h:=List.mem_filterMap.mpr ⟨b,hb,by rw [e];rfl⟩
theorem ZlN{fp:List Addr}{h:Heap}{p:Addr×Obj}(hp:p∈Zet fp h):p.1∈fp/\h.get? p.1=some p.2:=by
 obtain ⟨b,hb,e⟩:=List.mem_filterMap.mp hp;cases q:h.get? b with
 | none=>rw [q] at e;cases e
 | some o =>
   rw [q] at e;have e':(b,o)=p:=Option.some.inj e;subst e';exact ⟨hb,q⟩
theorem Inv.pinned{pins:List (Addr×Obj)}{Z:St}{H:Hp}{s:Shared}{fp:List Addr}(I:Inv X pins Z H s)(hf:∀ b∈fp,Zdd X pins H b)(ho:∀ b∈fp,∃ o,s.heap.get? b=some o/\∀ v,o.data≠.cell v):Inv X (pins++Zet fp s.heap) Z H s :=
 I.pins_of fun p hp=>(OD.mp hp).elim (fun z=>I.pin p (Ov _ z)) fun z=>by
   obtain ⟨hb,e⟩:=ZlN z;obtain ⟨f0,f1,f2,_⟩:=hf p.1 hb;obtain ⟨o,e',d⟩:=ho p.1 hb;rw [e] at e';cases e';exact ⟨e,f0,f1,f2,d⟩
theorem Inv.unpinned{pins pl:List (Addr×Obj)}{Z:St}{H:Hp}{s:Shared}(I:Inv X (pins++pl) Z H s):Inv X pins Z H s:=I.pins_of fun p hp=>I.pin p (Ov _ (List.mem_append_left _ hp))
theorem ZrC{iter:Expr}{body:List Stmt}{wi:TI}{g:TG}{tb:TS}{pos:Pos}(hp:PassesOwn (model X.prog X.w) X.A X.env X.xe)(hc:X.calm=true)(hi:PI X tg iter wi)(hg:PG X tg g)(hb:PSs X body tb)
   (hs:∀ x,foldedSetIterable iter X.env x=pure x:=by intro _;rfl):PS X (.For tg iter body [] pos) (Zu5 wi g tb):=by
 intro pins s Z H D I h;refine wpAny_For (thn (hi pins s Z H _ I h) fun v s1 h1=>thn h1 fun itv s2 h2=>?_) hs;obtain ⟨it,fp,tn,J,H2,e,I2,T,st2,f2,W,⟨m0,w0⟩,turn⟩:=h2;subst e;have stat:∀ {H':Hp},(∀ b∈fp,H' b=none)->∀ b∈fp,Zdd X pins H' b:=fun hn b hb=>⟨hn b hb,(f2 b hb).2⟩
 refine codeAny_forLoop_any (fun n s'=>∃ i σ' H',Inv X pins σ' H' s'/\tn i s'.heap/\(∀ b∈fp,H' b=none)/\W i n σ' H') ?_ m0 ⟨0,Z,H2,I2,st2,fun b hb=>(f2 b hb).1,w0⟩;rintro n s3 ⟨i,σ3,H3,I3,st3,fr3,w3⟩;rcases turn i n σ3 H3 w3 with ⟨stop,qn⟩|⟨go,N,hN,step⟩
 . refine wpAny_passesOwn hp (thn (T.done X rfl rfl rfl hc i pins s3 σ3 H3 X.xe I3 (stat fr3) st3 stop) fun r s4 ⟨hr,I4⟩=>?_);subst hr;exact wpAny_execs_nil ⟨σ3,H3,I4,qn⟩
 . refine wpAny_passesOwn hp (thn (T.item X rfl rfl rfl hc i pins s3 σ3 H3 X.xe I3 (stat fr3) st3 go) fun r s4 ⟨u,hr,h4⟩=>?_);subst hr;refine wpAny_passesOwn hp (thn h4 fun _ s5 ⟨x,H5,I5,r5,y5,st5,fr5⟩=>?_);have I5':=I5.pinned (stat fr5) (T.obj _ _ st5);refine wpAny_passesOwn hp (thn (hg _ s5 σ3 H5 x u _ I5' r5 (step x H5 y5)) fun _ s6 ⟨σ6,H6,I6,q6⟩=>?_);refine wpAny_passesOwn hp (thn (hb _ s6 σ6 H6 _ I6 q6) fun f s7 q7=>?_);have again:∀ {σ7:St}{H7:Hp},Inv X (pins++Zet fp s5.heap) σ7 H7 s7->N σ7 H7->∃ m,m<n/\∃ i σ' H',Inv X pins σ' H' s7/\tn i s7.heap/\(∀ b∈fp,H' b=none)/\W i m σ' H':=fun {σ7 H7} I7 n7=>by
     obtain ⟨m',hm,w7⟩:=hN σ7 H7 n7;refine ⟨m',hm,i+1,σ7,H7,I7.unpinned,T.keep _ _ _ st5 fun b hb o e=>(I7.pin (b,o) (Ov _ (Ov _ (ZaT hb e)))).1,fun b hb=>?_,w7⟩;obtain ⟨o,e,d⟩:=T.obj _ _ st5 b hb;exact (I7.pin (b,o) (Ov _ (Ov _ (ZaT hb e)))).2.1
   cases f with
   | next=>obtain ⟨σ7,H7,I7,n7⟩:=q7;exact again I7 n7
   | cont=>obtain ⟨σ7,H7,I7,n7⟩:=q7;exact again I7 n7
   | brk=>obtain ⟨σ7,H7,I7,q7⟩:=q7;exact ⟨σ7,H7,I7.unpinned,q7⟩
   | ret v=>obtain ⟨x7,σ7,H7,I7,r7,q7⟩:=q7;exact ⟨x7,σ7,H7,I7.unpinned,r7,q7⟩
end
end L2
namespace L2
open PySem PySem.Spec PyProof.Rows
noncomputable abbrev R2:=V->V->Hp->VK->Prop
noncomputable def OpR(X:Cx)(f:Value->Value->Sem Value)(r:R2):Prop :=
 ∀ (pins:List (Addr×Obj)) (s:Shared) (Z:St) (H:Hp) (x y:V) (v u:Value) (Q:VK),Inv X pins Z H s->RelV x v->RelV y u->r x y H Q ->
   wpAny (model X.prog X.w) X.A (f v u) (EP X pins Z Q) X.xe s
noncomputable def UnR(X:Cx)(f:Value->Sem Value)(r:V->Hp->VK->Prop):Prop :=
 ∀ (pins:List (Addr×Obj)) (s:Shared) (Z:St) (H:Hp) (x:V) (v:Value) (Q:VK),Inv X pins Z H s->RelV x v->r x H Q ->
   wpAny (model X.prog X.w) X.A (f v) (EP X pins Z Q) X.xe s
noncomputable def Zcp(X:Cx)(f:Value)(r:List V->Hp->VK->Prop):Prop :=
 ∀ (pins:List (Addr×Obj)) (s:Shared) (Z:St) (H:Hp) (xs:List V) (us:List Value) (Q:VK),Inv X pins Z H s->Zm xs us->r xs H Q ->
   wpAny (model X.prog X.w) X.A (call f us) (EP X pins Z Q) X.xe s
noncomputable def ZvR(X:Cx)(r:V->Hp->(Bool->Hp->Prop)->Prop):Prop :=
 ∀ (pins:List (Addr×Obj)) (s:Shared) (Z:St) (H:Hp) (x:V) (v:Value) (Q:Bool->Hp->Prop),Inv X pins Z H s->RelV x v->r x H Q ->
   wpAny (model X.prog X.w) X.A (truthy v) (TP X pins Z Q) X.xe s
noncomputable def tOp(r:R2)(ta tb:TE):TE:=fun Z H Q=>ta Z H fun x H1=>tb Z H1 fun y H2=>r x y H2 Q
noncomputable def tUn(r:V->Hp->VK->Prop)(ta:TE):TE:=fun Z H Q=>ta Z H fun x H1=>r x H1 Q
noncomputable def rI(C:Int->Int->Prop)(g:Int->Int->V):R2:=fun x y H Q=>∃ i j,x=.int i/\y=.int j/\C i j/\Q (g i j) H
noncomputable def rI0(g:Int->Int->V):R2:=fun x y H Q=>∃ i j,x=.int i/\y=.int j/\Q (g i j) H
noncomputable def rU(g:Int->V):V->Hp->VK->Prop:=fun x H Q=>∃ i,x=.int i/\Q (g i) H
section
variable {X:Cx}{a b c:Expr}{ta tb tc:TE}{pos:Pos}
theorem ZsI(ha:PE X a ta)(hb:PE X b tb){pins:List (Addr×Obj)}{s:Shared}{Z:St}{H:Hp}{R:V->V->Hp->Prop}(I:Inv X pins Z H s)
   (h:ta Z H fun x H1=>tb Z H1 fun y H2=>R x y H2) {Q:Value->Shared->Prop}{f:Value->Value->Sem Value}
   (hf:∀ v u s2 x y H2,Inv X pins Z H2 s2->RelV x v->RelV y u->R x y H2->wpAny (model X.prog X.w) X.A (f v u) Q X.xe s2) :
   wpAny (model X.prog X.w) X.A (eval a X.env) (fun v s₁=>wpAny (model X.prog X.w) X.A (eval b X.env) (fun u s₂=>wpAny (model X.prog X.w) X.A (f v u) Q X.xe s₂) X.xe s₁) X.xe s:=by
 refine thn (ha pins s Z H _ I h) fun v s1 ⟨x,H1,I1,r1,q1⟩=>?_;refine thn (hb pins s1 Z H1 _ I1 q1) fun u s2 ⟨y,H2,I2,r2,q2⟩=>?_;exact hf v u s2 x y H2 I2 r1 r2 q2
theorem ZtL{op:Operator}{r:R2}(ho:OpR X (binaryOp op) r)(ha:PE X a ta)(hb:PE X b tb):PE X (.BinOp a op b pos) (tOp r ta tb):=by
 intro pins s Z H Q I h;exact wpAny_BinOp (ZsI ha hb I h fun v u s2 x y H2 I2 rx ry q=>ho pins s2 Z H2 x y v u Q I2 rx ry q)
theorem ZtJ{op:UnaryOp}{r:V->Hp->VK->Prop}(ho:UnR X (unaryOp op) r)(ha:PE X a ta):PE X (.UnaryOp op a pos) (tUn r ta):=by
 intro pins s Z H Q I h;exact UnaryOp_ (thn (ha pins s Z H _ I h) fun v s1 ⟨x,H1,I1,r1,q1⟩=>ho pins s1 Z H1 x v Q I1 r1 q1)
theorem opI{f:Value->Value->Sem Value}{C:Int->Int->Prop}{g:Int->Int->Int}
   (rule:∀ (i j:Int) (t u:Tok) (s:Shared) (Q:Value->Shared->Prop) (E:Value->Shared->Prop),C i j->Q (.int (g i j) s.toks) {s with toks:=s.toks+1}->wpAny (model X.prog X.w) X.A (f (.int i t) (.int j u)) Q E s) :
   OpR X f (rI C fun i j=>.int (g i j)):=by
 intro pins s Z H x y v u Q I rx ry h;obtain ⟨i,j,rfl,rfl,hc,q⟩:=h;obtain ⟨t,rfl⟩:=rx;obtain ⟨t',rfl⟩:=ry;exact rule i j t t' s _ _ hc ⟨.int (g i j),H,I.tok _,⟨_,rfl⟩,q⟩
theorem ZtX{f:Value->Value->Sem Value}{g:Int->Int->Int}
   (rule:∀ (i j:Int) (t u:Tok) (s:Shared) (Q:Value->Shared->Prop) (E:Value->Shared->Prop),Q (.int (g i j) s.toks) {s with toks:=s.toks+1}->wpAny (model X.prog X.w) X.A (f (.int i t) (.int j u)) Q E s) :
   OpR X f (rI0 fun i j=>.int (g i j)):=by
 intro pins s Z H x y v u Q I rx ry h;obtain ⟨i,j,rfl,rfl,q⟩:=h;obtain ⟨t,rfl⟩:=rx;obtain ⟨t',rfl⟩:=ry;exact rule i j t t' s _ _ ⟨.int (g i j),H,I.tok _,⟨_,rfl⟩,q⟩
theorem Zpx{f:Value->Value->Sem Value}{g:Int->Int->Bool}
   (rule:∀ (i j:Int) (t u:Tok) (s:Shared) (Q:Value->Shared->Prop) (E:Value->Shared->Prop),Q (.bool (g i j)) s->wpAny (model X.prog X.w) X.A (f (.int i t) (.int j u)) Q E s) :
   OpR X f (rI0 fun i j=>.bl (g i j)):=by
 intro pins s Z H x y v u Q I rx ry h;obtain ⟨i,j,rfl,rfl,q⟩:=h;obtain ⟨t,rfl⟩:=rx;obtain ⟨t',rfl⟩:=ry;exact rule i j t t' s _ _ ⟨.bl (g i j),H,I,rfl,q⟩
noncomputable def ZvT(i j:Int):Prop:=0<j/\j<1073741824
noncomputable def ZvS(i j:Int):Prop:=0<=j/\j<=1000000/\i.natAbs<2 ^ 64
theorem ZrZ:OpR X (binaryOp .Add) (rI0 fun i j=>.int (i+j)):=ZtX fun _ _ _ _ _ _ _ q=>add_int q
theorem ZrT:OpR X (binaryOp .Sub) (rI0 fun i j=>.int (i - j)):=ZtX fun _ _ _ _ _ _ _ q=>sub_int q
theorem Zpm:OpR X (binaryOp .FloorDiv) (rI ZvT fun i j=>.int (i / j)):=opI fun i j _ _ _ _ _ hc q=>by
 have h1:(0:Int)<j:=hc.1;have h2:j<1073741824:=hc.2;exact floordiv_int (by omega) (by rw [Int.fdiv_eq_ediv_of_nonneg i (by omega)];exact q) (.inl (PyProof.noPylong_small (by omega)))
theorem ZrV:OpR X (binaryOp .Mod) (rI (fun _ j=>0<j) fun i j=>.int (i % j)):=opI fun i j _ _ _ _ _ hc q=>by
 have h1:(0:Int)<j:=hc;exact mod_int' (by omega) (by rw [Int.fmod_eq_emod_of_nonneg i (by omega)];exact q)
theorem ZrU:OpR X (binaryOp .Pow) (rI ZvS fun i j=>.int (i ^ j.toNat)):=opI fun _ _ _ _ _ _ _ hc q=>pow_int_small hc.1 hc.2.1 hc.2.2 q
theorem unI{f:Value->Sem Value}{g:Int->Int}
   (rule:∀ (i:Int) (t:Tok) (s:Shared) (Q:Value->Shared->Prop) (E:Value->Shared->Prop),Q (.int (g i) s.toks) {s with toks:=s.toks+1}->wpAny (model X.prog X.w) X.A (f (.int i t)) Q E s) :
   UnR X f (rU fun i=>.int (g i)):=by
 intro pins s Z H x v Q I rx h;obtain ⟨i,rfl,q⟩:=h;obtain ⟨t,rfl⟩:=rx;exact rule i t s _ _ ⟨.int (g i),H,I.tok _,⟨_,rfl⟩,q⟩
theorem Zq5:UnR X (unaryOp .USub) (rU fun i=>.int (-i)):=unI fun _ _ _ _ _ q=>neg_int q
end
section
variable {X:Cx}{a b c:Expr}{ta tb tc:TE}{pos:Pos}
theorem ZnR{pins:List (Addr×Obj)}{Z:St}{H:Hp}{s:Shared}{Q:VK}{k k':Bool}(I:Inv X pins Z H s)(q:Q (.bl k) H)(e:k=k'):EP X pins Z Q (.bool k') s:=by
 subst e;exact ⟨.bl k,H,I,rfl,q⟩
theorem ZtQ:OpR X (compareOp .Lt) (rI0 fun i j=>.bl (decide (i<j))):=Zpx fun _ _ _ _ _ _ _ q=>lt_int q
theorem ZtR:OpR X (compareOp .LtE) (rI0 fun i j=>.bl (decide (i<=j))):=Zpx fun _ _ _ _ _ _ _ q=>le_int q
theorem ZtS:OpR X (compareOp .Gt) (rI0 fun i j=>.bl (decide (j<i))):=Zpx fun _ _ _ _ _ _ _ q=>gt_int q
theorem ZtT:OpR X (compareOp .GtE) (rI0 fun i j=>.bl (decide (j<=i))):=Zpx fun _ _ _ _ _ _ _ q=>ge_int q
theorem ZrW:OpR X (compareOp .Is) (fun x y H Q=>y=.non/\Q (.bl (decide (x=.non))) H):=by
 intro pins s Z H x y v u Q I rx ry h;obtain ⟨rfl,q⟩:=h;cases ry;refine is_none_gen (ZnR I q ?_);cases x<;>first
   | (cases rx;rfl)
   | (obtain ⟨t,rfl⟩:=rx;rfl)
theorem Zpk:OpR X (compareOp .IsNot) (fun x y H Q=>y=.non/\Q (.bl (!decide (x=.non))) H):=by
 intro pins s Z H x y v u Q I rx ry h;obtain ⟨rfl,q⟩:=h;cases ry;refine isnot_none_gen (ZnR I q ?_);cases x<;>first
   | (cases rx;rfl)
   | (obtain ⟨t,rfl⟩:=rx;rfl)
theorem ZkM{op:CmpOp}{r:R2}(ho:OpR X (compareOp op) r)(ha:PE X a ta)(hb:PE X b tb)(hm:behindInMarks op b=false):PE X (.Compare a [op] [b] pos) (tOp r ta tb):=by
 intro pins s Z H Q I h;exact wpAny_Compare1 (ZsI ha hb I h fun v u s2 x y H2 I2 rx ry q=>ho pins s2 Z H2 x y v u Q I2 rx ry q) hm
noncomputable def Ztd(t:TE):TT:=fun Z H Q=>t Z H fun x H'=>∃ k,x=.bl k/\Q k H'
theorem ZkJ{op:CmpOp}{r:R2}(ho:OpR X (compareOp op) r)(ha:PE X a ta)(hb:PE X b tb)(hm:behindInMarks op b=false):PT X (.Compare a [op] [b] pos) (Ztd (tOp r ta tb)):=by
 intro pins s Z H Q I h;refine wpAny_isTrue_Compare1 (thn (ha pins s Z H _ I h) fun v s1 ⟨x,H1,I1,r1,q1⟩=>thn (hb pins s1 Z H1 _ I1 q1) fun u s2 ⟨y,H2,I2,r2,q2⟩ =>
   thn (ho pins s2 Z H2 x y v u _ I2 r1 r2 q2) fun c s3 ⟨z,H3,I3,r3,k,e,q3⟩=>?_) hm
 subst e;cases r3;exact wpAny_truthy_bool ⟨H3,I3,q3⟩
noncomputable def ZsM(K:PySem.W.Frag)(x:V)(H:Hp)(k:Bool):Prop :=
 match x with
 | .non=>k=false
 | .bl b=>k=b
 | .int i=>k=(i != 0)
 | .str y=>y.length<=sizeLine/\k=((y.length:Int) != 0)
 | .byt y=>y.size<=sizeLine/\k=((y.size:Int) != 0)
 | .ref p=>(∃ xs,SqL K H p xs/\k=!xs.isEmpty)\/(∃ xs,SqT K H p xs/\k=!xs.isEmpty)\/∃ kvs,H p=some (.dK kvs)/\k=!kvs.isEmpty
 | _=>False
theorem ZjV{κ:Type}{kvs:List (κ×V)}{vs:List (κ×Value)}(r:KV kvs vs):(!vs.isEmpty)=!kvs.isEmpty:=by
 cases r<;>rfl
theorem ZfW{xs:List V}{its:List Value}(r:Zm xs its):(!its.toArray.isEmpty)=!xs.isEmpty:=by
 cases r<;>simp
theorem Zcr:(sizeLine:Nat)<2 ^ 63:=by rw [sizeLine_eq];decide
theorem Zq8:ZvR X (fun x H Q=>∃ k,ZsM X.K x H k/\Q k H):=by
 intro pins s Z H x v Q I rx h;obtain ⟨k,e,q⟩:=h;have hl:=Zcr;have hs:sizeLine=16777216:=sizeLine_eq;cases x with
 | non =>
   cases rx;have e':k=false:=e;subst e';exact truthy_none ⟨H,I,q⟩
 | bl b =>
   cases rx;have e':k=b:=e;subst e';exact wpAny_truthy_bool ⟨H,I,q⟩
 | int i =>
   obtain ⟨t,rfl⟩:=rx;have e':k=(i != 0):=e;subst e';exact PySem.P.truthy_int ⟨H,I,q⟩
 | str y =>
   obtain ⟨t,rfl⟩:=rx;obtain ⟨hy,e'⟩:y.length<=sizeLine/\k=((y.length:Int) != 0):=e;subst e';exact PySem.P.truthy_str (by omega) ⟨H,I.tok _,q⟩
 | byt y =>
   obtain ⟨t,rfl⟩:=rx;obtain ⟨hy,e'⟩:y.size<=sizeLine/\k=((y.size:Int) != 0):=e;subst e';exact PySem.W.truthy_bytes (by omega) ⟨H,I.tok _,q⟩
 | ref p =>
   cases rx;have e':(∃ xs,SqL X.K H p xs/\k=!xs.isEmpty)\/(∃ xs,SqT X.K H p xs/\k=!xs.isEmpty)\/∃ kvs,H p=some (.dK kvs)/\k=!kvs.isEmpty:=e;rcases e' with ⟨xs,hx,e'⟩|⟨xs,hx,e'⟩|⟨kvs,hx,e'⟩
   . subst e';obtain ⟨its,r,pl,hz⟩:=I.list hx;have hlen:=r.length;exact wpAny_truthy_list pl.isList (by simp only [Of];omega) ⟨H,I.tok _,by rw [ZfW r];exact q⟩
   . subst e';obtain ⟨its,r,pl,hz⟩:=I.tuple hx;have hlen:=r.length;exact truthy_tuple pl (by simp only [Of];omega) ⟨H,I.tok _,by rw [ZfW r];exact q⟩
   . subst e';obtain ⟨hz,hS,vs,r,m⟩:kvs.length<=sizeLine/\(p==sysModules)=false/\∃ vs,KV kvs vs/\s.heap.DictOf (ZE X.prog X.w) p vs:=I.hok p _ hx;have hlen:kvs.length=vs.length:=Paired.length r;exact wpAny_truthy_dict hS m (by omega) ⟨H,I.tok _,by rw [ZjV r];exact q⟩
 | _=>exact (show False from e).elim
theorem ZmQ(ha:PE X a ta)(he:∀ whole,isTrue a X.env whole=(do let v <- whole;standAt a.pos;holding [v] (truthy v))) :
   PT X a (fun Z H Q=>ta Z H fun x H'=>∃ k,ZsM X.K x H' k/\Q k H'):=by
 intro pins s Z H Q I h;exact isTrue_plain (thn (ha pins s Z H _ I h) fun v s1 ⟨x,H1,I1,r1,q1⟩=>Zq8 pins s1 Z H1 x v Q I1 r1 q1) (he _)
theorem Zjr:OpR X (binaryOp .Add) (fun x y H Q=>∃ i j,x=.str i/\y=.str j/\i.length+j.length<=sizeLine/\Q (.str (i++j)) H):=by
 intro pins s Z H x y v u Q I rx ry h;obtain ⟨i,j,rfl,rfl,hz,q⟩:=h;obtain ⟨t,rfl⟩:=rx;obtain ⟨t',rfl⟩:=ry;exact add_str (fun t' tk=>⟨.str (i++j),H,I.tok _,⟨_,rfl⟩,q⟩) hz
theorem vals1{x:V}{us:List Value}(r:Zm [x] us):∃ u,us=[u]/\RelV x u:=by
 cases r with
 | cons r1 r2=>cases r2;exact ⟨_,rfl,r1⟩
theorem vals2{x y:V}{us:List Value}(r:Zm [x,y] us):∃ u w',us=[u,w']/\RelV x u/\RelV y w':=by
 cases r with
 | cons r1 r2 =>
   cases r2 with
   | cons r3 r4=>cases r4;exact ⟨_,_,rfl,r1,r3⟩
end
end L2
namespace L2
open PySem PySem.Spec PyProof.Rows
structure ObjM(h:Heap)(x dx C:Addr)(mA:Str->Option Value):Prop where
 obj:h.get? x=some (PySem.W.instObj C dx)
 ns:h.Ns1 dx mA
 ne:dx≠x
theorem ZlR{h:Heap}{dx:Addr}{mA:Str->Option Value}(n:h.Ns1 dx mA):∃ od,h.get? dx=some od/\∀ name,PySem.W.lookIn name od=some (mA name):=by
 obtain ⟨o,es,ep,ho,hd,hk,_,hm⟩:=n;refine ⟨o,ho,fun name=>?_⟩;have e:=hm name;unfold nsFind findBy at e;rw [<- Array.find?_toList] at e;unfold PySem.W.lookIn;rw [hd];dsimp only;split
 . rename_i y q;rw [q] at e;exact congrArg some e
 . rename_i q;rw [q] at e;have a:es.toList.any (·.refKey)=false:=by
     rw [List.any_eq_false];intro y hy;obtain ⟨z,t,hkey⟩:=hk y (Array.mem_toList_iff.mp hy);simp [DictEntry.refKey,hkey]
   have a':¬ es.toList.any (·.refKey)=true:=by rw [a];exact Ow
   rw [if_neg a'];exact congrArg some e
theorem ObjM.look{h:Heap}{x dx C:Addr}{mA:Str->Option Value}(I:ObjM h x dx C mA):∃ od,PySem.W.InstAt h x (PySem.W.instObj C dx) C (some od)/\∀ name,PySem.W.lookIn name od=some (mA name) :=
 let ⟨od,ho,hl⟩:=ZlR I.ns
 ⟨od,⟨I.obj,rfl,rfl,ho⟩,hl⟩
section
variable {prog:Program}{w:World}{A:Around}{E:Value->Shared->Prop}{s:Shared}{K:PySem.W.Frag}{x dx C f:Addr}{mA:Str->Option Value}{name:Str}{v:Value}
theorem ZpR{expr:Bool}{Q:Value->Shared->Prop}(X:K.In s.heap)(I:ObjM s.heap x dx C mA)(hg:PySem.W.plainGet K C name=true)(hh:PySem.W.hasDictIn K C=true)
   (ha:PySem.W.findIn K (.ref C) name=some none) (hv:mA name=some v) (hv':PySem.W.handedIn v=true) (h:Q v {s with toks:=s.toks+1}) :
   wpAny (model prog w) A (getAttr (.ref x) name expr) Q E s:=by
 obtain ⟨od,J,hl⟩:=I.look;exact PySem.W.get_value X J (PySem.W.plainGet_of hg).1 (PySem.W.findObj_own hh ha rfl (by rw [hl,hv])) hv' h
theorem ZnN{pl:Sem Bool}{Q:Value×List Value->Shared->Prop}(X:K.In s.heap)(I:ObjM s.heap x dx C mA)(hg:PySem.W.plainGet K C name=true)
   (hf:PySem.W.findIn K (.ref C) name=some (some (.ref f))) (ht:PySem.W.isFn K (.ref f)=true) (hv:mA name=none) (h:Q (.ref f,[.ref x]) s) :
   wpAny (model prog w) A (getMethod (.ref x) name pl) Q E s:=by
 obtain ⟨od,J,hl⟩:=I.look;exact PySem.W.method_fn X J (PySem.W.plainGet_of hg).1 (PySem.W.plainGet_of hg).2 hf (beq_iff_eq.mp ht) (by show (PySem.W.lookIn name od).map (·.isSome)=some false;rw [hl,hv];rfl) h
theorem ZoL{ns:List Str}{Q:Unit->Shared->Prop}(X:K.In s.heap)(I:ObjM s.heap x dx C mA)
   (hs:PySem.W.findIn K (.ref C) "__setattr__" = some (some (.builtin "object.__setattr__"))) (hp:PySem.W.plainOver K C=true) (ht:PySem.W.takerIn K C name=some none) (hh:PySem.W.hasDictIn K C=true)
   (hw:PySem.Within mA ns) (hsz:ns.length<=sizeLine)
   (h:∀ h',ObjM h' x dx C (fun y=>if y=name then some v else mA y)->Heap.SameBut dx s.heap h'->Q () {s with heap:=h',toks:=s.toks+2}) :
   wpAny (model prog w) A (setAttr (.ref x) name v) Q E s:=by
 obtain ⟨od,J,hl⟩:=I.look;refine PySem.W.set_plain X J hs (PySem.W.osa_open (s:={s with toks:=s.toks+1}) (r:=none) X J hp ht fun b=>?_);obtain ⟨cd,hc,hd'⟩:=PySem.W.any_some hh;have hx:s.heap.get? x=some ⟨.ref C,some dx,.plain,#[]⟩:=I.obj;refine wpAny_bind (wpAny_pure (wpAny_bind (wpAny_bind (wpAny_loadPart hx (wpAny_bind (PySem.W.Looks.here (s:={s with toks:=s.toks+1}) (PySem.W.looks_clsIn X hc) ?_))))));rw [hd'];refine wpAny_pure (a:=some dx) (wpAny_bind (wpAny_pure (wpAny_bind ?_)));refine wpAny_nsSet1 (s:={s with toks:=s.toks+1}) I.ns fun h' hn2 hs2=>?_;obtain ⟨oD,esD,epD,hoD,hdD,hcD⟩:=hn2.count (PySem.Within.cons name v hw);refine wpAny_bind (wpAny_lookBehind hoD (by rw [hdD];exact pastItsLine_dict (OE hcD (by rw [Os];omega))) ?_);exact wpAny_pure (h _ ⟨(hs2.2 _ (Ne.symm I.ne)).trans I.obj,hn2,I.ne⟩ hs2)
theorem Znq{R:Result->Shared->Prop}{vs:List Value}{kw:List (Str×Value)}(X:K.In s.heap)(hm:PySem.W.makesIn K C=true)
   (hi:PySem.W.findIn K (.ref C) "__init__" = some (some (.ref f))) (hf:PySem.W.typeIn K (.ref f)=some (.type "function"))
   (h:codeAny (model prog w) (A.under (.builtin "type.__call__" ⟨.ref C::vs,kw⟩)) (.call (.ref f) ⟨.ref (s.heap.objs.size+1)::vs,kw⟩) (PySem.W.InitBack (s.heap.objs.size+1) R)
     {s with heap:=(s.heap.push PySem.W.emptyDict).push (PySem.W.instObj C s.heap.objs.size)}) :
   codeAny (model prog w) A (.call (.ref C) ⟨vs,kw⟩) R s:=by
 obtain ⟨hh,g,d,t,os⟩:=s;exact PySem.W.make_core (PySem.W.makes_of X hm) (PySem.W.looks_findIn X hi) (fun self=>PySem.W.bind_fn X self hf) (.inl rfl) h
end
noncomputable def ZbZ(f:Str)(v:V):List (Str×V)->List (Str×V)
 | []=>[(f,v)]
 | (g,x)::r=>if g=f then (g,v)::r else (g,x)::ZbZ f v r
theorem ZeQ(f g:Str)(v:V):∀ fs:List (Str×V),(ZbZ f v fs).lookup g=if g=f then some v else fs.lookup g
 | []=>by
   show List.lookup g [(f,v)]=_;by_cases h:g=f
   . have hb:(g==f)=true:=beq_iff_eq.mpr h;simp only [List.lookup,hb,if_pos h]
   . have hb:(g==f)=false:=beq_eq_false_iff_ne.mpr h;simp only [List.lookup,hb,if_neg h]
 | (k,x)::r=>by
   have ih:=ZeQ f g v r;rw [show ZbZ f v ((k,x)::r)=(if k=f then (k,v)::r else (k,x)::ZbZ f v r) from rfl];by_cases hk:k=f
   . rw [if_pos hk];by_cases h:g=k
     . have hb:(g==k)=true:=beq_iff_eq.mpr h;simp only [List.lookup,hb,if_pos (h.trans hk)]
     . have hb:(g==k)=false:=beq_eq_false_iff_ne.mpr h;simp only [List.lookup,hb,if_neg (fun e:g=f=>h (e.trans hk.symm))]
   . rw [if_neg hk];by_cases h:g=k
     . have hb:(g==k)=true:=beq_iff_eq.mpr h;simp only [List.lookup,hb,if_neg (fun e:g=f=>hk (h.symm.trans e))]
     . have hb:(g==k)=false:=beq_eq_false_iff_ne.mpr h;simp only [List.lookup,hb];exact ih
theorem Zev(f:Str)(v:V):∀ fs:List (Str×V),f∈(ZbZ f v fs).map (·.1)/\∀ g,g∈fs.map (·.1)->g∈(ZbZ f v fs).map (·.1)
 | []=>⟨by simp [ZbZ],fun g h=>by simp at h⟩
 | (k,x)::r=>by
   obtain ⟨i1,i2⟩:=Zev f v r;rw [show ZbZ f v ((k,x)::r)=(if k=f then (k,v)::r else (k,x)::ZbZ f v r) from rfl];by_cases hk:k=f
   . rw [if_pos hk];subst hk;exact ⟨by simp,fun g h=>by simpa using h⟩
   . rw [if_neg hk];refine ⟨?_,fun g h=>?_⟩
     . rw [Op];exact Oh _ i1
     . rw [Op] at h ⊢;rcases O2.mp h with e|e
       . exact O2.mpr (.inl e)
       . exact Oh _ (i2 g e)
theorem ZeS(f:Str)(v:V):∀ fs:List (Str×V),(ZbZ f v fs).length<=fs.length+1
 | []=>by simp [ZbZ]
 | (k,x)::r=>by
   have ih:=ZeS f v r;rw [show ZbZ f v ((k,x)::r)=(if k=f then (k,v)::r else (k,x)::ZbZ f v r) from rfl];by_cases hk:k=f
   . rw [if_pos hk,Os,Os];omega
   . rw [if_neg hk,Os,Os];omega
theorem Zen.some_of{v:V}{o:Option Value}(r:Zen (some v) o):∃ u,o=some u/\RelV v u:=by
 cases o with
 | none=>exact (show False from r).elim
 | some u=>exact ⟨u,rfl,r⟩
theorem Zen.none_of{o:Option Value}(r:Zen none o):o=none:=by
 cases o with
 | none=>rfl
 | some u=>exact (show False from r).elim
theorem Zl3{v:V}{u:Value}(r:RelV v u):PySem.W.handedIn u=true:=by
 cases v with
 | non=>cases (show u=Value.none from r);rfl
 | bl b=>cases (show u=Value.bool b from r);rfl
 | int i=>obtain ⟨t,e⟩:=(show ∃ t,u=Value.int i t from r);cases e;rfl
 | str x=>obtain ⟨t,e⟩:=(show ∃ t,u=Value.str x t from r);cases e;rfl
 | byt b=>obtain ⟨t,e⟩:=(show ∃ t,u=Value.bytes b t from r);cases e;rfl
 | flt b=>obtain ⟨t,e⟩:=(show ∃ t,u=Value.float b t from r);cases e;rfl
 | ref a=>cases (show u=Value.ref a from r);rfl
 | ty n=>cases (show u=Value.type n from r);rfl
section
variable {P:Program}{w:World}{H H':Hp}{h h':Heap}{a C dx:Addr}{fs fs':List (Str×V)}
theorem Zhu(hok:HOk P w H h)(e:H a=some (.ins C dx fs)):∃ mA,ObjM h a dx C mA/\(∀ f,Zen (fs.lookup f) (mA f))/\PySem.Within mA (fs.map (·.1))/\fs.length<=1000/\H dx=some (.own a):=by
 obtain ⟨d,z,ne,ob,mA,n,r,q⟩:=(show Zak P w H h a (.ins C dx fs) from hok a _ e)
 exact ⟨mA,⟨ob,n,ne⟩,r,q,z,d⟩
end
structure Cls(K:PySem.W.Frag)(C:Addr):Prop where
 pg:PySem.W.plainGet K C Str.empty=true
 hd:PySem.W.hasDictIn K C=true
 po:PySem.W.plainOver K C=true
 sa:PySem.W.findIn K (.ref C) "__setattr__" = some (some (.builtin "object.__setattr__"))
theorem Cls.get{K:PySem.W.Frag}{C:Addr}(c:Cls K C)(f:Str):PySem.W.plainGet K C f=true:=c.pg
noncomputable def ZaQ(K:PySem.W.Frag)(C:Addr)(f:Str):Prop:=PySem.W.findIn K (.ref C) f=some none
theorem ZaQ.taker{K:PySem.W.Frag}{C:Addr}{f:Str}(n:ZaQ K C f):PySem.W.takerIn K C f=some none:=by
 unfold PySem.W.takerIn;rw [show PySem.W.findIn K (.ref C) f=some none from n];rfl
structure Meth(K:PySem.W.Frag)(C:Addr)(m:Str)(f:Addr):Prop where
 at_:PySem.W.findIn K (.ref C) m=some (some (.ref f))
 fn:PySem.W.isFn K (.ref f)=true
 kp:PySem.W.keepIn K (.ref f)=true
section
variable {X:Cx}{pins:List (Addr×Obj)}{Z:St}{H:Hp}{s:Shared}{a C dx:Addr}{fs:List (Str×V)}{f:Str}{v:V}{A:Around}{E:Value->Shared->Prop}
theorem Zf0{b:Bool}{Q:Value->Shared->Prop}(I:Inv X pins Z H s)(e:H a=some (.ins C dx fs))(c:Cls X.K C)(n:ZaQ X.K C f)(l:fs.lookup f=some v)
   (h:∀ u s',Inv X pins Z H s'->RelV v u->Q u s'):wpAny (model X.prog X.w) A (getAttr (.ref a) f b) Q E s:=by
 obtain ⟨mA,O_,r,_,_,_⟩:=Zhu I.hok e;obtain ⟨u,hu,ru⟩:=Zen.some_of (v:=v) (o:=mA f) (by rw [<- l];exact r f);exact ZpR I.kIn O_ (c.get f) c.hd n hu (Zl3 ru) (h u _ (I.tok _) ru)
theorem ZfZ{m:Str}{g:Addr}{pl:Sem Bool}{Q:Value×List Value->Shared->Prop}(I:Inv X pins Z H s)(e:H a=some (.ins C dx fs))(c:Cls X.K C)(k:Meth X.K C m g)(l:fs.lookup m=none)
   (h:Q (.ref g,[.ref a]) s):wpAny (model X.prog X.w) A (getMethod (.ref a) m pl) Q E s:=by
 obtain ⟨mA,O_,r,_,_,_⟩:=Zhu I.hok e;have hn:mA m=none:=Zen.none_of (by rw [<- l];exact r m);exact ZnN I.kIn O_ (c.get m) k.at_ k.fn hn h
theorem Zfs{y:V}{u:Value}{Q:Unit->Shared->Prop}(I:Inv X pins Z H s)(e:H a=some (.ins C dx fs))(c:Cls X.K C)(n:ZaQ X.K C f)(hl:fs.length<1000)(ry:RelV y u)
   (h:∀ s',Inv X pins Z (upd H a (.ins C dx (ZbZ f y fs))) s'->Q () s'):wpAny (model X.prog X.w) A (setAttr (.ref a) f u) Q E s:=by
 obtain ⟨mA,O_,r,wi,_,ho⟩:=Zhu I.hok e;have hz:(fs.map (·.1)).length<=sizeLine:=by rw [List.length_map,sizeLine_eq];omega
 refine ZoL I.kIn O_ c.sa c.po n.taker c.hd wi hz fun h' O' sb=>h _ ?_;have hd:∃ o,h'.get? dx=some o:=let ⟨o,_,_,e',_⟩:=O'.ns;⟨o,e'⟩;refine I.write (x:=a) (e:=dx) (by rw [e];exact True.intro) (.inr ho) (fun b q hb z=>(sb.2 b hb).trans z) hd ?_;refine ⟨by rw [Zg O_.ne];exact ho,?_,O_.ne,O'.obj,_,O'.ns,fun g=>?_,fun g hg=>?_⟩
 . have:=ZeS f y fs;omega
 . show Zen ((ZbZ f y fs).lookup g) (if g=f then some u else mA g);rw [ZeQ];by_cases q:g=f
   . rw [if_pos q,if_pos q];exact ry
   . rw [if_neg q,if_neg q];exact r g
 . by_cases q:g=f
   . rw [q];exact (Zev f y fs).1
   . refine (Zev f y fs).2 g (wi g fun z=>hg ?_);show (if g=f then some u else mA g)=none;rw [if_neg q];exact z
theorem Inv.made(I:Inv X pins Z H s):Inv X pins Z (upd (upd H s.heap.objs.size (.own (s.heap.objs.size+1))) (s.heap.objs.size+1) (.ins C s.heap.objs.size []))
   {s with heap:=(s.heap.push PySem.W.emptyDict).push (PySem.W.instObj C s.heap.objs.size)}:=by
 have e1:(s.heap.push PySem.W.emptyDict).get? s.heap.objs.size=some PySem.W.emptyDict:=Oj s.heap rfl;have e2:((s.heap.push PySem.W.emptyDict).push (PySem.W.instObj C s.heap.objs.size)).get? (s.heap.objs.size+1)=some (PySem.W.instObj C s.heap.objs.size):=by
   have:=Oj (s.heap.push PySem.W.emptyDict) (o:=PySem.W.instObj C s.heap.objs.size) rfl
   rwa [Heap.size_push] at this
 have e3:(s.heap.push PySem.W.emptyDict).Ns s.heap.objs.size (fun _=>none):=⟨PySem.W.emptyDict,#[],_,e1,rfl,(fun e he=>absurd he (by simp)),fun _=>rfl⟩
 have I1:=I.laid (a:=s.heap.objs.size) (o:=.own (s.heap.objs.size+1)) (h':=s.heap.push PySem.W.emptyDict) (t':=s.toks) (fun b u q=>Od _ q) (Oq _) ⟨_,e1⟩;refine I1.laid (a:=s.heap.objs.size+1) (o:=.ins C s.heap.objs.size []) (t':=s.toks) (fun b u q=>Od _ q) (Nat.le_of_eq (Heap.size_push _ _)) ?_;have ne:s.heap.objs.size≠s.heap.objs.size+1:=Ou (OH _);refine ⟨by rw [Zg ne,Zi],Nat.zero_le _,ne,e2,fun _=>none,(Heap.Ns1.of_empty e3).at fun o q=>Od _ q,fun _=>True.intro,fun y hy=>absurd rfl hy⟩
theorem Zqm{prog:Program}{w:World}{env:Env}{e:Expr}{f:Str}{pos:Pos}{s:Shared}{Q:Value->Shared->Prop}(hb:attributeBase e f env (eval e env)=eval e env)
   (h:wpAny (model prog w) A (eval e env) (fun o s₁=>wpAny (model prog w) A (getAttr o f true) Q E s₁) E s):wpAny (model prog w) A (eval (.Attribute e f pos) env) Q E s :=
 Attribute_any_ h (by rw [arm_eval_Attribute,hb])
end
noncomputable def Zu6(K:PySem.W.Frag)(ta:TE)(f:Str):TE:=fun Z H Q=>ta Z H fun x H1=>∃ a C dx fs v,x=.ref a/\H1 a=some (.ins C dx fs)/\Cls K C/\ZaQ K C f/\fs.lookup f=some v/\Q v H1
noncomputable def Zvd(K:PySem.W.Frag)(ta tv:TE)(f:Str):TS:=fun D Z H=>tv Z H fun y H1=>ta Z H1 fun x H2=>∃ a C dx fs,x=.ref a/\H2 a=some (.ins C dx fs)/\Cls K C/\ZaQ K C f/\fs.length<1000 /\
 D.nx Z (upd H2 a (.ins C dx (ZbZ f y fs)))
noncomputable def ZuH(X:Cx)(op:Operator)(rd:V->V->Hp->VK->Prop):Prop :=
 ∀ (pins:List (Addr×Obj)) (s:Shared) (Z:St) (H:Hp) (x y:V) (u v:Value) (Q:VK),Inv X pins Z H s->RelV x u->RelV y v->rd x y H Q->wpAny (model X.prog X.w) X.A (inplaceOp op u v) (EP X pins Z Q) X.xe s
noncomputable def ZoN(K:PySem.W.Frag)(ta tv:TE)(rd:V->V->Hp->VK->Prop)(f:Str):TS:=fun D Z H=>ta Z H fun x H1=>∃ a C dx fs v,x=.ref a/\H1 a=some (.ins C dx fs)/\Cls K C/\ZaQ K C f/\fs.lookup f=some v /\
 tv Z H1 fun y H2=>rd v y H2 fun z H3=>∃ dx' fs',H3 a=some (.ins C dx' fs')/\fs'.length<1000/\D.nx Z (upd H3 a (.ins C dx' (ZbZ f z fs')))
section
variable {X:Cx}{o e value:Expr}{f:Str}{pos pos' tpos:Pos}{ta tv:TE}
theorem ZrP(he:PE X e ta)(hb:attributeBase e f X.env (eval e X.env)=eval e X.env):PE X (.Attribute e f pos) (Zu6 X.K ta f):=by
 intro pins s Z H Q I h;refine Zqm hb (thn (he pins s Z H _ I h) fun u s1 ⟨x,H1,I1,rx,a,C,dx,fs,v,ex,ea,c,n,l,q⟩=>?_);subst ex;obtain rfl:u=Value.ref a:=rx;exact Zf0 I1 ea c n l fun u' s2 I2 ru=>⟨v,H1,I2,ru,q⟩
theorem ZrD(ha:PE X o ta)(hv:PE X value tv)(hs:swapsWith value (some (.Attribute o f pos')) pos.line X.env=pure false):PS X (.Assign [.Attribute o f pos'] value pos) (Zvd X.K ta tv f):=by
 intro pins s Z H D I h;refine plainObj_wpAny_Assign_Attribute (thn (hv pins s Z H _ I h) fun u s1 ⟨y,H1,I1,ry,q⟩=>thn (ha pins s1 Z H1 _ I1 q) fun ov s2 ⟨x,H2,I2,rx,a,C,dx,fs,ex,ea,c,n,l,q2⟩=>?_) hs;subst ex;obtain rfl:ov=Value.ref a:=rx;exact Zfs I2 ea c n l ry fun s3 I3=>⟨Z,_,I3,q2⟩
theorem ZlC{op:Operator}{rd:V->V->Hp->VK->Prop}(ha:PE X o ta)(hv:PE X value tv)(hop:ZuH X op rd):PS X (.AugAssign (.Attribute o f tpos) op value pos) (ZoN X.K ta tv rd f):=by
 intro pins s Z H D I h;refine wpAny_AugAssign_AttributeAny (thn (ha pins s Z H _ I h) fun ov s1 ⟨x,H1,I1,rx,a,C,dx,fs,v,ex,ea,c,n,l,q⟩=>?_);subst ex;obtain rfl:ov=Value.ref a:=rx;refine Zf0 I1 ea c n l fun u s2 I2 ru=>thn (hv pins s2 Z H1 _ I2 q) fun w3 s3 ⟨y,H2,I3,ry,q3⟩=>thn (hop pins s3 Z H2 v y u w3 _ I3 ru ry q3) fun w4 s4 ⟨z,H3,I4,rz,dx',fs',ea',l',q4⟩=>?_;exact Zfs I4 ea' c n l' rz fun s5 I5=>⟨Z,_,I5,q4⟩
noncomputable def ZtD:V->V->Hp->VK->Prop:=fun x y H Q=>∃ i j,x=.int i/\y=.int j/\Q (.int (i+j)) H
theorem Zsr:ZuH X .Add ZtD:=by
 rintro pins s Z H x y u v Q I rx ry ⟨i,j,rfl,rfl,q⟩;obtain ⟨t,rfl⟩:=(show ∃ t,u=Value.int i t from rx)
 obtain ⟨t',rfl⟩:=(show ∃ t',v=Value.int j t' from ry)
 exact PyProof.Rows.iadd_int ⟨.int (i+j),H,I.tok _,⟨_,rfl⟩,q⟩
end
end L2
namespace L2
open PySem PySem.Spec PyProof.Rows
structure Room(k:Nat)(A:Around):Prop where
 hd:A.handled=none
 dp:A.depth+k+5<recursionLimit
 un:A.units+4 * k+1300<cLine
theorem Room.mono{j k:Nat}{A:Around}(r:Room k A)(h:j<=k):Room j A:=⟨r.hd,by have:=r.dp;omega,by have:=r.un;omega⟩
theorem Room.deeper{k:Nat}{A:Around}(r:Room (k+1) A)(env:Env):Room k (A.deeper env) :=
 ⟨r.hd,by have:=r.dp;show A.depth+1+k+5<_;omega,by have:=r.un;show A.units+3+4 * k+1300<_;omega⟩
theorem Zjy {A:Around}{C:Addr}{us:List Value}{kw:List (Str×Value)}:(A.under (.builtin "type.__call__" ⟨.ref C::us,kw⟩)).depth=A.depth+1:=by
 first|rfl|simp [Around.under,Code.weight,Code.isCreation,Code.isGuard,Code.isCaller,Code.frames,Code.isFrame,guardIds]
theorem Zjx {A:Around}{C:Addr}{us:List Value}{kw:List (Str×Value)}:(A.under (.builtin "type.__call__" ⟨.ref C::us,kw⟩)).units=A.units+1:=by
 first|rfl|simp [Around.under,Code.cUnits,Code.frames,Code.isFrame]
theorem Room.make {k:Nat}{A:Around} (r:Room (k+1) A) (C:Addr) (us:List Value) (kw:List (Str×Value)):Room k (A.under (.builtin "type.__call__" ⟨.ref C::us,kw⟩)) :=
 ⟨r.hd,by have:=r.dp;rw [Zjy];omega,by have:=r.un;rw [Zjx];omega⟩
theorem Room.depth{k:Nat}{A:Around}(r:Room k A):A.depth<recursionLimit:=by have:=r.dp;omega
noncomputable def Zrf:TA:=fun _ H Q=>Q [] H
noncomputable def Ztk(ta:TE)(tr:TA):TA:=fun Z H Q=>ta Z H fun x H1=>tr Z H1 fun xs H2=>Q (x::xs) H2
section
variable {X:Cx}{e:Expr}{es:List Expr}{te:TE}{t:TA}{pos:Pos}
theorem ZfL:PA X [] Zrf:=fun _ _ _ _ H Q I h=>Calls.spliced_nil ⟨[],H,I,.nil,h⟩
theorem Zd5(ha:PE X e te)(hr:PA X es t)(hs:starEach (e::es) X.env=(false,eval e X.env)::starEach es X.env:=by rfl):PA X (e::es) (Ztk te t):=by
 intro pos pins s Z H Q I h;rw [hs];show wpAny _ _ (spliced ((false,eval e X.env)::backTo pos (starEach es X.env))) _ _ s;refine Calls.spliced_cons (thn (ha pins s Z H _ I h) fun u s1 ⟨x,H1,I1,r1,q1⟩=>?_);exact thn (hr pos pins s1 Z H1 _ I1 q1) fun us s2 ⟨xs,H2,I2,r2,q2⟩=>⟨x::xs,H2,I2,.cons r1 r2,q2⟩
noncomputable def ZuY(t:TA):TE:=fun Z H Q=>t Z H fun xs H1=>xs.length<=sizeLine/\∀ p,H1 p=none->Q (.ref p) (upd H1 p (.tup xs))
noncomputable def Zu3(t:TA):TE:=fun Z H Q=>t Z H fun xs H1=>xs.length<=sizeLine/\∀ p,H1 p=none->Q (.ref p) (upd H1 p (.lst xs))
theorem ZrL{x1}(h:PA X es t):PE X (.Tuple es x1 pos) (ZuY t):=by
 intro pins s Z H Q I hq;refine wpAny_Tuple_spliced (thn (h pos pins s Z H _ I hq) fun us s1 ⟨xs,H1,I1,r,z,q⟩=>⟨by rw [<- r.length];exact z,?_⟩);have hf:H1 s1.heap.objs.size=none:=I1.hok.fresh (Oq _);refine ⟨.ref s1.heap.objs.size,upd H1 s1.heap.objs.size (.tup xs),I1.laid (t':=s1.toks) (fun b u e=>Od _ e) (Oq _) ?_,rfl,q _ hf⟩;exact ⟨z,us,r,⟨_,Oj _ rfl,rfl,rfl,_,rfl⟩⟩
theorem ZrO(h:PA X es t):PE X (.List es pos) (Zu3 t):=by
 intro pins s Z H Q I hq;refine wpAny_List_spliced (thn (h pos pins s Z H _ I hq) fun us s1 ⟨xs,H1,I1,r,z,q⟩=>⟨by rw [<- r.length];exact z,?_⟩);have hf:H1 s1.heap.objs.size=none:=I1.hok.fresh (Oq _);refine ⟨.ref s1.heap.objs.size,upd H1 s1.heap.objs.size (.lst xs),I1.laid (t':=s1.toks) (fun b u e=>Od _ e) (Oq _) ?_,rfl,q _ hf⟩;exact ⟨z,us,0,r,Oj _ rfl⟩
end
noncomputable abbrev Sp:=List V->Hp->VK->XK->Prop
noncomputable abbrev CXT:=List Env->Hp->Shared->XK->Value->Shared->Prop
structure Env0(P:Program)(w:World)(K:PySem.W.Frag)(mg:Str->Option Value)(base:Heap)(A:Around)(outer:List Env)(s:Shared)(H:Hp):Prop where
 frames:A.frames=some outer
 mod:Mod K mg base
 bs:∀ b o,base.get? b=some o->s.heap.get? b=some o/\H b=none
 bsz:base.objs.size<=s.heap.objs.size
 funs:s.heap.FunFrames base outer
 frf:∀ b∈frs outer,H b=none
 hok:HOk P w H s.heap
 bare:AllBare s.gens
noncomputable def CE(outer:List Env)(P:Program)(w:World)(H:Hp)(s:Shared)(Q:VK)(u:Value)(s':Shared):Prop :=
 ∃ v H',s'.os=s.os/\AllBare s'.gens/\Un (frs outer) [] H H' s.heap s'.heap/\HOk P w H' s'.heap/\RelV v u/\Q v H'
noncomputable def CR(CX:CXT)(outer:List Env)(P:Program)(w:World)(H:Hp)(s:Shared)(Q:VK)(E:XK)(r:Result)(s':Shared):Prop :=
 match r with
 | .ok (.ret u)=>CE outer P w H s Q u s'
 | .ok _=>False
 | .error e=>CX outer H s E e s'
structure FnOk(P:Program)(w:World)(K:PySem.W.Frag)(mg:Str->Option Value)(base:Heap)(CX:CXT)(k:Nat)(f:Addr)(fd:FuncData)(ps:List Str)(sp:Sp):Prop where
 len:∀ vs H Q E,sp vs H Q E->vs.length=ps.length
 run:∀ (A:Around) (outer:List Env) (s:Shared) (H:Hp) (args:Args) (us:List Value) (vs:List V) (Q:VK) (E:XK),Room k A->Env0 P w K mg base A outer s H->BindsTo s fd args (ps.zip us)->Zm vs us->sp vs H Q E ->
   codeAny (model P w) A (.call (.ref f) args) (CR CX outer P w H s Q E) s
theorem FnOk.imp{P:Program}{w:World}{K:PySem.W.Frag}{mg:Str->Option Value}{base:Heap}{CX:CXT}{k:Nat}{f:Addr}{fd:FuncData}{ps:List Str}{sp sp':Sp}(F:FnOk P w K mg base CX k f fd ps sp)
   (h:∀ vs H Q E,sp' vs H Q E->sp vs H Q E):FnOk P w K mg base CX k f fd ps sp' :=
 ⟨fun vs H Q E q=>F.len vs H Q E (h _ _ _ _ q),fun A outer s H args us vs Q E hr he hb hv hs=>F.run A outer s H args us vs Q E hr he hb hv (h _ _ _ _ hs)⟩
theorem Env0.make{P:Program}{w:World}{K:PySem.W.Frag}{mg:Str->Option Value}{base:Heap}{A:Around}{outer:List Env}{s:Shared}{H:Hp}(e:Env0 P w K mg base A outer s H)(C:Addr)(us:List Value)(kw:List (Str×Value)) :
   Env0 P w K mg base (A.under (.builtin "type.__call__" ⟨.ref C::us,kw⟩)) outer s H:=⟨by first|exact e.frames|(simpa [Around.under,Code.envs,Code.isFrame,pushEnvs] using e.frames),e.mod,e.bs,e.bsz,e.funs,e.frf,e.hok,e.bare⟩
section
variable {X:Cx}{pins:List (Addr×Obj)}{Z:St}{H:Hp}{s s':Shared}
theorem Inv.env0(I:Inv X pins Z H s):Env0 X.prog X.w X.K X.mg X.base X.A X.stack s H :=
 ⟨I.ok.frames,I.ok.mod,I.bs,OE I.ok.bsz I.sz,I.stack,I.stkFree,I.hok,I.bare⟩
theorem Inv.after{Q:VK}{u:Value}(I:Inv X pins Z H s)(h:CE X.stack X.prog X.w H s Q u s'):EP X pins Z Q u s':=by
 obtain ⟨v,H',os,bare,un,hok,r,q⟩:=h;obtain ⟨hh,g,d,t,os'⟩:=s';obtain rfl:os'=s.os:=os;exact ⟨v,H',I.call (h':=hh) (g':=g) (d':=d) (t':=t) (ch:=[]) un hok bare (fun b z=>absurd z (by simp)),r,q⟩
end
noncomputable def Ztl(sp:Sp)(dvs:List V)(E:XK)(t:TA):TE:=fun Z H Q=>t Z H fun vs H1=>sp (vs++dvs) H1 Q E
noncomputable def Zqu(C:Addr)(m:Str)(sp:Sp)(dvs:List V)(E:XK)(ta:TE)(t:TA):TE:=fun Z H Q=>ta Z H fun x H1=>∃ a dx fs,x=.ref a/\H1 a=some (.ins C dx fs)/\fs.lookup m=none /\
 t Z H1 fun vs H2=>sp (x::(vs++dvs)) H2 Q E
noncomputable def Zqv(C:Addr)(sp:Sp)(dvs:List V)(E:XK)(t:TA):TE:=fun Z H Q=>t Z H fun vs H1=>∀ x dx,H1 x=none->H1 dx=none->dx≠x ->
 sp (.ref x::(vs++dvs)) (upd (upd H1 dx (.own x)) x (.ins C dx [])) (fun v H2=>v=.non/\Q (.ref x) H2) E
noncomputable def Binds(K:PySem.W.Frag)(fd:FuncData)(ps:List Str)(ds:List Value):Prop :=
 ∀ (s:Shared) (us:List Value),K.In s.heap->(us++ds).length=ps.length->BindsTo s fd ⟨us,[]⟩ (ps.zip (us++ds))
theorem Binds.all{K:PySem.W.Frag}{fd:FuncData}{ps:List Str}(h:∀ us:List Value,us.length=ps.length->bindArgs fd ⟨us,[]⟩=pure (ps.zip us)):Binds K fd ps []:=fun s us _ hl=>by
 rw [List.append_nil] at hl ⊢;exact .of_eq (h us hl)
noncomputable def ZbM(CX:CXT)(X:Cx)(E:XK):Prop:=∀ (pins:List (Addr×Obj)) (Z:St) (H:Hp) (s:Shared) (e:Value) (s':Shared),Inv X pins Z H s->CX X.stack H s E e s'->X.xe e s'
section
variable {X:Cx}{CX:CXT}{k:Nat}{f C:Addr}{fd:FuncData}{ps:List Str}{sp:Sp}{dvs:List V}{ds:List Value}{E:XK}{x m:Str}{p pos apos:Pos}{e o:Expr}{es:List Expr}{ta:TE}{t:TA}
theorem Zjf{pins:List (Addr×Obj)}{Z:St}{H:Hp}{s:Shared}{Q:VK}{us:List Value}{vs:List V}(F:FnOk X.prog X.w X.K X.mg X.base CX k f fd ps sp)(hr:Room k X.A)(hb:Binds X.K fd ps ds)(hd:Zm dvs ds)(hx:ZbM CX X E)
   (I:Inv X pins Z H s) (r:Zm vs us) (h:sp (vs++dvs) H Q E):wpAny (model X.prog X.w) X.A (call (.ref f) us) (EP X pins Z Q) X.xe s:=by
 have r2:Zm (vs++dvs) (us++ds):=r.append hd;have hl:(us++ds).length=ps.length:=by rw [<- r2.length];exact F.len _ _ _ _ h
 refine wpAny_call (codeAny_mono (F.run X.A X.stack s H ⟨us,[]⟩ (us++ds) (vs++dvs) Q E hr I.env0 (hb s us I.kIn hl) r2 h) fun r s' hq=>?_);cases r with
 | error e=>exact hx pins Z H s e s' I hq
 | ok fl =>
   cases fl with
   | ret u=>exact I.after hq
   | next=>exact False.elim hq
   | brk=>exact False.elim hq
   | cont=>exact False.elim hq
theorem Zph(F:FnOk X.prog X.w X.K X.mg X.base CX k f fd ps sp)(hr:Room k X.A)(hg:Gl X x)(hm:X.mg x=some (.ref f))(hk:PySem.W.keepIn X.K (.ref f)=true)(hb:Binds X.K fd ps ds)(hd:Zm dvs ds)(hx:ZbM CX X E)
   (ha:PA X (e::es) t) (hdb:(x==("__debug__" : Str))=false:=by decide) (he:starEach (e::es) X.env=(false,eval e X.env)::starEach es X.env:=by rfl) (hpl:(backTo pos (starEach es X.env)).any (·.1)=false:=by rfl) :
   PE X (.Call (.Name x p) (e::es) [] pos) (Ztl sp dvs E t):=by
 intro pins s Z H Q I h;refine wpAny_Call_Name_kw (Zcs I hg hm ?_ hdb);refine PySem.W.callWith_K (h₀:=X.base) I.ok.mod.kin hk (thn (ha pos pins s Z H _ I h) fun us s1 ⟨vs,H1,I1,r,q⟩=>⟨I1.kIn,?_⟩) he hpl;exact Zjf F hr hb hd hx I1 r q
theorem Zpb{pl:Sem Bool}(he:PE X o ta)(c:Cls X.K C)(hm:Meth X.K C m f)(F:FnOk X.prog X.w X.K X.mg X.base CX k f fd ps sp)(hr:Room k X.A)(hb:Binds X.K fd ps ds)(hd:Zm dvs ds)(hx:ZbM CX X E)(ha:PA X (e::es) t)
   (hst:starEach (e::es) X.env=(false,eval e X.env)::starEach es X.env:=by rfl) (hpl:(backTo pos (starEach es X.env)).any (·.1)=false:=by rfl)
   (ht:eval (.Call (.Attribute o m apos) (e::es) [] pos) X.env=(do
     let ov <- eval o X.env
     standAt apos.atName
     let (f,first) <- holding [ov] (getMethod ov m pl)
     callWith pos f first (backTo pos (starEach (e::es) X.env)) (backToKw pos (keywordEach [] X.env))):=by rfl) :
   PE X (.Call (.Attribute o m apos) (e::es) [] pos) (Zqu C m sp dvs E ta t):=by
 intro pins s Z H Q I h;refine PySem.W.methodCall_KW (pl:=pl) (thn (he pins s Z H _ I h) fun u s1 ⟨x,H1,I1,rx,a,dx,fs,ex,ea,l,q⟩=>?_) ht;subst ex;obtain rfl:u=Value.ref a:=rx;refine ZfZ I1 ea c hm l ?_;refine PySem.W.callWith_K (first:=[.ref a]) (h₀:=X.base) I.ok.mod.kin hm.kp (thn (ha pos pins s1 Z H1 _ I1 q) fun us s2 ⟨vs,H2,I2,r,q2⟩=>⟨I2.kIn,?_⟩) hst hpl;exact Zjf (us:=.ref a::us) (vs:=.ref a::vs) F hr hb hd hx I2 (.cons rfl r) q2
theorem Zm4{pl:Sem Bool}(he:PE X o ta)(c:Cls X.K C)(hm:Meth X.K C m f)(F:FnOk X.prog X.w X.K X.mg X.base CX k f fd ps sp)(hr:Room k X.A)(hb:Binds X.K fd ps ds)(hd:Zm dvs ds)(hx:ZbM CX X E)
   (ht:eval (.Call (.Attribute o m apos) [] [] pos) X.env=(do
     let ov <- eval o X.env
     standAt apos.atName
     let (f,first) <- holding [ov] (getMethod ov m pl)
     callWith pos f first (backTo pos (starEach [] X.env)) (backToKw pos (keywordEach [] X.env))):=by rfl) :
   PE X (.Call (.Attribute o m apos) [] [] pos) (Zqu C m sp dvs E ta Zrf):=by
 intro pins s Z H Q I h;refine PySem.W.methodCall_KW (pl:=pl) (thn (he pins s Z H _ I h) fun u s1 ⟨x,H1,I1,rx,a,dx,fs,ex,ea,l,q⟩=>?_) ht;subst ex;obtain rfl:u=Value.ref a:=rx;refine ZfZ I1 ea c hm l ?_;exact PySem.W.callWith_K0 (first:=[.ref a]) I1.kIn hm.kp (Zjf (us:=[.ref a]) (vs:=[.ref a]) F hr hb hd hx I1 (.cons rfl .nil) q)
structure Mk(K:PySem.W.Frag)(C f:Addr):Prop where
 makes:PySem.W.makesIn K C=true
 init:PySem.W.findIn K (.ref C) "__init__" = some (some (.ref f))
 fn:PySem.W.isFn K (.ref f)=true
 kp:PySem.W.keepIn K (.ref C)=true
theorem Zh9{pins:List (Addr×Obj)}{Z:St}{H:Hp}{s:Shared}{Q:VK}{us:List Value}{vs:List V}(M:Mk X.K C f)(F:FnOk X.prog X.w X.K X.mg X.base CX k f fd ps sp)(hr:Room (k+1) X.A)(hb:Binds X.K fd ps ds)(hd:Zm dvs ds)
   (hx:ZbM CX X E) (I:Inv X pins Z H s) (r:Zm vs us)
   (h:∀ x dx,H x=none->H dx=none->dx≠x->sp (.ref x::(vs++dvs)) (upd (upd H dx (.own x)) x (.ins C dx [])) (fun v H2=>v=.non/\Q (.ref x) H2) E) :
   wpAny (model X.prog X.w) X.A (call (.ref C) us) (EP X pins Z Q) X.xe s:=by
 have hq:=h (s.heap.objs.size+1) s.heap.objs.size (I.hok.fresh (Nat.le_succ _)) (I.hok.fresh (Oq _)) (Ou (OH _));have I2:=Inv.made (C:=C) I;have r2:Zm (V.ref (s.heap.objs.size+1)::(vs++dvs)) (Value.ref (s.heap.objs.size+1)::(us++ds)):=.cons rfl (r.append hd);have hl:(Value.ref (s.heap.objs.size+1)::us++ds).length=ps.length:=by
   have e:=r2.length;rw [F.len _ _ _ _ hq] at e;exact e.symm
 refine wpAny_call (Znq (f:=f) I.kIn M.makes M.init (beq_iff_eq.mp M.fn) (codeAny_mono (F.run _ X.stack _ _ ⟨Value.ref (s.heap.objs.size+1)::us,[]⟩ (Value.ref (s.heap.objs.size+1)::(us++ds)) _ _ E (hr.make C us [])
   (I2.env0.make C us []) (hb _ (Value.ref (s.heap.objs.size+1)::us) I2.kIn hl) r2 hq) fun r s' hq'=>?_))
 cases r with
 | error e=>exact hx pins Z _ _ e s' I2 hq'
 | ok fl =>
   cases fl with
   | ret u =>
     obtain ⟨v,H',I3,rv,ev,q3⟩:=I2.after hq';subst ev;exact ⟨rv,⟨V.ref (s.heap.objs.size+1),H',I3,rfl,q3⟩⟩
   | next=>exact False.elim hq'
   | brk=>exact False.elim hq'
   | cont=>exact False.elim hq'
theorem Zpd(M:Mk X.K C f)(F:FnOk X.prog X.w X.K X.mg X.base CX k f fd ps sp)(hr:Room (k+1) X.A)(hg:Gl X x)(hm:X.mg x=some (.ref C))(hb:Binds X.K fd ps ds)(hd:Zm dvs ds)(hx:ZbM CX X E)
   (ha:PA X (e::es) t) (hdb:(x==("__debug__" : Str))=false:=by decide) (he:starEach (e::es) X.env=(false,eval e X.env)::starEach es X.env:=by rfl) (hpl:(backTo pos (starEach es X.env)).any (·.1)=false:=by rfl) :
   PE X (.Call (.Name x p) (e::es) [] pos) (Zqv C sp dvs E t):=by
 intro pins s Z H Q I h;refine wpAny_Call_Name_kw (Zcs I hg hm ?_ hdb);refine PySem.W.callWith_K (h₀:=X.base) I.ok.mod.kin M.kp (thn (ha pos pins s Z H _ I h) fun us s1 ⟨vs,H1,I1,r,q⟩=>⟨I1.kIn,?_⟩) he hpl;exact Zh9 M F hr hb hd hx I1 r q
theorem Zm5(M:Mk X.K C f)(F:FnOk X.prog X.w X.K X.mg X.base CX k f fd ps sp)(hr:Room (k+1) X.A)(hg:Gl X x)(hm:X.mg x=some (.ref C))(hb:Binds X.K fd ps ds)(hd:Zm dvs ds)(hx:ZbM CX X E)
   (hdb:(x==("__debug__" : Str))=false:=by decide):PE X (.Call (.Name x p) [] [] pos) (Zqv C sp dvs E Zrf):=by
 intro pins s Z H Q I h;refine wpAny_Call_Name_kw (Zcs I hg hm ?_ hdb);exact PySem.W.callWith_K0 I.kIn M.kp (Zh9 (us:=[]) M F hr hb hd hx I .nil h)
end
structure FnScope(N P:List Str)(sc:Scope):Prop where
 kind:sc.kind=.function
 co:sc.isCoroutine=false
 gen:sc.isGenerator=false
 nd:N.Nodup
 pre:N.take P.length=P
 par:∀ x∈P,sc.names.lookup x=some .local\/sc.names.lookup x=some .cell
 nofree:∀ y∈sc.names,y.2≠.free
theorem ZgP{kindOf:Str->Option NameKind}{x:Str}:∀ {binds:List (Str×Value)}{m:Str->Option Value},(∀ v,(x,v) ∉ binds)->bindL kindOf binds m x=m x
 | [],_,_=>rfl
 | (n,v)::r,m,h=>by
   unfold bindL;rw [ZgP fun w hw=>h w (Oh _ hw)];split
   . have:x≠n:=by rintro rfl;exact h v Oi
     simp [this]
   . rfl
theorem ZgR{kindOf:Str->Option NameKind}{x:Str}:∀ {binds:List (Str×Value)}{m:Str->Option Value},(∀ v,(x,v) ∉ binds)->bindC kindOf binds m x=m x
 | [],_,_=>rfl
 | (n,v)::r,m,h=>by
   unfold bindC;rw [ZgR fun w hw=>h w (Oh _ hw)];split
   . rfl
   . have:x≠n:=by rintro rfl;exact h v Oi
     simp [this]
theorem ZgQ{kindOf:Str->Option NameKind}{x:Str}{v:Value}:∀ {P:List Str}{vs:List Value}{i:Nat}{m:Str->Option Value},P.Nodup->P[i]? = some x->vs[i]? = some v->kindOf x=some .local ->
   bindL kindOf (P.zip vs) m x=some v
 | [],_,_,_,_,h,_,_=>by simp at h
 | _::_,[],_,_,_,_,h,_=>by simp at h
 | p::P,w::vs,0,m,nd,h1,h2,hk=>by
   simp at h1 h2;subst h1;subst h2;show bindL kindOf ((p,w)::P.zip vs) m p=_;unfold bindL;rw [ZgP fun v hv=>(List.nodup_cons.mp nd).1 (List.of_mem_zip hv).1,if_pos hk];simp
 | p::P,w::vs,i+1,m,nd,h1,h2,hk=>by
   show bindL kindOf ((p,w)::P.zip vs) m x=_;unfold bindL;exact ZgQ (i:=i) (List.nodup_cons.mp nd).2 (by simpa using h1) (by simpa using h2) hk
theorem ZgS{kindOf:Str->Option NameKind}{x:Str}{v:Value}:∀ {P:List Str}{vs:List Value}{i:Nat}{m:Str->Option Value},P.Nodup->P[i]? = some x->vs[i]? = some v->kindOf x≠some .local ->
   bindC kindOf (P.zip vs) m x=some v
 | [],_,_,_,_,h,_,_=>by simp at h
 | _::_,[],_,_,_,_,h,_=>by simp at h
 | p::P,w::vs,0,m,nd,h1,h2,hk=>by
   simp at h1 h2;subst h1;subst h2;show bindC kindOf ((p,w)::P.zip vs) m p=_;unfold bindC;rw [ZgR fun v hv=>(List.nodup_cons.mp nd).1 (List.of_mem_zip hv).1,if_neg hk];simp
 | p::P,w::vs,i+1,m,nd,h1,h2,hk=>by
   show bindC kindOf ((p,w)::P.zip vs) m x=_;unfold bindC;exact ZgS (i:=i) (List.nodup_cons.mp nd).2 (by simpa using h1) (by simpa using h2) hk
noncomputable def start(N:List Str)(vs:List V):St:=vs.map some++List.replicate (N.length - vs.length) none
noncomputable def Zj9(CX:CXT)(P:Program)(w:World)(K:PySem.W.Frag)(mg:Str->Option Value)(base:Heap)(N:List Str)(qual:Str)(scope:Scope)(f:Addr)(cd:Value)(A:Around)(outer:List Env)(s:Shared)(H:Hp)(E:XK):Cx where
 prog:=P
 w:=w
 K:=K
 mg:=mg
 base:=base
 A:=A.deeper (envOfC qual scope s.heap.objs.size f cd)
 N:=N
 s₀:=s
 H₀:=H
 env:=envOfC qual scope s.heap.objs.size f cd
 outer:=outer
 stack:=envOfC qual scope s.heap.objs.size f cd::outer
 ex:=[]
 calm:=true
 fn:=fun _=>true
 pn:=[]
 xe:=fun e s'=>wpAny (model P w) (A.deeper (envOfC qual scope s.heap.objs.size f cd)) (leaving (envOfC qual scope s.heap.objs.size f cd) e) (fun _ s''=>CX outer H s E e s'') (fun e' s''=>CX outer H s E e' s'') s'
theorem ZiX{sc:Scope}{n:Nat}{x:Str}(h:sc.names.lookup x=some .cell):∃ c,(cellsFrom n sc.names []).lookup x=some c:=by
 have q:=PySem.W.cellsFrom_some sc.names n [] (.inl h);exact Option.isSome_iff_exists.mp q
theorem Zl1{CX:CXT}{P:Program}{w:World}{K:PySem.W.Frag}{mg:Str->Option Value}{base:Heap}{N ps:List Str}{qual:Str}{scope:Scope}{f:Addr}{cd:Value}{A:Around}{outer:List Env}{s s1:Shared}{H:Hp}{E:XK}{us:List Value}{vs:List V}
   (S_:FnScope N ps scope) (hd:A.handled=none) (e0:Env0 P w K mg base A outer s H) (hl:vs.length=ps.length) (r:Zm vs us)
   (x:InCallC s s.heap.objs.size (bindL (envOfC qual scope s.heap.objs.size f cd).kindOf (ps.zip us) fun _=>none) (cellsFrom (s.heap.objs.size+1) scope.names []) (bindC (envOfC qual scope s.heap.objs.size f cd).kindOf (ps.zip us) fun _=>none) s1) :
   Inv (Zj9 CX P w K mg base N qual scope f cd A outer s H E) [] (start N vs) H s1:=by
 have hpl:ps.length<=N.length:=by have:=congrArg List.length S_.pre;rw [List.length_take] at this;omega
 obtain ⟨h1,tk,rfl,hk⟩:=x.done;have noA:∀ b:Addr,b ∉ (Zj9 CX P w K mg base N qual scope f cd A outer s H E).ex:=fun b z=>absurd (show b∈([]:List Addr) from z) (by simp);refine ⟨⟨e0.mod,S_.kind,rfl,rfl,Oq _,fun y z c h1 h2=>?_,fun y hy=>?_,fun y c _ h=>?_,fun _=>hd,Around.frames_deeper e0.frames,.inr ⟨rfl,rfl⟩,fun b z=>absurd z (noA b),e0.bs,e0.bsz,fun b _ _=>noA b,fun b z=>absurd z (noA b),e0.funs,e0.frf⟩,
   rfl,e0.bare,Un.kept hk,⟨_,x.toInCall.ns,fun i y v h1 h2 h3=>?_⟩,fun y c h=>⟨_,x.cell y c h⟩,e0.hok.fresh (Oq _),fun y c h=>?_,fun p hp=>absurd (show p∈([]:List (Addr×Obj)) from hp) (by simp),e0.hok.kept hk,?_⟩
 . exact name_of_addr x.apart (PySem.mem_of_lookup h1) (PySem.mem_of_lookup h2)
 . have hy:scope.names.lookup y=some .cell\/scope.names.lookup y=some .free:=hy;rcases hy with hy|hy
   . exact ZiX hy
   . exact absurd rfl (S_.nofree _ (PySem.mem_of_lookup hy))
 . exact Nat.le_of_lt (x.above y c (PySem.mem_of_lookup h))
 . have hi:i<vs.length:=by
     unfold start at h2;by_cases hi:i<vs.length
     . exact hi
     . rw [Om (by simpa using hi)] at h2;rw [List.getElem?_replicate] at h2;split at h2<;>cases h2
   have ha:vs[i]? = some v:=by
     unfold start at h2;rw [Oe (by simpa using hi),On] at h2;cases e:vs[i]? with
     | none=>rw [e] at h2;cases h2
     | some a=>rw [e] at h2;cases h2;rfl
   obtain ⟨u,hu,rv⟩:=r.get ha;have hp:ps[i]? = some y:=by
     rw [<- S_.pre,List.getElem?_take_of_lt (by omega)];exact h1
   have ndP:ps.Nodup:=by rw [<- S_.pre];exact S_.nd.sublist (List.take_sublist _ _)
   refine ⟨u,rv,?_⟩;rcases S_.par y (O1 hp) with k|k
   . exact .inl ⟨k,ZgQ ndP hp hu k⟩
   . obtain ⟨c,e⟩:=ZiX (n:=s.heap.objs.size+1) k;refine .inr ⟨.inl k,c,e,?_⟩;have q:=x.cell y c e;rw [ZgS ndP hp hu (by show scope.names.lookup y≠_;rw [k];decide)] at q;exact q
 . exact e0.hok.fresh (Nat.le_of_lt (x.above y c (PySem.mem_of_lookup h)))
 . unfold start;show _=N.length;rw [OA,List.length_map,List.length_replicate];omega
theorem Zum{CX:CXT}{P:Program}{w:World}{K:PySem.W.Frag}{mg:Str->Option Value}{base:Heap}{k:Nat}{f:Addr}{name qual:Str}{params:Arguments}{body:List Stmt}{scope:Scope}{dV kV doc pm cdv ct oc:Value}{an od:Option Addr}
   {osl:Array (Option Value)}{N ps:List Str}{sp:Sp} (lk:K.lookup f=some ⟨oc,od,.func (PySem.W.fnOf name qual params body scope dV kV doc pm an cdv ct),osl⟩) (hcd:PySem.W.codeIn K cdv qual=true) (S_:FnScope N ps scope)
   (len:∀ vs H Q E,sp vs H Q E->vs.length=ps.length)
   (hbody:∀ (A:Around) (outer:List Env) (s:Shared) (H:Hp) (vs:List V) (Q:VK) (E:XK),Room k (A.deeper (envOfC qual scope s.heap.objs.size f cdv))->sp vs H Q E ->
     ∃ t,PSs (Zj9 CX P w K mg base N qual scope f cdv A outer s H E) body t/\t {nx:=fun _ H'=>Q .non H',rt:=Q} (start N vs) H) :
   FnOk P w K mg base CX (k+1) f (PySem.W.fnOf name qual params body scope dV kV doc pm an cdv ct) ps sp:=by
 refine ⟨len,fun A outer s H args us vs Q E hr e0 hb r hsp=>?_⟩;have hl:=len _ _ _ _ hsp;have KX:K.In s.heap:=e0.mod.kin.keeps fun b o e=>(e0.bs b o e).1;have lim:s.heap.NoLimit:=e0.mod.nolimit.keeps fun b o e=>(e0.bs b o e).1;have hkind:∀ y∈ps.zip us,scope.names.lookup y.1=some .local\/(scope.names.lookup y.1=some .cell/\((cellsFrom (s.heap.objs.size+1) scope.names []).lookup y.1).isSome=true):=fun ⟨n,v⟩ hy=>by
   rcases S_.par n (List.of_mem_zip hy).1 with q|q
   . exact .inl q
   . exact .inr ⟨q,PySem.W.cellsFrom_some _ _ _ (.inl q)⟩
 refine codeAny_call_function hr.depth (KX _ _ lk) rfl S_.co S_.gen rfl (PySem.W.codeRec_of KX hcd) (hb _ _ _ _ ?_);refine wpAny_newFunctionEnv_cells S_.kind hkind fun env he s1 x=>?_;subst he;refine ⟨lim.keeps x.toInCall.keep,codeAny_func ?_⟩;obtain ⟨t,ht,hq⟩:=hbody A outer s H vs Q E (hr.deeper _) hsp;have I:Inv (Zj9 CX P w K mg base N qual scope f cdv A outer s H E) [] (start N vs) H s1:=Zl1 S_ hr.hd e0 hl r x;refine wpAny_mono (ht [] s1 (start N vs) H _ I hq) (fun fl s' hs=>?_) fun e s' hs=>hs;have fin:∀ {σ':St}{H':Hp}{v:V}{u:Value},Inv (Zj9 CX P w K mg base N qual scope f cdv A outer s H E) [] σ' H' s'->RelV v u->Q v H'->CE outer P w H s Q u s' :=
   fun {σ' H' v u} J rv q=>⟨v,H',J.os,J.bare,J.base,J.hok,rv,q⟩
 cases fl with
 | ret u =>
   obtain ⟨v,σ',H',J,rv,q⟩:=hs;exact fin J rv q
 | next =>
   obtain ⟨σ',H',J,q⟩:=hs;exact fin (v:=V.non) (u:=Value.none) J rfl q
 | brk =>
   obtain ⟨_,_,_,q⟩:=hs;exact False.elim q
 | cont =>
   obtain ⟨_,_,_,q⟩:=hs;exact False.elim q
end L2
namespace L2
open PySem PySem.Spec PyProof.Rows
section
variable {X:Cx}{x:Str}{p pos:Pos}{e:Expr}{es:List Expr}{t:TA}{id T:String}{r:List V->Hp->VK->Prop}
noncomputable def tCB(r:List V->Hp->VK->Prop)(t:TA):TE:=fun Z H Q=>t Z H fun vs H1=>r vs H1 Q
theorem Zd4 (hc:Zcp X (.builtin id) r) (hg:Gl X x) (hm:X.mg x=none) (hv:bootBuiltins x=some (.builtin id)) (ha:PA X (e::es) t) (hn:x ≠ "__name__" := by decide) (hdb:(x==("__debug__" : Str))=false:=by decide)
   (he:starEach (e::es) X.env=(false,eval e X.env)::starEach es X.env:=by rfl) (hpl:(backTo pos (starEach es X.env)).any (·.1)=false:=by rfl):PE X (.Call (.Name x p) (e::es) [] pos) (tCB r t):=by
 intro pins s Z H Q I h;refine wpAny_Call_Name_kw (ZcU I hg hm hv ?_ hn hdb);exact PyProof.Rows.callWith_builtin1 (thn (ha pos pins s Z H _ I h) fun us s1 ⟨vs,H1,I1,r1,q1⟩=>hc pins s1 Z H1 vs us Q I1 r1 q1) he hpl
theorem ZlH (hc:Zcp X (.type T) r) (hg:Gl X x) (hm:X.mg x=none) (hv:bootBuiltins x=some (.type T)) (ha:PA X (e::es) t) (hn:x ≠ "__name__" := by decide) (hdb:(x==("__debug__" : Str))=false:=by decide)
   (he:starEach (e::es) X.env=(false,eval e X.env)::starEach es X.env:=by rfl) (hpl:(backTo pos (starEach es X.env)).any (·.1)=false:=by rfl):PE X (.Call (.Name x p) (e::es) [] pos) (tCB r t):=by
 intro pins s Z H Q I h;refine wpAny_Call_Name_kw (ZcU I hg hm hv ?_ hn hdb);exact PyProof.Rows.callWith_type1 (thn (ha pos pins s Z H _ I h) fun us s1 ⟨vs,H1,I1,r1,q1⟩=>hc pins s1 Z H1 vs us Q I1 r1 q1) he hpl
end
end L2
namespace HT
open PySem PyProof.Rows
section
variable {prog:Program}{w:World}{A:Around}{E:Value->Shared->Prop}{s:Shared}
theorem Zqd{t b:Addr}{vs ws:List Value}{Q:Value->Shared->Prop}(ht:IsTup s.heap t vs.toArray)(hb:IsTup s.heap b ws.toArray)(hv:vs≠[])
   (h1:ws=[]->Q (.ref t) s) (h2:ws≠[]->Q (.ref s.heap.objs.size) {s with heap:=s.heap.push {cls:=.type "tuple",data:=.seq (vs++ws).toArray}})
   (hsz:vs.length+ws.length<=sizeLine):wpAny (model prog w) A (binaryOp .Add (.ref t) (.ref b)) Q E s:=by
 obtain ⟨⟨cls,dd,data,sl⟩,ho,hc,n,hd⟩:=id ht;obtain ⟨⟨cls2,dd2,data2,sl2⟩,ho2,hc2,n2,hd2⟩:=id hb;simp only at hc hd hc2 hd2;subst hc hd hc2 hd2;have e:vs.toArray++ws.toArray=(vs++ws).toArray:=by simp
 by_cases hw:ws=[]
 . exact concat_meets ⟨_,ho,rfl⟩ ⟨_,ho2,rfl⟩ noFill_tuple_add seq_tuple_add PySem.F.slot_tuple_add PySem.F.entry_tuple_add (PySem.F.args_tuple_add_2 _ _)
     (tuple_addW1 t b vs.toArray ws.toArray n n2 dd dd2 sl sl2 (by simpa using hv) (by simp [hw])) ⟨ho,ho2,h1 hw⟩
 . refine concat_meets ⟨_,ho,rfl⟩ ⟨_,ho2,rfl⟩ noFill_tuple_add seq_tuple_add PySem.F.slot_tuple_add PySem.F.entry_tuple_add (PySem.F.args_tuple_add_2 _ _)
     (tuple_addW2 t b vs.toArray ws.toArray n n2 dd dd2 sl sl2 (by simpa using hv) (by simpa using hw) (by rw [Of,Of];exact hsz)) ⟨ho,ho2,?_⟩
   rw [e];exact h2 hw
noncomputable def sIx(n d:Nat):Option Int->Nat
 | none=>d
 | some v=>if v<0 then (v+(n:Int)).toNat else min v.toNat n
theorem Zro(n d:Nat)(hd:d<=n)(o:Option Int):sIx n d o<=n:=by
 cases o with
 | none=>exact hd
 | some v =>
   show (if v<0 then (v+(n:Int)).toNat else min v.toNat n)<=n;by_cases hv:v<0
   . rw [if_pos hv];omega
   . rw [if_neg hv];exact Nat.min_le_right _ _
theorem Zk8(v:Int)(n d:Nat):(if v<0 then max (v+(n:Int)) 0 else min v (n:Int))=((sIx n d (some v):Nat):Int):=by
 show (if v<0 then max (v+(n:Int)) 0 else min v (n:Int))=(((if v<0 then (v+(n:Int)).toNat else min v.toNat n):Nat):Int)
 by_cases hv:v<0
 . simp only [if_pos hv];omega
 . simp only [if_neg hv];omega
theorem Zkm(lo hi:Option Int)(n:Nat):Builtin.Slice.sliceAdjust lo hi 1 (n:Int)=(((sIx n 0 lo:Nat):Int),((sIx n n hi:Nat):Int)):=by
 have h1:¬ ((1:Int)<0):=by omega
 unfold Builtin.Slice.sliceAdjust;simp only [h1,if_false];refine Prod.ext ?_ ?_
 . cases lo with
   | none=>rfl
   | some v=>exact Zk8 v n 0
 . cases hi with
   | none=>rfl
   | some v=>exact Zk8 v n n
theorem Zjq(i j:Nat):Builtin.Slice.slicePlaces (i:Int) (j:Int) 1=j - i:=by
 unfold Builtin.Slice.slicePlaces;have h1:(1:Int) > 0:=by omega
 simp only [h1,if_true,Int.ediv_one];split<;>omega
theorem Zfq{v:Value}{o:Option Int}{Q:Option Int->Shared->Prop}(p:IsPart v o)(h:Q o s):wpAny (model prog w) A (Builtin.Slice.slicePartIndex v) Q E s:=by
 cases p with
 | none=>exact slicePart_none h
 | int i t=>exact slicePart_int h
theorem Zcb{sl:Addr}{vl vu:Value}{lo hi:Option Int}{n:Nat}{Q:Int×Int×Nat->Shared->Prop}(hs:s.heap.IsSliceOf sl vl vu .none)(pl:IsPart vl lo)(pu:IsPart vu hi)
   (h:Q (((sIx n 0 lo:Nat):Int),1,sIx n n hi - sIx n 0 lo) s):wpAny (model prog w) A (Builtin.Slice.sliceApplied (.ref sl) (pure (n:Int))) Q E s:=by
 obtain ⟨os,hos,hcs,hds⟩:=id hs;unfold Builtin.Slice.sliceApplied Builtin.Slice.sliceFields;refine wpAny_bind (wpAny_bind (wpAny_field hos hds (x:=vl) rfl (wpAny_bind (wpAny_field hos hds (x:=vu) rfl (wpAny_bind (wpAny_field hos hds (x:=.none) rfl (wpAny_pure ?_)))))));refine wpAny_bind (slicePart_none ?_);show wpAny _ _ (if ((1:Int)==0)=true then _ else _) _ _ s;rw [if_neg (by decide)];refine wpAny_bind (Zfq pl (wpAny_bind (Zfq pu (wpAny_bind (wpAny_pure ?_)))));show wpAny _ _ (match Builtin.Slice.sliceAdjust lo hi 1 (n:Int) with|(lo,hi)=>pure (lo,(1:Int),Builtin.Slice.slicePlaces lo hi 1)) _ _ s;rw [Zkm lo hi n];show wpAny _ _ (pure (((sIx n 0 lo:Nat):Int),(1:Int),Builtin.Slice.slicePlaces ((sIx n 0 lo:Nat):Int) ((sIx n n hi:Nat):Int) 1)) _ _ s;rw [Zjq];exact wpAny_pure h
theorem ZmZ(xs:Array Value)(i k:Nat):((List.range k).filterMap fun (m:Nat)=>xs[((i:Int)+(m:Int) * 1).toNat]?).toArray=((xs.toList.drop i).take k).toArray:=by
 have e:(fun (m:Nat)=>xs[((i:Int)+(m:Int) * 1).toNat]?)=fun m=>xs[i+m]? := by
   funext m;have:((i:Int)+(m:Int) * 1).toNat=i+m:=by omega
   rw [this]
 rw [e];have:=pick_run xs i k;rw [List.filterMap_map] at this;have e2:((fun x=>xs[x]?) ∘ fun x=>i+x)=fun m=>xs[i+m]? := rfl;rw [e2] at this;rw [this]
theorem Zed{t sl:Addr}{items:Array Value}{vl vu:Value}{lo hi:Option Int}{Q:Value->Shared->Prop}(ht:IsTup s.heap t items)(hs:s.heap.IsSliceOf sl vl vu .none)(pl:IsPart vl lo)(pu:IsPart vu hi)
   (hw:¬ (sIx items.size 0 lo=0/\sIx items.size items.size hi=items.size))
   (h:Q (.ref s.heap.objs.size) {s with heap:=s.heap.push {cls:=.type "tuple",data:=.seq ((items.toList.drop (sIx items.size 0 lo)).take (sIx items.size items.size hi - sIx items.size 0 lo)).toArray}})
   (hsz:items.size<=sizeLine):wpAny (model prog w) A (getItem (.ref t) (.ref sl)) Q E s:=by
 have htake:sizeOk (.seq ((items.toList.drop (sIx items.size 0 lo)).take (sIx items.size items.size hi - sIx items.size 0 lo)).toArray):=by
   show ((items.toList.drop (sIx items.size 0 lo)).take (sIx items.size items.size hi - sIx items.size 0 lo)).toArray.size<=sizeLine;rw [Of,List.length_take,List.length_drop,Array.length_toList];omega
 have hj:sIx items.size items.size hi<=items.size:=Zro _ _ (Oq _) hi;obtain ⟨os,hos,hcs,hds⟩:=id hs;have hTs:s.TypeIs (.ref sl) "slice" := ⟨os,hos,hcs⟩
 unfold getItem
 try with_reducible refine wpAny_holding ?_
 first|refine wpAny_bind (wpAny_pure ?_)|skip
 refine wpAny_bind (wpAny_sequenceKey ht.typeIs (by decide) ?_);refine wpAny_bind (wpAny_callSpecial?_slot (name:=O "__getitem__") ht.typeIs PyProof.Rows.slot_tuple_getitem
   (wpAny_call_entry PyProof.Rows.slot_tuple_getitem ht.typeIs entry_tuple_getitem ?_ (args_tuple_getitem _ _)))
 show wpAny _ _ (Builtin.Tuple.tupleItemsOf (.ref t) >>= _) _ _ s;refine wpAny_bind (tupleItemsOf_ ht ?_);refine wpAny_bind (wpAny_typeOf hTs ?_);rw [if_pos (by decide)];refine wpAny_bind (Zcb hs pl pu ?_);have hno:¬ ((((sIx items.size 0 lo:Nat):Int)==0&&(1:Int)==1&&(sIx items.size items.size hi - sIx items.size 0 lo)==items.size)=true):=by
   intro q;rw [Oa,Oa] at q;have q1:((sIx items.size 0 lo:Nat):Int)=0:=eq_of_beq q.1.1;have q2:sIx items.size items.size hi - sIx items.size 0 lo=items.size:=eq_of_beq q.2;exact hw ⟨by omega,by omega⟩
 show wpAny _ _ (if (((sIx items.size 0 lo:Nat):Int)==0&&(1:Int)==1&&(sIx items.size items.size hi - sIx items.size 0 lo)==items.size)=true then _ else _) _ _ s;rw [if_neg hno,ZmZ]
 first
   | exact wpAny_bind (m:=Builtin.Tuple.tupleExact _) (wpAny_newObj_type (wpAny_pure ⟨_,rfl,wpAny_pure h⟩) htake)
   | exact wpAny_bind (m:=Builtin.Tuple.tupleExact _) (wpAny_newObj_type (wpAny_bind (wpAny_pure (wpAny_pure ⟨_,rfl,wpAny_pure h⟩))) htake)
   | exact wpAny_bind (wpAny_bind (m:=Builtin.Tuple.tupleExact _) (wpAny_newObj_type (wpAny_pure (wpAny_pure ⟨_,rfl,wpAny_pure h⟩)) htake))
   | exact wpAny_bind (wpAny_bind (m:=Builtin.Tuple.tupleExact _) (wpAny_newObj_type (wpAny_pure ⟨_,rfl,wpAny_pure h⟩) htake))
end
end HT
namespace L2
open PySem PySem.Spec PyProof.Rows
noncomputable abbrev TO:=St->Hp->(Option Int->Hp->Prop)->Prop
noncomputable def PO(X:Cx)(e:Option Expr)(t:TO):Prop :=
 ∀ (pins:List (Addr×Obj)) (s:Shared) (Z:St) (H:Hp) (Q:Option Int->Hp->Prop),Inv X pins Z H s->t Z H Q ->
   wpAny (model X.prog X.w) X.A (evalPart e X.env) (fun u s'=>∃ o H',Inv X pins Z H' s'/\IsPart u o/\Q o H') X.xe s
noncomputable def ZoH:TO:=fun _ H Q=>Q none H
noncomputable def Zte(t:TE):TO:=fun Z H Q=>t Z H fun x H1=>∃ i,x=.int i/\Q (some i) H1
section
variable {X:Cx}{e:Expr}{te:TE}{lo hi:Option Expr}{tl th:TO}{pos p2:Pos}
theorem Zo6:PO X none ZoH:=by
 intro pins s Z H Q I h;rw [evalPart_none];exact wpAny_pure ⟨none,H,I,.none,h⟩
theorem Zo5(h:PE X e te):PO X (some e) (Zte te):=by
 intro pins s Z H Q I hw;rw [evalPart_some];refine thn (h pins s Z H _ I hw) fun u s1 ⟨x,H1,I1,r1,q1⟩=>?_;obtain ⟨i,rfl,q⟩:=q1;obtain ⟨t,rfl⟩:=r1;exact ⟨some i,H1,I1,.int i t,q⟩
noncomputable def SlR(X:Cx)(r:V->Option Int->Option Int->Hp->VK->Prop):Prop :=
 ∀ (pins:List (Addr×Obj)) (s:Shared) (Z:St) (H:Hp) (x:V) (v vl vu:Value) (lo hi:Option Int) (sl:Addr) (Q:VK),Inv X pins Z H s->RelV x v->s.heap.IsSliceOf sl vl vu .none->IsPart vl lo->IsPart vu hi->r x lo hi H Q ->
   ∃ T id,typeLookup (.type T) "__getitem__" = pure (some (.builtin id))/\s.TypeIs v T/\wpAny (model X.prog X.w) X.A (getItem v (.ref sl)) (EP X pins Z Q) X.xe s
noncomputable def tSl(r:V->Option Int->Option Int->Hp->VK->Prop)(te:TE)(tl th:TO):TE:=fun Z H Q=>te Z H fun x H1=>tl Z H1 fun l H2=>th Z H2 fun u H3=>r x l u H3 Q
theorem Zm1{r:V->Option Int->Option Int->Hp->VK->Prop}(hr:SlR X r)(he:PE X e te)(hl:PO X lo tl)(hu:PO X hi th):PE X (.Subscript e (.Slice lo hi none p2) pos) (tSl r te tl th):=by
 intro pins s Z H Q I h;refine Subscript_ (thn (he pins s Z H _ I h) fun v s1 ⟨x,H1,I1,r1,q1⟩=>?_);refine wpAny_Slice (thn (hl pins s1 Z H1 _ I1 q1) fun vl s2 ⟨l,H2,I2,pl,q2⟩=>thn (hu pins s2 Z H2 _ I2 q2) fun vu s3 ⟨u,H3,I3,pu,q3⟩=>?_);rw [evalPart_none];refine wpAny_pure ?_;have I4:Inv X pins Z H3 {s3 with heap:=s3.heap.push {cls:=.type "slice",data:=.fields #[vl,vu,.none]}}:=I3.kept (t':=s3.toks) fun b ob q=>Od _ q;obtain ⟨T,id,hT,ht,hg⟩:=hr pins {s3 with heap:=s3.heap.push {cls:=.type "slice",data:=.fields #[vl,vu,.none]}} Z H3 x v vl vu l u s3.heap.objs.size Q I4 r1 (Heap.IsSliceOf.new ..) pl pu q3;show wpAny (model X.prog X.w) X.A (subscriptTail e (.Slice lo hi none p2) v (.ref s3.heap.objs.size)) (EP X pins Z Q) X.xe {s3 with heap:=s3.heap.push {cls:=.type "slice",data:=.fields #[vl,vu,.none]}};exact tail_any (ops:=[.ref s3.heap.objs.size,v]) ht hT hg (by with_unfolding_all rfl)
noncomputable def ZiQ(xs:List V)(lo hi:Option Int):List V:=(xs.drop (HT.sIx xs.length 0 lo)).take (HT.sIx xs.length xs.length hi - HT.sIx xs.length 0 lo)
theorem ZeU(xs:List V)(lo hi:Option Int):(ZiQ xs lo hi).length<=xs.length:=by
 unfold ZiQ;rw [List.length_take,List.length_drop];omega
noncomputable def Zvj(K:PySem.W.Frag):V->Option Int->Option Int->Hp->VK->Prop:=fun x lo hi H Q=>∃ a xs,x=.ref a/\SqT K H a xs /\
 ¬ (HT.sIx xs.length 0 lo=0/\HT.sIx xs.length xs.length hi=xs.length)/\∀ p,H p=none->Q (.ref p) (upd H p (.tup (ZiQ xs lo hi)))
theorem Zrk:SlR X (Zvj X.K):=by
 intro pins s Z H x v vl vu lo hi sl Q I rx hs pl pu h;obtain ⟨a,xs,rfl,hx,hw,q⟩:=h;cases rx;obtain ⟨its,r,ht,hz⟩:=I.tuple hx;have hlen:its.toArray.size=xs.length:=by rw [Of];exact r.length.symm
 refine ⟨"tuple",_,PyProof.Rows.slot_tuple_getitem.lookup,ht.typeIs,?_⟩;refine HT.Zed ht hs pl pu (by rw [hlen];exact hw) ?_ (by rw [hlen];exact hz);rw [hlen];refine ⟨.ref s.heap.objs.size,_,I.laid (t':=s.toks) (o:=.tup (ZiQ xs lo hi)) (fun b ob q=>Od _ q) (Oq _) ?_,rfl,q _ (I.hok.fresh (Oq _))⟩;exact ⟨OE (ZeU xs lo hi) hz,_,(r.drop (HT.sIx xs.length 0 lo)).take (HT.sIx xs.length xs.length hi - HT.sIx xs.length 0 lo),Zbn.fresh _ _⟩
noncomputable def ZtB(K:PySem.W.Frag):R2:=fun x y H Q=>∃ a b xs ys,x=.ref a/\y=.ref b/\SqT K H a xs/\SqT K H b ys/\xs≠[]/\xs.length+ys.length<=sizeLine /\
 (ys=[]->Q (.ref a) H)/\(ys≠[]->∀ p,H p=none->Q (.ref p) (upd H p (.tup (xs++ys))))
theorem Zm.nil_iff{xs:List V}{us:List Value}(r:Zm xs us):us=[]↔xs=[]:=by
 cases r with
 | nil=>simp
 | cons _ _=>simp
theorem Zpn:OpR X (binaryOp .Add) (ZtB X.K):=by
 intro pins s Z H x y v u Q I rx ry h;obtain ⟨a,b,xs,ys,rfl,rfl,ha,hb,hx,hz,q1,q2⟩:=h;cases rx;cases ry;obtain ⟨its,r1,p1,_⟩:=I.tuple ha;obtain ⟨its2,r2,p2,_⟩:=I.tuple hb;refine HT.Zqd p1 p2 (fun z=>hx (r1.nil_iff.mp z)) (fun z=>⟨.ref a,H,I,rfl,q1 (r2.nil_iff.mp z)⟩) (fun z=>?_) (by rw [<- r1.length,<- r2.length];exact hz);refine ⟨.ref s.heap.objs.size,_,I.laid (t':=s.toks) (o:=.tup (xs++ys)) (fun b ob q=>Od _ q) (Oq _) ?_,rfl,q2 (fun w=>z (r2.nil_iff.mpr w)) _ (I.hok.fresh (Oq _))⟩;exact ⟨by rw [OA];exact hz,_,r1.append r2,Zbn.fresh _ _⟩
end
end L2
namespace L2
open PySem PySem.Spec PyProof.Rows
noncomputable def ixN(n:Nat)(i:Int):Option Nat:=if 0<=i then (if i<n then some i.toNat else none) else if -(n:Int)<=i then some (i+n).toNat else none
noncomputable def atI{α:Type}(xs:List α)(i:Int):Option α:=(ixN xs.length i).bind fun j=>xs[j]?
theorem ZkY{n:Nat}{i:Int}{j:Nat}(h:ixN n i=some j):seqIndex? i n=some j/\j<n/\-(n:Int)<=i/\i<n:=by
 unfold ixN at h;by_cases h0:0<=i
 . rw [if_pos h0] at h;by_cases h1:i<n
   . rw [if_pos h1] at h;have e:i.toNat=j:=Option.some.inj h;exact ⟨by rw [seqIndex_of h0 h1,e],by omega,by omega,h1⟩
   . rw [if_neg h1] at h;cases h
 . rw [if_neg h0] at h;by_cases h1:-(n:Int)<=i
   . rw [if_pos h1] at h;have e:(i+n).toNat=j:=Option.some.inj h;exact ⟨by rw [seqIndex_neg (by omega) h1,e],by omega,h1,by omega⟩
   . rw [if_neg h1] at h;cases h
theorem ZhU{α:Type}{xs:List α}{i:Int}{v:α}(h:atI xs i=some v):∃ j,seqIndex? i xs.length=some j/\xs[j]? = some v/\j<xs.length/\-(xs.length:Int)<=i/\i<xs.length:=by
 unfold atI at h;cases e:ixN xs.length i with
 | none=>rw [e] at h;cases h
 | some j =>
   rw [e] at h;obtain ⟨h1,h2,h3,h4⟩:=ZkY e;exact ⟨j,h1,h,h2,h3,h4⟩
noncomputable def Zle(b:Expr):Prop:=∀ o i,subscripted b false o i=operate [o,i] (getItem o i)
noncomputable def IxR(X:Cx)(r:R2):Prop :=
 ∀ (value slice:Expr) (pins:List (Addr×Obj)) (s:Shared) (Z:St) (H:Hp) (x y:V) (v u:Value) (Q:VK),Inv X pins Z H s->RelV x v->RelV y u->r x y H Q ->
   subscripted slice false v u=operate [v,u] (getItem v u)->wpAny (model X.prog X.w) X.A (subscriptTail value slice v u) (EP X pins Z Q) X.xe s
noncomputable def MtR(X:Cx)(id:String)(r:V->List V->Hp->VK->Prop):Prop :=
 ∀ (pins:List (Addr×Obj)) (s:Shared) (Z:St) (H:Hp) (x:V) (xs:List V) (v:Value) (us:List Value) (Q:VK),Inv X pins Z H s->RelV x v->Zm xs us->r x xs H Q ->
   wpAny (model X.prog X.w) X.A (call (.builtin id) (v::us)) (EP X pins Z Q) X.xe s
section
variable {X:Cx}{a b:Expr}{ta tb:TE}{pos:Pos}
theorem ZtM{r:R2}(hr:IxR X r)(ha:PE X a ta)(hb:PE X b tb)(hs:Zle b):PE X (.Subscript a b pos) (tOp r ta tb):=by
 intro pins s Z H Q I h;exact Subscript_ (ZsI ha hb I h fun v u s2 x y H2 I2 rx ry q=>hr a b pins s2 Z H2 x y v u Q I2 rx ry q (hs _ _))
noncomputable def Zvp(K:PySem.W.Frag):R2:=fun x y H Q=>∃ p xs i v,x=.ref p/\y=.int i/\SqL K H p xs/\atI xs i=some v/\Q v H
noncomputable def Zvn(K:PySem.W.Frag):R2:=fun x y H Q=>∃ p xs i v,x=.ref p/\y=.int i/\SqT K H p xs/\atI xs i=some v/\Q v H
noncomputable def Zvo:R2:=fun x y H Q=>∃ z i c,x=.str z/\y=.int i/\z.length<=sizeLine/\atI z.cps.toList i=some c/\Q (.str ⟨#[c]⟩) H
theorem ZpN:IxR X (Zvp X.K):=by
 intro value slice pins s Z H x y v u Q I rx ry h hs;obtain ⟨p,xs,i,z,rfl,rfl,hq,he,q⟩:=h;cases rx;obtain ⟨t,rfl⟩:=ry;obtain ⟨its,r,pl,hz⟩:=I.list hq;obtain ⟨j,h1,h2,h3,h4,h5⟩:=ZhU he;obtain ⟨w,ew,rw'⟩:=r.get h2;have hl:=r.length;have hn:=Zcr;have fin:EP X pins Z Q w s:=⟨z,H,I,rw',q⟩
 by_cases h0:0<=i
 . have hj:i.toNat=j:=by
     rw [seqIndex_of h0 h5] at h1;exact Option.some.inj h1
   exact item_listR pl.isList h0 (by omega) (by rw [hj];simpa using ew) fin hs
 . have hj:(i+(its.toArray.size:Int)).toNat=j:=by
     rw [seqIndex_neg (by omega) h4] at h1;rw [Of,<- hl];exact Option.some.inj h1
   exact subscriptTail_builtinR (x:=w) pl.isList.typeIs slot_list_getitem.lookup
     (wpAny_getItem_list_neg (Q:=fun r s'=>r=w/\EP X pins Z Q r s') pl.isList (by omega) (by rw [Of]<;>omega) (by omega) (by rw [hj];simpa using ew) ⟨rfl,fin⟩) hs
theorem Zsn:IxR X (Zvn X.K):=by
 intro value slice pins s Z H x y v u Q I rx ry h hs;obtain ⟨p,xs,i,z,rfl,rfl,hq,he,q⟩:=h;cases rx;obtain ⟨t,rfl⟩:=ry;obtain ⟨its,r,pl,hz⟩:=I.tuple hq;obtain ⟨j,h1,h2,h3,h4,h5⟩:=ZhU he;obtain ⟨w,ew,rw'⟩:=r.get h2;have hl:=r.length;have hn:=Zcr;have fin:EP X pins Z Q w s:=⟨z,H,I,rw',q⟩
 exact subscriptTail_builtinR (x:=w) pl.typeIs slot_tuple_getitem.lookup
   (getItem_tuple (j:=j) (Q:=fun r s'=>r=w/\EP X pins Z Q r s') pl (by omega) (by omega) (by rw [Of,<- hl];exact h1) (by simpa using ew) ⟨rfl,fin⟩) hs
theorem Zso:IxR X Zvo:=by
 intro value slice pins s Z H x y v u Q I rx ry h hs;obtain ⟨z,i,c,rfl,rfl,hz,he,q⟩:=h;obtain ⟨t,rfl⟩:=rx;obtain ⟨t',rfl⟩:=ry;obtain ⟨j,h1,h2,h3,h4,h5⟩:=ZhU he;have hl:z.cps.toList.length=z.length:=by simp [Str.length]
 rw [hl] at h1 h4 h5;have hn:=Zcr;exact tail_any (typeIs_str s z t) slot_str_getitem.lookup (getItem_str (c:=c) (by
   have e1:decide (i < -(2 ^ 63:Int))=false:=decide_eq_false (by omega);have e2:decide (i ≥ 2 ^ 63)=false:=decide_eq_false (by omega);rw [e1,e2,Bool.or_false]) (by rw [h1];simpa using h2) ⟨.str ⟨#[c]⟩,H,I.tok _,⟨_,rfl⟩,q⟩) hs
theorem Zjw (its:List Value) (n j:Nat) (u:Value):Obj.mapSeq (·.setIfInBounds j u) {cls:=.type "list",data:=.seq its.toArray n}={cls:=.type "list",data:=.seq (its.set j u).toArray n}:=by
 simp [Obj.mapSeq]
theorem Inv.lst{pins:List (Addr×Obj)}{Z:St}{H:Hp}{s:Shared}{p:Addr}{xs:List V}(I:Inv X pins Z H s)(h:H p=some (.lst xs)) :
   ∃ (its:List Value) (n:Nat),Zm xs its/\s.heap.get? p=some {cls:=.type "list",data:=.seq its.toArray n}/\xs.length<=sizeLine:=by
 obtain ⟨z,its,n,r,e⟩:=I.hok p _ h;exact ⟨its,n,r,e,z⟩
theorem Inv.lstUpd{pins:List (Addr×Obj)}{Z:St}{H:Hp}{s:Shared}{p:Addr}{xs ys:List V}{its its':List Value}{n n':Nat}{f:Obj->Obj}(I:Inv X pins Z H s)(h:H p=some (.lst xs))
   (ho:s.heap.get? p=some {cls:=.type "list",data:=.seq its.toArray n}) (hf:f {cls:=.type "list",data:=.seq its.toArray n}={cls:=.type "list",data:=.seq its'.toArray n'}) (r:Zm ys its') (hz:ys.length<=sizeLine) (t:Nat) :
   Inv X pins Z (upd H p (.lst ys)) {s with heap:=s.heap.update p f,toks:=t}:=by
 have e:(s.heap.update p f).get? p=some {cls:=.type "list",data:=.seq its'.toArray n'}:=by
   rw [Heap.get?_update_self f ho (by rw [hf]<;>rfl),hf]
 refine I.write (x:=p) (e:=p) (by rw [h];trivial) (.inl rfl) (fun b u hb q=>(Heap.get?_update_other _ _ (Ne.symm hb)).trans q) ⟨_,e⟩ ?_;exact ⟨hz,its',n',r,e⟩
noncomputable def Ztz:V->V->V->Hp->(Hp->Prop)->Prop:=fun o i v H Q=>∃ p xs k j,o=.ref p/\i=.int k/\H p=some (.lst xs)/\ixN xs.length k=some j/\Q (upd H p (.lst (xs.set j v)))
theorem set_list:Zqo X Ztz:=by
 intro pins s Z H o i v ov iv u Q I ro ri rv h;obtain ⟨p,xs,k,j,rfl,rfl,hp,hj,q⟩:=h;cases ro;obtain ⟨t,rfl⟩:=ri;obtain ⟨its,n,r,ho,hz⟩:=I.lst hp;obtain ⟨h1,h2,h3,h4⟩:=ZkY hj;have hl:=r.length;have hn:=Zcr;have I':Inv X pins Z (upd H p (.lst (xs.set j v))) {s with heap:=s.heap.update p (Obj.mapSeq (·.setIfInBounds j u))} :=
   I.lstUpd hp ho (Zjw its n j u) (r.set rv j) (by rw [List.length_set];exact hz) s.toks
 by_cases h0:0<=k
 . have hk:k.toNat=j:=by
     rw [seqIndex_of h0 h4] at h1;exact Option.some.inj h1
   exact PySem.W.ki_setAt ho h0 (by omega) (by rw [Of,<- hl];exact h4) (by rw [hk];exact ⟨_,I',q⟩)
 . have hk:(k+(its.toArray.size:Int)).toNat=j:=by
     rw [seqIndex_neg (by omega) h3] at h1;rw [Of,<- hl];exact Option.some.inj h1
   exact PySem.W.ki_setBack ho (by omega) (by rw [Of,<- hl];exact h3) (by omega) (by rw [hk];exact ⟨_,I',q⟩)
theorem Zg7(lo hi:Option Int)(n:Nat):(sliceBounds lo hi none n).1=((HT.sIx n 0 lo:Nat):Int)/\(sliceBounds lo hi none n).2.1=((HT.sIx n n hi:Nat):Int)/\(sliceBounds lo hi none n).2.2=1:=by
 refine ⟨?_,?_,rfl⟩
 . cases lo with
   | none=>simp [sliceBounds,HT.sIx]
   | some i =>
     simp only [sliceBounds,HT.sIx,Option.getD_none,show (1:Int) > 0 by decide,if_true];by_cases h:i<0
     . simp only [h,if_true]<;>omega
     . simp only [h,if_false]<;>omega
 . cases hi with
   | none=>simp [sliceBounds,HT.sIx]
   | some i =>
     simp only [sliceBounds,HT.sIx,Option.getD_none,show (1:Int) > 0 by decide,if_true];by_cases h:i<0
     . simp only [h,if_true]<;>omega
     . simp only [h,if_false]<;>omega
theorem Zgi(its:List Value)(lo hi:Option Int):slicePick its.toArray lo hi none=((its.drop (HT.sIx its.length 0 lo)).take (HT.sIx its.length its.length hi - HT.sIx its.length 0 lo)).toArray:=by
 obtain ⟨h1,h2,h3⟩:=Zg7 lo hi its.toArray.size;unfold slicePick;rw [h1,h2,h3];simp only [sliceRange_one,pick_run,Of]<;>rfl
noncomputable def Zvl(K:PySem.W.Frag):V->Option Int->Option Int->Hp->VK->Prop:=fun x lo hi H Q=>∃ a xs,x=.ref a/\SqL K H a xs/\∀ p,H p=none->Q (.ref p) (upd H p (.lst (ZiQ xs lo hi)))
theorem ZoK:SlR X (Zvl X.K):=by
 intro pins s Z H x v vl vu lo hi sl Q I rx hs pl pu h;obtain ⟨a,xs,rfl,hx,q⟩:=h;cases rx;obtain ⟨its,r,ht,hz⟩:=I.list hx;have hlen:=r.length;refine ⟨"list",_,slot_list_getitem.lookup,ht.isList.typeIs,?_⟩;refine wpAny_getItem_list_slice ht.isList hs pl pu .none (by simp) ?_ (by rw [Of]<;>omega);rw [Zgi,<- hlen];refine ⟨.ref s.heap.objs.size,_,I.laid (t':=s.toks) (o:=.lst (ZiQ xs lo hi)) (fun b ob q=>Od _ q) (Oq _) ?_,rfl,q _ (I.hok.fresh (Oq _))⟩;exact ⟨OE (ZeU xs lo hi) hz,_,0,(r.drop (HT.sIx xs.length 0 lo)).take (HT.sIx xs.length xs.length hi - HT.sIx xs.length 0 lo),Oj _ rfl⟩
noncomputable def ZdC:V->Bool
 | .non=>true
 | .bl _=>true
 | .int _=>true
 | .str _=>true
 | _=>false
noncomputable def eqV:V->V->Bool
 | .non,.non=>true
 | .bl a,.bl b=>a==b
 | .bl a,.int b=>(if a then 1 else 0)==b
 | .int a,.bl b=>a==(if b then 1 else 0)
 | .int a,.int b=>a==b
 | .str a,.str b=>a==b
 | _,_=>false
theorem ZsD{A:Around}{s:Shared}{y x:V}{u v:Value}(ry:RelV y u)(rx:RelV x v)(fy:ZdC y=true)(fx:ZdC x=true):SeqAt.EqAt A s u v (eqV y x):=by
 cases y with
 | non =>
   cases ry;cases x with
   | non=>cases rx;exact SeqAt.EqAt.same _
   | bl b=>cases rx;exact SeqAt.EqAt.none_bool b
   | int b=>obtain ⟨t,rfl⟩:=rx;exact SeqAt.EqAt.none_int b t
   | str b=>obtain ⟨t,rfl⟩:=rx;exact SeqAt.EqAt.none_str b t
   | _=>exact absurd (show false=true from fx) Ow
 | bl a =>
   cases ry;cases x with
   | non=>cases rx;exact SeqAt.EqAt.bool_none a
   | bl b=>cases rx;exact SeqAt.EqAt.bool_bool a b
   | int b=>obtain ⟨t,rfl⟩:=rx;exact SeqAt.EqAt.bool_int a b t
   | str b=>obtain ⟨t,rfl⟩:=rx;exact SeqAt.EqAt.bool_str a b t
   | _=>exact absurd (show false=true from fx) Ow
 | int a =>
   obtain ⟨t',rfl⟩:=ry;cases x with
   | non=>cases rx;exact SeqAt.EqAt.int_none a t'
   | bl b=>cases rx;exact SeqAt.EqAt.int_bool a t' b
   | int b=>obtain ⟨t,rfl⟩:=rx;exact SeqAt.EqAt.int_int a t' b t
   | str b=>obtain ⟨t,rfl⟩:=rx;exact SeqAt.EqAt.int_str a t' b t
   | _=>exact absurd (show false=true from fx) Ow
 | str a =>
   obtain ⟨t',rfl⟩:=ry;cases x with
   | non=>cases rx;exact SeqAt.EqAt.str_none a t'
   | bl b=>cases rx;exact SeqAt.EqAt.str_bool a t' b
   | int b=>obtain ⟨t,rfl⟩:=rx;exact SeqAt.EqAt.str_int a t' b t
   | str b=>obtain ⟨t,rfl⟩:=rx;exact SeqAt.EqAt.str_str a t' b t
   | _=>exact absurd (show false=true from fx) Ow
 | _=>exact absurd (show false=true from fy) Ow
noncomputable def eqU(x:V)(u:Value):Bool:=match u with
 | .none=>eqV .non x
 | .bool b=>eqV (.bl b) x
 | .int i _=>eqV (.int i) x
 | .str z _=>eqV (.str z) x
 | _=>false
theorem ZnZ{x y:V}{u:Value}(r:RelV y u)(f:ZdC y=true):eqU x u=eqV y x:=by
 cases y with
 | non=>cases r;rfl
 | bl b=>cases r;rfl
 | int i=>obtain ⟨t,rfl⟩:=r;rfl
 | str z=>obtain ⟨t,rfl⟩:=r;rfl
 | _=>exact absurd (show false=true from f) Ow
theorem Zel{x:V}:∀ {xs:List V}{us:List Value},Zm xs us->xs.all ZdC=true->us.any (eqU x)=xs.any fun y=>eqV y x
 | _,_,.nil,_=>rfl
 | y::xs,u::us,.cons r t,f=>by
   rw [List.all_cons,Oa] at f;rw [List.any_cons,List.any_cons,ZnZ r f.1,Zel t f.2]
theorem ZcR{A:Around}{s:Shared}{x:V}{v:Value}(rx:RelV x v)(fx:ZdC x=true):∀ {xs:List V}{us:List Value},Zm xs us->xs.all ZdC=true->∀ u∈us,SeqAt.EqAt A s u v (eqU x u)
 | _,_,.nil,_=>fun u hu=>by cases hu
 | y::xs,u::us,.cons r t,f=>fun u' hu=>by
   rw [List.all_cons,Oa] at f;rcases O2.mp hu with rfl|hu
   . rw [ZnZ r f.1];exact ZsD r rx f.1 fx
   . exact ZcR rx fx t f.2 u' hu
noncomputable def inV(x:V)(xs:List V):Bool:=xs.any fun y=>eqV y x
noncomputable def rIn(K:PySem.W.Frag)(neg:Bool):R2:=fun x y H Q=>∃ p xs,y=.ref p/\(SqL K H p xs\/SqT K H p xs)/\ZdC x=true/\xs.all ZdC=true/\Q (.bl (if neg then !inV x xs else inV x xs)) H
theorem ZlL:OpR X (compareOp .In) (rIn X.K false):=by
 intro pins s Z H x y v u Q I rx ry h;obtain ⟨p,xs,rfl,hq,fx,fs,q⟩:=h;cases ry;rcases hq with hq|hq
 . obtain ⟨its,r,pl,hz⟩:=I.list hq;refine SeqAt.in_listAt (eqU x) pl.isList (fun w hw=>ZcR rx fx r fs w (by simpa using hw)) ⟨.bl _,H,I,rfl,?_⟩;rw [show its.toArray.any (eqU x)=its.any (eqU x) by simp,Zel r fs];exact q
 . obtain ⟨its,r,pl,hz⟩:=I.tuple hq;refine SeqAt.in_tupleAt (eqU x) pl (fun w hw=>ZcR rx fx r fs w (by simpa using hw)) ⟨.bl _,H,I,rfl,?_⟩;rw [show its.toArray.any (eqU x)=its.any (eqU x) by simp,Zel r fs];exact q
theorem Zhg:OpR X (compareOp .NotIn) (rIn X.K true):=by
 intro pins s Z H x y v u Q I rx ry h;obtain ⟨p,xs,rfl,hq,fx,fs,q⟩:=h;cases ry;rcases hq with hq|hq
 . obtain ⟨its,r,pl,hz⟩:=I.list hq;refine SeqAt.notIn_listAt (eqU x) pl.isList (fun w hw=>ZcR rx fx r fs w (by simpa using hw)) ⟨.bl _,H,I,rfl,?_⟩;rw [show its.toArray.any (eqU x)=its.any (eqU x) by simp,Zel r fs];exact q
 . obtain ⟨its,r,pl,hz⟩:=I.tuple hq;refine SeqAt.notIn_tupleAt (eqU x) pl (fun w hw=>ZcR rx fx r fs w (by simpa using hw)) ⟨.bl _,H,I,rfl,?_⟩;rw [show its.toArray.any (eqU x)=its.any (eqU x) by simp,Zel r fs];exact q
theorem ZhI:Zcp X (.builtin "len") (fun xs H Q=>∃ p ys,xs=[.ref p]/\(SqL X.K H p ys\/SqT X.K H p ys)/\Q (.int ys.length) H):=by
 intro pins s Z H xs us Q I r h;obtain ⟨p,ys,rfl,hq,q⟩:=h;obtain ⟨u,rfl,rx⟩:=vals1 r;cases rx;have hn:=Zcr;rcases hq with hq|hq
 . obtain ⟨its,r',pl,hz⟩:=I.list hq;have hlen:=r'.length;exact Calls.call_len_list pl.isList (by simp only [Of]<;>omega) ⟨.int ys.length,H,I.tok _,⟨s.toks+1,by rw [Of,hlen]⟩,q⟩
 . obtain ⟨its,r',pl,hz⟩:=I.tuple hq;have hlen:=r'.length;exact len_tuple pl (by simp only [Of]<;>omega) ⟨.int ys.length,H,I.tok _,⟨s.toks+1,by rw [Of,hlen]⟩,q⟩
theorem ZhH:Zcp X (.builtin "len") (fun xs H Q=>∃ z,xs=[.str z]/\z.length<=sizeLine/\Q (.int z.length) H):=by
 intro pins s Z H xs us Q I r h;obtain ⟨z,rfl,hz,q⟩:=h;obtain ⟨u,rfl,t,rfl⟩:=vals1 r;have hn:=Zcr;exact len_str (by omega) ⟨.int z.length,H,I.tok _,⟨_,rfl⟩,q⟩
theorem ZdE:Zcp X (.type "tuple") (fun xs H Q=>∃ p ys,xs=[.ref p]/\((SqL X.K H p ys/\∀ l,H l=none->Q (.ref l) (upd H l (.tup ys)))\/(SqT X.K H p ys/\Q (.ref p) H))):=by
 intro pins s Z H xs us Q I r h;obtain ⟨p,ys,rfl,h⟩:=h;obtain ⟨u,rfl,rx⟩:=vals1 r;cases rx;rcases h with ⟨hq,q⟩|⟨hq,q⟩
 . obtain ⟨its,r',pl,hz⟩:=I.list hq;have hlen:=r'.length;refine call_tuple_list pl.isList (fun h' kp=>?_) (by simp only [Of]<;>omega);have I1:Inv X pins Z H {s with heap:=h'}:=I.kept (t':=s.toks) kp;have I2:Inv X pins Z (upd H h'.objs.size (.tup ys)) {s with heap:=h'.push {cls:=.type "tuple",data:=.seq its.toArray}} :=
     I1.laid (t':=s.toks) (fun b o e=>Od _ e) (Oq _) (show Zak X.prog X.w _ _ _ (.tup ys) from ⟨hz,its,r',Zbn.fresh _ _⟩)
   exact ⟨.ref h'.objs.size,_,I2,rfl,q _ (I1.hok.fresh (Oq _))⟩
 . obtain ⟨its,r',pl,hz⟩:=I.tuple hq;exact call_tuple_same pl ⟨.ref p,H,I,rfl,q⟩
noncomputable def tyV(K:PySem.W.Frag)(T:String)(x:V)(H:Hp):Prop:=match x with
 | .str _=>T = "str"
 | .int _=>T = "int"
 | .ref p=>(T = "list" /\ ∃ xs,SqL K H p xs)\/(T = "tuple" /\ ∃ o,K.lookup p=some o/\o.cls=.type "tuple" /\ o.dict=none) \/
     (T = "dict" /\ ((∃ kvs,H p=some (.dK kvs))\/∃ kvs,H p=some (.dT kvs)))\/(T = "set" /\ ∃ S_ n,H p=some (.set S_ n))
 | _=>False
theorem Zmk{pins:List (Addr×Obj)}{Z:St}{H:Hp}{s:Shared}{T:String}{x:V}{v:Value}(I:Inv X pins Z H s)(r:RelV x v)(ty:tyV X.K T x H) :
   s.TypeIs v T/\∀ a,v=.ref a->∃ ob,s.heap.get? a=some ob/\ob.dict=none:=by
 cases x with
 | str z =>
   obtain ⟨t,rfl⟩:=r;cases (show T = "str" from ty);exact ⟨typeIs_str s z t,fun _ e=>nomatch e⟩
 | int i =>
   obtain ⟨t,rfl⟩:=r;cases (show T = "int" from ty);exact ⟨typeIs_int s i t,fun _ e=>nomatch e⟩
 | ref p =>
   cases r;rcases ty with ⟨rfl,xs,hq⟩|⟨rfl,o,hk,hc,hd⟩|⟨rfl,hk⟩|⟨rfl,S_,n,hk⟩
   . obtain ⟨its,_,pl,_⟩:=I.list hq;refine ⟨pl.isList.typeIs,fun a e=>?_⟩;cases e;obtain ⟨o,n,e,c,hd,_⟩:=pl;exact ⟨o,e,hd⟩
   . refine ⟨⟨o,I.kIn p o hk,hc⟩,fun a e=>?_⟩;cases e;exact ⟨o,I.kIn _ o hk,hd⟩
   . have z:∃ o,s.heap.get? p=some o/\o.ExactDict:=by
       rcases hk with ⟨kvs,hk⟩|⟨kvs,hk⟩
       . obtain ⟨_,_,_,_,o,_,_,e,ex,_⟩:=I.hok p _ hk;exact ⟨o,e,ex⟩
       . obtain ⟨_,_,_,_,o,_,_,e,ex,_⟩:=I.hok p _ hk;exact ⟨o,e,ex⟩
     obtain ⟨o,e,ex⟩:=z;refine ⟨⟨o,e,ex.1⟩,fun a e2=>?_⟩;cases e2;exact ⟨o,e,ex.2.1⟩
   . obtain ⟨o,_,_,_,e,ex,_⟩:=I.hok p _ hk;refine ⟨⟨o,e,ex.1⟩,fun a e2=>?_⟩;cases e2;exact ⟨o,e,ex.2.1⟩
 | _=>exact False.elim ty
noncomputable def Zu8(K:PySem.W.Frag)(T:String)(r:V->List V->Hp->VK->Prop)(to:TE):TE:=fun Z H Q=>to Z H fun x H1=>tyV K T x H1/\r x [] H1 Q
noncomputable def tBM(K:PySem.W.Frag)(T:String)(r:V->List V->Hp->VK->Prop)(to:TE)(t:TA):TE:=fun Z H Q=>to Z H fun x H1=>tyV K T x H1/\t Z H1 fun xs H2=>r x xs H2 Q
variable {o e:Expr}{es:List Expr}{to:TE}{t:TA}{name:Str}{apos cpos:Pos}{T id:String}{r:V->List V->Hp->VK->Prop}
theorem ZrR (pa:PlainAttrs T) (slot:Slot T name id) (hty:typeOf (.builtin id)=pure (.type "method_descriptor")) (hm:MtR X id r) (ho:PE X o to)
   (hbase:attributeBase o name X.env (eval o X.env)=eval o X.env:=by rfl) (hline:(apos.endLine==cpos.line)=true:=by rfl):PE X (.Call (.Attribute o name apos) [] [] cpos) (Zu8 X.K T r to):=by
 intro pins s Z H Q I h;refine wpAny_Call_method0_late hbase hline (thn (ho pins s Z H _ I h) fun v s1 ⟨x,H1,I1,r1,ty,q1⟩=>?_);obtain ⟨h1,h2⟩:=Zmk I1 r1 ty;exact ⟨T,id,pa,slot,hty,h1,h2,Calls.callWith_builtin rfl (PySem.evalArgs_none (hm pins s1 Z H1 x [] v [] Q I1 r1 .nil q1))⟩
theorem ZtN (pa:PlainAttrs T) (slot:Slot T name id) (hty:typeOf (.builtin id)=pure (.type "method_descriptor")) (hm:MtR X id r) (ho:PE X o to) (ha:PA X (e::es) t)
   (hbase:attributeBase o name X.env (eval o X.env)=eval o X.env:=by rfl)
   (hfew:((backTo cpos (starEach (e::es) X.env)).all (fun x=>!x.1)&&(backToKw cpos (keywordEach [] X.env)).all (fun x=>x.1.isSome)
     && decide ((e::es).length+([]:List Keyword).length+(if ([]:List Keyword).isEmpty then 0 else 1)<30))=true:=by rfl)
   (hline:(apos.endLine==cpos.line)=true:=by rfl) (hs:starEach (e::es) X.env=(false,eval e X.env)::starEach es X.env:=by rfl) (hplain:(backTo cpos (starEach es X.env)).any (·.1)=false:=by rfl) :
   PE X (.Call (.Attribute o name apos) (e::es) [] cpos) (tBM X.K T r to t):=by
 intro pins s Z H Q I h;refine wpAny_Call_method_late hbase hfew hline rfl (thn (ho pins s Z H _ I h) fun v s1 ⟨x,H1,I1,r1,ty,q1⟩=>?_);obtain ⟨h1,h2⟩:=Zmk I1 r1 ty;refine ⟨T,id,pa,slot,hty,h1,h2,?_⟩;have hA:=ha cpos pins s1 Z H1 _ I1 q1;rw [hs] at hA ⊢;refine Calls.callWith_builtin (by show (false || (backTo cpos (starEach es X.env)).any (·.1))=false;rw [hplain]<;>rfl) (Calls.evalArgs_plain ?_);exact thn hA fun us s2 ⟨vs,H2,I2,r2,q2⟩=>hm pins s2 Z H2 x vs v us Q I2 r1 r2 q2
end
end L2
namespace L2
open PySem PySem.Spec PyProof.Rows
noncomputable def MtM(X:Cx)(id:String)(r:V->List V->Hp->VK->Prop):Prop :=
 ∀ (pins:List (Addr×Obj)) (s:Shared) (Z:St) (H:Hp) (x:V) (xs:List V) (v:Value) (us:List Value) (Q:VK),Inv X pins Z H s->RelV x v->Zm xs us->r x xs H Q ->
   wpAny (model X.prog X.w) X.A (call (.builtin id) (v::us)) (EP X pins Z Q) X.xe s
theorem Zm.one:∀ {x:V}{us:List Value},Zm [x] us->∃ u,us=[u]/\RelV x u
 | _,_,.cons r .nil=>⟨_,rfl,r⟩
theorem Zm.zero:∀ {us:List Value},Zm [] us->us=[]
 | _,.nil=>rfl
theorem Zm.dropLast{xs:List V}{us:List Value}(h:Zm xs us):Zm xs.dropLast us.dropLast:=by
 induction h with
 | nil=>exact .nil
 | cons r t ih =>
   cases t with
   | nil=>exact .nil
   | cons q t'=>exact .cons r ih
theorem Zm.reverse{xs:List V}{us:List Value}(h:Zm xs us):Zm xs.reverse us.reverse:=by
 induction h with
 | nil=>exact .nil
 | cons r t ih=>rw [List.reverse_cons,List.reverse_cons];exact Zm.append ih (.cons r .nil)
theorem Zj6{α:Type}(l:List α):l.eraseIdx (l.length - 1)=l.dropLast:=by
 induction l with
 | nil=>rfl
 | cons a r ih =>
   cases r with
   | nil=>rfl
   | cons b r =>
     have e:(a::b::r).length - 1=((b::r).length - 1)+1:=by
       have h1:(a::b::r).length=r.length+2:=rfl;have h2:(b::r).length=r.length+1:=rfl;omega
     rw [e,List.eraseIdx_cons_succ,ih]
     all_goals rfl
section
variable {X:Cx}{pins:List (Addr×Obj)}{Z:St}{H:Hp}{s:Shared}{l b:Addr}{xs ys zs:List V}
theorem Inv.lset{its its':List Value}{n:Nat}{f:Array Value->Array Value}{t':Nat}(I:Inv X pins Z H s)(hH:H l=some (.lst xs))
   (e:s.heap.get? l=some {cls:=.type "list",data:=.seq its.toArray n}) (hf:f its.toArray=its'.toArray) (hv:Zm ys its') (hz:ys.length<=sizeLine) :
   Inv X pins Z (upd H l (.lst ys)) {s with heap:=s.heap.update l (Obj.mapSeq f),toks:=t'}:=by
 have q:=PySem.IsL.update e f;rw [hf] at q;refine I.write (x:=l) (e:=l) (by rw [hH];exact trivial) (.inl rfl) (fun b' u hb hu=>(Heap.get?_update_other s.heap (Obj.mapSeq f) (Ne.symm hb)).trans hu) ⟨_,q⟩ ?_;exact ⟨hz,its',_,hv,q⟩
theorem Inv.lnew{its:List Value}{t':Nat}(I:Inv X pins Z H s)(hv:Zm ys its)(hz:ys.length<=sizeLine) :
   Inv X pins Z (upd H s.heap.objs.size (.lst ys)) {s with heap:=s.heap.push {cls:=.type "list",data:=.seq its.toArray},toks:=t'} :=
 I.laid (fun _ _ q=>Od _ q) (Oq _) ⟨hz,its,0,hv,Oj _ rfl⟩
theorem Inv.fresh(I:Inv X pins Z H s):H s.heap.objs.size=none:=I.hok.fresh (Oq _)
theorem Inv.lstM (I:Inv X pins Z H s) (hH:H l=some (.lst xs)):xs.length<=sizeLine/\∃ (its:List Value) (n:Nat),Zm xs its/\xs.length=its.length/\s.heap.get? l=some {cls:=.type "list",data:=.seq its.toArray n}:=by
 obtain ⟨z,its,n,r,e⟩:=I.hok l _ hH;exact ⟨z,its,n,r,r.length,e⟩
theorem Zik{n:Nat}(h:n<=sizeLine):Builtin.List.listTooLong n=false:=by
 unfold Builtin.List.listTooLong;exact decide_eq_false (by omega)
end
section
variable {X:Cx}
noncomputable def ZoX:V->List V->Hp->VK->Prop:=fun x vs H Q=>∃ l xs y,x=.ref l/\vs=[y]/\H l=some (.lst xs)/\xs.length<sizeLine/\Q .non (upd H l (.lst (xs++[y])))
theorem Zeu:MtM X "list.append" ZoX:=by
 intro pins s Z H x vs v us Q I rx rv h;obtain ⟨l,xs,y,rfl,rfl,hH,hz,q⟩:=h;cases rx;obtain ⟨u,rfl,ru⟩:=rv.one;obtain ⟨z,its,n,r,hl,e⟩:=I.lstM hH;refine call_meets F.slot_list_append ⟨_,e,rfl⟩ F.entry_list_append (F.args_list_append_2 _ _) (PySem.list_append l its.toArray n u (by rw [Of];omega)) ⟨e,?_⟩;refine ⟨.non,_,I.lset (its':=its++[u]) hH e (by simp) (r.append (.cons ru .nil)) ?_,rfl,q⟩;rw [OA,List.length_singleton];omega
noncomputable def ZoW:V->List V->Hp->VK->Prop:=fun x vs H Q=>∃ l b xs zs,x=.ref l/\vs=[.ref b]/\H l=some (.lst xs)/\H b=some (.lst zs)/\xs.length+zs.length<=sizeLine/\Q .non (upd H l (.lst (xs++zs)))
theorem ZlO:MtM X "list.extend" ZoW:=by
 intro pins s Z H x vs v us Q I rx rv h;obtain ⟨l,b,xs,zs,rfl,rfl,hH,hB,hz,q⟩:=h;cases rx;obtain ⟨u,rfl,ru⟩:=rv.one;cases ru;obtain ⟨z,its,n,r,hl,e⟩:=I.lstM hH;obtain ⟨z2,its2,n2,r2,hl2,e2⟩:=I.lstM hB;have hsz:its.toArray.size+its2.toArray.size<=sizeLine:=by rw [Of,Of];omega
 have hlong:¬ (!its.toArray.isEmpty&&Builtin.List.listTooLong (its.toArray.size+its2.toArray.size))=true:=by
   rw [Zik hsz,Bool.and_false];exact Ow
 refine call_meets F.slot_list_extend ⟨_,e,rfl⟩ F.entry_list_extend (F.args_list_extend_2 _ _)
   (AutoSeq1.list_extend_list_list_0 l its.toArray n b its2.toArray n2 hlong (by rw [Of];omega) (by omega)) ⟨e,e2,?_⟩
 refine ⟨.non,_,I.lset (its':=its++its2) hH e (by simp) (r.append r2) ?_,rfl,q⟩;rw [OA];omega
noncomputable def Zvm:V->List V->Hp->VK->Prop:=fun x vs H Q=>∃ l xs y,x=.ref l/\vs=[]/\H l=some (.lst xs)/\xs[xs.length - 1]? = some y/\Q y (upd H l (.lst xs.dropLast))
theorem Zr7:MtM X "list.pop" Zvm:=by
 intro pins s Z H x vs v us Q I rx rv h;obtain ⟨l,xs,y,rfl,rfl,hH,hy,q⟩:=h;cases rx;have hus:=rv.zero;subst hus;obtain ⟨z,its,n,r,hl,e⟩:=I.lstM hH;obtain ⟨u,hu,ru⟩:=r.get hy;have hy':its.toArray[its.toArray.size - 1]? = some u:=by
   show its.toArray[its.length - 1]? = some u;rw [<- Array.getElem?_toList,<- hl];exact hu
 refine call_meets F.slot_list_pop ⟨_,e,rfl⟩ F.entry_list_pop (F.args_list_pop_1 _) (MeetsSeq.list_pop_last l its.toArray n u hy' (by rw [Of];omega)) ⟨e,?_⟩;refine ⟨y,_,I.lset (its':=its.dropLast) hH e ?_ r.dropLast ?_,ru,q⟩
 . show its.toArray.eraseIdxIfInBounds (its.toArray.size - 1)=its.dropLast.toArray;rw [Of,List.eraseIdxIfInBounds_toArray,Zj6]
 . rw [List.length_dropLast];omega
noncomputable def ZmN:V->List V->Hp->VK->Prop:=fun x vs H Q=>∃ l xs,x=.ref l/\vs=[]/\H l=some (.lst xs)/\Q .non (upd H l (.lst xs.reverse))
theorem Zju:MtM X "list.reverse" ZmN:=by
 intro pins s Z H x vs v us Q I rx rv h;obtain ⟨l,xs,rfl,rfl,hH,q⟩:=h;cases rx;have hus:=rv.zero;subst hus;obtain ⟨z,its,n,r,hl,e⟩:=I.lstM hH;refine call_meets F.slot_list_reverse ⟨_,e,rfl⟩ F.entry_list_reverse (F.args_list_reverse_1 _) (AutoSeq1.list_reverse_list_0 l its.toArray n (by rw [Of];omega)) ⟨e,?_⟩;refine ⟨.non,_,I.lset (its':=its.reverse) hH e (by simp) r.reverse ?_,rfl,q⟩;rw [List.length_reverse];omega
noncomputable def Zrw:V->List V->Hp->VK->Prop:=fun x vs H Q=>∃ l xs,x=.ref l/\vs=[]/\H l=some (.lst xs)/\Q .non (upd H l (.lst []))
theorem Zno:MtM X "list.clear" Zrw:=by
 intro pins s Z H x vs v us Q I rx rv h;obtain ⟨l,xs,rfl,rfl,hH,q⟩:=h;cases rx;have hus:=rv.zero;subst hus;obtain ⟨z,its,n,r,hl,e⟩:=I.lstM hH;refine call_meets F.slot_list_clear ⟨_,e,rfl⟩ F.entry_list_clear (F.args_list_clear_1 _) (AutoSeq1.list_clear_list_0 l its.toArray n (by rw [Of];omega)) ⟨e,?_⟩;exact ⟨.non,_,I.lset (its':=[]) (ys:=[]) hH e rfl .nil (Nat.zero_le _),rfl,q⟩
noncomputable def Zvr:R2:=fun x y H Q=>∃ l b xs zs,x=.ref l/\y=.ref b/\H l=some (.lst xs)/\H b=some (.lst zs)/\xs.length+zs.length<=sizeLine/\∀ p,H p=none->Q (.ref p) (upd H p (.lst (xs++zs)))
theorem ZrY:OpR X (binaryOp .Add) Zvr:=by
 intro pins s Z H x y v u Q I rx ry h;obtain ⟨l,b,xs,zs,rfl,rfl,hH,hB,hz,q⟩:=h;cases rx;cases ry;obtain ⟨z,its,n,r,hl,e⟩:=I.lstM hH;obtain ⟨z2,its2,n2,r2,hl2,e2⟩:=I.lstM hB;refine PySem.P.add_list e e2 ?_ (by rw [Of,Of];omega);have ea:its.toArray++its2.toArray=(its++its2).toArray:=by simp
 rw [ea];exact ⟨.ref _,_,I.lnew (t':=s.toks) (r.append r2) (by rw [OA];omega),rfl,q _ I.fresh⟩
end
end L2
namespace Att
open PySem PySem.W PySem.Calls PyProof.Rows
theorem Ze3{P:Params}{h:Heap}:∀ (ns:List Int) (vs:List Value),WellAll P h vs (ns.map WData.int)->IntsAre vs ns:=by
 intro ns;induction ns with
 | nil =>
   intro vs w;rw [Oy] at w;cases w;exact .nil
 | cons n ns ih =>
   intro vs w;rw [Op] at w;cases w with
   | cons a b =>
     cases a;exact .cons _ _ (ih _ b)
theorem Zlt{l:OpenLaw}{n:Nat}(hn:l.most=some n){P:Params}{h:Heap}{args:List WData}{vals:List Value}
   (hpre:l.row.toRowW.claim.pre args=true) (hwl:WellAll P h vals args) :
   ∃ a vs ns,vals=[Value.ref a]/\args=[WData.list (ns.map WData.int)]/\h.get? a=some {cls:=.type "list",data:=.seq vs.toArray}/\IntsAre vs ns/\ns.length<=n:=by
 have hsh:WShape.hasAll [] args [.list .int]=true:=(pre_splitW hpre).1;have hc:l.pre.holds [] {args:=args}=true:=(pre_splitW hpre).2;obtain ⟨d,r,rfl,h1,h2⟩:=hasAllW_cons hsh;obtain rfl:=hasAllW_nil h2;obtain ⟨xs,rfl,h3⟩:=hasW_list h1;obtain ⟨ns,rfl⟩:=items_int h3;have hlen:ns.length<=n:=by
   unfold OpenLaw.pre at hc;have h4:(WTm.not (.lt (.lit (.int (n:Int))) (.len (.arg 0)))).holds [] {args:=[.list (ns.map .int)]}=true:=by
     have h4:=(holds_andW hc).1;rw [hn] at h4;exact h4
   have h5:=condW_of h4 (w_not (w_lt w_lit (w_len_list (w_arg rfl))));rw [List.length_map] at h5;refine Nat.le_of_not_lt fun q=>?_;have q':(n:Int)<((ns.length:Nat):Int):=by omega
   first
     | (rw [decide_eq_true q'] at h5;exact absurd h5 (by decide))
     | (simp at h5;omega)
 cases hwl with
 | cons w1 w2 =>
   cases w2;cases w1 with
   | list ho hall=>exact ⟨_,_,ns,rfl,rfl,ho,Ze3 ns _ hall,hlen⟩
theorem ZlD(l:OpenLaw)(args:List WData):l.row.toRowW.claim.post args (.bool true) args=true :=
 postW_of (r:=l.row.toRowW) (X:=(true==true))
   (show WShape.has [] (.bool true) .bool=true by first|rfl|decide|simp [WShape.has,WShape.arms,WShape.armsAll])
   (show (WTm.eq .res (.lit (.bool true))).value [] {args:=args,res:=some (.bool true),after:=args}=some (.bool (true==true)) from w_eq_bool (w_res rfl) w_lit) rfl
theorem Zi2{l:OpenLaw}{n:Nat}{q:Program}{loose:List Str}{XP:(Str->Option Value)->Heap->Prop}{YP:World->Heap->Prop}{d:DefRec}
   (hn:l.most=some n) (hdf:d.params.defaults=[])
   (call:∀ (w:World) (s₀ s₁:Shared) (mg mb:Str->Option Value) (fa:Addr) (o:Obj) (pm cd doc:Value) (a:Addr) (vs:List Value) (ns:List Int),
     Ground q loose [] XP w s₀ mg mb s₁.heap->YP w s₁.heap ->
     s₁.heap.get? fa=some o->o.data=.func (docDef d.name d.params d.body d.scope pm cd doc)->s₁.heap.CodeRec cd d.name->mg d.name=some (.ref fa) ->
     s₁.heap.get? a=some {cls:=.type "list",data:=.seq vs.toArray}->IntsAre vs ns->ns.length<=n->s₁.gens=#[] ->
     codeAny (model l.prog w) callerA (.call (.ref fa) ⟨[.ref a],[]⟩) (fun r s'=>r=.ok (.ret (.bool true))/\OldK s₁.heap s'.heap/\s'.os=s₁.os/\AllBare s'.gens) s₁) :
   WalkO q loose XP YP l.row.toRowW d [] (fun f vs=>PySem.call f vs):=by
 intro w s₀ s₁ mg mb G Y fa o pm cd doc dV kV ho hd hcd hD hmg hg args vals as hpre hlay hrd hwl hlo;obtain rfl:dV=.none:=Dflts.none hD hdf;obtain rfl:kV=.none:=Dflts.noKw hD;obtain ⟨a,vs,ns,rfl,rfl,hobj,hints,hlen⟩:=Zlt hn hpre hwl;refine enter_call (codeAny_mono (call w s₀ s₁ mg mb fa o pm cd doc a vs ns G Y ho (fd_plain hd) hcd hmg hobj hints hlen hg) fun r s' hq=>?_);obtain ⟨rfl,h2,h3,h4⟩:=hq;exact ⟨.inl ⟨.bool true,.bool true,[],rfl,fun _=>rfl,.bool true,ZlD l _,fun _=>⟨List.Pairwise.nil,fun _ hm=>(nomatch hm)⟩⟩,h2,h3,h4⟩
end Att
namespace L2
open PySem PySem.Spec PyProof.Rows
theorem Zgu:∀ {vs:List Value}{ns:List Int},IntsAre vs ns->Zm (ns.map V.int) vs
 | _,_,.nil=>.nil
 | _,_,.cons n t h=>.cons ⟨t,rfl⟩ (Zgu h)
noncomputable def Zqp(H:Hp):Prop:=∀ b,H b=none\/∃ o xs,H b=some (.frz o (.lst xs))
theorem Znv{P:Program}{w:World}{K:PySem.W.Frag}{mg mb:Str->Option Value}{CX:CXT}{k:Nat}{fa a:Addr}{fd:FuncData}{x:Str}{sp:Sp}{s₁:Shared}{vs:List Value}{ns:List Int}
   (KX:K.In s₁.heap) (hns:s₁.heap.Ns mainGlobals mg) (hb:s₁.heap.Ns builtinsNs mb) (hbb:∀ x:Str,x ≠ "__name__" -> mb x=bootBuiltins x) (hlim:s₁.heap.NoLimit) (hg:s₁.gens=#[])
   (ha:s₁.heap.get? a=some {cls:=.type "list",data:=.seq vs.toArray}) (hi:IntsAre vs ns) (hl:ns.length<=sizeLine) (hr:Room k callerA)
   (F:∀ base:Heap,K.In base->base.Ns mainGlobals mg->FnOk P w K mg base CX k fa fd [x] sp) (hbind:∀ (s:Shared) (u:Value),BindsTo s fd ⟨[u],[]⟩ [(x,u)])
   (hsp:∀ H:Hp,Zqp H->SqL K H a (ns.map V.int)->sp [.ref a] H (fun v _=>v=.bl true) fun _ _ _=>False)
   (hCX:∀ H e s',CX [] H s₁ (fun _ _ _=>False) e s'->False) :
   codeAny (model P w) callerA (.call (.ref fa) ⟨[.ref a],[]⟩) (fun r s'=>r=.ok (.ret (.bool true))/\OldK s₁.heap s'.heap/\s'.os=s₁.os/\AllBare s'.gens) s₁:=by
 have rv:=Zgu hi;have lenV:=hi.length;have core:∀ H:Hp,Zqp H->SqL K H a (ns.map V.int)->HOk P w H s₁.heap->(∀ b,H b≠none->b=a)->(H a≠none->K.lookup a=none) ->
     codeAny (model P w) callerA (.call (.ref fa) ⟨[.ref a],[]⟩) (fun r s'=>r=.ok (.ret (.bool true))/\OldK s₁.heap s'.heap/\s'.os=s₁.os/\AllBare s'.gens) s₁:=by
   intro H hO hS hok hA hK;have base_of:∀ {b:Addr}{o:Obj},s₁.heap.get? b=some o->H b=none->(Zhv s₁.heap H).get? b=some o:=fun e n=>ZnL e n;have noA:∀ {b:Addr}{o:Obj}{es:Array DictEntry}{ep:Nat},s₁.heap.get? b=some o->o.data=.dict es ep->H b=none:=fun {b o es ep} e d=>by
     cases q:H b with
     | none=>rfl
     | some u =>
       have e':b=a:=hA b (by rw [q];simp);subst e';rw [ha] at e;cases e;have d':Data.seq vs.toArray _=Data.dict es ep:=d;cases d'
   have nsK:∀ {b:Addr}{m:Str->Option Value},s₁.heap.Ns b m->(Zhv s₁.heap H).Ns b m:=fun {b m} ⟨o,es,ep,e,d,r⟩=>⟨o,es,ep,base_of e (noA e d),d,r⟩
   have hKb:K.In (Zhv s₁.heap H):=fun b o e=>base_of (KX b o e) (by
     cases q:H b with
     | none=>rfl
     | some u =>
       have e':b=a:=hA b (by rw [q];simp);subst e';rw [hK (by rw [q];simp)] at e;cases e)
   have hM:Mod K mg (Zhv s₁.heap H):=⟨hKb,nsK hns,⟨mb,nsK hb,hbb⟩,let ⟨mc,h1,h2⟩:=hlim;⟨mc,nsK h1,h2⟩⟩
   have e0:Env0 P w K mg (Zhv s₁.heap H) callerA [] s₁ H:=⟨rfl,hM,fun b o e=>Zpz e,Nat.le_of_eq (Zl2 _ _),trivial,fun b hb=>absurd (show b∈([]:List Addr) from hb) (by simp),hok,.of_eq hg⟩
   refine codeAny_mono ((F _ hKb (nsK hns)).run callerA [] s₁ H ⟨[.ref a],[]⟩ [.ref a] [.ref a] _ _ hr e0 (hbind s₁ (.ref a)) (.cons rfl .nil) (hsp H hO hS)) fun r s' h=>?_;cases r with
   | error e=>exact (hCX H e s' h).elim
   | ok fl =>
     cases fl with
     | next=>exact False.elim h
     | brk=>exact False.elim h
     | cont=>exact False.elim h
     | ret u =>
       obtain ⟨v,H',os,bare,un,hok',r',q⟩:=h;have q':v=.bl true:=q;subst q';obtain rfl:u=Value.bool true:=r';refine ⟨rfl,OldK.of_keep fun b o e=>?_,os,bare⟩;cases q:H b with
       | none=>exact un.keep b o e q (by intro z;exact absurd (show b∈([]:List Addr) from z) (by simp)) (by simp)
       | some u =>
         rcases hO b with z|⟨ob,xs,z⟩
         . rw [q] at z;cases z
         . have z2:=un.frzs b ob _ z;obtain ⟨e1,_⟩:=hok b _ z;obtain ⟨e2,_⟩:=hok' b _ z2;rw [e] at e1;cases e1;exact e2
 cases hk:K.lookup a with
 | some o =>
   have e:=KX a o hk;rw [ha] at e;cases e;refine core (fun _=>none) (fun _=>.inl rfl) (.inr ⟨_,vs.toArray,_,hk,rfl,rfl,rfl,by rw [Of,lenV];exact hl,by simpa using rv⟩) (fun b u z=>by have z':(none:Option HO)=some u:=z;cases z') (fun b z=>absurd rfl z) fun z=>absurd rfl z
 | none =>
   refine core (fun b=>if b=a then some (.frz {cls:=.type "list",data:=.seq vs.toArray} (.lst (ns.map V.int))) else none) (fun b=>?_) (.inl (.inr ⟨{cls:=.type "list",data:=.seq vs.toArray},if_pos rfl⟩)) (fun b u z=>?_) (fun b z=>?_) fun _=>hk
   . by_cases hb:b=a
     . exact .inr ⟨_,_,if_pos hb⟩
     . exact .inl (if_neg hb)
   . by_cases hb:b=a
     . have z':=(if_pos hb).symm.trans z;cases z';subst hb;exact ⟨ha,by rw [List.length_map];exact hl,vs,_,rv,ha⟩
     . have z':=(if_neg hb).symm.trans z;cases z'
   . by_cases hb:b=a
     . exact hb
     . exact absurd (if_neg hb) z
end L2
namespace L2
open PySem PySem.Spec PyProof.Rows
theorem Zow{l:PySem.W.OpenLaw}{n k:Nat}{q:Program}{loose:List Str}{XP:(Str->Option Value)->Heap->Prop}{YP:World->Heap->Prop}{d:DefRec}{K:Params->PySem.W.Frag}{CX:World->CXT}{sp:World->Sp}{x:Str}
   (hn:l.most=some n) (hn2:n<=sizeLine) (hdf:d.params.defaults=[]) (hr:Room k callerA)
   (hY:∀ (w:World) (h:Heap),YP w h->(K w.params).In h)
   (F:∀ (w:World) (mg:Str->Option Value) (fa:Addr) (h:Heap),(K w.params).In h->h.Ns mainGlobals mg->mg d.name=some (.ref fa) ->
     ∃ fd:FuncData,(∀ (s:Shared) (u:Value),BindsTo s fd ⟨[u],[]⟩ [(x,u)]) /\
       ∀ base:Heap,(K w.params).In base->base.Ns mainGlobals mg->FnOk l.prog w (K w.params) mg base (CX w) k fa fd [x] (sp w))
   (hsp:∀ (w:World) (H:Hp) (a:Addr) (ns:List Int),ns.length<=n->Zqp H->SqL (K w.params) H a (ns.map V.int)->sp w [.ref a] H (fun v _=>v=.bl true) fun _ _ _=>False)
   (hCX:∀ (w:World) (H:Hp) (s:Shared) (e:Value) (s':Shared),CX w [] H s (fun _ _ _=>False) e s'->False) :
   PySem.W.WalkO q loose XP YP l.row.toRowW d [] (fun f vs=>PySem.call f vs):=by
 refine Att.Zi2 hn hdf fun w s₀ s₁ mg mb fa o pm cd doc a vs ns G Y ho hd hcd hmg hobj hints hlen hg=>?_;have KX:=hY w _ Y;obtain ⟨fd,hb,hF⟩:=F w mg fa _ KX G.T.g hmg;exact Znv KX G.T.g G.T.b G.T.builtins G.T.nolimit hg hobj hints (OE hlen hn2) hr hF hb (fun H hO hS=>hsp w H a ns hlen hO hS) fun H e s'=>hCX w H s₁ e s'
end L2
namespace L2
open PySem PySem.Spec PyProof.Rows
noncomputable def inClass(s:Stmt)(j:Nat):Stmt:=match s with
 | .ClassDef _ _ _ body _ _ _ _ _ _ _=>body.getD j (.Pass ⟨0,0,0,0⟩)
 | _=>.Pass ⟨0,0,0,0⟩
noncomputable def Zdn(s:Stmt):Arguments:=match s with
 | .FunctionDef _ a _ _ _ _ _ _ _ _=>a
 | _=>{posonlyargs:=[],args:=[],vararg:=none,kwonlyargs:=[],kw_defaults:=[],kwarg:=none,defaults:=[]}
noncomputable def ZbS(s:Stmt):List Stmt:=match s with
 | .FunctionDef _ _ b _ _ _ _ _ _ _=>b
 | _=>[]
noncomputable def ZQ(s:Stmt):Scope:=match s with
 | .FunctionDef _ _ _ _ _ _ sc _ _ _=>sc
 | _=>{kind:=.function,names:=[],isGenerator:=false,isCoroutine:=false}
noncomputable abbrev E0:XK:=fun _ _ _=>False
structure Fun(K:PySem.W.Frag)(x qual:Str)(st:Stmt)(f:Addr)(fd:FuncData):Prop where
 ex:∃ (oc:Value) (od:Option Addr) (kV doc pm:Value) (an:Option Addr) (cdv ct:Value) (osl:Array (Option Value)),
   fd=PySem.W.fnOf x qual (Zdn st) (ZbS st) (ZQ st) .none kV doc pm an cdv ct/\K.lookup f=some ⟨oc,od,.func fd,osl⟩/\PySem.W.codeIn K cdv qual=true
 kp:PySem.W.keepIn K (.ref f)=true
section
variable {P:Program}{w:World}{K:PySem.W.Frag}{mg:Str->Option Value}{base:Heap}
theorem Fun.binds{x qual:Str}{st:Stmt}{f:Addr}{fd:FuncData}{ps:List Str}(F:Fun K x qual st f fd)
   (h:∀ (kV doc pm:Value) (an:Option Addr) (cdv ct:Value) (us:List Value),us.length=ps.length->bindArgs (PySem.W.fnOf x qual (Zdn st) (ZbS st) (ZQ st) .none kV doc pm an cdv ct) ⟨us,[]⟩=pure (ps.zip us)):Binds K fd ps []:=by
 obtain ⟨oc,od,kV,doc,pm,an,cdv,ct,osl,rfl,lk,hcd⟩:=F.ex;exact .all (h kV doc pm an cdv ct)
theorem ZnP{x qual:Str}{st:Stmt}{f:Addr}{oc:Value}{od an:Option Addr}{osl:Array (Option Value)}{kV doc pm cdv ct:Value}(l:K.lookup f=some ⟨oc,od,.func (PySem.W.fnOf x qual (Zdn st) (ZbS st) (ZQ st) .none kV doc pm an cdv ct),osl⟩)
   (c:PySem.W.codeIn K cdv qual=true) (k:PySem.W.keepIn K (.ref f)=true):Fun K x qual st f (PySem.W.fnOf x qual (Zdn st) (ZbS st) (ZQ st) .none kV doc pm an cdv ct):=⟨⟨oc,od,kV,doc,pm,an,cdv,ct,osl,rfl,l,c⟩,k⟩
end
theorem ZjS{A B_:Prop}(h:B_):if false=true then A else B_:=by
 rw [if_neg Ow];exact h
theorem ZjR{A B_:Prop}(h:A):if true=true then A else B_:=by
 rw [if_pos rfl];exact h
end L2
end
section
set_option tactic.hygienic false
namespace L2
open PySem PySem.Spec PyProof.Rows
section
variable {κ:Type} [DecidableEq κ]
noncomputable def ZdT(kvs:List (κ×V))(k:κ):Option V:=(kvs.find? fun kv=>decide (kv.1=k)).map (·.2)
noncomputable def putK(kvs:List (κ×V))(k:κ)(v:V):List (κ×V) :=
 if (kvs.any fun kv=>decide (kv.1=k))=true then kvs.map (fun kv=>if kv.1=k then (kv.1,v) else kv) else kvs++[(k,v)]
theorem Zmi{p:κ×V}{r:List (κ×V)}{k:κ}(e:p.1=k):ZdT (p::r) k=some p.2:=by simp [ZdT,List.find?_cons,e]
theorem Zmj{p:κ×V}{r:List (κ×V)}{k:κ}(e:¬ p.1=k):ZdT (p::r) k=ZdT r k:=by simp [ZdT,List.find?_cons,e]
theorem ZeR(kvs:List (κ×V))(k:κ)(v:V):(putK kvs k v).length<=kvs.length+1:=by
 unfold putK;split
 . rw [List.length_map];omega
 . rw [OA,Os,List.length_nil];omega
theorem Zen.isSome_eq{o:Option V}{u:Option Value}(r:Zen o u):o.isSome=u.isSome:=by
 cases o with
 | none=>cases u with
   | none=>rfl
   | some _=>exact (show False from r).elim
 | some _=>cases u with
   | none=>exact (show False from r).elim
   | some _=>rfl
theorem KV.val{kvs:List (κ×V)}{vs:List (κ×Value)}(r:KV kvs vs)(k:κ):Zen (ZdT kvs k) (valueAt vs k):=by
 unfold KV at r;induction r with
 | nil=>exact True.intro
 | @cons p q ps qs h t ih =>
   obtain ⟨h1,h2⟩:=h;by_cases e:p.1=k
   . have e':q.1=k:=h1.symm.trans e;have b:valueAt (q::qs) k=some q.2:=by simp [valueAt,List.find?_cons,e']
     rw [Zmi e,b];exact h2
   . have e':¬ q.1=k:=fun z=>e (h1.trans z);have b:valueAt (q::qs) k=valueAt qs k:=by simp [valueAt,List.find?_cons,e']
     rw [Zmj e,b];exact ih
theorem KV.any{kvs:List (κ×V)}{vs:List (κ×Value)}(r:KV kvs vs)(k:κ):(kvs.any fun kv=>decide (kv.1=k))=vs.any fun kv=>decide (kv.1=k):=by
 unfold KV at r;induction r with
 | nil=>rfl
 | cons h t ih=>rw [List.any_cons,List.any_cons,ih,h.1]
theorem KV.repl{kvs:List (κ×V)}{vs:List (κ×Value)}(r:KV kvs vs)(k:κ){y:V}{u:Value}(ry:RelV y u) :
   KV (kvs.map fun kv=>if kv.1=k then (kv.1,y) else kv) (vs.map fun kv=>if kv.1=k then (kv.1,u) else kv):=by
 unfold KV at r ⊢;induction r with
 | nil=>exact .nil
 | @cons p q ps qs h t ih =>
   rw [Op,Op];refine .cons ?_ ih;obtain ⟨h1,h2⟩:=h;by_cases e:p.1=k
   . rw [if_pos e,if_pos (h1.symm.trans e)];exact ⟨h1,ry⟩
   . rw [if_neg e,if_neg (fun z=>e (h1.trans z))];exact ⟨h1,h2⟩
theorem KV.put{kvs:List (κ×V)}{vs:List (κ×Value)}(r:KV kvs vs)(k:κ){y:V}{u:Value}(ry:RelV y u):KV (putK kvs k y) (stored vs k u):=by
 unfold putK stored;rw [r.any k];by_cases e:(vs.any fun kv=>decide (kv.1=k))=true
 . rw [if_pos e,if_pos e];exact r.repl k ry
 . rw [if_neg e,if_neg e];exact Paired.snoc r ⟨rfl,ry⟩
theorem KV.length{kvs:List (κ×V)}{vs:List (κ×Value)}(r:KV kvs vs):kvs.length=vs.length:=Paired.length r
end
theorem ZiC{P:Program}{w:World}{k:Key}{u:Value}(r:RelV (kV k) u):(ZE P w).is k u=true:=by
 cases k with
 | inl i=>obtain ⟨t,e⟩:=(show ∃ t,u=Value.int i t from r);subst e;exact Zip P w i t
 | inr x=>obtain ⟨t,e⟩:=(show ∃ t,u=Value.str x t from r);subst e;exact Zio P w x t
section
variable {P:Program}{w:World}{H:Hp}{h:Heap}{a:Addr}
theorem Ztr{u:HO}(ok:HOk P w H h)(e:Rd H a u):Zak P w H h a u:=e.ok ok
theorem ZqL{kvs:List (Key×V)}(ok:HOk P w H h)(e:Rd H a (.dK kvs)):kvs.length<=sizeLine/\(a==sysModules)=false/\∃ vs,KV kvs vs/\h.DictOf (ZE P w) a vs :=
 show Zak P w H h a (.dK kvs) from Ztr ok e
theorem ZqM{kvs:List (Key×V)}(ok:HOk P w H h)(e:H a=some (.dK kvs)):kvs.length<=sizeLine/\(a==sysModules)=false/\∃ vs,KV kvs vs/\h.DictOf (ZE P w) a vs:=ZqL ok (.inl e)
end
section
variable {X:Cx}{pins:List (Addr×Obj)}{Z:St}{H:Hp}{s:Shared}{a:Addr}{y v:V}{u r:Value}{o:Option V}{A:Around}{E:Value->Shared->Prop}
theorem Inv.big(I:Inv X pins Z H s):sysModules<s.heap.objs.size:=by
 have h:mainGlobals<s.heap.objs.size:=(I.mod.glob.keeps I.bk).lt;exact Nat.lt_trans (by decide) h
theorem Zk6{h':Heap}{t':Nat}{ob:HO}(I:Inv X pins Z H s)(mu:Mut (H a))(hs:Heap.SameBut a s.heap h')(he:∃ q,h'.get? a=some q)(new:Zak X.prog X.w (upd H a ob) h' a ob) :
   Inv X pins Z (upd H a ob) {s with heap:=h',toks:=t'} :=
 I.write (x:=a) (e:=a) mu (.inl rfl) (fun b q hb z=>(hs.2 b hb).trans z) he new
theorem Zn1{P:Program}{w:World}{H':Hp}{h':Heap}{kvs:List (Key×V)}{vs:List (Key×Value)}(z:kvs.length<=sizeLine)(hd:(a==sysModules)=false)(rel:KV kvs vs)(dd:h'.DictOf (ZE P w) a vs) :
   Zak P w H' h' a (.dK kvs):=⟨z,hd,vs,rel,dd⟩
end
theorem ZiP {P:Program}{w:World}{H:Hp} (h:Heap) (hb:sysModules<h.objs.size):Zak P w H (h.push {cls:=.type "dict",data:=.dict #[]}) h.objs.size (.dK []) :=
 ⟨Nat.zero_le _,beq_eq_false_iff_ne.mpr (Ne.symm (Ou hb)),[],.nil,Heap.DictOf.new h⟩
noncomputable def Zrg:TE:=fun _ H Q=>∀ p,H p=none->Q (.ref p) (upd H p (.dK []))
section
variable {X:Cx}{pos:Pos}
theorem Zm8:PE X (.Dict [] [] pos) Zrg:=fun pins s Z H Q I h =>
 wpAny_Dict_empty ⟨.ref s.heap.objs.size,_,I.laid (a:=s.heap.objs.size) (o:=.dK []) (t':=s.toks) (fun _ _ q=>Od _ q) (Oq _) (ZiP s.heap I.big),rfl,h _ (I.hok.fresh (Oq _))⟩
end
noncomputable def Zg6:List (TE×TE)->St->Hp->(List (V×V)->Hp->Prop)->Prop
 | [],_,H,Q=>Q [] H
 | (tk,tv)::r,Z,H,Q=>tk Z H fun x H1=>tv Z H1 fun y H2=>Zg6 r Z H2 fun ps H3=>Q ((x,y)::ps) H3
noncomputable abbrev VV:List (V×V)->List (Value×Value)->Prop:=Paired fun p q=>RelV p.1 q.1/\RelV p.2 q.2
noncomputable def PPs(X:Cx)(pos:Pos)(keys:List (Option Expr))(values:List Expr)(trs:List (TE×TE)):Prop :=
 ∀ (pins:List (Addr×Obj)) (s:Shared) (Z:St) (H:Hp) (Q:List (V×V)->Hp->Prop),Inv X pins Z H s->Zg6 trs Z H Q ->
   wpAny (model X.prog X.w) X.A (evalPairs (pairTrees keys values X.env pos)) (fun vs s'=>∃ ps H',Inv X pins Z H' s'/\VV ps vs/\Q ps H') X.xe s
theorem Zo4{X:Cx}{pos:Pos}:PPs X pos [] [] []:=fun pins s Z H Q I h=>pairTrees_nil_walk ⟨[],H,I,.nil,h⟩
theorem ZmV{X:Cx}{pos:Pos}{k v:Expr}{ks:List (Option Expr)}{vs:List Expr}{tk tv:TE}{trs:List (TE×TE)}(hk:PE X k tk)(hv:PE X v tv)(hr:PPs X pos ks vs trs) :
   PPs X pos (some k::ks) (v::vs) ((tk,tv)::trs):=fun pins s Z H Q I h =>
 pairTrees_cons_walk (thn (hk pins s Z H _ I h) fun u s1 ⟨x,H1,I1,rx,q1⟩=>thn (hv pins s1 Z H1 _ I1 q1) fun w2 s2 ⟨y,H2,I2,ry,q2⟩ =>
   thn (hr pins s2 Z H2 _ I2 q2) fun ws s3 ⟨ps,H3,I3,rel,q3⟩=>⟨(x,y)::ps,H3,I3,.cons ⟨rx,ry⟩ rel,q3⟩)
noncomputable def ZdH(kvs more:List (Key×V)):List (Key×V):=more.foldl (fun acc kv=>putK acc kv.1 kv.2) kvs
theorem KV.merge:∀ {more:List (Key×V)}{rs:List (Key×Value)}{kvs:List (Key×V)}{vs:List (Key×Value)},KV more rs->KV kvs vs->KV (ZdH kvs more) (merged vs rs):=by
 intro more rs kvs vs r;unfold KV at r;induction r generalizing kvs vs with
 | nil=>intro q;exact q
 | @cons p q ps qs h t ih =>
   intro r0;have e:KV (putK kvs p.1 p.2) (stored vs q.1 q.2):=by
     have:=r0.put p.1 h.2;rw [<- h.1];exact this
   exact ih e
theorem Zdy:∀ (more kvs:List (Key×V)),(ZdH kvs more).length<=kvs.length+more.length
 | [],kvs=>by show kvs.length<=kvs.length+0;omega
 | p::r,kvs=>by
   have h1:=Zdy r (putK kvs p.1 p.2);have h2:=ZeR kvs p.1 p.2;show (ZdH (putK kvs p.1 p.2) r).length<=_;rw [Os];omega
theorem Zgb{P:Program}{w:World}:∀ {kvs:List (Key×V)}{ws:List (Value×Value)},VV (kvs.map fun kv=>(kV kv.1,kv.2)) ws->∃ rs,Carries (ZE P w) ws rs/\KV kvs rs
 | [],_,r=>by rw [Oy] at r;cases r;exact ⟨[],True.intro,.nil⟩
 | p::kvs,_,r=>by
   rw [Op] at r;cases r with
   | @cons a b as bs h t =>
     obtain ⟨rs,c,q⟩:=Zgb (P:=P) (w:=w) t;obtain ⟨b1,b2⟩:=b;exact ⟨(p.1,b2)::rs,⟨ZiC h.1,rfl,c⟩,.cons ⟨rfl,h.2⟩ q⟩
noncomputable def Zti(trs:List (TE×TE)):TE:=fun Z H Q=>∀ p,H p=none->Zg6 trs Z (upd H p (.dK [])) fun ps H2=>H2 p=some (.dK [])/\∃ kvs:List (Key×V),ps=kvs.map (fun kv=>(kV kv.1,kv.2))/\kvs.length<=15/\Q (.ref p) (upd H2 p (.dK (ZdH [] kvs)))
theorem Zpf{X:Cx}{pos:Pos}{keys:List (Option Expr)}{values:List Expr}{trs:List (TE×TE)}(h:PPs X pos keys values trs)(hall:keys.all (·.isSome)=true)(hl:keys.length=values.length)(h0:keys≠[])
   (h15:keys.length<=15):PE X (.Dict keys values pos) (Zti trs):=by
 intro pins s Z H Q I q;have hn:=I.hok.fresh (Oq s.heap.objs.size);have I1:=I.laid (a:=s.heap.objs.size) (o:=.dK []) (h':=s.heap.push {cls:=.type "dict",data:=.dict #[]}) (t':=s.toks) (fun _ _ q=>Od _ q) (Oq _) (ZiP s.heap I.big);refine wpAny_Dict_walk (knd:=ZE X.prog X.w) hall hl h0 h15 (thn (h pins _ Z _ _ I1 (q _ hn)) fun ws s2 ⟨ps,H2,I2,rel,e,kvs,ep,lk,q2⟩=>?_);subst ep;obtain ⟨rs,c,rk⟩:=Zgb (P:=X.prog) (w:=X.w) rel;obtain ⟨z,hd,vs0,r0,dd⟩:=ZqM I2.hok e;cases r0;refine ⟨rs,c,dd,fun h' dd' hs=>⟨.ref s.heap.objs.size,_,?_,rfl,q2⟩⟩;have hz:(ZdH [] kvs).length<=sizeLine:=by
   have h1:=Zdy kvs [];rw [List.length_nil] at h1;rw [sizeLine_eq];omega
 have he:∃ q,h'.get? s.heap.objs.size=some q:=let ⟨q,_,_,hq,_⟩:=dd';⟨q,hq⟩;exact Zk6 I2 (by rw [e];exact True.intro) hs he (Zn1 hz hd (rk.merge .nil) dd')
end L2
end
section
namespace L2
open PySem PySem.Spec PyProof.Rows
noncomputable def Its(x:Str):It:=⟨fun i _=>i<x.cps.size,fun i H v H'=>H'=H/\∃ c,x.cps[i]? = some c/\v=.str ⟨#[c]⟩,fun i _=>i=x.cps.size⟩
theorem Zst{M:Model}{A:Around}{E:Value->Shared->Prop}{s:Shared}{tg:Expr}{it:Addr}{x:Str}{t:Tok}{Q:Unit->Shared->Prop}(hQ:Q () s):wpAny M A (letOwnedTupleGo tg (.ref it) (.str x t)) Q E s:=by
 unfold letOwnedTupleGo;cases tg<;>exact wpAny_pure hQ
theorem ZhY{P:Program}{w:World}{K:PySem.W.Frag}{tg:Expr}{it:Addr}{x:Str}{t:Tok}{ty:String}
   (W:∀ A':Around,A'.handled=none->Walks P w A' it [it] [it] x.cps.size (SignAt x) (fun i h=>h.IsStrIter it ty x t i))
   (hself:∀ (A:Around) (i:Nat) (s:Shared) (Q:Value->Shared->Prop) (E:Value->Shared->Prop),s.heap.IsStrIter it ty x t i->Q (.ref it) s->wpAny (model P w) A (pyIter (.ref it)) Q E s) :
   Turn P w K tg (Its x) [it] it (fun i h=>h.IsStrIter it ty x t i) where
 mem:=by simp
 obj:=fun i h st b hb=>by
   have e:b=it:=by simpa using hb
   subst e;obtain ⟨o,e,c,d⟩:=st;exact ⟨o,e,fun v z=>by rw [d] at z;cases z⟩
 keep:=fun i h h' st k=>by
   obtain ⟨o,e,r⟩:=st;exact ⟨o,k it (by simp) o e,r⟩
 item:=by
   intro X hP hw hK hc i pins s Z H E I hf st hg;subst hP hw hK;obtain ⟨f0,f1,f2,f3,f4,f5⟩:=hf it (by simp);refine (W X.A (I.ok.hd hc)).item i s _ _ hg st fun v h' tk hv st' kk=>?_;obtain ⟨c,u,hcx,rfl⟩:=hv;have I1:Inv X pins Z H {s with heap:=h',toks:=tk}:=I.turned (fun b o hb e=>kk b o (by simpa using hb) e) f0 f1 f3 f4 f5;exact ⟨_,rfl,Zst ⟨.str ⟨#[c]⟩,H,I1,⟨u,rfl⟩,⟨rfl,c,hcx,rfl⟩,st',fun b hb=>(hf b hb).1⟩⟩
 done:=by
   intro X hP hw hK hc i pins s Z H E I hf st hg;subst hP hw hK;obtain ⟨f0,f1,f2,f3,f4,f5⟩:=hf it (by simp);have e:i=x.cps.size:=hg;subst e;exact (W X.A (I.ok.hd hc)).done s _ _ st fun h' tk kk=>⟨rfl,I.turned (fun b o hb e=>kk b o (by simpa using hb) e) f0 f1 f3 f4 f5⟩
 self:=hself
theorem ZcT{env:Env}:∀ (names:List (Str×NameKind)) (x:Str),
   (names.map fun (n,k)=>if (k==NameKind.free&&env.scope.kind==.function&&env.kindOf n==some .cell) then (n,NameKind.cell) else (n,k)).lookup x =
     (names.lookup x).map fun k=>if (k==NameKind.free&&env.scope.kind==.function&&env.kindOf x==some .cell) then NameKind.cell else k
 | [],_=>rfl
 | (n,k)::r,x=>by
   have ih:=@ZcT env r x;show List.lookup x ((if (k==NameKind.free&&env.scope.kind==.function&&env.kindOf n==some .cell)=true then (n,NameKind.cell) else (n,k))::_)=_;cases hx:x==n with
   | true =>
     have e:x=n:=by simpa using hx
     subst e;by_cases hc:(k==NameKind.free&&env.scope.kind==.function&&env.kindOf x==some .cell)=true
     . rw [if_pos hc];simp only [OF,hx,Option.map_some,if_pos hc]
     . rw [if_neg hc];simp only [OF,hx,Option.map_some,if_neg hc]
   | false =>
     by_cases hc:(k==NameKind.free&&env.scope.kind==.function&&env.kindOf n==some .cell)=true
     . rw [if_pos hc];simp only [OF,hx];exact ih
     . rw [if_neg hc];simp only [OF,hx];exact ih
noncomputable def ZeB(env:Env):List (Str×NameKind)->List (Str×Addr)->List (Str×Addr)
 | [],cs=>cs
 | (n,k)::r,cs=>ZeB env r (if (k==.free)=true then (n,(env.cells.lookup n).getD 0)::cs else cs)
theorem ZiU{env:Env}:∀ (l:List (Str×NameKind)) (cs:List (Str×Addr)),(∀ y∈l,y.2=.free->∃ c,env.cells.lookup y.1=some c) ->
   (∀ x c,(x,c)∈cs->env.cells.lookup x=some c)->∀ x c,(x,c)∈ZeB env l cs->env.cells.lookup x=some c
 | [],cs,_,h2,x,c,hm=>h2 x c hm
 | (n,k)::r,cs,h1,h2,x,c,hm=>by
   refine ZiU r _ (fun y hy=>h1 y (Oh _ hy)) (fun x c hm=>?_) x c hm;by_cases hk:(k==NameKind.free)=true
   . rw [if_pos hk] at hm;rcases O2.mp hm with e|hm
     . cases e;have hk':k=.free:=by
         cases k<;>first|rfl|(exact absurd hk (by decide))
       obtain ⟨c,e⟩:=h1 (n,k) Oi hk';rw [e];rfl
     . exact h2 x c hm
   . rw [if_neg hk] at hm;exact h2 x c hm
theorem ZgO{env:Env}:∀ (l:List (Str×NameKind)) (cs:List (Str×Addr)) (p:Str×Addr),p∈cs->p∈ZeB env l cs
 | [],_,_,h=>h
 | (n,k)::r,cs,p,h=>by
   refine ZgO r _ p ?_;by_cases hk:(k==NameKind.free)=true
   . rw [if_pos hk];exact Oh _ h
   . rw [if_neg hk];exact h
theorem ZiV{env:Env}:∀ (l:List (Str×NameKind)) (cs:List (Str×Addr)) (y:Str×NameKind),y∈l->y.2=.free->∃ c,(y.1,c)∈ZeB env l cs
 | (n,k)::r,cs,y,h,hf=>by
   rcases O2.mp h with e|h
   . subst e;refine ⟨(env.cells.lookup n).getD 0,ZgO r _ _ ?_⟩;have hk:(k==NameKind.free)=true:=by
       have:k=.free:=hf;subst this;rfl
     rw [if_pos hk];exact Oi
   . exact ZiV r _ y h hf
theorem Zdx{α:Type}:∀ {l:List (Str×α)}{x:Str}{c:α},(x,c)∈l->∃ c',l.lookup x=some c'/\(x,c')∈l
 | (n,d)::r,x,c,h=>by
   cases hx:x==n with
   | true =>
     have e:x=n:=by simpa using hx
     subst e;exact ⟨d,by simp [OF],Oi⟩
   | false =>
     rcases O2.mp h with e|h
     . cases e;simp at hx
     . obtain ⟨c',h1,h2⟩:=Zdx h;exact ⟨c',by simp only [OF,hx];exact h1,Oh _ h2⟩
theorem ZdD{scope:Scope}{env:Env}(h:∀ y∈scope.names,y.2=.free->∃ c,env.cells.lookup y.1=some c):closureFor scope env=pure (ZeB env scope.names []):=by
 have all:∀ (l:List (Str×NameKind)) (cs:List (Str×Addr)),(∀ y∈l,y.2=.free->∃ c,env.cells.lookup y.1=some c) ->
     (forIn l cs fun (x:Str×NameKind) r=>match x with|(name,kind)=>if (kind==NameKind.free)=true then (do let a <- cellOf env name;pure (ForInStep.yield ((name,a)::r))) else pure (ForInStep.yield r):Sem (List (Str×Addr)))=pure (ZeB env l cs):=by
   intro l;induction l with
   | nil=>intro cs _;rfl
   | cons y r ih =>
     intro cs hl;obtain ⟨n,k⟩:=y;rw [List.forIn_cons];have hr:=fun cs=>ih cs fun y hy=>hl y (Oh _ hy);by_cases hk:(k==NameKind.free)=true
     . have hk':k=.free:=by
         cases k<;>first|rfl|(exact absurd hk (by decide))
       obtain ⟨c,e⟩:=hl (n,k) Oi hk';have ec:cellOf env n=pure c:=by unfold cellOf;rw [e]
       simp only [hk,if_true,ec];show (forIn r ((n,c)::cs) _:Sem _)=_;rw [hr];show _=pure (ZeB env r (if (k==NameKind.free)=true then (n,(env.cells.lookup n).getD 0)::cs else cs));rw [if_pos hk,e];rfl
     . simp only [hk];show (forIn r cs _:Sem _)=_;rw [hr];show _=pure (ZeB env r (if (k==NameKind.free)=true then (n,(env.cells.lookup n).getD 0)::cs else cs));rw [if_neg hk]
 unfold closureFor;have z:=all scope.names [] h;dsimp only at z ⊢;rw [z];rfl
end L2
end
section
set_option tactic.hygienic false
namespace L2
open PySem PySem.Spec PyProof.Rows
theorem ZeV{prog:Program}{w:World}{A:Around}{R:Result->Shared->Prop}{s:Shared}{elt target iter:Expr}{ifs:List Expr}{scope:Scope}{pos:Pos}{it acc:Value}{env:Env}(I:Nat->Shared->Prop)
   (turn:∀ n s,I n s->wpAny (model prog w) A (pyNext it) (fun r s₁=>match r with
     | none=>R (.ok .next) s₁
     | some v=>wpAny (model prog w) A (letOwnedTupleGo target it v) (fun _ s₁'=>wpAny (model prog w) A (assign target env v) (fun _ s₂ =>
         wpAny (model prog w) A (forIn ifs true fun c r=>if r=true then do let ok <- isTrue c env (eval c env);pure (ForInStep.yield ok) else pure (ForInStep.yield r)) (fun ok s₃ =>
           if ok=true then wpAny (model prog w) A (eval elt env) (fun x s₄ =>
             wpAny (model prog w) A (call (.builtin "list.append") [acc,x]) (fun _ s₅=>∃ m,m<n/\I m s₅) (notedBy (model prog w) A env fun e s'=>R (.error e) s') s₄) (notedBy (model prog w) A env fun e s'=>R (.error e) s') s₃
           else ∃ m,m<n/\I m s₃) (notedBy (model prog w) A env fun e s'=>R (.error e) s') s₂) (notedBy (model prog w) A env fun e s'=>R (.error e) s') s₁') (notedBy (model prog w) A env fun e s'=>R (.error e) s') s₁) (notedBy (model prog w) A env fun e s'=>R (.error e) s') s)
   (n:Nat) (h:I n s) :
   codeAny (model prog w) A (.compLoop (.ListComp elt [⟨target,iter,ifs,0⟩] scope pos) 0 it acc env) R s:=by
 refine codeAny_loop rfl I (fun n s hI=>?_) n h;show wpAny _ A ((compTurn (.ListComp elt [⟨target,iter,ifs,0⟩] scope pos) 0 it acc env).onRaise (fun x=>do noteFrame x env;theTreesLotGoes x)) _ _ s;refine wpAny_noted ?_;rw [compTurn_list];refine wpAny_bind (wpAny_standAt (wpAny_bind (wpAny_mono (turn n s hI) (fun r s₁ h₁=>?_) fun _ _ h'=>h')));cases r with
 | none=>exact wpAny_pure h₁
 | some v =>
   refine wpAny_bind (wpAny_mono h₁ (fun _ s₁' h₁'=>?_) fun _ _ h'=>h');refine wpAny_bind (wpAny_mono h₁' (fun _ s₂ h₂=>wpAny_bind (wpAny_mono h₂ (fun ok s₃ h₃=>?_) fun _ _ h'=>h')) fun _ _ h'=>h');cases ok with
   | false=>exact wpAny_pure ⟨rfl,h₃⟩
   | true =>
     exact wpAny_bind (wpAny_bind (wpAny_mono h₃ (fun x s₄ h₄=>wpAny_bind (wpAny_mono h₄ (fun _ s₅ h₅=>wpAny_pure (wpAny_pure ⟨rfl,h₅⟩)) fun _ _ h'=>h')) fun _ _ h'=>h'))
structure CompSc(NC N:List Str)(js:List (Option Nat))(sc scope:Scope):Prop where
 kind:scope.kind=.function
 dkind:sc.kind=.function
 nocell:∀ y∈scope.names,y.2≠.cell
 locs:∀ y∈scope.names,y.2=.local->scope.names.lookup y.1=some .local
 free:∀ y∈scope.names,y.2=.free->sc.names.lookup y.1=some .cell
 nd:NC.Nodup
 len:js.length=NC.length
 jok:((NC.zip js).all fun p=>p.2.all fun j=>decide (N[j]? = some p.1)&&decide (scope.names.lookup p.1=some .free))=true
theorem CompSc.at{NC N:List Str}{js:List (Option Nat)}{sc scope:Scope}(S_:CompSc NC N js sc scope){i j:Nat}{x:Str}(h1:NC[i]? = some x)(h2:js[i]? = some (some j)):N[j]? = some x/\scope.names.lookup x=some .free:=by
 have h:=S_.jok;rw [OC] at h;have hm:(x,some j)∈NC.zip js:=by
   refine O1 (i:=i) ?_;rw [List.getElem?_zip_eq_some];exact ⟨h1,h2⟩
 have q:=h _ hm;simp only [Option.all_some,Oa,decide_eq_true_eq] at q;exact q
noncomputable def capt(js:List (Option Nat))(Z:St):St:=js.map fun o=>o.bind fun j=>(Z[j]?).join
noncomputable def ZB(X:Cx)(NC:List Str)(scope:Scope)(C:Addr)(s3:Shared)(H3:Hp)(fp:List Addr):Cx :=
 {X with N:=NC,s₀:=s3,H₀:=H3,env:=compEnvC scope (ZeB X.env scope.names []) C X.env,outer:=X.stack,stack:=X.stack,ex:=fp,fn:=fun _=>false,calm:=true,pn:=[],xe:=fun _ _=>False}
noncomputable def Zoo(k:Nat)(g:TG):Prop:=∀ x Z H Q,g x Z H Q->g x Z H fun σ2 H2=>Q σ2 H2/\σ2.length=Z.length/\∀ j,k<=j->σ2[j]? = Z[j]?
noncomputable def Zi4(k:Nat)(g:TGs):Prop:=∀ x Z H Q,g x Z H Q->g x Z H fun σ2 H2=>Q σ2 H2/\σ2.length=Z.length/\∀ j,k<=j->σ2[j]? = Z[j]?
theorem ZoC{i k:Nat}(h:i<k):Zoo k (ZdB i):=fun x Z H Q q=>⟨q,List.length_set,fun j hj=>by rw [Oc (by omega)]⟩
theorem Zkx{k:Nat}:Zi4 k ZpT:=fun x Z H Q q=>⟨q.1,q.2,rfl,fun _ _=>rfl⟩
theorem Zfn{i k:Nat}{u:TGs}(h:i<k)(hu:Zi4 k u):Zi4 k (ZiH (ZdB i) u):=by
 rintro xs Z H Q ⟨v,r,e,q⟩;refine ⟨v,r,e,?_⟩;have z:=hu r (Z.set i (some v)) H Q q;have z2:=hu r (Z.set i (some v)) H (fun σ2 H2=>Q σ2 H2/\σ2.length=(Z.set i (some v)).length/\∀ j,k<=j->σ2[j]? = (Z.set i (some v))[j]?) z;show u r (Z.set i (some v)) H _;have e1:(Z.set i (some v)).length=Z.length:=List.length_set;have e2:∀ j,k<=j->(Z.set i (some v))[j]? = Z[j]? := fun j hj=>Oc (by omega);have e3:(fun σ2 H2=>Q σ2 H2/\σ2.length=Z.length/\∀ j,k<=j->σ2[j]? = Z[j]?)=(fun σ2 H2=>Q σ2 H2/\σ2.length=(Z.set i (some v)).length/\∀ j,k<=j->σ2[j]? = (Z.set i (some v))[j]?):=by
   funext σ2 H2;rw [e1];refine propext ⟨fun ⟨a,b,c⟩=>⟨a,b,fun j hj=>(c j hj).trans (e2 j hj).symm⟩,fun ⟨a,b,c⟩=>⟨a,b,fun j hj=>(c j hj).trans (e2 j hj)⟩⟩
 rw [e3];exact z
theorem Zmn{K:PySem.W.Frag}{n k:Nat}{u:TGs}(hu:Zi4 k u):Zoo k (ZpS K n u):=by
 rintro x Z H Q ⟨a,xs,e,h1,h2,q⟩;exact ⟨a,xs,e,h1,h2,hu xs Z H Q q⟩
noncomputable def PIf(X:Cx)(ifs:List Expr)(t:TT):Prop :=
 ∀ (pins:List (Addr×Obj)) (s:Shared) (Z:St) (H:Hp) (Q:Bool->Hp->Prop),Inv X pins Z H s->t Z H Q ->
   wpAny (model X.prog X.w) X.A (forIn ifs true fun c r=>if r=true then do let ok <- isTrue c X.env (eval c X.env);pure (ForInStep.yield ok) else pure (ForInStep.yield r)) (TP X pins Z Q) X.xe s
noncomputable def ZuW:TT:=fun _ H Q=>Q true H
theorem Zo8{X:Cx}:PIf X [] ZuW:=fun _ _ _ H _ I h=>wpAny_tests_nil ⟨H,I,h⟩
theorem Zo7{X:Cx}{c:Expr}{t:TT}(hc:PT X c t):PIf X [c] t:=fun pins s Z H Q I h=>wpAny_tests_one (hc pins s Z H Q I h)
noncomputable def Zqw(wi:TI)(js:List (Option Nat))(g:TG)(tc:TT)(te:TE):TE:=fun Z H Q=>wi Z H fun J H1=>∀ D,H1 D=none->∃ W:Nat->Nat->List V->Hp->Prop,(∃ m,W 0 m [] (upd H1 D (.lst []))) /\
 ∀ i m ys H,W i m ys H->H D=some (.lst ys)->(J.stop i H/\Q (.ref D) H) \/
   (J.go i H/\ys.length<sizeLine/\∀ x H',J.yld i H x H'->g x (capt js Z) H' fun σ2 H2=>tc σ2 H2 fun b H3 =>
     if b=true then te σ2 H3 fun y H4=>H4 D=some (.lst ys)/\∃ m',m'<m/\W (i+1) m' (ys++[y]) (upd H4 D (.lst (ys++[y])))
     else H3 D=some (.lst ys)/\∃ m',m'<m/\W (i+1) m' ys H3)
section
variable {X:Cx}{pins:List (Addr×Obj)}{Z:St}{H:Hp}{s:Shared}
theorem ZiF{NC:List Str}{js:List (Option Nat)}{sc scope:Scope}{C:Addr}{h4:Heap}{tk:Nat}{fp:List Addr}{m:Str->Option Value}(S_:CompSc NC X.N js sc scope)(hsc:X.env.scope=sc)(hc:X.calm=true)
   (I:Inv X pins Z H s) (f:∀ b∈fp,Zdd X pins H b) (fo:∀ b∈fp,∃ o,s.heap.get? b=some o) (hC:C=s.heap.objs.size) (hns:h4.Ns C m) (hk:∀ b o,s.heap.get? b=some o->h4.get? b=some o) :
   Inv (ZB X NC scope C s H fp) [] (capt js Z) H {s with heap:=h4,toks:=tk}:=by
 have hcells:∀ y∈scope.names,y.2=.free->∃ c,X.env.cells.lookup y.1=some c:=fun y hy hf=>I.ok.has y.1 (.inl (show X.env.scope.names.lookup y.1=some .cell by rw [hsc];exact S_.free y hy hf));have cl1:∀ x c,(ZeB X.env scope.names []).lookup x=some c->X.env.cells.lookup x=some c:=fun x c e=>ZiU scope.names [] hcells (fun _ _ z=>by cases z) x c (PySem.mem_of_lookup e);have cl2:∀ y∈scope.names,y.2=.free->∃ c,(ZeB X.env scope.names []).lookup y.1=some c:=fun y hy hf=>by
   obtain ⟨c,hm⟩:=ZiV (env:=X.env) scope.names [] y hy hf;obtain ⟨c',e,_⟩:=Zdx hm;exact ⟨c',e⟩
 have kinds:∀ x,(ZB X NC scope C s H fp).env.kindOf x=(scope.names.lookup x).map fun k=>if (k==NameKind.free&&X.env.scope.kind==.function&&X.env.kindOf x==some .cell) then NameKind.cell else k:=fun x=>ZcT scope.names x;have fcell:∀ x,scope.names.lookup x=some .free->(ZB X NC scope C s H fp).env.kindOf x=some .cell:=fun x e=>by
   rw [kinds,e];have h1:X.env.kindOf x=some .cell:=show X.env.scope.names.lookup x=some .cell by rw [hsc];exact S_.free (x,.free) (PySem.mem_of_lookup e) rfl
   have h2:X.env.scope.kind=.function:=I.ok.kind;simp only [Option.map_some,h1,h2];rfl
 have flt:∀ b∈fp,b<s.heap.objs.size:=fun b hb=>let ⟨o,e⟩:=fo b hb;Heap.lt_size e;refine ⟨⟨I.ok.mod,S_.kind,I.ok.glob,I.ok.blt,Nat.le_of_eq hC.symm,fun x y c h1 h2=>I.ok.inj x y c (cl1 x c h1) (cl1 y c h2),fun x hx=>?_,fun x c hf _=>absurd (show false=true from hf) Ow,fun _=>I.ok.hd hc,I.ok.frames,.inl rfl,fun b hb=>⟨?_,fun x c e=>(f b hb).2.2.2.2.1 x c (cl1 x c e)⟩,
     I.bs,OE I.ok.bsz I.sz,fun b o e hb=>?_,fun b hb hm=>?_,I.stack,I.stkFree⟩,
   rfl,I.bare,Un.kept hk,⟨m,hns,fun i x v h1 h2 h3=>?_⟩,fun x c e=>?_,?_,fun x c e=>I.freeC x c (cl1 x c e),fun p hp=>absurd (show p∈([]:List (Addr×Obj)) from hp) (by simp),I.hok.kept hk,?_⟩
 . rw [kinds] at hx;cases e:scope.names.lookup x with
   | none=>rw [e] at hx;rcases hx with hx|hx<;>cases hx
   | some k =>
     rw [e] at hx;have hm:=PySem.mem_of_lookup e;have hk:k=.free:=by
       by_cases hf:(k==NameKind.free)=true
       . cases k<;>first|rfl|(exact absurd hf (by decide))
       . have hf':(k==NameKind.free)=false:=Bool.eq_false_iff.mpr hf;simp only [Option.map_some,hf',Bool.false_and,OG,if_false] at hx;rcases hx with hx|hx
         . exact absurd (Option.some.inj hx) (S_.nocell _ hm)
         . exact Option.some.inj hx
     exact cl2 (x,k) hm hk
 . show b≠C;rw [hC];exact Ou (flt b hb)
 . obtain ⟨_,_,_,f3,_⟩:=f b hb;rcases f3 with z|z
   . exact I.ok.noex b o e z
   . exact absurd (O3 (Heap.lt_size e) (OE I.ok.bsz z)) (Nat.lt_irrefl _)
 . obtain ⟨_,f1,f2,_⟩:=f b hb;exact (O2.mp (I.stkSub b hm)).elim f1 f2
 . have hj:∃ j,js[i]? = some (some j)/\Z[j]? = some (some v):=by
     unfold capt at h2;rw [On] at h2;cases e:js[i]? with
     | none=>rw [e] at h2;cases h2
     | some o =>
       rw [e] at h2;have h2':(o.bind fun j=>(Z[j]?).join)=some v:=Option.some.inj h2;cases o with
       | none=>cases h2'
       | some j =>
         refine ⟨j,rfl,?_⟩;have h3':(Z[j]?).join=some v:=h2';cases q:Z[j]? with
         | none=>rw [q] at h3';cases h3'
         | some r=>rw [q] at h3';rw [show r=some v from h3']
   obtain ⟨j,hj,hσ⟩:=hj;obtain ⟨hN,hfr⟩:=S_.at (show NC[i]? = some x from h1) hj;have hcell:X.env.scope.names.lookup x=some .cell:=by rw [hsc];exact S_.free (x,.free) (PySem.mem_of_lookup hfr) rfl
   obtain ⟨m0,_,hl⟩:=I.loc;obtain ⟨u,r,l⟩:=hl j x v hN hσ (.inr (.inl hcell));refine ⟨u,r,?_⟩;rcases l with ⟨k,_⟩|⟨_,c,e,z⟩
   . rw [show X.env.kindOf x=some .cell from hcell] at k;cases k
   . obtain ⟨c',e'⟩:=cl2 (x,.free) (PySem.mem_of_lookup hfr) rfl;have ec:=cl1 x c' e';rw [e] at ec;cases ec;obtain ⟨o,ho,hd⟩:=z;exact .inr ⟨.inl (fcell x hfr),c,e',o,hk _ _ ho,hd⟩
 . obtain ⟨v,o,ho,hd⟩:=I.cell x c (cl1 x c e);exact ⟨v,o,hk _ _ ho,hd⟩
 . show H C=none;rw [hC];exact I.hok.fresh (Oq _)
 . unfold capt;rw [List.length_map];exact S_.len
end
section
variable {X:Cx}{elt tg iter:Expr}{ifs:List Expr}{scope sc:Scope}{pos:Pos}{NC:List Str}{js:List (Option Nat)}{k:Nat}{wi:TI}{g:TG}{tc:TT}{te:TE}
theorem Inv.comp_out{pins:List (Addr×Obj)}{Z σ':St}{H3 H':Hp}{s3 s1:Shared}{C:Addr}{fp:List Addr}{h'':Heap}(I3:Inv X pins Z H3 s3)(f:∀ b∈fp,Zdd X pins H3 b)(hC:C=s3.heap.objs.size)
   (I':Inv (ZB X NC scope C s3 H3 fp) [] σ' H' s1) (hs:Heap.SameBut C s1.heap h''):Inv X pins Z H' {s1 with heap:=h''}:=by
 have ne:∀ b o,s3.heap.get? b=some o->b≠C:=fun b o e=>by rw [hC];exact Ou (Heap.lt_size e)
 have u:=I'.base;refine I3.call' (s':={s1 with heap:=h''}) (ch:=fp) I'.os ⟨fun b o e n hb hx=>(hs.2 b (ne b o e)).trans (u.keep b o e n hb hx),fun b o e n hb hx=>?_,u.free,fun b o e hx=>?_,u.tups,u.frzs,u.tbls⟩ ?_ I'.bare fun b hb=>?_
 . obtain ⟨sl,q⟩:=u.slot b o e n hb hx;exact ⟨sl,(hs.2 b (ne b o e)).trans q⟩
 . obtain ⟨o',q⟩:=u.there b o e hx;exact ⟨o',(hs.2 b (ne b o e)).trans q⟩
 . have hfree:H' C=none:=I'.free;intro b ob e;refine (I'.hok b ob e).stay (fun c w' hc q=>(hs.2 c ?_).trans q) (fun _ q=>q) fun _ _ q=>q;rintro rfl;rcases hc with rfl|hc
   . rw [hfree] at e;cases e
   . rw [hfree] at hc;cases hc
 . obtain ⟨_,f1,_,f3,f4,f5⟩:=f b hb;exact ⟨f3,f1,f4,f5⟩
theorem Zpg(S_:CompSc NC X.N js sc scope)(hsc:X.env.scope=sc)(hc:X.calm=true)(hi:PI X tg iter wi)
   (hb:∀ (C:Addr) (s3:Shared) (H3:Hp) (fp:List Addr),PG (ZB X NC scope C s3 H3 fp) tg g/\PIf (ZB X NC scope C s3 H3 fp) ifs tc/\PE (ZB X NC scope C s3 H3 fp) elt te)
   (hk:Zoo k g) (hjk:∀ j,j<k->js[j]? = some none) (hs:∀ x,foldedSetIterable iter X.env x=pure x:=by intro _;rfl) :
   PE X (.ListComp elt [⟨tg,iter,ifs,0⟩] scope pos) (Zqw wi js g tc te):=by
 intro pins s Z H Q I h;have hcells:∀ y∈scope.names,y.2=.free->∃ c,X.env.cells.lookup y.1=some c:=fun y hy hf=>I.ok.has y.1 (.inl (show X.env.scope.names.lookup y.1=some .cell by rw [hsc];exact S_.free y hy hf));rw [eval_ListComp];refine wpAny_comprehension_free (use:=none) rfl hs (ZdD hcells) S_.kind S_.locs (thn (hi pins s Z H _ I h) fun xv s1 h1=>thn h1 fun itv s2 h2=>?_);obtain ⟨it,fp,tn,J,H2,e,I2,T,st2,f2,rest⟩:=h2;subst e;have hD:H2 s2.heap.objs.size=none:=I2.hok.fresh (Oq _);obtain ⟨W,⟨m0,w0⟩,turn⟩:=rest s2.heap.objs.size hD;refine wpAny_newObj_type (wpAny_newFunctionEnv S_.nocell (by intro y hy;simp at hy) (fun h4 hns hsb=>?_) S_.kind);have I3:Inv X pins Z (upd H2 s2.heap.objs.size (.lst [])) {s2 with heap:=s2.heap.push {cls:=.type "list",dict:=none,data:=.seq ([]:List Value).toArray}}:=I2.lnew (t':=s2.toks) (ys:=[]) (its:=[]) .nil (Nat.zero_le _);dsimp only at hns hsb ⊢;generalize hs3:({s2 with heap:=s2.heap.push {cls:=.type "list",dict:=none,data:=.seq ([]:List Value).toArray}}:Shared)=s3 at I3;have eh:s2.heap.push {cls:=.type "list",dict:=none,data:=.seq ([]:List Value).toArray}=s3.heap:=by rw [<- hs3]
 have eD:s2.heap.objs.size<s3.heap.objs.size:=by rw [<- eh,Heap.size_push];exact OH _
 rw [eh] at hns hsb;have keep:∀ b o,s3.heap.get? b=some o->h4.get? b=some o:=fun b o e=>(hsb.2 b (Ou (Heap.lt_size e))).trans (Od _ e);have fpl:∀ b∈fp,∃ o,s3.heap.get? b=some o:=fun b hb=>by
   obtain ⟨o,e,_⟩:=T.obj 0 _ st2 b hb;exact ⟨o,by rw [<- eh];exact Od _ e⟩
 have neD:∀ b∈fp,b≠s2.heap.objs.size:=fun b hb=>by
   obtain ⟨o,e,_⟩:=T.obj 0 _ st2 b hb;exact Ou (Heap.lt_size e)
 have f3:∀ b∈fp,Zdd X pins (upd H2 s2.heap.objs.size (.lst [])) b:=fun b hb=>⟨by rw [Zg (neD b hb)];exact (f2 b hb).1,(f2 b hb).2⟩
 have I4:=ZiF (tk:=s2.toks+([]:List (Str×Value)).length) S_ hsc hc I3 f3 fpl rfl hns keep;have st4:tn 0 h4:=T.keep 0 _ _ st2 fun b hb o e=>keep b o (by rw [<- eh];exact Od _ e);have stat:∀ {H':Hp},(∀ b∈fp,H' b=none)->∀ b∈fp,Zdd (ZB X NC scope s3.heap.objs.size s3 (upd H2 s2.heap.objs.size (.lst [])) fp) [] H' b:=fun hn b hb =>
   ⟨hn b hb,Ou (let ⟨o,e⟩:=fpl b hb;Heap.lt_size e),fun hm=>I4.ok.exfs b hb hm,.inl hb,fun x c e=>(I4.ok.exf b hb).2 x c e,fun p hp=>absurd (show p∈([]:List (Addr×Obj)) from hp) (by simp)⟩
 have eC:(s2.heap.push {cls:=.type "list",dict:=none,data:=.seq ([]:List Value).toArray}).objs.size=s3.heap.objs.size:=by rw [eh]
 have loop:∀ s4:Shared,s4={s3 with heap:=h4,toks:=s2.toks+([]:List (Str×Value)).length} ->
     codeAny (model X.prog X.w) X.A (.compLoop (.ListComp elt [⟨tg,iter,ifs,0⟩] scope pos) 0 (.ref it) (.ref s2.heap.objs.size) (compEnvC scope (ZeB X.env scope.names []) s3.heap.objs.size X.env))
       (compPost (model X.prog X.w) X.A X.xe none (EP X pins Z Q) (.ref s2.heap.objs.size) s3.heap.objs.size) s4:=by
   rintro s4 rfl;refine ZeV (fun n s'=>∃ i ys H',Inv (ZB X NC scope s3.heap.objs.size s3 (upd H2 s2.heap.objs.size (.lst [])) fp) [] (capt js Z) H' s'/\tn i s'.heap/\(∀ b∈fp,H' b=none)/\H' s2.heap.objs.size=some (.lst ys)/\W i n ys H') ?_ m0
     ⟨0,[],_,I4,st4,fun b hb=>(f3 b hb).1,Zi,w0⟩
   rintro n s5 ⟨i,ys,H5,I5,st5,fr5,hD5,w5⟩;rcases turn i n ys H5 w5 hD5 with ⟨stop,qn⟩|⟨go,hlen,step⟩
   . refine wpAny_mono (T.done (ZB X NC scope s3.heap.objs.size s3 (upd H2 s2.heap.objs.size (.lst [])) fp) rfl rfl rfl rfl i [] s5 (capt js Z) H5 (fun _ _=>False) I5 (stat fr5) st5 stop) (fun r s6 ⟨hr,I6⟩=>?_) fun _ _ z=>z.elim;subst hr;obtain ⟨m,hm,_⟩:=I6.loc;exact ⟨m,hm,fun h' hs'=>⟨.ref s2.heap.objs.size,H5,I3.comp_out f3 rfl I6 hs',rfl,qn⟩⟩
   . refine wpAny_mono (T.item (ZB X NC scope s3.heap.objs.size s3 (upd H2 s2.heap.objs.size (.lst [])) fp) rfl rfl rfl rfl i [] s5 (capt js Z) H5 (fun _ _=>False) I5 (stat fr5) st5 go) (fun r s6 ⟨u,hr,h6⟩=>?_) fun _ _ z=>z.elim;subst hr;refine wpAny_mono h6 (fun _ s7 ⟨x,H7,I7,r7,y7,st7,fr7⟩=>?_) fun _ _ z=>z.elim;have I7':=I7.pinned (stat fr7) (T.obj _ _ st7);obtain ⟨pg,pif,pe⟩:=hb s3.heap.objs.size s3 (upd H2 s2.heap.objs.size (.lst [])) fp;refine wpAny_mono (pg _ s7 (capt js Z) H7 x u _ I7' r7 (hk _ _ _ _ (step x H7 y7))) (fun _ s8 ⟨σ8,H8,I8,q8,l8,k8⟩=>?_) fun _ _ z=>z.elim;have back:∀ {H9:Hp}{s9:Shared},Inv (ZB X NC scope s3.heap.objs.size s3 (upd H2 s2.heap.objs.size (.lst [])) fp) ([]++Zet fp s7.heap) σ8 H9 s9 ->
         Inv (ZB X NC scope s3.heap.objs.size s3 (upd H2 s2.heap.objs.size (.lst [])) fp) [] (capt js Z) H9 s9/\tn (i+1) s9.heap/\∀ b∈fp,H9 b=none:=fun {H9 s9} I9=>by
       refine ⟨(I9.unpinned).weak l8.symm fun j v e=>?_,T.keep _ _ _ st7 fun b hb o e=>(I9.pin (b,o) (Ov _ (Ov _ (ZaT hb e)))).1,fun b hb=>?_⟩
       . by_cases hj:j<k
         . unfold capt at e;rw [On,hjk j hj] at e;cases e
         . rw [k8 j (Nat.le_of_not_lt hj)];exact e
       . obtain ⟨o,e,d⟩:=T.obj _ _ st7 b hb;exact (I9.pin (b,o) (Ov _ (Ov _ (ZaT hb e)))).2.1
     refine wpAny_mono (pif _ s8 σ8 H8 _ I8 q8) (fun ok s9 ⟨H9,I9,q9⟩=>?_) fun _ _ z=>z.elim;cases ok with
     | false =>
       rw [if_neg Ow] at q9 ⊢;obtain ⟨hD9,m',hm,w9⟩:=q9;obtain ⟨b1,b2,b3⟩:=back I9;exact ⟨m',hm,i+1,ys,H9,b1,b2,b3,hD9,w9⟩
     | true =>
       rw [if_pos rfl] at q9 ⊢;refine wpAny_mono (pe _ s9 σ8 H9 _ I9 q9) (fun y s10 ⟨v,H10,I10,r10,hD10,m',hm,w10⟩=>?_) fun _ _ z=>z.elim;refine wpAny_mono (Zeu (X:=ZB X NC scope s3.heap.objs.size s3 (upd H2 s2.heap.objs.size (.lst [])) fp) _ s10 σ8 H10 (.ref s2.heap.objs.size) [v] (.ref s2.heap.objs.size) [y]
         (fun _ H11=>H11=upd H10 s2.heap.objs.size (.lst (ys++[v]))) I10 rfl (.cons r10 .nil) ⟨_,ys,v,rfl,rfl,hD10,hlen,rfl⟩) (fun _ s11 ⟨_,H11,I11,_,e11⟩=>?_) fun _ _ z=>z.elim
       subst e11;obtain ⟨b1,b2,b3⟩:=back I11;exact ⟨m',hm,i+1,ys++[v],_,b1,b2,b3,Zi,w10⟩
 have e4:({s2 with heap:=h4,toks:=s2.toks+([]:List (Str×Value)).length}:Shared)={s3 with heap:=h4,toks:=s2.toks+([]:List (Str×Value)).length}:=by rw [<- hs3]
 rw [eC];exact codeAny_compStart_list (loop _ e4) (T.self X.A 0 _ _ _ st4 (loop _ e4))
end
end L2
end
section
namespace L2
open PySem PySem.Spec PyProof.Rows
section
variable {X:Cx}
noncomputable def TyN(K:PySem.W.Frag)(x:V)(H:Hp)(t:String):Prop:=match x with
 | .int _=>t = "int"
 | .str _=>t = "str"
 | .bl _=>t = "bool"
 | .non=>t = "NoneType"
 | .ref p=>(t = "list" /\ ∃ xs,SqL K H p xs)\/(t = "tuple" /\ ∃ xs,SqT K H p xs)
 | _=>False
theorem Zn8:Zcp X (.builtin "isinstance") (fun xs H Q=>∃ x t T b,xs=[x,.ty T]/\TyN X.K x H t/\PySem.W.kitOne X.K (.type t) (.type T)=some b/\Q (.bl b) H):=by
 intro pins s Z H xs us Q I r h;obtain ⟨x,t,T,b,rfl,ty,e,q⟩:=h;obtain ⟨u,w',rfl,rx,rT⟩:=vals2 r;obtain rfl:w'=Value.type T:=rT;have fin:∀ tk,EP X pins Z Q (.bool b) {s with toks:=tk}:=fun tk=>⟨.bl b,H,I.tok tk,rfl,q⟩
 cases x with
 | int i =>
   obtain ⟨tk,rfl⟩:=rx;obtain rfl:t = "int" := ty;exact PySem.W.kia_one PySem.W.kitx_int I.kIn trivial e (by intro z;cases z) fin
 | str i =>
   obtain ⟨tk,rfl⟩:=rx;obtain rfl:t = "str" := ty;exact PySem.W.kia_one PySem.W.kitx_str I.kIn trivial e (by intro z;cases z) fin
 | bl i =>
   obtain rfl:u=Value.bool i:=rx;obtain rfl:t = "bool" := ty;exact PySem.W.kia_one PySem.W.kitx_bool I.kIn trivial e (by intro z;cases z) fin
 | non =>
   obtain rfl:u=Value.none:=rx;obtain rfl:t = "NoneType" := ty;exact PySem.W.kia_one PySem.W.kitx_none I.kIn trivial e (by intro z;cases z) fin
 | ref p =>
   obtain rfl:u=Value.ref p:=rx;rcases ty with ⟨rfl,xs,hx⟩|⟨rfl,xs,hx⟩
   . obtain ⟨its,_,pl,_⟩:=I.list hx;exact PySem.W.kia_one PySem.W.kitx_list I.kIn pl.isList.typeIs e (by intro z;cases z) fin
   . obtain ⟨its,_,pl,_⟩:=I.tuple hx;exact PySem.W.kia_one PySem.W.kitx_tuple I.kIn pl.typeIs e (by intro z;cases z) fin
 | _=>exact (show False from ty).elim
theorem ZlS{K:PySem.W.Frag}{t T:String}{b:Bool}(h:PySem.W.kitOne [] (.type t) (.type T)=some b):PySem.W.kitOne K (.type t) (.type T)=some b:=h
noncomputable def Zvk:V->Option Int->Option Int->Hp->VK->Prop:=fun x lo hi H Q=>∃ y,x=.str y/\y.length<=sizeLine/\Q (.str (StrLaws.sliceText y lo hi)) H
theorem Zrl:SlR X Zvk:=by
 intro pins s Z H x v vl vu lo hi sl Q I rx hs pl pu h;obtain ⟨y,rfl,hz,q⟩:=h;obtain ⟨t,rfl⟩:=rx;refine ⟨"str",_,F.slot_str_getitem.lookup,typeIs_str _ _ _,?_⟩;have go:∀ (l u:Option (Int×Tok)),vl=partValue l->vu=partValue u->lo=l.map (·.1)->hi=u.map (·.1)->wpAny (model X.prog X.w) X.A (getItem (.str y t) (.ref sl)) (EP X pins Z Q) X.xe s:=by
   rintro l u rfl rfl rfl rfl;refine wpAny_getItem_str_slice (l:=l) (u:=u) (st:=none) hs rfl ?_;refine post_val_or_str ⟨OE (Txt.slice_le y _ _) hz,fun t' k=>⟨.str _,H,I.tok k,⟨t',rfl⟩,q⟩⟩
 cases pl with
 | none =>
   cases pu with
   | none=>exact go none none rfl rfl rfl rfl
   | int j tj=>exact go none (some (j,tj)) rfl rfl rfl rfl
 | int i ti =>
   cases pu with
   | none=>exact go (some (i,ti)) none rfl rfl rfl rfl
   | int j tj=>exact go (some (i,ti)) (some (j,tj)) rfl rfl rfl rfl
end
end L2
end
section
namespace L2
open PySem PySem.Spec PyProof.Rows
theorem Zak.there{P:Program}{w:World}{H:Hp}{h:Heap}{a:Addr}{o:HO}(x:Zak P w H h a o):∃ ob,h.get? a=some ob:=by
 cases o with
 | lst xs=>obtain ⟨_,_,_,_,e⟩:=x;exact ⟨_,e⟩
 | tup xs=>obtain ⟨_,_,_,ob,e,_⟩:=x;exact ⟨_,e⟩
 | dK kvs=>obtain ⟨_,_,_,_,o,_,_,e,_⟩:=x;exact ⟨_,e⟩
 | dT kvs=>obtain ⟨_,_,_,_,o,_,_,e,_⟩:=x;exact ⟨_,e⟩
 | set S_ n=>obtain ⟨o,_,_,_,e,_⟩:=x;exact ⟨_,e⟩
 | ins C dx fs=>obtain ⟨_,_,_,e,_⟩:=x;exact ⟨_,e⟩
 | own y=>obtain ⟨_,e⟩:=x;exact ⟨_,e⟩
 | xd fs=>obtain ⟨_,⟨_,_,_,e,_⟩,_⟩:=x;exact ⟨_,e⟩
 | rng lo hi=>obtain ⟨_,_,_,e⟩:=x;exact ⟨_,e⟩
 | frz ob u=>obtain ⟨e,_⟩:=x;exact ⟨_,e⟩
 | tbl ps=>exact ⟨_,(show h.get? a=some _ from x)⟩
 | met f y=>exact ⟨_,(show h.get? a=some _ from x)⟩
 | ext φ=>obtain ⟨_,⟨_,e⟩,_⟩:=x;exact ⟨_,e⟩
noncomputable def Kept(fs:List Addr)(H':Hp)(h h1 B_:Heap):Prop:=∀ b o,h1.get? b=some o->(H' b≠none\/((∃ o',h.get? b=some o')/\b ∉ fs))->B_.get? b=some o
noncomputable def CXF(P:Program)(w:World):CXT:=fun outer H s E e s' =>
 ∃ (a:Addr) (cls a0:Value) (H':Hp) (B_:Heap),e=.ref a/\s'.os=s.os/\AllBare s'.gens/\Un (frs outer) [] H H' s.heap s'.heap/\HOk P w H' s'.heap /\
   Heap.FlyingW B_ outer a cls a0 s'.heap/\Kept (frs outer) H' s.heap s'.heap B_/\H' a=none/\E cls none H'
theorem ZdI{P:Program}{w:World}{fs:List Addr}{H H':Hp}{h h1 h2 B_:Heap}(un:Un fs [] H H' h h1)(hok:HOk P w H' h1)(kb:Kept fs H' h h1 B_)(stay:B_.StaysIn h2)(up:h1.UpToSlots h2)
   (hf:∀ b∈fs,∃ o,h1.get? b=some o/\∀ vs,o.data≠.fields vs):Un fs [] H H' h h2/\HOk P w H' h2/\Kept fs H' h h2 B_:=by
 have tr:∀ b u,H' b=some u->∃ o,h1.get? b=some o/\h2.get? b=some o/\B_.get? b=some o:=fun b u e=>by
   obtain ⟨o,q⟩:=(hok b u e).there;have z:=kb b o q (.inl (by rw [e];simp));exact ⟨o,q,stay _ _ z,z⟩
 have old:∀ b o,h.get? b=some o->b ∉ fs->∃ o1,h1.get? b=some o1/\h2.get? b=some o1/\B_.get? b=some o1:=fun b o e hb=>by
   obtain ⟨o1,q⟩:=un.there b o e (by simp);have z:=kb b o1 q (.inr ⟨⟨o,e⟩,hb⟩);exact ⟨o1,q,stay _ _ z,z⟩
 refine ⟨⟨fun b o e n hb _=>?_,fun b o e n hb _=>?_,fun b o e n _=>un.free b o e n (by simp),fun b o e _=>?_,un.tups,un.frzs,un.tbls⟩,fun b u e=>?_,fun b o e hb=>?_⟩
 . obtain ⟨o1,q1,q2,_⟩:=old b o e hb;have z:=un.keep b o e n hb (by simp);rw [q1] at z;cases z;exact q2
 . obtain ⟨sl,z⟩:=un.slot b o e n hb (by simp);obtain ⟨o',z',nf⟩:=hf b hb;rw [z] at z';cases z';obtain ⟨sl',q⟩:=up b _ z nf;exact ⟨sl',q⟩
 . by_cases hb:b∈fs
   . obtain ⟨o',z',nf⟩:=hf b hb;obtain ⟨sl',q⟩:=up b _ z' nf;exact ⟨_,q⟩
   . obtain ⟨o1,_,q2,_⟩:=old b o e hb;exact ⟨_,q2⟩
 . refine (hok b u e).stay (fun c v hc q=>?_) (fun _ q=>q) fun _ _ q=>q;have hc':∃ u',H' c=some u':=by
     rcases hc with rfl|hc
     . exact ⟨u,e⟩
     . exact ⟨_,hc⟩
   obtain ⟨u',e'⟩:=hc';obtain ⟨o,q1,q2,_⟩:=tr c u' e';rw [q] at q1;cases q1;exact q2
 . rcases hb with hb|⟨⟨o',e'⟩,hb⟩
   . cases q:H' b with
     | none=>exact absurd q hb
     | some u =>
       obtain ⟨o1,q1,q2,q3⟩:=tr b u q;rw [e] at q2;cases q2;exact q3
   . obtain ⟨o1,q1,q2,q3⟩:=old b o' e' hb;rw [e] at q2;cases q2;exact q3
noncomputable def ZhV(X:Cx)(E:XK):Prop:=∀ (pins:List (Addr×Obj)) (Z:St) (H:Hp) (s:Shared) (h':Heap) (e:Addr) (cls:Value) (vs:List Value),Inv X pins Z H s->Heap.MadeExcOf s.heap h' e cls vs->E cls none H->X.xe (.ref e) {s with heap:=h'}
section
variable {P:Program}{w:World}{K:PySem.W.Frag}{mg:Str->Option Value}{base:Heap}{N:List Str}{qual:Str}{scope:Scope}{f:Addr}{cd:Value}{A:Around}{outer:List Env}{s0:Shared}{H0:Hp}{E:XK}
theorem ZmE:ZhV (Zj9 (CXF P w) P w K mg base N qual scope f cd A outer s0 H0 E) E:=by
 intro pins Z H s h' e cls vs I hx hE;have hfr:(A.deeper (envOfC qual scope s0.heap.objs.size f cd)).frames=some (envOfC qual scope s0.heap.objs.size f cd::outer):=I.ok.frames;have hin:∀ env∈(envOfC qual scope s0.heap.objs.size f cd::outer),∀ b,env.frame=some b->b∈(envOfC qual scope s0.heap.objs.size f cd::outer).filterMap (·.frame):=fun env he b hb=>List.mem_filterMap.mpr ⟨env,he,hb⟩;have hst:s.heap.FunFrames base (envOfC qual scope s0.heap.objs.size f cd::outer):=I.stack;show wpAny (model P w) (A.deeper (envOfC qual scope s0.heap.objs.size f cd)) (leaving (envOfC qual scope s0.heap.objs.size f cd) (.ref e)) _ _ {s with heap:=h'};refine wpAny_leaves_madeW (s:={s with heap:=h'}) (base:=PySem.W.hideAll s.heap (frs (envOfC qual scope s0.heap.objs.size f cd::outer))) hfr rfl (fun b o q=>PySem.W.of_hideAll _ q) (PySem.W.funFrames_hide hst hin) hx fun h'' t x1 x2 x3 x4=>?_;have un:Un (frs outer) [] H0 H s0.heap h':=(I.base:Un (frs outer) [] H0 H s0.heap s.heap).trans (Un.kept hx.keeps);have hok:HOk P w H h':=I.hok.kept hx.keeps;have kb:Kept (frs outer) H s0.heap h' (PySem.W.hideAll s.heap (frs (envOfC qual scope s0.heap.objs.size f cd::outer))):=fun b o e1 hb=>by
   rcases hb with hb|⟨⟨o',e'⟩,hb⟩
   . cases q:H b with
     | none=>exact absurd q hb
     | some u =>
       obtain ⟨o1,q1⟩:=(I.hok b u q).there;have q2:=hx.keeps b o1 q1;rw [e1] at q2;cases q2;exact PySem.W.hideAll_get _ q1 fun hm=>by
         have z:H b=none:=I.stkFree b hm;rw [q] at z;cases z
   . obtain ⟨o1,q1⟩:=(I.base:Un (frs outer) [] H0 H s0.heap s.heap).there b o' e' (show b ∉ ([]:List Addr) from List.not_mem_nil);have q2:=hx.keeps b o1 q1;rw [e1] at q2;cases q2;refine PySem.W.hideAll_get _ q1 fun hm=>?_;have hm':b∈s0.heap.objs.size::frs outer:=I.stkSub b hm;rcases O2.mp hm' with z|z
     . rw [z] at e';exact absurd (Heap.lt_size e') (Nat.lt_irrefl _)
     . exact hb z
 have hfo:∀ b∈frs outer,∃ o,h'.get? b=some o/\∀ vs,o.data≠.fields vs:=fun b hb=>by
   obtain ⟨_,o,q,nf⟩:=I.funs.mem hb;exact ⟨o,hx.keeps _ _ q,nf⟩
 obtain ⟨r1,r2,r3⟩:=ZdI un hok kb x1.1 x4 hfo;refine ⟨e,cls,_,H,_,rfl,I.os,I.bare,r1,r2,x1,r3,?_,hE⟩;cases q:H e with
 | none=>rfl
 | some u =>
   obtain ⟨o1,q1⟩:=(I.hok e u q).there;rw [hx.new] at q1;cases q1
theorem Zpj{E1:XK}(h:∀ cls H',E1 cls none H'->E cls none H'):ZbM (CXF P w) (Zj9 (CXF P w) P w K mg base N qual scope f cd A outer s0 H0 E) E1:=by
 intro pins Z H s e s' I hx;obtain ⟨a,cls,a0,H',B_,rfl,os,bare,un,hok,fl,kb,ha,hE⟩:=hx;have I':=I.call' (ch:=[]) os un hok bare (fun b z=>absurd z (by simp));have hfr:(A.deeper (envOfC qual scope s0.heap.objs.size f cd)).frames=some (envOfC qual scope s0.heap.objs.size f cd::outer):=I.ok.frames;show wpAny (model P w) (A.deeper (envOfC qual scope s0.heap.objs.size f cd)) (leaving (envOfC qual scope s0.heap.objs.size f cd) (.ref a)) _ _ s';refine wpAny_leaves_onW hfr rfl fl fun h'' x1 x4=>?_;have kb':Kept (frs outer) H' s0.heap s'.heap B_:=fun b o e1 hb=>by
   refine kb b o e1 ?_;rcases hb with hb|⟨⟨o',e'⟩,hb⟩
   . exact .inl hb
   . obtain ⟨o1,q1⟩:=(I.base:Un (frs outer) [] H0 H s0.heap s.heap).there b o' e' (show b ∉ ([]:List Addr) from List.not_mem_nil);refine .inr ⟨⟨o1,q1⟩,fun hm=>?_⟩;have hm':b∈s0.heap.objs.size::frs outer:=I.stkSub b hm;rcases O2.mp hm' with z|z
     . rw [z] at e';exact absurd (Heap.lt_size e') (Nat.lt_irrefl _)
     . exact hb z
 have hfo:∀ b∈frs outer,∃ o,s'.heap.get? b=some o/\∀ vs,o.data≠.fields vs:=fun b hb=>by
   obtain ⟨_,o,q,nf⟩:=I'.funs.mem hb;exact ⟨o,q,nf⟩
 obtain ⟨r1,r2,r3⟩:=ZdI (I'.base:Un (frs outer) [] H0 H' s0.heap s'.heap) hok kb' x1.1 x4 hfo;exact ⟨a,cls,a0,H',B_,rfl,I'.os,bare,r1,r2,x1,r3,ha,h _ _ hE⟩
end
theorem ZgG{P:Program}{w:World}{X:Cx}:ZbM (CXF P w) X E0:=fun _ _ _ _ _ _ _ h=>by
 obtain ⟨_,_,_,_,_,_,_,_,_,_,_,_,_,z⟩:=h;exact z.elim
end L2
end
section
namespace L2
open PySem PySem.Spec PyProof.Rows
theorem ZpY{K:PySem.W.Frag}{h:Heap}{C:Addr}{bmB:List Value}{newId:String}(X:K.In h)(q:PySem.W.excIn K C bmB newId=true) :
   ∃ bm N nm qn bs hdct sn sub ab col dd k0 k1 k2 k3 k5 mN,h.get? C=some (excClassObj nm qn C N bs bm hdct sn sub ab col dd k0 k1 k2 k3 k5 newId)/\h.Ns N mN/\mN "__init__" = none/\OwnTail h bmB bm:=by
 unfold PySem.W.excIn at q;split at q
 . rename_i dd cd sl ho;split at q
   . rename_i C' bm k0 k1 k2 k3 n k5 hm hs;simp only [Oa,beq_iff_eq,Bool.not_eq_true'] at q;obtain ⟨⟨⟨⟨⟨rfl,rfl⟩,hdel⟩,ht⟩,hok⟩,hni⟩:=q;obtain ⟨nm,bs,mro,ns,qn,hd,sn,sub,ab,col,del⟩:=cd;dsimp only at hm hdel hok hni;subst hm hdel;have hsl:sl=#[k0,k1,k2,k3,some (.builtin n),k5]:=by
       obtain ⟨l⟩:=sl;simp only at hs;rw [hs]
     subst hsl;exact ⟨bm,ns,nm,qn,bs,hd,sn,sub,ab,col,dd,k0,k1,k2,k3,k5,_,X _ _ ho,.of_isNs (PySem.W.isNs_of_in X hok),PySem.W.nsMap_none_of_in X hok hni,PySem.W.tail_of_in X ht⟩
   . cases q
 . cases q
section
variable {X:Cx}{x:Str}{C:Addr}{bmB:List Value}{B_ newId initId:String}{np cpos pos:Pos}{e:Expr}{es:List Expr}{t:TA}{E:XK}
noncomputable def Zre(C:Addr)(E:XK)(t:TA):TS:=fun _ Z H=>t Z H fun vs H1=>vs.length<=sizeLine/\E (.ref C) none H1
theorem ZmT(hR:ZhV X E)(hc:X.calm=true)(FB:ExcBaseFacts B_ newId initId bmB)(hg:Gl X x)(hm:X.mg x=some (.ref C))(hq:PySem.W.excIn X.K C bmB newId=true)(ha:PA X (e::es) t)
   (hdb:(x==("__debug__" : Str))=false:=by decide) (he:starEach (e::es) X.env=(false,eval e X.env)::starEach es X.env:=by rfl) (hpl:(backTo cpos (starEach es X.env)).any (·.1)=false:=by rfl) :
   PS X (.Raise (some (.Call (.Name x np) (e::es) [] cpos)) none pos) (Zre C E t):=by
 intro pins s Z H D I h;obtain ⟨tl,N,nm,q,bs,hdct,sn,sub,ab,col,dd,k0,k1,k2,k3,k5,mN,hC,hN,hni,T⟩:=ZpY I.mod.kin hq;refine wpAny_Raise_call_subT (C:=C) (nm:=nm) (q:=q) (N:=N) (bs:=bs) (bm:=tl) (hdct:=hdct) (sn:=sn) (sub:=sub) (ab:=ab) (col:=col) (dd:=dd) (k0:=k0) (k1:=k1) (k2:=k2) (k3:=k3) (k5:=k5)
   FB (mN:=mN) (T.hasType FB.hasBase) (I.ok.hd hc) (by rw [he];show (false || (backTo cpos (starEach es X.env)).any (·.1))=false;rw [hpl];rfl) hni (Zcs I hg hm ⟨rfl,?_⟩ hdb)
 have h1:=ha cpos pins s Z H _ I h;rw [he] at h1 ⊢;refine Calls.evalArgs_plain (thn h1 fun us s2 ⟨vs,H2,I2,r2,hl,hE⟩=>?_);exact ⟨rfl,by rw [<- r2.length];exact hl,I2.bk _ _ hC,hN.keeps I2.bk,T.keeps I2.bk,fun h' a hmade=>hR pins Z H2 s2 h' a _ us I2 hmade hE⟩
end
noncomputable def cxH(X:Cx)(a:Addr)(oe:Obj):Cx:={X with A:=X.A.mark (some (.ref a)),calm:=false,pn:=X.pn++[(a,oe)],xe:=fun _ _=>False}
noncomputable abbrev cxM(X:Cx)(a:Addr):Cx:={X with A:=X.A.mark (some (.ref a)),calm:=false,xe:=fun _ _=>False}
section
variable {X:Cx}{pins:List (Addr×Obj)}{Z:St}{H:Hp}{s:Shared}{a:Addr}{oe:Obj}
theorem Inv.toM(I:Inv X pins Z H s)(a:Addr):Inv (cxM X a) pins Z H s :=
 ⟨⟨I.ok.mod,I.ok.kind,I.ok.glob,I.ok.blt,I.ok.above,I.ok.inj,I.ok.has,I.ok.cab,fun z=>absurd z Ow,I.ok.frames,I.ok.stk,I.ok.exf,I.ok.bs,I.ok.bsz,I.ok.noex,I.ok.exfs,I.ok.funs,I.ok.frf⟩,I.os,I.bare,I.base,I.loc,I.cell,I.free,I.freeC,I.pin,I.hok,I.len⟩
theorem Inv.toH(I:Inv X pins Z H s)(h1:s.heap.get? a=some oe)(h2:H a=none)(h3:a≠X.env.locals)(h4:a ∉ X.fs)(h5:∀ v,oe.data≠.cell v):Inv (cxH X a oe) pins Z H s :=
 ⟨⟨I.ok.mod,I.ok.kind,I.ok.glob,I.ok.blt,I.ok.above,I.ok.inj,I.ok.has,I.ok.cab,fun z=>absurd z Ow,I.ok.frames,I.ok.stk,I.ok.exf,I.ok.bs,I.ok.bsz,I.ok.noex,I.ok.exfs,I.ok.funs,I.ok.frf⟩,I.os,I.bare,I.base,I.loc,I.cell,I.free,I.freeC,
   fun p hp=>by
     rcases OD.mp (show p∈(X.pn++[(a,oe)])++pins from hp) with z|z
     . rcases OD.mp z with z|z
       . exact I.pin p (List.mem_append_left _ z)
       . have e:p=(a,oe):=by simpa using z
         subst e;exact ⟨h1,h2,h3,h4,h5⟩
     . exact I.pin p (Ov _ z),I.hok,I.len⟩
theorem Inv.ofH(I:Inv (cxH X a oe) pins Z H s)(hd:X.calm=true->X.A.handled=none):Inv X pins Z H s :=
 ⟨⟨I.ok.mod,I.ok.kind,I.ok.glob,I.ok.blt,I.ok.above,I.ok.inj,I.ok.has,I.ok.cab,hd,I.ok.frames,I.ok.stk,I.ok.exf,I.ok.bs,I.ok.bsz,I.ok.noex,I.ok.exfs,I.ok.funs,I.ok.frf⟩,I.os,I.bare,I.base,I.loc,I.cell,I.free,I.freeC,
   fun p hp=>I.pin p (by
     rcases OD.mp hp with z|z
     . exact List.mem_append_left _ (List.mem_append_left _ z)
     . exact Ov _ z),I.hok,I.len⟩
end
theorem ZiL {K:PySem.W.Frag}{M:Model}{A:Around}{E:Value->Shared->Prop}{s:Shared}{C C2 a:Addr}{oe:Obj}{Q:Bool->Shared->Prop} (X:K.In s.heap) (h1:PySem.W.typeIn K (.ref C2)=some (.type "type")) (h0:(PySem.W.clsIn K C2).isSome=true)
   (h2:PySem.W.subIn K (.ref C2) (.type "BaseException")=some true) (h3:PySem.W.subIn K (.ref C) (.ref C2)=some true) (he:s.heap.get? a=some oe) (hc:oe.cls=.ref C) (q:Q true s):wpAny M A (excMatches (.ref a) (.ref C2)) Q E s:=by
 have i1:PySem.W.instIn K (.ref C2) (.type "tuple")=some false:=by
   unfold PySem.W.instIn;rw [h1];show PySem.W.subIn K (.type "type") (.type "tuple")=some false;show PySem.W.subIn [] (.type "type") (.type "tuple")=some false;decide +kernel
 have L1:=PySem.W.looks_instIn (M:=M) X i1;have L2:=PySem.W.looks_subIn (M:=M) X h2;have L3:=PySem.W.looks_subIn (M:=M) X h3;have L0:PySem.W.Looks M s.heap (isType (.ref C2)) true:=by
   unfold PySem.W.clsIn at h0;split at h0
   . rename_i c' d' cd' sl' ho;intro A' Q' E' s' k q;unfold isType loadHead;exact wpAny_bind (wpAny_loadPart (k _ _ (X _ _ ho)) (wpAny_pure q))
   . cases h0
 have LT:PySem.W.Looks M s.heap (typeOf (.ref a)) (.ref C):=by
   rw [<- hc];exact (PySem.W.Looks.ld he).andThen .now
 unfold excMatches isExcClass
 repeat (any_goals (first|assumption|lk|wp_step))
structure ExcN(K:PySem.W.Frag)(C2:Addr):Prop where
 ty:PySem.W.typeIn K (.ref C2)=some (.type "type")
 cls:(PySem.W.clsIn K C2).isSome=true
 exc:PySem.W.subIn K (.ref C2) (.type "BaseException")=some true
end L2
end
section
namespace L2
open PySem PySem.Spec PyProof.Rows
noncomputable def Def(P:Program)(w:World)(K:PySem.W.Frag)(mg:Str->Option Value)(base:Heap)(k:Nat)(x:Str)(ps:List Str)(sp:Sp):Prop :=
 ∃ f fd,mg x=some (.ref f)/\PySem.W.keepIn K (.ref f)=true/\Binds K fd ps []/\FnOk P w K mg base (CXF P w) k f fd ps sp
section
variable {X:Cx}{k:Nat}{x:Str}{ps:List Str}{sp:Sp}{E:XK}{e:Expr}{es:List Expr}{t:TA}{p pos:Pos}
noncomputable def Zu7(sp:Sp)(E:XK)(t:TA):TE:=fun Z H Q=>t Z H fun vs H1=>sp vs H1 Q E
theorem ZrQ(D:Def X.prog X.w X.K X.mg X.base k x ps sp)(hr:Room k X.A)(hg:Gl X x)(hx:ZbM (CXF X.prog X.w) X E)(ha:PA X (e::es) t)
   (hdb:(x==("__debug__" : Str))=false:=by decide) (he:starEach (e::es) X.env=(false,eval e X.env)::starEach es X.env:=by rfl) (hpl:(backTo pos (starEach es X.env)).any (·.1)=false:=by rfl) :
   PE X (.Call (.Name x p) (e::es) [] pos) (Zu7 sp E t):=by
 obtain ⟨f,fd,h1,h2,h3,h4⟩:=D;intro pins s Z H Q I h;refine Zph h4 hr hg h1 h2 h3 .nil hx ha hdb he hpl pins s Z H Q I ?_;have z:t Z H fun vs H1=>sp vs H1 Q E:=h;show t Z H fun vs H1=>sp (vs++[]) H1 Q E;simpa only [List.append_nil] using z
end
end L2
end
section
namespace L2
open PySem PySem.Spec PyProof.Rows
section
variable {X:Cx}{pins:List (Addr×Obj)}{Z:St}{H:Hp}{s:Shared}{h':Heap}
theorem Zk2{ch:List Addr}(hf:∀ b∈ch,Zdd X pins H b):∀ b∈ch,(b∈X.ex\/X.s₀.heap.objs.size<=b)/\b≠X.env.locals/\(∀ x c,X.env.cells.lookup x=some c->c≠b)/\∀ p∈X.pn++pins,p.1≠b:=fun b hb=>by
 obtain ⟨_,f1,_,f3,f4,f5⟩:=hf b hb;exact ⟨f3,f1,f4,f5⟩
theorem Inv.turnL{t':Nat}{ch:List Addr}(I:Inv X pins Z H s)(hf:∀ b∈ch,Zdd X pins H b)(k:∀ b o,b ∉ ch->s.heap.get? b=some o->h'.get? b=some o):Inv X pins Z H {s with heap:=h',toks:=t'}:=by
 have nit:∀ b u,H b=some u->b ∉ ch:=fun b u e z=>by rw [(hf b z).1] at e;cases e
 refine I.step (g':=s.gens) (d':=s.drawn) (ch:=ch) (Zk2 hf) (fun b o _ _ hc e _=>k b o hc e) (fun b o _ _ hc e _=>⟨o.slots,k b o hc e⟩) (fun _ _ _ _ n=>n)
   (fun b o hc e=>⟨o,k b o hc e⟩) (fun _ _ e=>e) (fun _ _ _ e=>e) (fun b ps e=>⟨#[],by rw [e];simp⟩) (fun m hm=>?_) (fun b u e=>?_) I.bare
 . obtain ⟨o,es,ep,ho,r⟩:=hm;exact ⟨o,es,ep,k _ o (fun z=>(hf _ z).2.1 rfl) ho,r⟩
 . refine (I.hok b u e).stay (fun c v hc q=>k c v ?_ q) (fun _ q=>q) fun _ _ q=>q;rcases hc with z|z
   . rw [z];exact nit b u e
   . exact nit c _ z
theorem Inv.turnT{t':Nat}{ch:List Addr}{T:Addr}{vs:List V}{us:List Value}(I:Inv X pins Z H s)(hf:∀ b∈ch,Zdd X pins H b)(k:∀ b o,b ∉ ch->s.heap.get? b=some o->h'.get? b=some o)
   (hT:s.heap.objs.size<=T) (tup:Zbn h' T us.toArray) (rv:Zm vs us) (hz:vs.length<=sizeLine):Inv X pins Z (upd H T (.tup vs)) {s with heap:=h',toks:=t'}:=by
 have nit:∀ b u,H b=some u->b ∉ ch:=fun b u e z=>by rw [(hf b z).1] at e;cases e
 have neT:∀ b o,s.heap.get? b=some o->b≠T:=fun b o e=>Ou (O3 (Heap.lt_size e) hT);have hTn:H T=none:=I.hok.fresh hT;refine I.step (g':=s.gens) (d':=s.drawn) (ch:=ch) (Zk2 hf) (fun b o _ _ hc e _=>k b o hc e) (fun b o _ _ hc e _=>⟨o.slots,k b o hc e⟩) (fun b o _ e n=>by rw [Zg (neT b o e)];exact n)
   (fun b o hc e=>⟨o,k b o hc e⟩) (fun b xs e=>by rw [Zg (ZM e hTn)];exact e) (fun b o u e=>by rw [Zg (ZM e hTn)];exact e) (fun b ps e=>⟨#[],by rw [Zg (ZM e hTn),e];simp⟩) (fun m hm=>?_) (fun b u e=>?_) I.bare
 . obtain ⟨o,es,ep,ho,r⟩:=hm;exact ⟨o,es,ep,k _ o (fun z=>(hf _ z).2.1 rfl) ho,r⟩
 . by_cases hb:b=T
   . subst hb;rw [Zi] at e;cases e;exact ⟨hz,us,rv,tup⟩
   . rw [Zg hb] at e;refine (I.hok b u e).stay (fun c v hc q=>k c v ?_ q) (fun c q=>by rw [Zg (ZM q hTn)];exact q) fun c xs q=>by rw [Zg (ZM q hTn)];exact q
     rcases hc with z|z
     . rw [z];exact nit b u e
     . exact nit c _ z
end
noncomputable def Ite(K:PySem.W.Frag)(a:Addr):It :=
 ⟨fun i H=>∃ xs x,SqL K H a xs/\xs[i]? = some x,fun i H v H'=>∃ p,v=.ref p/\H p=none/\∃ x,(∀ xs,SqL K H a xs->xs[i]? = some x)/\H'=upd H p (.tup [.int i,x]),fun i H=>∃ xs,SqL K H a xs/\xs.length=i⟩
theorem Zlj{P:Program}{w:World}{K:PySem.W.Frag}{es:List Expr}{kk:Nat}{tp:Pos}(a it e:Addr)(hei:e≠it)(hae:a≠e)(hai:a≠it) :
   Turn P w K (.Tuple es kk tp) (Ite K a) [e,it] e (fun i h=>(∃ old,IsEnum h e it i old)/\h.IsListIter it a i) where
 mem:=by simp
 obj:=fun i h st b hb=>by
   obtain ⟨⟨old,he⟩,o,e1,c,d⟩:=st;rcases O2.mp hb with rfl|hb
   . exact ⟨_,he,fun v z=>by cases z⟩
   . have e2:b=it:=by simpa using hb
     subst e2;exact ⟨o,e1,fun v z=>by rw [d] at z;cases z⟩
 keep:=fun i h h' st k=>by
   obtain ⟨⟨old,he⟩,st⟩:=st;exact ⟨⟨old,k e (by simp) _ he⟩,st.at fun o z=>k it (by simp) o z⟩
 item:=by
   intro X hP hw hK hc i pins s Z H E I hf st hg;subst hP hw hK;obtain ⟨xs,x,hq,hx⟩:=hg;obtain ⟨its,rv,p,hz⟩:=I.list hq;have hl:=rv.length;have hi:i<xs.length:=(Ob.mp hx).1;have W:=WalksT.enumerate (prog:=X.prog) (w:=X.w) (I.ok.hd hc) e it a hei hae hai its.toArray;have itm:∀ (Q':Option Value->Shared->Prop) (E':Value->Shared->Prop),(∀ T vals h' tk,(∃ t x,its.toArray[i]? = some x/\vals=#[.int i t,x])->s.heap.objs.size<=T->Zbn h' T vals ->
       ((∃ x,IsEnumOut h' e it ((i:Int)+1) x T)/\h'.IsListIter it a (i+1)/\h'.IsList a its.toArray/\T≠e/\T≠it)->(∀ b o,b ∉ [e,it]->s.heap.get? b=some o->h'.get? b=some o)->Q' (some (.ref T)) {s with heap:=h',toks:=tk}) ->
       wpAny (model X.prog X.w) X.A (pyNext (.ref e)) Q' E' s:=by
     intro Q' E' hQ;obtain ⟨⟨old,he⟩,hit⟩:=st;have hx2:its.toArray[i]? = some (its.toArray[i]'(by simp;omega)):=Array.getElem?_eq_getElem (by simp;omega);refine wpAny_pyNext_enum_item he hit p.isList hx2 hei fun h' ho hit' hT hsz hk=>?_;have e1:e<s.heap.objs.size:=Heap.lt_size he;have e2:it<s.heap.objs.size:=by obtain ⟨_,z,_⟩:=hit;exact Heap.lt_size z
     exact hQ s.heap.objs.size _ h' (s.toks+1) ⟨_,_,hx2,rfl⟩ (Oq _) ⟨_,hT,rfl,rfl,_,rfl⟩ ⟨⟨_,ho⟩,hit',p.isList.at fun o z=>hk a o hae hai z,Nat.ne_of_gt e1,Nat.ne_of_gt e2⟩
       fun b o hb z=>hk b o (fun e'=>hb (by simp [e'])) (fun e'=>hb (by simp [e'])) z
   refine itm _ _ fun T vals h1 tk hP hT tup mid kk=>?_;refine ⟨_,rfl,W.go _ _ _ i T {s with heap:=h1,toks:=tk} _ _ mid fun h2 st2 kk2=>?_⟩;obtain ⟨t,y,hy,rfl⟩:=hP;have hy':its[i]? = some y:=by simpa using hy
   obtain ⟨u,hu,ru⟩:=rv.get hx;rw [hy'] at hu;cases hu;have hTw:T ∉ [e,it]:=W.apart i T h1 mid;have tup2:Zbn h2 T #[.int i t,y]:=by
     obtain ⟨o,q,r⟩:=tup;exact ⟨o,kk2 T o hTw q,r⟩
   have I2:Inv X pins Z (upd H T (.tup [.int i,x])) {s with heap:=h2,toks:=tk}:=I.turnT hf (fun b o hb q=>kk2 b o hb (kk b o hb q)) hT (us:=[.int i t,y]) tup2 (.cons ⟨t,rfl⟩ (.cons ru .nil)) (by show 2<=sizeLine;decide);refine ⟨.ref T,_,I2,rfl,⟨T,rfl,I.hok.fresh hT,x,fun ys hy=>by rw [I.list_inj hy hq];exact hx,rfl⟩,⟨st2.1,st2.2.1⟩,fun b hb=>?_⟩;have neb:b≠T:=fun z=>hTw (by rw [<- z];exact hb);rw [Zg neb];exact (hf b hb).1
 done:=by
   intro X hP hw hK hc i pins s Z H E I hf st hg;subst hP hw hK;obtain ⟨xs,hq,hx⟩:=hg;obtain ⟨its,rv,p,hz⟩:=I.list hq;have hl:=rv.length;have W:=WalksT.enumerate (prog:=X.prog) (w:=X.w) (I.ok.hd hc) e it a hei hae hai its.toArray;have e1:its.toArray.size=i:=by simp;omega
   refine W.done s _ _ ?_ fun h1 tk kk=>⟨rfl,I.turnL hf kk⟩
   rw [e1];exact ⟨st.1,st.2,p.isList⟩
 self:=fun A i s Q E st h=>by
   obtain ⟨⟨old,he⟩,_⟩:=st;exact wpAny_pyIter_enum he h
noncomputable def Zui(K:PySem.W.Frag)(ta:TA):TI:=fun Z H R=>ta Z H fun vs H1=>∃ a,vs=[.ref a]/\(∃ xs,SqL K H1 a xs)/\R (Ite K a) H1
theorem Zpa {X:Cx}{es:List Expr}{kk:Nat}{tp:Pos}{l:Expr}{ta:TA}{p pos:Pos} (hg:Gl X "enumerate") (hm:X.mg "enumerate" = none) (ha:PA X [l] ta) (hs:starEach [l] X.env=[(false,eval l X.env)]:=by rfl) :
   PI X (.Tuple es kk tp) (.Call (.Name "enumerate" p) [l] [] pos) (Zui X.K ta):=by
 intro pins s Z H R I h;refine Call_ (ZcU I hg hm boot_enumerate (PyProof.Rows.callWith_type1 (thn (ha pos pins s Z H _ I h) fun us s1 ⟨vs,H1,I1,r1,q1⟩=>?_) hs rfl));obtain ⟨a,rfl,⟨xs,hq⟩,q⟩:=q1;obtain ⟨u,rfl,ru⟩:=vals1 r1;obtain rfl:u=Value.ref a:=ru;obtain ⟨its,rv,pl,hz⟩:=I1.list hq;have hlt:a<s1.heap.objs.size:=by obtain ⟨_,_,e,_⟩:=pl;exact Heap.lt_size e
 refine call_enumerate_list pl.isList fun h' he hi hsz kk=>?_;refine wpAny_pyIter_enum he ?_;refine ⟨s1.heap.objs.size+1,[s1.heap.objs.size+1,s1.heap.objs.size],_,_,H1,rfl,I1.kept (t':=s1.toks) kk,Zlj a s1.heap.objs.size (s1.heap.objs.size+1) (Nat.succ_ne_self _) (Ou (Nat.lt_succ_of_lt hlt)) (Ou hlt),⟨⟨_,he⟩,hi⟩,fun b hb=>?_,q⟩;rcases O2.mp hb with rfl|hb
 . exact I1.fpOk (Nat.le_succ _) (I1.hok.fresh (Nat.le_succ _))
 . have e:b=s1.heap.objs.size:=by simpa using hb
   subst e;exact I1.fpOk (Oq _) (I1.hok.fresh (Oq _))
end L2
end
section
namespace L2
open PySem PySem.Spec PyProof.Rows
theorem body_of{X:Cx}{b:List Stmt}{t:TS}{D:Ends}{Z:St}{H:Hp}(h:PSs X b t)(r:t D Z H):∃ t,PSs X b t/\t D Z H:=⟨t,h,r⟩
theorem Zbw{x:Str}{t:Tok}:RelV (.str x) (.str x t):=⟨t,rfl⟩
theorem Zw{x:Int}{t:Tok}:RelV (.int x) (.int x t):=⟨t,rfl⟩
theorem Zad{a:Addr}:RelV (.ref a) (.ref a):=rfl
end L2
end
section
namespace L2
open PySem PySem.Spec PyProof.Rows
theorem isSome_of{K:PySem.W.Frag}{C:Addr}(h:PySem.W.isClsIn K C=true):(PySem.W.clsIn K C).isSome=true:=h
end L2
end
section
namespace L2
open PySem PySem.Spec PyProof.Rows
noncomputable def DkK(P:Program)(w:World)(K:PySem.W.Frag)(a:Addr)(kvs:List (Key×V)):Prop :=
 ∃ (o:Obj) (es:Array DictEntry) (ep:Nat) (vs:List (Key×Value)),K.lookup a=some o/\o.ExactDict/\o.data=.dict es ep/\KeysOf (ZE P w) es/\Pairs (ZE P w) es.toList vs/\(vs.map (·.1)).Nodup/\KV kvs vs/\kvs.length<=sizeLine/\(a==sysModules)=false
noncomputable def Dk(P:Program)(w:World)(K:PySem.W.Frag)(H:Hp)(a:Addr)(kvs:List (Key×V)):Prop:=Rd H a (.dK kvs)\/DkK P w K a kvs
section
variable {X:Cx}{pins:List (Addr×Obj)}{Z:St}{H:Hp}{s:Shared}{a:Addr}
theorem Inv.dk{kvs:List (Key×V)}(I:Inv X pins Z H s)(h:Dk X.prog X.w X.K H a kvs):kvs.length<=sizeLine/\(a==sysModules)=false/\∃ vs,KV kvs vs/\s.heap.DictOf (ZE X.prog X.w) a vs:=by
 rcases h with h|⟨o,es,ep,vs,lk,ex,da,ks,ps,nd,kv,z,hm⟩
 . exact ZqL I.hok h
 . exact ⟨z,hm,vs,kv,o,es,ep,I.kIn a o lk,ex,da,ks,ps,nd⟩
noncomputable def ZtA(P:Program)(w:World)(K:PySem.W.Frag)(neg:Bool):R2:=fun x y H Q=>∃ a kvs k,y=.ref a/\x=kV k/\Dk P w K H a kvs/\Q (.bl (if neg then !(ZdT kvs k).isSome else (ZdT kvs k).isSome)) H
theorem ZrX:OpR X (compareOp .In) (ZtA X.prog X.w X.K false):=by
 intro pins s Z H x y v u Q I rx ry h;obtain ⟨a,kvs,k,rfl,rfl,hd,q⟩:=h;cases ry;obtain ⟨z,hm,vs,rel,dd⟩:=I.dk hd;refine wpAny_in_of (ZiC rx) hm dd.mapOf ?_;rw [<- (rel.val k).isSome_eq];exact ⟨.bl _,H,I.tok _,rfl,q⟩
theorem ZlJ:OpR X (compareOp .NotIn) (ZtA X.prog X.w X.K true):=by
 intro pins s Z H x y v u Q I rx ry h;obtain ⟨a,kvs,k,rfl,rfl,hd,q⟩:=h;cases ry;obtain ⟨z,hm,vs,rel,dd⟩:=I.dk hd;refine wpAny_notIn_of (ZiC rx) hm dd.mapOf ?_;rw [<- (rel.val k).isSome_eq];exact ⟨.bl _,H,I.tok _,rfl,q⟩
noncomputable def Zvq(P:Program)(w:World)(K:PySem.W.Frag):R2:=fun x y H Q=>∃ a kvs k v,x=.ref a/\y=kV k/\Dk P w K H a kvs/\ZdT kvs k=some v/\Q v H
theorem ZpO:IxR X (Zvq X.prog X.w X.K):=by
 intro value slice pins s Z H x y v u Q I rx ry h hs;obtain ⟨a,kvs,k,z,rfl,rfl,hd,hv,q⟩:=h;cases rx;obtain ⟨_,hm,vs,rel,dd⟩:=I.dk hd;obtain ⟨w',hw,rw'⟩:=Zen.some_of (v:=z) (o:=valueAt vs k) (by rw [<- hv];exact rel.val k);exact subscriptTail_builtinR (x:=w') dd.typeIs PySem.F.slot_dict_getitem.lookup (wpAny_getItem_of (ZiC ry) dd.mapOf hw ⟨rfl,z,H,I.tok _,rw',q⟩) hs
theorem Zux{A:Around}{E:Value->Shared->Prop}{kvs:List (Key×V)}{k:Key}{v:V}{u r:Value}{Q:Unit->Shared->Prop}(I:Inv X pins Z H s)(e:H a=some (.dK kvs))(l:kvs.length<sizeLine)(ry:RelV (kV k) u)(rv:RelV v r)
   (h:∀ s',Inv X pins Z (upd H a (.dK (putK kvs k v))) s'->Q () s'):wpAny (model X.prog X.w) A (setItem (.ref a) u r) Q E s:=by
 obtain ⟨z,hd,vs,rel,dd⟩:=ZqM I.hok e;have hz:vs.length<=sizeLine:=by rw [<- rel.length];exact z
 have hl:(putK kvs k v).length<=sizeLine:=by have:=ZeR kvs k v;omega
 refine wpAny_setItem_pairs (hsz:=hz) (ZiC ry) dd fun h' dd' hs=>h _ ?_;have he:∃ q,h'.get? a=some q:=let ⟨q,_,_,hq,_⟩:=dd';⟨q,hq⟩;exact Zk6 I (by rw [e];exact True.intro) hs he (Zn1 hl hd (rel.put k rv) dd')
noncomputable def Ztq:Zop:=fun o i v H Q=>∃ a kvs k,o=.ref a/\i=kV k/\H a=some (.dK kvs)/\kvs.length<sizeLine/\Q (upd H a (.dK (putK kvs k v)))
theorem set_dict:Zqo X Ztq:=by
 intro pins s Z H o i v ov iv u Q I ro ri rv h;obtain ⟨a,kvs,k,rfl,rfl,e,l,q⟩:=h;cases ro;exact Zux I e l ri rv fun s' I'=>⟨_,I',q⟩
end
end L2
end
section
set_option tactic.hygienic false
namespace L2
open PySem PySem.Spec PyProof.Rows
section
variable {X:Cx}{elt tg iter:Expr}{ifs:List Expr}{scope sc:Scope}{pos:Pos}{NC:List Str}{js:List (Option Nat)}{k:Nat}{wi:TI}{g:TG}{tc:TT}{te:TE}
theorem Zjm{y:Str}{py spos:Pos}{i0:Nat}(hN:X.N.Nodup)(hy:X.N[i0]? = some y)(hx:Loc X.env.scope y)(hf:X.fn y=true\/X.env.scope.names.lookup y=some .local)(S_:CompSc NC X.N js sc scope)(hsc:X.env.scope=sc)(hc:X.calm=true)(hi:PI X tg iter wi)
   (hb:∀ (C:Addr) (s3:Shared) (H3:Hp) (fp:List Addr),PG (ZB X NC scope C s3 H3 fp) tg g/\PIf (ZB X NC scope C s3 H3 fp) ifs tc/\PE (ZB X NC scope C s3 H3 fp) elt te)
   (hk:Zoo k g) (hjk:∀ j,j<k->js[j]? = some none) (hs:∀ x,foldedSetIterable iter X.env x=pure x:=by intro _;rfl) (hsw:swapsWith (.ListComp elt [⟨tg,iter,ifs,0⟩] scope pos) (some (.Name y py)) spos.line X.env=pure true:=by rfl) :
   PS X (.Assign [.Name y py] (.ListComp elt [⟨tg,iter,ifs,0⟩] scope pos) spos) (Zmp (Zqw wi js g tc te) (ZdB i0)):=by
 intro pins s Z H D0 I h;have hcells:∀ y∈scope.names,y.2=.free->∃ c,X.env.cells.lookup y.1=some c:=fun y hy hf=>I.ok.has y.1 (.inl (show X.env.scope.names.lookup y.1=some .cell by rw [hsc];exact S_.free y hy hf));rw [exec_Assign_Name_used _ _ _ _ hsw];refine wpAny_bind (wpAny_standAt (wpAny_bind ?_));show wpAny _ X.A (do let _ <- comprehension (.ListComp elt [⟨tg,iter,ifs,0⟩] scope pos) scope X.env _ (newList []) false (eval iter X.env) (some (assign (.Name y py) X.env))) _ _ s;refine wpAny_bind (wpAny_mono (wpAny_comprehension_free (use:=some (assign (.Name y py) X.env)) (Q:=fun _ s'=>SP X pins D0 .next s') rfl hs (ZdD hcells) S_.kind S_.locs (thn (hi pins s Z H _ I h) fun xv s1 h1=>thn h1 fun itv s2 h2=>?_)) (fun _ s' hq=>wpAny_pure (wpAny_pure hq)) fun _ _ e=>e);obtain ⟨it,fp,tn,J,H2,e,I2,T,st2,f2,rest⟩:=h2;subst e;have hD:H2 s2.heap.objs.size=none:=I2.hok.fresh (Oq _);obtain ⟨W,⟨m0,w0⟩,turn⟩:=rest s2.heap.objs.size hD;refine wpAny_newObj_type (wpAny_newFunctionEnv S_.nocell (by intro y hy;simp at hy) (fun h4 hns hsb=>?_) S_.kind);have I3:Inv X pins Z (upd H2 s2.heap.objs.size (.lst [])) {s2 with heap:=s2.heap.push {cls:=.type "list",dict:=none,data:=.seq ([]:List Value).toArray}}:=I2.lnew (t':=s2.toks) (ys:=[]) (its:=[]) .nil (Nat.zero_le _);dsimp only at hns hsb ⊢;generalize hs3:({s2 with heap:=s2.heap.push {cls:=.type "list",dict:=none,data:=.seq ([]:List Value).toArray}}:Shared)=s3 at I3;have eh:s2.heap.push {cls:=.type "list",dict:=none,data:=.seq ([]:List Value).toArray}=s3.heap:=by rw [<- hs3]
 have eD:s2.heap.objs.size<s3.heap.objs.size:=by rw [<- eh,Heap.size_push];exact OH _
 rw [eh] at hns hsb;have keep:∀ b o,s3.heap.get? b=some o->h4.get? b=some o:=fun b o e=>(hsb.2 b (Ou (Heap.lt_size e))).trans (Od _ e);have fpl:∀ b∈fp,∃ o,s3.heap.get? b=some o:=fun b hb=>by
   obtain ⟨o,e,_⟩:=T.obj 0 _ st2 b hb;exact ⟨o,by rw [<- eh];exact Od _ e⟩
 have neD:∀ b∈fp,b≠s2.heap.objs.size:=fun b hb=>by
   obtain ⟨o,e,_⟩:=T.obj 0 _ st2 b hb;exact Ou (Heap.lt_size e)
 have f3:∀ b∈fp,Zdd X pins (upd H2 s2.heap.objs.size (.lst [])) b:=fun b hb=>⟨by rw [Zg (neD b hb)];exact (f2 b hb).1,(f2 b hb).2⟩
 have I4:=ZiF (tk:=s2.toks+([]:List (Str×Value)).length) S_ hsc hc I3 f3 fpl rfl hns keep;have st4:tn 0 h4:=T.keep 0 _ _ st2 fun b hb o e=>keep b o (by rw [<- eh];exact Od _ e);have stat:∀ {H':Hp},(∀ b∈fp,H' b=none)->∀ b∈fp,Zdd (ZB X NC scope s3.heap.objs.size s3 (upd H2 s2.heap.objs.size (.lst [])) fp) [] H' b:=fun hn b hb =>
   ⟨hn b hb,Ou (let ⟨o,e⟩:=fpl b hb;Heap.lt_size e),fun hm=>I4.ok.exfs b hb hm,.inl hb,fun x c e=>(I4.ok.exf b hb).2 x c e,fun p hp=>absurd (show p∈([]:List (Addr×Obj)) from hp) (by simp)⟩
 have eC:(s2.heap.push {cls:=.type "list",dict:=none,data:=.seq ([]:List Value).toArray}).objs.size=s3.heap.objs.size:=by rw [eh]
 have loop:∀ s4:Shared,s4={s3 with heap:=h4,toks:=s2.toks+([]:List (Str×Value)).length} ->
     codeAny (model X.prog X.w) X.A (.compLoop (.ListComp elt [⟨tg,iter,ifs,0⟩] scope pos) 0 (.ref it) (.ref s2.heap.objs.size) (compEnvC scope (ZeB X.env scope.names []) s3.heap.objs.size X.env))
       (compPost (model X.prog X.w) X.A X.xe (some (assign (.Name y py) X.env)) (fun _ s'=>SP X pins D0 .next s') (.ref s2.heap.objs.size) s3.heap.objs.size) s4:=by
   rintro s4 rfl;refine ZeV (fun n s'=>∃ i ys H',Inv (ZB X NC scope s3.heap.objs.size s3 (upd H2 s2.heap.objs.size (.lst [])) fp) [] (capt js Z) H' s'/\tn i s'.heap/\(∀ b∈fp,H' b=none)/\H' s2.heap.objs.size=some (.lst ys)/\W i n ys H') ?_ m0
     ⟨0,[],_,I4,st4,fun b hb=>(f3 b hb).1,Zi,w0⟩
   rintro n s5 ⟨i,ys,H5,I5,st5,fr5,hD5,w5⟩;rcases turn i n ys H5 w5 hD5 with ⟨stop,qn⟩|⟨go,hlen,step⟩
   . refine wpAny_mono (T.done (ZB X NC scope s3.heap.objs.size s3 (upd H2 s2.heap.objs.size (.lst [])) fp) rfl rfl rfl rfl i [] s5 (capt js Z) H5 (fun _ _=>False) I5 (stat fr5) st5 stop) (fun r s6 ⟨hr,I6⟩=>?_) fun _ _ z=>z.elim;subst hr;obtain ⟨m,hm,_⟩:=I6.loc;have Io:Inv X pins Z H5 s6:=I3.comp_out (h'':=s6.heap) f3 rfl I6 ⟨rfl,fun _ _=>rfl⟩;have fC:Zdd X pins H5 s3.heap.objs.size:=I3.fpOk (Oq _) I6.free;show wpAny _ X.A (assign (.Name y py) X.env (.ref s2.heap.objs.size)) _ _ _;refine wpAny_assign_Name (Zgw Io hN hy hx (v:=.ref s2.heap.objs.size) rfl (fun s8 I8 ⟨a8,sb8,ha8⟩=>?_) hf);have ne8:s3.heap.objs.size≠a8:=fun z=>by
       rcases ha8 with e|e
       . exact fC.2.1 (z.trans e)
       . exact fC.2.2.2.2.1 _ _ e z.symm
     refine ⟨m,hm.sameBut sb8 ne8,fun h' hs'=>?_⟩;exact ⟨_,H5,I8.turnL (t':=s8.toks) (ch:=[s3.heap.objs.size]) (fun b hb=>by rw [Ox.mp hb];exact fC) (fun b o hb e=>(hs'.2 b (fun z=>hb (by rw [z];exact List.mem_singleton_self _))).trans e),qn⟩
   . refine wpAny_mono (T.item (ZB X NC scope s3.heap.objs.size s3 (upd H2 s2.heap.objs.size (.lst [])) fp) rfl rfl rfl rfl i [] s5 (capt js Z) H5 (fun _ _=>False) I5 (stat fr5) st5 go) (fun r s6 ⟨u,hr,h6⟩=>?_) fun _ _ z=>z.elim;subst hr;refine wpAny_mono h6 (fun _ s7 ⟨x,H7,I7,r7,y7,st7,fr7⟩=>?_) fun _ _ z=>z.elim;have I7':=I7.pinned (stat fr7) (T.obj _ _ st7);obtain ⟨pg,pif,pe⟩:=hb s3.heap.objs.size s3 (upd H2 s2.heap.objs.size (.lst [])) fp;refine wpAny_mono (pg _ s7 (capt js Z) H7 x u _ I7' r7 (hk _ _ _ _ (step x H7 y7))) (fun _ s8 ⟨σ8,H8,I8,q8,l8,k8⟩=>?_) fun _ _ z=>z.elim;have back:∀ {H9:Hp}{s9:Shared},Inv (ZB X NC scope s3.heap.objs.size s3 (upd H2 s2.heap.objs.size (.lst [])) fp) ([]++Zet fp s7.heap) σ8 H9 s9 ->
         Inv (ZB X NC scope s3.heap.objs.size s3 (upd H2 s2.heap.objs.size (.lst [])) fp) [] (capt js Z) H9 s9/\tn (i+1) s9.heap/\∀ b∈fp,H9 b=none:=fun {H9 s9} I9=>by
       refine ⟨(I9.unpinned).weak l8.symm fun j v e=>?_,T.keep _ _ _ st7 fun b hb o e=>(I9.pin (b,o) (Ov _ (Ov _ (ZaT hb e)))).1,fun b hb=>?_⟩
       . by_cases hj:j<k
         . unfold capt at e;rw [On,hjk j hj] at e;cases e
         . rw [k8 j (Nat.le_of_not_lt hj)];exact e
       . obtain ⟨o,e,d⟩:=T.obj _ _ st7 b hb;exact (I9.pin (b,o) (Ov _ (Ov _ (ZaT hb e)))).2.1
     refine wpAny_mono (pif _ s8 σ8 H8 _ I8 q8) (fun ok s9 ⟨H9,I9,q9⟩=>?_) fun _ _ z=>z.elim;cases ok with
     | false =>
       rw [if_neg Ow] at q9 ⊢;obtain ⟨hD9,m',hm,w9⟩:=q9;obtain ⟨b1,b2,b3⟩:=back I9;exact ⟨m',hm,i+1,ys,H9,b1,b2,b3,hD9,w9⟩
     | true =>
       rw [if_pos rfl] at q9 ⊢;refine wpAny_mono (pe _ s9 σ8 H9 _ I9 q9) (fun y s10 ⟨v,H10,I10,r10,hD10,m',hm,w10⟩=>?_) fun _ _ z=>z.elim;refine wpAny_mono (Zeu (X:=ZB X NC scope s3.heap.objs.size s3 (upd H2 s2.heap.objs.size (.lst [])) fp) _ s10 σ8 H10 (.ref s2.heap.objs.size) [v] (.ref s2.heap.objs.size) [y]
         (fun _ H11=>H11=upd H10 s2.heap.objs.size (.lst (ys++[v]))) I10 rfl (.cons r10 .nil) ⟨_,ys,v,rfl,rfl,hD10,hlen,rfl⟩) (fun _ s11 ⟨_,H11,I11,_,e11⟩=>?_) fun _ _ z=>z.elim
       subst e11;obtain ⟨b1,b2,b3⟩:=back I11;exact ⟨m',hm,i+1,ys++[v],_,b1,b2,b3,Zi,w10⟩
 have e4:({s2 with heap:=h4,toks:=s2.toks+([]:List (Str×Value)).length}:Shared)={s3 with heap:=h4,toks:=s2.toks+([]:List (Str×Value)).length}:=by rw [<- hs3]
 rw [eC];exact codeAny_compStart_list (loop _ e4) (T.self X.A 0 _ _ _ st4 (loop _ e4))
end
end L2
end
section
namespace L2
open PySem PySem.Spec PyProof.Rows
mutual
inductive Dp(K:PySem.W.Frag)(H:Hp):V->PyData->Prop
 | non:Dp K H .non .none
 | bl (b:Bool):Dp K H (.bl b) (.bool b)
 | int (i:Int):Dp K H (.int i) (.int i)
 | str (x:Str) (ok:PyData.strOk x=true):Dp K H (.str x) (.str x)
 | lst {a:Addr}{xs:List V}{ds:List PyData}:SqL K H a xs->Dps K H xs ds->Dp K H (.ref a) (.list ds)
 | tup {a:Addr}{xs:List V}{ds:List PyData}:SqT K H a xs->Dps K H xs ds->Dp K H (.ref a) (.tuple ds)
inductive Dps(K:PySem.W.Frag)(H:Hp):List V->List PyData->Prop
 | nil:Dps K H [] []
 | cons {v:V}{vs:List V}{d:PyData}{ds:List PyData}:Dp K H v d->Dps K H vs ds->Dps K H (v::vs) (d::ds)
end
section
variable {K:PySem.W.Frag}{H H':Hp}
mutual
theorem Dp.lay:∀ {v:V}{d:PyData},Dp K H v d->d.canLay0=true
 | _,_,.non=>rfl
 | _,_,.bl b=>rfl
 | _,_,.int i=>rfl
 | _,_,.str x ok=>ok
 | _,_,.lst h r=>Dps.lay r
 | _,_,.tup h r=>Dps.lay r
theorem Dps.lay:∀ {v:List V}{d:List PyData},Dps K H v d->PyData.canLayAll0 d=true
 | _,_,.nil=>rfl
 | _,_,.cons h r=>by rw [PyData.canLayAll0,Dp.lay h,Dps.lay r];rfl
end
end
section
variable {X:Cx}{pins:List (Addr×Obj)}{Z:St}{H:Hp}{s:Shared}
mutual
theorem Inv.reads(I:Inv X pins Z H s):∀ {v:V}{d:PyData}{u:Value},Dp X.K H v d->RelV v u->∃ as,Reads s.heap u d as
 | _,_,_,.non,r=>by cases r;exact ⟨_,.none⟩
 | _,_,_,.bl b,r=>by cases r;exact ⟨_,.bool b⟩
 | _,_,_,.int i,r=>by obtain ⟨t,rfl⟩:=r;exact ⟨_,.int i t⟩
 | _,_,_,.str x ok,r=>by obtain ⟨t,rfl⟩:=r;exact ⟨_,.str x t⟩
 | _,_,_,.lst h rs,r=>by
   cases r;obtain ⟨its,rv,⟨o,n,e,c,_,dd⟩,_⟩:=I.list h;obtain ⟨as,q⟩:=Inv.readsAll I rs rv;exact ⟨_,.list e c dd (by simpa using q)⟩
 | _,_,_,.tup h rs,r=>by
   cases r;obtain ⟨its,rv,⟨o,e,c,n,dd⟩,_⟩:=I.tuple h;obtain ⟨as,q⟩:=Inv.readsAll I rs rv;exact ⟨_,.tuple e c dd (by simpa using q)⟩
theorem Inv.readsAll(I:Inv X pins Z H s):∀ {v:List V}{d:List PyData}{u:List Value},Dps X.K H v d->Zm v u->∃ as,ReadsAll s.heap u d as
 | _,_,_,.nil,r=>by cases r;exact ⟨_,.nil⟩
 | _,_,_,.cons h rs,r=>by
   cases r with
   | cons r1 r2 =>
     obtain ⟨as,q⟩:=Inv.reads I h r1;obtain ⟨bs,q2⟩:=Inv.readsAll I rs r2;exact ⟨_,.cons q q2⟩
end
end
end L2
end
section
set_option tactic.hygienic false
namespace L2
open PySem PySem.Spec PyProof.Rows
namespace Rv
theorem own:Manifest.owners.lookup (String.ofList ['d','e','s','r','e','v','e','r'].reverse)=some Manifest.sig_reversed:=by kernel_rfl
theorem next:Slot "reversed" "__next__" "reversed.__next__" :=
 .of (owner := "reversed") (n := "__next__") (by rw [typeLookup_type,builtinLookup_eq_fast]<;>kernel_rfl) (by decide +kernel) (by decide +kernel) (by decide +kernel) (by first|exact .inl (by decide +kernel)|exact .inr (by decide +kernel)) (by rw [isSubtype_type]<;>kernel_rfl)
theorem ZqJ:entryFor table "reversed.__next__" = some Builtin.«reversed.__next__»:=entryFor_of_tree (by kernel_rfl)
theorem ZqY (a:Value):argsOk "reversed.__next__" ⟨[a],[]⟩:=by
 unfold argsOk;rw [signature?_of (id := "reversed.__next__") (n:=['_','_','t','x','e','n','_','_']) (o:=['d','e','s','r','e','v','e','r']) (by kernel_rfl) own];kernel_rfl
theorem iter:Slot "reversed" "__iter__" "reversed.__iter__" :=
 .of (owner := "reversed") (n := "__iter__") (by rw [typeLookup_type,builtinLookup_eq_fast]<;>kernel_rfl) (by decide +kernel) (by decide +kernel) (by decide +kernel) (by first|exact .inl (by decide +kernel)|exact .inr (by decide +kernel)) (by rw [isSubtype_type]<;>kernel_rfl)
theorem ZuG (a:Value):argsOk "reversed.__iter__" ⟨[a],[]⟩:=by
 unfold argsOk;rw [signature?_of (id := "reversed.__iter__") (n:=['_','_','r','e','t','i','_','_']) (o:=['d','e','s','r','e','v','e','r']) (by kernel_rfl) own];kernel_rfl
theorem Zuw:entryFor table "reversed.__iter__" = some Builtin.«dict_keyiterator.__iter__» :=
 entryFor_alias (id' := "dict_keyiterator.__iter__") (by kernel_rfl) (by first|rfl|decide +kernel|(unfold String.splitOn;simp +decide [String.splitOnAux])) (by decide +kernel) (by kernel_rfl)
theorem ZtY:typeLookup (.type "tuple") "__reversed__" = pure none:=by rw [typeLookup_type,builtinLookup_eq_fast]<;>kernel_rfl
theorem ZoJ:isSubtype (.type "reversed") (.type "reversed")=pure true:=by rw [isSubtype_type]<;>kernel_rfl
theorem init:Slot "reversed" "__init__" "object.__init__" :=
 .of (owner := "object") (n := "__init__") (by rw [typeLookup_type,builtinLookup_eq_fast]<;>kernel_rfl) (by decide +kernel) (by decide +kernel) (by decide +kernel) (by first|exact .inl (by decide +kernel)|exact .inr (by decide +kernel)) (by rw [isSubtype_type]<;>kernel_rfl)
theorem called:TypeCalled "reversed" "reversed.__new__" "object.__init__" := ⟨by decide +kernel,F.create_reversed,⟨_,_,F.mro_reversed⟩,F.made_reversed,by decide +kernel,ZoJ,init⟩
noncomputable def obj (l:Addr) (i:Int):Obj:={cls:=.type "reversed",data:=.fields #[.ref l,rawInt i]}
noncomputable def Is (h:Heap) (a l:Addr) (i:Int):Prop:=∃ o,h.get? a=some o/\o.cls=.type "reversed" /\ o.data=.fields #[.ref l,rawInt i]
section
variable {prog:Program}{w:World}{A:Around}{E:Value->Shared->Prop}{s:Shared}
theorem Is.typeIs {a l:Addr}{i:Int} (x:Is s.heap a l i):s.TypeIs (.ref a) "reversed" := let ⟨o,ho,hc,_⟩:=x;⟨o,ho,hc⟩
theorem Is.at{h h':Heap}{a l:Addr}{i:Int}(x:Is h a l i)(e:∀ o,h.get? a=some o->h'.get? a=some o):Is h' a l i:=let ⟨o,ho,r⟩:=x;⟨o,e _ ho,r⟩
theorem new{l:Addr}{items:Array Value}{Q:Value->Shared->Prop}(hl:IsTup s.heap l items)(hz:items.size<=sizeLine)
   (h:Q (.ref s.heap.objs.size) {s with heap:=s.heap.push (obj l ((items.size:Int) - 1)),toks:=s.toks+1+1}) :
   codeAny (model prog w) A (.call (.builtin "reversed.__new__") ⟨[.type "reversed",.ref l],[]⟩) (wants Q E) s:=by
 have hfit:(items.size:Int)<2 ^ 63:=by have:=Zcr;omega
 refine codeAny_of_tree ?_;show wpAny _ A.in1 (do checkBuiltinCall "reversed.__new__" ⟨[.type "reversed",.ref l],[]⟩;again (.builtin "reversed.__new__" ⟨[.type "reversed",.ref l],[]⟩)) _ _ s;refine wpAny_bind (wpAny_of_eq (F.newCall_reversed_1 _) (wpAny_pure ⟨plainId_quiet F.plain_reversed_new _,codeAny_builtin F.entry_reversed_new ?_⟩));rw [Around.under_plainId F.plain_reversed_new _];unfold Builtin.«reversed.__new__»;refine wpAny_bind (wpAny_of_eq (newClass_reversed _) ?_)
 try dsimp only
 refine wpAny_bind (wpAny_of_eq (a:=()) (by first|rfl|kernel_rfl) (wpAny_bind (wpAny_of_eq (a:=()) (by first|rfl|kernel_rfl) ?_)))
 try dsimp only
 refine wpAny_bind (wpAny_specialOf hl.typeIs ZtY ?_)
 try dsimp only
 refine wpAny_bind ?_;show wpAny _ _ (isInstance (.ref l) (.type "dict") >>= fun b=>_) _ _ s;refine wpAny_bind (wpAny_isInstance hl.typeIs F.sub_tuple_dict ?_);show wpAny _ _ (specialOf (.ref l) "__getitem__" >>= fun b=>_) _ _ s;refine wpAny_bind (wpAny_specialOf hl.typeIs slot_tuple_getitem.lookup ?_);refine wpAny_of_eq (a:=true) (by rfl) ?_;show wpAny _ _ (call (.builtin "len") [.ref l] >>= fun b=>_) _ _ s;refine wpAny_bind (len_tuple hl hfit ?_);show wpAny _ _ (asInt? (.int _ _) >>= fun b=>_) _ _ _;refine wpAny_bind (wpAny_pure ?_);show wpAny _ _ (newObj (.type "reversed") (.fields #[.ref l,rawInt ((items.size:Int) - 1)]) >>= fun b=>_) _ _ _;exact wpAny_bind (wpAny_newObj_type (wpAny_pure h))
theorem call{l:Addr}{items:Array Value}{Q:Value->Shared->Prop}(hl:IsTup s.heap l items)(hz:items.size<=sizeLine)
   (h:Q (.ref s.heap.objs.size) {s with heap:=s.heap.push (obj l ((items.size:Int) - 1)),toks:=s.toks+1+1}):wpAny (model prog w) A (PySem.call (.type "reversed") [.ref l]) Q E s:=by
 refine callType_codes called (F.typeCall_reversed_1 _) F.entry_object_init (new (Q:=fun o s1=>o=.ref s.heap.objs.size/\s1={s with heap:=s.heap.push (obj l ((items.size:Int) - 1)),toks:=s.toks+1+1}) hl hz ⟨rfl,rfl⟩) ?_;rintro _ _ ⟨rfl,rfl⟩;have hT:Shared.TypeIs {s with heap:=s.heap.push (obj l ((items.size:Int) - 1)),toks:=s.toks+1+1} (.ref s.heap.objs.size) "reversed" := ⟨_,Oj _ rfl,rfl⟩
 refine ⟨hT,F.args_object_init_2 _ _,?_⟩;exact object_init_meets init.lookup F.made_reversed (by decide) prog w _ _ _ ⟨hT,rfl,h⟩
theorem next_item{it l:Addr}{i:Nat}{items:Array Value}{x:Value}{Q:Option Value->Shared->Prop}(hit:Is s.heap it l (i:Int))(hl:IsTup s.heap l items)(hz:items.size<=sizeLine)(hx:items[i]? = some x)
   (hQ:∀ h' t',Is h' it l ((i:Int) - 1)->Heap.SameBut it s.heap h'->Q (some x) {s with heap:=h',toks:=t'}):wpAny (model prog w) A (pyNext (.ref it)) Q E s:=by
 obtain ⟨o,ho,hc,hd⟩:=id hit;have hi:i<items.size:=by
   have:=(Array.getElem?_eq_some_iff.mp hx).1;exact this
 have l63:=Zcr;unfold pyNext;refine wpAny_bind (wpAny_attempt (wpAny_callSpecial?_slot (name:=O "__next__") hit.typeIs next (wpAny_call_entry next hit.typeIs ZqJ ?_ (ZqY _))));unfold Builtin.«reversed.__next__»;refine wpAny_bind (wpAny_of_eq (a:=(Value.ref it,[])) rfl ?_)
 try dsimp only
 refine wpAny_bind (wpAny_field ho hd (x:=.ref l) rfl (wpAny_bind (wpAny_field ho hd (x:=rawInt (i:Int)) rfl ?_)));show wpAny _ _ (if (i:Int)<0 then _ else _) _ _ s;rw [if_neg (by omega)];show wpAny _ _ (specialOf (.ref l) "__getitem__" >>= fun b=>_) _ _ s;refine wpAny_bind (wpAny_specialOf hl.typeIs slot_tuple_getitem.lookup ?_);show wpAny _ _ (mkInt (i:Int) >>= fun b=>_) _ _ s;refine wpAny_bind (wpAny_mkInt ?_);refine wpAny_bind (wpAny_attempt (getItem_tuple (s:={s with toks:=s.toks+1}) (j:=i) (x:=x) hl (by omega) (by omega) (seqIndex_of (by omega) (by omega)) hx ?_));show wpAny _ _ (field (.ref it) 1 >>= fun b=>_) _ _ _;refine wpAny_bind (wpAny_field ho hd (x:=rawInt (i:Int)) rfl ?_);show wpAny _ _ (setField (.ref it) 1 (rawInt ((i:Int) - 1)) >>= fun b=>_) _ _ _;refine wpAny_bind (wpAny_setField ho hd (by simp) ?_);refine wpAny_pure ⟨x,rfl,wpAny_pure (hQ _ _ ?_ (Heap.SameBut.update ..))⟩;exact ⟨_,Heap.get?_update_self _ ho (Obj.isFreed_of_fields (Obj.data_mapFields hd _)),(Obj.cls_mapFields ..).trans hc,by rw [Obj.data_mapFields hd]<;>simp⟩
theorem next_end{it l:Addr}{Q:Option Value->Shared->Prop}(hh:A.handled=none)(hit:Is s.heap it l (-1))(hQ:∀ h',Heap.ExtBut it s.heap h'->Q none {s with heap:=h'}):wpAny (model prog w) A (pyNext (.ref it)) Q E s:=by
 obtain ⟨o,ho,hc,hd⟩:=id hit;unfold pyNext;refine wpAny_bind (wpAny_attempt (wpAny_callSpecial?_slot (name:=O "__next__") hit.typeIs next (wpAny_call_entry next hit.typeIs ZqJ ?_ (ZqY _))));unfold Builtin.«reversed.__next__»;refine wpAny_bind (wpAny_of_eq (a:=(Value.ref it,[])) rfl ?_)
 try dsimp only
 refine wpAny_bind (wpAny_field ho hd (x:=.ref l) rfl (wpAny_bind (wpAny_field ho hd (x:=rawInt (-1)) rfl ?_)));show wpAny _ _ (if (-1:Int)<0 then _ else _) _ _ s;rw [if_pos (by decide)];refine wpAny_bind (wpAny_rule ?_);show wpAny _ _ ((setField (.ref it) 1 (rawInt (-1)) >>= fun _=>setField (.ref it) 0 .none) >>= fun b=>_) _ _ _;have e1:=Heap.get?_update_self (Obj.mapFields (·.setIfInBounds 1 (rawInt (-1)))) ho (Obj.isFreed_of_fields (Obj.data_mapFields hd _));refine wpAny_bind (wpAny_bind (wpAny_setField ho hd (by simp) (wpAny_setField e1 (Obj.data_mapFields hd _) (by simp) ?_)));refine wpAny_bind ?_;show wpAny _ _ (newExc (.type "StopIteration") [] >>= fun b=>_) _ _ _;refine wpAny_bind ?_;simp only [newExc,newTuple];refine wpAny_bind (wpAny_newObj_type ?_ (by size_fits));refine wpAny_bind (m:=firstArgMember _ _) (wpAny_of_eq (a:=Value.none) (by first|rfl|(simp only [firstArgMember]<;>rfl)) (wpAny_newObj_type ?_ (by size_fits)));simp only [raiseNew];refine wpAny_bind (wpAny_handled ?_);rw [show A.in1.handled=none from hh];refine wpAny_bind (wpAny_pure (wpAny_throw ?_));refine wpAny_bind (wpAny_isInstance (T := "StopIteration") (b:=true) ⟨_,Oj _ rfl,rfl⟩ isSubtype_stop (wpAny_pure (hQ _ ?_)));exact ((((Heap.ExtBut.refl _ _).trans (Heap.SameBut.update ..).extBut).trans (Heap.SameBut.update ..).extBut).push _).push _
theorem ZgK{it l:Addr}{i:Int}{Q:Value->Shared->Prop}(hit:Is s.heap it l i)(h:Q (.ref it) s):wpAny (model prog w) A (pyIter (.ref it)) Q E s:=by
 refine wpAny_pyIter_slot hit.typeIs iter (wpAny_call_entry iter hit.typeIs Zuw ?_ (ZuG _));exact wpAny_pure ⟨_,rfl, "reversed",_,hit.typeIs,next.lookup,h⟩
end
end Rv
noncomputable def Itv(K:PySem.W.Frag)(a:Addr)(n:Nat):It :=
 ⟨fun i H=>∃ xs x,SqT K H a xs/\xs.length=n/\xs.reverse[i]? = some x,fun i H x H'=>H'=H/\∀ xs,SqT K H a xs->xs.reverse[i]? = some x,fun i H=>∃ xs,SqT K H a xs/\xs.length=n/\n=i⟩
theorem Zml{P:Program}{w:World}{K:PySem.W.Frag}{tg:Expr}(a it:Addr)(n:Nat):Turn P w K tg (Itv K a n) [it] it (fun i h=>i<=n/\Rv.Is h it a ((n:Int) - 1 - i)) where
 mem:=by simp
 obj:=fun i h st b hb=>by
   have e:b=it:=by simpa using hb
   subst e;obtain ⟨_,o,e,c,d⟩:=st;exact ⟨o,e,fun v z=>by rw [d] at z;cases z⟩
 keep:=fun i h h' st k=>⟨st.1,st.2.at fun o e=>k it (by simp) o e⟩
 item:=by
   intro X hP hw hK hc i pins s Z H E I hf st hg;subst hP hw hK;obtain ⟨hin,st⟩:=st;obtain ⟨xs,x,hq,hxn,hx⟩:=hg;obtain ⟨its,rv,p,hz⟩:=I.tuple hq;have hl:=rv.length;have hi:i<xs.length:=by
     have:=(Ob.mp hx).1;simpa using this
   have hx':xs[n - 1 - i]? = some x:=by
     rw [List.getElem?_reverse hi] at hx;rw [<- hxn];exact hx
   obtain ⟨u,hu,ru⟩:=rv.get hx';obtain ⟨f0,f1,f2,f3,f4,f5⟩:=hf it (by simp);have e1:(n:Int) - 1 - (i:Nat)=((n - 1 - i:Nat):Int):=by omega
   rw [e1] at st;refine Rv.next_item st p (by simp;omega) (x:=u) (by simpa using hu) fun h' t' st' sb=>?_;have I1:Inv X pins Z H {s with heap:=h',toks:=t'}:=I.turned (t':=t') (fun b o hb e=>(sb.2 b hb).trans e) f0 f1 f3 f4 f5;obtain ⟨o,e,c,d⟩:=id st';have e2:((n - 1 - i:Nat):Int) - 1=(n:Int) - 1 - ((i+1:Nat):Int):=by omega
   refine ⟨u,rfl,ZgL (s:={s with heap:=h',toks:=t'}) e c d (by decide) ⟨x,H,I1,ru,⟨rfl,fun ys hy=>by rw [I.tuple_inj hy hq];exact hx⟩,⟨by omega,by rw [<- e2];exact st'⟩,fun b hb=>(hf b hb).1⟩⟩
 done:=by
   intro X hP hw hK hc i pins s Z H E I hf st hg;subst hP hw hK;obtain ⟨xs,hq,hxn,hx⟩:=hg;obtain ⟨f0,f1,f2,f3,f4,f5⟩:=hf it (by simp);have st1:=st.2;rw [show (n:Int) - 1 - (i:Nat)=-1 by omega] at st1;exact Rv.next_end (I.ok.hd hc) st1 fun h' eb=>⟨rfl,I.turned (t':=s.toks) (fun b o hb e=>eb b o hb e) f0 f1 f3 f4 f5⟩
 self:=fun _ _ _ _ _ st h=>Rv.ZgK st.2 h
end L2
end
section
set_option tactic.hygienic false
namespace L2
open PySem PySem.Spec PyProof.Rows
theorem Zeo:∀ {vs:List Value}{ss:List Str},StrsAre vs ss->Zm (ss.map V.str) vs
 | _,_,.nil=>.nil
 | _,_,.cons y t h=>.cons ⟨t,rfl⟩ (Zeo h)
section
variable {prog:Program}{w:World}{A:Around}{E:Value->Shared->Prop}{s:Shared}
theorem Zjc{r:Addr}{ss:List Str}{Q:Value->Shared->Prop}
   (hcol:∀ R:List Value->Shared->Prop,(∀ (h':Heap) (tk:Nat) (vs:List Value),s.heap.objs.size<=h'.objs.size->(∀ b o,s.heap.get? b=some o->h'.get? b=some o)->StrsAre vs ss->R vs {s with heap:=h',toks:=tk})->wpAny (model prog w) A.in1 (collect (.ref r)) R E s)
   (h64:ss.length<64)
   (h:∀ (D:Addr) (h':Heap) (tk:Nat) (out:List Value) (ss':List Str) (n:Nat),(∀ b o,s.heap.get? b=some o->h'.get? b=some o)->s.heap.objs.size<=D->h'.get? D=some {cls:=.type "list",data:=.seq out.toArray n}->StrsAre out ss'->ss'.Perm ss->sortedS ss'=true ->
     Q (.ref D) {s with heap:=h',toks:=tk}):wpAny (model prog w) A (call (.builtin "sorted") [.ref r]) Q E s:=by
 refine Calls.call_function_entry kind_sorted plain_sorted entry_sorted (args_sorted1 _) ?_;unfold Builtin.«sorted»;refine wpAny_bind (m:=checkCount "sorted" 1 1 _) (wpAny_pure (wpAny_bind (hcol _ fun h' tk vs hsz hk hS=>?_)));have hlen:vs.length=ss.length:=by
   have:=(Zeo hS).length;simpa using this.symm
 have hz:vs.length<=sizeLine:=by rw [sizeLine_eq];omega
 refine wpAny_bind (wpAny_newList ?_ hz);have hoL:(h'.push (seqObj "list" vs.toArray 0)).get? h'.objs.size=some (seqObj "list" vs.toArray 0):=Oj _ rfl;refine wpAny_bind (wpAny_holding (wpAny_call_entry slot_list_sort ⟨_,hoL,rfl⟩ entry_list_sort (list_sort_treeK strKind_oneLt hoL hS.keysOf (fun v₁ v₂ rest e=>keyKind_strs (by rw [<- e];exact hS)) (by omega) fun st' a1 a2=>⟨_,rfl,?_⟩) (args_list_sort _)));refine wpAny_pure ⟨_,rfl,?_⟩;obtain ⟨ss',h1,h2,h3⟩:=sorted_out_str hS a1 a2;obtain ⟨e,he⟩:=sortedHeap_at (out:=(arrOf st').map (·.2)) hoL;have e2:((arrOf st').map (·.2))=((arrOf st').map (·.2)).toList.toArray:=Array.toArray_toList.symm;refine h h'.objs.size _ tk ((arrOf st').map (·.2)).toList ss' e (fun b o q=>?_) hsz (by rw [<- e2];exact he) h1 h2 h3;have q':=hk b o q;have hlt:=Heap.lt_size q';rw [sortedHeap_old (Ou hlt) (by rw [size_push'];exact Nat.lt_succ_of_lt hlt)];exact Od _ q'
theorem ZiS{R:List Value->Shared->Prop}{T:String}{r d:Addr}{n:Nat}{P:Nat->Value->Prop}{OK:Heap->Prop}(K:PySem.W.KdlSrc prog w T r d n P OK)(hh:A.handled=none)(hok:OK s.heap)(hn:n<=sizeLine)
   (h:∀ (h':Heap) (tk:Nat) (acc:Array Value),s.heap.objs.size<=h'.objs.size->(∀ b o,s.heap.get? b=some o->h'.get? b=some o)->ItemsOf P acc n->R acc.toList {s with heap:=h',toks:=tk}) :
   wpAny (model prog w) A (collect (.ref r)) R E s:=by
 have lt:=K.there _ hok;unfold collect;refine wpAny_bind (wpAny_runValue (codeAny_builtin entry_proto_collect' ?_));rw [Around.under_plainId PySem.F.plain_proto_collect _];show wpAny _ A.in1 (newList [] >>= fun x=>again (.builtin "list.__iadd__" ⟨[x,.ref r],[]⟩)) _ _ s;refine wpAny_bind (wpAny_newObj_type (wpAny_pure ⟨plainId_quiet PySem.F.plain_list_iadd _,codeAny_builtin entry_list_iadd' ?_⟩));rw [Around.under_plainId PySem.F.plain_list_iadd _];have e0:(s.heap.push {cls:=.type "list",data:=.seq ([]:List Value).toArray}).get? s.heap.objs.size=some {cls:=.type "list",data:=.seq #[]}:=Oj _ rfl;show wpAny _ A.in1 (Builtin.List.listExtendWith (.ref s.heap.objs.size) (.ref r) (.ref s.heap.objs.size)) _ _ _;have key:=PySem.W.kdl_extend (A:=A) (s:={s with heap:=s.heap.push {cls:=.type "list",data:=.seq ([]:List Value).toArray}})
   (R:=fun (q:Result) (s':Shared)=>∃ (h':Heap) (tk:Nat) (acc:Array Value) (c:Nat),q=.ok (.ret (.ref s.heap.objs.size))/\s'={s with heap:=h',toks:=tk}/\(∀ b o,s.heap.get? b=some o->h'.get? b=some o)/\h'.get? s.heap.objs.size=some {cls:=.type "list",dict:=none,data:=.seq acc c,slots:=#[]}/\ItemsOf P acc n)
   K hh (K.keep _ _ hok fun b _ o e=>Od _ e) s.heap.objs.size (Nat.ne_of_gt lt.1) (Nat.ne_of_gt lt.2) (.ref s.heap.objs.size) 0 e0 (fun h' tk acc c hk hS hacc=>⟨h',tk,acc,c,rfl,rfl,fun b o e=>hk b o (Ou (Heap.lt_size e)) (Od _ e),hS,hacc⟩) hn
 refine wpAny_mono key (fun fin s' x=>?_) fun e s' x=>?_
 . cases fin with
   | done f =>
     obtain ⟨h',tk,acc,c,e,rfl,hk,hS,hacc⟩:=x;cases e;exact wpAny_bind (wpAny_load hS (wpAny_pure (h h' tk acc (Nat.le_of_lt (Heap.lt_size hS)) hk hacc)))
   | again c₁ =>
     refine ⟨x.1,codeAny_mono x.2 fun q s₂ y=>?_⟩;obtain ⟨h',tk,acc,c,rfl,rfl,hk,hS,hacc⟩:=y;exact wpAny_bind (wpAny_load hS (wpAny_pure (h h' tk acc (Nat.le_of_lt (Heap.lt_size hS)) hk hacc)))
 . obtain ⟨_,_,_,_,z,_⟩:=x;cases z
end
theorem ZfK{α β:Type}{R:α->β->Prop}:∀ {xs:List α}{ys:List β},Paired R xs ys->∀ {i:Nat}{x:α},xs[i]? = some x->∃ y,ys[i]? = some y/\R x y
 | _,_,.nil,i,x,e=>by simp at e
 | _,_,.cons h r,0,x,e=>by cases e;exact ⟨_,rfl,h⟩
 | _,_,.cons h r,i+1,x,e=>by
   obtain ⟨y,h1,h2⟩:=ZfK r (i:=i) (x:=x) (by simpa using e);exact ⟨y,by simpa using h1,h2⟩
theorem Zfo{P:Program}{w:World}:∀ (ss:List Str) (vs:List Value),vs.length=ss.length->(∀ (j:Nat) (v:Value),vs[j]? = some v->∃ x,ss[j]? = some x/\(ZE P w).is (Sum.inr x) v=true)->StrsAre vs ss
 | [],[],_,_=>.nil
 | s::ss,v::vs,hl,h=>by
   obtain ⟨x,e,hx⟩:=h 0 v rfl;cases e;obtain ⟨t,rfl⟩:=Value.isStrOf_shape (x:=s) (v:=v) hx;exact .cons s t (Zfo ss vs (by simpa using hl) fun j u hu=>h (j+1) u (by simpa using hu))
section
variable {X:Cx}
noncomputable def ZmM(P:Program)(w:World)(K:PySem.W.Frag):List V->Hp->VK->Prop:=fun xs H Q=>∃ a kvs ss,xs=[.ref a]/\Dk P w K H a kvs/\kvs.map (·.1)=ss.map Sum.inr/\ss.length<64/\∀ p ss',H p=none->ss'.Perm ss->sortedS ss'=true->Q (.ref p) (upd H p (.lst (ss'.map V.str)))
theorem ZhG (hc:X.A.handled=none):Zcp X (.builtin "sorted") (ZmM X.prog X.w X.K):=by
 intro pins s Z H xs us Q I r h;obtain ⟨a,kvs,ss,rfl,hd,hks,h64,q⟩:=h;obtain ⟨u,rfl,ru⟩:=vals1 r;cases ru;obtain ⟨z,hm,vs,rel,dd⟩:=I.dk hd;obtain ⟨ep,hat⟩:=dd.dictAt;have hl:vs.length=kvs.length:=(Paired.length rel).symm;have hl2:kvs.length=ss.length:=by
   have:=congrArg List.length hks;simpa using this
 have hkey:∀ (j:Nat) k x,vs[j]? = some (k,x)->∃ y,ss[j]? = some y/\k=Sum.inr y:=fun j k x e=>by
   have hj:j<vs.length:=(Ob.mp e).1;have h1:kvs[j]? = some kvs[j]:=Og (by omega);obtain ⟨u,hu,hu2⟩:=ZfK rel h1;rw [e] at hu;cases hu;have h3:(kvs.map (·.1))[j]? = some kvs[j].1:=by rw [On,h1];rfl
   rw [hks,On] at h3;obtain ⟨y,hy,e3⟩:=Oo.mp h3;exact ⟨y,hy,hu2.1.symm.trans e3.symm⟩
 refine Zjc (ss:=ss) (fun R hR=>ZiS (PySem.W.kdl_dict (knd:=ZE X.prog X.w) (kvs:=vs) (ep:=ep) hm) hc hat (by omega) fun h' tk acc hsz hk hacc=>?_) h64 fun D h' tk out ss' n hk hD ho hS hp hs=>?_
 . refine hR h' tk acc.toList hsz hk (Zfo (P:=X.prog) (w:=X.w) ss acc.toList (by rw [Array.length_toList,hacc.1];omega) fun j v hv=>?_);obtain ⟨k,x,e,hk2⟩:=hacc.2 j v (by rw [<- Array.getElem?_toList];exact hv);obtain ⟨y,hy,rfl⟩:=hkey j k x e;exact ⟨y,hy,hk2⟩
 . have hlen:ss'.length<=sizeLine:=by rw [hp.length_eq];omega
   refine ⟨.ref D,_,I.laid (a:=D) (o:=.lst (ss'.map V.str)) (t':=tk) hk hD ⟨by simpa using hlen,out,n,Zeo hS,ho⟩,rfl,q D ss' (I.hok.fresh hD) hp hs⟩
end
end L2
end
section
namespace L2
open PySem PySem.Spec PyProof.Rows
theorem Zdq:∀ {ns:List Int}{vs:List Value},Zm (ns.map V.int) vs->IntsAre vs ns
 | [],vs,h=>by cases h;exact .nil
 | s::ss,vs,h=>by
   rw [Op] at h;cases h with
   | cons h1 h2 =>
     obtain ⟨t,rfl⟩:=h1;exact .cons s t (Zdq h2)
noncomputable def Zer(z:Str)(n:Nat):Str:=⟨(List.replicate n z.cps).foldl (·++·) #[]⟩
theorem Zf1(a:Array Nat):∀ (n:Nat) (i:Array Nat),((List.replicate n a).foldl (·++·) i).size=i.size+n * a.size
 | 0,i=>by simp
 | n+1,i=>by
   rw [List.replicate_succ,List.foldl_cons,Zf1 a n (i++a),Array.size_append,Nat.succ_mul];omega
theorem Zd2(z:Str)(n:Nat):(Zer z n).length=n * z.length:=by
 show ((List.replicate n z.cps).foldl (·++·) #[]).size=_;rw [Zf1];simp;rfl
section
variable {X:Cx}
theorem Zmb (hc:X.A.handled=none):Zcp X (.builtin "sum") (fun xs H Q=>∃ (a:Addr) (ns:List Int),xs=[.ref a]/\SqL X.K H a (ns.map V.int)/\Q (.int ns.sum) H):=by
 intro pins s Z H xs us Q I r h;obtain ⟨a,ns,rfl,hq,q⟩:=h;obtain ⟨u,rfl,ru⟩:=vals1 r;cases ru;obtain ⟨its,rv,pl,hz⟩:=I.list hq;have hi:=Zdq rv;obtain ⟨ys,e⟩:=hi.allInts.items;refine sum_intListG (xs:=ys) hc (by rw [<- e];exact pl.isList) fun h' tk t' hk=>?_;refine ⟨.int ns.sum,H,I.kept (t':=tk) hk,⟨t',?_⟩,q⟩;have e2:=hi.numsOf;have e3:numsOf (intItems ys).toList=ns:=by rw [<- e];exact e2
 rw [nums_intItems] at e3;rw [preSum_eq,List.take_of_length_le (by simp),e3]
theorem Zpl:OpR X (binaryOp .Mult) (fun x y H Q=>∃ z n,x=.str z/\y=.int n/\0<=n/\n<=1000/\z.length<=1000/\Q (.str (Zer z n.toNat)) H):=by
 intro pins s Z H x y v u Q I rx ry h;obtain ⟨z,n,rfl,rfl,h0,h1,h2,q⟩:=h;obtain ⟨t,rfl⟩:=rx;obtain ⟨t2,rfl⟩:=ry;have hl:z.length * n.toNat<=1000000:=Nat.mul_le_mul h2 (by omega:n.toNat<=1000);have hs:(1000000:Nat)<=sizeLine:=by decide
 refine PySem.P.mul_str (by rw [decide_eq_false (by omega:¬ n < -(2 ^ 63:Int)),decide_eq_false (by omega:¬ n ≥ 2 ^ 63)]<;>rfl) (fun _ _=>?_) (fun _ _=>?_) ?_
 . have h3:1<=n:=by omega
   have h4:(9223372036854775807:Int) / n ≥ 1000:=by
     have:1000<=9223372036854775807 / n:=(Int.le_ediv_iff_mul_le (by omega)).mpr (by omega);exact this
   show ¬ ((z.length:Int) > (2 ^ 63 - 1) / n);rw [show (2 ^ 63 - 1:Int)=9223372036854775807 by decide];omega
 . unfold Builtin.Str.tooLong;exact decide_eq_false (by omega)
 . by_cases hn:n<1
   . rw [if_pos hn];refine ⟨by decide,.str _,H,I.tok _,⟨_,rfl⟩,?_⟩;rw [show n.toNat=0 by omega] at q;exact q
   . rw [if_neg hn];by_cases h5:(n==1 || z.length==0)=true
     . rw [if_pos h5];refine ⟨.str _,H,I,⟨_,rfl⟩,?_⟩;have e:Zer z n.toNat=z:=by
         rw [Bool.or_eq_true] at h5;rcases h5 with h5|h5
         . have e1:n.toNat=1:=by have:=eq_of_beq h5;omega
           rw [e1];unfold Zer;simp
         . have e1:z.length=0:=eq_of_beq h5;have e2:(Zer z n.toNat).length=0:=by rw [Zd2,e1];simp
           have f:∀ y:Str,y.length=0->y=⟨#[]⟩:=fun y hy=>by
             cases y with|mk c=>rw [show c=#[] from Array.eq_empty_of_size_eq_zero hy]
           exact (f _ e2).trans (f z e1).symm
       rw [e] at q;exact q
     . rw [if_neg h5];refine ⟨?_,.str _,H,I.tok _,⟨_,rfl⟩,q⟩;show (Zer z n.toNat).length<=sizeLine;rw [Zd2,Nat.mul_comm];omega
end
end L2
end
section
namespace L2
open PySem PySem.Spec PyProof.Rows
section
variable {X:Cx}
theorem Zhl{i j:Int}(hi:i.natAbs<2 ^ 2000)(hj:j.natAbs<2 ^ 2000):IntMulOk i j:=by
 have bits:∀ k:Int,k.natAbs<2 ^ 2000->Builtin.Int.intBits k<=2000:=fun k hk=>by
   unfold Builtin.Int.intBits;split
   . omega
   . rename_i h;have h0:k.natAbs≠0:=by simpa using h
     have:=(Nat.log2_lt h0).mpr hk;omega
 unfold IntMulOk;have h1:=bits i hi;have h2:=bits j hj;have h3:Builtin.Int.intTooBig (Builtin.Int.intBits i+Builtin.Int.intBits j:Nat)=false:=by
   unfold Builtin.Int.intTooBig;rw [decide_eq_false_iff_not];have:(bitsLine:Nat)=134217728:=by decide
   rw [this];omega
 intro q;simp only [Oa] at q;have q2:=q.2;rw [show ((Builtin.Int.intBits i:Int)+(Builtin.Int.intBits j:Int))=((Builtin.Int.intBits i+Builtin.Int.intBits j:Nat):Int) by simp] at q2;rw [h3] at q2;cases q2
theorem ZlK:OpR X (binaryOp .Mult) (rI (fun i j=>i.natAbs<2 ^ 2000/\j.natAbs<2 ^ 2000) fun i j=>.int (i * j)):=opI fun _ _ _ _ _ _ _ hc q=>mul_int q (Zhl hc.1 hc.2)
noncomputable def ZtC(K:PySem.W.Frag):R2:=fun x y H Q=>∃ a b ys,x=.ref a/\y=.ref b/\SqT K H a []/\SqT K H b ys/\Q (.ref b) H
theorem Zpo:OpR X (binaryOp .Add) (ZtC X.K):=by
 intro pins s Z H x y v u Q I rx ry h;obtain ⟨a,b,ys,rfl,rfl,ha,hb,q⟩:=h;cases rx;cases ry;obtain ⟨its,r1,ht,_⟩:=I.tuple ha;obtain ⟨its2,r2,hb,_⟩:=I.tuple hb;cases r1;obtain ⟨⟨cls,dd,data,sl⟩,ho,hc,n,hd⟩:=id ht;obtain ⟨⟨cls2,dd2,data2,sl2⟩,ho2,hc2,n2,hd2⟩:=id hb;simp only at hc hd hc2 hd2;subst hc hd hc2 hd2;exact concat_meets ⟨_,ho,rfl⟩ ⟨_,ho2,rfl⟩ noFill_tuple_add seq_tuple_add PySem.F.slot_tuple_add PySem.F.entry_tuple_add (PySem.F.args_tuple_add_2 _ _)
     (tuple_addW0 a b _ _ n n2 dd dd2 sl sl2 (by simp)) ⟨ho,ho2,⟨.ref b,H,I,rfl,q⟩⟩
end
end L2
namespace HT
open PySem PyProof.Rows
section
variable {prog:Program}{w:World}{A:Around}{E:Value->Shared->Prop}{s:Shared}
theorem Zdp{t sl:Addr}{items:Array Value}{vl vu:Value}{lo hi:Option Int}{Q:Value->Shared->Prop}(ht:IsTup s.heap t items)(hs:s.heap.IsSliceOf sl vl vu .none)(pl:IsPart vl lo)(pu:IsPart vu hi)
   (hw:sIx items.size 0 lo=0/\sIx items.size items.size hi=items.size) (h:Q (.ref t) s):wpAny (model prog w) A (getItem (.ref t) (.ref sl)) Q E s:=by
 obtain ⟨os,hos,hcs,hds⟩:=id hs;have hTs:s.TypeIs (.ref sl) "slice" := ⟨os,hos,hcs⟩
 unfold getItem
 try with_reducible refine wpAny_holding ?_
 first|refine wpAny_bind (wpAny_pure ?_)|skip
 refine wpAny_bind (wpAny_sequenceKey ht.typeIs (by decide) ?_);refine wpAny_bind (wpAny_callSpecial?_slot (name:=O "__getitem__") ht.typeIs PyProof.Rows.slot_tuple_getitem
   (wpAny_call_entry PyProof.Rows.slot_tuple_getitem ht.typeIs entry_tuple_getitem ?_ (args_tuple_getitem _ _)))
 show wpAny _ _ (Builtin.Tuple.tupleItemsOf (.ref t) >>= _) _ _ s;refine wpAny_bind (tupleItemsOf_ ht ?_);refine wpAny_bind (wpAny_typeOf hTs ?_);rw [if_pos (by decide)];refine wpAny_bind (Zcb hs pl pu ?_);have hyes:(((sIx items.size 0 lo:Nat):Int)==0&&(1:Int)==1&&(sIx items.size items.size hi - sIx items.size 0 lo)==items.size)=true:=by
   rw [hw.1,hw.2];simp
 show wpAny _ _ (if (((sIx items.size 0 lo:Nat):Int)==0&&(1:Int)==1&&(sIx items.size items.size hi - sIx items.size 0 lo)==items.size)=true then _ else _) _ _ s;rw [if_pos hyes];unfold Builtin.Tuple.tupleIsExact;refine wpAny_bind (wpAny_bind (wpAny_typeOf ht.typeIs (wpAny_pure ?_)));rw [if_pos (by decide)];exact wpAny_bind (wpAny_rule (wpAny_pure ⟨_,rfl,wpAny_pure h⟩))
end
end HT
namespace L2
open PySem PySem.Spec PyProof.Rows
section
variable {X:Cx}
noncomputable def Zvi(K:PySem.W.Frag):V->Option Int->Option Int->Hp->VK->Prop:=fun x lo hi H Q=>∃ a xs,x=.ref a/\SqT K H a xs /\
 (HT.sIx xs.length 0 lo=0/\HT.sIx xs.length xs.length hi=xs.length)/\Q (.ref a) H
theorem Zmw:SlR X (Zvi X.K):=by
 intro pins s Z H x v vl vu lo hi sl Q I rx hs pl pu h;obtain ⟨a,xs,rfl,hx,hw,q⟩:=h;cases rx;obtain ⟨its,r,ht,hz⟩:=I.tuple hx;have hlen:its.toArray.size=xs.length:=by rw [Of];exact r.length.symm
 refine ⟨"tuple",_,PyProof.Rows.slot_tuple_getitem.lookup,ht.typeIs,?_⟩;exact HT.Zdp ht hs pl pu (by rw [hlen];exact hw) ⟨.ref a,H,I,rfl,q⟩
end
end L2
end
section
set_option tactic.hygienic false
namespace L2
namespace Mx
open PySem PyProof.Rows
theorem nm:(toString "max" ++ toString ".loop" : String) = "max.loop" := by decide
section
variable {prog:Program}{w:World}{A:Around}{Z_:Result->Shared->Prop}{J:Addr}{fo wo:List Addr}{m:Nat}{P:Nat->Value->Prop}{S_:Nat->Heap->Prop}
theorem loop(W:Walks prog w A.in1 J fo wo m P S_)(bt:Nat->Nat->Bool)(hb:CmpOf prog w A.in1 .Gt P bt)(C:Addr)(hC:C ∉ fo)(kw:List (Str×Value)):∀ (d j:Nat) (s:Shared) (u:Value) (c:Nat),
   m - (j+1)=d->j+1<=m->S_ (j+1) s.heap->P (argBest bt j) u->s.heap.get? C=some {cls:=.type "list",dict:=none,data:=.seq #[u,u] c,slots:=#[]} ->
   (∀ v hp tk,P (argBest bt (m - 1)) v->(∀ b o,b ∉ wo->b≠C->s.heap.get? b=some o->hp.get? b=some o)->Z_ (.ok (.ret v)) {s with heap:=hp,toks:=tk}) ->
   codeAny (model prog w) A (.builtin "max.loop" ⟨[.ref J,.none,.ref C],kw⟩) Z_ s:=by
 have hCw:C ∉ wo:=fun z=>hC (W.sub _ z);intro d;induction d with
 | zero =>
   intro j s u c e1 e2 st pu hc hz;have em:j+1=m:=by omega
   refine codeAny_builtin PySem.F.entry_max_loop ?_;rw [Around.under_plainId PySem.F.plain_max_loop _];show wpAny (model prog w) A.in1 (seqItems? (Value.ref C) >>= _) _ _ s;refine wpAny_bind (wpAny_seqItems hc rfl ?_);show wpAny (model prog w) A.in1 (tryCatch (pyNext (Value.ref J)) _ >>= _) _ _ s;refine wpAny_bind (wpAny_tryCatch (W.done s _ _ (em ▸ st) fun hp tk kp=>?_));have hc1:=kp C _ hCw hc;show wpAny (model prog w) A.in1 (updateSeq C (fun _=>#[]) >>= _) _ _ _;exact wpAny_bind (wpAny_updateSeq hc1 rfl (wpAny_bind (wpAny_letGo (wpAny_pure (hz u _ tk (by rw [<- em];exact pu) fun b o b1 b2 e=>(Heap.get?_update_other _ _ (Ne.symm b2)).trans (kp b o b1 e))))))
 | succ d ih =>
   intro j s u c e1 e2 st pu hc hz;have lt:j+1<m:=by omega
   refine codeAny_builtin PySem.F.entry_max_loop ?_;rw [Around.under_plainId PySem.F.plain_max_loop _];show wpAny (model prog w) A.in1 (seqItems? (Value.ref C) >>= _) _ _ s;refine wpAny_bind (wpAny_seqItems hc rfl ?_);show wpAny (model prog w) A.in1 (tryCatch (pyNext (Value.ref J)) _ >>= _) _ _ s;refine wpAny_bind (wpAny_tryCatch (W.item (j+1) s _ _ lt st fun v hp tk pv st1 kp=>?_));have hc1:=kp C _ hCw hc;show wpAny (model prog w) A.in1 (tryCatch (holding [v,v] (richCompare CmpOp.Gt v u >>= _)) _ >>= _) _ _ _;refine wpAny_bind (wpAny_tryCatch (wpAny_holding (wpAny_bind (hb (j+1) (argBest bt j) v u _ _ _ pv pu (wpAny_bind (wpAny_holding (wpAny_truthy_bool (wpAny_bind (wpAny_letGo (wpAny_pure ?_))))))))));cases q:bt (j+1) (argBest bt j) with
   | true =>
     simp only [if_true];refine wpAny_bind (wpAny_updateSeq hc1 rfl (wpAny_bind (wpAny_letGo ?_)));rw [nm];refine wpAny_pure ⟨plainId_quiet PySem.F.plain_max_loop _,ih (j+1) _ v _ (by omega) lt (W.frame _ _ _ st1 fun b b1 o e=>?_) (by simp only [argBest,q,if_true];exact pv) (Heap.get?_update_self _ hc1 rfl) fun v2 hp2 tk2 pv2 kp2=>?_⟩
     . exact (Heap.get?_update_other _ _ (fun z:C=b=>hC (by rw [z];exact b1))).trans e
     . exact hz v2 hp2 tk2 pv2 fun b o b1 b2 e=>kp2 b o b1 b2 ((Heap.get?_update_other _ _ (Ne.symm b2)).trans (kp b o b1 e))
   | false =>
     simp only [OG,if_false];refine wpAny_bind (wpAny_letGo ?_);rw [nm];exact wpAny_pure ⟨plainId_quiet PySem.F.plain_max_loop _,ih (j+1) _ u c (by omega) lt st1 (by simp only [argBest,q,OG,if_false];exact pu) hc1 fun v2 hp2 tk2 pv2 kp2=>hz v2 hp2 tk2 pv2 fun b o b1 b2 e=>kp2 b o b1 b2 (kp b o b1 e)⟩
theorem first(W:Walks prog w A.in1 J fo wo m P S_)(bt:Nat->Nat->Bool)(hb:CmpOf prog w A.in1 .Gt P bt)(C:Addr)(hC:C ∉ fo)(dn:Str)(dv:Value){s:Shared}{c:Nat}(st:S_ 0 s.heap)
   (hc:s.heap.get? C=some {cls:=.type "list",dict:=none,data:=.seq #[] c,slots:=#[]})
   (hz:∀ v hp tk,(m=0->v=dv)->(0<m->P (argBest bt (m - 1)) v)->(∀ b o,b ∉ wo->b≠C->s.heap.get? b=some o->hp.get? b=some o)->Z_ (.ok (.ret v)) {s with heap:=hp,toks:=tk}) :
   codeAny (model prog w) A (.builtin "max.loop" ⟨[.ref J,.none,.ref C],[(dn,dv)]⟩) Z_ s:=by
 have hCw:C ∉ wo:=fun z=>hC (W.sub _ z);refine codeAny_builtin PySem.F.entry_max_loop ?_;rw [Around.under_plainId PySem.F.plain_max_loop _];show wpAny (model prog w) A.in1 (seqItems? (Value.ref C) >>= _) _ _ s;refine wpAny_bind (wpAny_seqItems hc rfl ?_);show wpAny (model prog w) A.in1 (tryCatch (pyNext (Value.ref J)) _ >>= _) _ _ s;by_cases hm:0<m
 . refine wpAny_bind (wpAny_tryCatch (W.item 0 s _ _ hm st fun v hp tk pv st1 kp=>?_));have hc1:=kp C _ hCw hc;show wpAny (model prog w) A.in1 (updateSeq C (fun _=>#[v,v]) >>= _) _ _ _;refine wpAny_bind (wpAny_updateSeq hc1 rfl ?_);rw [nm];refine wpAny_pure ⟨plainId_quiet PySem.F.plain_max_loop _,loop W bt hb C hC _ _ 0 _ v _ rfl hm (W.frame _ _ _ st1 fun b b1 o e=>?_) pv (Heap.get?_update_self _ hc1 rfl) fun v2 hp2 tk2 pv2 kp2=>?_⟩
   . exact (Heap.get?_update_other _ _ (fun z:C=b=>hC (by rw [z];exact b1))).trans e
   . exact hz v2 hp2 tk2 (fun z=>by omega) (fun _=>pv2) fun b o b1 b2 e=>kp2 b o b1 b2 ((Heap.get?_update_other _ _ (Ne.symm b2)).trans (kp b o b1 e))
 . have h0:m=0:=by omega
   refine wpAny_bind (wpAny_tryCatch (W.done s _ _ (h0 ▸ st) fun hp tk kp=>?_));exact wpAny_bind (wpAny_rule (wpAny_pure (hz dv hp tk (fun _=>rfl) (fun z=>absurd z hm) fun b o b1 _ e=>kp b o b1 e)))
end
section
variable {prog:Program}{w:World}{A:Around}{E:Value->Shared->Prop}{s:Shared}
theorem args (a d:Value):argsOk "max" ⟨[a],[("default",d)]⟩:=by unfold argsOk;kernel_rfl
theorem call{x dv:Value}{Q:Value->Shared->Prop}
   (h:wpAny (model prog w) A.in1 (pyIter x) (fun it s2=>∃ J fo wo m P S_ bt,it=.ref J/\Walks prog w A.in1 J fo wo m P S_/\S_ 0 s2.heap/\(∀ b∈fo,b<s2.heap.objs.size)/\CmpOf prog w A.in1 .Gt P bt /\
     ∀ v hp tk,(m=0->v=dv)->(0<m->P (argBest bt (m - 1)) v)->(∀ b o,b ∉ wo->s2.heap.get? b=some o->hp.get? b=some o)->Q v {s2 with heap:=hp,toks:=tk}) E s) :
   wpAny (model prog w) A (PySem.call (.builtin "max") [x] [("default",dv)]) Q E s:=by
 refine wpAny_call (codeAny_call_builtin PySem.F.plain_max PySem.F.entry_max ?_);simp only [checkBuiltinCall,PySem.F.kind_max];have go:wpAny (model prog w) A.in1 (Builtin.«max» ⟨[x],[("default",dv)]⟩) (fun fin s'=>match fin with
     | .done f=>(match (Except.ok f:Result) with|.ok (.ret v)=>Q v s'|.ok _=>False|.error e=>E e s')
     | .again c'=>c'.quiet=true/\codeAny (model prog w) A c' (fun r s'=>match r with|.ok (.ret v)=>Q v s'|.ok _=>False|.error e=>E e s') s') E s:=by
   show wpAny (model prog w) A.in1 (Builtin.Builtins.bindParams "max" ["key", "default"] 0 ⟨[],[("default",dv)]⟩ >>= _) _ _ s;refine wpAny_bind (wpAny_of_eq (show Builtin.Builtins.bindParams "max" ["key", "default"] 0 ⟨[],[("default",dv)]⟩=pure [none,some dv] from rfl) (wpAny_bind (wpAny_pure (wpAny_bind (wpAny_mono h (fun it s2 q=>?_) fun _ _ e=>e)))));obtain ⟨J,fo,wo,m,P,S_,bt,rfl,W,st,hfo,hb,hQ⟩:=q;refine wpAny_bind (wpAny_newObj_type ?_);have hC:s2.heap.objs.size ∉ fo:=fun z=>Nat.lt_irrefl _ (hfo _ z);rw [nm];exact wpAny_pure ⟨plainId_quiet PySem.F.plain_max_loop _,first W bt hb s2.heap.objs.size hC _ dv (W.frame _ _ _ st fun b _ o e=>Od _ e) (Oj _ rfl) fun v hp tk a1 a2 kp=>hQ v hp tk a1 a2 fun b o b1 e=>kp b o b1 (Ou (Heap.lt_size e)) (Od _ e)⟩
 cases hs:Manifest.signature? "max" with
 | none=>exact wpAny_pure go
 | some sig =>
   have ha:=args x dv;simp only [argsOk,hs] at ha;have h2:Bind.checkArgs "max" sig ⟨[x],[("default",dv)]⟩=pure ():=ha;show wpAny _ A.in1 (Bind.checkArgs "max" sig ⟨[x],[("default",dv)]⟩) _ _ s;rw [h2];exact wpAny_pure go
end
end Mx
end L2
namespace L2
open PySem PySem.Spec PyProof.Rows
noncomputable def ZcS:List Int->Int->Int
 | [],d=>d
 | x::r,_=>r.foldl (fun m y=>if y > m then y else m) x
theorem ZgT(ns:List Int):∀ k,k<ns.length->(argBest (fun i j=>decide (ns.getD i 0 > ns.getD j 0)) k)<ns.length/\ns.getD (argBest (fun i j=>decide (ns.getD i 0 > ns.getD j 0)) k) 0=ZcS (ns.take (k+1)) 0
 | 0,h=>by
   cases ns with
   | nil=>simp at h
   | cons x r=>exact ⟨by simp [argBest],by simp [argBest,ZcS]⟩
 | k+1,h=>by
   obtain ⟨h1,h2⟩:=ZgT ns k (by omega);have e:ZcS (ns.take (k+1+1)) 0=if ns.getD (k+1) 0 > ZcS (ns.take (k+1)) 0 then ns.getD (k+1) 0 else ZcS (ns.take (k+1)) 0:=by
     cases ns with
     | nil=>simp at h
     | cons x r =>
       have hk:k<r.length:=by simpa using h
       show ((r.take (k+1)).foldl _ x)=_;rw [List.take_succ_eq_append_getElem hk,List.foldl_append];simp only [List.foldl_cons,List.foldl_nil];have:(x::r).getD (k+1) 0=r[k]:=by simp [List.getD_eq_getElem?_getD,Og hk]
       rw [this];rfl
   rw [e,<- h2];have ea:argBest (fun i j=>decide (ns.getD i 0 > ns.getD j 0)) (k+1)=if decide (ns.getD (k+1) 0 > ns.getD (argBest (fun i j=>decide (ns.getD i 0 > ns.getD j 0)) k) 0)=true then k+1 else argBest (fun i j=>decide (ns.getD i 0 > ns.getD j 0)) k:=rfl;rw [ea];by_cases q:ns.getD (k+1) 0 > ns.getD (argBest (fun i j=>decide (ns.getD i 0 > ns.getD j 0)) k) 0
   . rw [if_pos (decide_eq_true q),if_pos q];exact ⟨h,rfl⟩
   . rw [if_neg (by simpa using q),if_neg q];exact ⟨h1,rfl⟩
section
variable {X:Cx}
theorem Znp(hc:X.calm=true){pins:List (Addr×Obj)}{s:Shared}{Z:L2.St}{H:Hp}{a:Addr}{ns:List Int}{d:Int}{t:Tok}{Q:VK}(I:Inv X pins Z H s)(hx:SqL X.K H a (ns.map V.int))(q:Q (.int (ZcS ns d)) H) :
   wpAny (model X.prog X.w) X.A (PySem.call (.builtin "max") [.ref a] [("default",.int d t)]) (EP X pins Z Q) X.xe s:=by
 obtain ⟨its,rv,pl,hz⟩:=I.list hx;have hlt:a<s.heap.objs.size:=by obtain ⟨_,_,e,_⟩:=pl;exact Heap.lt_size e
 have hl:its.length=ns.length:=by have:=rv.length;rw [List.length_map] at this;exact this.symm
 have val:∀ {i:Nat}{v:Value},its.toArray[i]? = some v->i<ns.length/\∃ t,v=.int (ns.getD i 0) t:=fun {i v} hv=>by
   have hv':its[i]? = some v:=by simpa using hv
   have hi:i<ns.length:=by rw [<- hl];exact (Ob.mp hv').1
   have hb:(ns.map V.int)[i]? = some (.int ns[i]):=by rw [On,Og hi]<;>rfl
   obtain ⟨u',e',r'⟩:=rv.get hb;rw [hv'] at e';cases e';obtain ⟨t,rfl⟩:=r';exact ⟨hi,t,by simp [List.getD_eq_getElem?_getD,Og hi]⟩
 refine Mx.call (wpAny_pyIter_list pl.isList ?_);refine ⟨s.heap.objs.size,_,_,_,_,_,fun i j=>decide (ns.getD i 0 > ns.getD j 0),rfl,Walks.list (A:=X.A.in1) (show X.A.in1.handled=none from I.ok.hd hc) s.heap.objs.size a (Ou hlt) its.toArray,⟨⟨_,Oj _ rfl,rfl,rfl⟩,pl.isList.push _⟩,?_,?_,fun v hp tk a1 a2 kp=>?_⟩
 . intro b hb;have hp1:b<s.heap.objs.size+1:=by
     simp at hb;rcases hb with rfl|rfl
     . exact OH _
     . exact Nat.lt_succ_of_lt hlt
   simpa [Heap.push] using hp1
 . exact CmpOf.ints_gt (fun i=>ns.getD i 0) fun i v hv=>(val hv).2
 . refine ⟨.int (ZcS ns d),H,I.kept fun b o e=>kp b o (fun z=>?_) (Od _ e),?_,q⟩
   . have:b=s.heap.objs.size:=by simpa using z
     subst this;exact absurd (Heap.lt_size e) (Nat.lt_irrefl _)
   . have hsz:its.toArray.size=ns.length:=by rw [Of,hl]
     by_cases h0:ns=[]
     . subst h0;have:=a1 (by rw [hsz];rfl);subst this;exact ⟨t,rfl⟩
     . have hp0:0<ns.length:=List.length_pos_iff.mpr h0;obtain ⟨_,t3,ev⟩:=val (a2 (by rw [hsz];exact hp0));refine ⟨t3,?_⟩;rw [ev,hsz,(ZgT ns (ns.length - 1) (by omega)).2,List.take_of_length_le (by omega)];cases ns with
       | nil=>exact absurd rfl h0
       | cons x r=>rfl
end
end L2
namespace L2
open PySem PySem.Spec PyProof.Rows
section
variable {X:Cx}
noncomputable def Ztg(K:PySem.W.Frag)(ta tb:TE):TE:=fun Z H Q=>ta Z H fun v H1=>tb Z H1 fun u H2=>∃ a ns d,v=.ref a/\u=.int d/\SqL K H2 a (ns.map V.int)/\Q (.int (ZcS ns d)) H2
theorem Zpc {x y:Expr}{ta tb:TE}{p kp pos:Pos} (hg:Gl X "max") (hm:X.mg "max" = none) (hc:X.calm=true) (ha:PE X x ta) (hb:PE X y tb) (he:starEach [x] X.env=[(false,eval x X.env)]) :
   PE X (.Call (.Name "max" p) [x] [⟨some "default",y,kp⟩] pos) (Ztg X.K ta tb):=by
 intro pins s Z H Q I h;refine wpAny_Call_Name_kw (ZcU I hg hm boot_max ?_);refine PyProof.Rows.callWith_kw ?_ (by rw [he];rfl) (by rw [he];rfl);rw [he];refine Calls.spliced_cons (thn (ha pins s Z H _ I h) fun v s1 ⟨vv,H1,I1,r1,q1⟩=>Calls.spliced_nil ?_);refine kws_cons (thn (hb pins s1 Z H1 _ I1 q1) fun u s2 ⟨uu,H2,I2,r2,q2⟩=>kws_nil ?_);obtain ⟨a,ns,d,rfl,rfl,hq,q⟩:=q2;cases r1;obtain ⟨t,rfl⟩:=r2;exact Znp hc I2 hq q
end
end L2
end
section
namespace L2
open PySem PySem.Spec PyProof PyProof.Rows PySem.AutoSeq1
set_option maxRecDepth 8000 in
theorem Zj1(l:Addr)(items:Array Value)(n:Nat)(b:Addr)(items2:Array Value)(n2:Nat)(od:Option Addr)(sl:Array (Option Value))(hs0:¬(!items.isEmpty&&Builtin.List.listTooLong (items.size+items2.size))=true)(hs1:items.size<=sizeLine)(hs2:items.size+items2.size<=sizeLine+1) :
   Meets (Builtin.«list.extend» ⟨[.ref l,.ref b],[]⟩) (fun _ R s=>s.heap.get? l=some {cls:=.type "list",dict:=none,data:=.seq items n,slots:=#[]}/\s.heap.get? b=some {cls:=.type "tuple",dict:=od,data:=.seq items2 n2,slots:=sl}/\R (.ok (.ret Value.none)) {s with heap:=s.heap.update l (Obj.mapSeq fun x=>x++items2),toks:=s.toks}) :=
 .of_wp fun prog w A R s h=>by
   obtain ⟨hp,g,d,tk,os⟩:=s;obtain ⟨hl,hb,h⟩:=h;have f1:=idx_int;have f2:=AutoSeq1.sub_tuple_tuple;have f3:=AutoSeq1.sub_list_list;have f4:=AutoSeq1.sub_tuple_list;have f5:=AutoSeq1.sub_list_tuple;have hz':(items++items2).size<=sizeLine+1:=by rw [Array.size_append];exact hs2
   wp_walk using (wpAny_updateSeq hl rfl (hz:=hs1) (_hz':=hz')),wpAny_loadPart' hl,wpAny_loadPart' hb;exact ⟨_,rfl,h⟩
section
variable {X:Cx}
noncomputable def ZmO(K:PySem.W.Frag):V->List V->Hp->VK->Prop:=fun x vs H Q=>∃ l b xs zs,x=.ref l/\vs=[.ref b]/\H l=some (.lst xs)/\SqT K H b zs/\xs.length+zs.length<=sizeLine/\Q .non (upd H l (.lst (xs++zs)))
theorem Zjv:MtM X "list.extend" (ZmO X.K):=by
 intro pins s Z H x vs v us Q I rx rv h;obtain ⟨l,b,xs,zs,rfl,rfl,hH,hB,hz,q⟩:=h;cases rx;obtain ⟨u,rfl,ru⟩:=rv.one;cases ru;obtain ⟨z,its,n,r,hl,e⟩:=I.lstM hH;obtain ⟨its2,r2,⟨o,e2,oc,n2,od⟩,z2⟩:=I.tuple hB;obtain ⟨cls,dc,dat,sl⟩:=o;simp only at oc od;subst oc;subst od;have hl2:=r2.length;have hsz:its.toArray.size+its2.toArray.size<=sizeLine:=by rw [Of,Of];omega
 have hlong:¬ (!its.toArray.isEmpty&&Builtin.List.listTooLong (its.toArray.size+its2.toArray.size))=true:=by
   rw [Zik hsz,Bool.and_false];exact Ow
 refine call_meets F.slot_list_extend ⟨_,e,rfl⟩ F.entry_list_extend (F.args_list_extend_2 _ _)
   (Zj1 l its.toArray n b its2.toArray n2 dc sl hlong (by rw [Of];omega) (by omega)) ⟨e,e2,?_⟩
 refine ⟨.non,_,I.lset (its':=its++its2) hH e (by simp) (r.append r2) ?_,rfl,q⟩;rw [OA];omega
end
end L2
end
section
namespace L2
open PySem PySem.Spec PyProof.Rows
noncomputable def ZsN(K:PySem.W.Frag)(a:Addr)(n:Nat):It :=
 ⟨fun i H=>∃ xs x,SqL K H a xs/\xs.length=n/\xs.reverse[i]? = some x,fun i H x H'=>H'=H/\∀ xs,SqL K H a xs->xs.reverse[i]? = some x,fun i H=>∃ xs,SqL K H a xs/\xs.length=n/\n=i⟩
theorem Zlh{P:Program}{w:World}{K:PySem.W.Frag}{tg:Expr}(a it:Addr)(n:Nat):Turn P w K tg (ZsN K a n) [it] it (fun i h=>i<=n/\h.IsRevIter it a ((n:Int) - 1 - i)) where
 mem:=by simp
 obj:=fun i h st b hb=>by
   have e:b=it:=by simpa using hb
   subst e;obtain ⟨_,o,e,c,d⟩:=st;exact ⟨o,e,fun v z=>by rw [d] at z;cases z⟩
 keep:=fun i h h' st k=>⟨st.1,st.2.at fun o e=>k it (by simp) o e⟩
 item:=by
   intro X hP hw hK hc i pins s Z H E I hf st hg;subst hP hw hK;obtain ⟨hin,st⟩:=st;obtain ⟨xs,x,hq,hxn,hx⟩:=hg;obtain ⟨its,rv,p,hz⟩:=I.list hq;have hl:=rv.length;have hi:i<xs.length:=by
     have:=(Ob.mp hx).1;simpa using this
   have hx':xs[n - 1 - i]? = some x:=by
     rw [List.getElem?_reverse hi] at hx;rw [<- hxn];exact hx
   obtain ⟨u,hu,ru⟩:=rv.get hx';obtain ⟨f0,f1,f2,f3,f4,f5⟩:=hf it (by simp);have e1:(n:Int) - 1 - (i:Nat)=((n - 1 - i:Nat):Int):=by omega
   rw [e1] at st;refine wpAny_pyNext_rev_item st p.isList (x:=u) (by simpa using hu) fun h' st' sb=>?_;have I1:Inv X pins Z H {s with heap:=h'}:=I.turned (t':=s.toks) (fun b o hb e=>(sb.2 b hb).trans e) f0 f1 f3 f4 f5;obtain ⟨o,e,c,d⟩:=id st';have e2:((n - 1 - i:Nat):Int) - 1=(n:Int) - 1 - ((i+1:Nat):Int):=by omega
   exact ⟨u,rfl,ZgL (s:={s with heap:=h'}) e c d (by decide) ⟨x,H,I1,ru,⟨rfl,fun ys hy=>by rw [I.list_inj hy hq];exact hx⟩,⟨by omega,by rw [<- e2];exact st'⟩,fun b hb=>(hf b hb).1⟩⟩
 done:=by
   intro X hP hw hK hc i pins s Z H E I hf st hg;subst hP hw hK;obtain ⟨xs,hq,hxn,hx⟩:=hg;obtain ⟨f0,f1,f2,f3,f4,f5⟩:=hf it (by simp);have st1:=st.2;rw [show (n:Int) - 1 - (i:Nat)=-1 by omega] at st1;exact wpAny_pyNext_rev_end (I.ok.hd hc) st1 fun h' eb=>⟨rfl,I.turned (t':=s.toks) (fun b o hb e=>eb b o hb e) f0 f1 f3 f4 f5⟩
 self:=fun _ _ _ _ _ st h=>wpAny_pyIter_revIter st.2 h
noncomputable def Zuh(K:PySem.W.Frag)(ta:TA):TI:=fun Z H R=>ta Z H fun vs H1=>∃ a xs,vs=[.ref a]/\((SqT K H1 a xs/\R (Itv K a xs.length) H1)\/(SqL K H1 a xs/\R (ZsN K a xs.length) H1))
theorem Zo9 {X:Cx}{tg l:Expr}{ta:TA}{p pos:Pos} (hg:Gl X "reversed") (hm:X.mg "reversed" = none) (ha:PA X [l] ta) (hs:starEach [l] X.env=[(false,eval l X.env)]:=by rfl) :
   PI X tg (.Call (.Name "reversed" p) [l] [] pos) (Zuh X.K ta):=by
 intro pins s Z H R I h;refine Call_ (ZcU I hg hm boot_reversed (PyProof.Rows.callWith_type1 (thn (ha pos pins s Z H _ I h) fun us s1 ⟨vs,H1,I1,r1,q1⟩=>?_) hs rfl));obtain ⟨a,xs,rfl,q⟩:=q1;obtain ⟨u,rfl,ru⟩:=vals1 r1;obtain rfl:u=Value.ref a:=ru;rcases q with ⟨hq,q⟩|⟨hq,q⟩
 . obtain ⟨its,rv,pl,hz⟩:=I1.tuple hq;have hl:=rv.length;refine Rv.call pl (by simp;omega) ?_;have e1:((its.toArray.size:Nat):Int) - 1=(xs.length:Int) - 1 - ((0:Nat):Int):=by simp;omega
   have st:Rv.Is (s1.heap.push (Rv.obj a (((its.toArray.size:Nat):Int) - 1))) s1.heap.objs.size a ((xs.length:Int) - 1 - ((0:Nat):Int)):=⟨_,Oj _ rfl,rfl,by rw [<- e1];rfl⟩
   refine Rv.ZgK st ?_;refine ⟨s1.heap.objs.size,[s1.heap.objs.size],_,_,H1,rfl,I1.kept (t':=s1.toks+1+1) fun b o e=>Od _ e,Zml a _ xs.length,⟨Nat.zero_le _,st⟩,fun b hb=>?_,q⟩;have e:b=s1.heap.objs.size:=by simpa using hb
   subst e;exact I1.fpOk (Oq _) (I1.hok.fresh (Oq _))
 . obtain ⟨its,rv,pl,hz⟩:=I1.list hq;have hl:=rv.length;refine call_reversed_list pl.isList ?_;have e1:((its.toArray.size:Nat):Int) - 1=(xs.length:Int) - 1 - ((0:Nat):Int):=by simp;omega
   have st:(s1.heap.push (revObj a (((its.toArray.size:Nat):Int) - 1))).IsRevIter s1.heap.objs.size a ((xs.length:Int) - 1 - ((0:Nat):Int)):=⟨_,Oj _ rfl,rfl,by rw [<- e1];rfl⟩
   refine wpAny_pyIter_revIter st ?_;refine ⟨s1.heap.objs.size,[s1.heap.objs.size],_,_,H1,rfl,I1.kept (t':=s1.toks) fun b o e=>Od _ e,Zlh a _ xs.length,⟨Nat.zero_le _,st⟩,fun b hb=>?_,q⟩;have e:b=s1.heap.objs.size:=by simpa using hb
   subst e;exact I1.fpOk (Oq _) (I1.hok.fresh (Oq _))
end L2
end
section
namespace L2
open PySem PySem.Spec PyProof.Rows
namespace Tx
noncomputable def place(x:Str):List Str->Option Nat
 | []=>none
 | y::r=>if y=x then some 0 else (place x r).map (·+1)
end Tx
end L2
namespace L2
open PySem PySem.Spec PyProof.Rows
noncomputable def Zfl (K:PySem.W.Frag):Bool:=K.all fun p=>!decide (p.2.cls=.type "tuple") || p.2.dict.isNone
end L2
end
section
namespace L2
open PySem PySem.Spec PyProof.Rows
open PySem.AutoSeq1 (wpAny_loadPart')
namespace En1
section
variable {prog:Program}{w:World}{A:Around}{E:Value->Shared->Prop}{s:Shared}
theorem ZoB{J T:Addr}{k:Nat}{us:Array Value}{y:Value}{Q:Value->Shared->Prop}(st:s.heap.IsTupleIter J T k)(tt:s.heap.IsTuple T us)(hy:us[k]? = some y)
   (q:∀ h1,h1.IsTupleIter J T (k+1)->Heap.SameBut J s.heap h1->Q y {s with heap:=h1}):wpAny (model prog w) A (Builtin.SmallTypes.nextOf (.ref J)) Q E s:=by
 obtain ⟨ob,g1,g2,g3⟩:=id st;obtain ⟨ot,g4,_,m,g5⟩:=tt;unfold Builtin.SmallTypes.nextOf;refine wpAny_bind (wpAny_callSpecial?_slot (name:=O "__next__") st.typeIs F.slot_tuple_iterator_next (wpAny_call_entry F.slot_tuple_iterator_next st.typeIs F.entry_tuple_iterator_next ?g (F.args_tuple_iterator_next_1 _)))
 case g =>
   show wpAny _ _ (field (.ref J) 0 >>= _) _ _ s;refine wpAny_bind (wpAny_field g1 g3 (x:=.ref T) rfl ?_);show wpAny _ _ (if (Value.ref T==Value.none)=true then _ else _) _ _ s;rw [if_neg (show ¬ ((Value.ref T==Value.none)=true) from Ow)];show wpAny _ _ (field (.ref J) 1 >>= _) _ _ s;refine wpAny_bind (wpAny_field g1 g3 (x:=.int k 0) rfl ?_);show wpAny _ _ (seqItems? (.ref T) >>= _) _ _ s;refine wpAny_bind (wpAny_seqItems g4 g5 ?_);simp only [Int.toNat_natCast,hy];refine wpAny_bind (wpAny_setField g1 g3 (by simp) (wpAny_pure ⟨y,rfl,wpAny_pure (q _ ?_ (Heap.SameBut.update ..))⟩));exact ⟨_,Heap.get?_update_self _ g1 (Obj.isFreed_of_fields (Obj.data_mapFields g3 _)),(Obj.cls_mapFields ..).trans g2,by rw [Obj.data_mapFields g3];simp [rawInt]⟩
theorem Zq9{J T:Addr}{k:Nat}{us:Array Value}{Q:Value->Shared->Prop}(calm:A.handled=none)(st:s.heap.IsTupleIter J T k)(tt:s.heap.IsTuple T us)(hy:us[k]? = none)
   (q:∀ h1 x,Heap.ExtBut J s.heap h1->(∃ ob,h1.get? x=some ob/\ob.cls=.type "StopIteration")->E (.ref x) {s with heap:=h1}):wpAny (model prog w) A (Builtin.SmallTypes.nextOf (.ref J)) Q E s:=by
 obtain ⟨ob,g1,g2,g3⟩:=id st;obtain ⟨ot,g4,_,m,g5⟩:=tt;unfold Builtin.SmallTypes.nextOf;refine wpAny_bind (wpAny_callSpecial?_slot (name:=O "__next__") st.typeIs F.slot_tuple_iterator_next (wpAny_call_entry F.slot_tuple_iterator_next st.typeIs F.entry_tuple_iterator_next ?g (F.args_tuple_iterator_next_1 _)))
 case g =>
   show wpAny _ _ (field (.ref J) 0 >>= _) _ _ s;refine wpAny_bind (wpAny_field g1 g3 (x:=.ref T) rfl ?_);show wpAny _ _ (if (Value.ref T==Value.none)=true then _ else _) _ _ s;rw [if_neg (show ¬ ((Value.ref T==Value.none)=true) from Ow)];show wpAny _ _ (field (.ref J) 1 >>= _) _ _ s;refine wpAny_bind (wpAny_field g1 g3 (x:=.int k 0) rfl ?_);show wpAny _ _ (seqItems? (.ref T) >>= _) _ _ s;refine wpAny_bind (wpAny_seqItems g4 g5 ?_);simp only [Int.toNat_natCast,hy];refine wpAny_bind (wpAny_rule (wpAny_bind (wpAny_setField g1 g3 (by simp) ?_)));show wpAny _ _ (newExc (.type "StopIteration") [] >>= _) _ _ _;refine wpAny_bind ?_;simp only [newExc,newTuple];refine wpAny_bind (wpAny_newObj_type ?_ (by size_fits));refine wpAny_bind (m:=firstArgMember _ _) (wpAny_of_eq (a:=Value.none) (by first|rfl|(simp only [firstArgMember];rfl)) ?_);refine wpAny_newObj_type ?_ (by size_fits);simp only [raiseNew];refine wpAny_bind (wpAny_handled ?_)
   first|rw [show A.in1.handled=none from calm]|rw [calm]
   exact wpAny_bind (wpAny_pure (wpAny_throw (q _ _ (((Heap.SameBut.update ..).extBut.push _).push _) ⟨_,Oj _ rfl,rfl⟩)))
theorem dr(calm:A.handled=none)(J T:Addr)(ne:T≠J)(us:Array Value):Draws prog w A J [J,T] (us.size+1) (fun k y=>∃ j,k=j+1/\us[j]? = some y) (fun k h=>∃ j,k=j+1/\h.IsTupleIter J T j/\h.IsTuple T us) where
 live:=fun _ _ z=>let ⟨_,_,⟨ob,g,_⟩,_⟩:=z;⟨ob,g⟩
 frame:=fun _ _ _ z kp=>by
   obtain ⟨j,e,⟨o1,a1,b1⟩,o2,a2,b2⟩:=z;exact ⟨j,e,⟨o1,kp J (by simp) _ a1,b1⟩,o2,kp T (by simp) _ a2,b2⟩
 item:=fun k s Q E lt z q=>by
   obtain ⟨j,rfl,a,b⟩:=z;have lj:j<us.size:=by omega
   refine ZoB a b (y:=us[j]) (by simp [lj]) fun h1 a1 sb=>?_;exact q _ h1 s.toks ⟨j,rfl,by simp [lj]⟩ ⟨j+1,rfl,a1,b.extBut sb.extBut ne⟩ sb
 done:=fun s Q E z q=>by
   obtain ⟨j,e,a,b⟩:=z;have:j=us.size:=by omega
   subst this;exact Zq9 calm a b (by simp) q
end
end En1
end L2
end
section
namespace L2
open PySem PySem.Spec PyProof.Rows
open PySem.AutoSeq1 (wpAny_loadPart')
namespace En1
theorem ct (a v:Value):checkTypeCall "enumerate" ⟨[a],[("start",v)]⟩=pure ():=by kernel_rfl
theorem cb (a v:Value):checkBuiltinCall "enumerate.__new__" ⟨[.type "enumerate",a],[("start",v)]⟩=pure ():=by kernel_rfl
theorem ao (o a v:Value):argsOk "object.__init__" ⟨[o,a],[("start",v)]⟩:=by unfold argsOk;kernel_rfl
theorem ini {o a v:Value}:Meets (Builtin.«object.__init__» ⟨[o,a],[("start",v)]⟩) (fun _ R s=>s.TypeIs o "enumerate" /\ R (.ok (.ret .none)) s):=by
 refine Meets.of_wp fun prog w A R s z=>?_;obtain ⟨ty,q⟩:=z;have hl:=F.called_enumerate.init.lookup;have hm:=F.called_enumerate.made;have hne:(some "enumerate.__new__" != some "object.__new__")=true:=by decide
 repeat (any_goals (first|assumption|wp_step))
 exact ⟨_,rfl,q⟩
theorem nw(T:Addr)(us:Array Value)(n:Nat)(dc:Option Addr)(sl:Array (Option Value))(t:Tok) :
   Meets (Builtin.«enumerate.__new__» ⟨[.type "enumerate",.ref T],[("start",.int 1 t)]⟩) (fun _ R s=>s.heap.get? T=some {cls:=.type "tuple",dict:=dc,data:=.seq us n,slots:=sl} /\
     R (.ok (.ret (.ref (s.heap.push {cls:=.type "tuple_iterator",data:=.fields #[.ref T,.int 0 0]}).objs.size)))
       {s with heap:=(s.heap.push {cls:=.type "tuple_iterator",data:=.fields #[.ref T,.int 0 0]}).push {cls:=.type "enumerate",data:=.fields #[.none,.bool false,.ref s.heap.objs.size,rawInt 1,.none,.none]}}) :=
 .of_wp fun prog w A R s z=>by
   obtain ⟨hp,g,d,tk,os⟩:=s;obtain ⟨e,q⟩:=z;have hsub:=sub_enumerate;have tt:Heap.IsTuple (Shared.heap ⟨hp,g,d,tk,os⟩) T us:=⟨_,e,rfl,n,rfl⟩
   wp_walk using wpAny_loadPart' e
   refine wpAny_stack_any fun st=>wpAny_pure ?_;split
   . rename_i c _ _ _ _ _;cases (c==Value.type "enumerate")
     . wp_walk using wpAny_loadPart' e,wpAny_pyIter_tuple tt
       exact ⟨_,rfl,q⟩
     . wp_walk using wpAny_loadPart' e,wpAny_pyIter_tuple tt
       exact ⟨_,rfl,q⟩
   . wp_walk using wpAny_loadPart' e,wpAny_pyIter_tuple tt
     exact ⟨_,rfl,q⟩
end En1
end L2
end
section
namespace L2
open PySem PySem.Spec PyProof.Rows
namespace En1
section
variable {prog:Program}{w:World}{A:Around}{E:Value->Shared->Prop}{s:Shared}
theorem mk{T:Addr}{us:Array Value}{t:Tok}{Q:Value->Shared->Prop}(tt:s.heap.IsTuple T us)
   (q:∀ h1,IsEnum h1 (s.heap.objs.size+1) s.heap.objs.size 1 .none->h1.IsTupleIter s.heap.objs.size T 0->(∀ b o,s.heap.get? b=some o->h1.get? b=some o)->Q (.ref (s.heap.objs.size+1)) {s with heap:=h1}) :
   wpAny (model prog w) A (call (.type "enumerate") [.ref T] [("start",.int 1 t)]) Q E s:=by
 obtain ⟨⟨c,dc,dt,sl⟩,e,hc,n,hd⟩:=tt;obtain rfl:c=.type "tuple" := hc;obtain rfl:dt=.seq us n:=hd;have ft:=F.called_enumerate;obtain ⟨c,tl,hmro⟩:=ft.mro;have hmade:=ft.made;have hsub:=ft.sub;have hct:=ct (.ref T) (.int 1 t);refine wpAny_call (codeAny_of_tree ?_);show wpAny _ _ (callAny (.type "enumerate") _) _ _ _;refine wpAny_pure ⟨Code.quiet_builtin _ (by decide +kernel),codeAny_builtin F.entry_type_call ?_⟩;rw [Around.under_plain (weight_type_call_type "enumerate" [.ref T] [("start",.int 1 t)]) (units_type_call_type "enumerate" [.ref T] [("start",.int 1 t)])];have h1:=ft.notType;have h2:=ft.canCreate
 repeat (any_goals (first|assumption|wp_step))
 refine codeAny_mono (codeAny_call_builtin ft.plain F.entry_enumerate_new (wpAny_of_eq (cb (.ref T) (.int 1 t)) (nw T us n dc sl t prog w A.in1 (wants (fun obj s1=>s1.TypeIs obj "enumerate" /\ Q obj s1) E) s ⟨e,?_⟩))) fun r s1 hr=>?_
 . have hz:(s.heap.push {cls:=.type "tuple_iterator",data:=.fields #[.ref T,.int 0 0]}).objs.size=s.heap.objs.size+1:=Heap.size_push ..;show _/\_;rw [hz];have he:IsEnum ((s.heap.push {cls:=.type "tuple_iterator",data:=.fields #[.ref T,.int 0 0]}).push {cls:=.type "enumerate",data:=.fields #[.none,.bool false,.ref s.heap.objs.size,rawInt 1,.none,.none]}) (s.heap.objs.size+1) s.heap.objs.size 1 .none:=by
     have:=Oj (s.heap.push {cls:=.type "tuple_iterator",data:=.fields #[.ref T,.int 0 0]}) (o:={cls:=.type "enumerate",data:=.fields #[.none,.bool false,.ref s.heap.objs.size,rawInt 1,.none,.none]}) rfl;rw [hz] at this;exact this
   exact ⟨⟨_,he,rfl⟩,q _ he ⟨_,Od _ (Oj _ rfl),rfl,rfl⟩ fun b o x=>Od _ (Od _ x)⟩
 cases r with
 | error e=>exact hr
 | ok fl =>
   cases fl with
   | ret obj =>
     obtain ⟨hT,hq⟩:=hr;have hli:=ft.init.lookup;have hbi:=ft.init.bind obj
     repeat (any_goals (first|assumption|wp_step))
     refine codeAny_mono (codeAny_call_builtin ft.init.plain F.entry_object_init (ft.init.check _ _ _ _ _ _ _ _ hT (ao obj (.ref T) (.int 1 t)) (ini prog w A.in1 (wants (fun r s2=>r=.none/\Q obj s2) E) s1 ⟨hT,rfl,hq⟩))) fun r2 s2 hr2=>?_;cases r2 with
     | error e=>exact hr2
     | ok fl2 =>
       cases fl2 with
       | ret r =>
         obtain ⟨rfl,hq⟩:=hr2
         repeat (any_goals (first|assumption|wp_step))
       | _=>exact hr2.elim
   | _=>exact hr.elim
end
end En1
end L2
end
section
namespace L2
open PySem PySem.Spec PyProof.Rows
noncomputable def It1(K:PySem.W.Frag)(a:Addr):It :=
 ⟨fun i H=>∃ xs x,SqT K H a xs/\xs[i]? = some x,fun i H v H'=>∃ p,v=.ref p/\H p=none/\∃ x,(∀ xs,SqT K H a xs->xs[i]? = some x)/\H'=upd H p (.tup [.int (i+1:Nat),x]),fun i H=>∃ xs,SqT K H a xs/\xs.length=i⟩
theorem Zmm{P:Program}{w:World}{K:PySem.W.Frag}{es:List Expr}{kk:Nat}{tp:Pos}(a it e:Addr)(hei:e≠it)(hae:a≠e)(hai:a≠it) :
   Turn P w K (.Tuple es kk tp) (It1 K a) [e,it] e (fun i h=>(∃ old,IsEnum h e it ((i+1:Nat):Int) old)/\h.IsTupleIter it a i) where
 mem:=by simp
 obj:=fun i h st b hb=>by
   obtain ⟨⟨old,he⟩,o,e1,c,d⟩:=st;rcases O2.mp hb with rfl|hb
   . exact ⟨_,he,fun v z=>by cases z⟩
   . have e2:b=it:=by simpa using hb
     subst e2;exact ⟨o,e1,fun v z=>by rw [d] at z;cases z⟩
 keep:=fun i h h' st k=>by
   obtain ⟨⟨old,he⟩,st⟩:=st;exact ⟨⟨old,k e (by simp) _ he⟩,st.at fun o z=>k it (by simp) o z⟩
 item:=by
   intro X hP hw hK hc i pins s Z H E I hf st hg;subst hP hw hK;obtain ⟨xs,x,hq,hx⟩:=hg;obtain ⟨its,rv,p,hz⟩:=I.tuple hq;have p:s.heap.IsTuple a its.toArray:=p;have hl:=rv.length;have hi:i<xs.length:=(Ob.mp hx).1;have D:=En1.dr (prog:=X.prog) (w:=X.w) (A:=X.A.in1) (I.ok.hd hc) it a hai its.toArray;have W:=WalksT.enumerateD (A:=X.A) D e hei (by simp [hei,Ne.symm hae]) (by simp);obtain ⟨⟨old,he⟩,hit⟩:=st;refine wpAny_pyNext_enum_itemD D he ⟨i,rfl,hit,p⟩ (by simp;omega) hei (by simp [hei,Ne.symm hae]) fun y h1 tk hy ho hst hT hsz hk=>?_;obtain ⟨j,ej,hy⟩:=hy;obtain rfl:i=j:=by omega
   have e1:e<s.heap.objs.size:=Heap.lt_size he;have e2:it<s.heap.objs.size:=by obtain ⟨_,z,_⟩:=hit;exact Heap.lt_size z
   have hT1:s.heap.objs.size≠e:=Nat.ne_of_gt e1;have hT2:s.heap.objs.size≠it:=Nat.ne_of_gt e2;refine ⟨_,rfl,W.go _ _ _ (i+1) s.heap.objs.size {s with heap:=h1,toks:=tk+1} _ _ ⟨⟨_,ho⟩,hst,hT1,hT2⟩ fun h2 st2 kk2=>?_⟩;have hy':its[i]? = some y:=by simpa using hy
   obtain ⟨u,hu,ru⟩:=rv.get hx;rw [hy'] at hu;cases hu;have hTw:s.heap.objs.size ∉ [e,it]:=by simp [hT1,hT2]
   have tup2:Zbn h2 s.heap.objs.size #[.int ((i+1:Nat):Int) tk,y]:=⟨_,kk2 _ _ hTw hT,rfl,rfl,_,rfl⟩
   have I2:Inv X pins Z (upd H s.heap.objs.size (.tup [.int ((i+1:Nat):Int),x])) {s with heap:=h2,toks:=tk+1}:=I.turnT hf (fun b o hb q=>kk2 b o hb (hk b o (fun z=>hb (by simp [z])) (fun z=>hb (by simp [z])) q)) (Oq _) (us:=[.int ((i+1:Nat):Int) tk,y]) tup2 (.cons ⟨tk,rfl⟩ (.cons ru .nil)) (by show 2<=sizeLine;decide);obtain ⟨s3,j,ej2,s4,s5⟩:=st2;obtain rfl:j=i+1:=by omega
   refine ⟨.ref s.heap.objs.size,_,I2,rfl,⟨_,rfl,I.hok.fresh (Oq _),x,fun ys hy=>by rw [I.tuple_inj hy hq];exact hx,rfl⟩,⟨s3,s4⟩,fun b hb=>?_⟩;have neb:b≠s.heap.objs.size:=fun z=>hTw (by rw [<- z];exact hb);rw [Zg neb];exact (hf b hb).1
 done:=by
   intro X hP hw hK hc i pins s Z H E I hf st hg;subst hP hw hK;obtain ⟨xs,hq,hx⟩:=hg;obtain ⟨its,rv,p,hz⟩:=I.tuple hq;have p:s.heap.IsTuple a its.toArray:=p;have hl:=rv.length;have D:=En1.dr (prog:=X.prog) (w:=X.w) (A:=X.A.in1) (I.ok.hd hc) it a hai its.toArray;obtain ⟨⟨old,he⟩,hit⟩:=st;refine wpAny_pyNext_enum_endD D he ⟨i,by simp;omega,hit,p⟩ fun h1 ex=>⟨rfl,I.turnL (t':=s.toks) hf fun b o hb q=>ex b o (fun z=>hb (by simp [z])) q⟩
 self:=fun A i s Q E st h=>by
   obtain ⟨⟨old,he⟩,_⟩:=st;exact wpAny_pyIter_enum he h
section
variable {M:Model}{A:Around}{E:Value->Shared->Prop}{s:Shared}{env:Env}
theorem Zn9{pos:Pos}{T:String}{e:Expr}{kws:List Keyword}{Q:Value->Shared->Prop}(he:starEach [e] env=[(false,eval e env)])
   (h:wpAny M A (spliced (backTo pos (starEach [e] env))) (fun vs s1=>wpAny M A (evalAll ((backToKw pos (keywordEach kws env)).map (·.2)))
     (fun kvs s2=>wpAny M A (call (.type T) vs (((backToKw pos (keywordEach kws env)).filterMap (·.1)).zip kvs)) Q E s2) E s1) E s)
   (hall:(backToKw pos (keywordEach kws env)).all (·.1.isSome)=true:=by rfl) (hkw:(backToKw pos (keywordEach kws env)).any (·.1.isNone)=false:=by rfl) :
   wpAny M A (callWith pos (.type T) [] (backTo pos (starEach [e] env)) (backToKw pos (keywordEach kws env))) Q E s:=by
 have hp:(backTo pos (starEach [e] env)).any (·.1)=false:=by rw [he];rfl
 have g:wpAny M A (evalArgs (.type T) true (backTo pos (starEach [e] env)) (backToKw pos (keywordEach kws env))) (fun a s1=>wpAny M A (call (.type T) ([]++a.pos) a.kw) Q E s1) E s:=by
   rw [he] at h ⊢;exact evalArgs_kwB hall h
 unfold callWith;refine wpAny_bind (wpAny_holding (wpAny_mono g (fun a s1 h1=>wpAny_bind (wpAny_standAt ?_)) fun _ _ z=>z));simp only [hp,hkw,Bool.or_false];exact wpAny_bind (wpAny_pure (wpAny_bind (wpAny_mono h1 (fun r s2 hr=>wpAny_bind (wpAny_holding (wpAny_point (wpAny_pure hr)))) fun _ _ z=>z)))
end
noncomputable def ZvA(K:PySem.W.Frag)(tl tk:TE):TI:=fun Z H R=>tl Z H fun v H1=>tk Z H1 fun u H2=>∃ a,v=.ref a/\u=.int 1/\(∃ xs,SqT K H2 a xs)/\R (It1 K a) H2
theorem ZrH {X:Cx}{es:List Expr}{kk:Nat}{tp:Pos}{l y:Expr}{tl tk:TE}{p kp pos:Pos} (hg:Gl X "enumerate") (hm:X.mg "enumerate" = none) (hl:PE X l tl) (hy:PE X y tk) (he:starEach [l] X.env=[(false,eval l X.env)]) :
   PI X (.Tuple es kk tp) (.Call (.Name "enumerate" p) [l] [⟨some "start",y,kp⟩] pos) (ZvA X.K tl tk):=by
 intro pins s Z H R I h;refine wpAny_Call_Name_kw (ZcU I hg hm boot_enumerate ?_);refine Zn9 he ?_;rw [he];refine Calls.spliced_cons (thn (hl pins s Z H _ I h) fun v s1 ⟨vv,H1,I1,r1,q1⟩=>Calls.spliced_nil ?_);refine kws_cons (thn (hy pins s1 Z H1 _ I1 q1) fun u s2 ⟨uu,H2,I2,r2,q2⟩=>kws_nil ?_);obtain ⟨a,rfl,rfl,⟨xs,hq⟩,q⟩:=q2;cases r1;obtain ⟨t,rfl⟩:=r2;obtain ⟨its,rv,pt,hz⟩:=I2.tuple hq;have pt:s2.heap.IsTuple a its.toArray:=pt;have hlt:a<s2.heap.objs.size:=by obtain ⟨_,z,_⟩:=pt;exact Heap.lt_size z
 refine En1.mk pt fun h1 he hi kk=>?_;refine wpAny_pyIter_enum he ?_;refine ⟨s2.heap.objs.size+1,[s2.heap.objs.size+1,s2.heap.objs.size],_,_,H2,rfl,I2.kept (t':=s2.toks) kk,Zmm a s2.heap.objs.size (s2.heap.objs.size+1) (Nat.succ_ne_self _) (Ou (Nat.lt_succ_of_lt hlt)) (Ou hlt),⟨⟨_,he⟩,hi⟩,fun b hb=>?_,q⟩;rcases O2.mp hb with rfl|hb
 . exact I2.fpOk (Nat.le_succ _) (I2.hok.fresh (Nat.le_succ _))
 . have e:b=s2.heap.objs.size:=by simpa using hb
   subst e;exact I2.fpOk (Oq _) (I2.hok.fresh (Oq _))
end L2
end
section
namespace L2
open PySem PySem.Spec PyProof.Rows
section
variable {X:Cx}{pins:List (Addr×Obj)}{Z:St}{H:Hp}{s:Shared}
theorem Inv.freeze{a:Addr}{o:Obj}{kvs:List (Key×V)}(I:Inv X pins Z H s)(e:H a=some (.dK kvs))(ho:s.heap.get? a=some o):Inv X pins Z (upd H a (.frz o (.dK kvs))) s:=by
 have ne:∀ b,(∀ kvs,H b≠some (.dK kvs))->b≠a:=fun b q z=>q kvs (by rw [z];exact e);refine I.un (t':=s.toks) (h':=s.heap) ⟨fun b u q n _ _=>q,fun b u q n _ _=>⟨u.slots,q⟩,fun b u q n _=>?_,fun b u q _=>⟨u,q⟩,fun b xs q=>?_,fun b u v q=>?_,fun b ps q=>⟨#[],?_⟩⟩ ?_
 . rw [Zg (ne b fun k z=>by rw [n] at z;cases z)];exact n
 . rw [Zg (ne b fun k z=>by rw [q] at z;cases z)];exact q
 . rw [Zg (ne b fun k z=>by rw [q] at z;cases z)];exact q
 . rw [Zg (ne b fun k z=>by rw [q] at z;cases z),q];simp
 . have old:=I.hok a _ e;exact I.hok.write (x:=a) (e:=a) (by rw [e];trivial) (.inl rfl) (fun b u _ q=>q) ⟨o,ho⟩ ⟨ho,old⟩
end
theorem ZpL{k:Key}{u:Value}(h:ZfS k u=true):RelV (kV k) u:=by
 rcases ZF h with ⟨i,t,rfl,rfl⟩|⟨x,t,rfl,rfl⟩
 . exact ⟨t,rfl⟩
 . exact ⟨t,rfl⟩
theorem ZkW:∀ {kvs:List (Key×V)}{vs:List (Key×Value)},KV kvs vs->kvs.map (·.1)=vs.map (·.1)
 | _,_,.nil=>rfl
 | _,_,.cons h t=>by rw [Op,Op,ZkW t,h.1]
noncomputable def Itd(a:Addr)(o:Obj)(kvs:List (Key×V)):It :=
 ⟨fun i H=>H a=some (.frz o (.dK kvs))/\i<kvs.length,fun i H x H'=>H'=H/\∃ k v,kvs[i]? = some (k,v)/\x=kV k,fun i H=>H a=some (.frz o (.dK kvs))/\kvs.length<=i⟩
theorem Zoy{P:Program}{w:World}{K:PySem.W.Frag}{tg:Expr}(a it:Addr)(o:Obj)(kvs:List (Key×V))(es:Array DictEntry)(ep:Nat)(hd:o.data=.dict es ep):Turn P w K tg (Itd a o kvs) [it] it (fun i h=>h.IsKeyIter it a i kvs.length ep) where
 mem:=by simp
 obj:=fun i h st b hb=>by
   have e:b=it:=by simpa using hb
   subst e;obtain ⟨o,e,c,d⟩:=st;exact ⟨o,e,fun v z=>by rw [d] at z;cases z⟩
 keep:=fun i h h' st k=>st.at fun o e=>k it (by simp) o e
 item:=by
   intro X hP hw hK hc i pins s Z H E I hf st hg;subst hP hw hK;obtain ⟨ea,hi⟩:=hg;obtain ⟨g1,hz,hsm,vs,rv,o2,es2,ep2,g2,x1,x2,x3,x4,x5⟩:=I.hok a _ ea;rw [g1] at g2;cases g2;rw [hd] at x2;cases x2;have hl:=rv.length;have hi2:i<vs.length:=by omega
   obtain ⟨f0,f1,f2,f3,f4,f5⟩:=hf it (by simp);have hkv:(kvs[i]'hi).1=(vs[i]'hi2).1:=by
     have q:=congrArg (fun l=>l[i]?) (ZkW rv);simp only [On,Og hi,Og hi2,Option.map_some] at q;exact Option.some.inj q
   refine wpAny_pyNext_dict_item (knd:=ZE X.prog X.w) (kvs:=vs) (k:=(vs[i]'hi2).1) (v:=(vs[i]'hi2).2) (by rw [<- hl];exact st) ⟨o,es,g1,x1,hd,x3,x4,x5⟩ (by simp [hi2]) fun key h' hkey hit' hs'=>?_;have I1:Inv X pins Z H {s with heap:=h'}:=I.turned (t':=s.toks) (fun b o hb e=>(hs'.2 b hb).trans e) f0 f1 f3 f4 f5;obtain ⟨oi,e,c,d⟩:=id hit';exact ⟨key,rfl,ZgL (s:={s with heap:=h'}) e c d (by decide) ⟨kV (kvs[i]'hi).1,H,I1,by rw [hkv];exact ZpL hkey,⟨rfl,(kvs[i]'hi).1,(kvs[i]'hi).2,by simp [hi],rfl⟩,by rw [hl];exact hit',fun b hb=>(hf b hb).1⟩⟩
 done:=by
   intro X hP hw hK hc i pins s Z H E I hf st hg;subst hP hw hK;obtain ⟨ea,hi⟩:=hg;obtain ⟨g1,hz,hsm,vs,rv,o2,es2,ep2,g2,x1,x2,x3,x4,x5⟩:=I.hok a _ ea;rw [g1] at g2;cases g2;rw [hd] at x2;cases x2;have hl:=rv.length;obtain ⟨f0,f1,f2,f3,f4,f5⟩:=hf it (by simp);exact wpAny_pyNext_dict_end (knd:=ZE X.prog X.w) (kvs:=vs) (I.ok.hd hc) (by rw [<- hl];exact st) ⟨o,es,g1,x1,hd,x3,x4,x5⟩ (by simp;omega) fun h' eb=>⟨rfl,I.turned (t':=s.toks) (fun b o hb e=>eb b o hb e) f0 f1 f3 f4 f5⟩
 self:=fun _ _ _ _ _ st h=>wpAny_pyIter_keyiter st h
noncomputable def iDk(tl:TE):TI:=fun Z H R=>tl Z H fun x H1=>∃ a kvs,x=.ref a/\((H1 a=some (.dK kvs)/\∀ o,R (Itd a o kvs) (upd H1 a (.frz o (.dK kvs))))\/∃ o,H1 a=some (.frz o (.dK kvs))/\R (Itd a o kvs) H1)
theorem ZtI{X:Cx}{tg l:Expr}{tl:TE}(hl:PE X l tl):PI X tg l (iDk tl):=by
 intro pins s Z H R I h;refine thn (hl pins s Z H _ I h) fun v s1 ⟨x,H1,I1,r1,q1⟩=>?_;obtain ⟨a,kvs,rfl,q⟩:=q1;cases r1;have main:∀ (o:Obj) (H2:Hp),Inv X pins Z H2 s1->H2 a=some (.frz o (.dK kvs))->R (Itd a o kvs) H2->wpAny (model X.prog X.w) X.A (pyIter (.ref a)) (PIE X pins Z tg R) X.xe s1:=by
   intro o H2 I2 ea hR;obtain ⟨g1,hz,hsm,vs,rv,o2,es,ep,g2,x1,x2,x3,x4,x5⟩:=I2.hok a _ ea;rw [g1] at g2;cases g2;refine wpAny_pyIter_dict (knd:=ZE X.prog X.w) hsm ⟨o,es,g1,x1,x2,x3,x4,x5⟩ ?_;refine ⟨s1.heap.objs.size,[s1.heap.objs.size],_,_,H2,rfl,I2.kept (t':=s1.toks) fun b o e=>Od _ e,Zoy a _ o kvs es ep x2,⟨_,Oj _ rfl,rfl,by rw [rv.length];rfl⟩,fun b hb=>?_,hR⟩;have e:b=s1.heap.objs.size:=by simpa using hb
   subst e;exact I2.fpOk (Oq _) (I2.hok.fresh (Oq _))
 rcases q with ⟨ea,hR⟩|⟨o,ea,hR⟩
 . obtain ⟨hz,hsm,vs,rv,o,es,ep,g2,r⟩:=I1.hok a _ ea;exact main o _ (I1.freeze ea g2) Zi (hR o)
 . exact main o _ I1 ea hR
end L2
end
section
namespace L2
open PySem PySem.Spec PyProof.Rows
noncomputable def Zua(X:Cx)(hs:List ExceptHandler)(Q:Flow->Shared->Prop):Value->Shared->Prop:=fun e s₁=>wpAny (model X.prog X.w) X.A (noteFrame e X.env) (fun _ s₂=>wpAny (model X.prog X.w) X.A (setFlight e none) (fun _ s₃=>wpAny (model X.prog X.w) X.A (handleBy e X.env hs) Q X.xe s₃) X.xe s₂) X.xe s₁
section
variable {X:Cx}{cx:Str}{np hpos pos:Pos}{C2:Addr}{b0:Stmt}{suite body:List Stmt}
theorem ZlI(hgc:Gl X cx)(hmc:X.mg cx=some (.ref C2))(hC:ExcN X.K C2)(hstk:X.stack=X.env::X.outer)(hfrm:X.env.frame=some X.env.locals){Q:Flow->Shared->Prop}
   (hdb2:(cx==("__debug__" : Str))=false) {Z:St}{E1:XK}{pins:List (Addr×Obj)} (hE:∀ cls H',E1 cls none H'->PySem.W.subIn X.K cls (.ref C2)=some true/\∀ C,cls=.ref C->∀ a oe s',oe.cls=cls->Inv (cxH X a oe) pins Z H' s'->wpAny (model X.prog X.w) (cxH X a oe).A (execs (b0::suite) X.env) Q (fun _ _=>False) s')
   (hcls:∀ cls H',E1 cls none H'->∃ C,cls=.ref C) {H:Hp}{s:Shared}{e:Value}{s':Shared} (I1:Inv X pins Z H s) (hq:CXF X.prog X.w X.stack H s E1 e s'):Zua X [.ExceptHandler (some (.Name cx np)) none (b0::suite) hpos] Q e s':=by
 obtain ⟨a,cls,a0,H',B_,rfl,os,bare,un,hok,fl,kb,hna,h1⟩:=hq;obtain ⟨C,rfl⟩:=hcls _ _ h1;obtain ⟨hsub,hts⟩:=hE _ _ h1;have hfr:X.A.frames=some (X.env::X.outer):=by rw [<- hstk];exact I1.ok.frames
 have fl':Heap.FlyingW B_ (X.env::X.outer) a (.ref C) a0 s'.heap:=by rw [<- hstk];exact fl
 have I':=I1.call' (ch:=[]) os un hok bare (fun b z=>absurd z (by simp));have hfo:∀ b∈frs X.stack,∃ o,s'.heap.get? b=some o/\∀ vs,o.data≠.fields vs:=fun b hb=>by
   obtain ⟨_,o,q,nf⟩:=I'.stack.mem hb;exact ⟨o,q,nf⟩
 have atH:∀ h2:Heap,B_.StaysIn h2->s'.heap.UpToSlots h2->∀ tk,Inv X pins Z H' {s' with heap:=h2,toks:=tk}:=fun h2 st up tk=>by
   obtain ⟨r1,r2,_⟩:=ZdI un hok kb st up hfo;exact I1.call' (s':={s' with heap:=h2,toks:=tk}) (ch:=[]) os r1 r2 bare (fun b z=>absurd z (by simp))
 refine wpAny_looks_onW hfr hfrm fl' fun h4 held4 up4=>?_;refine wpAny_landsW held4 fun h5 fl5 up5=>?_;have I5:Inv X pins Z H' {s' with heap:=h5}:=atH h5 fl5.1 (up4.trans up5) s'.toks;refine wpAny_handleBy_cons (codeAny_handlers_test (Zcs (X:=cxM X a) (I5.toM a) hgc hmc ?_ hdb2)) (by intro q;cases q);obtain ⟨oe,hoe,hoc⟩:=fl5.there;refine ZiL (s:={s' with heap:=h5}) I5.kIn hC.ty hC.cls hC.exc hsub hoe hoc (codeAny_handlers_suite ?_);refine lands_againW fl5 fun h6 fl6 up6=>?_;have I6:Inv X pins Z H' {s' with heap:=h6}:=atH h6 fl6.1 ((up4.trans up5).trans up6) s'.toks;obtain ⟨oe6,ws,hoe6,hoc6,hod6,_⟩:=fl6.first;have hnl:a≠X.env.locals:=fun z=>by
   obtain ⟨m,⟨o,es',ep,ho,hd,_⟩,_⟩:=I6.loc;rw [<- z,hoe6] at ho;cases ho;rw [hod6] at hd;cases hd
 have hnf:a ∉ X.fs:=fun z=>by
   obtain ⟨_,o,q,nf⟩:=I6.funs.mem z;rw [hoe6] at q;cases q;exact nf _ hod6
 have IH:Inv (cxH X a oe6) pins Z H' {s' with heap:=h6}:=I6.toH hoe6 hna hnl hnf (fun v z=>by rw [hod6] at z;cases z);exact wpAny_mono (hts C rfl a oe6 _ hoc6 IH) (fun _ _ z=>z) fun _ _ z=>z.elim
end
noncomputable def Ztc(K:PySem.W.Frag)(sp:Sp)(C2:Addr)(i:Nat)(ts:Addr->Obj->TS)(t:TA):TS:=fun D Z H=>t Z H fun vs H1=>sp vs H1 (fun v H2=>D.nx (Z.set i (some v)) H2) (fun cls _ H2=>∃ C,cls=.ref C/\PySem.W.subIn K (.ref C) (.ref C2)=some true/\∀ a oe,ts a oe D Z H2)
section
variable {X:Cx}{k:Nat}{x cx n:Str}{ps:List Str}{sp:Sp}{e:Expr}{es:List Expr}{t:TA}{p np cpos apos hpos pos px:Pos}{C2:Addr}{i:Nat}{b0:Stmt}{suite:List Stmt}{ts:Addr->Obj->TS}
theorem ZlB(F:Def X.prog X.w X.K X.mg X.base k x ps sp)(hr:Room k X.A)(hg:Gl X x)(ha:PA X.nox (e::es) t)
   (hgc:Gl X cx) (hmc:X.mg cx=some (.ref C2)) (hC:ExcN X.K C2) (hN:X.N.Nodup) (hi:X.N[i]? = some n) (hx:Loc X.env.scope n) (hf:X.fn n=true\/X.env.scope.names.lookup n=some .local) (hstk:X.stack=X.env::X.outer) (hfrm:X.env.frame=some X.env.locals)
   (hsuite:∀ a oe,PSs (cxH X a oe) (b0::suite) (ts a oe)) (hdb:(x==("__debug__" : Str))=false) (hdb2:(cx==("__debug__" : Str))=false) (he:starEach (e::es) X.env=(false,eval e X.env)::starEach es X.env) (hpl:(backTo cpos (starEach es X.env)).any (·.1)=false)
   (hsw:swapsWith (.Call (.Name x p) (e::es) [] cpos) (some (.Name n px)) apos.line X.env=pure false:=by rfl) :
   PS X (.Try [.Assign [.Name n px] (.Call (.Name x p) (e::es) [] cpos) apos] [.ExceptHandler (some (.Name cx np)) none (b0::suite) hpos] [] [] pos) (Ztc X.K sp C2 i ts t):=by
 obtain ⟨f,fd,hm,hk,hb,F⟩:=F;intro pins s Z H D I h;refine wpAny_Try_except (wpAny_execs_cons (wpAny_Assign_Name (wpAny_Call_Name_kw (Zcs I hg hm ?_ hdb)) hsw));refine PySem.W.callWith_K (h₀:=X.base) I.ok.mod.kin hk (wpAny_mono (ha cpos pins s Z H _ (I.wish _) h) (fun us s1 ⟨vs,H1,I1',r,q⟩=>?_) fun _ _ z=>z.elim) he hpl;have I1:Inv X pins Z H1 s1:=I1'.unwish;refine ⟨I1.kIn,?_⟩;have hlen:(us++[]).length=ps.length:=by rw [List.append_nil,<- r.length];exact F.len _ _ _ _ q
 have hbt:=hb s1 us I1.kIn hlen;rw [List.append_nil] at hbt;refine wpAny_call (codeAny_mono (F.run X.A X.stack s1 H1 ⟨us,[]⟩ us vs _ _ hr I1.env0 hbt r q) fun r s' hq=>?_);cases r with
 | ok fl =>
   cases fl with
   | ret u =>
     obtain ⟨v,H',I',rv,q'⟩:=I1.after hq;exact ZdV I' hN hi hx rv (fun s2 I2=>wpAny_execs_nil (wpAny_execs_nil ⟨_,H',I2,q'⟩)) hf
   | next=>exact False.elim hq
   | brk=>exact False.elim hq
   | cont=>exact False.elim hq
 | error ev =>
   have hq:CXF X.prog X.w X.stack H1 s1 (fun cls _ H2=>∃ C,cls=.ref C/\PySem.W.subIn X.K (.ref C) (.ref C2)=some true/\∀ a oe,ts a oe D Z H2) ev s':=hq;refine ZlI (np:=np) (hpos:=hpos) (Z:=Z) (Q:=SP X pins D) hgc hmc hC hstk hfrm hdb2 (fun cls H' z=>?_) (fun cls H' z=>?_) I1 hq
   . obtain ⟨C,rfl,hs,ht⟩:=z;refine ⟨hs,fun _ _ a oe s' _ I'=>?_⟩;refine wpAny_mono (hsuite a oe pins s' Z H' D I' (ht a oe)) (fun fl s8 q8=>?_) fun _ _ z=>z;cases fl with
     | next =>
       obtain ⟨σ',H8,I8,q8⟩:=q8;exact ⟨σ',H8,I8.ofH I.ok.hd,q8⟩
     | brk =>
       obtain ⟨σ',H8,I8,q8⟩:=q8;exact ⟨σ',H8,I8.ofH I.ok.hd,q8⟩
     | cont =>
       obtain ⟨σ',H8,I8,q8⟩:=q8;exact ⟨σ',H8,I8.ofH I.ok.hd,q8⟩
     | ret v =>
       obtain ⟨y,σ',H8,I8,r8,q8⟩:=q8;exact ⟨y,σ',H8,I8.ofH I.ok.hd,r8,q8⟩
   . obtain ⟨C,rfl,_⟩:=z;exact ⟨C,rfl⟩
end
end L2
end
section
set_option tactic.hygienic false
namespace IV
open PySem PySem.Spec PyProof.Rows L2
inductive D where
 | non|bl (b:Bool)|int (i:Int)|str (x:Str)|tup (xs:List D)|ref (i:Nat)|ty (n:String)
 | ro (xs:List D)|kd (x:Str)
inductive DO where
 | lst (xs:List D)|dic (kvs:List (Key×D))|ins (C:Str) (fs:List (Str×D))
 | fdic (kvs:List (Key×D))
noncomputable abbrev Hd:=List DO
inductive R(α:Type) where
 | bad|ok (a:α) (h:Hd)|exc (c:Str) (h:Hd)
noncomputable def R.bind{α β:Type}(r:R α)(k:α->Hd->R β):R β:=match r with
 | .bad=>.bad
 | .ok a h=>k a h
 | .exc c h=>.exc c h
theorem R.bind_ok{α β:Type}{a:α}{h:Hd}{k:α->Hd->R β}:(R.ok a h).bind k=k a h:=rfl
theorem R.bind_bad{α β:Type}{k:α->Hd->R β}:(R.bad:R α).bind k=.bad:=rfl
noncomputable def R.ofO{α:Type}(o:Option α)(h:Hd):R α:=match o with
 | some a=>.ok a h
 | none=>.bad
theorem R.ofO_some{α:Type}{a:α}{h:Hd}:R.ofO (some a) h=.ok a h:=rfl
noncomputable abbrev Ev:=List (Option D)
inductive Bf where
 | len|isi|int|tup|lst|sum|all|srt|mx
 deriving DecidableEq
inductive Mf where
 | app|ext|pop|rev|clr
 deriving DecidableEq
mutual
inductive Ex where
 | var (i:Nat)|cst (d:D)|glo (x:Str)
 | bin (op:Operator) (a b:Ex)|cmp (op:CmpOp) (a b:Ex)|cmp2 (op op':CmpOp) (a b c:Ex)
 | neg (a:Ex)|nt (a:Ex)|ands (es:Exs)|ors (es:Exs)|ite (c:Tx) (a b:Ex)
 | tupl (es:Exs)|lstl (es:Exs)|ix (a i:Ex)|sl (a:Ex) (lo hi:Option Ex)
 | blt (f:Bf) (es:Exs)|call (f:Str) (es:Exs)|meth (m:Mf) (o:Ex) (es:Exs)
 | comp (NC:List Str) (js:List (Option Nat)) (it:Ix) (g:Tg) (c:Option Tx) (e:Ex)
 | sorts (e:Ex)|dictl (ps:Exs)|maxd (e d:Ex)
 | att (Cs:List Str) (o:Ex) (f:Str)|mk (C:Str) (es:Exs)|mcl (C m:Str) (o:Ex) (es:Exs)|any
 | trev (e:Ex)|tix (o e:Ex)|lrv (e:Ex)|lix (o e:Ex)|lin (a b:Ex)
inductive Exs where
 | nil|cons (e:Ex) (es:Exs)
inductive Ix where
 | pl (e:Ex)|rng (e:Ex)|rng2 (a b:Ex)|enu (e:Ex)|rev (e:Ex)
 | en1 (e:Ex)|en0 (e:Ex)|dk (e:Ex)
inductive Tg where
 | nm (i:Nat)|two (i j:Nat)|many (is:List Nat)
inductive Tx where
 | ex (e:Ex)|ands (ts:Txs)|ors (ts:Txs)|nt (a:Tx)
inductive Txs where
 | one (t:Tx)|cons (t:Tx) (ts:Txs)
end
mutual
inductive Sx where
 | ret (e:Ex)|set (g:Tg) (e:Ex)|put (o i e:Ex)|aug (i:Nat) (op:Operator) (e:Ex)|drp (e:Ex)
 | iff (c:Tx) (a b:Sxs)|whl (c:Tx) (b:Sxs)|forr (g:Tg) (it:Ix) (b:Sxs)|pas|brk|cnt
 | seta (Cs:List Str) (o:Ex) (f:Str) (e:Ex)|auga (Cs:List Str) (o:Ex) (f:Str) (e:Ex)|any
 | rai (C:Str) (e:Ex)|trs (i:Nat) (f:Str) (es:Exs) (C:Str)
inductive Sxs where
 | nil|cons (s:Sx) (r:Sxs)
end
noncomputable instance:DecidableEq D:=fun a b=>Classical.propDecidable (a=b)
noncomputable instance:DecidableEq DO:=fun a b=>Classical.propDecidable (a=b)
mutual
noncomputable def D.py(rd:Nat->Option PyData):D->Option PyData
 | .non=>some .none
 | .bl b=>some (.bool b)
 | .int i=>some (.int i)
 | .str x=>some (.str x)
 | .tup xs=>(D.pys rd xs).map .tuple
 | .ro xs=>(D.pys rd xs).map .list
 | .ref i=>rd i
 | _=>none
noncomputable def D.pys(rd:Nat->Option PyData):List D->Option (List PyData)
 | []=>some []
 | x::xs=>(D.py rd x).bind fun d=>(D.pys rd xs).map fun ds=>d::ds
end
noncomputable def Ze0(h:Hd):Nat->Nat->Option PyData
 | 0,_=>none
 | n+1,i=>match h[i]? with
   | some (.lst xs)=>(D.pys (Ze0 h n) xs).map .list
   | _=>none
noncomputable def Ze1(h:Hd)(d:D):Option PyData:=D.py (Ze0 h 4) d
noncomputable def ZcI(o:DO)(h:Hd):R D:=.ok (.ref h.length) (h++[o])
noncomputable def lstOf(d:D)(h:Hd):Option (List D):=match d with
 | .ref i=>match h[i]? with
   | some (.lst xs)=>some xs
   | _=>none
 | .ro xs=>some xs
 | _=>none
noncomputable def dicOf(GD:Str->Option (List (Key×D)))(d:D)(h:Hd):Option (List (Key×D)):=match d with
 | .ref i=>match h[i]? with
   | some (.dic kvs)=>some kvs
   | some (.fdic kvs)=>some kvs
   | _=>none
 | .kd x=>GD x
 | _=>none
noncomputable def keyOf:D->Option Key
 | .int i=>some (.inl i)
 | .str x=>some (.inr x)
 | _=>none
noncomputable def Zac(kvs:List (Key×D))(k:Key):Option D:=(kvs.find? fun p=>decide (p.1=k)).map (·.2)
noncomputable def putD(kvs:List (Key×D))(k:Key)(v:D):List (Key×D) :=
 if (kvs.any fun kv=>decide (kv.1=k))=true then kvs.map (fun kv=>if kv.1=k then (kv.1,v) else kv) else kvs++[(k,v)]
noncomputable def cutD(xs:List D)(lo hi:Option Int):List D:=(xs.drop (HT.sIx xs.length 0 lo)).take (HT.sIx xs.length xs.length hi - HT.sIx xs.length 0 lo)
noncomputable def D.flat:D->Bool
 | .int _|.str _|.bl _|.non=>true
 | _=>false
noncomputable def eqF:D->D->Bool
 | .int i,.int j=>i==j
 | .str i,.str j=>i==j
 | .non,.non=>true
 | .bl i,.bl j=>i==j
 | .int i,.bl j=>i==(if j then 1 else 0)
 | .bl i,.int j=>(if i then 1 else 0)==j
 | _,_=>false
noncomputable def ZdU(GD:Str->Option (List (Key×D)))(d:D)(h:Hd):Option Bool:=match d with
 | .non=>some false
 | .bl b=>some b
 | .int i=>some (i != 0)
 | .str x=>if x.length<=sizeLine then some (!(x.length==0)) else none
 | .tup xs=>some (!xs.isEmpty)
 | .ref i=>match h[i]? with
   | some (.lst xs)=>some (!xs.isEmpty)
   | some (.dic xs)=>some (!xs.isEmpty)
   | _=>none
 | .ro xs=>some (!xs.isEmpty)
 | _=>none
noncomputable def int2(x y:D)(k:Int->Int->R D):R D:=match x with
 | .int i=>match y with
   | .int j=>k i j
   | _=>.bad
 | _=>.bad
noncomputable def Zqn(x y:D)(h:Hd):R D:=match x with
 | .int i=>match y with
   | .int j=>.ok (.int (i+j)) h
   | _=>.bad
 | .str i=>match y with
   | .str j=>if i.length+j.length<=sizeLine then .ok (.str (i++j)) h else .bad
   | _=>.bad
 | .tup xs=>match y with
   | .tup ys=>if xs.length+ys.length<=sizeLine then .ok (.tup (xs++ys)) h else .bad
   | _=>.bad
 | .ref i=>match y with
   | .ref j=>match h[i]? with
     | some (.lst xs)=>match h[j]? with
       | some (.lst ys)=>if xs.length+ys.length<=sizeLine then ZcI (.lst (xs++ys)) h else .bad
       | _=>.bad
     | _=>.bad
   | _=>.bad
 | _=>.bad
noncomputable def Zt2(x y:D)(h:Hd):R D:=match x with
 | .str z=>match y with
   | .int n=>if 0<=n/\n<=1000/\z.length<=1000 then .ok (.str (Zer z n.toNat)) h else .bad
   | _=>.bad
 | x=>int2 x y fun i j=>if i.natAbs<2 ^ 2000/\j.natAbs<2 ^ 2000 then .ok (.int (i * j)) h else .bad
noncomputable def opB(op:Operator)(x y:D)(h:Hd):R D:=match op with
 | .Add=>Zqn x y h
 | .Sub=>int2 x y fun i j=>.ok (.int (i - j)) h
 | .Mult=>Zt2 x y h
 | .Mod=>int2 x y fun i j=>if 0<j then .ok (.int (i % j)) h else .bad
 | .FloorDiv=>int2 x y fun i j=>if 0<j/\j<1073741824 then .ok (.int (i / j)) h else .bad
 | .Pow=>int2 x y fun i j=>if 0<=j/\j<=1000000/\i.natAbs<2 ^ 64 then .ok (.int (i ^ j.toNat)) h else .bad
 | _=>.bad
noncomputable def Zb1(neg:Bool)(x y:D)(h:Hd):R D:=match Ze1 h x,Ze1 h y with
 | some a,some b=>if min a.depth b.depth<=1100 then .ok (.bl (if neg then !PyData.eqv a b else PyData.eqv a b)) h else .bad
 | _,_=>.bad
noncomputable def seqOf(d:D)(h:Hd):Option (List D):=match d with
 | .tup xs=>some xs
 | d=>lstOf d h
noncomputable def ZbQ(GD:Str->Option (List (Key×D)))(neg:Bool)(x y:D)(h:Hd):R D:=match seqOf y h with
 | some xs=>if x.flat&&xs.all D.flat then .ok (.bl (if neg then !xs.any (fun z=>eqF z x) else xs.any fun z=>eqF z x)) h else .bad
 | none=>match dicOf GD y h,keyOf x with
   | some kvs,some k=>.ok (.bl (if neg then !(Zac kvs k).isSome else (Zac kvs k).isSome)) h
   | _,_=>.bad
noncomputable def Zhh(f:Int->Int->Bool)(x y:D)(h:Hd):R D:=match x,y with
 | .int i,.int j=>.ok (.bl (f i j)) h
 | _,_=>.bad
noncomputable def opN(neg:Bool)(x y:D)(h:Hd):R D:=match y with
 | .non=>.ok (.bl (if neg then !decide (x=.non) else decide (x=.non))) h
 | _=>.bad
noncomputable def opC(GD:Str->Option (List (Key×D)))(op:CmpOp)(x y:D)(h:Hd):R D:=match op with
 | .Eq=>Zb1 false x y h
 | .NotEq=>Zb1 true x y h
 | .Lt=>Zhh (fun i j=>decide (i<j)) x y h
 | .LtE=>Zhh (fun i j=>decide (i<=j)) x y h
 | .Gt=>Zhh (fun i j=>decide (j<i)) x y h
 | .GtE=>Zhh (fun i j=>decide (j<=i)) x y h
 | .In=>ZbQ GD false x y h
 | .NotIn=>ZbQ GD true x y h
 | .Is=>opN false x y h
 | .IsNot=>opN true x y h
noncomputable def ZaS(GD:Str->Option (List (Key×D)))(x y:D)(h:Hd):R D:=match y with
 | .int i=>match seqOf x h with
   | some xs=>R.ofO (atI xs i) h
   | none=>match x with
     | .str z=>if z.length<=sizeLine then R.ofO ((atI z.cps.toList i).map fun c=>.str ⟨#[c]⟩) h else .bad
     | _=>match dicOf GD x h with
       | some kvs=>R.ofO (Zac kvs (.inl i)) h
       | none=>.bad
 | .str z=>match dicOf GD x h with
   | some kvs=>R.ofO (Zac kvs (.inr z)) h
   | none=>.bad
 | _=>.bad
noncomputable def Zgj(x:D)(l u:Option Int)(h:Hd):R D:=match x with
 | .tup xs=>.ok (.tup (cutD xs l u)) h
 | .str y=>if y.length<=sizeLine then .ok (.str (StrLaws.sliceText y l u)) h else .bad
 | d=>match lstOf d h with
   | some xs=>ZcI (.lst (cutD xs l u)) h
   | none=>.bad
noncomputable def Zs5(d:D)(h:Hd):Option String:=match d with
 | .int _=>some "int"
 | .str _=>some "str"
 | .bl _=>some "bool"
 | .non=>some "NoneType"
 | .tup _=>some "tuple"
 | d=>(lstOf d h).map fun _ => "list"
noncomputable def ZjU (t T:String):Option Bool:=if T∈["int", "str", "bool", "tuple", "list"]/\t∈["int", "str", "bool", "tuple", "list", "NoneType"] then some (t==T || (t == "bool" && T == "int")) else none
noncomputable def intsOf:List D->Option (List Int)
 | []=>some []
 | .int i::r=>(intsOf r).map fun z=>i::z
 | _=>none
noncomputable def ZqR:List D->Option (List Bool)
 | []=>some []
 | .bl i::r=>(ZqR r).map fun z=>i::z
 | _=>none
noncomputable def strsOf:List D->Option (List Str)
 | []=>some []
 | .str i::r=>(strsOf r).map fun z=>i::z
 | _=>none
noncomputable def Zdk:List (Key×D)->Option (List Str)
 | []=>some []
 | (.inr x,_)::r=>(Zdk r).map fun z=>x::z
 | _=>none
noncomputable def Zlz(x:Str):List Str->List Str
 | []=>[x]
 | y::r=>if ltCps y.cps.toList x.cps.toList then y::Zlz x r else x::y::r
noncomputable def Zca:List Str->List Str
 | []=>[]
 | x::r=>Zlz x (Zca r)
noncomputable def Zkl(xs:List D)(h:Hd):R D:=match xs with
 | [.str y]=>if y.length<=sizeLine then .ok (.int y.length) h else .bad
 | [d]=>R.ofO ((seqOf d h).map fun xs=>.int xs.length) h
 | _=>.bad
noncomputable def ZsJ(xs:List D)(h:Hd):R D:=match xs with
 | [d,.ty T]=>R.ofO ((Zs5 d h).bind fun t=>(ZjU t T).map .bl) h
 | _=>.bad
noncomputable def ZvO(xs:List D)(h:Hd):R D:=match xs with
 | [.int i]=>.ok (.int i) h
 | [.bl b]=>.ok (.int (if b then 1 else 0)) h
 | _=>.bad
noncomputable def Zme(xs:List D)(h:Hd):R D:=match xs with
 | [.tup xs]=>.ok (.tup xs) h
 | [d]=>R.ofO ((lstOf d h).map .tup) h
 | _=>.bad
noncomputable def ZvN(xs:List D)(h:Hd):R D:=match xs with
 | [d]=>match seqOf d h with
   | some xs=>ZcI (.lst xs) h
   | none=>.bad
 | _=>.bad
noncomputable def Zoh(xs:List D)(h:Hd):R D:=match xs with
 | [d]=>R.ofO (((lstOf d h).bind intsOf).map fun ns=>.int ns.sum) h
 | _=>.bad
noncomputable def ZvP(xs:List D)(h:Hd):R D:=match xs with
 | [d]=>R.ofO (((lstOf d h).bind ZqR).map fun bs=>.bl (bs.all id)) h
 | _=>.bad
noncomputable def Zek(GD:Str->Option (List (Key×D)))(xs:List D)(h:Hd):R D:=match xs with
 | [d]=>match (dicOf GD d h).bind Zdk with
   | some ss=>if ss.length<64/\ss.all PyData.strOk=true then ZcI (.lst ((Zca ss).map .str)) h else .bad
   | none=>.bad
 | _=>.bad
noncomputable def Zld(x d:D)(h:Hd):R D:=match d with
 | .int d=>R.ofO (((lstOf x h).bind intsOf).map fun ns=>.int (ZcS ns d)) h
 | _=>.bad
noncomputable def bMx(xs:List D)(h:Hd):R D:=match xs with
 | [.int i,.int j]=>.ok (.int (if j > i then j else i)) h
 | [d]=>match (lstOf d h).bind intsOf with
   | some ns=>if ns≠[] then .ok (.int (ZcS ns 0)) h else .bad
   | none=>.bad
 | _=>.bad
noncomputable def Zb4(GD:Str->Option (List (Key×D))):Bf->List D->Hd->R D
 | .len=>Zkl
 | .isi=>ZsJ
 | .int=>ZvO
 | .tup=>Zme
 | .lst=>ZvN
 | .sum=>Zoh
 | .all=>ZvP
 | .srt=>Zek GD
 | .mx=>bMx
noncomputable def ZqU(x:D)(h:Hd):R D:=match x with
 | .tup (y::ys)=>.ok (.tup (y::ys).reverse) h
 | _=>.bad
noncomputable def ZuD(x:D)(h:Hd):R D:=match x with
 | .tup ys=>ZcI (.lst ys.reverse) h
 | _=>.bad
noncomputable def Zuf:D->Bool
 | .tup _=>true
 | _=>false
noncomputable def ZuC(x y:D)(h:Hd):R D:=match x,y with
 | .tup xs,.str z=>match strsOf xs with
   | some ss=>R.ofO ((Tx.place z ss).map fun (j:Nat)=>.int (j:Int)) h
   | none=>.bad
 | _,_=>.bad
noncomputable def ZuE(x y:D)(h:Hd):R D:=match lstOf x h,y with
 | some xs,.str z=>match strsOf xs with
   | some ss=>R.ofO ((Tx.place z ss).map fun (j:Nat)=>.int (j:Int)) h
   | none=>.bad
 | _,_=>.bad
noncomputable def Ze4(x y:D)(h:Hd):R D:=match Ze1 h x,Ze1 h y with
 | some a,some (.list bs)=>if min (PyData.depthAll bs) a.depth<=1000 then .ok (.bl (bs.any fun b=>PyData.eqv b a)) h else .bad
 | _,_=>.bad
noncomputable def ZcO:List D->Option (List (Key×D))
 | []=>some []
 | k::v::r=>match keyOf k,ZcO r with
   | some k,some r=>some ((k,v)::r)
   | _,_=>none
 | _=>none
noncomputable def Zb2(kvs more:List (Key×D)):List (Key×D):=more.foldl (fun acc kv=>putD acc kv.1 kv.2) kvs
noncomputable def Znr(i:Nat)(ys xs:List D)(h:Hd):R D:=match xs with
 | [d]=>if ys.length<sizeLine then .ok .non (h.set i (.lst (ys++[d]))) else .bad
 | _=>.bad
noncomputable def Zsc(i:Nat)(ys xs:List D)(h:Hd):R D:=match xs with
 | [.ref j]=>match h[j]? with
   | some (.lst zs)=>if ys.length+zs.length<=sizeLine then .ok .non (h.set i (.lst (ys++zs))) else .bad
   | _=>.bad
 | [.tup zs]=>if ys.length+zs.length<=sizeLine then .ok .non (h.set i (.lst (ys++zs))) else .bad
 | _=>.bad
noncomputable def Zsb(i:Nat)(ys xs:List D)(h:Hd):R D:=match xs with
 | []=>match ys[ys.length - 1]? with
   | some y=>.ok y (h.set i (.lst ys.dropLast))
   | none=>.bad
 | _=>.bad
noncomputable def Zt6(i:Nat)(ys xs:List D)(h:Hd):R D:=match xs with
 | []=>.ok .non (h.set i (.lst ys.reverse))
 | _=>.bad
noncomputable def Zt7(i:Nat)(ys xs:List D)(h:Hd):R D:=match xs with
 | []=>.ok .non (h.set i (.lst []))
 | _=>.bad
noncomputable def ZfN:Mf->Nat->List D->List D->Hd->R D
 | .app=>Znr
 | .ext=>Zsc
 | .pop=>Zsb
 | .rev=>Zt6
 | .clr=>Zt7
noncomputable def Zbo(m:Mf)(o:D)(xs:List D)(h:Hd):R D:=match o with
 | .ref i=>match h[i]? with
   | some (.lst ys)=>ZfN m i ys xs h
   | _=>.bad
 | _=>.bad
noncomputable def Zdz(o:D)(h:Hd):Bool:=match o with
 | .ref i=>match h[i]? with
   | some (.lst _)=>true
   | _=>false
 | _=>false
noncomputable def ZbP(o i v:D)(h:Hd):R Unit:=match o with
 | .ref a=>match h[a]? with
   | some (.lst xs)=>match i with
     | .int k=>match ixN xs.length k with
       | some j=>.ok () (h.set a (.lst (xs.set j v)))
       | none=>.bad
     | _=>.bad
   | some (.dic kvs)=>match keyOf i with
     | some k=>if kvs.length<sizeLine then .ok () (h.set a (.dic (putD kvs k v))) else .bad
     | none=>.bad
   | _=>.bad
 | _=>.bad
structure Wk where
 src:Option (Nat×List D)
 xs:List D
noncomputable def Wk.stays(src:Option (Nat×List D))(h:Hd):Bool:=match src with
 | none=>true
 | some (i,xs)=>decide (h[i]? = some (.lst xs))
noncomputable def Zan(d:D)(h:Hd):Option Wk:=match d with
 | .tup xs=>some ⟨none,xs⟩
 | .ro xs=>some ⟨none,xs⟩
 | .ref i=>match h[i]? with
   | some (.lst xs)=>some ⟨some (i,xs),xs⟩
   | _=>none
 | .str y=>if y.length<=sizeLine then some ⟨none,y.cps.toList.map fun c=>.str ⟨#[c]⟩⟩ else none
 | _=>none
noncomputable def Zkq(d:D)(h:Hd):Option Wk:=match d with
 | .ro xs=>some ⟨none,xs⟩
 | .ref i=>match h[i]? with
   | some (.lst xs)=>some ⟨some (i,xs),xs⟩
   | _=>none
 | _=>none
noncomputable def Zgt(d:D)(h:Hd):Option Wk:=match d with
 | .tup xs=>some ⟨none,xs⟩
 | .ref i=>match h[i]? with
   | some (.lst xs)=>some ⟨some (i,xs),xs⟩
   | _=>none
 | _=>none
noncomputable def Zaz(lo:Int)(n:Nat):List D:=(List.range n).map fun (k:Nat)=>.int (lo+(k:Int))
noncomputable def ZcD(xs:List D):List D:=xs.mapIdx fun k x=>.tup [.int (k:Int),x]
noncomputable def ZdK(xs:List D):List D:=xs.mapIdx fun k x=>.tup [.int ((k+1:Nat):Int),x]
noncomputable def ZnB:Key->D
 | .inl i=>.int i
 | .inr x=>.str x
noncomputable def ZnQ(x:D)(h:Hd):R Wk:=match x with
 | .ref i=>match h[i]? with
   | some (.dic kvs)=>.ok ⟨none,kvs.map fun p=>ZnB p.1⟩ (h.set i (.fdic kvs))
   | some (.fdic kvs)=>.ok ⟨none,kvs.map fun p=>ZnB p.1⟩ h
   | _=>.bad
 | _=>.bad
noncomputable def Za1(i:Int):Bool:=decide (-(2 ^ 62)<=i)&&decide (i<2 ^ 62)
noncomputable def Zje:List Nat->List D->Ev->Ev
 | i::is,x::xs,S=>Zje is xs (S.set i (some x))
 | _,_,S=>S
noncomputable def ZbG(g:Tg)(d:D)(S:Ev):Option Ev:=match g with
 | .nm i=>some (S.set i (some d))
 | .two i j=>match d with
   | .tup [a,b]=>some ((S.set i (some a)).set j (some b))
   | _=>none
 | .many is=>match d with
   | .tup xs=>if xs.length=is.length then some (Zje is xs S) else none
   | _=>none
noncomputable def Zbp(js:List (Option Nat))(S:Ev):Ev:=js.map fun o=>o.bind fun j=>(S[j]?).join
inductive Fl where
 | nx|bk|ct|rt (d:D)
noncomputable def ZS(src:Option (Nat×List D))(g:Tg)(body:Ev->Hd->R (Fl×Ev)):List D->Ev->Hd->R (Fl×Ev)
 | [],S,h=>if Wk.stays src h then .ok (.nx,S) h else .bad
 | d::ds,S,h=>if Wk.stays src h then match ZbG g d S with
     | none=>.bad
     | some ρ1=>(body ρ1 h).bind fun p h2=>match p with
       | (.nx,ρ2)=>ZS src g body ds ρ2 h2
       | (.ct,ρ2)=>ZS src g body ds ρ2 h2
       | (.bk,ρ2)=>.ok (.nx,ρ2) h2
       | (.rt d,ρ2)=>.ok (.rt d,ρ2) h2
   else .bad
noncomputable def ZV(test:Ev->Hd->R Bool)(body:Ev->Hd->R (Fl×Ev)):Nat->Ev->Hd->R (Fl×Ev)
 | 0,_,_=>.bad
 | n+1,S,h=>(test S h).bind fun b h1=>if b then (body S h1).bind fun p h2=>match p with
     | (.nx,ρ2)=>ZV test body n ρ2 h2
     | (.ct,ρ2)=>ZV test body n ρ2 h2
     | (.bk,ρ2)=>.ok (.nx,ρ2) h2
     | (.rt d,ρ2)=>.ok (.rt d,ρ2) h2
   else .ok (.nx,S) h1
noncomputable def R.plain{α:Type}:R α->R α
 | .exc _ _=>.bad
 | r=>r
noncomputable def ZL(src:Option (Nat×List D))(g:Tg)(test:Ev->Hd->R Bool)(elt:Ev->Hd->R D):List D->Ev->List D->Hd->R (List D)
 | [],_,acc,h=>if Wk.stays src h then .ok acc h else .bad
 | d::ds,S,acc,h=>if Wk.stays src h/\acc.length<sizeLine then match ZbG g d S with
     | none=>.bad
     | some ρ1=>(test ρ1 h).plain.bind fun b h1=>if b then (elt ρ1 h1).plain.bind fun x h2=>ZL src g test elt ds S (acc++[x]) h2 else ZL src g test elt ds S acc h1
   else .bad
noncomputable def Zga(C:Str)(i:Nat)(S:Ev)(r:R D):R (Fl×Ev):=match r with
 | .bad=>.bad
 | .ok v h=>.ok (.nx,S.set i (some v)) h
 | .exc c h=>if c=C then .ok (.nx,S.set i (some .non)) h else .bad
noncomputable def mnm (C m:Str):Str:=C++(O "." ++ m)
noncomputable def ZY(d:D)(h:Hd):Option (Str×List (Str×D)):=match d with
 | .ref i=>match h[i]? with
   | some (.ins C fs)=>some (C,fs)
   | _=>none
 | _=>none
noncomputable def Zgp(Cs:List Str)(f:Str)(x:D)(h:Hd):R D:=match ZY x h with
 | some (C,fs)=>if C∈Cs then R.ofO (fs.lookup f) h else .bad
 | none=>.bad
noncomputable def ZlA(f:Str)(v:D):List (Str×D)->List (Str×D)
 | []=>[(f,v)]
 | (g,x)::r=>if g=f then (g,v)::r else (g,x)::ZlA f v r
noncomputable def Zg8(Cs:List Str)(f:Str)(x d:D)(h:Hd):R D:=match x with
 | .ref i=>match h[i]? with
   | some (.ins C fs)=>if C∈Cs/\fs.length<1000 then .ok .non (h.set i (.ins C (ZlA f d fs))) else .bad
   | _=>.bad
 | _=>.bad
noncomputable def Znm (Cf:Str->List D->Hd->R D) (C:Str) (xs:List D) (h:Hd):R D:=(Cf (mnm C (O "__init__")) (.ref h.length::xs) (h++[.ins C []])).bind fun d h2=>match d with
 | .non=>.ok (.ref h.length) h2
 | _=>.bad
structure Tb where
 G:Str->Option D
 GD:Str->Option (List (Key×D))
 C:Str->List D->Hd->R D
 L:Nat
mutual
noncomputable def ev(T:Tb):Ex->Ev->Hd->R D
 | .var i,S,h=>R.ofO (S[i]?).join h
 | .cst d,_,h=>.ok d h
 | .glo x,_,h=>R.ofO (T.G x) h
 | .bin op a b,S,h=>(ev T a S h).bind fun x h1=>(ev T b S h1).bind fun y h2=>opB op x y h2
 | .cmp op a b,S,h=>(ev T a S h).bind fun x h1=>(ev T b S h1).bind fun y h2=>opC T.GD op x y h2
 | .cmp2 op op' a b c,S,h=>(ev T a S h).bind fun x h1=>(ev T b S h1).bind fun y h2=>(opC T.GD op x y h2).bind fun r h3=>match r with
   | .bl true=>(ev T c S h3).bind fun z h4=>opC T.GD op' y z h4
   | .bl false=>.ok (.bl false) h3
   | _=>.bad
 | .neg a,S,h=>(ev T a S h).bind fun x h1=>match x with
   | .int i=>.ok (.int (-i)) h1
   | _=>.bad
 | .nt a,S,h=>(ev T a S h).bind fun x h1=>match x with
   | .bl b=>.ok (.bl (!b)) h1
   | _=>.bad
 | .ands es,S,h=>evAnd T es S h
 | .ors es,S,h=>evOr T es S h
 | .ite c a b,S,h=>(tst T c S h).bind fun c h1=>if c then ev T a S h1 else ev T b S h1
 | .tupl es,S,h=>(evs T es S h).bind fun xs h1=>if xs.length<=sizeLine then .ok (.tup xs) h1 else .bad
 | .lstl es,S,h=>(evs T es S h).bind fun xs h1=>if xs.length<=sizeLine then ZcI (.lst xs) h1 else .bad
 | .ix a i,S,h=>(ev T a S h).bind fun x h1=>(ev T i S h1).bind fun y h2=>ZaS T.GD x y h2
 | .sl a lo hi,S,h=>(ev T a S h).bind fun x h1=>(evo T lo S h1).bind fun l h2=>(evo T hi S h2).bind fun u h3=>Zgj x l u h3
 | .blt f es,S,h=>(evs T es S h).bind fun xs h1=>Zb4 T.GD f xs h1
 | .call f es,S,h=>(evs T es S h).bind fun xs h1=>T.C f xs h1
 | .meth m o es,S,h=>(ev T o S h).bind fun x h1=>if Zdz x h1 then (evs T es S h1).bind fun xs h2=>Zbo m x xs h2 else .bad
 | .comp _ js it g c e,S,h=>(evi T it S h).bind fun w h1=>(ZL w.src g (tsto T c) (ev T e) w.xs (Zbp js S) [] h1).bind fun xs h2=>ZcI (.lst xs) h2
 | .sorts e,S,h=>(ev T e S h).bind fun x h1=>match (lstOf x h1).bind strsOf with
   | some ss=>if ss.length<64 then ZcI (.lst ((Zca ss.eraseDups).map .str)) h1 else .bad
   | none=>.bad
 | .maxd e d,S,h=>(ev T e S h).bind fun x h1=>(ev T d S h1).bind fun y h2=>Zld x y h2
 | .dictl ps,S,h=>(evs T ps S h).bind fun xs h1=>match ZcO xs with
   | some kvs=>if kvs.length<=15 then ZcI (.dic (Zb2 [] kvs)) h1 else .bad
   | none=>.bad
 | .att Cs o f,S,h=>(ev T o S h).bind fun x h1=>Zgp Cs f x h1
 | .mk C es,S,h=>(evs T es S h).bind fun xs h1=>Znm T.C C xs h1
 | .mcl C m o es,S,h=>(ev T o S h).bind fun x h1=>match ZY x h1 with
   | some (C',fs)=>if C'=C/\fs.lookup m=none then (evs T es S h1).bind fun xs h2=>T.C (mnm C m) (x::xs) h2 else .bad
   | none=>.bad
 | .any,_,_=>.bad
 | .trev e,S,h=>(ev T e S h).bind fun x h1=>ZqU x h1
 | .lrv e,S,h=>(ev T e S h).bind fun x h1=>ZuD x h1
 | .tix o e,S,h=>(ev T o S h).bind fun x h1=>if Zuf x then (ev T e S h1).bind fun y h2=>ZuC x y h2 else .bad
 | .lix o e,S,h=>(ev T o S h).bind fun x h1=>if Zdz x h1 then (ev T e S h1).bind fun y h2=>ZuE x y h2 else .bad
 | .lin a b,S,h=>(ev T a S h).bind fun x h1=>(ev T b S h1).bind fun y h2=>Ze4 x y h2
noncomputable def evs(T:Tb):Exs->Ev->Hd->R (List D)
 | .nil,_,h=>.ok [] h
 | .cons e es,S,h=>(ev T e S h).bind fun x h1=>(evs T es S h1).bind fun xs h2=>.ok (x::xs) h2
noncomputable def evAnd(T:Tb):Exs->Ev->Hd->R D
 | .nil,_,_=>.bad
 | .cons e es,S,h=>match es with
   | .nil=>ev T e S h
   | .cons _ _=>(ev T e S h).bind fun x h1=>match x with
     | .bl true=>evAnd T es S h1
     | .bl false=>.ok (.bl false) h1
     | _=>.bad
noncomputable def evOr(T:Tb):Exs->Ev->Hd->R D
 | .nil,_,_=>.bad
 | .cons e es,S,h=>match es with
   | .nil=>ev T e S h
   | .cons _ _=>(ev T e S h).bind fun x h1=>match x with
     | .bl true=>.ok (.bl true) h1
     | .bl false=>evOr T es S h1
     | _=>.bad
noncomputable def evo(T:Tb):Option Ex->Ev->Hd->R (Option Int)
 | none,_,h=>.ok none h
 | some e,S,h=>(ev T e S h).bind fun x h1=>match x with
   | .int i=>.ok (some i) h1
   | _=>.bad
noncomputable def tst(T:Tb):Tx->Ev->Hd->R Bool
 | .ex e,S,h=>(ev T e S h).bind fun x h1=>R.ofO (ZdU T.GD x h1) h1
 | .ands ts,S,h=>tstAnd T ts S h
 | .ors ts,S,h=>tstOr T ts S h
 | .nt a,S,h=>(tst T a S h).bind fun c h1=>.ok (!c) h1
noncomputable def tstAnd(T:Tb):Txs->Ev->Hd->R Bool
 | .one t,S,h=>tst T t S h
 | .cons t ts,S,h=>(tst T t S h).bind fun c h1=>if c then tstAnd T ts S h1 else .ok false h1
noncomputable def tstOr(T:Tb):Txs->Ev->Hd->R Bool
 | .one t,S,h=>tst T t S h
 | .cons t ts,S,h=>(tst T t S h).bind fun c h1=>if c then .ok true h1 else tstOr T ts S h1
noncomputable def tsto(T:Tb):Option Tx->Ev->Hd->R Bool
 | none,_,h=>.ok true h
 | some e,S,h=>tst T e S h
noncomputable def evi(T:Tb):Ix->Ev->Hd->R Wk
 | .pl e,S,h=>(ev T e S h).bind fun x h1=>R.ofO (Zan x h1) h1
 | .rng e,S,h=>(ev T e S h).bind fun x h1=>match x with
   | .int j=>if Za1 j then .ok ⟨none,Zaz 0 j.toNat⟩ h1 else .bad
   | _=>.bad
 | .rng2 a b,S,h=>(ev T a S h).bind fun x h1=>(ev T b S h1).bind fun y h2=>match x,y with
   | .int i,.int j=>if Za1 i&&Za1 j then .ok ⟨none,Zaz i (j - i).toNat⟩ h2 else .bad
   | _,_=>.bad
 | .enu e,S,h=>(ev T e S h).bind fun x h1=>R.ofO ((Zkq x h1).map fun w=>⟨w.src,ZcD w.xs⟩) h1
 | .rev e,S,h=>(ev T e S h).bind fun x h1=>R.ofO ((Zgt x h1).map fun w=>⟨w.src,w.xs.reverse⟩) h1
 | .en1 e,S,h=>(ev T e S h).bind fun x h1=>match x with
   | .tup xs=>.ok ⟨none,ZdK xs⟩ h1
   | _=>.bad
 | .en0 e,S,h=>(ev T e S h).bind fun x h1=>match x with
   | .tup xs=>.ok ⟨none,ZcD xs⟩ h1
   | _=>.bad
 | .dk e,S,h=>(ev T e S h).bind fun x h1=>ZnQ x h1
end
mutual
noncomputable def xs1(T:Tb):Sx->Ev->Hd->R (Fl×Ev)
 | .ret e,S,h=>(ev T e S h).bind fun x h1=>.ok (.rt x,S) h1
 | .set g e,S,h=>(ev T e S h).bind fun x h1=>(R.ofO (ZbG g x S) h1).bind fun ρ1 h2=>.ok (.nx,ρ1) h2
 | .put o i e,S,h=>(ev T e S h).bind fun x h1=>(ev T o S h1).bind fun y h2=>(ev T i S h2).bind fun z h3=>(ZbP y z x h3).bind fun _ h4=>.ok (.nx,S) h4
 | .aug i op e,S,h=>(R.ofO (S[i]?).join h).bind fun x h1=>(ev T e S h1).bind fun y h2=>match op,x,y with
   | .Add,.int a,.int b=>.ok (.nx,S.set i (some (.int (a+b)))) h2
   | _,_,_=>.bad
 | .drp e,S,h=>(ev T e S h).bind fun _ h1=>.ok (.nx,S) h1
 | .iff c a b,S,h=>(tst T c S h).bind fun t h1=>if t then xs2 T a S h1 else xs2 T b S h1
 | .whl c b,S,h=>ZV (tst T c) (xs2 T b) T.L S h
 | .forr g it b,S,h=>(evi T it S h).bind fun w h1=>ZS w.src g (xs2 T b) w.xs S h1
 | .pas,S,h=>.ok (.nx,S) h
 | .brk,S,h=>.ok (.bk,S) h
 | .cnt,S,h=>.ok (.ct,S) h
 | .seta Cs o f e,S,h=>(ev T e S h).bind fun d h1=>(ev T o S h1).bind fun x h2=>(Zg8 Cs f x d h2).bind fun _ h3=>.ok (.nx,S) h3
 | .auga Cs o f e,S,h=>(ev T o S h).bind fun x h1=>(Zgp Cs f x h1).bind fun v h2=>(ev T e S h2).bind fun y h3=>match v,y with
   | .int a,.int b=>if (ZY x h1).map (·.1)=(ZY x h3).map (·.1) then (Zg8 Cs f x (.int (a+b)) h3).bind fun _ h4=>.ok (.nx,S) h4 else .bad
   | _,_=>.bad
 | .any,_,_=>.bad
 | .rai C e,S,h=>(ev T e S h).bind fun _ h1=>.exc C h1
 | .trs i f es C,S,h=>(evs T es S h).plain.bind fun xs h1=>Zga C i S (T.C f xs h1)
noncomputable def xs2(T:Tb):Sxs->Ev->Hd->R (Fl×Ev)
 | .nil,S,h=>.ok (.nx,S) h
 | .cons s r,S,h=>(xs1 T s S h).bind fun p h1=>match p with
   | (.nx,ρ1)=>xs2 T r ρ1 h1
   | p=>.ok p h1
end
structure Fd where
 ps:List Str
 N:List Str
 body:Sxs
structure Pg where
 tb:List (Str×Fd)
 G:Str->Option D
 GD:Str->Option (List (Key×D))
 L:Nat
 ms:List (Str×Fd):=[]
noncomputable def Pg.look(P:Pg)(f:Str):Option Fd:=match P.tb.lookup f with
 | some fd=>some fd
 | none=>P.ms.lookup f
noncomputable def Zn(N:List Str)(ds:List D):Ev:=ds.map some++List.replicate (N.length - ds.length) none
noncomputable def Zh:R (Fl×Ev)->R D
 | .ok (.rt d,_) h=>.ok d h
 | .ok (.nx,_) h=>.ok .non h
 | .exc c h=>.exc c h
 | _=>.bad
noncomputable def run(P:Pg):Nat->Str->List D->Hd->R D
 | 0,_,_,_=>.bad
 | n+1,f,ds,h=>match P.look f with
   | none=>.bad
   | some fd=>if ds.length=fd.ps.length then Zh (xs2 ⟨P.G,P.GD,run P n,P.L⟩ fd.body (Zn fd.N ds) h) else .bad
noncomputable def Pg.tbl(P:Pg)(n:Nat):Tb:=⟨P.G,P.GD,run P n,P.L⟩
end IV
end
section
set_option tactic.hygienic false
namespace IV
open PySem PySem.Spec PyProof.Rows L2
noncomputable def FzL(K:PySem.W.Frag)(H:Hp)(a:Addr)(xs:List V):Prop :=
 (∃ o,H a=some (.frz o (.lst xs)))\/∃ (o:Obj) (its:Array Value) (n:Nat),K.lookup a=some o/\o.cls=.type "list" /\ o.dict=none/\o.data=.seq its n/\its.size<=sizeLine/\Zm xs its.toList
theorem FzL.sq{K:PySem.W.Frag}{H:Hp}{a:Addr}{xs:List V}(h:FzL K H a xs):SqL K H a xs:=h.elim (fun ⟨o,h⟩=>.inl (.inr ⟨o,h⟩)) .inr
structure Yx where
 K:PySem.W.Frag
 mg:Str->Option Value
mutual
inductive RD(Y:Yx)(H:Hp)(B:List Addr):D->V->Prop
 | non:RD Y H B .non .non
 | bl (b:Bool):RD Y H B (.bl b) (.bl b)
 | int (i:Int):RD Y H B (.int i) (.int i)
 | str (x:Str) (ok:PyData.strOk x=true):RD Y H B (.str x) (.str x)
 | tup {a:Addr}{vs:List V}{ds:List D}:SqT Y.K H a vs->RDs Y H B ds vs->RD Y H B (.tup ds) (.ref a)
 | ref {i:Nat}{a:Addr}:B[i]? = some a->RD Y H B (.ref i) (.ref a)
 | ty (n:String):RD Y H B (.ty n) (.ty n)
 | ro {a:Addr}{vs:List V}{ds:List D}:FzL Y.K H a vs->RDs Y H B ds vs->RD Y H B (.ro ds) (.ref a)
 | kd {x:Str}{a:Addr}:Y.mg x=some (.ref a)->RD Y H B (.kd x) (.ref a)
inductive RDs(Y:Yx)(H:Hp)(B:List Addr):List D->List V->Prop
 | nil:RDs Y H B [] []
 | cons {d:D}{v:V}{ds:List D}{vs:List V}:RD Y H B d v->RDs Y H B ds vs->RDs Y H B (d::ds) (v::vs)
end
inductive RKs(Y:Yx)(H:Hp)(B:List Addr){κ:Type}:List (κ×D)->List (κ×V)->Prop
 | nil:RKs Y H B [] []
 | cons {k:κ}{d:D}{v:V}{ds:List (κ×D)}{vs:List (κ×V)}:RD Y H B d v->RKs Y H B ds vs->RKs Y H B ((k,d)::ds) ((k,v)::vs)
noncomputable def RO(Y:Yx)(H:Hp)(B:List Addr)(a:Addr):DO->Prop
 | .lst ds=>∃ vs,H a=some (.lst vs)/\RDs Y H B ds vs
 | .dic kvs=>∃ kvs',H a=some (.dK kvs')/\RKs Y H B kvs kvs'
 | .ins C fs=>∃ Ca dx fs',H a=some (.ins Ca dx fs')/\Y.mg C=some (.ref Ca)/\RKs Y H B fs fs'
 | .fdic kvs=>∃ o kvs',H a=some (.frz o (.dK kvs'))/\RKs Y H B kvs kvs'
noncomputable def Zbm(kvs:List (Key×D)):Prop:=∀ p∈kvs,∀ x,p.1=.inr x->PyData.strOk x=true
noncomputable def DOk:DO->Prop
 | .dic kvs=>Zbm kvs
 | .fdic kvs=>Zbm kvs
 | _=>True
structure RH(Y:Yx)(H:Hp)(B:List Addr)(h:Hd):Prop where
 len:h.length=B.length
 nd:B.Nodup
 ob:∀ (i:Nat) (o:DO) (a:Addr),h[i]? = some o->B[i]? = some a->RO Y H B a o
 ks:∀ (i:Nat) (o:DO),h[i]? = some o->DOk o
structure Gr(H:Hp)(B:List Addr)(H':Hp)(μ':List Addr):Prop where
 pre:∀ (i:Nat) (a:Addr),B[i]? = some a->μ'[i]? = some a
 new:∀ a∈μ',a∈B\/H a=none
 keep:∀ b o,b ∉ B->H b=some o->H' b=some o
 fz:∀ b o u,H b=some (.frz o u)->H' b=some (.frz o u)
theorem Gr.refl{H:Hp}{B:List Addr}:Gr H B H B:=⟨fun _ _ h=>h,fun _ h=>.inl h,fun _ _ _ h=>h,fun _ _ _ h=>h⟩
theorem Gr.trans{H H1 H2:Hp}{B μ1 μ2:List Addr}(a:Gr H B H1 μ1)(b:Gr H1 μ1 H2 μ2):Gr H B H2 μ2:=by
 refine ⟨fun i x h=>b.pre i x (a.pre i x h),fun x hx=>?_,fun x o hx h=>?_,fun x o u h=>b.fz x o u (a.fz x o u h)⟩
 . rcases b.new x hx with h|h
   . exact a.new x h
   . by_cases hm:x∈B
     . exact .inl hm
     . cases q:H x with
       | none=>exact .inr rfl
       | some o=>rw [a.keep x o hm q] at h;cases h
 . refine b.keep x o (fun hm=>?_) (a.keep x o hx h);rcases a.new x hm with z|z
   . exact hx z
   . rw [h] at z;cases z
noncomputable def Mu:Option HO->Prop
 | some (.lst _)|some (.dK _)|some (.ins _ _ _)|some (.frz _ (.dK _))=>True
 | _=>False
theorem RO.mut{Y:Yx}{H:Hp}{B:List Addr}{a:Addr}{o:DO}(h:RO Y H B a o):Mu (H a):=by
 cases o with
 | lst ds=>obtain ⟨vs,e,_⟩:=h;rw [e];trivial
 | dic ds=>obtain ⟨vs,e,_⟩:=h;rw [e];trivial
 | ins C ds=>obtain ⟨_,_,_,e,_⟩:=h;rw [e];trivial
 | fdic ds=>obtain ⟨_,_,e,_⟩:=h;rw [e];trivial
theorem RH.mem{Y:Yx}{H:Hp}{B:List Addr}{h:Hd}(r:RH Y H B h){a:Addr}(ha:a∈B):∃ (i:Nat) (o:DO),B[i]? = some a/\h[i]? = some o/\RO Y H B a o:=by
 obtain ⟨i,hi⟩:=List.mem_iff_getElem?.mp ha;have hl:i<h.length:=by
   rw [r.len];exact (Ob.mp hi).1
 exact ⟨i,h[i],hi,Og hl,r.ob i _ a (Og hl) hi⟩
theorem RH.mut{Y:Yx}{H:Hp}{B:List Addr}{h:Hd}(r:RH Y H B h){a:Addr}(ha:a∈B):Mu (H a):=let ⟨_,_,_,_,q⟩:=r.mem ha;q.mut
theorem Gr.rdT{Y:Yx}{H H':Hp}{B μ':List Addr}{h:Hd}(r:RH Y H B h)(g:Gr H B H' μ'){a:Addr}{xs:List V}(t:SqT Y.K H a xs):SqT Y.K H' a xs:=by
 rcases t with t|t
 . rcases t with t|⟨o,t⟩
   . exact .inl (.inl (g.keep a _ (fun hm=>by have:=r.mut hm;rw [t] at this;exact this) t))
   . exact .inl (.inr ⟨o,g.fz a _ _ t⟩)
 . exact .inr t
theorem Gr.rdF{Y:Yx}{H H':Hp}{B μ':List Addr}{h:Hd}(r:RH Y H B h)(g:Gr H B H' μ'){a:Addr}{xs:List V}(t:FzL Y.K H a xs):FzL Y.K H' a xs:=by
 rcases t with ⟨o,t⟩|t
 . exact .inl ⟨o,g.fz a _ _ t⟩
 . exact .inr t
section
variable {Y:Yx}{H H':Hp}{B μ':List Addr}{h:Hd}
mutual
theorem RD.mono(r:RH Y H B h)(g:Gr H B H' μ'):∀ {d:D}{v:V},RD Y H B d v->RD Y H' μ' d v
 | _,_,.non=>.non
 | _,_,.bl b=>.bl b
 | _,_,.int i=>.int i
 | _,_,.str x ok=>.str x ok
 | _,_,.tup t s=>.tup (g.rdT r t) (RDs.mono r g s)
 | _,_,.ref e=>.ref (g.pre _ _ e)
 | _,_,.ty n=>.ty n
 | _,_,.ro t s=>.ro (g.rdF r t) (RDs.mono r g s)
 | _,_,.kd e=>.kd e
theorem RDs.mono(r:RH Y H B h)(g:Gr H B H' μ'):∀ {d:List D}{v:List V},RDs Y H B d v->RDs Y H' μ' d v
 | _,_,.nil=>.nil
 | _,_,.cons a s=>.cons (RD.mono r g a) (RDs.mono r g s)
end
theorem RKs.mono{κ:Type}(r:RH Y H B h)(g:Gr H B H' μ'):∀ {d:List (κ×D)}{v:List (κ×V)},RKs Y H B d v->RKs Y H' μ' d v
 | _,_,.nil=>.nil
 | _,_,.cons a s=>.cons (a.mono r g) (RKs.mono r g s)
theorem RDs.length:∀ {d:List D}{v:List V},RDs Y H B d v->d.length=v.length
 | _,_,.nil=>rfl
 | _,_,.cons a s=>by rw [Os,Os,s.length]
theorem RKs.length{κ:Type}:∀ {d:List (κ×D)}{v:List (κ×V)},RKs Y H B d v->d.length=v.length
 | _,_,.nil=>rfl
 | _,_,.cons a s=>by rw [Os,Os,s.length]
theorem RDs.get:∀ {ds:List D}{vs:List V},RDs Y H B ds vs->∀ {i:Nat}{d:D},ds[i]? = some d->∃ v,vs[i]? = some v/\RD Y H B d v
 | _,_,.nil,i,d,e=>by simp at e
 | _,_,.cons a s,0,d,e=>by cases e;exact ⟨_,rfl,a⟩
 | _,_,.cons a s,i+1,d,e=>by
   obtain ⟨v,h1,h2⟩:=RDs.get s (i:=i) (d:=d) (by simpa using e);exact ⟨v,by simpa using h1,h2⟩
theorem RDs.append:∀ {ds es:List D}{vs ws:List V},RDs Y H B ds vs->RDs Y H B es ws->RDs Y H B (ds++es) (vs++ws)
 | _,_,_,_,.nil,s=>s
 | _,_,_,_,.cons a r,s=>.cons a (r.append s)
theorem RDs.take:∀ {ds:List D}{vs:List V} (n:Nat),RDs Y H B ds vs->RDs Y H B (ds.take n) (vs.take n)
 | _,_,0,_=>.nil
 | _,_,_+1,.nil=>.nil
 | _,_,n+1,.cons a s=>.cons a (s.take n)
theorem RDs.drop:∀ {ds:List D}{vs:List V} (n:Nat),RDs Y H B ds vs->RDs Y H B (ds.drop n) (vs.drop n)
 | _,_,0,s=>s
 | _,_,_+1,.nil=>.nil
 | _,_,n+1,.cons a s=>s.drop n
theorem RDs.reverse{ds:List D}{vs:List V}(s:RDs Y H B ds vs):RDs Y H B ds.reverse vs.reverse:=by
 have gen:∀ {ds es:List D}{vs ws:List V},RDs Y H B ds vs->RDs Y H B es ws->RDs Y H B (ds.reverseAux es) (vs.reverseAux ws):=by
   intro ds;induction ds with
   | nil=>intro es vs ws a b;cases a;exact b
   | cons d ds ih =>
     intro es vs ws a b;cases a with
     | cons a s =>
       have z:=ih s (RDs.cons a b);exact z
 exact gen s .nil
theorem RDs.dropLast{ds:List D}{vs:List V}(s:RDs Y H B ds vs):RDs Y H B ds.dropLast vs.dropLast:=by
 rw [List.dropLast_eq_take,List.dropLast_eq_take,s.length];exact s.take _
theorem RDs.set{d:D}{v:V}(r:RD Y H B d v):∀ {ds:List D}{vs:List V} (i:Nat),RDs Y H B ds vs->RDs Y H B (ds.set i d) (vs.set i v)
 | _,_,_,.nil=>.nil
 | _,_,0,.cons _ s=>.cons r s
 | _,_,i+1,.cons a s=>.cons a (RDs.set r i s)
theorem RDs.cut{ds:List D}{vs:List V}(s:RDs Y H B ds vs)(lo hi:Option Int):RDs Y H B (cutD ds lo hi) (ZiQ vs lo hi):=by
 unfold cutD ZiQ;rw [s.length];exact (s.drop _).take _
theorem RDs.isEmpty{ds:List D}{vs:List V}(s:RDs Y H B ds vs):ds.isEmpty=vs.isEmpty:=by cases s<;>rfl
theorem RDs.atI{ds:List D}{vs:List V}(s:RDs Y H B ds vs){i:Int}{d:D}(e:L2.atI ds i=some d):∃ v,L2.atI vs i=some v/\RD Y H B d v:=by
 unfold L2.atI at e ⊢;rw [s.length] at e;cases q:ixN vs.length i with
 | none=>rw [q] at e;cases e
 | some j =>
   rw [q] at e;exact s.get (i:=j) e
theorem RKs.val{κ:Type}[DecidableEq κ]:∀ {ds:List (κ×D)}{vs:List (κ×V)},RKs Y H B ds vs->∀ (k:κ),((ds.find? fun p=>decide (p.1=k))=none/\(vs.find? fun p=>decide (p.1=k))=none)\/∃ d v,(ds.find? fun p=>decide (p.1=k))=some (k,d)/\(vs.find? fun p=>decide (p.1=k))=some (k,v)/\RD Y H B d v
 | _,_,.nil,k=>.inl ⟨rfl,rfl⟩
 | _,_,.cons (k:=k') (d:=d) (v:=v) a s,k=>by
   by_cases e:k'=k
   . subst e;exact .inr ⟨d,v,by simp,by simp,a⟩
   . rcases s.val k with ⟨h1,h2⟩|⟨d,v,h1,h2,h3⟩
     . exact .inl ⟨by simp [e,h1],by simp [e,h2]⟩
     . exact .inr ⟨d,v,by simp [e,h1],by simp [e,h2],h3⟩
end
theorem Zsp{α:Type}{l:List α}(hl:l.Nodup){i j:Nat}{x:α}(a:l[i]? = some x)(b:l[j]? = some x):i=j:=by
 obtain ⟨h1,e1⟩:=Ob.mp a;obtain ⟨h2,e2⟩:=Ob.mp b;exact (List.getElem_inj hl).mp (e1.trans e2.symm)
section
variable {Y:Yx}{H:Hp}{B:List Addr}{h:Hd}
theorem Gr.lay{p:Addr}{o:HO}(hp:H p=none):Gr H B (upd H p o) (B++[p]):=by
 refine ⟨fun i a e=>?_,fun a ha=>?_,fun b u hb e=>?_,fun b u v e=>by rw [Zg (fun z=>by rw [z,hp] at e;cases e)];exact e⟩
 . rw [Oe (Ob.mp e).1];exact e
 . rcases OD.mp ha with z|z
   . exact .inl z
   . rw [Ox.mp z];exact .inr hp
 . rw [Zg (fun z=>by rw [z,hp] at e;cases e)];exact e
theorem Gr.lay0{p:Addr}{o:HO}(hp:H p=none):Gr H B (upd H p o) B :=
 ⟨fun _ _ e=>e,fun a ha=>.inl ha,fun b u hb e=>by rw [Zg (fun z=>by rw [z,hp] at e;cases e)];exact e,fun b u v e=>by rw [Zg (fun z=>by rw [z,hp] at e;cases e)];exact e⟩
noncomputable def NF:Option HO->Prop
 | some (.frz _ _)=>False
 | _=>True
theorem Gr.write{p:Addr}{o:HO}(hp:p∈B)(nf:NF (H p)):Gr H B (upd H p o) B :=
 ⟨fun _ _ e=>e,fun a ha=>.inl ha,fun b u hb e=>by rw [Zg (show b≠p from fun z=>hb (by rw [z];exact hp))];exact e,fun b u v e=>by rw [Zg (fun z=>by rw [z] at e;rw [e] at nf;exact nf)];exact e⟩
theorem RO.mono{H':Hp}{μ':List Addr}(r:RH Y H B h)(g:Gr H B H' μ'){a:Addr}{o:DO}(q:RO Y H B a o)(e:H' a=H a):RO Y H' μ' a o:=by
 cases o with
 | lst ds=>obtain ⟨vs,z,s⟩:=q;exact ⟨vs,e.trans z,s.mono r g⟩
 | dic ds=>obtain ⟨vs,z,s⟩:=q;exact ⟨vs,e.trans z,s.mono r g⟩
 | ins C ds=>obtain ⟨a1,a2,a3,z,m,s⟩:=q;exact ⟨a1,a2,a3,e.trans z,m,s.mono r g⟩
 | fdic ds=>obtain ⟨o,vs,z,s⟩:=q;exact ⟨o,vs,e.trans z,s.mono r g⟩
theorem RH.keep{H':Hp}(r:RH Y H B h)(g:Gr H B H' B)(k:∀ a∈B,H' a=H a):RH Y H' B h :=
 ⟨r.len,r.nd,fun i o a e1 e2=>(r.ob i o a e1 e2).mono r g (k a (O1 e2)),r.ks⟩
theorem ZjD{o:DO}(k:∀ (i:Nat) (o:DO),h[i]? = some o->DOk o)(dk:DOk o):∀ (i:Nat) (o':DO),(h++[o])[i]? = some o'->DOk o':=by
 intro i o' e1;by_cases hi:i<h.length
 . rw [Oe hi] at e1;exact k i o' e1
 . have hi':i=h.length:=by
     have:=(Ob.mp e1).1;simp at this;omega
   subst hi';rw [Om (Oq _)] at e1;simp at e1;subst e1;exact dk
theorem RH.lay{p:Addr}{u:HO}{o:DO}(r:RH Y H B h)(hp:H p=none)(n:RO Y (upd H p u) (B++[p]) p o)(dk:DOk o:=by trivial):RH Y (upd H p u) (B++[p]) (h++[o]):=by
 have np:p ∉ B:=fun z=>by have:=r.mut z;rw [hp] at this;exact this
 refine ⟨by simp [r.len],?_,fun i o' a e1 e2=>?_,ZjD r.ks dk⟩
 . rw [List.nodup_append];refine ⟨r.nd,by simp,fun a ha b hb=>?_⟩;rw [Ox.mp hb];intro z;exact np (z ▸ ha)
 . by_cases hi:i<h.length
   . rw [Oe hi] at e1;rw [Oe (by rw [<- r.len];exact hi)] at e2;exact (r.ob i o' a e1 e2).mono r (Gr.lay hp) (Zg fun z=>np (z ▸ O1 e2))
   . have hi':i=h.length:=by
       have:=(Ob.mp e1).1;simp at this;omega
     subst hi';rw [Om (Oq _)] at e1;rw [Om (by rw [r.len];exact Oq _)] at e2;simp [r.len] at e1 e2;subst e1;subst e2;exact n
theorem RH.lay0{p:Addr}{u:HO}(r:RH Y H B h)(hp:H p=none):RH Y (upd H p u) B h:=by
 have np:p ∉ B:=fun z=>by have:=r.mut z;rw [hp] at this;exact this
 exact r.keep (Gr.lay0 hp) fun a ha=>Zg fun z=>np (z ▸ ha)
theorem RH.write{p:Addr}{i:Nat}{u:HO}{o:DO}(r:RH Y H B h)(hp:B[i]? = some p)(n:RO Y (upd H p u) B p o)(nf:NF (H p))(dk:DOk o:=by trivial):RH Y (upd H p u) B (h.set i o):=by
 have hm:p∈B:=O1 hp;refine ⟨by simp [r.len],r.nd,fun j o' a e1 e2=>?_,fun j o' e1=>?_⟩
 rotate_right
 . by_cases hj:j=i
   . subst hj;have hl:j<h.length:=by rw [r.len];exact (Ob.mp hp).1
     rw [Ol hl] at e1;cases e1;exact dk
   . rw [Oc (Ne.symm hj)] at e1;exact r.ks j o' e1
 by_cases hj:j=i
 . subst hj;rw [hp] at e2;cases e2;have hl:j<h.length:=by rw [r.len];exact (Ob.mp hp).1
   rw [Ol hl] at e1;cases e1;exact n
 . rw [Oc (Ne.symm hj)] at e1;refine (r.ob j o' a e1 e2).mono r (Gr.write hm nf) (Zg fun z=>hj ?_);subst z;exact Zsp r.nd e2 hp
end
end IV
end
section
set_option tactic.hygienic false
namespace IV
open PySem PySem.Spec PyProof.Rows L2
noncomputable def Fin{α β:Type}(Y:Yx)(rel:Hp->List Addr->α->β->Prop)(H:Hp)(B:List Addr)(r:R α)(Q:β->Hp->Prop)(E:XK):Prop:=match r with
 | .bad=>False
 | .ok a h'=>∀ b H' μ',Gr H B H' μ'->RH Y H' μ' h'->rel H' μ' a b->Q b H'
 | .exc c h'=>∀ H' μ' C,Gr H B H' μ'->RH Y H' μ' h'->Y.mg c=some (.ref C)->E (.ref C) none H'
section
variable {Y:Yx}{α β α' β':Type}{rel:Hp->List Addr->α->β->Prop}{rel':Hp->List Addr->α'->β'->Prop}{H H1:Hp}{B μ1:List Addr}{E:XK}
theorem Fin.mono{r:R α}{Q:β->Hp->Prop}(g:Gr H B H1 μ1)(f:Fin Y rel H B r Q E):Fin Y rel H1 μ1 r Q E:=by
 cases r with
 | bad=>exact f
 | ok a h=>exact fun b H' μ' g'=>f b H' μ' (g.trans g')
 | exc c h=>exact fun H' μ' C g'=>f H' μ' C (g.trans g')
theorem Fin.bind{r:R α}{k:α->Hd->R α'}{Q:β'->Hp->Prop}{Q1:β->Hp->Prop}(f:Fin Y rel' H B (r.bind k) Q E)
   (hk:∀ a h1 b H1 μ1,r=.ok a h1->Gr H B H1 μ1->RH Y H1 μ1 h1->rel H1 μ1 a b->Fin Y rel' H1 μ1 (k a h1) Q E->Q1 b H1):Fin Y rel H B r Q1 E:=by
 cases r with
 | bad=>exact f
 | ok a h=>exact fun b H' μ' g' rh rl=>hk a h b H' μ' rfl g' rh rl (Fin.mono g' f)
 | exc c h=>exact f
theorem Fin.ok{a:α}{b:β}{h:Hd}{Q:β->Hp->Prop}(f:Fin Y rel H B (.ok a h) Q E)(rh:RH Y H B h)(r:rel H B a b):Q b H:=f b H B Gr.refl rh r
theorem Fin.at{a:α}{b:β}{h:Hd}{Q:β->Hp->Prop}(f:Fin Y rel H B (.ok a h) Q E)(g:Gr H B H1 μ1)(rh:RH Y H1 μ1 h)(r:rel H1 μ1 a b):Q b H1:=f b H1 μ1 g rh r
theorem Fin.ofO{o:Option α}{h:Hd}{Q:β->Hp->Prop}(f:Fin Y rel H B (R.ofO o h) Q E):∃ a,o=some a/\Fin Y rel H B (.ok a h) Q E:=by
 cases o with
 | none=>exact f.elim
 | some a=>exact ⟨a,rfl,f⟩
theorem Fin.iff{c:Prop}[Decidable c]{r:R α}{Q:β->Hp->Prop}(f:Fin Y rel H B (if c then r else .bad) Q E):c/\Fin Y rel H B r Q E:=by
 by_cases h:c
 . rw [if_pos h] at f;exact ⟨h,f⟩
 . rw [if_neg h] at f;exact f.elim
theorem Fin.new{o:DO}{u:HO}{h:Hd}{Q:VK}{p:Addr}(f:Fin Y (RD Y) H B (ZcI o h) Q E)(rh:RH Y H B h)(hp:H p=none)(n:RO Y (upd H p u) (B++[p]) p o)(dk:DOk o:=by trivial):Q (.ref p) (upd H p u) :=
 f.at (Gr.lay hp) (rh.lay hp n dk) (.ref (by rw [rh.len];simp))
theorem Fin.tup{ds:List D}{vs:List V}{h:Hd}{Q:VK}{p:Addr}(f:Fin Y (RD Y) H B (.ok (.tup ds) h) Q E)(rh:RH Y H B h)(hp:H p=none)(r:RDs Y H B ds vs):Q (.ref p) (upd H p (.tup vs)) :=
 f.at (Gr.lay0 hp) (rh.lay0 hp) (.tup (.inl (.inl Zi)) (r.mono rh (Gr.lay0 hp)))
theorem Fin.wrote{a:α}{b:β}{o:DO}{u:HO}{h:Hd}{Q:β->Hp->Prop}{i:Nat}{p:Addr}(f:Fin Y rel H B (.ok a (h.set i o)) Q E)(rh:RH Y H B h)(hp:B[i]? = some p)(n:RO Y (upd H p u) B p o)(r:rel (upd H p u) B a b)(nf:NF (H p))(dk:DOk o:=by trivial):Q b (upd H p u) :=
 f.at (Gr.write (O1 hp) nf) (rh.write hp n nf dk) r
end
section
variable {Y:Yx}{H:Hp}{B:List Addr}{h:Hd}
theorem RD.lst{i:Nat}{xs:List D}{v:V}(rh:RH Y H B h)(r:RD Y H B (.ref i) v)(e:h[i]? = some (.lst xs)):∃ a vs,v=.ref a/\B[i]? = some a/\H a=some (.lst vs)/\RDs Y H B xs vs:=by
 cases r with
 | ref q =>
   obtain ⟨vs,h1,h2⟩:=rh.ob i _ _ e q;exact ⟨_,vs,rfl,q,h1,h2⟩
theorem RD.dic{i:Nat}{xs:List (Key×D)}{v:V}(rh:RH Y H B h)(r:RD Y H B (.ref i) v)(e:h[i]? = some (.dic xs)):∃ a vs,v=.ref a/\B[i]? = some a/\H a=some (.dK vs)/\RKs Y H B xs vs:=by
 cases r with
 | ref q =>
   obtain ⟨vs,h1,h2⟩:=rh.ob i _ _ e q;exact ⟨_,vs,rfl,q,h1,h2⟩
theorem RD.lstOf{d:D}{xs:List D}{v:V}(rh:RH Y H B h)(r:RD Y H B d v)(e:lstOf d h=some xs):∃ a vs,v=.ref a/\SqL Y.K H a vs/\RDs Y H B xs vs:=by
 cases d with
 | ref i =>
   unfold IV.lstOf at e;simp only at e;split at e
   . cases e;rename_i q;obtain ⟨a,vs,h1,h2,h3,h4⟩:=r.lst rh q;exact ⟨a,vs,h1,.of h3,h4⟩
   . cases e
 | ro ys =>
   cases e;cases r with
   | ro q s=>exact ⟨_,_,rfl,q.sq,s⟩
 | _=>cases e
theorem RD.seqOf{d:D}{xs:List D}{v:V}(rh:RH Y H B h)(r:RD Y H B d v)(e:seqOf d h=some xs):∃ a vs,v=.ref a/\(SqL Y.K H a vs\/SqT Y.K H a vs)/\RDs Y H B xs vs:=by
 by_cases ht:∃ ys,d=.tup ys
 . obtain ⟨ys,rfl⟩:=ht;cases e;cases r with
   | tup q s=>exact ⟨_,_,rfl,.inr q,s⟩
 . have e':IV.lstOf d h=some xs:=by
     cases d with
     | tup ys=>exact absurd ⟨ys,rfl⟩ ht
     | _=>exact e
   obtain ⟨a,vs,h1,h2,h3⟩:=r.lstOf rh e';exact ⟨a,vs,h1,.inl h2,h3⟩
theorem RD.int_inv{i:Int}{v:V}(r:RD Y H B (.int i) v):v=.int i:=by cases r;rfl
theorem RD.str_inv{i:Str}{v:V}(r:RD Y H B (.str i) v):v=.str i/\PyData.strOk i=true:=by cases r with|str x ok=>exact ⟨rfl,ok⟩
theorem RD.tup_inv{ds:List D}{v:V}(r:RD Y H B (.tup ds) v):∃ a vs,v=.ref a/\SqT Y.K H a vs/\RDs Y H B ds vs:=by cases r with|tup q s=>exact ⟨_,_,rfl,q,s⟩
theorem ZgI{x y:Str}(hx:PyData.strOk x=true)(hy:PyData.strOk y=true):PyData.strOk (x++y)=true:=by
 show (x.cps++y.cps).all _=true;rw [Array.all_append];unfold PyData.strOk at hx hy;rw [hx,hy];rfl
theorem Zni{x:Str}(hx:PyData.strOk x=true)(n:Nat):PyData.strOk (Zer x n)=true:=by
 have gen:∀ (n:Nat) (a:Array Nat),a.all (·<0x110000)=true->((List.replicate n x.cps).foldl (·++·) a).all (·<0x110000)=true:=by
   intro n;induction n with
   | zero=>intro a h;exact h
   | succ n ih =>
     intro a h;rw [List.replicate_succ,List.foldl_cons];refine ih _ ?_;rw [Array.all_append,h];exact hx
 exact gen n #[] (by simp)
theorem Zjt{x:Str}(hx:PyData.strOk x=true){c:Nat}(h:c∈x.cps.toList):PyData.strOk ⟨#[c]⟩=true:=by
 unfold PyData.strOk at hx ⊢;rw [Array.all_eq_true'] at hx;have:=hx c (by simpa using h);simpa using this
theorem ZpD{α:Type}{xs:List α}{i:Int}{x:α}(h:atI xs i=some x):x∈xs:=by
 unfold atI at h;cases q:ixN xs.length i with
 | none=>rw [q] at h;cases h
 | some j =>
   rw [q] at h;exact O1 (i:=j) h
end
section
variable {X:Cx}{Y:Yx}{E:XK}
noncomputable def rB(Y:Yx)(E:XK)(f:D->D->Hd->R D):R2:=fun x y H Q=>∃ dx dy h B,RH Y H B h/\RD Y H B dx x/\RD Y H B dy y/\Fin Y (RD Y) H B (f dx dy h) Q E
theorem Fin.int2{x y:D}{k:Int->Int->R D}{Q:VK}(f:Fin Y (RD Y) H B (int2 x y k) Q E):∃ i j,x=.int i/\y=.int j/\Fin Y (RD Y) H B (k i j) Q E:=by
 cases x with
 | int i =>
   cases y with
   | int j=>exact ⟨i,j,rfl,rfl,f⟩
   | _=>exact f.elim
 | _=>exact f.elim
theorem Zr2(hY:Y.K=X.K)(op:Operator):OpR X (binaryOp op) (rB Y E (opB op)):=by
 intro pins s Z H x y v u Q I rx ry hh;obtain ⟨dx,dy,h,B,rh,r1,r2,f⟩:=hh;cases op with
 | Add =>
   have f:Fin Y (RD Y) H B (Zqn dx dy h) Q E:=f;cases dx with
   | int i =>
     cases dy with
     | int j =>
       cases r1;cases r2;exact ZrZ pins s Z H _ _ v u Q I rx ry ⟨_,_,rfl,rfl,f.ok rh (.int _)⟩
     | _=>exact f.elim
   | str i =>
     cases dy with
     | str j =>
       obtain ⟨hz,f⟩:=Fin.iff f;cases r1 with|str _ o1 =>
       cases r2 with|str _ o2 =>
       exact Zjr pins s Z H _ _ v u Q I rx ry ⟨_,_,rfl,rfl,hz,f.ok rh (.str _ (ZgI o1 o2))⟩
     | _=>exact f.elim
   | tup xs =>
     cases dy with
     | tup ys =>
       obtain ⟨hz,f⟩:=Fin.iff f;obtain ⟨a,vs,rfl,t1,s1⟩:=r1.tup_inv;obtain ⟨b,ws,rfl,t2,s2⟩:=r2.tup_inv;rw [s1.length,s2.length] at hz;by_cases h0:vs=[]
       . subst h0;cases s1;exact Zpo pins s Z H _ _ v u Q I rx ry ⟨a,b,ws,rfl,rfl,hY ▸ t1,hY ▸ t2,f.ok rh (.tup t2 s2)⟩
       . refine Zpn pins s Z H _ _ v u Q I rx ry ⟨a,b,vs,ws,rfl,rfl,hY ▸ t1,hY ▸ t2,h0,hz,fun e=>?_,fun e p hp=>f.tup rh hp (s1.append s2)⟩;subst e;cases s2;rw [List.append_nil] at f;exact f.ok rh (.tup t1 s1)
     | _=>exact f.elim
   | ref i =>
     cases dy with
     | ref j =>
       unfold Zqn at f;simp only at f;split at f
       . rename_i e1;split at f
         . rename_i e2;obtain ⟨hz,f⟩:=f.iff;obtain ⟨a,vs,rfl,_,h1,s1⟩:=r1.lst rh e1;obtain ⟨b,ws,rfl,_,h2,s2⟩:=r2.lst rh e2;rw [s1.length,s2.length] at hz;exact ZrY pins s Z H _ _ v u Q I rx ry ⟨a,b,vs,ws,rfl,rfl,h1,h2,hz,fun p hp=>f.new rh hp ⟨_,Zi,(s1.append s2).mono rh (Gr.lay hp)⟩⟩
         . exact f.elim
       . exact f.elim
     | _=>exact f.elim
   | _=>exact f.elim
 | Sub =>
   obtain ⟨i,j,rfl,rfl,f⟩:=Fin.int2 f;cases r1;cases r2;exact ZrT pins s Z H _ _ v u Q I rx ry ⟨_,_,rfl,rfl,f.ok rh (.int _)⟩
 | Mult =>
   have f:Fin Y (RD Y) H B (Zt2 dx dy h) Q E:=f;cases dx with
   | str z =>
     cases dy with
     | int n =>
       obtain ⟨hz,f⟩:=Fin.iff f;cases r1 with|str _ o1 =>
       cases r2;exact Zpl pins s Z H _ _ v u Q I rx ry ⟨_,_,rfl,rfl,hz.1,hz.2.1,hz.2.2,f.ok rh (.str _ (Zni o1 _))⟩
     | _=>exact f.elim
   | int i =>
     obtain ⟨i,j,e1,rfl,f⟩:=Fin.int2 (show Fin Y (RD Y) H B (IV.int2 (.int i) dy fun i j=>if i.natAbs<2 ^ 2000/\j.natAbs<2 ^ 2000 then .ok (.int (i * j)) h else .bad) Q E from f);cases e1;obtain ⟨hz,f⟩:=f.iff;cases r1;cases r2;exact ZlK pins s Z H _ _ v u Q I rx ry ⟨_,_,rfl,rfl,hz,f.ok rh (.int _)⟩
   | _=>exact f.elim
 | Mod =>
   obtain ⟨i,j,rfl,rfl,f⟩:=Fin.int2 f;obtain ⟨hz,f⟩:=f.iff;cases r1;cases r2;exact ZrV pins s Z H _ _ v u Q I rx ry ⟨_,_,rfl,rfl,hz,f.ok rh (.int _)⟩
 | FloorDiv =>
   obtain ⟨i,j,rfl,rfl,f⟩:=Fin.int2 f;obtain ⟨hz,f⟩:=f.iff;cases r1;cases r2;exact Zpm pins s Z H _ _ v u Q I rx ry ⟨_,_,rfl,rfl,hz,f.ok rh (.int _)⟩
 | Pow =>
   obtain ⟨i,j,rfl,rfl,f⟩:=Fin.int2 f;obtain ⟨hz,f⟩:=f.iff;cases r1;cases r2;exact ZrU pins s Z H _ _ v u Q I rx ry ⟨_,_,rfl,rfl,hz,f.ok rh (.int _)⟩
 | _=>exact f.elim
end
end IV
end
section
namespace IV
open PySem PySem.Spec PyProof.Rows L2
structure Gk(X:Cx)(Y:Yx)(T:Tb):Prop where
 K:Y.K=X.K
 mg:Y.mg=X.mg
 gd:∀ x kvs,T.GD x=some kvs->∃ a kvs',X.mg x=some (.ref a)/\DkK X.prog X.w X.K a kvs'/\∀ H B,RKs Y H B kvs kvs'
 g:∀ x d,T.G x=some d->∃ v u,X.mg x=some u/\RelV v u/\∀ H B,RD Y H B d v
 bare:Zfl X.K=true
section
variable {X:Cx}{Y:Yx}{E:XK}{T:Tb}{H:Hp}{B:List Addr}{h:Hd}
theorem RD.dicOf(G:Gk X Y T)(rh:RH Y H B h){d:D}{v:V}{kvs:List (Key×D)}(r:RD Y H B d v)(e:dicOf T.GD d h=some kvs):∃ a kvs',v=.ref a/\Dk X.prog X.w X.K H a kvs'/\RKs Y H B kvs kvs':=by
 cases d with
 | ref i =>
   unfold IV.dicOf at e;simp only at e;split at e
   . cases e;rename_i q;obtain ⟨a,vs,h1,_,h3,h4⟩:=r.dic rh q;exact ⟨a,vs,h1,.inl (.inl h3),h4⟩
   . cases e;rename_i q;cases r with
     | ref qm =>
       obtain ⟨o,vs,h1,h2⟩:=rh.ob i _ _ q qm;exact ⟨_,vs,rfl,.inl (.inr ⟨o,h1⟩),h2⟩
   . cases e
 | kd x =>
   obtain ⟨a,kvs',h1,h2,h3⟩:=G.gd x kvs e;cases r with
   | kd q =>
     rw [G.mg,h1] at q;cases q;exact ⟨a,kvs',rfl,.inr h2,h3 H B⟩
 | _=>cases e
theorem ZnA{d:D}{v:V}{k:Key}(r:RD Y H B d v)(e:keyOf d=some k):∀ x,k=.inr x->PyData.strOk x=true:=by
 cases d with
 | int i=>cases e;intro x z;cases z
 | str i =>
   cases e;intro x z;cases z;cases r with
   | str _ ok=>exact ok
 | _=>cases e
theorem ZfR{kvs:List (Key×D)}{k:Key}{c:D}(h:Zbm kvs)(hk:∀ x,k=.inr x->PyData.strOk x=true):Zbm (putD kvs k c):=by
 intro p hp x e;unfold putD at hp;split at hp
 . obtain ⟨q,hq,rfl⟩:=List.mem_map.mp hp;refine h q hq x ?_;split at e<;>exact e
 . rcases OD.mp hp with hp|hp
   . exact h p hp x e
   . rw [Ox.mp hp] at e;exact hk x e
theorem Zdl{d:D}{v:V}{k:Key}(r:RD Y H B d v)(e:keyOf d=some k):v=kV k:=by
 cases d with
 | int i=>cases e;cases r;rfl
 | str i=>cases e;cases r;rfl
 | _=>cases e
theorem RKs.valV_rel{ds:List (Key×D)}{vs:List (Key×V)}(s:RKs Y H B ds vs)(k:Key):(Zac ds k=none/\ZdT vs k=none)\/∃ d v,Zac ds k=some d/\ZdT vs k=some v/\RD Y H B d v:=by
 unfold Zac ZdT;rcases s.val k with ⟨h1,h2⟩|⟨d,v,h1,h2,h3⟩
 . exact .inl ⟨by rw [h1];rfl,by rw [h2];rfl⟩
 . exact .inr ⟨d,v,by rw [h1];rfl,by rw [h2];rfl,h3⟩
theorem RKs.any_rel(k:Key):∀ {ds:List (Key×D)}{vs:List (Key×V)},RKs Y H B ds vs->(ds.any fun kv=>decide (kv.1=k))=(vs.any fun kv=>decide (kv.1=k))
 | _,_,.nil=>rfl
 | _,_,.cons a s=>by rw [List.any_cons,List.any_cons,s.any_rel k]
theorem RKs.map_rel(k:Key){d:D}{v:V}(r:RD Y H B d v):∀ {ds:List (Key×D)}{vs:List (Key×V)},RKs Y H B ds vs->RKs Y H B (ds.map fun kv=>if kv.1=k then (kv.1,d) else kv) (vs.map fun kv=>if kv.1=k then (kv.1,v) else kv)
 | _,_,.nil=>.nil
 | _,_,.cons (k:=k') a s=>by
   rw [Op,Op];by_cases e:k'=k
   . rw [if_pos e,if_pos e];exact .cons r (s.map_rel k r)
   . rw [if_neg e,if_neg e];exact .cons a (s.map_rel k r)
theorem RKs.append{κ:Type}:∀ {ds es:List (κ×D)}{vs ws:List (κ×V)},RKs Y H B ds vs->RKs Y H B es ws->RKs Y H B (ds++es) (vs++ws)
 | _,_,_,_,.nil,s=>s
 | _,_,_,_,.cons a r,s=>.cons a (r.append s)
theorem RKs.put{ds:List (Key×D)}{vs:List (Key×V)}(s:RKs Y H B ds vs)(k:Key){d:D}{v:V}(r:RD Y H B d v):RKs Y H B (putD ds k d) (putK vs k v):=by
 unfold putD putK;rw [s.any_rel k];split
 . exact s.map_rel k r
 . exact s.append (.cons r .nil)
mutual
theorem RD.dp(rh:RH Y H B h)(rd:Nat->Option PyData)(hr:∀ i p a,rd i=some p->B[i]? = some a->Dp Y.K H (.ref a) p):∀ {d:D}{v:V}{p:PyData},RD Y H B d v->D.py rd d=some p->Dp Y.K H v p
 | _,_,_,.non,e=>by cases e;exact .non
 | _,_,_,.bl b,e=>by cases e;exact .bl b
 | _,_,_,.int i,e=>by cases e;exact .int i
 | _,_,_,.str x ok,e=>by cases e;exact .str x ok
 | _,_,_,.tup t s,e=>by
   rw [D.py] at e;obtain ⟨ps,e1,rfl⟩:=Oo.mp e;exact .tup t (RDs.dps rh rd hr s e1)
 | _,_,_,.ref q,e=>hr _ _ _ e q
 | _,_,_,.ty n,e=>by cases e
 | _,_,_,.ro t s,e=>by
   rw [D.py] at e;obtain ⟨ps,e1,rfl⟩:=Oo.mp e;exact .lst t.sq (RDs.dps rh rd hr s e1)
 | _,_,_,.kd q,e=>by cases e
theorem RDs.dps(rh:RH Y H B h)(rd:Nat->Option PyData)(hr:∀ i p a,rd i=some p->B[i]? = some a->Dp Y.K H (.ref a) p):∀ {d:List D}{v:List V}{p:List PyData},RDs Y H B d v->D.pys rd d=some p->Dps Y.K H v p
 | _,_,_,.nil,e=>by cases e;exact .nil
 | _,_,_,.cons a s,e=>by
   rw [D.pys] at e;obtain ⟨q,e1,e2⟩:=Option.bind_eq_some_iff.mp e;obtain ⟨qs,e3,rfl⟩:=Oo.mp e2;exact .cons (RD.dp rh rd hr a e1) (RDs.dps rh rd hr s e3)
end
theorem ZkE(rh:RH Y H B h):∀ (n i:Nat) (p:PyData) (a:Addr),Ze0 h n i=some p->B[i]? = some a->Dp Y.K H (.ref a) p
 | 0,i,p,a,e,q=>by cases e
 | n+1,i,p,a,e,q=>by
   rw [Ze0] at e;split at e
   . rename_i xs he;obtain ⟨ps,e1,rfl⟩:=Oo.mp e;obtain ⟨vs,z,s⟩:=rh.ob i _ a he q;exact .lst (.of z) (RDs.dps rh _ (ZkE rh n) s e1)
   . cases e
theorem Zdh(rh:RH Y H B h){d:D}{v:V}{p:PyData}(r:RD Y H B d v)(e:Ze1 h d=some p):Dp Y.K H v p:=r.dp rh _ (ZkE rh 4) e
theorem Zf2{d:D}{v:V}(r:RD Y H B d v)(f:d.flat=true):ZdC v=true:=by cases r<;>first|rfl|cases f
theorem Zey:∀ {ds:List D}{vs:List V},RDs Y H B ds vs->ds.all D.flat=true->vs.all ZdC=true
 | _,_,.nil,_=>rfl
 | _,_,.cons a s,f=>by
   rw [List.all_cons,Oa] at f;rw [List.all_cons,Zf2 a f.1,Zey s f.2];rfl
theorem ZsC{d e:D}{v w:V}(r:RD Y H B d v)(q:RD Y H B e w)(f:d.flat=true)(g:e.flat=true):eqF d e=eqV v w:=by
 cases r<;>cases q<;>first|rfl|exact absurd f (by simp [D.flat])|exact absurd g (by simp [D.flat])
theorem any_rel{e:D}{w:V}(q:RD Y H B e w)(g:e.flat=true):∀ {ds:List D}{vs:List V},RDs Y H B ds vs->ds.all D.flat=true->(ds.any fun z=>eqF z e)=vs.any fun y=>eqV y w
 | _,_,.nil,_=>rfl
 | _,_,.cons a s,f=>by
   rw [List.all_cons,Oa] at f;rw [List.any_cons,List.any_cons,ZsC a q f.1 g,any_rel q g s f.2]
theorem Zpv{k:Nat}(hr:Room k X.A)(h60:60<=k)(hY:Y.K=X.K):OpR X (compareOp .Eq) (rB Y E (Zb1 false)):=by
 intro pins s Z H x y v u Q I rx ry hh;obtain ⟨dx,dy,h,B,rh,r1,r2,f⟩:=hh;unfold Zb1 at f;split at f
 . rename_i e1 e2;obtain ⟨hz,f⟩:=f.iff;have d1:=Zdh rh r1 e1;have d2:=Zdh rh r2 e2;rw [hY] at d1 d2;obtain ⟨as,q1⟩:=I.reads d1 rx;obtain ⟨bs,q2⟩:=I.reads d2 ry;have:=hr.un;exact SeqAt.compareEq_reads q1 q2 d1.lay d2.lay (by omega) ⟨.bl _,H,I,rfl,f.ok rh (.bl _)⟩
 . exact f.elim
theorem Zpq{k:Nat}(hr:Room k X.A)(h60:60<=k)(hY:Y.K=X.K):OpR X (compareOp .NotEq) (rB Y E (Zb1 true)):=by
 intro pins s Z H x y v u Q I rx ry hh;obtain ⟨dx,dy,h,B,rh,r1,r2,f⟩:=hh;unfold Zb1 at f;split at f
 . rename_i e1 e2;obtain ⟨hz,f⟩:=f.iff;have d1:=Zdh rh r1 e1;have d2:=Zdh rh r2 e2;rw [hY] at d1 d2;obtain ⟨as,q1⟩:=I.reads d1 rx;obtain ⟨bs,q2⟩:=I.reads d2 ry;have:=hr.un;exact SeqAt.compareNe_reads q1 q2 d1.lay d2.lay (by omega) ⟨.bl _,H,I,rfl,f.ok rh (.bl _)⟩
 . exact f.elim
theorem Zii{k:Nat}(hr:Room k X.A)(h60:60<=k)(hY:Y.K=X.K):OpR X (compareOp .In) (rB Y E Ze4):=by
 intro pins s Z H x y v u Q I rx ry hh;obtain ⟨dx,dy,h,B,rh,r1,r2,f⟩:=hh;unfold Ze4 at f;split at f
 . rename_i e1 e2;obtain ⟨hz,f⟩:=f.iff;have d1:=Zdh rh r1 e1;have d2:=Zdh rh r2 e2;rw [hY] at d1 d2;obtain ⟨as,q1⟩:=I.reads d1 rx;obtain ⟨bs,q2⟩:=I.reads d2 ry;have:=hr.un;exact SeqAt.in_list_reads q2 q1 d2.lay d1.lay (by omega) ⟨.bl _,H,I,rfl,f.ok rh (.bl _)⟩
 . exact f.elim
theorem Zfa{op:CmpOp}{g:Int->Int->Bool}(ho:OpR X (compareOp op) (rI0 fun i j=>.bl (g i j))):OpR X (compareOp op) (rB Y E (Zhh g)):=by
 intro pins s Z H x y v u Q I rx ry hh;obtain ⟨dx,dy,h,B,rh,r1,r2,f⟩:=hh;unfold Zhh at f;split at f
 . cases r1;cases r2;exact ho pins s Z H _ _ v u Q I rx ry ⟨_,_,rfl,rfl,f.ok rh (.bl _)⟩
 . exact f.elim
theorem ZkN{d:D}{v:V}(r:RD Y H B d v):decide (d=.non)=decide (v=.non):=by
 cases r<;>simp
theorem Zpt:OpR X (compareOp .Is) (rB Y E (opN false)):=by
 intro pins s Z H x y v u Q I rx ry hh;obtain ⟨dx,dy,h,B,rh,r1,r2,f⟩:=hh;unfold opN at f;split at f
 . cases r2;have z:=ZkN r1;simp only [OG,if_false,z] at f;exact ZrW pins s Z H _ _ v u Q I rx ry ⟨rfl,f.ok rh (.bl _)⟩
 . exact f.elim
theorem ZlM:OpR X (compareOp .IsNot) (rB Y E (opN true)):=by
 intro pins s Z H x y v u Q I rx ry hh;obtain ⟨dx,dy,h,B,rh,r1,r2,f⟩:=hh;unfold opN at f;split at f
 . cases r2;have z:=ZkN r1;simp only [if_true,z] at f;exact Zpk pins s Z H _ _ v u Q I rx ry ⟨rfl,f.ok rh (.bl _)⟩
 . exact f.elim
theorem Zpu(G:Gk X Y T):OpR X (compareOp .In) (rB Y E (ZbQ T.GD false)):=by
 intro pins s Z H x y v u Q I rx ry hh;obtain ⟨dx,dy,h,B,rh,r1,r2,f⟩:=hh;unfold ZbQ at f;split at f
 . rename_i xs e1;obtain ⟨hz,f⟩:=f.iff;rw [Oa] at hz;obtain ⟨a,vs,rfl,hs,rs⟩:=r2.seqOf rh e1;have q:=f.ok rh (.bl _);simp only [OG,if_false,any_rel r1 hz.1 rs hz.2] at q;exact ZlL pins s Z H _ _ v u Q I rx ry ⟨a,vs,rfl,G.K ▸ hs,Zf2 r1 hz.1,Zey rs hz.2,q⟩
 . split at f
   . rename_i kvs k e1 e2;obtain ⟨a,kvs',rfl,hd,rk⟩:=r2.dicOf G rh e1;have q:=f.ok rh (.bl _);have z:(Zac kvs k).isSome=(ZdT kvs' k).isSome:=by
       rcases rk.valV_rel k with ⟨h1,h2⟩|⟨d,v,h1,h2,_⟩<;>rw [h1,h2]<;>rfl
     rw [z] at q;exact ZrX pins s Z H _ _ v u Q I rx ry ⟨a,kvs',k,rfl,Zdl r1 e2,hd,q⟩
   . exact f.elim
theorem Zjs(G:Gk X Y T):OpR X (compareOp .NotIn) (rB Y E (ZbQ T.GD true)):=by
 intro pins s Z H x y v u Q I rx ry hh;obtain ⟨dx,dy,h,B,rh,r1,r2,f⟩:=hh;unfold ZbQ at f;split at f
 . rename_i xs e1;obtain ⟨hz,f⟩:=f.iff;rw [Oa] at hz;obtain ⟨a,vs,rfl,hs,rs⟩:=r2.seqOf rh e1;have q:=f.ok rh (.bl _);simp only [if_true,any_rel r1 hz.1 rs hz.2] at q;exact Zhg pins s Z H _ _ v u Q I rx ry ⟨a,vs,rfl,G.K ▸ hs,Zf2 r1 hz.1,Zey rs hz.2,q⟩
 . split at f
   . rename_i kvs k e1 e2;obtain ⟨a,kvs',rfl,hd,rk⟩:=r2.dicOf G rh e1;have q:=f.ok rh (.bl _);have z:(Zac kvs k).isSome=(ZdT kvs' k).isSome:=by
       rcases rk.valV_rel k with ⟨h1,h2⟩|⟨d,v,h1,h2,_⟩<;>rw [h1,h2]<;>rfl
     rw [z] at q;exact ZlJ pins s Z H _ _ v u Q I rx ry ⟨a,kvs',k,rfl,Zdl r1 e2,hd,q⟩
   . exact f.elim
theorem Znd{k:Nat}(hr:Room k X.A)(h60:60<=k)(G:Gk X Y T)(op:CmpOp):OpR X (compareOp op) (rB Y E (opC T.GD op)):=by
 cases op with
 | Eq=>exact Zpv hr h60 G.K
 | NotEq=>exact Zpq hr h60 G.K
 | Lt=>exact Zfa ZtQ
 | LtE=>exact Zfa ZtR
 | Gt=>exact Zfa ZtS
 | GtE=>exact Zfa ZtT
 | Is=>exact Zpt
 | IsNot=>exact ZlM
 | In=>exact Zpu G
 | NotIn=>exact Zjs G
theorem Zpr(G:Gk X Y T):IxR X (rB Y E (ZaS T.GD)):=by
 intro value slice pins s Z H x y v u Q I rx ry hh hs;obtain ⟨dx,dy,h,B,rh,r1,r2,f⟩:=hh;have dict:∀ (kvs:List (Key×D)) (k:Key),dicOf T.GD dx h=some kvs->y=kV k->Fin Y (RD Y) H B (R.ofO (Zac kvs k) h) Q E->wpAny (model X.prog X.w) X.A (subscriptTail value slice v u) (EP X pins Z Q) X.xe s:=by
   intro kvs k e1 ey f;obtain ⟨d,e2,f⟩:=f.ofO;obtain ⟨a,kvs',rfl,hd,rk⟩:=r1.dicOf G rh e1;rcases rk.valV_rel k with ⟨h1,h2⟩|⟨d',w,h1,h2,h3⟩
   . rw [h1] at e2;cases e2
   . rw [h1] at e2;cases e2;exact ZpO value slice pins s Z H _ _ v u Q I rx ry ⟨a,kvs',k,w,rfl,ey,hd,h2,f.ok rh h3⟩ hs
 unfold ZaS at f;split at f
 . rename_i i;cases r2;split at f
   . rename_i xs e1;obtain ⟨d,e2,f⟩:=f.ofO;obtain ⟨a,vs,rfl,hq,rs⟩:=r1.seqOf rh e1;obtain ⟨w,e3,rw'⟩:=rs.atI e2;rcases hq with hq|hq
     . exact ZpN value slice pins s Z H _ _ v u Q I rx ry ⟨a,vs,i,w,rfl,rfl,G.K ▸ hq,e3,f.ok rh rw'⟩ hs
     . exact Zsn value slice pins s Z H _ _ v u Q I rx ry ⟨a,vs,i,w,rfl,rfl,G.K ▸ hq,e3,f.ok rh rw'⟩ hs
   . split at f
     . obtain ⟨hz,f⟩:=f.iff;obtain ⟨d,e2,f⟩:=f.ofO;obtain ⟨c,e3,rfl⟩:=Oo.mp e2;obtain ⟨rfl,ok⟩:=r1.str_inv;exact Zso value slice pins s Z H _ _ v u Q I rx ry ⟨_,i,c,rfl,rfl,hz,e3,f.ok rh (.str _ (Zjt ok (ZpD e3)))⟩ hs
     . split at f
       . rename_i kvs e1;exact dict kvs (.inl i) e1 rfl f
       . exact f.elim
 . rename_i z;obtain ⟨rfl,ok⟩:=r2.str_inv;split at f
   . rename_i kvs e1;exact dict kvs (.inr z) e1 rfl f
   . exact f.elim
 . exact f.elim
theorem Znh{x y:Str}(hx:PyData.strOk x=true)(h:∀ c∈y.cps.toList,c∈x.cps.toList):PyData.strOk y=true:=by
 unfold PyData.strOk at hx ⊢;rw [Array.all_eq_true'] at hx ⊢;intro c hc;exact hx c (by simpa using h c (by simpa using hc))
theorem ZoA{d:D}{v:V}{b:Bool}(hY:Y.K=X.K)(rh:RH Y H B h)(r:RD Y H B d v)(e:ZdU T.GD d h=some b):ZsM X.K v H b:=by
 cases d with
 | non=>cases r;cases e;rfl
 | bl c=>cases r;cases e;rfl
 | int c=>cases r;cases e;rfl
 | str c =>
   cases r;unfold ZdU at e;simp only at e;split at e
   . rename_i hz;cases e;refine ⟨hz,?_⟩;by_cases h0:c.length=0
     . simp [h0]
     . have h1:((c.length:Int) != 0)=true:=by
         simp;omega
       rw [h1];simp [h0]
   . cases e
 | tup xs =>
   obtain ⟨a,vs,rfl,t,s⟩:=r.tup_inv;cases e;exact .inr (.inl ⟨vs,hY ▸ t,by rw [s.isEmpty]⟩)
 | ref i =>
   unfold ZdU at e;simp only at e;split at e
   . rename_i q;cases e;obtain ⟨a,vs,rfl,_,h3,s⟩:=r.lst rh q;exact .inl ⟨vs,.of h3,by rw [s.isEmpty]⟩
   . rename_i q;cases e;obtain ⟨a,vs,rfl,_,h3,s⟩:=r.dic rh q;exact .inr (.inr ⟨vs,h3,by cases s<;>rfl⟩)
   . cases e
 | ro xs =>
   cases e;cases r with
   | ro q s=>exact .inl ⟨_,hY ▸ q.sq,by rw [s.isEmpty]⟩
 | ty n=>cases e
 | kd x=>cases e
end
end IV
end
section
namespace IV
open PySem PySem.Spec PyProof.Rows L2
section
variable {X:Cx}{Y:Yx}{E:XK}{T:Tb}{H:Hp}{B:List Addr}{h:Hd}
noncomputable def rS(Y:Yx)(E:XK):V->Option Int->Option Int->Hp->VK->Prop:=fun x l u H Q=>∃ d h B,RH Y H B h/\RD Y H B d x/\Fin Y (RD Y) H B (Zgj d l u h) Q E
theorem Zfr(y:Str)(l u:Option Int):∀ c∈(StrLaws.sliceText y l u).cps.toList,c∈y.cps.toList:=by
 intro c hc;unfold StrLaws.sliceText at hc;split at hc
 . exact hc
 . simp only [List.mem_filterMap] at hc;obtain ⟨i,_,hi⟩:=hc;have:=Array.mem_of_getElem? hi;simpa using this
theorem Zl7{xs:List D}{lo hi:Option Int}(h:HT.sIx xs.length 0 lo=0/\HT.sIx xs.length xs.length hi=xs.length):cutD xs lo hi=xs:=by
 unfold cutD;rw [h.1,h.2];simp
theorem Zpp(hY:Y.K=X.K):SlR X (rS Y E):=by
 intro pins s Z H x v vl vu lo hi sl Q I rx hs pl pu hh;obtain ⟨d,h,B,rh,r,f⟩:=hh;unfold Zgj at f;split at f
 . rename_i xs;obtain ⟨a,vs,rfl,t,rs⟩:=r.tup_inv;by_cases hw:HT.sIx vs.length 0 lo=0/\HT.sIx vs.length vs.length hi=vs.length
   . rw [Zl7 (by rw [rs.length];exact hw)] at f;exact Zmw pins s Z H _ v vl vu lo hi sl Q I rx hs pl pu ⟨a,vs,rfl,hY ▸ t,hw,f.ok rh (.tup t rs)⟩
   . exact Zrk pins s Z H _ v vl vu lo hi sl Q I rx hs pl pu ⟨a,vs,rfl,hY ▸ t,hw,fun p hp=>f.tup rh hp (rs.cut lo hi)⟩
 . obtain ⟨hz,f⟩:=f.iff;obtain ⟨rfl,ok⟩:=r.str_inv;exact Zrl pins s Z H _ v vl vu lo hi sl Q I rx hs pl pu ⟨_,rfl,hz,f.ok rh (.str _ (Znh ok (Zfr _ _ _)))⟩
 . split at f
   . rename_i xs e1;obtain ⟨a,vs,rfl,hl,rs⟩:=r.lstOf rh e1;exact ZoK pins s Z H _ v vl vu lo hi sl Q I rx hs pl pu ⟨a,vs,rfl,hY ▸ hl,fun p hp=>f.new rh hp ⟨_,Zi,(rs.cut lo hi).mono rh (Gr.lay hp)⟩⟩
   . exact f.elim
noncomputable def rF(Y:Yx)(E:XK)(f:List D->Hd->R D):List V->Hp->VK->Prop:=fun xs H Q=>∃ ds h B,RH Y H B h/\RDs Y H B ds xs/\Fin Y (RD Y) H B (f ds h) Q E
theorem RDs.one{d:D}{xs:List V}(r:RDs Y H B [d] xs):∃ x,xs=[x]/\RD Y H B d x:=by
 cases r with
 | cons a s=>cases s;exact ⟨_,rfl,a⟩
theorem RDs.two{d e:D}{xs:List V}(r:RDs Y H B [d,e] xs):∃ x y,xs=[x,y]/\RD Y H B d x/\RD Y H B e y:=by
 cases r with
 | cons a s=>obtain ⟨y,rfl,b⟩:=s.one;exact ⟨_,_,rfl,a,b⟩
theorem Zqh (hY:Y.K=X.K):Zcp X (.builtin "len") (rF Y E Zkl):=by
 intro pins s Z H xs us Q I r hh;obtain ⟨ds,h,B,rh,rs,f⟩:=hh;unfold Zkl at f;split at f
 . obtain ⟨hz,f⟩:=f.iff;obtain ⟨x,rfl,rd⟩:=rs.one;obtain ⟨rfl,ok⟩:=rd.str_inv;exact ZhH pins s Z H _ us Q I r ⟨_,rfl,hz,f.ok rh (.int _)⟩
 . obtain ⟨e,e1,f⟩:=f.ofO;obtain ⟨zs,e2,rfl⟩:=Oo.mp e1;obtain ⟨x,rfl,rd⟩:=rs.one;obtain ⟨a,vs,rfl,hq,rv⟩:=rd.seqOf rh e2;refine ZhI pins s Z H _ us Q I r ⟨a,vs,rfl,hY ▸ hq,?_⟩;rw [<- rv.length];exact f.ok rh (.int _)
 . exact f.elim
theorem ZpK{K:PySem.W.Frag}{t T:String}{b:Bool}(e:ZjU t T=some b):PySem.W.kitOne K (.type t) (.type T)=some b:=by
 have all:(["int", "str", "bool", "tuple", "list"].all fun T=>["int", "str", "bool", "tuple", "list", "NoneType"].all fun t=>decide (PySem.W.kitOne [] (.type t) (.type T)=some (t==T || (t == "bool" && T == "int"))))=true:=by decide +kernel
 unfold ZjU at e;split at e
 . rename_i hm;cases e;rw [OC] at all;have h1:=all T hm.1;rw [OC] at h1;exact ZlS (of_decide_eq_true (h1 t hm.2))
 . cases e
theorem Zs4{d:D}{v:V}{t:String}(hY:Y.K=X.K)(rh:RH Y H B h)(r:RD Y H B d v)(e:Zs5 d h=some t):TyN X.K v H t:=by
 have lst:(IV.lstOf d h).map (fun _ => "list")=some t->TyN X.K v H t:=fun e=>by
   obtain ⟨xs,e1,rfl⟩:=Oo.mp e;obtain ⟨a,vs,rfl,hl,rs⟩:=r.lstOf rh e1;exact .inl ⟨rfl,vs,hY ▸ hl⟩
 cases d with
 | int i=>cases e;cases r;rfl
 | str i=>cases e;cases r;rfl
 | bl i=>cases e;cases r;rfl
 | non=>cases e;cases r;rfl
 | tup xs =>
   cases e;obtain ⟨a,vs,rfl,t,rs⟩:=r.tup_inv;exact .inr ⟨rfl,vs,hY ▸ t⟩
 | ref i=>exact lst e
 | ro xs=>exact lst e
 | ty n=>exact lst e
 | kd x=>exact lst e
theorem Zqi (hY:Y.K=X.K):Zcp X (.builtin "isinstance") (rF Y E ZsJ):=by
 intro pins s Z H xs us Q I r hh;obtain ⟨ds,h,B,rh,rs,f⟩:=hh;unfold ZsJ at f;split at f
 . obtain ⟨e,e1,f⟩:=f.ofO;obtain ⟨t,e2,e3⟩:=Option.bind_eq_some_iff.mp e1;obtain ⟨b,e4,rfl⟩:=Oo.mp e3;obtain ⟨x,y,rfl,r1,r2⟩:=rs.two;cases r2;exact Zn8 pins s Z H _ us Q I r ⟨x,t,_,b,rfl,Zs4 hY rh r1 e2,ZpK e4,f.ok rh (.bl _)⟩
 . exact f.elim
theorem Zqe (hY:Y.K=X.K):Zcp X (.type "tuple") (rF Y E Zme):=by
 intro pins s Z H xs us Q I r hh;obtain ⟨ds,h,B,rh,rs,f⟩:=hh;unfold Zme at f;split at f
 . obtain ⟨x,rfl,r1⟩:=rs.one;obtain ⟨a,vs,rfl,t,rv⟩:=r1.tup_inv;exact ZdE pins s Z H _ us Q I r ⟨a,vs,rfl,.inr ⟨hY ▸ t,f.ok rh (.tup t rv)⟩⟩
 . obtain ⟨e,e1,f⟩:=f.ofO;obtain ⟨zs,e2,rfl⟩:=Oo.mp e1;obtain ⟨x,rfl,r1⟩:=rs.one;obtain ⟨a,vs,rfl,hl,rv⟩:=r1.lstOf rh e2;exact ZdE pins s Z H _ us Q I r ⟨a,vs,rfl,.inl ⟨hY ▸ hl,fun p hp=>f.tup rh hp rv⟩⟩
 . exact f.elim
theorem ZfX:∀ {ds:List D}{vs:List V}{ns:List Int},RDs Y H B ds vs->intsOf ds=some ns->vs=ns.map V.int
 | _,_,_,.nil,e=>by cases e;rfl
 | _,_,_,.cons (d:=d) a s,e=>by
   cases d with
   | int i =>
     rw [intsOf] at e;obtain ⟨z,e1,rfl⟩:=Oo.mp e;cases a;rw [ZfX s e1];rfl
   | _=>cases e
theorem Zqf (hc:X.A.handled=none) (hY:Y.K=X.K):Zcp X (.builtin "sum") (rF Y E Zoh):=by
 intro pins s Z H xs us Q I r hh;obtain ⟨ds,h,B,rh,rs,f⟩:=hh;unfold Zoh at f;split at f
 . obtain ⟨e,e1,f⟩:=f.ofO;obtain ⟨ns,e2,rfl⟩:=Oo.mp e1;obtain ⟨zs,e3,e4⟩:=Option.bind_eq_some_iff.mp e2;obtain ⟨x,rfl,r1⟩:=rs.one;obtain ⟨a,vs,rfl,hl,rv⟩:=r1.lstOf rh e3;rw [ZfX rv e4] at hl;exact Zmb hc pins s Z H _ us Q I r ⟨a,ns,rfl,hY ▸ hl,f.ok rh (.int _)⟩
 . exact f.elim
noncomputable def rM(Y:Yx)(E:XK)(m:Mf):V->List V->Hp->VK->Prop:=fun x xs H Q=>∃ d ds h B,RH Y H B h/\RD Y H B d x/\RDs Y H B ds xs/\Fin Y (RD Y) H B (Zbo m d ds h) Q E
noncomputable def mid:Mf->String
 | .app => "list.append"
 | .ext => "list.extend"
 | .pop => "list.pop"
 | .rev => "list.reverse"
 | .clr => "list.clear"
theorem ZkQ(hY:Y.K=X.K)(m:Mf):MtM X (mid m) (rM Y E m):=by
 intro pins s Z H x xs v us Q I rx rs hh;obtain ⟨d,ds,h,B,rh,r1,r2,f⟩:=hh;unfold Zbo at f;split at f
 . split at f
   . rename_i i ys e;obtain ⟨a,vs,rfl,hi,hl,rv⟩:=r1.lst rh e;cases m with
     | app =>
       unfold ZfN Znr at f;simp only at f;split at f
       . obtain ⟨hz,f⟩:=f.iff;obtain ⟨y,rfl,ry⟩:=r2.one;have g:Gr H B (upd H a (.lst (vs++[y]))) B:=Gr.write (O1 hi) (by rw [hl];trivial);exact Zeu pins s Z H _ _ v us Q I rx rs ⟨a,vs,y,rfl,rfl,hl,by rw [<- rv.length];exact hz,f.wrote rh hi ⟨_,Zi,(rv.append (.cons ry .nil)).mono rh g⟩ .non (by rw [hl];trivial)⟩
       . exact f.elim
     | ext =>
       unfold ZfN Zsc at f;simp only at f;split at f
       . split at f
         . rename_i zs e2;obtain ⟨hz,f⟩:=f.iff;obtain ⟨y,rfl,ry⟩:=r2.one;obtain ⟨b,ws,rfl,hj,hl2,rw'⟩:=ry.lst rh e2;have g:Gr H B (upd H a (.lst (vs++ws))) B:=Gr.write (O1 hi) (by rw [hl];trivial);exact ZlO pins s Z H _ _ v us Q I rx rs ⟨a,b,vs,ws,rfl,rfl,hl,hl2,by rw [<- rv.length,<- rw'.length];exact hz,f.wrote rh hi ⟨_,Zi,(rv.append rw').mono rh g⟩ .non (by rw [hl];trivial)⟩
         . exact f.elim
       . obtain ⟨hz,f⟩:=f.iff;obtain ⟨y,rfl,ry⟩:=r2.one;obtain ⟨b,ws,rfl,t,rw'⟩:=ry.tup_inv;have g:Gr H B (upd H a (.lst (vs++ws))) B:=Gr.write (O1 hi) (by rw [hl];trivial);exact Zjv pins s Z H _ _ v us Q I rx rs ⟨a,b,vs,ws,rfl,rfl,hl,hY ▸ t,by rw [<- rv.length,<- rw'.length];exact hz,f.wrote rh hi ⟨_,Zi,(rv.append rw').mono rh g⟩ .non (by rw [hl];trivial)⟩
       . exact f.elim
     | pop =>
       unfold ZfN Zsb at f;simp only at f;split at f
       . split at f
         . rename_i y e2;cases r2;rw [rv.length] at e2;obtain ⟨w,e3,rw'⟩:=rv.get e2;have g:Gr H B (upd H a (.lst vs.dropLast)) B:=Gr.write (O1 hi) (by rw [hl];trivial);exact Zr7 pins s Z H _ _ v us Q I rx rs ⟨a,vs,w,rfl,rfl,hl,e3,f.wrote rh hi ⟨_,Zi,rv.dropLast.mono rh g⟩ (rw'.mono rh g) (by rw [hl];trivial)⟩
         . exact f.elim
       . exact f.elim
     | rev =>
       unfold ZfN Zt6 at f;simp only at f;split at f
       . cases r2;have g:Gr H B (upd H a (.lst vs.reverse)) B:=Gr.write (O1 hi) (by rw [hl];trivial);exact Zju pins s Z H _ _ v us Q I rx rs ⟨a,vs,rfl,rfl,hl,f.wrote rh hi ⟨_,Zi,rv.reverse.mono rh g⟩ .non (by rw [hl];trivial)⟩
       . exact f.elim
     | clr =>
       unfold ZfN Zt7 at f;simp only at f;split at f
       . cases r2;exact Zno pins s Z H _ _ v us Q I rx rs ⟨a,vs,rfl,rfl,hl,f.wrote rh hi ⟨_,Zi,.nil⟩ .non (by rw [hl];trivial)⟩
       . exact f.elim
   . exact f.elim
 . exact f.elim
noncomputable def rP(Y:Yx)(E:XK):Zop:=fun o i v H Q=>∃ a b c h B,RH Y H B h/\RD Y H B a o/\RD Y H B b i/\RD Y H B c v/\Fin Y (fun _ _ (_:Unit) (_:Unit)=>True) H B (ZbP a b c h) (fun _ H'=>Q H') E
theorem Zrz:Zqo X (rP Y E):=by
 intro pins s Z H o i v ov iv u Q I ro ri rv hh;obtain ⟨a,b,c,h,B,rh,ra,rb,rc,f⟩:=hh;unfold ZbP at f;split at f
 . split at f
   . rename_i j xs e;split at f
     . split at f
       . rename_i j' e2;obtain ⟨p,vs,rfl,hi,hl,rs⟩:=ra.lst rh e;have hb:=rb.int_inv;subst hb;rw [rs.length] at e2;have g:Gr H B (upd H p (.lst (vs.set j' v))) B:=Gr.write (O1 hi) (by rw [hl];trivial);exact set_list pins s Z H _ _ v ov iv u Q I ro ri rv ⟨p,vs,_,j',rfl,rfl,hl,e2,f.wrote (b:=()) rh hi ⟨_,Zi,(RDs.set rc j' rs).mono rh g⟩ trivial (by rw [hl];trivial)⟩
       . exact f.elim
     . exact f.elim
   . rename_i j kvs e;split at f
     . rename_i k e2;obtain ⟨hz,f⟩:=f.iff;obtain ⟨p,vs,rfl,hi,hl,rs⟩:=ra.dic rh e;have g:Gr H B (upd H p (.dK (putK vs k v))) B:=Gr.write (O1 hi) (by rw [hl];trivial);exact set_dict pins s Z H _ _ v ov iv u Q I ro ri rv ⟨p,vs,k,rfl,Zdl rb e2,hl,by rw [<- rs.length];exact hz,f.wrote (b:=()) rh hi ⟨_,Zi,(rs.put k rc).mono rh g⟩ trivial (by rw [hl];trivial) (ZfR (rh.ks _ _ e) (ZnA rb e2))⟩
     . exact f.elim
   . exact f.elim
 . exact f.elim
end
end IV
end
section
namespace IV
open PySem PySem.Spec PyProof.Rows L2
noncomputable def rW(K:PySem.W.Frag)(x:V)(H1:Hp)(R:It->Hp->Prop):Prop :=
 (∃ a,x=.ref a/\(∃ xs,SqL K H1 a xs)/\R (Itl K a) H1)\/(∃ a,x=.ref a/\(∃ xs,SqT K H1 a xs)/\R (Itt K a) H1)\/(∃ y,x=.str y/\R (Its y) H1)
theorem ZrI{X:Cx}{tg l:Expr}{tl:TE}(hl:PE X l tl):PI X tg l (fun Z H R=>tl Z H fun x H1=>rW X.K x H1 R):=by
 intro pins s Z H R I h;refine thn (hl pins s Z H _ I h) fun v s1 ⟨x,H1,I1,r1,q1⟩=>?_;have fp1:∀ b∈[s1.heap.objs.size],Zdd X pins H1 b:=fun b hb=>by
   have e:b=s1.heap.objs.size:=by simpa using hb
   subst e;exact I1.fpOk (Oq _) (I1.hok.fresh (Oq _))
 rcases q1 with ⟨a,rfl,⟨xs,hq⟩,q⟩|⟨a,rfl,⟨xs,hq⟩,q⟩|⟨y,rfl,q⟩
 . cases r1;obtain ⟨its,rv,p,hz⟩:=I1.list hq;exact wpAny_pyIter_list p.isList ⟨s1.heap.objs.size,[s1.heap.objs.size],_,_,H1,rfl,I1.kept (t':=s1.toks) fun b o e=>Od _ e,Zli a _,⟨_,Oj _ rfl,rfl,rfl⟩,fp1,q⟩
 . cases r1;obtain ⟨its,rv,p,hz⟩:=I1.tuple hq;exact wpAny_pyIter_tuple (show s1.heap.IsTuple a its.toArray from p) ⟨s1.heap.objs.size,[s1.heap.objs.size],_,_,H1,rfl,I1.kept (t':=s1.toks) fun b o e=>Od _ e,Zja a _,⟨_,Oj _ rfl,rfl,rfl⟩,fp1,q⟩
 . obtain ⟨t,rfl⟩:=r1;cases ha:y.cps.all (·<128)
   . exact wpAny_pyIter_wide ha ⟨s1.heap.objs.size,[s1.heap.objs.size],_,_,H1,rfl,I1.kept (t':=s1.toks) fun b o e=>Od _ e,ZhY (t:=t) (fun A' hA=>Walks.strWide hA _ y t) (fun _ _ _ _ _ st h=>wpAny_pyIter_striter_wide st h),⟨_,Oj _ rfl,rfl,rfl⟩,fp1,q⟩
   . exact wpAny_pyIter_ascii ha ⟨s1.heap.objs.size,[s1.heap.objs.size],_,_,H1,rfl,I1.kept (t':=s1.toks) fun b o e=>Od _ e,ZhY (t:=t) (fun A' hA=>Walks.strAscii hA _ y t) (fun _ _ _ _ _ st h=>wpAny_pyIter_striter_ascii st h),⟨_,Oj _ rfl,rfl,rfl⟩,fp1,q⟩
noncomputable def WJ(Y:Yx)(H0:Hp)(μ0:List Addr)(w:Wk)(J:It):Prop:=∀ H B h,Gr H0 μ0 H B->RH Y H B h->Wk.stays w.src h=true ->
 (∀ i d,w.xs[i]? = some d->J.go i H/\∀ x H',J.yld i H x H'->Gr H B H' B/\RH Y H' B h/\RD Y H' B d x)/\J.stop w.xs.length H
section
variable {X:Cx}{Y:Yx}{E:XK}{T:Tb}{H:Hp}{B:List Addr}{h:Hd}
theorem ZqZ{a:Addr}{vs:List V}{xs:List D}(hY:Y.K=X.K)(rh:RH Y H B h)(t:SqT Y.K H a vs)(s:RDs Y H B xs vs):WJ Y H B ⟨none,xs⟩ (Itt X.K a):=by
 intro H1 μ1 h1 g rh1 st;have t1:=g.rdT rh t;have s1:=s.mono rh g;rw [hY] at t1;refine ⟨fun i d e=>?_,⟨vs,t1,by rw [s.length];exact Oq _⟩⟩;obtain ⟨v,e1,r1⟩:=s1.get e;refine ⟨⟨vs,v,t1,e1⟩,fun x H' ⟨eH,q⟩=>?_⟩;subst eH;have:=q vs t1;rw [e1] at this;cases this;exact ⟨Gr.refl,rh1,r1⟩
theorem Zqq{a:Addr}{vs:List V}{xs:List D}(hY:Y.K=X.K)(rh:RH Y H B h)(t:FzL Y.K H a vs)(s:RDs Y H B xs vs):WJ Y H B ⟨none,xs⟩ (Itl X.K a):=by
 intro H1 μ1 h1 g rh1 st;have t1:=(g.rdF rh t).sq;have s1:=s.mono rh g;rw [hY] at t1;refine ⟨fun i d e=>?_,⟨vs,t1,by rw [s.length];exact Oq _⟩⟩;obtain ⟨v,e1,r1⟩:=s1.get e;refine ⟨⟨vs,v,t1,e1⟩,fun x H' ⟨eH,q⟩=>?_⟩;subst eH;have:=q vs t1;rw [e1] at this;cases this;exact ⟨Gr.refl,rh1,r1⟩
theorem Zfp{i:Nat}{xs:List D}{h:Hd}(st:Wk.stays (some (i,xs)) h=true):h[i]? = some (.lst xs):=of_decide_eq_true st
theorem Zmh{i:Nat}{a:Addr}{xs:List D}(hi:B[i]? = some a):WJ Y H B ⟨some (i,xs),xs⟩ (Itl X.K a):=by
 intro H1 μ1 h1 g rh1 st;obtain ⟨vs,hl,s1⟩:=rh1.ob i _ a (Zfp st) (g.pre i a hi);have t1:SqL X.K H1 a vs:=.of hl;refine ⟨fun i d e=>?_,⟨vs,t1,by rw [s1.length];exact Oq _⟩⟩;obtain ⟨v,e1,r1⟩:=s1.get e;refine ⟨⟨vs,v,t1,e1⟩,fun x H' ⟨eH,q⟩=>?_⟩;subst eH;have:=q vs t1;rw [e1] at this;cases this;exact ⟨Gr.refl,rh1,r1⟩
theorem Zq1{lo:Int}{n:Nat}:WJ Y H B ⟨none,Zaz lo n⟩ (Itr lo n):=by
 intro H1 μ1 h1 g rh1 st;have hl:(Zaz lo n).length=n:=by simp [Zaz]
 refine ⟨fun i d e=>?_,by show n<=(Zaz lo n).length;rw [hl];exact Oq _⟩;have hi:i<n:=by
   have:=(Ob.mp e).1;rw [hl] at this;exact this
 refine ⟨hi,fun x H' ⟨eH,q⟩=>?_⟩;subst eH q;have:d=.int (lo+i):=by
   unfold Zaz at e;rw [On,List.getElem?_range hi] at e;exact (Option.some.inj e).symm
 subst this;exact ⟨Gr.refl,rh1,.int _⟩
theorem Zq0{y:Str}(ok:PyData.strOk y=true):WJ Y H B ⟨none,y.cps.toList.map fun c=>.str ⟨#[c]⟩⟩ (Its y):=by
 intro H1 μ1 h1 g rh1 st;have hl:(y.cps.toList.map fun c=>D.str ⟨#[c]⟩).length=y.cps.size:=by simp
 refine ⟨fun i d e=>?_,hl⟩;have hi:i<y.cps.size:=by
   have:=(Ob.mp e).1;rw [hl] at this;exact this
 refine ⟨hi,fun x H' ⟨eH,c,q,ex⟩=>?_⟩;subst eH ex;rw [On,Array.getElem?_toList,q] at e;have:=(Option.some.inj e).symm;subst this;exact ⟨Gr.refl,rh1,.str _ (Zjt ok (by simpa using Array.mem_of_getElem? q))⟩
theorem Zn0{xs:List D}{i:Nat}{d:D}(e:(ZcD xs)[i]? = some d):∃ x,xs[i]? = some x/\d=.tup [.int i,x]:=by
 unfold ZcD at e;rw [List.getElem?_mapIdx] at e;obtain ⟨x,e1,e2⟩:=Oo.mp e;exact ⟨x,e1,e2.symm⟩
theorem Zkp{a:Addr}{src:Option (Nat×List D)}{xs:List D}(hw:WJ Y H B ⟨src,xs⟩ (Itl X.K a))(sq:∀ H1 μ1 h1,Gr H B H1 μ1->RH Y H1 μ1 h1->Wk.stays src h1=true->∃ vs,SqL X.K H1 a vs/\RDs Y H1 μ1 xs vs):WJ Y H B ⟨src,ZcD xs⟩ (Ite X.K a):=by
 intro H1 μ1 h1 g rh1 st;obtain ⟨vs,t1,s1⟩:=sq H1 μ1 h1 g rh1 st;have hl:(ZcD xs).length=xs.length:=by simp [ZcD]
 refine ⟨fun i d e=>?_,⟨vs,t1,by rw [hl,s1.length]⟩⟩;obtain ⟨x0,e0,rfl⟩:=Zn0 e;obtain ⟨v,e1,r1⟩:=s1.get e0;refine ⟨⟨vs,v,t1,e1⟩,fun x H' ⟨p,ex,hp,y,q,eH⟩=>?_⟩;subst ex eH;have:=q vs t1;rw [e1] at this;cases this;exact ⟨Gr.lay0 hp,rh1.lay0 hp,.tup (.inl (.inl Zi)) (.cons (.int _) (.cons (r1.mono rh1 (Gr.lay0 hp)) .nil))⟩
theorem Zq2{a:Addr}{vs:List V}{xs:List D}(hY:Y.K=X.K)(rh:RH Y H B h)(t:SqT Y.K H a vs)(s:RDs Y H B xs vs):WJ Y H B ⟨none,xs.reverse⟩ (Itv X.K a vs.length):=by
 intro H1 μ1 h1 g rh1 st;have t1:=g.rdT rh t;have s1:=(s.mono rh g).reverse;rw [hY] at t1;refine ⟨fun i d e=>?_,⟨vs,t1,rfl,by simp [s.length]⟩⟩;obtain ⟨v,e1,r1⟩:=s1.get e;refine ⟨⟨vs,v,t1,rfl,e1⟩,fun x H' ⟨eH,q⟩=>?_⟩;subst eH;have:=q vs t1;rw [e1] at this;cases this;exact ⟨Gr.refl,rh1,r1⟩
theorem Zor{i:Nat}{a:Addr}{xs:List D}(hi:B[i]? = some a):WJ Y H B ⟨some (i,xs),xs.reverse⟩ (ZsN X.K a xs.length):=by
 intro H1 μ1 h1 g rh1 st;obtain ⟨vs,hl,s0⟩:=rh1.ob i _ a (Zfp st) (g.pre i a hi);have t1:SqL X.K H1 a vs:=.of hl;have s1:=s0.reverse;refine ⟨fun i d e=>?_,⟨vs,t1,s0.length.symm,by simp⟩⟩;obtain ⟨v,e1,r1⟩:=s1.get e;refine ⟨⟨vs,v,t1,s0.length.symm,e1⟩,fun x H' ⟨eH,q⟩=>?_⟩;subst eH;have:=q vs t1;rw [e1] at this;cases this;exact ⟨Gr.refl,rh1,r1⟩
theorem Zq3{a:Addr}{vs:List V}{xs:List D}(hY:Y.K=X.K)(rh:RH Y H B h)(t:SqT Y.K H a vs)(s:RDs Y H B xs vs):WJ Y H B ⟨none,ZdK xs⟩ (It1 X.K a):=by
 intro H1 μ1 h1 g rh1 st;have t1:=g.rdT rh t;have s1:=s.mono rh g;rw [hY] at t1;have hl:(ZdK xs).length=xs.length:=by simp [ZdK]
 refine ⟨fun i d e=>?_,⟨vs,t1,by rw [hl,s1.length]⟩⟩;have:∃ x0,xs[i]? = some x0/\d=.tup [.int ((i+1:Nat):Int),x0]:=by
   unfold ZdK at e;rw [List.getElem?_mapIdx] at e;obtain ⟨x,e1,e2⟩:=Oo.mp e;exact ⟨x,e1,e2.symm⟩
 obtain ⟨x0,e0,rfl⟩:=this;obtain ⟨v,e1,r1⟩:=s1.get e0;refine ⟨⟨vs,v,t1,e1⟩,fun x H' ⟨p,ex,hp,y,q,eH⟩=>?_⟩;subst ex eH;have:=q vs t1;rw [e1] at this;cases this;exact ⟨Gr.lay0 hp,rh1.lay0 hp,.tup (.inl (.inl Zi)) (.cons (.int _) (.cons (r1.mono rh1 (Gr.lay0 hp)) .nil))⟩
theorem RKs.keys:∀ {kvs:List (Key×D)}{kvs':List (Key×V)},RKs Y H B kvs kvs'->kvs.map (·.1)=kvs'.map (·.1)
 | _,_,.nil=>rfl
 | _,_,.cons a s=>by rw [Op,Op,s.keys]
theorem Zqr{a:Addr}{o:Obj}{kvs:List (Key×D)}{kvs':List (Key×V)}(ea:H a=some (.frz o (.dK kvs')))(s:RKs Y H B kvs kvs')(ok:Zbm kvs):WJ Y H B ⟨none,kvs.map fun p=>ZnB p.1⟩ (Itd a o kvs'):=by
 intro H1 μ1 h1 g rh1 st;have e1:=g.fz a _ _ ea;have hl:=s.length;refine ⟨fun i d e=>?_,⟨e1,by simp [hl]⟩⟩;simp only [On] at e;obtain ⟨p,ep,rfl⟩:=Oo.mp e;have hi:i<kvs.length:=(Ob.mp ep).1;refine ⟨⟨e1,by omega⟩,fun x H' ⟨eH,k,v,ek,ex⟩=>?_⟩;subst eH ex;have hk:p.1=k:=by
   have q:=congrArg (fun l=>l[i]?) s.keys;simp only [On,ep,ek,Option.map_some] at q;exact Option.some.inj q
 refine ⟨Gr.refl,rh1,?_⟩;have okp:=ok p (O1 ep);rw [hk] at okp ⊢;cases k with
 | inl i=>exact .int _
 | inr x=>exact .str _ (okp x rfl)
theorem Zsv{d:D}{x:V}{R:It->Hp->Prop}{E:XK}(rh:RH Y H B h)(r:RD Y H B d x)(f:Fin Y (WJ Y) H B (ZnQ d h) R E) :
   ∃ a kvs,x=.ref a/\((H a=some (.dK kvs)/\∀ o,R (Itd a o kvs) (upd H a (.frz o (.dK kvs))))\/∃ o,H a=some (.frz o (.dK kvs))/\R (Itd a o kvs) H):=by
 cases d with
 | ref i =>
   unfold ZnQ at f;simp only at f;split at f
   . rename_i kvs e;obtain ⟨a,vs,rfl,hi,hl,s⟩:=r.dic rh e;have nf:NF (H a):=by rw [hl];trivial
     refine ⟨a,vs,rfl,.inl ⟨hl,fun o=>?_⟩⟩;have g:Gr H B (upd H a (.frz o (.dK vs))) B:=Gr.write (O1 hi) nf;exact f.at g (rh.write hi ⟨o,vs,Zi,s.mono rh g⟩ nf (show Zbm kvs from rh.ks _ _ e)) (Zqr Zi (s.mono rh g) (show Zbm kvs from rh.ks _ _ e))
   . rename_i kvs e;cases r with
     | ref q =>
       obtain ⟨o,vs,h1,s⟩:=rh.ob i _ _ e q;exact ⟨_,vs,rfl,.inr ⟨o,h1,f.ok rh (Zqr h1 s (rh.ks _ _ e))⟩⟩
   . exact f.elim
 | _=>exact f.elim
theorem Zov{d:D}{x:V}{w:Wk}{R:It->Hp->Prop}(hY:Y.K=X.K)(rh:RH Y H B h)(r:RD Y H B d x)(e:Zan d h=some w)(q:∀ J,WJ Y H B w J->R J H):rW X.K x H R:=by
 cases d with
 | tup xs =>
   cases e;obtain ⟨a,vs,rfl,t,s⟩:=r.tup_inv;exact .inr (.inl ⟨a,rfl,⟨vs,hY ▸ t⟩,q _ (ZqZ hY rh t s)⟩)
 | ro xs =>
   cases e;cases r with
   | ro t s=>exact .inl ⟨_,rfl,⟨_,hY ▸ t.sq⟩,q _ (Zqq hY rh t s)⟩
 | ref i =>
   unfold Zan at e;simp only at e;split at e
   . rename_i xs he;cases e;obtain ⟨a,vs,rfl,hi,hl,s⟩:=r.lst rh he;exact .inl ⟨a,rfl,⟨vs,.of hl⟩,q _ (Zmh hi)⟩
   . cases e
 | str y =>
   unfold Zan at e;simp only at e;split at e
   . cases e;obtain ⟨rfl,ok⟩:=r.str_inv;exact .inr (.inr ⟨y,rfl,q _ (Zq0 ok)⟩)
   . cases e
 | _=>cases e
end
end IV
end
section
namespace IV
open PySem PySem.Spec PyProof.Rows L2
structure Kl where
 cs:List Str
 ats:List Str
 ms:List (Str×Str)
 is:List Str
 xs:List Str:=[]
structure Gm where
 N:List Str
 sc:Scope
 fs:List Str
 top:Bool
 kl:Kl
noncomputable def glb (Γ:Gm) (x:Str):Bool:=decide (Γ.sc.names.lookup x=some .globalImplicit)&&!(x==("__debug__" : Str))
noncomputable def Zox(sc:Scope)(x:Str):Bool:=decide (sc.names.lookup x=some .local) || decide (sc.names.lookup x=some .cell) || decide (sc.names.lookup x=some .free)
noncomputable def Zod:Bf->Str
 | .len => "len" | .isi => "isinstance" | .int => "int" | .tup => "tuple" | .lst => "list" | .sum => "sum" | .all => "all" | .srt => "sorted" | .mx => "max"
noncomputable def bok:Bf->Bool
 | .mx=>false
 | .lst=>false
 | .int=>false
 | .all=>false
 | _=>true
noncomputable def ZqF:Mf->Str
 | .app => "append" | .ext => "extend" | .pop => "pop" | .rev => "reverse" | .clr => "clear"
noncomputable def Zkt:List String:=["int", "str", "bool", "tuple", "list"]
noncomputable def asName:Expr->Option Str
 | .Name x _=>some x
 | _=>none
noncomputable def Zoj:Expr->Option (List Expr)
 | .Tuple es _ _=>some es
 | _=>none
noncomputable def ZqW:Expr->Option Const
 | .Constant c _ _=>some c
 | _=>none
theorem ZdQ{e:Expr}{x:Str}(h:asName e=some x):∃ p,e=.Name x p:=by
 cases e with
 | Name y p=>cases h;exact ⟨p,rfl⟩
 | _=>cases h
theorem ZgV{e:Expr}{es:List Expr}(h:Zoj e=some es):∃ k p,e=.Tuple es k p:=by
 cases e with
 | Tuple es k p=>cases h;exact ⟨k,p,rfl⟩
 | _=>cases h
theorem ZgW{e:Expr}{c:Const}(h:ZqW e=some c):∃ k p,e=.Constant c k p:=by
 cases e with
 | Constant c k p=>cases h;exact ⟨k,p,rfl⟩
 | _=>cases h
noncomputable def Zuz:D->Const->Bool
 | .int i,.int j=>decide (i=j)
 | .str x,.str y=>decide (x=y)&&PyData.strOk y
 | .bl b,.bool c=>decide (b=c)
 | .non,.none=>true
 | _,_=>false
noncomputable def Zma(Γ:Gm)(d:D)(e:Expr):Bool:=match ZqW e with
 | some c=>Zuz d c
 | none=>match d with
   | .ty n=>match asName e with
     | some x=>decide (n∈Zkt)&&decide (Str.ofString n=x)&&glb Γ x
     | none=>false
   | _=>false
noncomputable def Zn5(NC N:List Str)(js:List (Option Nat))(sc scope:Scope):Bool :=
 decide (scope.kind=.function)&&decide (sc.kind=.function)&&(scope.names.all fun y=>decide (y.2≠.cell))&&(scope.names.all fun y=>!decide (y.2=.local) || decide (scope.names.lookup y.1=some .local)) &&
   (scope.names.all fun y=>!decide (y.2=.free) || decide (sc.names.lookup y.1=some .cell))&&decide NC.Nodup&&decide (js.length=NC.length) &&
   ((NC.zip js).all fun p=>p.2.all fun j=>decide (N[j]? = some p.1)&&decide (scope.names.lookup p.1=some .free))
theorem ZiR{NC N:List Str}{js:List (Option Nat)}{sc scope:Scope}(h:Zn5 NC N js sc scope=true):CompSc NC N js sc scope:=by
 unfold Zn5 at h;rw [Oa,Oa,Oa,Oa,Oa,Oa,Oa] at h;obtain ⟨⟨⟨⟨⟨⟨⟨a,b⟩,c⟩,d⟩,e⟩,f⟩,g⟩,i⟩:=h;rw [OC] at c d e;refine ⟨of_decide_eq_true a,of_decide_eq_true b,fun y hy=>of_decide_eq_true (c y hy),fun y hy e1=>?_,fun y hy e1=>?_,of_decide_eq_true f,of_decide_eq_true g,i⟩
 . have:=d y hy;rw [decide_eq_true e1] at this;simpa using this
 . have:=e y hy;rw [decide_eq_true e1] at this;simpa using this
noncomputable def Zim(N:List Str)(own:Str->Bool)(i:Nat)(e:Expr):Bool:=match asName e with
 | some x=>decide (N[i]? = some x)&&own x
 | none=>false
noncomputable def Zei(N:List Str)(own:Str->Bool):List Nat->List Expr->Bool
 | [],[]=>true
 | i::is,e::es=>Zim N own i e&&Zei N own is es
 | _,_=>false
noncomputable def Zn7(N:List Str)(own:Str->Bool)(i j:Nat)(e:Expr):Bool:=match Zoj e with
 | some [a,b]=>Zim N own i a&&Zim N own j b
 | _=>false
noncomputable def Zn6(N:List Str)(own:Str->Bool)(is:List Nat)(e:Expr):Bool:=match Zoj e with
 | some es=>Zei N own is es
 | none=>false
noncomputable def Zka(N:List Str)(own:Str->Bool)(g:Tg)(e:Expr):Bool:=match g with
 | .nm i=>Zim N own i e
 | .two i j=>Zn7 N own i j e
 | .many is=>Zn6 N own is e
theorem Za3{N:List Str}{own:Str->Bool}{i:Nat}{e:Expr}(h:Zim N own i e=true):∃ x p,e=.Name x p/\N[i]? = some x/\own x=true:=by
 unfold Zim at h;cases q:asName e with
 | none=>rw [q] at h;cases h
 | some x =>
   rw [q] at h;rw [Oa] at h;obtain ⟨p,rfl⟩:=ZdQ q;exact ⟨x,p,rfl,of_decide_eq_true h.1,h.2⟩
theorem Zg0{N:List Str}{own:Str->Bool}{i j:Nat}{e:Expr}(h:Zka N own (.two i j) e=true):∃ x p y q k r,e=.Tuple [.Name x p,.Name y q] k r/\(N[i]? = some x/\own x=true)/\N[j]? = some y/\own y=true:=by
 replace h:Zn7 N own i j e=true:=h
 unfold Zn7 at h;split at h
 . rename_i a b q;rw [Oa] at h;obtain ⟨k,r,rfl⟩:=ZgV q;obtain ⟨x,p,rfl,e1⟩:=Za3 h.1;obtain ⟨y,p2,rfl,e2⟩:=Za3 h.2;exact ⟨x,p,y,p2,k,r,rfl,e1,e2⟩
 . cases h
theorem ZfO{N:List Str}{own:Str->Bool}{is:List Nat}{e:Expr}(h:Zka N own (.many is) e=true):∃ es k r,e=.Tuple es k r/\Zei N own is es=true:=by
 replace h:Zn6 N own is e=true:=h
 unfold Zn6 at h;split at h
 . rename_i es q;obtain ⟨k,r,rfl⟩:=ZgV q;exact ⟨es,k,r,rfl,h⟩
 . cases h
noncomputable def isTup:Expr->Bool
 | .Tuple _ _ _=>true
 | _=>false
noncomputable def tgk:Tg->Nat
 | .nm i=>i+1
 | .two i j=>max i j+1
 | .many is=>is.foldr max 0+1
noncomputable def Zvt(sc:Scope)(x:Str):Bool:=decide (sc.names.lookup x=some .local)
noncomputable def ownD(sc:Scope)(x:Str):Bool:=decide (sc.names.lookup x=some .local) || decide (sc.names.lookup x=some .cell)
noncomputable def ZcP:Expr->Bool
 | .Set _ _ _=>false
 | _=>true
noncomputable def ZfM:Expr->Bool
 | .Slice _ _ _ _=>false
 | _=>true
noncomputable def Z7:Expr->Bool
 | .Starred _ _=>false
 | _=>true
noncomputable def ZcQ:Expr->Bool
 | .Call _ [] _ _=>false
 | _=>true
noncomputable def Zjp:Expr->Bool
 | .BoolOp _ _ _|.UnaryOp _ _ _|.IfExp _ _ _ _|.NamedExpr _ _ _=>false
 | _=>true
mutual
noncomputable def chk(Γ:Gm):Ex->Expr->Bool
 | .var i,e=>match e with
   | .Name x _=>decide (Γ.N[i]? = some x)&&Zox Γ.sc x&&!(x==("__debug__" : Str))&&!(x==("__classdict__" : Str))
   | _=>false
 | .cst d,e=>Zma Γ d e
 | .glo x,e=>match e with
   | .Name y _=>decide (x=y)&&glb Γ x
   | _=>false
 | .bin op a b,e=>match e with
   | .BinOp l op' r _=>decide (op=op')&&chk Γ a l&&chk Γ b r
   | _=>false
 | .cmp op a b,e=>match e with
   | .Compare l [op'] [r] _=>decide (op=op')&&chk Γ a l&&chk Γ b r&&ZcP r
   | _=>false
 | .cmp2 _ _ _ _ _,_=>false
 | .neg a,e=>match e with
   | .UnaryOp .USub x _=>chk Γ a x
   | _=>false
 | .nt a,e=>match e with
   | .UnaryOp .Not x _=>chk Γ a x
   | _=>false
 | .ands es,e=>match e with
   | .BoolOp .And xs _=>chks Γ es xs
   | _=>false
 | .ors es,e=>match e with
   | .BoolOp .Or xs _=>chks Γ es xs
   | _=>false
 | .ite c a b,e=>match e with
   | .IfExp t x y _=>chkt Γ c t&&chk Γ a x&&chk Γ b y
   | _=>false
 | .tupl es,e=>match e with
   | .Tuple xs _ _=>chks Γ es xs
   | _=>false
 | .lstl es,e=>match e with
   | .List xs _=>chks Γ es xs
   | _=>false
 | .ix a i,e=>match e with
   | .Subscript x y _=>chk Γ a x&&chk Γ i y&&ZfM y
   | _=>false
 | .sl a lo hi,e=>match e with
   | .Subscript x (.Slice l u none _) _=>chk Γ a x&&chko Γ lo l&&chko Γ hi u
   | _=>false
 | .blt f es,e=>match e with
   | .Call (.Name x _) (y::ys) [] _=>decide (x=Zod f)&&(bok f&&glb Γ x)&&chks Γ es (y::ys)
   | _=>false
 | .call f es,e=>match e with
   | .Call (.Name x _) (y::ys) [] _=>decide (x=f)&&decide (f∈Γ.fs)&&glb Γ x&&chks Γ es (y::ys)
   | _=>false
 | .meth m o es,e=>match e with
   | .Call (.Attribute x n ap) ys [] cp=>decide (n=ZqF m)&&chk Γ o x&&ZcQ x&&chks Γ es ys&&decide (ys.length<29)&&(ap.endLine==cp.line)
   | _=>false
 | .trev _,_=>false
 | .lrv _,_=>false
 | .tix _ _,_=>false
 | .lix _ _,_=>false
 | .lin a b,e=>match e with
   | .Compare l [op'] [r] _=>decide (CmpOp.In=op')&&chk Γ a l&&chk Γ b r&&ZcP r
   | _=>false
 | .comp NC js it g c e,x=>match x with
   | .ListComp elt [⟨tg,iter,ifs,0⟩] scope _=>Γ.top&&Zn5 NC Γ.N js Γ.sc scope&&chki Γ it tg iter&&ZcP iter&&Zka NC (Zvt scope) g tg&&((List.range (tgk g)).all fun j=>decide (js[j]? = some none)) &&
       chkf ⟨NC,scope,Γ.fs,false,Γ.kl⟩ c ifs&&chk ⟨NC,scope,Γ.fs,false,Γ.kl⟩ e elt
   | _=>false
 | .sorts _,_=>false
 | .maxd a d,e=>match e with
   | .Call (.Name x _) [y] [⟨some n,z,_⟩] _=>decide (x = "max")&&decide (n = "default")&&glb Γ x&&chk Γ a y&&Z7 y&&chk Γ d z
   | _=>false
 | .dictl ps,e=>match e with
   | .Dict keys values _=>decide (keys.length<=15)&&chkp Γ ps keys values
   | _=>false
 | .att Cs o f,e=>match e with
   | .Attribute x n _=>decide (n=f)&&chk Γ o x&&ZcQ x&&(Cs.all fun C=>decide (C∈Γ.kl.cs))&&decide (f∈Γ.kl.ats)
   | _=>false
 | .mk C es,e=>match e with
   | .Call (.Name x _) ys [] _=>decide (x=C)&&decide (C∈Γ.kl.is)&&glb Γ x&&chks Γ es ys
   | _=>false
 | .mcl C m o es,e=>match e with
   | .Call (.Attribute x n ap) ys [] cp=>decide (n=m)&&chk Γ o x&&ZcQ x&&chks Γ es ys&&decide ((C,m)∈Γ.kl.ms)&&decide (ys.length<29)&&(ap.endLine==cp.line)
   | _=>false
 | .any,e=>match e with
   | .Compare _ _ _ _=>false
   | _=>true
noncomputable def chks(Γ:Gm):Exs->List Expr->Bool
 | .nil,es=>es.isEmpty
 | .cons e r,es=>match es with
   | x::xs=>chk Γ e x&&Z7 x&&chks Γ r xs
   | []=>false
noncomputable def chkp(Γ:Gm):Exs->List (Option Expr)->List Expr->Bool
 | .nil,ks,vs=>ks.isEmpty&&vs.isEmpty
 | .cons k r,ks,vs=>match r with
   | .cons v r'=>match ks,vs with
     | some kx::ks,vx::vs=>chk Γ k kx&&chk Γ v vx&&chkp Γ r' ks vs
     | _,_=>false
   | .nil=>false
noncomputable def chko(Γ:Gm):Option Ex->Option Expr->Bool
 | none,x=>x.isNone
 | some a,x=>match x with
   | some x=>chk Γ a x
   | none=>false
noncomputable def chkf(Γ:Gm):Option Tx->List Expr->Bool
 | none,x=>x.isEmpty
 | some a,x=>match x with
   | [x]=>chkt Γ a x
   | _=>false
noncomputable def chkt(Γ:Gm):Tx->Expr->Bool
 | .ex e,x=>Zjp x&&chk Γ e x
 | .ands ts,x=>match x with
   | .BoolOp .And xs _=>chkts Γ ts xs
   | _=>false
 | .ors ts,x=>match x with
   | .BoolOp .Or xs _=>chkts Γ ts xs
   | _=>false
 | .nt t,x=>match x with
   | .UnaryOp .Not y _=>chkt Γ t y
   | _=>false
noncomputable def chkts(Γ:Gm):Txs->List Expr->Bool
 | .one t,xs=>match xs with
   | [x]=>chkt Γ t x
   | _=>false
 | .cons t ts,xs=>match xs with
   | x::y::r=>chkt Γ t x&&chkts Γ ts (y::r)
   | _=>false
noncomputable def chki(Γ:Gm):Ix->Expr->Expr->Bool
 | .pl e,_,x=>chk Γ e x
 | .rng e,_,x=>match x with
   | .Call (.Name f _) [y] [] _=>decide (f = "range")&&glb Γ f&&chk Γ e y&&Z7 y
   | _=>false
 | .rng2 _ _,_,_=>false
 | .enu e,tg,x=>match x with
   | .Call (.Name f _) [y] [] _=>decide (f = "enumerate")&&glb Γ f&&chk Γ e y&&Z7 y&&isTup tg
   | _=>false
 | .rev e,_,x=>match x with
   | .Call (.Name f _) [y] [] _=>decide (f = "reversed")&&glb Γ f&&chk Γ e y&&Z7 y
   | _=>false
 | .en1 e,tg,x=>match x with
   | .Call (.Name f _) [y] [⟨some kw,.Constant (.int 1) _ _,_⟩] _=>decide (f = "enumerate")&&decide (kw = "start")&&glb Γ f&&chk Γ e y&&Z7 y&&isTup tg
   | _=>false
 | .en0 _,_,_=>false
 | .dk e,_,x=>chk Γ e x
end
end IV
end
section
namespace IV
open PySem PySem.Spec PyProof.Rows L2
noncomputable def leS(a b:Str):Prop:=¬ b.cps.toList<a.cps.toList
theorem ZgJ{a b c:Str}(h:leS a b)(q:leS b c):leS a c:=by
 unfold leS at *;rw [List.not_lt] at *;exact List.le_trans h q
theorem Znu{a b:Str}(h:leS a b)(q:leS b a):a=b:=by
 unfold leS at *;rw [List.not_lt] at *;have e:=List.le_antisymm h q;obtain ⟨⟨a⟩⟩:=a;obtain ⟨⟨b⟩⟩:=b;simp at e;subst e;rfl
theorem Zh1:∀ {ss:List Str},sortedS ss=true->ss.Pairwise leS:=by
 have gen:∀ (r:List Str) (p:Str),risingS p r=true->(∀ x∈r,leS p x)/\r.Pairwise leS:=by
   intro r;induction r with
   | nil=>intro p _;exact ⟨by simp,.nil⟩
   | cons x r ih =>
     intro p h;rw [risingS,Oa] at h;obtain ⟨h1,h2⟩:=ih x h.2;have hx:leS p x:=by
       have:=h.1;rw [ltCps_eq] at this;unfold leS;simpa using this
     refine ⟨fun y hy=>?_,.cons h1 h2⟩;rcases O2.mp hy with rfl|hy
     . exact hx
     . exact ZgJ hx (h1 y hy)
 intro ss h;cases ss with
 | nil=>exact .nil
 | cons x r=>obtain ⟨h1,h2⟩:=gen r x h;exact .cons h1 h2
theorem ZfI(x:Str):∀ r:List Str,(Zlz x r).Perm (x::r)
 | []=>.refl _
 | y::r=>by
   unfold Zlz;split
   . exact ((ZfI x r).cons y).trans (.swap x y r)
   . exact .refl _
theorem Zdf:∀ r:List Str,(Zca r).Perm r
 | []=>.refl _
 | x::r=>(ZfI x _).trans ((Zdf r).cons x)
theorem Zid(x:Str):∀ r:List Str,r.Pairwise leS->(Zlz x r).Pairwise leS
 | [],_=>.cons (by simp) .nil
 | y::r,h=>by
   cases h with
   | cons h1 h2 =>
     unfold Zlz;split
     . rename_i hlt;rw [ltCps_eq] at hlt;have hlt:=of_decide_eq_true hlt;refine .cons (fun z hz=>?_) (Zid x r h2);rcases O2.mp ((ZfI x r).mem_iff.mp hz) with rfl|hz
       . unfold leS;rw [List.not_lt];exact List.le_of_lt hlt
       . exact h1 z hz
     . rename_i hlt;have hxy:leS x y:=by
         unfold leS;rw [ltCps_eq] at hlt;simpa using hlt
       refine .cons (fun z hz=>?_) (.cons h1 h2);rcases O2.mp hz with rfl|hz
       . exact hxy
       . exact ZgJ hxy (h1 z hz)
theorem Zgx:∀ r:List Str,(Zca r).Pairwise leS
 | []=>.nil
 | x::r=>Zid x _ (Zgx r)
theorem Zlp{ss ss':List Str}(hp:ss'.Perm ss)(hs:sortedS ss'=true):ss'=Zca ss :=
 (hp.trans (Zdf ss).symm).eq_of_pairwise (fun _ _ _ _ h q=>Znu h q) (Zh1 hs) (Zgx ss)
section
variable {X:Cx}{Y:Yx}{E:XK}{T:Tb}{H:Hp}{B:List Addr}{h:Hd}
theorem ZeT:∀ {ds:List (Key×D)}{vs:List (Key×V)}{ss:List Str},RKs Y H B ds vs->Zdk ds=some ss->vs.map (·.1)=ss.map Sum.inr
 | _,_,_,.nil,e=>by cases e;rfl
 | _,_,_,.cons (k:=k) a s,e=>by
   cases k with
   | inl i=>cases e
   | inr x =>
     rw [Zdk] at e;obtain ⟨z,e1,rfl⟩:=Oo.mp e;rw [Op,Op,ZeT s e1]
theorem Zkz:∀ (ss:List Str),(∀ x∈ss,PyData.strOk x=true)->RDs Y H B (ss.map D.str) (ss.map V.str)
 | [],_=>.nil
 | x::r,h=>.cons (.str x (h x (by simp))) (Zkz r fun y hy=>h y (by simp [hy]))
theorem Zqg (hc:X.A.handled=none) (G:Gk X Y T):Zcp X (.builtin "sorted") (rF Y E (Zek T.GD)):=by
 intro pins s Z H xs us Q I r hh;obtain ⟨ds,h,B,rh,rs,f⟩:=hh;unfold Zek at f;split at f
 . split at f
   . rename_i ss e2;obtain ⟨hz,f⟩:=f.iff;obtain ⟨kvs,e3,e4⟩:=Option.bind_eq_some_iff.mp e2;obtain ⟨x,rfl,r1⟩:=rs.one;obtain ⟨a,kvs',rfl,hd,rk⟩:=r1.dicOf G rh e3;obtain ⟨hz,hok⟩:=hz;refine ZhG hc pins s Z H _ us Q I r ⟨a,kvs',ss,rfl,hd,ZeT rk e4,hz,fun p ss' hp h1 h2=>?_⟩;rw [Zlp h1 h2];refine f.new rh hp ⟨_,Zi,Zkz _ fun y hy=>?_⟩;rw [OC] at hok;exact hok y ((Zdf ss).mem_iff.mp hy)
   . exact f.elim
 . exact f.elim
end
end IV
end
section
set_option tactic.hygienic false
namespace IV
open PySem PySem.Spec PyProof.Rows L2
noncomputable def RS(Y:Yx)(H:Hp)(B:List Addr)(S:Ev)(Z:L2.St):Prop:=Z.length=S.length/\∀ (i:Nat) (d:D),S[i]? = some (some d)->∃ v,Z[i]? = some (some v)/\RD Y H B d v
section
variable {Y:Yx}{H H':Hp}{B μ':List Addr}{h:Hd}{S:Ev}{Z:L2.St}
theorem RS.mono(rh:RH Y H B h)(g:Gr H B H' μ')(r:RS Y H B S Z):RS Y H' μ' S Z:=⟨r.1,fun i d e=>let ⟨v,h1,h2⟩:=r.2 i d e;⟨v,h1,h2.mono rh g⟩⟩
theorem RS.var(r:RS Y H B S Z){i:Nat}{d:D}(e:(S[i]?).join=some d):∃ v,Z[i]? = some (some v)/\RD Y H B d v:=by
 refine r.2 i d ?_;cases q:S[i]? with
 | none=>rw [q] at e;cases e
 | some o=>rw [q] at e;cases o with
   | none=>cases e
   | some d'=>cases e;rfl
theorem RS.set(r:RS Y H B S Z){i:Nat}{d:D}{v:V}(q:RD Y H B d v):RS Y H B (S.set i (some d)) (Z.set i (some v)):=by
 refine ⟨by simp [r.1],fun j e he=>?_⟩;by_cases hj:i=j
 . subst hj;have hl:i<S.length:=by
     have:=(Ob.mp he).1;simpa using this
   rw [Ol hl] at he;cases he;exact ⟨v,by rw [Ol (by rw [r.1];exact hl)],q⟩
 . rw [Oc hj] at he;obtain ⟨w,h1,h2⟩:=r.2 j e he;exact ⟨w,by rw [Oc hj];exact h1,h2⟩
theorem RS.capt(r:RS Y H B S Z)(js:List (Option Nat)):RS Y H B (Zbp js S) (capt js Z):=by
 refine ⟨by simp [Zbp,L2.capt],fun i d e=>?_⟩;unfold Zbp at e;unfold L2.capt;rw [On] at e ⊢;cases q:js[i]? with
 | none=>rw [q] at e;cases e
 | some o =>
   rw [q] at e;cases o with
   | none=>cases e
   | some j =>
     have e':(S[j]?).join=some d:=by simpa using e
     obtain ⟨v,h1,h2⟩:=r.var e';exact ⟨v,by simp [h1],h2⟩
end
section
variable (T:Tb) (Y:Yx) (E:XK)
noncomputable def Zbq(e:Ex):TE:=fun Z H Q=>∃ S h B,RH Y H B h/\RS Y H B S Z/\Fin Y (RD Y) H B (ev T e S h) Q E
noncomputable def ZoM(e:Exs):TA:=fun Z H Q=>∃ S h B,RH Y H B h/\RS Y H B S Z/\Fin Y (RDs Y) H B (evs T e S h) Q E
noncomputable def Zlr(e:Tx):TT:=fun Z H Q=>∃ S h B,RH Y H B h/\RS Y H B S Z/\Fin Y (fun _ _ (a b:Bool)=>a=b) H B (tst T e S h) Q E
noncomputable def Zvb(e:Option Ex):TO:=fun Z H Q=>∃ S h B,RH Y H B h/\RS Y H B S Z/\Fin Y (fun _ _ (a b:Option Int)=>a=b) H B (evo T e S h) Q E
noncomputable def Zvc(e:Ix):TI:=fun Z H Q=>∃ S h B,RH Y H B h/\RS Y H B S Z/\Fin Y (WJ Y) H B (evi T e S h) Q E
noncomputable def ZeZ(f:Str):Sp:=fun vs H Q E=>∃ ds h B,RH Y H B h/\RDs Y H B ds vs/\Fin Y (RD Y) H B (T.C f ds h) Q E
end
structure Gd(T:Tb)(Γ:Gm)(X:Cx)(Y:Yx)(E:XK)(k:Nat):Prop where
 gk:Gk X Y T
 N:X.N=Γ.N
 sc:Γ.top=true->X.env.scope=Γ.sc
 vis:∀ x,Zox Γ.sc x=true->Vis X.env.scope x
 glo:∀ x,Γ.sc.names.lookup x=some .globalImplicit->Gl X x
 nd:X.N.Nodup
 calm:X.calm=true
 room:Room k X.A
 h60:60<=k
 pass:ZbM (CXF X.prog X.w) X E
 defs:∀ f∈Γ.fs,∃ ps,Def X.prog X.w X.K X.mg X.base k f ps (ZeZ T Y f)
 blt:∀ x∈(["len", "isinstance", "int", "tuple", "list", "sum", "all", "sorted", "range", "enumerate", "reversed", "str", "bool", "max"]:List Str),X.mg x=none
 room1:Room (k+1) X.A
 cls:∀ C∈Γ.kl.cs,∃ a,X.mg C=some (.ref a)/\Cls X.K a/\∀ f∈Γ.kl.ats,ZaQ X.K a f
 mts:∀ p∈Γ.kl.ms,∃ a f fd ps,X.mg p.1=some (.ref a)/\Cls X.K a/\Meth X.K a p.2 f/\FnOk X.prog X.w X.K X.mg X.base (CXF X.prog X.w) k f fd ps (ZeZ T Y (mnm p.1 p.2))/\Binds X.K fd ps []
 mks:∀ C∈Γ.kl.is,∃ a f fd ps,X.mg C=some (.ref a)/\Mk X.K a f/\FnOk X.prog X.w X.K X.mg X.base (CXF X.prog X.w) k f fd ps (ZeZ T Y (mnm C (O "__init__")))/\Binds X.K fd ps []
theorem _root_.L2.PE.imp{X:Cx}{e:Expr}{t t':TE}(h:PE X e t)(i:∀ Z H Q,t' Z H Q->t Z H Q):PE X e t':=fun pins s Z H Q I q=>h pins s Z H Q I (i Z H Q q)
theorem _root_.L2.PT.imp{X:Cx}{e:Expr}{t t':TT}(h:PT X e t)(i:∀ Z H Q,t' Z H Q->t Z H Q):PT X e t':=fun pins s Z H Q I q=>h pins s Z H Q I (i Z H Q q)
theorem _root_.L2.PW.imp{X:Cx}{e:Expr}{t t':TT}(h:PW X e t)(i:∀ Z H Q,t' Z H Q->t Z H Q):PW X e t':=fun w pins s Z H Q I q=>h w pins s Z H Q I (i Z H Q q)
theorem _root_.L2.PA.imp{X:Cx}{e:List Expr}{t t':TA}(h:PA X e t)(i:∀ Z H Q,t' Z H Q->t Z H Q):PA X e t':=fun p pins s Z H Q I q=>h p pins s Z H Q I (i Z H Q q)
theorem _root_.L2.PO.imp{X:Cx}{e:Option Expr}{t t':TO}(h:PO X e t)(i:∀ Z H Q,t' Z H Q->t Z H Q):PO X e t':=fun pins s Z H Q I q=>h pins s Z H Q I (i Z H Q q)
theorem _root_.L2.PI.imp{X:Cx}{tg:Expr}{e:Expr}{t t':TI}(h:PI X tg e t)(i:∀ Z H Q,t' Z H Q->t Z H Q):PI X tg e t':=fun pins s Z H Q I q=>h pins s Z H Q I (i Z H Q q)
theorem Zo{x:Expr}{xs:List Expr}(env:Env)(h:Z7 x=true):starEach (x::xs) env=(false,eval x env)::starEach xs env:=by
 cases x<;>first|rfl|cases h
theorem Zjd{x:Expr}(env:Env)(h:ZcP x=true):∀ v,foldedSetIterable x env v=pure v:=by
 cases x<;>first|(intro _;rfl)|cases h
theorem Zfc{x:Expr}{op:CmpOp}(h:ZcP x=true):behindInMarks op x=false:=by
 cases x<;>first|rfl|cases h
theorem Zmv{x:Expr}(h:ZfM x=true):Zle x:=by
 cases x<;>first|(intro _ _;rfl)|cases h
theorem Zff{x:Expr}{n:Str}{env:Env}(h:ZcQ x=true):attributeBase x n env (eval x env)=eval x env:=by
 cases x with
 | Call f as ks p =>
   cases as with
   | nil=>cases h
   | cons a as=>cases f<;>rfl
 | _=>rfl
theorem ZmY{x:Expr}{env:Env}(h:Zjp x=true)(hc:∀ l o r p,x≠.Compare l o r p):∀ whole,isTrue x env whole=(do let v <- whole;standAt x.pos;holding [v] (truthy v)):=by
 cases x<;>first|(intro _;rfl)|exact absurd rfl (hc _ _ _ _)|cases h
theorem Zbu(Γ:Gm)(env:Env):∀ (es:Exs) (xs:List Expr),chks Γ es xs=true->∀ pos,(backTo pos (starEach xs env)).any (·.1)=false
 | .nil,xs,h,pos=>by
   rw [chks] at h;cases xs with
   | nil=>rfl
   | cons a b=>cases h
 | .cons e r,xs,h,pos=>by
   cases xs with
   | nil=>rw [chks] at h;cases h
   | cons x xs =>
     rw [chks,Oa,Oa] at h;rw [Zo env h.1.2];have:=Zbu Γ env r xs h.2 pos;show ((false,_)::backTo pos (starEach xs env)).any (·.1)=false;rw [List.any_cons,this];rfl
theorem Zeq(Γ:Gm)(env:Env):∀ (es:Exs) (xs:List Expr),chks Γ es xs=true->∀ pos,(backTo pos (starEach xs env)).all (fun x=>!x.1)=true
 | .nil,xs,h,pos=>by
   rw [chks] at h;cases xs with
   | nil=>rfl
   | cons a b=>cases h
 | .cons e r,xs,h,pos=>by
   cases xs with
   | nil=>rw [chks] at h;cases h
   | cons x xs =>
     rw [chks,Oa,Oa] at h;rw [Zo env h.1.2];have:=Zeq Γ env r xs h.2 pos;show ((false,_)::backTo pos (starEach xs env)).all (fun x=>!x.1)=true;rw [List.all_cons,this];rfl
theorem Gd.gl {T:Tb}{Γ:Gm}{X:Cx}{Y:Yx}{E:XK}{k:Nat} (G:Gd T Γ X Y E k) {x:Str} (h:glb Γ x=true):Gl X x/\(x==("__debug__" : Str))=false:=by
 unfold glb at h;rw [Oa] at h;exact ⟨G.glo x (of_decide_eq_true h.1),by simpa using h.2⟩
theorem ZfQ{f:Str->NameKind->NameKind}(x:Str):∀ names:List (Str×NameKind),(names.map fun p=>(p.1,f p.1 p.2)).lookup x=(names.lookup x).map (f x)
 | []=>rfl
 | (n,k)::r=>by
   rw [Op,OF,OF];by_cases e:x=n
   . subst e;simp
   . have:(x==n)=false:=by simpa using e
     simp only [this];exact ZfQ x r
theorem ZaB(scope:Scope)(env:Env)(x:Str):(relabel scope env).names.lookup x=(scope.names.lookup x).map fun k=>if (k==NameKind.free&&env.scope.kind==.function&&env.kindOf x==some .cell) then NameKind.cell else k:=by
 have e:(relabel scope env).names=scope.names.map fun p=>(p.1,(fun (n:Str) (k:NameKind)=>if (k==NameKind.free&&env.scope.kind==.function&&env.kindOf n==some .cell) then NameKind.cell else k) p.1 p.2):=by
   unfold relabel;simp only;refine List.map_congr_left fun p _=>?_;obtain ⟨n,k⟩:=p;simp only;split<;>rfl
 rw [e];exact ZfQ (f:=fun (n:Str) (k:NameKind)=>if (k==NameKind.free&&env.scope.kind==.function&&env.kindOf n==some .cell) then NameKind.cell else k) x scope.names
theorem Gd.comp{T:Tb}{Γ:Gm}{X:Cx}{Y:Yx}{E:XK}{k:Nat}(G:Gd T Γ X Y E k)(NC:List Str)(scope:Scope)(C:Addr)(s3:Shared)(H3:Hp)(fp:List Addr)(nd:NC.Nodup):Gd T ⟨NC,scope,Γ.fs,false,Γ.kl⟩ (ZB X NC scope C s3 H3 fp) Y E0 k:=by
 refine ⟨⟨G.gk.K,G.gk.mg,G.gk.gd,G.gk.g,G.gk.bare⟩,rfl,(fun h=>by cases h),fun x hx=>?_,fun x hx=>?_,nd,rfl,G.room,G.h60,ZgG,G.defs,G.blt,G.room1,G.cls,G.mts,G.mks⟩
 . show Vis (relabel scope X.env) x;unfold Vis;rw [ZaB];unfold Zox at hx;rw [Bool.or_eq_true,Bool.or_eq_true] at hx;rcases hx with (hx|hx)|hx
   . rw [of_decide_eq_true hx];exact .inl rfl
   . rw [of_decide_eq_true hx];exact .inr (.inl rfl)
   . rw [of_decide_eq_true hx];by_cases q:(X.env.scope.kind==.function&&X.env.kindOf x==some .cell)=true
     . refine .inr (.inl ?_);have:(NameKind.free==NameKind.free&&X.env.scope.kind==.function&&X.env.kindOf x==some .cell)=true:=by simpa using q
       simp only [Option.map_some,this,if_true]
     . refine .inr (.inr ?_);have:¬ ((NameKind.free==NameKind.free&&X.env.scope.kind==.function&&X.env.kindOf x==some .cell)=true):=by simpa using q
       simp only [Option.map_some,this,if_false];rfl
 . show (relabel scope X.env).names.lookup x=some .globalImplicit;rw [ZaB,hx];rfl
section
variable {T:Tb}{Y:Yx}{E:XK}{Z:L2.St}{H:Hp}{Q:VK}
theorem Zls{a b:Ex}{f:D->D->Hd->R D}{S:Ev}{h:Hd}{B:List Addr}(rh:RH Y H B h)(rs:RS Y H B S Z)(q:Fin Y (RD Y) H B ((ev T a S h).bind fun x h1=>(ev T b S h1).bind fun y h2=>f x y h2) Q E) :
   Zbq T Y E a Z H fun x H1=>Zbq T Y E b Z H1 fun y H2=>rB Y E f x y H2 Q :=
 ⟨S,h,B,rh,rs,q.bind fun d h1 x H1 μ1 _ g rh1 rd f1=>⟨S,h1,μ1,rh1,rs.mono rh g,f1.bind fun e h2 y H2 μ2 _ g2 rh2 re f2=>⟨d,e,h2,μ2,rh2,rd.mono rh1 g2,re,f2⟩⟩⟩
end
theorem ZsH{T:Tb}{Γ:Gm}{X:Cx}{Y:Yx}{E:XK}{k:Nat}(G:Gd T Γ X Y E k)(f:Bf)(hb:bok f=true){e:Expr}{es:List Expr}{t:TA}{p pos:Pos}(hg:Gl X (Zod f))(ha:PA X (e::es) t)
   (he:starEach (e::es) X.env=(false,eval e X.env)::starEach es X.env) (hpl:(backTo pos (starEach es X.env)).any (·.1)=false):PE X (.Call (.Name (Zod f) p) (e::es) [] pos) (tCB (rF Y E (Zb4 T.GD f)) t):=by
 have hY:=G.gk.K;cases f with
 | len=>exact Zd4 (Zqh hY) hg (G.blt _ (by decide)) (by decide +kernel) ha (by decide) (by decide) he hpl
 | isi=>exact Zd4 (Zqi hY) hg (G.blt _ (by decide)) (by decide +kernel) ha (by decide) (by decide) he hpl
 | int=>cases hb
 | tup=>exact ZlH (Zqe hY) hg (G.blt _ (by decide)) (by decide +kernel) ha (by decide) (by decide) he hpl
 | lst=>cases hb
 | sum=>exact Zd4 (Zqf G.room.hd hY) hg (G.blt _ (by decide)) (by decide +kernel) ha (by decide) (by decide) he hpl
 | all=>cases hb
 | mx=>cases hb
 | srt=>exact Zd4 (Zqg G.room.hd G.gk) hg (G.blt _ (by decide)) (by decide +kernel) ha (by decide) (by decide) he hpl
end IV
end
section
namespace IV
open PySem PySem.Spec PyProof.Rows L2
theorem Zn4{T:Tb}{Γ:Gm}{X:Cx}{Y:Yx}{E:XK}{k:Nat}(G:Gd T Γ X Y E k){d:D}{x:Expr}(h:Zma Γ d x=true):PE X x (Zbq T Y E (.cst d)):=by
 have go:∀ {v:V},(∀ H B,RD Y H B d v)->PE X x (tC v)->PE X x (Zbq T Y E (.cst d)):=fun {v} rd p=>PE.imp p fun Z H Q ⟨S,h,B,rh,rs,f⟩=>Fin.ok (r:=rd H B) (show Fin Y (RD Y) H B (.ok d h) Q E from f) rh;unfold Zma at h;split at h
 . rename_i c q;obtain ⟨k,p,rfl⟩:=ZgW q;unfold Zuz at h;split at h
   . have e:=of_decide_eq_true h;subst e;exact go (fun _ _=>.int _) Zm6
   . rw [Oa] at h;have e:=of_decide_eq_true h.1;subst e;exact go (fun _ _=>.str _ h.2) ZrM
   . have e:=of_decide_eq_true h;subst e;exact go (fun _ _=>.bl _) ZtO
   . exact go (fun _ _=>.non) Zm3
   . cases h
 . cases d with
   | ty n =>
     simp only at h;cases q:asName x with
     | none=>rw [q] at h;cases h
     | some y =>
       rw [q] at h;rw [Oa,Oa] at h;obtain ⟨⟨h1,h2⟩,h3⟩:=h;obtain ⟨p,rfl⟩:=ZdQ q;have e:=of_decide_eq_true h2;subst e;obtain ⟨g1,g2⟩:=G.gl h3;have hn:=of_decide_eq_true h1;have all:(Zkt.all fun n=>decide (bootBuiltins (Str.ofString n)=some (.type n))&&decide (Str.ofString n ≠ "__name__")&&decide (Str.ofString n∈(["len", "isinstance", "int", "tuple", "list", "sum", "all", "sorted", "range", "enumerate", "reversed", "str", "bool", "max"]:List Str)))=true:=by decide +kernel
       rw [OC] at all;have a:=all n hn;rw [Oa,Oa] at a;exact go (fun _ _=>.ty _) (Zpi g1 (G.blt _ (of_decide_eq_true a.2)) (of_decide_eq_true a.1.1) rfl (of_decide_eq_true a.1.2) g2)
   | _=>cases h
theorem R.bind_eq{α β:Type}{r:R α}{k:α->Hd->R β}{b:β}{h:Hd}(e:r.bind k=.ok b h):∃ a h1,r=.ok a h1/\k a h1=.ok b h:=by
 cases r with
 | bad=>cases e
 | ok a h1=>exact ⟨a,h1,rfl,e⟩
 | exc c h1=>cases e
theorem R.bind_assoc{α β γ:Type}{r:R α}{k:α->Hd->R β}{l:β->Hd->R γ}:(r.bind k).bind l=r.bind fun a h=>(k a h).bind l:=by cases r<;>rfl
theorem Zr1{GD:Str->Option (List (Key×D))}{op:CmpOp}{x y r:D}{h h':Hd}(e:opC GD op x y h=.ok r h'):∃ b,r=.bl b:=by
 have i2:∀ {f:Int->Int->Bool},Zhh f x y h=.ok r h'->∃ b,r=.bl b:=fun e=>by
   unfold Zhh at e;split at e
   . cases e;exact ⟨_,rfl⟩
   . cases e
 have eq:∀ {n:Bool},Zb1 n x y h=.ok r h'->∃ b,r=.bl b:=fun e=>by
   unfold IV.Zb1 at e;split at e
   . split at e
     . cases e;exact ⟨_,rfl⟩
     . cases e
   . cases e
 have inn:∀ {n:Bool},ZbQ GD n x y h=.ok r h'->∃ b,r=.bl b:=fun e=>by
   unfold ZbQ at e;split at e
   . split at e
     . cases e;exact ⟨_,rfl⟩
     . cases e
   . split at e
     . cases e;exact ⟨_,rfl⟩
     . cases e
 have n1:∀ {n:Bool},opN n x y h=.ok r h'->∃ b,r=.bl b:=fun e=>by
   unfold opN at e;split at e
   . cases e;exact ⟨_,rfl⟩
   . cases e
 unfold opC at e;split at e
 . exact eq e
 . exact eq e
 . exact i2 e
 . exact i2 e
 . exact i2 e
 . exact i2 e
 . exact inn e
 . exact inn e
 . exact n1 e
 . exact n1 e
theorem Zt3 (m:Mf):Slot "list" (ZqF m) (mid m)/\typeOf (.builtin (mid m))=pure (.type "method_descriptor"):=by
 cases m with
 | app=>exact ⟨PySem.F.slot_list_append,PySem.F.type_list_append⟩
 | ext=>exact ⟨PySem.F.slot_list_extend,PySem.F.type_list_extend⟩
 | pop=>exact ⟨PySem.F.slot_list_pop,PySem.F.type_list_pop⟩
 | rev=>exact ⟨PySem.F.slot_list_reverse,PySem.F.type_list_reverse⟩
 | clr=>exact ⟨PySem.F.slot_list_clear,PySem.F.type_list_clear⟩
section
variable {Y:Yx}{α β α' β':Type}{rel:Hp->List Addr->α->β->Prop}{rel':Hp->List Addr->α'->β'->Prop}{H0 H H1:Hp}{μ0 B μ1:List Addr}{E:XK}
theorem Fin.bindB{r:R α}{k:α->Hd->R α'}{Q:β'->Hp->Prop}{Q1:β->Hp->Prop}(g0:Gr H0 μ0 H B)(f:Fin Y rel' H0 μ0 (r.bind k) Q E)
   (hk:∀ a h1 b H1 μ1,r=.ok a h1->Gr H B H1 μ1->RH Y H1 μ1 h1->rel H1 μ1 a b->Fin Y rel' H0 μ0 (k a h1) Q E->Q1 b H1):Fin Y rel H B r Q1 E:=by
 cases r with
 | bad=>exact f
 | ok a h=>exact fun b H' μ' g' rh rl=>hk a h b H' μ' rfl g' rh rl f
 | exc c h=>exact fun H' μ' C g'=>f H' μ' C (g0.trans g')
theorem Fin.plain{r:R α}{k:α->Hd->R α'}{Q:β'->Hp->Prop}{Q1:β->Hp->Prop}(f:Fin Y rel' H0 μ0 (r.plain.bind k) Q E)
   (hk:∀ a h1 b H1 μ1,r=.ok a h1->Gr H B H1 μ1->RH Y H1 μ1 h1->rel H1 μ1 a b->Fin Y rel' H0 μ0 (k a h1) Q E->Q1 b H1):Fin Y rel H B r Q1 E0:=by
 cases r with
 | bad=>exact f
 | ok a h=>exact fun b H' μ' g' rh rl=>hk a h b H' μ' rfl g' rh rl f
 | exc c h=>exact f.elim
end
noncomputable def ZiG:List Nat->TGs
 | []=>ZpT
 | i::is=>ZiH (ZdB i) (ZiG is)
noncomputable def tgR(K:PySem.W.Frag):Tg->TG
 | .nm i=>ZdB i
 | .two i j=>ZpS K 2 (ZiH (ZdB i) (ZiH (ZdB j) ZpT))
 | .many is=>ZpS K is.length (ZiG is)
theorem Zh0{k:Nat}:∀ is:List Nat,is.foldr max 0<k->Zi4 k (ZiG is)
 | [],_=>Zkx
 | i::is,h=>by
   simp only [List.foldr_cons] at h;exact Zfn (by omega) (Zh0 is (by omega))
theorem Zta(K:PySem.W.Frag)(g:Tg):Zoo (tgk g) (tgR K g):=by
 cases g with
 | nm i=>exact ZoC (OH i)
 | two i j=>exact Zmn (Zfn (show i<max i j+1 by omega) (Zfn (show j<max i j+1 by omega) Zkx))
 | many is=>exact Zmn (Zh0 is (OH _))
theorem ZeA{env:Env}{N:List Str}{own:Str->Bool}:∀ (is:List Nat) (es:List Expr),Zei N own is es=true->(assignEach es env).length=is.length/\List.findIdx? (fun x=>x.fst) (assignEach es env)=none
 | [],[],_=>⟨rfl,rfl⟩
 | i::is,e::es,h=>by
   unfold Zei at h;rw [Oa] at h;obtain ⟨x,p,rfl,_⟩:=Za3 h.1;obtain ⟨a,b⟩:=ZeA (env:=env) is _ h.2;constructor
   . simp [assignEach,a]
   . simp only [assignEach,List.findIdx?_cons,b];rfl
 | [],_::_,h=>by cases h
 | _::_,[],h=>by simp [Zei] at h
theorem Zig{X:Cx}{N:List Str}{own:Str->Bool}(hN:X.N=N)(nd:X.N.Nodup)(ho:∀ x,own x=true->Loc X.env.scope x/\(X.fn x=true\/X.env.scope.names.lookup x=some .local)):∀ (is:List Nat) (es:List Expr),Zei N own is es=true->PGs X es (ZiG is)
 | [],[],_=>ZkK
 | i::is,e::es,h=>by
   unfold Zei at h;rw [Oa] at h;obtain ⟨x,p,rfl,e1,e2⟩:=Za3 h.1;obtain ⟨o1,o2⟩:=ho _ e2;exact ZfJ (Ze9 nd (by rw [hN];exact e1) o1 o2) (Zig hN nd ho is _ h.2)
 | [],_::_,h=>by cases h
 | _::_,[],h=>by simp [Zei] at h
theorem ZkL{X:Cx}{N:List Str}{own:Str->Bool}{g:Tg}{tg:Expr}(hN:X.N=N)(nd:X.N.Nodup)(hc:X.calm=true)(ho:∀ x,own x=true->Loc X.env.scope x/\(X.fn x=true\/X.env.scope.names.lookup x=some .local))(h:Zka N own g tg=true):PG X tg (tgR X.K g):=by
 cases g with
 | nm i =>
   obtain ⟨x,p,rfl,e1,e2⟩:=Za3 h;obtain ⟨o1,o2⟩:=ho _ e2;exact Ze9 nd (by rw [hN];exact e1) o1 o2
 | two i j =>
   obtain ⟨x,p,y,q,k,r,rfl,⟨a1,a2⟩,b1,b2⟩:=Zg0 h;obtain ⟨o1,o2⟩:=ho _ a2;obtain ⟨p1,p2⟩:=ho _ b2;exact Zm0 hc (ZfJ (Ze9 nd (by rw [hN];exact a1) o1 o2) (ZfJ (Ze9 nd (by rw [hN];exact b1) p1 p2) ZkK))
 | many is =>
   obtain ⟨es,k,r,rfl,h⟩:=ZfO h;exact Zm0 (hn:=(ZeA _ _ h).1) (hst:=(ZeA _ _ h).2) hc (Zig hN nd ho _ _ h)
theorem ZkR{Y:Yx}{H:Hp}{B:List Addr}{Q:L2.St->Hp->Prop}:∀ (is:List Nat) {ds:List D}{vs:List V}{S:Ev}{Z:L2.St},RDs Y H B ds vs->RS Y H B S Z->ds.length=is.length->(∀ σ1,RS Y H B (Zje is ds S) σ1->Q σ1 H)->ZiG is vs Z H Q
 | [],ds,vs,S,Z,r,rs,hl,q=>by
   cases r with
   | nil=>exact ⟨rfl,q _ rs⟩
   | cons a s=>simp at hl
 | i::is,ds,vs,S,Z,r,rs,hl,q=>by
   cases r with
   | nil=>simp at hl
   | cons a s=>exact ⟨_,_,rfl,ZkR is s (rs.set a) (by simpa using hl) q⟩
theorem ZhJ{Y:Yx}{K:PySem.W.Frag}{H:Hp}{B:List Addr}{g:Tg}{d:D}{v:V}{S ρ1:Ev}{Z:L2.St}{Q:L2.St->Hp->Prop}(hY:Y.K=K)(r:RD Y H B d v)(rs:RS Y H B S Z)(e:ZbG g d S=some ρ1)(q:∀ σ1,RS Y H B ρ1 σ1->Q σ1 H):tgR K g v Z H Q:=by
 cases g with
 | nm i =>
   cases e;exact q _ (rs.set r)
 | two i j =>
   unfold ZbG at e;simp only at e;split at e
   . cases e;obtain ⟨a,vs,rfl,t,s⟩:=r.tup_inv;obtain ⟨x,y,rfl,r1,r2⟩:=s.two;exact ⟨a,_,rfl,hY ▸ t,rfl,x,_,rfl,y,_,rfl,rfl,q _ ((rs.set r1).set r2)⟩
   . cases e
 | many is =>
   unfold ZbG at e;simp only at e;split at e
   . split at e
     . rename_i hl;cases e;obtain ⟨a,vs,rfl,t,s⟩:=r.tup_inv;exact ⟨a,vs,rfl,hY ▸ t,by rw [<- s.length,hl],ZkR is s rs hl q⟩
     . cases e
   . cases e
section
variable {Y:Yx}{H:Hp}{B:List Addr}{h:Hd}{Dd:Addr}{ys zs:List V}
theorem Zmt{K:PySem.W.Frag}(hD:H Dd=some (.lst ys)){a:Addr}{vs:List V}(t:SqT K H a vs):SqT K (upd H Dd (.lst zs)) a vs:=by
 rcases t with t|t
 . rcases t with t|⟨o,t⟩
   . exact .inl (.inl (by rw [Zg (fun z=>by rw [z,hD] at t;cases t)];exact t))
   . exact .inl (.inr ⟨o,by rw [Zg (fun z=>by rw [z,hD] at t;cases t)];exact t⟩)
 . exact .inr t
theorem ZnO{K:PySem.W.Frag}(hD:H Dd=some (.lst ys)){a:Addr}{vs:List V}(t:FzL K H a vs):FzL K (upd H Dd (.lst zs)) a vs:=by
 rcases t with ⟨o,t⟩|t
 . exact .inl ⟨o,by rw [Zg (fun z=>by rw [z,hD] at t;cases t)];exact t⟩
 . exact .inr t
mutual
theorem RD.swap(hD:H Dd=some (.lst ys)):∀ {d:D}{v:V},RD Y H B d v->RD Y (upd H Dd (.lst zs)) B d v
 | _,_,.non=>.non
 | _,_,.bl b=>.bl b
 | _,_,.int i=>.int i
 | _,_,.str x ok=>.str x ok
 | _,_,.tup t s=>.tup (Zmt hD t) (RDs.swap hD s)
 | _,_,.ref e=>.ref e
 | _,_,.ty n=>.ty n
 | _,_,.ro t s=>.ro (ZnO hD t) (RDs.swap hD s)
 | _,_,.kd e=>.kd e
theorem RDs.swap(hD:H Dd=some (.lst ys)):∀ {d:List D}{v:List V},RDs Y H B d v->RDs Y (upd H Dd (.lst zs)) B d v
 | _,_,.nil=>.nil
 | _,_,.cons a s=>.cons (RD.swap hD a) (RDs.swap hD s)
end
theorem RKs.swap{κ:Type}(hD:H Dd=some (.lst ys)):∀ {d:List (κ×D)}{v:List (κ×V)},RKs Y H B d v->RKs Y (upd H Dd (.lst zs)) B d v
 | _,_,.nil=>.nil
 | _,_,.cons a s=>.cons (a.swap hD) (s.swap hD)
theorem RH.swap(hD:H Dd=some (.lst ys))(hn:Dd ∉ B)(r:RH Y H B h):RH Y (upd H Dd (.lst zs)) B h:=by
 refine ⟨r.len,r.nd,fun i o a e1 e2=>?_,r.ks⟩;have ne:a≠Dd:=fun z=>hn (z ▸ O1 e2);have q:=r.ob i o a e1 e2;cases o with
 | lst ds=>obtain ⟨vs,z,s⟩:=q;exact ⟨vs,by rw [Zg ne];exact z,s.swap hD⟩
 | dic ds=>obtain ⟨vs,z,s⟩:=q;exact ⟨vs,by rw [Zg ne];exact z,s.swap hD⟩
 | ins C ds=>obtain ⟨a1,a2,a3,z,m,s⟩:=q;exact ⟨a1,a2,a3,by rw [Zg ne];exact z,m,s.swap hD⟩
 | fdic ds=>obtain ⟨o,vs,z,s⟩:=q;exact ⟨o,vs,by rw [Zg ne];exact z,s.swap hD⟩
theorem Gr.out{H':Hp}{μ':List Addr}(g:Gr H B H' μ'){o:HO}(hD:H Dd=some o)(hn:Dd ∉ B):H' Dd=some o/\Dd ∉ μ' :=
 ⟨g.keep _ _ hn hD,fun hm=>(g.new _ hm).elim hn fun z=>by rw [hD] at z;cases z⟩
end
section
variable {Y:Yx}{H:Hp}{B:List Addr}{p:Addr}
mutual
theorem RD.more:∀ {d:D}{v:V},RD Y H B d v->RD Y H (B++[p]) d v
 | _,_,.non=>.non
 | _,_,.bl b=>.bl b
 | _,_,.int i=>.int i
 | _,_,.str x ok=>.str x ok
 | _,_,.tup t s=>.tup t (RDs.more s)
 | _,_,.ref e=>.ref (by rw [Oe (Ob.mp e).1];exact e)
 | _,_,.ty n=>.ty n
 | _,_,.ro t s=>.ro t (RDs.more s)
 | _,_,.kd e=>.kd e
theorem RDs.more:∀ {d:List D}{v:List V},RDs Y H B d v->RDs Y H (B++[p]) d v
 | _,_,.nil=>.nil
 | _,_,.cons a s=>.cons (RD.more a) (RDs.more s)
end
theorem RKs.more{κ:Type}:∀ {d:List (κ×D)}{v:List (κ×V)},RKs Y H B d v->RKs Y H (B++[p]) d v
 | _,_,.nil=>.nil
 | _,_,.cons a s=>.cons a.more s.more
theorem RO.more{a:Addr}{o:DO}(q:RO Y H B a o):RO Y H (B++[p]) a o:=by
 cases o with
 | lst ds=>obtain ⟨vs,z,s⟩:=q;exact ⟨vs,z,s.more⟩
 | dic ds=>obtain ⟨vs,z,s⟩:=q;exact ⟨vs,z,s.more⟩
 | ins C ds=>obtain ⟨a1,a2,a3,z,m,s⟩:=q;exact ⟨a1,a2,a3,z,m,s.more⟩
 | fdic ds=>obtain ⟨o,vs,z,s⟩:=q;exact ⟨o,vs,z,s.more⟩
end
theorem Zk7{T:Tb}{Y:Yx}{E:XK}{K:PySem.W.Frag}(hY:Y.K=K){js:List (Option Nat)}{g:Tg}{c:Option Tx}{e:Ex}{tc:TT}{J:It}{w:Wk}{H1:Hp}{μ1:List Addr}{h1:Hd}{S:Ev}{Z:L2.St}{Q:VK}{Dd:Addr}
   (htc:∀ Z H Q,(∃ S h B,RH Y H B h/\RS Y H B S Z/\Fin Y (fun _ _ (a b:Bool)=>a=b) H B (tsto T c S h) Q E0)->tc Z H Q)
   (rh:RH Y H1 μ1 h1) (rs:RS Y H1 μ1 S Z) (wj:WJ Y H1 μ1 w J) (f:Fin Y (RD Y) H1 μ1 ((ZL w.src g (tsto T c) (ev T e) w.xs (Zbp js S) [] h1).bind fun xs h2=>ZcI (.lst xs) h2) Q E) (hD:H1 Dd=none) :
   ∃ W:Nat->Nat->List V->Hp->Prop,(∃ m,W 0 m [] (upd H1 Dd (.lst []))) /\
     ∀ i m ys H,W i m ys H->H Dd=some (.lst ys)->(J.stop i H/\Q (.ref Dd) H) \/
       (J.go i H/\ys.length<sizeLine/\∀ x H',J.yld i H x H'->tgR K g x (capt js Z) H' fun σ2 H2=>tc σ2 H2 fun b H3 =>
         if b=true then Zbq T Y E0 e σ2 H3 fun y H4=>H4 Dd=some (.lst ys)/\∃ m',m'<m/\W (i+1) m' (ys++[y]) (upd H4 Dd (.lst (ys++[y])))
         else H3 Dd=some (.lst ys)/\∃ m',m'<m/\W (i+1) m' ys H3):=by
 have n1:Dd ∉ μ1:=fun z=>by have:=rh.mut z;rw [hD] at this;exact this
 refine ⟨fun i m ys H=>∃ acc h B,i<=w.xs.length/\m=w.xs.length - i/\Gr H1 μ1 H B/\RH Y H B h/\RDs Y H B acc ys/\Dd ∉ B /\
   Fin Y (RD Y) H1 μ1 ((ZL w.src g (tsto T c) (ev T e) (w.xs.drop i) (Zbp js S) acc h).bind fun xs h2=>ZcI (.lst xs) h2) Q E,⟨w.xs.length,[],h1,μ1,Nat.zero_le _,by simp,Gr.lay0 hD,rh.lay0 hD,.nil,n1,f⟩,?_⟩
 rintro i m ys H ⟨acc,h,B,hi,rfl,g1,rh1,ra,nD,f1⟩ hl;by_cases hlt:i<w.xs.length
 . obtain ⟨d,hd⟩:∃ d,w.xs[i]? = some d:=⟨_,Og hlt⟩
   have hdrop:w.xs.drop i=d::w.xs.drop (i+1):=by
     rw [List.drop_eq_getElem_cons hlt];have:=Og hlt;rw [hd] at this;rw [<- Option.some.inj this]
   rw [hdrop,ZL] at f1;by_cases hs:Wk.stays w.src h=true/\acc.length<sizeLine
   . rw [if_pos hs] at f1;obtain ⟨go,yl⟩:=(wj H B h g1 rh1 hs.1).1 i d hd;refine .inr ⟨go,by rw [<- ra.length];exact hs.2,fun x H' hy=>?_⟩;obtain ⟨g2,rh2,rx⟩:=yl x H' hy;obtain ⟨hl2,nD2⟩:=g2.out hl nD;have g02:=g1.trans g2;split at f1
     . exact f1.elim
     . rename_i ρ1 hb;refine ZhJ hY rx ((rs.mono rh g02).capt js) hb fun σ1 rs1=>htc σ1 H' _ ⟨ρ1,h,B,rh2,rs1,?_⟩;rw [R.bind_assoc] at f1;refine Fin.plain f1 fun b h3 b' H3 μ3 _ g3 rh3 eb f3=>?_;subst eb;obtain ⟨hl3,nD3⟩:=g3.out hl2 nD2;have g03:=g02.trans g3;cases b with
       | true =>
         rw [if_pos rfl] at f3 ⊢;rw [R.bind_assoc] at f3;refine ⟨ρ1,h3,μ3,rh3,rs1.mono rh2 g3,Fin.plain f3 fun y h4 y' H4 μ4 _ g4 rh4 ry f4=>?_⟩;obtain ⟨hl4,nD4⟩:=g4.out hl3 nD3;refine ⟨hl4,_,Nat.sub_lt_sub_left hlt (OH i),acc++[y],h4,μ4,hlt,rfl,?_,rh4.swap hl4 nD4,?_,nD4,f4⟩
         . have g04:=g03.trans g4;exact ⟨g04.pre,g04.new,fun b o hb e=>by rw [Zg (fun z=>by rw [z,hD] at e;cases e)];exact g04.keep b o hb e,fun b u v e=>by rw [Zg (fun z=>by rw [z,hD] at e;cases e)];exact g04.fz b u v e⟩
         . exact ((((ra.mono rh1 g2).mono rh2 g3).mono rh3 g4).append (.cons ry .nil)).swap hl4
       | false =>
         rw [if_neg (by decide)] at f3 ⊢;exact ⟨hl3,_,Nat.sub_lt_sub_left hlt (OH i),acc,h3,μ3,hlt,rfl,g03,rh3,(ra.mono rh1 g2).mono rh2 g3,nD3,f3⟩
   . rw [if_neg hs] at f1;exact f1.elim
 . have he:i=w.xs.length:=by omega
   subst he;rw [List.drop_eq_nil_of_le (Oq _),ZL] at f1;by_cases hs:Wk.stays w.src h=true
   . rw [if_pos hs] at f1;refine .inl ⟨(wj H B h g1 rh1 hs).2,?_⟩;have f2:Fin Y (RD Y) H1 μ1 (.ok (.ref h.length) (h++[.lst acc])) Q E:=f1;have gg:Gr H B H (B++[Dd])->True:=fun _=>trivial;have g3:Gr H1 μ1 H (B++[Dd]):=by
       refine ⟨fun j a e=>?_,fun a ha=>?_,g1.keep,g1.fz⟩
       . have:=g1.pre j a e;rw [Oe (Ob.mp this).1];exact this
       . rcases OD.mp ha with z|z
         . exact g1.new a z
         . rw [Ox.mp z];exact .inr hD
     refine f2.at g3 ?_ (.ref (by rw [rh1.len];simp));have pre:∀ {d:D}{v:V},RD Y H B d v->RD Y H (B++[Dd]) d v:=fun r=>r.more;refine ⟨by simp [rh1.len],?_,fun j o a e1 e2=>?_,ZjD rh1.ks trivial⟩
     . rw [List.nodup_append];refine ⟨rh1.nd,by simp,fun a ha b hb=>?_⟩;rw [Ox.mp hb];intro z;exact nD (z ▸ ha)
     . by_cases hj:j<h.length
       . rw [Oe hj] at e1;rw [Oe (by rw [<- rh1.len];exact hj)] at e2;exact (rh1.ob j o a e1 e2).more
       . have hj':j=h.length:=by
           have:=(Ob.mp e1).1;simp at this;omega
         subst hj';rw [Om (Oq _)] at e1;rw [Om (by rw [rh1.len];exact Oq _)] at e2;simp [rh1.len] at e1 e2;subst e1;subst e2;exact ⟨ys,hl,ra.more⟩
   . rw [if_neg hs] at f1;exact f1.elim
end IV
end
section
namespace IV
open PySem PySem.Spec PyProof.Rows L2
section
variable {Y:Yx}{H:Hp}{B:List Addr}{h:Hd}
theorem RKs.look{f:Str}:∀ {fs:List (Str×D)}{gs:List (Str×V)},RKs Y H B fs gs->(∀ d,fs.lookup f=some d->∃ v,gs.lookup f=some v/\RD Y H B d v)/\(fs.lookup f=none->gs.lookup f=none)
 | _,_,.nil=>⟨fun d e=>by simp at e,fun _=>rfl⟩
 | _,_,.cons (k:=k) (d:=d0) (v:=v0) a s=>by
   by_cases e:f=k
   . subst e;exact ⟨fun d z=>by simp at z;subst z;exact ⟨_,by simp,a⟩,fun z=>by simp at z⟩
   . have b:(f==k)=false:=by simpa using e
     obtain ⟨q1,q2⟩:=RKs.look (f:=f) s;refine ⟨fun d z=>?_,fun z=>?_⟩
     . rw [OF,b] at z ⊢;exact q1 d z
     . rw [OF,b] at z ⊢;exact q2 z
theorem RKs.putAF{f:Str}{d:D}{v:V}(r:RD Y H B d v):∀ {fs:List (Str×D)}{gs:List (Str×V)},RKs Y H B fs gs->RKs Y H B (ZlA f d fs) (ZbZ f v gs)
 | _,_,.nil=>.cons r .nil
 | _,_,.cons (k:=k) a s=>by
   unfold ZlA ZbZ;by_cases e:k=f
   . rw [if_pos e,if_pos e];exact .cons r s
   . rw [if_neg e,if_neg e];exact .cons a (RKs.putAF r s)
theorem ZfY(rh:RH Y H B h){d:D}{v:V}{C:Str}{fs:List (Str×D)}(r:RD Y H B d v)(e:ZY d h=some (C,fs)):∃ i a Ca dx gs,d=.ref i/\v=.ref a/\B[i]? = some a/\h[i]? = some (.ins C fs)/\H a=some (.ins Ca dx gs)/\Y.mg C=some (.ref Ca)/\RKs Y H B fs gs:=by
 unfold ZY at e;split at e
 . rename_i i;split at e
   . rename_i C' fs' hi;cases e;cases r with
     | ref q =>
       rename_i a;obtain ⟨Ca,dx,gs,z,m,s⟩:=rh.ob i _ a hi q;exact ⟨i,a,Ca,dx,gs,rfl,rfl,q,hi,z,m,s⟩
   . cases e
 . cases e
theorem ZpE{C:Str}{x dx Ca:Addr}(rh:RH Y H B h)(hx:H x=none)(hd:H dx=none)(ne:dx≠x)(m:Y.mg C=some (.ref Ca)):RH Y (upd (upd H dx (.own x)) x (.ins Ca dx [])) (B++[x]) (h++[.ins C []])/\Gr H B (upd (upd H dx (.own x)) x (.ins Ca dx [])) (B++[x]):=by
 have hx':upd H dx (.own x) x=none:=by rw [Zg (fun z=>ne z.symm)];exact hx
 exact ⟨(rh.lay0 hd).lay hx' ⟨Ca,dx,[],Zi,m,.nil⟩,(Gr.lay0 hd).trans (Gr.lay hx')⟩
end
theorem ZlP{o:Expr}{name:Str}{apos pos:Pos}{args:List Expr}{env:Env}(hbase:attributeBase o name env (eval o env)=eval o env)
   (hform:methodCallForm (args.length+([]:List Keyword).length) (backTo pos (starEach args env)) (backToKw pos (keywordEach [] env))=true) (hline:(apos.endLine==pos.line)=true) :
   eval (.Call (.Attribute o name apos) args [] pos) env=(do
     let ov <- eval o env
     standAt apos.atName
     let (f,first) <- holding [ov] (getMethod ov name (do return (<- importBound o env).getD true))
     callWith pos f first (backTo pos (starEach args env)) (backToKw pos (keywordEach [] env))):=by
 have hpos:methodCallPos true o env apos pos=pure pos:=by unfold methodCallPos;simp [hline]
 rw [arm_eval_Call,hbase];unfold methodCall;simp only [hform,hpos];rfl
section
variable {T:Tb}{Γ:Gm}{X:Cx}{Y:Yx}{E:XK}{k:Nat}
theorem ZsL(G:Gd T Γ X Y E k){Cs:List Str}{f:Str}(hc:(Cs.all fun C=>decide (C∈Γ.kl.cs))=true)(hf:f∈Γ.kl.ats){H:Hp}{B:List Addr}{h:Hd}{d:D}{x:V}{Q:VK}(rh:RH Y H B h)(rd:RD Y H B d x)(ff:Fin Y (RD Y) H B (Zgp Cs f d h) Q E) :
   ∃ a C dx fs v,x=.ref a/\H a=some (.ins C dx fs)/\Cls X.K C/\ZaQ X.K C f/\fs.lookup f=some v/\Q v H:=by
 unfold Zgp at ff;split at ff
 . rename_i C fs e;obtain ⟨hC,ff⟩:=ff.iff;obtain ⟨i,a,Ca,dx,gs,rfl,rfl,q,hi,z,m,s⟩:=ZfY rh rd e;obtain ⟨w,e1,ff⟩:=ff.ofO;obtain ⟨v,l,rv⟩:=(s.look (f:=f)).1 w e1;rw [OC] at hc;obtain ⟨Ca',m',cl,na⟩:=G.cls C (of_decide_eq_true (hc C hC));rw [G.gk.mg,m'] at m;cases m;exact ⟨a,Ca,dx,gs,v,rfl,z,cl,na f hf,l,ff.ok rh rv⟩
 . exact ff.elim
theorem Zmy(G:Gd T Γ X Y E k){Cs:List Str}{f:Str}(hc:(Cs.all fun C=>decide (C∈Γ.kl.cs))=true)(hf:f∈Γ.kl.ats){H:Hp}{B:List Addr}{h:Hd}{d e:D}{x y:V}{Q:VK}(rh:RH Y H B h)(rd:RD Y H B d x)(re:RD Y H B e y)(ff:Fin Y (RD Y) H B (Zg8 Cs f d e h) Q E) :
   ∃ a C dx fs,x=.ref a/\H a=some (.ins C dx fs)/\Cls X.K C/\ZaQ X.K C f/\fs.length<1000/\Q .non (upd H a (.ins C dx (ZbZ f y fs))):=by
 unfold Zg8 at ff;split at ff
 . rename_i i;split at ff
   . rename_i C fs hi;obtain ⟨⟨hC,hl⟩,ff⟩:=ff.iff;obtain ⟨i',a,Ca,dx,gs,e1,rfl,q,hi',z,m,s⟩:=ZfY rh rd (show ZY (.ref i) h=some (C,fs) by simp [ZY,hi]);cases e1;rw [OC] at hc;obtain ⟨Ca',m',cl,na⟩:=G.cls C (of_decide_eq_true (hc C hC));have m0:=m;rw [G.gk.mg,m'] at m;cases m;refine ⟨a,Ca,dx,gs,rfl,z,cl,na f hf,by rw [<- s.length];exact hl,ff.at (Gr.write (O1 q) (by rw [z];trivial)) (rh.write q ?_ (by rw [z];trivial)) .non⟩;exact ⟨Ca,dx,_,Zi,m0,(RKs.putAF re s).mono rh (Gr.write (O1 q) (by rw [z];trivial))⟩
   . exact ff.elim
 . exact ff.elim
theorem Zt5(G:Gd T Γ X Y E k){C:Str}{es:Exs}{ys:List Expr}{p pos:Pos}(h2:C∈Γ.kl.is)(h3:glb Γ C=true)(h4:chks Γ es ys=true)(ha:PA X ys (ZoM T Y E es)):PE X (.Call (.Name C p) ys [] pos) (Zbq T Y E (.mk C es)):=by
 obtain ⟨a,f,fd,ps,m,M,F,B_⟩:=G.mks _ h2;obtain ⟨g1,g2⟩:=G.gl h3;have key:∀ (ds:List D) (h1:Hd) (xs:List V) (H1:Hp) (μ1:List Addr) (Q:VK),RH Y H1 μ1 h1->RDs Y H1 μ1 ds xs->Fin Y (RD Y) H1 μ1 (Znm T.C C ds h1) Q E->∀ x dx,H1 x=none->H1 dx=none->dx≠x ->
     ZeZ T Y (mnm C (O "__init__")) (.ref x::(xs++[])) (upd (upd H1 dx (.own x)) x (.ins a dx [])) (fun v H2=>v=.non/\Q (.ref x) H2) E:=by
   intro ds h1 xs H1 μ1 Q rh1 rds f1 x dx hx hd ne;obtain ⟨rh2,g2⟩:=ZpE (C:=C) (Ca:=a) rh1 hx hd ne (by rw [G.gk.mg];exact m);have px:(μ1++[x])[h1.length]? = some x:=by rw [rh1.len];simp
   refine ⟨.ref h1.length::ds,h1++[.ins C []],μ1++[x],rh2,.cons (.ref px) (by rw [List.append_nil];exact rds.mono rh1 g2),?_⟩;refine Fin.bind (Fin.mono g2 f1) fun d h3 v H3 μ3 _ g3 rh3 rd3 f3=>?_;cases d with
   | non=>cases rd3;exact ⟨rfl,f3.ok rh3 (.ref (g3.pre _ _ px))⟩
   | _=>exact f3.elim
 cases ys with
 | nil =>
   cases es with
   | nil=>exact (Zm5 M F G.room1 g1 m B_ .nil G.pass g2).imp fun Z H Q ⟨S,h,B,rh,rs,f⟩=>key [] h [] H B Q rh .nil f
   | cons e r=>unfold chks at h4;cases h4
 | cons y ys =>
   have st:Z7 y=true:=by
     cases es with
     | nil=>unfold chks at h4;cases h4
     | cons e r=>unfold chks at h4;rw [Oa,Oa] at h4;exact h4.1.2
   have sp:∀ pos,(backTo pos (starEach ys X.env)).any (·.1)=false:=by
     cases es with
     | nil=>unfold chks at h4;cases h4
     | cons e r=>unfold chks at h4;rw [Oa,Oa] at h4;exact Zbu Γ X.env r ys h4.2
   exact (Zpd M F G.room1 g1 m B_ .nil G.pass ha g2 (Zo X.env st) (sp _)).imp fun Z H Q ⟨S,h,B,rh,rs,f⟩=>⟨S,h,B,rh,rs,Fin.bind f fun ds h1 xs H1 μ1 _ g rh1 rds f1=>key ds h1 xs H1 μ1 Q rh1 rds f1⟩
theorem Zsa(G:Gd T Γ X Y E k){C n:Str}{o:Ex}{es:Exs}{xo:Expr}{ys:List Expr}{ap cp:Pos}(h5:(C,n)∈Γ.kl.ms)(h3:ZcQ xo=true)(h4:chks Γ es ys=true)(h6:ys.length<29)(h7:(ap.endLine==cp.line)=true)(ho:PE X xo (Zbq T Y E o))(ha:PA X ys (ZoM T Y E es)) :
   PE X (.Call (.Attribute xo n ap) ys [] cp) (Zbq T Y E (.mcl C n o es)):=by
 obtain ⟨a,f,fd,ps,mm,c,hm,F,B_⟩:=G.mts _ h5;have hform:methodCallForm (ys.length+([]:List Keyword).length) (backTo cp (starEach ys X.env)) (backToKw cp (keywordEach [] X.env))=true:=by
   unfold methodCallForm;rw [Zeq Γ X.env es ys h4];have h30:decide (ys.length+([]:List Keyword).length+(if (backToKw cp (keywordEach [] X.env)).isEmpty then 0 else 1)<30)=true:=by
     rw [decide_eq_true_eq];show ys.length+0+0<30;omega
   rw [h30];rfl
 have ht:=ZlP (o:=xo) (name:=n) (apos:=ap) (pos:=cp) (args:=ys) (env:=X.env) (Zff h3) hform h7;have key:∀ (d:D) (h1:Hd) (x:V) (H1:Hp) (μ1:List Addr) (S:Ev) (Z:L2.St) (Q:VK),RH Y H1 μ1 h1->RS Y H1 μ1 S Z->RD Y H1 μ1 d x->Fin Y (RD Y) H1 μ1 (match ZY d h1 with
       | some (C',fs)=>if C'=C/\fs.lookup n=none then (evs T es S h1).bind fun xs h2=>T.C (mnm C n) (d::xs) h2 else .bad
       | none=>.bad) Q E->∃ b dx fs,x=.ref b/\H1 b=some (.ins a dx fs)/\fs.lookup n=none/\ZoM T Y E es Z H1 fun vs H2=>ZeZ T Y (mnm C n) (x::(vs++[])) H2 Q E:=by
   intro d h1 x H1 μ1 S Z Q rh1 rs1 rd f1;split at f1
   . rename_i C' fs e;obtain ⟨⟨e1,e2⟩,f1⟩:=f1.iff;subst e1;obtain ⟨i,b,Ca,dx,gs,rfl,rfl,q,hi,z,m',s⟩:=ZfY rh1 rd e;rw [G.gk.mg,mm] at m';cases m';refine ⟨b,dx,gs,rfl,z,(s.look (f:=n)).2 e2,S,h1,μ1,rh1,rs1,f1.bind fun ds h2 vs H2 μ2 _ g2 rh2 rds f2=>⟨_,h2,μ2,rh2,.cons (rd.mono rh1 g2) (by rw [List.append_nil];exact rds),f2⟩⟩
   . exact f1.elim
 cases ys with
 | nil =>
   cases es with
   | nil =>
     refine (Zm4 ho c hm F G.room B_ .nil G.pass ht).imp fun Z H Q ⟨S,h,B,rh,rs,f⟩=>⟨S,h,B,rh,rs,Fin.bind f fun d h1 x H1 μ1 _ g rh1 rd f1=>?_⟩
     obtain ⟨b,dx,fs,e1,e2,e3,ρ',h',μ',rh',rs',f'⟩:=key d h1 x H1 μ1 S Z Q rh1 (rs.mono rh g) rd f1;exact ⟨b,dx,fs,e1,e2,e3,f'.ok rh' .nil⟩
   | cons e r=>unfold chks at h4;cases h4
 | cons y ys =>
   have st:Z7 y=true:=by
     cases es with
     | nil=>unfold chks at h4;cases h4
     | cons e r=>unfold chks at h4;rw [Oa,Oa] at h4;exact h4.1.2
   have sp:∀ pos,(backTo pos (starEach ys X.env)).any (·.1)=false:=by
     cases es with
     | nil=>unfold chks at h4;cases h4
     | cons e r=>unfold chks at h4;rw [Oa,Oa] at h4;exact Zbu Γ X.env r ys h4.2
   exact (Zpb ho c hm F G.room B_ .nil G.pass ha (Zo X.env st) (sp _) ht).imp fun Z H Q ⟨S,h,B,rh,rs,f⟩=>⟨S,h,B,rh,rs,Fin.bind f fun d h1 x H1 μ1 _ g rh1 rd f1=>key d h1 x H1 μ1 S Z Q rh1 (rs.mono rh g) rd f1⟩
end
end IV
end
section
namespace IV
open PySem PySem.Spec PyProof.Rows L2
theorem Zp9{T:Tb}{Γ:Gm}{X:Cx}{Y:Yx}{E:XK}{k:Nat}(G:Gd T Γ X Y E k){op:CmpOp}{a b:Ex}{l r:Expr}{pos:Pos}(ha:PE X l (Zbq T Y E a))(hb:PE X r (Zbq T Y E b))(hm:ZcP r=true):PT X (.Compare l [op] [r] pos) (Zlr T Y E (.ex (.cmp op a b))):=by
 refine (ZkJ (Znd (E:=E) G.room G.h60 G.gk op) ha hb (Zfc hm)).imp fun Z H Q ⟨S,h,B,rh,rs,f⟩=>Zls (f:=opC T.GD op) rh rs ?_;refine Fin.bind (show Fin Y _ H B ((ev T (.cmp op a b) S h).bind fun x h1=>R.ofO (ZdU T.GD x h1) h1) Q E from f) fun d h1 x H1 μ1 er g rh1 rd f1=>?_;obtain ⟨_,_,_,er⟩:=R.bind_eq (show (ev T a S h).bind _=.ok d h1 from er);obtain ⟨_,_,_,er⟩:=R.bind_eq er;obtain ⟨c,rfl⟩:=Zr1 er;cases rd;exact ⟨c,rfl,Fin.ok (show Fin Y _ H1 μ1 (.ok c h1) Q E from f1) rh1 rfl⟩
theorem Zse{x y r:D}{h h':Hd}(e:Ze4 x y h=.ok r h'):∃ b,r=.bl b:=by
 unfold Ze4 at e;split at e
 . split at e
   . cases e;exact ⟨_,rfl⟩
   . cases e
 . cases e
theorem ZpH{T:Tb}{Γ:Gm}{X:Cx}{Y:Yx}{E:XK}{k:Nat}(G:Gd T Γ X Y E k){a b:Ex}{l r:Expr}{pos:Pos}(ha:PE X l (Zbq T Y E a))(hb:PE X r (Zbq T Y E b))(hm:ZcP r=true):PT X (.Compare l [.In] [r] pos) (Zlr T Y E (.ex (.lin a b))):=by
 refine (ZkJ (Zii (E:=E) G.room G.h60 G.gk.K) ha hb (Zfc hm)).imp fun Z H Q ⟨S,h,B,rh,rs,f⟩=>Zls (f:=Ze4) rh rs ?_;refine Fin.bind (show Fin Y _ H B ((ev T (.lin a b) S h).bind fun x h1=>R.ofO (ZdU T.GD x h1) h1) Q E from f) fun d h1 x H1 μ1 er g rh1 rd f1=>?_;obtain ⟨_,_,_,er⟩:=R.bind_eq (show (ev T a S h).bind _=.ok d h1 from er);obtain ⟨_,_,_,er⟩:=R.bind_eq er;obtain ⟨c,rfl⟩:=Zse er;cases rd;exact ⟨c,rfl,Fin.ok (show Fin Y _ H1 μ1 (.ok c h1) Q E from f1) rh1 rfl⟩
theorem Zqb{Γ:Gm}{e:Ex}{l:Expr}{o:List CmpOp}{r:List Expr}{p:Pos}(h:chk Γ e (.Compare l o r p)=true):(∃ op a b,e=.cmp op a b)\/(∃ o1 o2 a b c,e=.cmp2 o1 o2 a b c)\/(∃ a b,e=.lin a b):=by
 cases e with
 | lin a b=>exact .inr (.inr ⟨a,b,rfl⟩)
 | cmp op a b=>exact .inl ⟨op,a,b,rfl⟩
 | cmp2 o1 o2 a b c=>exact .inr (.inl ⟨o1,o2,a,b,c,rfl⟩)
 | cst d=>cases d<;>(unfold chk Zma at h;cases h)
 | _=>unfold chk at h;cases h
theorem ZlE{T:Tb}{Γ:Gm}{X:Cx}{Y:Yx}{E:XK}{k:Nat}(G:Gd T Γ X Y E k){e:Ex}{x:Expr}(he:PE X x (Zbq T Y E e))(h1:Zjp x=true)(hx:∀ l o r p,x≠.Compare l o r p):PT X x (Zlr T Y E (.ex e)):=by
 refine (ZmQ he (ZmY h1 hx)).imp fun Z H Q ⟨S,h,B,rh,rs,f⟩=>⟨S,h,B,rh,rs,Fin.bind (show Fin Y _ H B ((ev T e S h).bind fun x h1=>R.ofO (ZdU T.GD x h1) h1) Q E from f) fun d h1 x H1 μ1 er g rh1 rd f1=>?_⟩
 obtain ⟨b,eb,f1⟩:=f1.ofO;exact ⟨b,ZoA G.gk.K rh1 rd eb,f1.ok rh1 rfl⟩
noncomputable def Zkw(T:Tb)(Y:Yx)(E:XK):Exs->List (TE×TE)
 | .nil=>[]
 | .cons k r=>match r with
   | .nil=>[]
   | .cons v r'=>(Zbq T Y E k,Zbq T Y E v)::Zkw T Y E r'
section
variable {Y:Yx}{H:Hp}{B:List Addr}{h:Hd}{Dd:Addr}{ys zs:List (Key×V)}
theorem Zlo{K:PySem.W.Frag}(hD:H Dd=some (.dK ys)){a:Addr}{vs:List V}(t:SqT K H a vs):SqT K (upd H Dd (.dK zs)) a vs:=by
 rcases t with t|t
 . rcases t with t|⟨o,t⟩
   . exact .inl (.inl (by rw [Zg (fun z=>by rw [z,hD] at t;cases t)];exact t))
   . exact .inl (.inr ⟨o,by rw [Zg (fun z=>by rw [z,hD] at t;cases t)];exact t⟩)
 . exact .inr t
theorem Zl4{K:PySem.W.Frag}(hD:H Dd=some (.dK ys)){a:Addr}{vs:List V}(t:FzL K H a vs):FzL K (upd H Dd (.dK zs)) a vs:=by
 rcases t with ⟨o,t⟩|t
 . exact .inl ⟨o,by rw [Zg (fun z=>by rw [z,hD] at t;cases t)];exact t⟩
 . exact .inr t
mutual
theorem RD.swapD(hD:H Dd=some (.dK ys)):∀ {d:D}{v:V},RD Y H B d v->RD Y (upd H Dd (.dK zs)) B d v
 | _,_,.non=>.non
 | _,_,.bl b=>.bl b
 | _,_,.int i=>.int i
 | _,_,.str x ok=>.str x ok
 | _,_,.tup t s=>.tup (Zlo hD t) (RDs.swapD hD s)
 | _,_,.ref e=>.ref e
 | _,_,.ty n=>.ty n
 | _,_,.ro t s=>.ro (Zl4 hD t) (RDs.swapD hD s)
 | _,_,.kd e=>.kd e
theorem RDs.swapD(hD:H Dd=some (.dK ys)):∀ {d:List D}{v:List V},RDs Y H B d v->RDs Y (upd H Dd (.dK zs)) B d v
 | _,_,.nil=>.nil
 | _,_,.cons a s=>.cons (RD.swapD hD a) (RDs.swapD hD s)
end
theorem RKs.swapD{κ:Type}(hD:H Dd=some (.dK ys)):∀ {d:List (κ×D)}{v:List (κ×V)},RKs Y H B d v->RKs Y (upd H Dd (.dK zs)) B d v
 | _,_,.nil=>.nil
 | _,_,.cons a s=>.cons (a.swapD hD) (s.swapD hD)
theorem RO.swapD{a:Addr}{o:DO}(hD:H Dd=some (.dK ys))(ne:a≠Dd)(q:RO Y H B a o):RO Y (upd H Dd (.dK zs)) B a o:=by
 cases o with
 | lst ds=>obtain ⟨vs,z,s⟩:=q;exact ⟨vs,by rw [Zg ne];exact z,s.swapD hD⟩
 | dic ds=>obtain ⟨vs,z,s⟩:=q;exact ⟨vs,by rw [Zg ne];exact z,s.swapD hD⟩
 | ins C ds=>obtain ⟨a1,a2,a3,z,m,s⟩:=q;exact ⟨a1,a2,a3,by rw [Zg ne];exact z,m,s.swapD hD⟩
 | fdic ds=>obtain ⟨o,vs,z,s⟩:=q;exact ⟨o,vs,by rw [Zg ne];exact z,s.swapD hD⟩
end
inductive RPs(Y:Yx)(H:Hp)(B:List Addr):List D->List (V×V)->Prop
 | nil:RPs Y H B [] []
 | cons {k v:D}{r:List D}{x y:V}{ps:List (V×V)}:RD Y H B k x->RD Y H B v y->RPs Y H B r ps->RPs Y H B (k::v::r) ((x,y)::ps)
theorem RPs.pairs{Y:Yx}{H:Hp}{B:List Addr}:∀ {ds:List D}{ps:List (V×V)}{kvs:List (Key×D)},RPs Y H B ds ps->ZcO ds=some kvs->∃ kvs':List (Key×V),ps=kvs'.map (fun kv=>(kV kv.1,kv.2))/\RKs Y H B kvs kvs'
 | _,_,_,.nil,e=>by cases e;exact ⟨[],rfl,.nil⟩
 | _,_,_,.cons a b s,e=>by
   rw [ZcO] at e;split at e
   . rename_i k r e1 e2;cases e;obtain ⟨kvs',rfl,rk⟩:=s.pairs e2;have:=Zdl a e1;subst this;exact ⟨(k,_)::kvs',rfl,.cons b rk⟩
   . cases e
theorem RPs.keysOk{Y:Yx}{H:Hp}{B:List Addr}:∀ {ds:List D}{ps:List (V×V)}{kvs:List (Key×D)},RPs Y H B ds ps->ZcO ds=some kvs->Zbm kvs
 | _,_,_,.nil,e=>by cases e;intro p hp;cases hp
 | _,_,_,.cons a b s,e=>by
   rw [ZcO] at e;split at e
   . rename_i k r e1 e2;cases e;intro p hp x z;rcases O2.mp hp with rfl|hp
     . exact ZnA a e1 x z
     . exact s.keysOk e2 p hp x z
   . cases e
theorem Zec:∀ {more kvs:List (Key×D)},Zbm more->Zbm kvs->Zbm (Zb2 kvs more)
 | [],kvs,_,h=>h
 | (k,d)::r,kvs,hm,h=>Zec (more:=r) (kvs:=putD kvs k d) (fun p hp=>hm p (Oh _ hp)) (ZfR h (fun x e=>hm (k,d) Oi x e))
theorem RKs.merge{Y:Yx}{H:Hp}{B:List Addr}:∀ {more:List (Key×D)}{more':List (Key×V)}{kvs:List (Key×D)}{kvs':List (Key×V)},RKs Y H B more more'->RKs Y H B kvs kvs'->RKs Y H B (Zb2 kvs more) (ZdH kvs' more')
 | _,_,_,_,.nil,s=>s
 | _,_,_,_,.cons (k:=k) a r,s=>by
   have z:=RKs.merge r (s.put k a);exact z
theorem Zm9{T:Tb}{Y:Yx}{E:XK}{H0:Hp}{μ0:List Addr}{Q:VK}{S:Ev}{Z:L2.St}:∀ (n:Nat) (ps:Exs) {K:List D->Hd->R D}{H:Hp}{B:List Addr}{h:Hd}{Q1:List (V×V)->Hp->Prop}{Γ:Gm}{ks:List (Option Expr)}{vs:List Expr},ks.length<=n->chkp Γ ps ks vs=true ->
   Gr H0 μ0 H B->RH Y H B h->RS Y H B S Z->Fin Y (RD Y) H0 μ0 ((evs T ps S h).bind K) Q E ->
   (∀ ds h1 qs H1 μ1,Gr H B H1 μ1->RH Y H1 μ1 h1->RPs Y H1 μ1 ds qs->Fin Y (RD Y) H0 μ0 (K ds h1) Q E->Q1 qs H1)->Zg6 (Zkw T Y E ps) Z H Q1:=by
 intro n;induction n with
 | zero =>
   intro ps K H B h Q1 Γ ks vs hl hc g0 rh rs f hq;cases ps with
   | nil=>exact hq [] h [] H B Gr.refl rh .nil f
   | cons k r =>
     cases r with
     | nil=>unfold chkp at hc;cases hc
     | cons v r' =>
       unfold chkp at hc;simp only at hc;split at hc
       . simp at hl
       . cases hc
 | succ n ih =>
   intro ps K H B h Q1 Γ ks vs hl hc g0 rh rs f hq;cases ps with
   | nil=>exact hq [] h [] H B Gr.refl rh .nil f
   | cons k r =>
     cases r with
     | nil=>unfold chkp at hc;cases hc
     | cons v r' =>
       unfold chkp at hc;simp only at hc;split at hc
       . rw [Oa] at hc;have f1:Fin Y (RD Y) H0 μ0 ((ev T k S h).bind fun x h1=>(ev T v S h1).bind fun y h2=>(evs T r' S h2).bind fun xs h3=>K (x::y::xs) h3) Q E:=by
           have e:(evs T (.cons k (.cons v r')) S h).bind K=(ev T k S h).bind fun x h1=>(ev T v S h1).bind fun y h2=>(evs T r' S h2).bind fun xs h3=>K (x::y::xs) h3:=by
             show ((ev T k S h).bind fun x h1=>((ev T v S h1).bind fun y h2=>(evs T r' S h2).bind fun xs h3=>R.ok (y::xs) h3).bind fun xs h2=>R.ok (x::xs) h2).bind K=_;simp only [R.bind_assoc,R.bind_ok]
           rw [<- e];exact f
         refine ⟨S,h,B,rh,rs,Fin.bindB g0 f1 fun d h1 x H1 μ1 _ g1 rh1 rd f2=>?_⟩;refine ⟨S,h1,μ1,rh1,rs.mono rh g1,Fin.bindB (g0.trans g1) f2 fun e h2 y H2 μ2 _ g2 rh2 re f3=>?_⟩;refine ih r' (by simpa using hl) hc.2 ((g0.trans g1).trans g2) rh2 ((rs.mono rh g1).mono rh1 g2) f3 fun ds h3 qs H3 μ3 g3 rh3 rp f4=>?_;exact hq (d::e::ds) h3 ((x,y)::qs) H3 μ3 ((g1.trans g2).trans g3) rh3 (.cons ((rd.mono rh1 g2).mono rh2 g3) (re.mono rh2 g3) rp) f4
       . cases hc
theorem Zp6{T:Tb}{Y:Yx}(ps:Exs){Γ:Gm}{X:Cx}{E:XK}{k:Nat}{ks:List (Option Expr)}{vs:List Expr}{pos:Pos}(G:Gd T Γ X Y E k)(h15:ks.length<=15)(hc:chkp Γ ps ks vs=true)(hp:PPs X pos ks vs (Zkw T Y E ps))(hall:ks.all (·.isSome)=true)(hl:ks.length=vs.length):PE X (.Dict ks vs pos) (Zbq T Y E (.dictl ps)):=by
 by_cases h0:ks=[]
 . subst h0;cases vs with
   | cons a b=>cases hl
   | nil =>
     cases ps with
     | cons k r =>
       cases r with
       | nil=>unfold chkp at hc;cases hc
       | cons v r'=>unfold chkp at hc;cases hc
     | nil =>
       refine Zm8.imp fun Z H Q ⟨S,h,B,rh,rs,f⟩ p hp=>?_;have f:Fin Y (RD Y) H B (ZcI (.dic []) h) Q E:=f;exact f.new rh hp ⟨[],Zi,.nil⟩ (fun p hp=>by cases hp)
 . refine (Zpf hp hall hl h0 h15).imp fun Z H Q ⟨S,h,B,rh,rs,f⟩ p hp=>?_;have np:p ∉ B:=fun z=>by have:=rh.mut z;rw [hp] at this;exact this
   refine Zm9 ks.length ps (Oq _) hc (Gr.lay0 hp) (rh.lay0 hp) (rs.mono rh (Gr.lay0 hp)) f fun ds h1 qs H1 μ1 g1 rh1 rp f1=>?_;obtain ⟨hl1,nD⟩:=g1.out (Zi (H:=H)) np;have g01:Gr H B H1 μ1:=(Gr.lay0 hp).trans g1;split at f1
   . rename_i kvs ek;obtain ⟨hz,f1⟩:=f1.iff;obtain ⟨kvs',rfl,rk⟩:=rp.pairs ek;refine ⟨hl1,kvs',rfl,by rw [<- rk.length];exact hz,?_⟩;have f2:Fin Y (RD Y) H B (.ok (.ref h1.length) (h1++[.dic (Zb2 [] kvs)])) Q E:=f1;have g3:Gr H B (upd H1 p (.dK (ZdH [] kvs'))) (μ1++[p]):=by
       refine ⟨fun j a e=>?_,fun a ha=>?_,fun b o hb e=>?_,fun b u v e=>by rw [Zg (fun z=>by rw [z,hp] at e;cases e)];exact g01.fz b u v e⟩
       . have:=g01.pre j a e;rw [Oe (Ob.mp this).1];exact this
       . rcases OD.mp ha with z|z
         . exact g01.new a z
         . rw [Ox.mp z];exact .inr hp
       . rw [Zg (fun z=>by rw [z,hp] at e;cases e)];exact g01.keep b o hb e
     refine f2.at g3 ?_ (.ref (by rw [rh1.len];simp));refine ⟨by simp [rh1.len],?_,fun j o a e1 e2=>?_,ZjD rh1.ks (show Zbm (Zb2 [] kvs) from Zec (rp.keysOk ek) (fun p hp=>by cases hp))⟩
     . rw [List.nodup_append];refine ⟨rh1.nd,by simp,fun a ha b hb=>?_⟩;rw [Ox.mp hb];intro z;exact nD (z ▸ ha)
     . by_cases hj:j<h1.length
       . rw [Oe hj] at e1;rw [Oe (by rw [<- rh1.len];exact hj)] at e2;exact ((rh1.ob j o a e1 e2).swapD hl1 (fun z=>nD (z ▸ O1 e2))).more
       . have hj':j=h1.length:=by
           have:=(Ob.mp e1).1;simp at this;omega
         subst hj';rw [Om (Oq _)] at e1;rw [Om (by rw [rh1.len];exact Oq _)] at e2;simp [rh1.len] at e1 e2;subst e1;subst e2;exact ⟨_,Zi,((rk.merge .nil).swapD hl1).more⟩
   . exact f1.elim
mutual
theorem Zk{T:Tb}{Y:Yx}:∀ (e:Ex) {Γ:Gm}{X:Cx}{E:XK}{k:Nat}{x:Expr},Gd T Γ X Y E k->chk Γ e x=true->PE X x (Zbq T Y E e)
 | .var i,Γ,X,E,k,x,G,h=>by
   unfold chk at h;split at h
   . rw [Oa,Oa,Oa] at h;obtain ⟨⟨⟨h1,h2⟩,h3⟩,h4⟩:=h;refine (ZrK (by rw [G.N];exact of_decide_eq_true h1) (G.vis _ h2) (by simpa using h3) (by simpa using h4)).imp fun Z H Q ⟨S,h,B,rh,rs,f⟩=>?_;obtain ⟨d,e,f⟩:=Fin.ofO (show Fin Y (RD Y) H B (R.ofO (S[i]?).join h) Q E from f);obtain ⟨v,e1,rd⟩:=rs.var e;exact ⟨v,e1,f.ok rh rd⟩
   . cases h
 | .cst d,Γ,X,E,k,x,G,h=>Zn4 G (by unfold chk at h;exact h)
 | .glo y,Γ,X,E,k,x,G,h=>by
   unfold chk at h;split at h
   . rw [Oa] at h;have e:=of_decide_eq_true h.1;subst e;obtain ⟨g1,g2⟩:=G.gl h.2;intro pins s Z H Q I ⟨S,h,B,rh,rs,f⟩;obtain ⟨d,e,f⟩:=Fin.ofO (show Fin Y (RD Y) H B (R.ofO (T.G y) h) Q E from f);obtain ⟨v,u,hm,rv,rd⟩:=G.gk.g y d e;exact Zpe g1 hm rv g2 pins s Z H Q I (f.ok rh (rd H B))
   . cases h
 | .bin op a b,Γ,X,E,k,x,G,h=>by
   unfold chk at h;split at h
   . rw [Oa,Oa] at h;have e:=of_decide_eq_true h.1.1;subst e;exact (ZtL (Zr2 G.gk.K op) (Zk a G h.1.2) (Zk b G h.2)).imp fun Z H Q ⟨S,h,B,rh,rs,f⟩=>Zls rh rs f
   . cases h
 | .cmp op a b,Γ,X,E,k,x,G,h=>by
   unfold chk at h;split at h
   . rw [Oa,Oa,Oa] at h;have e:=of_decide_eq_true h.1.1.1;subst e;exact (ZkM (Znd G.room G.h60 G.gk op) (Zk a G h.1.1.2) (Zk b G h.1.2) (Zfc h.2)).imp fun Z H Q ⟨S,h,B,rh,rs,f⟩=>Zls rh rs f
   . cases h
 | .cmp2 o1 o2 a b c,Γ,X,E,k,x,G,h=>by unfold chk at h;cases h
 | .neg a,Γ,X,E,k,x,G,h=>by
   unfold chk at h;split at h
   . refine (ZtJ Zq5 (Zk a G h)).imp fun Z H Q ⟨S,h,B,rh,rs,f⟩=>⟨S,h,B,rh,rs,Fin.bind f fun d h1 x H1 μ1 _ g rh1 rd f1=>?_⟩
     cases rd with
     | int i=>exact ⟨i,rfl,Fin.ok f1 rh1 (.int _)⟩
     | _=>exact f1.elim
   . cases h
 | .nt a,Γ,X,E,k,x,G,h=>by
   unfold chk at h;split at h
   . refine (ZrN (Zk a G h)).imp fun Z H Q ⟨S,h,B,rh,rs,f⟩=>⟨S,h,B,rh,rs,Fin.bind f fun d h1 x H1 μ1 _ g rh1 rd f1=>?_⟩
     cases rd with
     | bl i=>exact ⟨i,rfl,Fin.ok f1 rh1 (.bl _)⟩
     | _=>exact f1.elim
   . cases h
 | .ands es,Γ,X,E,k,x,G,h=>by
   unfold chk at h;split at h
   . exact and_ok es G h
   . cases h
 | .ors es,Γ,X,E,k,x,G,h=>by
   unfold chk at h;split at h
   . exact or_ok es G h
   . cases h
 | .ite c a b,Γ,X,E,k,x,G,h=>by
   unfold chk at h;split at h
   . rw [Oa,Oa] at h;refine (Zm7 (tst_ok c G h.1.1) (Zk a G h.1.2) (Zk b G h.2)).imp fun Z H Q ⟨S,h,B,rh,rs,f⟩=>⟨S,h,B,rh,rs,Fin.bind f fun d h1 x H1 μ1 _ g rh1 rd f1=>?_⟩
     subst rd;cases d with
     | true=>exact ZjR ⟨S,h1,μ1,rh1,rs.mono rh g,f1⟩
     | false=>exact ZjS ⟨S,h1,μ1,rh1,rs.mono rh g,f1⟩
   . cases h
 | .tupl es,Γ,X,E,k,x,G,h=>by
   unfold chk at h;split at h
   . refine (ZrL (evs_ok es G h)).imp fun Z H Q ⟨S,h,B,rh,rs,f⟩=>⟨S,h,B,rh,rs,Fin.bind f fun d h1 x H1 μ1 _ g rh1 rd f1=>?_⟩
     obtain ⟨hz,f1⟩:=f1.iff;exact ⟨by rw [<- rd.length];exact hz,fun p hp=>f1.tup rh1 hp rd⟩
   . cases h
 | .lstl es,Γ,X,E,k,x,G,h=>by
   unfold chk at h;split at h
   . refine (ZrO (evs_ok es G h)).imp fun Z H Q ⟨S,h,B,rh,rs,f⟩=>⟨S,h,B,rh,rs,Fin.bind f fun d h1 x H1 μ1 _ g rh1 rd f1=>?_⟩
     obtain ⟨hz,f1⟩:=f1.iff;exact ⟨by rw [<- rd.length];exact hz,fun p hp=>f1.new rh1 hp ⟨_,Zi,rd.mono rh1 (Gr.lay hp)⟩⟩
   . cases h
 | .ix a i,Γ,X,E,k,x,G,h=>by
   unfold chk at h;split at h
   . rw [Oa,Oa] at h;exact (ZtM (Zpr G.gk) (Zk a G h.1.1) (Zk i G h.1.2) (Zmv h.2)).imp fun Z H Q ⟨S,h,B,rh,rs,f⟩=>Zls rh rs f
   . cases h
 | .sl a lo hi,Γ,X,E,k,x,G,h=>by
   unfold chk at h;split at h
   . rw [Oa,Oa] at h;refine (Zm1 (Zpp (E:=E) G.gk.K) (Zk a G h.1.1) (evo_ok lo G h.1.2) (evo_ok hi G h.2)).imp fun Z H Q ⟨S,h,B,rh,rs,f⟩=>⟨S,h,B,rh,rs,Fin.bind f fun d h1 x H1 μ1 _ g rh1 rd f1 =>
       ⟨S,h1,μ1,rh1,rs.mono rh g,Fin.bind f1 fun l h2 l' H2 μ2 _ g2 rh2 rl f2=>⟨S,h2,μ2,rh2,(rs.mono rh g).mono rh1 g2,Fin.bind f2 fun u h3 u' H3 μ3 _ g3 rh3 ru f3=>?_⟩⟩⟩
     subst rl ru;exact ⟨d,h3,μ3,rh3,(rd.mono rh1 g2).mono rh2 g3,f3⟩
   . cases h
 | .blt f es,Γ,X,E,k,x,G,h=>by
   unfold chk at h;split at h
   . rename_i y ys _;rw [Oa,Oa] at h;have e:=of_decide_eq_true h.1.1;subst e;have hs:=h.2;have st:Z7 y=true:=by
       cases es with
       | nil=>rw [chks] at hs;cases hs
       | cons e r=>rw [chks,Oa,Oa] at hs;exact hs.1.2
     have sp:∀ pos,(backTo pos (starEach ys X.env)).any (·.1)=false:=by
       cases es with
       | nil=>rw [chks] at hs;cases hs
       | cons e r=>rw [chks,Oa,Oa] at hs;exact Zbu Γ X.env r ys hs.2
     exact (ZsH G f ((Oa _ _).mp h.1.2).1 (G.gl ((Oa _ _).mp h.1.2).2).1 (evs_ok es G h.2) (Zo X.env st) (sp _)).imp fun Z H Q ⟨S,h,B,rh,rs,f⟩=>⟨S,h,B,rh,rs,Fin.bind f fun d h1 x H1 μ1 _ g rh1 rd f1=>⟨d,h1,μ1,rh1,rd,f1⟩⟩
   . cases h
 | .call f es,Γ,X,E,k,x,G,h=>by
   unfold chk at h;split at h
   . rename_i y ys _;rw [Oa,Oa,Oa] at h;have e:=of_decide_eq_true h.1.1.1;subst e;obtain ⟨ps,hd⟩:=G.defs _ (of_decide_eq_true h.1.1.2);obtain ⟨g1,g2⟩:=G.gl h.1.2;have hs:=h.2;have st:Z7 y=true:=by
       cases es with
       | nil=>rw [chks] at hs;cases hs
       | cons e r=>rw [chks,Oa,Oa] at hs;exact hs.1.2
     have sp:∀ pos,(backTo pos (starEach ys X.env)).any (·.1)=false:=by
       cases es with
       | nil=>rw [chks] at hs;cases hs
       | cons e r=>rw [chks,Oa,Oa] at hs;exact Zbu Γ X.env r ys hs.2
     exact (ZrQ hd G.room g1 G.pass (evs_ok es G h.2) g2 (Zo X.env st) (sp _)).imp fun Z H Q ⟨S,h,B,rh,rs,f⟩=>⟨S,h,B,rh,rs,Fin.bind f fun d h1 x H1 μ1 _ g rh1 rd f1=>⟨d,h1,μ1,rh1,rd,f1⟩⟩
   . cases h
 | .meth m o es,Γ,X,E,k,x,G,h=>by
   unfold chk at h;split at h
   . rename_i xo n ap ys cp;rw [Oa,Oa,Oa,Oa,Oa] at h;obtain ⟨⟨⟨⟨⟨h1,h2⟩,h3⟩,h4⟩,h5⟩,h6⟩:=h;have e:=of_decide_eq_true h1;subst e;obtain ⟨sl,ty⟩:=Zt3 m;have tyl:∀ {H1:Hp}{μ1:List Addr}{h1:Hd}{d:D}{v:V},RH Y H1 μ1 h1->RD Y H1 μ1 d v->Zdz d h1=true->tyV X.K "list" v H1:=by
       intro H1 μ1 h1 d v rh r il;cases r with
       | ref q =>
         rename_i i a;have:∃ xs,h1[i]? = some (.lst xs):=by
           unfold Zdz at il;simp only at il;split at il
           . exact ⟨_,by assumption⟩
           . cases il
         obtain ⟨xs,hx⟩:=this;obtain ⟨vs,hl,_⟩:=rh.ob i _ a hx q;exact .inl ⟨rfl,vs,.of hl⟩
       | _=>cases il
     cases ys with
     | nil =>
       refine (ZrR PySem.F.plainAttrs_list sl ty (ZkQ (Y:=Y) (E:=E) G.gk.K m) (Zk o G h2) (Zff h3) h6).imp fun Z H Q ⟨S,h,B,rh,rs,f⟩=>⟨S,h,B,rh,rs,Fin.bind f fun d h1 x H1 μ1 _ g rh1 rd f1=>?_⟩
       obtain ⟨il,f1⟩:=f1.iff;refine ⟨tyl rh1 rd il,?_⟩;cases es with
       | nil=>exact ⟨d,[],h1,μ1,rh1,rd,.nil,f1⟩
       | cons e r=>unfold chks at h4;cases h4
     | cons y ys =>
       have st:Z7 y=true:=by
         cases es with
         | nil=>unfold chks at h4;cases h4
         | cons e r=>unfold chks at h4;rw [Oa,Oa] at h4;exact h4.1.2
       have sp:∀ pos,(backTo pos (starEach ys X.env)).any (·.1)=false:=by
         cases es with
         | nil=>unfold chks at h4;cases h4
         | cons e r=>unfold chks at h4;rw [Oa,Oa] at h4;exact Zbu Γ X.env r ys h4.2
       refine (ZtN PySem.F.plainAttrs_list sl ty (ZkQ (Y:=Y) (E:=E) G.gk.K m) (Zk o G h2) (evs_ok es G h4) (Zff h3) ?_ h6 (Zo X.env st) (sp _)).imp fun Z H Q ⟨S,h,B,rh,rs,f⟩=>⟨S,h,B,rh,rs,Fin.bind f fun d h1 x H1 μ1 _ g rh1 rd f1=>?_⟩
       . rw [Zeq Γ X.env es (y::ys) h4];have:=of_decide_eq_true h5;have h30:decide ((y::ys).length+([]:List Keyword).length+(if ([]:List Keyword).isEmpty then 0 else 1)<30)=true:=by
           rw [decide_eq_true_eq];simp only [List.isEmpty_nil,List.length_nil,if_true];omega
         rw [h30];rfl
       . obtain ⟨il,f1⟩:=f1.iff;exact ⟨tyl rh1 rd il,S,h1,μ1,rh1,rs.mono rh g,f1.bind fun ds h2 xs H2 μ2 _ g2 rh2 rds f2=>⟨d,ds,h2,μ2,rh2,rd.mono rh1 g2,rds,f2⟩⟩
   . cases h
 | .comp NC js it g c e,Γ,X,E,k,x,G,h=>by
   unfold chk at h;split at h
   . rename_i scope _;rw [Oa,Oa,Oa,Oa,Oa,Oa,Oa] at h;obtain ⟨⟨⟨⟨⟨⟨⟨h0,h1⟩,h2⟩,h3⟩,h4⟩,h5⟩,h6⟩,h7⟩:=h;have S_:=ZiR h1;rw [<- G.N,<- G.sc h0] at S_;have Gc:=fun (C:Addr) (s3:Shared) (H3:Hp) (fp:List Addr)=>G.comp NC scope C s3 H3 fp S_.nd;rw [OC] at h5;refine (Zpg (g:=tgR X.K g) (tc:=fun Z H Q=>∃ S h B,RH Y H B h/\RS Y H B S Z/\Fin Y (fun _ _ (a b:Bool)=>a=b) H B (tsto T c S h) Q E0) (te:=Zbq T Y E0 e) S_ rfl G.calm (evi_ok it G h2) (fun C s3 H3 fp=>⟨ZkL rfl S_.nd rfl (fun x hx=>?_) h4,?_,Zk e (Gc C s3 H3 fp) h7⟩) (Zta X.K g) (fun j hj=>of_decide_eq_true (h5 j (List.mem_range.mpr hj))) (Zjd X.env h3)).imp
       fun Z H Q ⟨S,h,B,rh,rs,f⟩=>⟨S,h,B,rh,rs,Fin.bind f fun w h1 J H1 μ1 _ g1 rh1 wj f1 D hD=>Zk7 G.gk.K (fun _ _ _ z=>z) rh1 (rs.mono rh g1) wj f1 hD⟩
     . have hl:=of_decide_eq_true hx;have:(relabel scope X.env).names.lookup x=some .local:=by rw [ZaB,hl];rfl
       exact ⟨.inl this,.inr this⟩
     . exact ifs_ok c (Gc C s3 H3 fp) h6
   . cases h
 | .sorts e,Γ,X,E,k,x,G,h=>by unfold chk at h;cases h
 | .trev e,Γ,X,E,k,x,G,h=>by unfold chk at h;cases h
 | .lrv e,Γ,X,E,k,x,G,h=>by unfold chk at h;cases h
 | .tix o e,Γ,X,E,k,x,G,h=>by unfold chk at h;cases h
 | .lix o e,Γ,X,E,k,x,G,h=>by unfold chk at h;cases h
 | .lin a b,Γ,X,E,k,x,G,h=>by
   unfold chk at h;split at h
   . rw [Oa,Oa,Oa] at h;have e:=of_decide_eq_true h.1.1.1;subst e;exact (ZkM (Zii G.room G.h60 G.gk.K) (Zk a G h.1.1.2) (Zk b G h.1.2) (Zfc h.2)).imp fun Z H Q ⟨S,h,B,rh,rs,f⟩=>Zls rh rs f
   . cases h
 | .any,Γ,X,E,k,x,G,h=>fun pins s Z H Q I ⟨S,h,B,rh,rs,f⟩=>f.elim
 | .att Cs o f,Γ,X,E,k,x,G,h=>by
   unfold chk at h;split at h
   . rw [Oa,Oa,Oa,Oa] at h;obtain ⟨⟨⟨⟨h1,h2⟩,h3⟩,h4⟩,h5⟩:=h;have e:=of_decide_eq_true h1;subst e;exact (ZrP (Zk o G h2) (Zff h3)).imp fun Z H Q ⟨S,h,B,rh,rs,f⟩=>⟨S,h,B,rh,rs,Fin.bind f fun d h1 x H1 μ1 _ g rh1 rd f1=>ZsL G h4 (of_decide_eq_true h5) rh1 rd f1⟩
   . cases h
 | .mk C es,Γ,X,E,k,x,G,h=>by
   unfold chk at h;split at h
   . rw [Oa,Oa,Oa] at h;obtain ⟨⟨⟨h1,h2⟩,h3⟩,h4⟩:=h;have e:=of_decide_eq_true h1;subst e;exact Zt5 G (of_decide_eq_true h2) h3 h4 (evs_ok es G h4)
   . cases h
 | .mcl C m o es,Γ,X,E,k,x,G,h=>by
   unfold chk at h;split at h
   . rw [Oa,Oa,Oa,Oa,Oa,Oa] at h;obtain ⟨⟨⟨⟨⟨⟨h1,h2⟩,h3⟩,h4⟩,h5⟩,h6⟩,h7⟩:=h;have e:=of_decide_eq_true h1;subst e;exact Zsa G (of_decide_eq_true h5) h3 h4 (of_decide_eq_true h6) h7 (Zk o G h2) (evs_ok es G h4)
   . cases h
 | .maxd a d,Γ,X,E,k,x,G,h=>by
   unfold chk at h;split at h
   . rw [Oa,Oa,Oa,Oa,Oa] at h;obtain ⟨⟨⟨⟨⟨h1,h2⟩,h3⟩,h4⟩,h5⟩,h6⟩:=h;have e1:=of_decide_eq_true h1;have e2:=of_decide_eq_true h2;subst e1 e2;refine (Zpc (G.gl h3).1 (G.blt _ (by decide)) G.calm (Zk a G h4) (Zk d G h6) (Zo X.env h5)).imp fun Z H Q ⟨S,h,B,rh,rs,f⟩=>⟨S,h,B,rh,rs,Fin.bind f fun x h1 v H1 μ1 _ g rh1 rx f1=>⟨S,h1,μ1,rh1,rs.mono rh g,Fin.bind f1 fun y h2 u H2 μ2 _ g2 rh2 ry f2=>?_⟩⟩
     cases ry with
     | int d =>
       obtain ⟨r,er,f2⟩:=Fin.ofO (show Fin Y (RD Y) H2 μ2 (R.ofO (((lstOf x h2).bind intsOf).map fun ns=>.int (ZcS ns d)) h2) Q E from f2);obtain ⟨ns,e2,rfl⟩:=Oo.mp er;obtain ⟨zs,e3,e4⟩:=Option.bind_eq_some_iff.mp e2;obtain ⟨a,vs,rfl,hl,rv⟩:=(rx.mono rh1 g2).lstOf rh2 e3;rw [ZfX rv e4] at hl;exact ⟨a,ns,d,rfl,rfl,G.gk.K ▸ hl,f2.ok rh2 (.int _)⟩
     | _=>exact f2.elim
   . cases h
 | .dictl ps,Γ,X,E,k,x,G,h=>by
   unfold chk at h;split at h
   . rw [Oa] at h;obtain ⟨p1,p2,p3⟩:=pairs_ok ps G h.2;exact Zp6 ps G (of_decide_eq_true h.1) h.2 p1 p2 p3
   . cases h
theorem evs_ok{T:Tb}{Y:Yx}:∀ (e:Exs) {Γ:Gm}{X:Cx}{E:XK}{k:Nat}{x:List Expr},Gd T Γ X Y E k->chks Γ e x=true->PA X x (ZoM T Y E e)
 | .nil,Γ,X,E,k,x,G,h=>by
   rw [chks] at h;cases x with
   | nil=>exact ZfL.imp fun Z H Q ⟨S,h,B,rh,rs,f⟩=>Fin.ok (show Fin Y (RDs Y) H B (.ok [] h) Q E from f) rh .nil
   | cons a b=>cases h
 | .cons e r,Γ,X,E,k,x,G,h=>by
   cases x with
   | nil=>rw [chks] at h;cases h
   | cons y ys =>
     rw [chks,Oa,Oa] at h;exact (Zd5 (Zk e G h.1.1) (evs_ok r G h.2) (Zo X.env h.1.2)).imp fun Z H Q ⟨S,h,B,rh,rs,f⟩=>⟨S,h,B,rh,rs,Fin.bind f fun d h1 x H1 μ1 _ g rh1 rd f1 =>
       ⟨S,h1,μ1,rh1,rs.mono rh g,f1.bind fun ds h2 xs H2 μ2 _ g2 rh2 rds f2=>f2.ok rh2 (.cons (rd.mono rh1 g2) rds)⟩⟩
theorem and_ok{T:Tb}{Y:Yx}:∀ (e:Exs) {Γ:Gm}{X:Cx}{E:XK}{k:Nat}{x:List Expr}{pos:Pos},Gd T Γ X Y E k->chks Γ e x=true->PE X (.BoolOp .And x pos) (Zbq T Y E (.ands e))
 | .nil,Γ,X,E,k,x,pos,G,h=>fun pins s Z H Q I ⟨S,h,B,rh,rs,f⟩=>f.elim
 | .cons e r,Γ,X,E,k,x,pos,G,h=>by
   cases x with
   | nil=>rw [chks] at h;cases h
   | cons y ys =>
     rw [chks,Oa,Oa] at h;cases r with
     | nil =>
       have h2:=h.2;rw [chks] at h2;cases ys with
       | nil=>exact (Zm2 (Zk e G h.1.1)).imp fun Z H Q q=>q
       | cons a b=>cases h2
     | cons e' r' =>
       cases ys with
       | nil=>have h2:=h.2;rw [chks] at h2;cases h2
       | cons z zs =>
         refine (ZrS (Zk e G h.1.1) (and_ok (.cons e' r') G h.2)).imp fun Z H Q ⟨S,h,B,rh,rs,f⟩=>⟨S,h,B,rh,rs,Fin.bind f fun d h1 x H1 μ1 _ g rh1 rd f1=>?_⟩
         cases rd with
         | bl c =>
           refine ⟨c,rfl,?_⟩;cases c with
           | true=>exact ZjR ⟨S,h1,μ1,rh1,rs.mono rh g,f1⟩
           | false=>exact ZjS (Fin.ok f1 rh1 (.bl _))
         | _=>exact f1.elim
theorem or_ok{T:Tb}{Y:Yx}:∀ (e:Exs) {Γ:Gm}{X:Cx}{E:XK}{k:Nat}{x:List Expr}{pos:Pos},Gd T Γ X Y E k->chks Γ e x=true->PE X (.BoolOp .Or x pos) (Zbq T Y E (.ors e))
 | .nil,Γ,X,E,k,x,pos,G,h=>fun pins s Z H Q I ⟨S,h,B,rh,rs,f⟩=>f.elim
 | .cons e r,Γ,X,E,k,x,pos,G,h=>by
   cases x with
   | nil=>rw [chks] at h;cases h
   | cons y ys =>
     rw [chks,Oa,Oa] at h;cases r with
     | nil =>
       have h2:=h.2;rw [chks] at h2;cases ys with
       | nil=>exact (Zm2 (Zk e G h.1.1)).imp fun Z H Q q=>q
       | cons a b=>cases h2
     | cons e' r' =>
       cases ys with
       | nil=>have h2:=h.2;rw [chks] at h2;cases h2
       | cons z zs =>
         refine (ZtK (Zk e G h.1.1) (or_ok (.cons e' r') G h.2)).imp fun Z H Q ⟨S,h,B,rh,rs,f⟩=>⟨S,h,B,rh,rs,Fin.bind f fun d h1 x H1 μ1 _ g rh1 rd f1=>?_⟩
         cases rd with
         | bl c =>
           refine ⟨c,rfl,?_⟩;cases c with
           | true=>exact ZjR (Fin.ok f1 rh1 (.bl _))
           | false=>exact ZjS ⟨S,h1,μ1,rh1,rs.mono rh g,f1⟩
         | _=>exact f1.elim
theorem evo_ok{T:Tb}{Y:Yx}:∀ (e:Option Ex) {Γ:Gm}{X:Cx}{E:XK}{k:Nat}{x:Option Expr},Gd T Γ X Y E k->chko Γ e x=true->PO X x (Zvb T Y E e)
 | none,Γ,X,E,k,x,G,h=>by
   unfold chko at h;cases x with
   | none=>exact Zo6.imp fun Z H Q ⟨S,h,B,rh,rs,f⟩=>Fin.ok (show Fin Y _ H B (.ok none h) Q E from f) rh rfl
   | some a=>cases h
 | some e,Γ,X,E,k,x,G,h=>by
   unfold chko at h;cases x with
   | none=>cases h
   | some a =>
     refine (Zo5 (Zk e G h)).imp fun Z H Q ⟨S,h,B,rh,rs,f⟩=>⟨S,h,B,rh,rs,Fin.bind f fun d h1 x H1 μ1 _ g rh1 rd f1=>?_⟩
     cases rd with
     | int i=>exact ⟨i,rfl,Fin.ok f1 rh1 rfl⟩
     | _=>exact f1.elim
theorem tst_ok{T:Tb}{Y:Yx}:∀ (e:Tx) {Γ:Gm}{X:Cx}{E:XK}{k:Nat}{x:Expr},Gd T Γ X Y E k->chkt Γ e x=true->PT X x (Zlr T Y E e)
 | .ex e,Γ,X,E,k,x,G,h=>by
   unfold chkt at h;rw [Oa] at h;have pl:=ZlE G (Zk e G h.2) h.1;by_cases hx:∀ l o r p,x≠.Compare l o r p
   . exact pl hx
   . have h2:=h.2;cases e with
     | cmp op a b =>
       unfold chk at h2;split at h2
       . rw [Oa,Oa,Oa] at h2;have e:=of_decide_eq_true h2.1.1.1;subst e;exact Zp9 G (Zk a G h2.1.1.2) (Zk b G h2.1.2) h2.2
       . cases h2
     | lin a b =>
       unfold chk at h2;split at h2
       . rw [Oa,Oa,Oa] at h2;have e:=of_decide_eq_true h2.1.1.1;subst e;exact ZpH G (Zk a G h2.1.1.2) (Zk b G h2.1.2) h2.2
       . cases h2
     | cmp2 o1 o2 a b c=>unfold chk at h2;cases h2
     | _ =>
       refine pl fun l o r p z=>?_;subst z;rcases Zqb h2 with ⟨_,_,_,q⟩|⟨_,_,_,_,_,q⟩|⟨_,_,q⟩<;>cases q
 | .ands ts,Γ,X,E,k,x,G,h=>by
   unfold chkt at h;split at h
   . exact (tand_ok ts G h).pt
   . cases h
 | .ors ts,Γ,X,E,k,x,G,h=>by
   unfold chkt at h;split at h
   . exact (tor_ok ts G h).pt
   . cases h
 | .nt t,Γ,X,E,k,x,G,h=>by
   unfold chkt at h;split at h
   . exact (ZrA (tst_ok t G h)).imp fun Z H Q ⟨S,h,B,rh,rs,f⟩=>⟨S,h,B,rh,rs,Fin.bind (show Fin Y _ H B ((tst T t S h).bind fun c h1=>.ok (!c) h1) Q E from f) fun d h1 x H1 μ1 er g rh1 rd f1=>by
       subst rd;exact Fin.ok f1 rh1 rfl⟩
   . cases h
theorem tand_ok{T:Tb}{Y:Yx}:∀ (e:Txs) {Γ:Gm}{X:Cx}{E:XK}{k:Nat}{x:List Expr}{pos:Pos},Gd T Γ X Y E k->chkts Γ e x=true->PW X (.BoolOp .And x pos) (Zlr T Y E (.ands e))
 | .one t,Γ,X,E,k,x,pos,G,h=>by
   unfold chkts at h;split at h
   . exact (ZoY (tst_ok t G h)).imp fun Z H Q q=>q
   . cases h
 | .cons t ts,Γ,X,E,k,x,pos,G,h=>by
   unfold chkts at h;split at h
   . rw [Oa] at h;refine (Zry (tst_ok t G h.1) (tand_ok ts G h.2)).imp fun Z H Q ⟨S,h,B,rh,rs,f⟩=>⟨S,h,B,rh,rs,Fin.bind (show Fin Y _ H B ((tst T t S h).bind fun c h1=>if c then tstAnd T ts S h1 else .ok false h1) Q E from f) fun d h1 x H1 μ1 er g rh1 rd f1=>?_⟩
     subst rd;cases d with
     | true=>exact ZjR ⟨S,h1,μ1,rh1,rs.mono rh g,f1⟩
     | false=>exact ZjS (Fin.ok f1 rh1 rfl)
   . cases h
theorem tor_ok{T:Tb}{Y:Yx}:∀ (e:Txs) {Γ:Gm}{X:Cx}{E:XK}{k:Nat}{x:List Expr}{pos:Pos},Gd T Γ X Y E k->chkts Γ e x=true->PW X (.BoolOp .Or x pos) (Zlr T Y E (.ors e))
 | .one t,Γ,X,E,k,x,pos,G,h=>by
   unfold chkts at h;split at h
   . exact (Zrx (tst_ok t G h)).imp fun Z H Q q=>q
   . cases h
 | .cons t ts,Γ,X,E,k,x,pos,G,h=>by
   unfold chkts at h;split at h
   . rw [Oa] at h;refine (ZtE (tst_ok t G h.1) (tor_ok ts G h.2)).imp fun Z H Q ⟨S,h,B,rh,rs,f⟩=>⟨S,h,B,rh,rs,Fin.bind (show Fin Y _ H B ((tst T t S h).bind fun c h1=>if c then .ok true h1 else tstOr T ts S h1) Q E from f) fun d h1 x H1 μ1 er g rh1 rd f1=>?_⟩
     subst rd;cases d with
     | true=>exact ZjR (Fin.ok f1 rh1 rfl)
     | false=>exact ZjS ⟨S,h1,μ1,rh1,rs.mono rh g,f1⟩
   . cases h
theorem ifs_ok{T:Tb}{Y:Yx}:∀ (c:Option Tx) {Γ:Gm}{X:Cx}{E:XK}{k:Nat}{x:List Expr},Gd T Γ X Y E k->chkf Γ c x=true->PIf X x (fun Z H Q=>∃ S h B,RH Y H B h/\RS Y H B S Z/\Fin Y (fun _ _ (a b:Bool)=>a=b) H B (tsto T c S h) Q E)
 | none,Γ,X,E,k,x,G,h=>by
   unfold chkf at h;cases x with
   | nil =>
     intro pins s Z H Q I ⟨S,h,B,rh,rs,f⟩;exact Zo8 pins s Z H Q I (Fin.ok (show Fin Y (fun _ _ (a b:Bool)=>a=b) H B (.ok true h) Q E from f) rh rfl)
   | cons a b=>cases h
 | some t,Γ,X,E,k,x,G,h=>by
   unfold chkf at h;split at h
   . exact Zo7 (tst_ok t G h)
   . cases h
theorem evi_ok{T:Tb}{Y:Yx}:∀ (e:Ix) {Γ:Gm}{X:Cx}{E:XK}{k:Nat}{x tg:Expr},Gd T Γ X Y E k->chki Γ e tg x=true->PI X tg x (Zvc T Y E e)
 | .pl e,Γ,X,E,k,x,tg,G,h=>by
   unfold chki at h;refine (ZrI (Zk e G h)).imp fun Z H Q ⟨S,h,B,rh,rs,f⟩=>⟨S,h,B,rh,rs,Fin.bind (show Fin Y _ H B ((ev T e S h).bind fun x h1=>R.ofO (Zan x h1) h1) Q E from f) fun d h1 x H1 μ1 er g rh1 rd f1=>?_⟩
   obtain ⟨w,ew,f1⟩:=f1.ofO;exact Zov G.gk.K rh1 rd ew fun J wj=>f1.ok rh1 wj
 | .rng e,Γ,X,E,k,x,tg,G,h=>by
   unfold chki at h;split at h
   . rw [Oa,Oa,Oa] at h;obtain ⟨⟨⟨h1,h2⟩,h3⟩,h4⟩:=h;have e1:=of_decide_eq_true h1;subst e1;refine (ZlG (G.gl h2).1 (G.blt _ (by decide)) (Zd5 (Zk e G h3) ZfL (Zo X.env h4)) (Zo X.env h4)).imp fun Z H Q ⟨S,h,B,rh,rs,f⟩=>⟨S,h,B,rh,rs,Fin.bind f fun d h1 x H1 μ1 er g rh1 rd f1=>?_⟩
     cases rd with
     | int j =>
       obtain ⟨hz,f1⟩:=Fin.iff (show Fin Y (WJ Y) H1 μ1 (if Za1 j=true then .ok ⟨none,Zaz 0 j.toNat⟩ h1 else .bad) Q E from f1);unfold Za1 at hz;rw [Oa] at hz;exact ⟨j,rfl,of_decide_eq_true hz.1,of_decide_eq_true hz.2,f1.ok rh1 Zq1⟩
     | _=>exact f1.elim
   . cases h
 | .rng2 a b,Γ,X,E,k,x,tg,G,h=>by unfold chki at h;cases h
 | .enu e,Γ,X,E,k,x,tg,G,h=>by
   unfold chki at h;split at h
   . rw [Oa,Oa,Oa,Oa] at h;obtain ⟨⟨⟨⟨h1,h2⟩,h3⟩,h4⟩,h5⟩:=h;have e1:=of_decide_eq_true h1;subst e1;have:∃ es kk tp,tg=.Tuple es kk tp:=by
       cases tg<;>first|exact ⟨_,_,_,rfl⟩|cases h5
     obtain ⟨es,kk,tp,rfl⟩:=this;refine (Zpa (G.gl h2).1 (G.blt _ (by decide)) (Zd5 (Zk e G h3) ZfL (Zo X.env h4)) (Zo X.env h4)).imp fun Z H Q ⟨S,h,B,rh,rs,f⟩=>⟨S,h,B,rh,rs,Fin.bind f fun d h1 x H1 μ1 er g rh1 rd f1=>?_⟩
     obtain ⟨w,ew,f1⟩:=f1.ofO;obtain ⟨w0,ew0,rfl⟩:=Oo.mp ew;cases d with
     | ro xs =>
       cases ew0;cases rd with
       | ro t s =>
         refine ⟨_,rfl,⟨_,G.gk.K ▸ t.sq⟩,f1.ok rh1 (Zkp (Zqq G.gk.K rh1 t s) fun H2 μ2 h2 g2 rh2 st=>⟨_,G.gk.K ▸ (g2.rdF rh1 t).sq,s.mono rh1 g2⟩)⟩
     | ref i =>
       unfold Zkq at ew0;simp only at ew0;split at ew0
       . rename_i xs hi;cases ew0;obtain ⟨a,vs,rfl,hm,hl,s⟩:=rd.lst rh1 hi;refine ⟨a,rfl,⟨vs,.of hl⟩,f1.ok rh1 (Zkp (Zmh hm) fun H2 μ2 h2 g2 rh2 st=>?_)⟩;obtain ⟨vs2,hl2,s2⟩:=rh2.ob i _ a (Zfp st) (g2.pre i a hm);exact ⟨vs2,.of hl2,s2⟩
       . cases ew0
     | _=>cases ew0
   . cases h
 | .rev e,Γ,X,E,k,x,tg,G,h=>by
   unfold chki at h;split at h
   . rw [Oa,Oa,Oa] at h;obtain ⟨⟨⟨h1,h2⟩,h3⟩,h4⟩:=h;have e1:=of_decide_eq_true h1;subst e1;refine (Zo9 (G.gl h2).1 (G.blt _ (by decide)) (Zd5 (Zk e G h3) ZfL (Zo X.env h4)) (Zo X.env h4)).imp fun Z H Q ⟨S,h,B,rh,rs,f⟩=>⟨S,h,B,rh,rs,Fin.bind f fun d h1 x H1 μ1 er g rh1 rd f1=>?_⟩
     obtain ⟨w,ew,f1⟩:=f1.ofO;obtain ⟨w0,ew0,rfl⟩:=Oo.mp ew;cases d with
     | tup xs =>
       cases ew0;obtain ⟨a,vs,rfl,t,s⟩:=rd.tup_inv;exact ⟨a,vs,rfl,.inl ⟨G.gk.K ▸ t,f1.ok rh1 (Zq2 G.gk.K rh1 t s)⟩⟩
     | ref i =>
       unfold Zgt at ew0;simp only at ew0;split at ew0
       . rename_i xs ex;cases ew0;obtain ⟨a,vs,rfl,hi,hl,s⟩:=rd.lst rh1 ex;exact ⟨a,vs,rfl,.inr ⟨.of hl,by rw [<- s.length];exact f1.ok rh1 (Zor hi)⟩⟩
       . cases ew0
     | _=>cases ew0
   . cases h
 | .en1 e,Γ,X,E,k,x,tg,G,h=>by
   unfold chki at h;split at h
   . rw [Oa,Oa,Oa,Oa,Oa] at h;obtain ⟨⟨⟨⟨⟨h1,h0⟩,h2⟩,h3⟩,h4⟩,h5⟩:=h;have e1:=of_decide_eq_true h1;have e0:=of_decide_eq_true h0;subst e1 e0;have:∃ es kk tp,tg=.Tuple es kk tp:=by
       cases tg<;>first|exact ⟨_,_,_,rfl⟩|cases h5
     obtain ⟨es,kk,tp,rfl⟩:=this;refine (ZrH (G.gl h2).1 (G.blt _ (by decide)) (Zk e G h3) Zm6 (Zo X.env h4)).imp fun Z H Q ⟨S,h,B,rh,rs,f⟩=>⟨S,h,B,rh,rs,Fin.bind f fun d h1 x H1 μ1 er g rh1 rd f1=>?_⟩
     cases d with
     | tup xs =>
       obtain ⟨a,vs,rfl,t,s⟩:=rd.tup_inv;exact ⟨a,rfl,rfl,⟨vs,G.gk.K ▸ t⟩,f1.ok rh1 (Zq3 G.gk.K rh1 t s)⟩
     | _=>exact f1.elim
   . cases h
 | .en0 e,Γ,X,E,k,x,tg,G,h=>by unfold chki at h;cases h
 | .dk e,Γ,X,E,k,x,tg,G,h=>by
   unfold chki at h;exact (ZtI (Zk e G h)).imp fun Z H Q ⟨S,h,B,rh,rs,f⟩=>⟨S,h,B,rh,rs,Fin.bind f fun d h1 x H1 μ1 er g rh1 rd f1=>Zsv rh1 rd f1⟩
theorem pairs_ok{T:Tb}{Y:Yx}:∀ (ps:Exs) {Γ:Gm}{X:Cx}{E:XK}{k:Nat}{ks:List (Option Expr)}{vs:List Expr}{pos:Pos},Gd T Γ X Y E k->chkp Γ ps ks vs=true->PPs X pos ks vs (Zkw T Y E ps)/\ks.all (·.isSome)=true/\ks.length=vs.length
 | .nil,Γ,X,E,k,ks,vs,pos,G,h=>by
   unfold chkp at h;rw [Oa] at h;cases ks with
   | nil=>cases vs with
     | nil=>exact ⟨Zo4,rfl,rfl⟩
     | cons a b=>cases h.2
   | cons a b=>cases h.1
 | .cons e r,Γ,X,E,k,ks,vs,pos,G,h=>by
   cases r with
   | nil=>unfold chkp at h;cases h
   | cons v r' =>
     unfold chkp at h;simp only at h;split at h
     . rw [Oa,Oa] at h;obtain ⟨p1,p2,p3⟩:=pairs_ok r' (pos:=pos) G h.2;refine ⟨ZmV (Zk e G h.1.1) (Zk v G h.1.2) p1,?_,?_⟩
       . rw [List.all_cons,p2];rfl
       . rw [Os,Os,p3]
     . cases h
end
end IV
end
section
namespace IV
open PySem PySem.Spec PyProof.Rows L2
noncomputable def Zd8:Expr->Bool
 | .ListComp _ _ _ _|.SetComp _ _ _ _|.DictComp _ _ _ _ _=>false
 | _=>true
noncomputable def Znj:Expr->Bool
 | .Tuple _ _ _=>false
 | _=>true
noncomputable def ZiE:Expr->Expr->Bool
 | .Name _ _,.ListComp _ _ _ _=>true
 | _,_=>false
noncomputable def Zqc(Γ:Gm)(C:Str)(e:Expr):Bool:=match asName e with
 | some c=>decide (c=C)&&decide (C∈Γ.kl.xs)&&glb Γ c
 | none=>false
noncomputable def ZqO(Γ:Gm)(C:Str)(e:Ex)(x:Expr):Bool:=match x with
 | .Call g as ks _=>Zqc Γ C g&&ks.isEmpty&&chks Γ (.cons e .nil) as
 | _=>false
noncomputable def Zla(Γ:Gm)(i:Nat)(e:Ex)(b:List Stmt):Bool:=match b with
 | [s]=>match s with
   | .Assign ts x _=>(match ts with
     | [g]=>Zka Γ.N (ownD Γ.sc) (.nm i) g
     | _=>false)&&chk Γ e x
   | _=>false
 | _=>false
noncomputable def ZqN(Γ:Gm)(i:Nat)(C:Str)(hs:List ExceptHandler):Bool:=match hs with
 | [.ExceptHandler (some t) none b _]=>Zqc Γ C t&&Zla Γ i (.cst .non) b
 | _=>false
theorem Zk9{Γ:Gm}{C:Str}{e:Expr}(h:Zqc Γ C e=true):(∃ p,e=.Name C p)/\C∈Γ.kl.xs/\glb Γ C=true:=by
 unfold Zqc at h;cases q:asName e with
 | none=>rw [q] at h;cases h
 | some c =>
   rw [q] at h;rw [Oa,Oa] at h;obtain ⟨p,rfl⟩:=ZdQ q;have e:=of_decide_eq_true h.1.1;subst e;exact ⟨⟨p,rfl⟩,of_decide_eq_true h.1.2,h.2⟩
theorem ZiW{Γ:Gm}{i:Nat}{e:Ex}{b:List Stmt}(h:Zla Γ i e b=true):∃ n p x q,b=[.Assign [.Name n p] x q]/\Γ.N[i]? = some n/\ownD Γ.sc n=true/\chk Γ e x=true:=by
 unfold Zla at h;cases b with
 | nil=>cases h
 | cons s r =>
   cases r with
   | cons _ _=>cases h
   | nil =>
     cases s with
     | Assign ts x q =>
       simp only [Oa] at h;obtain ⟨h1,h2⟩:=h;cases ts with
       | nil=>cases h1
       | cons g r =>
         cases r with
         | cons _ _=>cases h1
         | nil =>
           obtain ⟨n,p,rfl,e1,e2⟩:=Za3 h1;exact ⟨n,p,x,q,rfl,e1,e2,h2⟩
     | _=>cases h
mutual
noncomputable def Zc0(Γ:Gm):Sx->Stmt->Bool
 | .ret e,s=>match s with
   | .Return (some x) _=>chk Γ e x
   | _=>false
 | .set g e,s=>match s with
   | .Assign [tg] x _=>Zka Γ.N (ownD Γ.sc) g tg&&chk Γ e x&&((Zd8 x&&(!isTup tg || Znj x)) || ZiE tg x)
   | _=>false
 | .put o i e,s=>match s with
   | .Assign [.Subscript xo xi _] x _=>chk Γ o xo&&chk Γ i xi&&chk Γ e x&&ZfM xi&&Zd8 x
   | _=>false
 | .aug i op e,s=>match s with
   | .AugAssign (.Name y _) op' x _=>decide (op=.Add)&&decide (op'=.Add)&&decide (Γ.N[i]? = some y)&&ownD Γ.sc y&&chk Γ e x
   | _=>false
 | .drp e,s=>match s with
   | .Expr x _=>chk Γ e x&&Zd8 x
   | _=>false
 | .iff c a b,s=>match s with
   | .If t xs ys _=>chkt Γ c t&&chkSs Γ a xs&&chkSs Γ b ys
   | _=>false
 | .whl c b,s=>match s with
   | .While t xs [] _=>chkt Γ c t&&chkSs Γ b xs
   | _=>false
 | .forr g it b,s=>match s with
   | .For tg x xs [] _=>chki Γ it tg x&&ZcP x&&Zka Γ.N (ownD Γ.sc) g tg&&chkSs Γ b xs
   | _=>false
 | .pas,s=>match s with
   | .Pass _=>true
   | _=>false
 | .brk,s=>match s with
   | .Break _=>true
   | _=>false
 | .cnt,s=>match s with
   | .Continue _=>true
   | _=>false
 | .seta Cs o f e,s=>match s with
   | .Assign [.Attribute xo n _] x _=>decide (n=f)&&chk Γ o xo&&chk Γ e x&&Zd8 x&&(Cs.all fun C=>decide (C∈Γ.kl.cs))&&decide (f∈Γ.kl.ats)
   | _=>false
 | .auga Cs o f e,s=>match s with
   | .AugAssign (.Attribute xo n _) op x _=>decide (op=.Add)&&decide (n=f)&&chk Γ o xo&&chk Γ e x&&(Cs.all fun C=>decide (C∈Γ.kl.cs))&&decide (f∈Γ.kl.ats)
   | _=>false
 | .any,_=>true
 | .rai C e,s=>match s with
   | .Raise (some x) none _=>ZqO Γ C e x
   | _=>false
 | .trs i f es C,s=>match s with
   | .Try b hs o q _=>o.isEmpty&&q.isEmpty&&Zla Γ i (.call f es) b&&ZqN Γ i C hs
   | _=>false
noncomputable def chkSs(Γ:Gm):Sxs->List Stmt->Bool
 | .nil,ss=>ss.isEmpty
 | .cons s r,ss=>match ss with
   | x::xs=>Zc0 Γ s x&&chkSs Γ r xs
   | []=>false
end
noncomputable def Zz(Y:Yx)(H:Hp)(B:List Addr)(r:R (Fl×Ev))(D:Ends)(E:XK):Prop:=match r with
 | .bad=>False
 | .ok p h'=>∀ H' μ',Gr H B H' μ'->RH Y H' μ' h'->match p.1 with
   | .nx=>∀ σ',RS Y H' μ' p.2 σ'->D.nx σ' H'
   | .bk=>∀ σ',RS Y H' μ' p.2 σ'->D.bk σ' H'
   | .ct=>∀ σ',RS Y H' μ' p.2 σ'->D.ct σ' H'
   | .rt d=>∀ v,RD Y H' μ' d v->D.rt v H'
 | .exc c h'=>∀ H' μ' C,Gr H B H' μ'->RH Y H' μ' h'->Y.mg c=some (.ref C)->E (.ref C) none H'
section
variable {Y:Yx}{α β:Type}{rel:Hp->List Addr->α->β->Prop}{H H1:Hp}{B μ1:List Addr}{E:XK}{D:Ends}
theorem Zz.mono{r:R (Fl×Ev)}(g:Gr H B H1 μ1)(f:Zz Y H B r D E):Zz Y H1 μ1 r D E:=by
 cases r with
 | bad=>exact f
 | ok a h=>exact fun H' μ' g'=>f H' μ' (g.trans g')
 | exc c h=>exact fun H' μ' C g'=>f H' μ' C (g.trans g')
theorem Zz.bind{r:R α}{k:α->Hd->R (Fl×Ev)}{Q1:β->Hp->Prop}(f:Zz Y H B (r.bind k) D E)
   (hk:∀ a h1 b H1 μ1,r=.ok a h1->Gr H B H1 μ1->RH Y H1 μ1 h1->rel H1 μ1 a b->Zz Y H1 μ1 (k a h1) D E->Q1 b H1):Fin Y rel H B r Q1 E:=by
 cases r with
 | bad=>exact f
 | ok a h=>exact fun b H' μ' g' rh rl=>hk a h b H' μ' rfl g' rh rl (Zz.mono g' f)
 | exc c h=>exact f
theorem Zz.ofO{o:Option α}{h:Hd}{k:α->Hd->R (Fl×Ev)}(f:Zz Y H B ((R.ofO o h).bind k) D E):∃ a,o=some a/\Zz Y H B (k a h) D E:=by
 cases o with
 | none=>exact f.elim
 | some a=>exact ⟨a,rfl,f⟩
theorem Zz.nx{S:Ev}{Z:L2.St}{h:Hd}(f:Zz Y H B (.ok (.nx,S) h) D E)(rh:RH Y H B h)(rs:RS Y H B S Z):D.nx Z H:=f H B Gr.refl rh Z rs
theorem Zz.part{r:R (Fl×Ev)}{k:(Fl×Ev)->Hd->R (Fl×Ev)}{D1:Ends}(f:Zz Y H B (r.bind k) D E)
   (hk:∀ p h1 H1 μ1,r=.ok p h1->Gr H B H1 μ1->RH Y H1 μ1 h1->Zz Y H1 μ1 (k p h1) D E->match p.1 with
     | .nx=>∀ σ',RS Y H1 μ1 p.2 σ'->D1.nx σ' H1
     | .bk=>∀ σ',RS Y H1 μ1 p.2 σ'->D1.bk σ' H1
     | .ct=>∀ σ',RS Y H1 μ1 p.2 σ'->D1.ct σ' H1
     | .rt d=>∀ v,RD Y H1 μ1 d v->D1.rt v H1):Zz Y H B r D1 E:=by
 cases r with
 | bad=>exact f
 | ok p h=>exact fun H' μ' g' rh=>hk p h H' μ' rfl g' rh (Zz.mono g' f)
 | exc c h=>exact f
end
noncomputable def Ztp(T:Tb)(Y:Yx)(E:XK)(s:Sx):TS:=fun D Z H=>∃ S h B,RH Y H B h/\RS Y H B S Z/\Zz Y H B (xs1 T s S h) D E
noncomputable def Zqy(T:Tb)(Y:Yx)(E:XK)(s:Sxs):TS:=fun D Z H=>∃ S h B,RH Y H B h/\RS Y H B S Z/\Zz Y H B (xs2 T s S h) D E
theorem _root_.L2.PS.imp{X:Cx}{s:Stmt}{t t':TS}(h:PS X s t)(i:∀ D Z H,t' D Z H->t D Z H):PS X s t':=fun pins s Z H D I q=>h pins s Z H D I (i D Z H q)
theorem _root_.L2.PSs.imp{X:Cx}{s:List Stmt}{t t':TS}(h:PSs X s t)(i:∀ D Z H,t' D Z H->t D Z H):PSs X s t':=fun pins s Z H D I q=>h pins s Z H D I (i D Z H q)
structure XOk(K:PySem.W.Frag)(a:Addr):Prop extends ExcN K a where
 own:PySem.W.excIn K a [.type "ValueError",.type "Exception",.type "BaseException",.type "object"] "ValueError.__new__" = true
 sub:PySem.W.subIn K (.ref a) (.ref a)=some true
structure GdS(T:Tb)(Γ:Gm)(X:Cx)(Y:Yx)(E:XK)(k:Nat):Prop extends Gd T Γ X Y E k where
 top:Γ.top=true
 fnt:∀ x,X.fn x=true
 own:PassesOwn (model X.prog X.w) X.A X.env X.xe
 bk:X.env.blockKind=.function
 rz:ZhV X E
 stk:X.stack=X.env::X.outer
 frm:X.env.frame=some X.env.locals
 xcs:∀ C∈Γ.kl.xs,∃ a,X.mg C=some (.ref a)/\XOk X.K a
theorem GdS.ownD{T:Tb}{Γ:Gm}{X:Cx}{Y:Yx}{E:XK}{k:Nat}(G:GdS T Γ X Y E k):∀ x,ownD Γ.sc x=true->Loc X.env.scope x/\(X.fn x=true\/X.env.scope.names.lookup x=some .local):=by
 intro x h;refine ⟨?_,.inl (G.fnt x)⟩;unfold IV.ownD at h;rw [G.sc G.top];rw [Bool.or_eq_true] at h;exact h.imp of_decide_eq_true of_decide_eq_true
theorem Zde{x:Expr}{t:Option Expr}{n:Nat}{env:Env}(h:Zd8 x=true):swapsWith x t n env=pure false:=by
 cases x<;>first|rfl|cases h
theorem Zep{tg x:Expr}{env:Env}(h:(!isTup tg || Znj x)=true)(hg:∀ es p,tg≠.List es p):swappedStores [tg] x env=pure none:=by
 cases tg with
 | List es p=>exact absurd rfl (hg es p)
 | Tuple es k p =>
   cases x<;>first|rfl|cases h
 | _=>rfl
theorem Zmz{T:Tb}{Γ:Gm}{X:Cx}{Y:Yx}{E:XK}{k:Nat}(G:GdS T Γ X Y E k){i:Nat}{y:Str}{py pos spos:Pos}{elt:Expr}{gs:List Comprehension}{scope:Scope}{e:Ex}
   (hi:Γ.N[i]? = some y) (ho:ownD Γ.sc y=true) (h:chk Γ e (.ListComp elt gs scope pos)=true):PS X (.Assign [.Name y py] (.ListComp elt gs scope pos) spos) (Zmp (Zbq T Y E e) (ZdB i)):=by
 obtain ⟨o1,o2⟩:=G.ownD y ho;have hy:X.N[i]? = some y:=by rw [G.N];exact hi
 by_cases sw:swapsWith (.ListComp elt gs scope pos) (some (.Name y py)) spos.line X.env=pure true
 . cases e with
   | comp NC js it g c e =>
     unfold chk at h;split at h
     . rename_i heq;cases heq;rw [Oa,Oa,Oa,Oa,Oa,Oa,Oa] at h;obtain ⟨⟨⟨⟨⟨⟨⟨h0,h1⟩,h2⟩,h3⟩,h4⟩,h5⟩,h6⟩,h7⟩:=h;have S_:=ZiR h1;rw [<- G.N,<- G.sc h0] at S_;have Gc:=fun (C:Addr) (s3:Shared) (H3:Hp) (fp:List Addr)=>G.toGd.comp NC scope C s3 H3 fp S_.nd;rw [OC] at h5;refine (Zjm (g:=tgR X.K g) (tc:=fun Z H Q=>∃ S h B,RH Y H B h/\RS Y H B S Z/\Fin Y (fun _ _ (a b:Bool)=>a=b) H B (tsto T c S h) Q E0) (te:=Zbq T Y E0 e) G.nd hy o1 o2 S_ rfl G.calm (evi_ok it G.toGd h2) (fun C s3 H3 fp=>⟨ZkL rfl S_.nd rfl (fun x hx=>?_) h4,?_,Zk e (Gc C s3 H3 fp) h7⟩) (Zta X.K g) (fun j hj=>of_decide_eq_true (h5 j (List.mem_range.mpr hj))) (Zjd X.env h3) sw).imp
         fun D Z H q=>?_
       . have hl:=of_decide_eq_true hx;have:(relabel scope X.env).names.lookup x=some .local:=by rw [ZaB,hl];rfl
         exact ⟨.inl this,.inr this⟩
       . exact ifs_ok c (Gc C s3 H3 fp) h6
       . obtain ⟨S,h,B,rh,rs,f⟩:=q;exact ⟨S,h,B,rh,rs,Fin.bind f fun w h1 J H1 μ1 _ g1 rh1 wj f1 D hD=>Zk7 G.gk.K (fun _ _ _ z=>z) rh1 (rs.mono rh g1) wj f1 hD⟩
     . cases h
   | cst d=>cases d<;>(unfold chk Zma at h;cases h)
   | any=>exact fun pins s Z H D I ⟨S,h,B,rh,rs,f⟩=>f.elim
   | _=>unfold chk at h;cases h
 . refine Zjn G.nd hy o1 (Zk e G.toGd h) ?_ o2;have e1:swapsWith (.ListComp elt gs scope pos) (some (.Name y py)) spos.line X.env=pure (X.env.blockKind==.function&&X.env.kindOf y==some .local&&py.line==pos.line&&!(scope.names.any fun (n,k)=>n==y&&(k==.local || k==.cell))):=rfl;cases q:(X.env.blockKind==.function&&X.env.kindOf y==some .local&&py.line==pos.line&&!(scope.names.any fun (n,k)=>n==y&&(k==.local || k==.cell))) with
   | true=>rw [q] at e1;exact absurd e1 sw
   | false=>rw [q] at e1;exact e1
theorem ZsK{T:Tb}{Γ:Gm}{X:Cx}{Y:Yx}{E:XK}{k:Nat}(G:Gd T Γ X Y E k){Cs:List Str}{f:Str}{e:Ex}(hc:(Cs.all fun C=>decide (C∈Γ.kl.cs))=true)(hf:f∈Γ.kl.ats){H1:Hp}{μ1:List Addr}{h1:Hd}{d:D}{x:V}{S:Ev}{Z:L2.St}{D:Ends}(rh1:RH Y H1 μ1 h1)(rs1:RS Y H1 μ1 S Z)(rd:RD Y H1 μ1 d x)
   (f1:Zz Y H1 μ1 ((Zgp Cs f d h1).bind fun v h2=>(ev T e S h2).bind fun y h3=>match v,y with
     | .int a,.int b=>if (ZY d h1).map (·.1)=(ZY d h3).map (·.1) then (Zg8 Cs f d (.int (a+b)) h3).bind fun _ h4=>.ok (.nx,S) h4 else .bad
     | _,_=>.bad) D E) :
   ∃ a C dx fs v,x=.ref a/\H1 a=some (.ins C dx fs)/\Cls X.K C/\ZaQ X.K C f/\fs.lookup f=some v /\
     Zbq T Y E e Z H1 fun y H2=>ZtD v y H2 fun z H3=>∃ dx' fs',H3 a=some (.ins C dx' fs')/\fs'.length<1000/\D.nx Z (upd H3 a (.ins C dx' (ZbZ f z fs'))):=by
 unfold Zgp at f1;cases ei:ZY d h1 with
 | none=>rw [ei] at f1;exact f1.elim
 | some p =>
   obtain ⟨C,fs⟩:=p;rw [ei] at f1;simp only at f1;by_cases hC:C∈Cs
   . rw [if_pos hC] at f1;obtain ⟨w,e1,f1⟩:=f1.ofO;obtain ⟨i,a,Ca,dx,gs,rfl,rfl,q,hi,z,m,s⟩:=ZfY rh1 rd ei;obtain ⟨v,l,rv⟩:=(s.look (f:=f)).1 w e1;have hc':=hc;rw [OC] at hc';obtain ⟨Ca',m',cl,na⟩:=G.cls C (of_decide_eq_true (hc' C hC));have m0:=m;rw [G.gk.mg,m'] at m;cases m;refine ⟨a,Ca,dx,gs,v,rfl,z,cl,na f hf,l,S,h1,μ1,rh1,rs1,Zz.bind f1 fun y h3 u H3 μ3 _ g3 rh3 ry f3=>?_⟩;cases w with
     | int p =>
       cases y with
       | int r =>
         cases rv;cases ry;refine ⟨p,r,rfl,rfl,?_⟩;simp only at f3;by_cases hk:Option.map (·.1) (some (C,fs))=(ZY (.ref i) h3).map (·.1)
         . rw [if_pos hk] at f3;obtain ⟨a',C',dx',fs',e4,z',_,_,l',nx⟩:=Zmy (Q:=fun _ H'=>D.nx Z H') G hc hf rh3 (rd.mono rh1 g3) (.int _) (Zz.bind f3 fun _ h4 _ H4 μ4 _ g4 rh4 _ f4=>f4.nx rh4 ((rs1.mono rh1 g3).mono rh3 g4));cases e4;cases e5:ZY (.ref i) h3 with
           | none=>rw [e5] at hk;cases hk
           | some p3 =>
             obtain ⟨C3,fs3⟩:=p3;rw [e5] at hk;cases hk;obtain ⟨i3,a3,Ca3,dx3,gs3,e6,e7,_,_,z3,m3,_⟩:=ZfY rh3 (rd.mono rh1 g3) e5;cases e7;rw [m0] at m3;cases m3;rw [z'] at z3;cases z3;exact ⟨dx',fs',z',l',nx⟩
         . rw [if_neg hk] at f3;exact f3.elim
       | _=>exact f3.elim
     | _=>exact f3.elim
   . rw [if_neg hC] at f1;exact f1.elim
theorem _root_.IV.Gd.nox{T:Tb}{Γ:Gm}{X:Cx}{Y:Yx}{E:XK}{k:Nat}(G:Gd T Γ X Y E k):Gd T Γ X.nox Y E0 k :=
 ⟨⟨G.gk.K,G.gk.mg,G.gk.gd,G.gk.g,G.gk.bare⟩,G.N,G.sc,G.vis,G.glo,G.nd,G.calm,G.room,G.h60,ZgG,G.defs,G.blt,G.room1,G.cls,G.mts,G.mks⟩
theorem Zmg{Y:Yx}{α β:Type}{rel:Hp->List Addr->α->β->Prop}{H:Hp}{B:List Addr}{r:R α}{Q:β->Hp->Prop}{E:XK}(f:Fin Y rel H B r.plain Q E):Fin Y rel H B r Q E0:=by
 cases r with
 | bad=>exact f.elim
 | ok a h=>exact f
 | exc c h=>exact f.elim
theorem Zr4{X:Cx}{a:Addr}{oe:Obj}{n:Str}{i:Nat}{px pos:Pos}{v:Expr}{Γ:Gm}(hN:X.N.Nodup)(hi:X.N[i]? = some n)(hx:Loc X.env.scope n)(hf:X.fn n=true\/X.env.scope.names.lookup n=some .local)(hv:chk Γ (.cst .non) v=true) :
   PSs (cxH X a oe) [.Assign [.Name n px] v pos] (fun D Z H=>D.nx (Z.set i (some .non)) H):=by
 unfold chk Zma at hv;split at hv
 . rename_i c q;obtain ⟨k,p,rfl⟩:=ZgW q;cases c with
   | none=>exact (Zo0 (Zjn (X:=cxH X a oe) hN hi hx Zm3 rfl hf)).imp fun D Z H q=>q
   | _=>cases hv
 . cases hv
mutual
theorem Zto{T:Tb}{Y:Yx}:∀ (s:Sx) {Γ:Gm}{X:Cx}{E:XK}{k:Nat}{x:Stmt},GdS T Γ X Y E k->Zc0 Γ s x=true->PS X x (Ztp T Y E s)
 | .ret e,Γ,X,E,k,x,G,h=>by
   unfold Zc0 at h;split at h
   . exact (ZrB (Zk e G.toGd h)).imp fun D Z H ⟨S,h,B,rh,rs,f⟩=>⟨S,h,B,rh,rs,Zz.bind f fun d h1 v H1 μ1 _ g rh1 rd f1=>f1 H1 μ1 Gr.refl rh1 v rd⟩
   . cases h
 | .set g e,Γ,X,E,k,x,G,h=>by
   unfold Zc0 at h;split at h
   . rename_i tg xe pos;rw [Oa,Oa] at h;obtain ⟨⟨h1,h2⟩,h3⟩:=h;have fin:∀ {D:Ends}{Z:L2.St}{H:Hp},Ztp T Y E (.set g e) D Z H->Zmp (Zbq T Y E e) (tgR X.K g) D Z H:=fun {D Z H} ⟨S,h,B,rh,rs,f⟩=>⟨S,h,B,rh,rs,Zz.bind f fun d h1 v H1 μ1 _ g1 rh1 rd f1=>by
       obtain ⟨ρ1,eb,f1⟩:=f1.ofO;exact ZhJ G.gk.K rd (rs.mono rh g1) eb fun σ1 rs1=>f1.nx rh1 rs1⟩
     rw [Bool.or_eq_true,Oa] at h3;have pg:=ZkL (X:=X) G.N G.nd G.calm G.ownD h1;rcases h3 with ⟨h3,h4⟩|h3
     . cases g with
       | nm i =>
         obtain ⟨y,py,rfl,e1,e2⟩:=Za3 (show Zim Γ.N (ownD Γ.sc) i tg=true from h1);obtain ⟨o1,o2⟩:=G.ownD y e2;exact (Zjn G.nd (by rw [G.N];exact e1) o1 (Zk e G.toGd h2) (Zde h3) o2).imp fun D Z H q=>fin q
       | two i j =>
         obtain ⟨x,p,y,q,k,r,rfl,_⟩:=Zg0 h1;exact (Zjo (pos:=pos) (Zk e G.toGd h2) pg (by unfold swapsWithSole;exact Zde h3) (Zep h4 (fun _ _ z=>by cases z)) rfl).imp fun D Z H q=>fin q
       | many is =>
         obtain ⟨es,k,r,rfl,_⟩:=ZfO h1;exact (Zjo (pos:=pos) (Zk e G.toGd h2) pg (by unfold swapsWithSole;exact Zde h3) (Zep h4 (fun _ _ z=>by cases z)) rfl).imp fun D Z H q=>fin q
     . unfold ZiE at h3;split at h3
       . rename_i y0 p0 _ _ _ _;cases g with
         | nm i =>
           obtain ⟨y,py,q,e1,e2⟩:=Za3 (show Zim Γ.N (ownD Γ.sc) i (.Name y0 p0)=true from h1);cases q;exact (Zmz G e1 e2 h2).imp fun D Z H q=>fin q
         | two i j=>obtain ⟨x,p,y,q,k,r,z,_⟩:=Zg0 h1;cases z
         | many is=>obtain ⟨es,k,r,z,_⟩:=ZfO h1;cases z
       . cases h3
   . cases h
 | .put o i e,Γ,X,E,k,x,G,h=>by
   unfold Zc0 at h;split at h
   . rename_i xo xi p1 xe p2;rw [Oa,Oa,Oa,Oa] at h;obtain ⟨⟨⟨⟨h1,h2⟩,h3⟩,h4⟩,h5⟩:=h;refine (Zjo (pos:=p2) (Zk e G.toGd h3) (ZrJ (pos:=p1) (Zk o G.toGd h1) (Zk i G.toGd h2) (Zrz (Y:=Y) (E:=E)) ?_) (by unfold swapsWithSole;exact Zde h5) (Zep rfl (fun _ _ z=>by cases z)) rfl).imp fun D Z H ⟨S,h,B,rh,rs,f⟩=>⟨S,h,B,rh,rs,Zz.bind f fun d h1 v H1 μ1 _ g1 rh1 rd f1 =>
       ⟨S,h1,μ1,rh1,rs.mono rh g1,f1.bind fun d2 h2 v2 H2 μ2 _ g2 rh2 rd2 f2=>⟨S,h2,μ2,rh2,(rs.mono rh g1).mono rh1 g2,f2.bind fun d3 h3 v3 H3 μ3 _ g3 rh3 rd3 f3 =>
         ⟨d2,d3,d,h3,μ3,rh3,rd2.mono rh2 g3,rd3,(rd.mono rh1 g2).mono rh2 g3,f3.bind fun _ h4 _ H4 μ4 _ g4 rh4 _ f4=>f4.nx rh4 ((((rs.mono rh g1).mono rh1 g2).mono rh2 g3).mono rh3 g4)⟩⟩⟩⟩
     cases xi<;>first|(intro _;rfl)|cases h4
   . cases h
 | .aug i op e,Γ,X,E,k,x,G,h=>by
   unfold Zc0 at h;split at h
   . rw [Oa,Oa,Oa,Oa] at h;obtain ⟨⟨⟨⟨h1,h2⟩,h3⟩,h4⟩,h5⟩:=h;have e1:=of_decide_eq_true h1;have e2:=of_decide_eq_true h2;subst e1 e2;obtain ⟨o1,o2⟩:=G.ownD _ h4;refine (ZrE G.nd (by rw [G.N];exact of_decide_eq_true h3) o1 (Zk e G.toGd h5) Zsq o2).imp fun D Z H ⟨S,h,B,rh,rs,f⟩=>?_;obtain ⟨d,ed,f⟩:=Zz.ofO f;obtain ⟨v,ev,rd⟩:=rs.var ed;refine ⟨v,ev,S,h,B,rh,rs,Zz.bind f fun d2 h2 v2 H2 μ2 _ g2 rh2 rd2 f2=>?_⟩;cases rd with
     | int a =>
       cases rd2 with
       | int b=>exact ⟨a,b,rfl,rfl,Zz.nx f2 rh2 ((rs.mono rh g2).set (.int _))⟩
       | _=>exact f2.elim
     | _=>exact f2.elim
   . cases h
 | .drp e,Γ,X,E,k,x,G,h=>by
   unfold Zc0 at h;split at h
   . rw [Oa] at h;exact (Zo3 (Zk e G.toGd h.1) (Zde h.2)).imp fun D Z H ⟨S,h,B,rh,rs,f⟩=>⟨S,h,B,rh,rs,Zz.bind f fun d h1 v H1 μ1 _ g1 rh1 rd f1=>f1.nx rh1 (rs.mono rh g1)⟩
   . cases h
 | .iff c a b,Γ,X,E,k,x,G,h=>by
   unfold Zc0 at h;split at h
   . rw [Oa,Oa] at h;refine (ZtF (tst_ok c G.toGd h.1.1) (sts_ok a G h.1.2) (sts_ok b G h.2)).imp fun D Z H ⟨S,h,B,rh,rs,f⟩=>⟨S,h,B,rh,rs,Zz.bind f fun t h1 v H1 μ1 _ g1 rh1 rd f1=>?_⟩
     subst rd;cases t with
     | true=>exact ZjR ⟨S,h1,μ1,rh1,rs.mono rh g1,f1⟩
     | false=>exact ZjS ⟨S,h1,μ1,rh1,rs.mono rh g1,f1⟩
   . cases h
 | .whl c b,Γ,X,E,k,x,G,h=>by
   unfold Zc0 at h;split at h
   . rw [Oa] at h;refine (ZmS G.own (tst_ok c G.toGd h.1) (sts_ok b G h.2)).imp fun D Z H ⟨S,h,B,rh,rs,f⟩=>?_;refine ⟨fun m Z H=>∃ S h B,RH Y H B h/\RS Y H B S Z/\Zz Y H B (ZV (tst T c) (xs2 T b) m S h) D E,⟨T.L,S,h,B,rh,rs,f⟩,?_⟩;rintro m Z H ⟨S,h,B,rh,rs,f⟩;cases m with
     | zero=>exact f.elim
     | succ m =>
       refine ⟨S,h,B,rh,rs,Zz.bind f fun t h1 v H1 μ1 _ g1 rh1 rd f1=>?_⟩;subst rd;cases t with
       | false=>exact ZjS (Zz.nx f1 rh1 (rs.mono rh g1))
       | true =>
         refine ZjR ⟨fun σ' H'=>∃ S h B,RH Y H' B h/\RS Y H' B S σ'/\Zz Y H' B (ZV (tst T c) (xs2 T b) m S h) D E,fun σ' H' q=>⟨m,OH m,q⟩,S,h1,μ1,rh1,rs.mono rh g1,?_⟩;refine Zz.part f1 fun p h2 H2 μ2 _ g2 rh2 f2=>?_;obtain ⟨fl,ρ2⟩:=p;cases fl with
         | nx=>exact fun σ' rs'=>⟨ρ2,h2,μ2,rh2,rs',f2⟩
         | ct=>exact fun σ' rs'=>⟨ρ2,h2,μ2,rh2,rs',f2⟩
         | bk=>exact fun σ' rs'=>Zz.nx f2 rh2 rs'
         | rt d=>exact fun v rv=>f2 H2 μ2 Gr.refl rh2 v rv
   . cases h
 | .forr g it b,Γ,X,E,k,x,G,h=>by
   unfold Zc0 at h;split at h
   . rw [Oa,Oa,Oa] at h;obtain ⟨⟨⟨h1,h2⟩,h3⟩,h4⟩:=h;refine (ZrC G.own G.calm (evi_ok it G.toGd h1) (ZkL (X:=X) G.N G.nd G.calm G.ownD h3) (sts_ok b G h4) (Zjd X.env h2)).imp fun D Z H ⟨S,h,B,rh,rs,f⟩=>⟨S,h,B,rh,rs,Zz.bind f fun w h1 J H1 μ1 _ g1 rh1 wj f1=>?_⟩
     refine ⟨fun i m Z H=>∃ S h B,i<=w.xs.length/\m=w.xs.length - i/\Gr H1 μ1 H B/\RH Y H B h/\RS Y H B S Z/\Zz Y H B (ZS w.src g (xs2 T b) (w.xs.drop i) S h) D E,⟨w.xs.length,S,h1,μ1,Nat.zero_le _,by simp,Gr.refl,rh1,rs.mono rh g1,f1⟩,?_⟩;rintro i m Z H ⟨S,h,B,hi,rfl,g0,rh,rs,f⟩;by_cases hlt:i<w.xs.length
     . obtain ⟨d,hd⟩:∃ d,w.xs[i]? = some d:=⟨_,Og hlt⟩
       have hdrop:w.xs.drop i=d::w.xs.drop (i+1):=by
         rw [List.drop_eq_getElem_cons hlt];have:=Og hlt;rw [hd] at this;rw [<- Option.some.inj this]
       rw [hdrop,ZS] at f;by_cases hs:Wk.stays w.src h=true
       . rw [if_pos hs] at f;obtain ⟨go,yl⟩:=(wj H B h g0 rh hs).1 i d hd;refine .inr ⟨go,fun σ' H'=>∃ S h B,i+1<=w.xs.length/\Gr H1 μ1 H' B/\RH Y H' B h/\RS Y H' B S σ'/\Zz Y H' B (ZS w.src g (xs2 T b) (w.xs.drop (i+1)) S h) D E,fun σ' H' ⟨S,h,B,q1,q2,q3,q4,q5⟩=>⟨_,Nat.sub_lt_sub_left hlt (OH i),S,h,B,q1,rfl,q2,q3,q4,q5⟩,fun x H' hy=>?_⟩;obtain ⟨g2,rh2,rx⟩:=yl x H' hy;split at f
         . exact f.elim
         . rename_i ρ1 hb;refine ZhJ G.gk.K rx (rs.mono rh g2) hb fun σ1 rs1=>⟨ρ1,h,B,rh2,rs1,Zz.part (Zz.mono g2 f) fun p h3 H3 μ3 _ g3 rh3 f3=>?_⟩
           have g03:=(g0.trans g2).trans g3;obtain ⟨fl,ρ2⟩:=p;cases fl with
           | nx=>exact fun σ' rs'=>⟨ρ2,h3,μ3,hlt,g03,rh3,rs',f3⟩
           | ct=>exact fun σ' rs'=>⟨ρ2,h3,μ3,hlt,g03,rh3,rs',f3⟩
           | bk=>exact fun σ' rs'=>Zz.nx f3 rh3 rs'
           | rt d=>exact fun v rv=>f3 H3 μ3 Gr.refl rh3 v rv
       . rw [if_neg hs] at f;exact f.elim
     . have he:i=w.xs.length:=by omega
       subst he;rw [List.drop_eq_nil_of_le (Oq _),ZS] at f;by_cases hs:Wk.stays w.src h=true
       . rw [if_pos hs] at f;exact .inl ⟨(wj H B h g0 rh hs).2,Zz.nx f rh rs⟩
       . rw [if_neg hs] at f;exact f.elim
   . cases h
 | .pas,Γ,X,E,k,x,G,h=>by
   unfold Zc0 at h;split at h
   . exact Zo2.imp fun D Z H ⟨S,h,B,rh,rs,f⟩=>Zz.nx f rh rs
   . cases h
 | .brk,Γ,X,E,k,x,G,h=>by
   unfold Zc0 at h;split at h
   . exact ZmU.imp fun D Z H ⟨S,h,B,rh,rs,f⟩=>f H B Gr.refl rh Z rs
   . cases h
 | .cnt,Γ,X,E,k,x,G,h=>by
   unfold Zc0 at h;split at h
   . exact Zif.imp fun D Z H ⟨S,h,B,rh,rs,f⟩=>f H B Gr.refl rh Z rs
   . cases h
 | .any,Γ,X,E,k,x,G,h=>fun pins s Z H D I ⟨S,h,B,rh,rs,f⟩=>f.elim
 | .rai C e,Γ,X,E,k,x,G,h=>by
   unfold Zc0 at h;split at h
   . rename_i x pos;cases x with
     | Call g as ks cp =>
       unfold ZqO at h;rw [Oa,Oa] at h;obtain ⟨⟨h1,h2⟩,h3⟩:=h;obtain ⟨⟨np,rfl⟩,hx,hg⟩:=Zk9 h1;cases ks with
       | cons _ _=>cases h2
       | nil =>
         cases as with
         | nil=>rw [chks] at h3;cases h3
         | cons y ys =>
           rw [chks,Oa,Oa] at h3;cases ys with
           | cons _ _=>rw [chks] at h3;cases h3.2
           | nil =>
             obtain ⟨ca,m,xo⟩:=G.xcs _ hx;obtain ⟨g1,g2⟩:=G.gl hg;exact (ZmT G.rz G.calm PySem.F.excBase_ValueError g1 m xo.own (Zd5 (Zk e G.toGd h3.1.1) ZfL (Zo X.env h3.1.2)) g2 (Zo X.env h3.1.2) rfl).imp fun D Z H ⟨S,h,B,rh,rs,f⟩=>⟨S,h,B,rh,rs,Zz.bind f fun d h1 v H1 μ1 _ g1 rh1 rd f1 =>
               ⟨by show 1<=sizeLine;decide,f1 H1 μ1 ca Gr.refl rh1 (by rw [G.gk.mg];exact m)⟩⟩
     | _=>cases h
   . cases h
 | .trs i f es C,Γ,X,E,k,x,G,h=>by
   unfold Zc0 at h;split at h
   . rename_i b hs o q pos;rw [Oa,Oa,Oa] at h;obtain ⟨⟨⟨h1,h2⟩,h3⟩,h4⟩:=h;cases o with
     | cons _ _=>cases h1
     | nil =>
     cases q with
     | cons _ _=>cases h2
     | nil =>
     obtain ⟨n,px,xe,ap,rfl,hn,hown,h5⟩:=ZiW h3;unfold ZqN at h4;split at h4
     . rename_i t bd hp;rw [Oa] at h4;obtain ⟨⟨np,rfl⟩,hxs,hg⟩:=Zk9 h4.1;obtain ⟨n',px',v,pos',rfl,hn',_,h11⟩:=ZiW h4.2;cases hn.symm.trans hn';unfold chk at h5;split at h5
       . rename_i fx p y ys cp;rw [Oa,Oa,Oa] at h5;obtain ⟨⟨⟨h6,h7⟩,h8⟩,h4⟩:=h5;have e1:=of_decide_eq_true h6;subst e1;obtain ⟨ps,hd⟩:=G.defs _ (of_decide_eq_true h7);obtain ⟨g1,g2⟩:=G.gl h8;obtain ⟨c1,c2⟩:=G.gl hg;obtain ⟨ca,m,xo⟩:=G.xcs _ hxs;obtain ⟨o1,o2⟩:=G.ownD _ hown;have hi:X.N[i]? = some n:=by rw [G.N];exact hn
         have hs:=h4;have st:Z7 y=true:=by
           cases es with
           | nil=>rw [chks] at hs;cases hs
           | cons e r=>rw [chks,Oa,Oa] at hs;exact hs.1.2
         have sp:∀ pos,(backTo pos (starEach ys X.env)).any (·.1)=false:=by
           cases es with
           | nil=>rw [chks] at hs;cases hs
           | cons e r=>rw [chks,Oa,Oa] at hs;exact Zbu Γ X.env r ys hs.2
         refine (ZlB hd G.room g1 (evs_ok es G.toGd.nox h4) c1 m xo.toExcN G.nd hi o1 o2 G.stk G.frm (fun a oe=>Zr4 G.nd hi o1 o2 h11) g2 c2 (Zo X.env st) (sp _) rfl).imp fun D Z H ⟨S,h,B,rh,rs,f⟩=>⟨S,h,B,rh,rs,Zmg (Zz.bind f fun ds h1 vs H1 μ1 _ g1 rh1 rds f1=>⟨ds,h1,μ1,rh1,rds,?_⟩)⟩
         have rs1:=rs.mono rh g1;cases q:T.C fx ds h1 with
         | bad=>rw [q] at f1;exact f1.elim
         | ok w h2 =>
           rw [q] at f1;exact fun b H' μ' g2 rh2 rb=>f1 H' μ' g2 rh2 _ ((rs1.mono rh1 g2).set rb)
         | exc w h2 =>
           rw [q] at f1;unfold Zga at f1;by_cases e:w=C
           . subst e;simp only [if_true] at f1;intro H' μ' C' g2 rh2 mc;rw [G.gk.mg,m] at mc;cases mc;exact ⟨ca,rfl,xo.sub,fun a oe=>f1 H' μ' g2 rh2 _ ((rs1.mono rh1 g2).set .non)⟩
           . simp only [if_neg e] at f1;exact f1.elim
       . cases h5
     . cases h4
   . cases h
 | .seta Cs o f e,Γ,X,E,k,x,G,h=>by
   unfold Zc0 at h;split at h
   . rw [Oa,Oa,Oa,Oa,Oa] at h;obtain ⟨⟨⟨⟨⟨h1,h2⟩,h3⟩,h4⟩,h5⟩,h6⟩:=h;have en:=of_decide_eq_true h1;subst en;exact (ZrD (Zk o G.toGd h2) (Zk e G.toGd h3) (Zde h4)).imp fun D Z H ⟨S,h,B,rh,rs,f⟩=>⟨S,h,B,rh,rs,Zz.bind f fun d h1 v H1 μ1 _ g1 rh1 rd f1=>⟨S,h1,μ1,rh1,rs.mono rh g1,Zz.bind f1 fun d2 h2 v2 H2 μ2 _ g2 rh2 rd2 f2 =>
       Zmy (Q:=fun _ H'=>D.nx Z H') G.toGd h5 (of_decide_eq_true h6) rh2 rd2 (rd.mono rh1 g2) (Zz.bind f2 fun _ h3 _ H3 μ3 _ g3 rh3 _ f3=>f3.nx rh3 (((rs.mono rh g1).mono rh1 g2).mono rh2 g3))⟩⟩
   . cases h
 | .auga Cs o f e,Γ,X,E,k,x,G,h=>by
   unfold Zc0 at h;split at h
   . rw [Oa,Oa,Oa,Oa,Oa] at h;obtain ⟨⟨⟨⟨⟨h0,h1⟩,h2⟩,h3⟩,h5⟩,h6⟩:=h;have eo:=of_decide_eq_true h0;have en:=of_decide_eq_true h1;subst eo;subst en;exact (ZlC (Zk o G.toGd h2) (Zk e G.toGd h3) Zsr).imp fun D Z H ⟨S,h,B,rh,rs,f⟩=>⟨S,h,B,rh,rs,Zz.bind f fun d h1 x H1 μ1 _ g1 rh1 rd f1=>ZsK G.toGd h5 (of_decide_eq_true h6) rh1 (rs.mono rh g1) rd f1⟩
   . cases h
theorem sts_ok{T:Tb}{Y:Yx}:∀ (s:Sxs) {Γ:Gm}{X:Cx}{E:XK}{k:Nat}{x:List Stmt},GdS T Γ X Y E k->chkSs Γ s x=true->PSs X x (Zqy T Y E s)
 | .nil,Γ,X,E,k,x,G,h=>by
   unfold chkSs at h;cases x with
   | nil=>exact Zo1.imp fun D Z H ⟨S,h,B,rh,rs,f⟩=>Zz.nx f rh rs
   | cons a b=>cases h
 | .cons s r,Γ,X,E,k,x,G,h=>by
   unfold chkSs at h;split at h
   . rw [Oa] at h;refine (ZmR (Zto s G h.1) (sts_ok r G h.2)).imp fun D Z H ⟨S,h,B,rh,rs,f⟩=>⟨S,h,B,rh,rs,Zz.part f fun p h1 H1 μ1 _ g1 rh1 f1=>?_⟩
     obtain ⟨fl,ρ1⟩:=p;cases fl with
     | nx=>exact fun σ' rs'=>⟨ρ1,h1,μ1,rh1,rs',f1⟩
     | bk=>exact fun σ' rs'=>f1 H1 μ1 Gr.refl rh1 σ' rs'
     | ct=>exact fun σ' rs'=>f1 H1 μ1 Gr.refl rh1 σ' rs'
     | rt d=>exact fun v rv=>f1 H1 μ1 Gr.refl rh1 v rv
   . cases h
end
end IV
end
section
set_option tactic.hygienic false
namespace IV
open PySem PySem.Spec PyProof.Rows L2
structure BodyOk(K:PySem.W.Frag)(kl:Kl)(fs:List Str)(x q:Str)(fd:Fd)(st:Stmt)(f:Addr)(fdd:FuncData):Prop where
 fn:Fun K x q st f fdd
 sc:FnScope fd.N fd.ps (ZQ st)
 hb:∀ (kV doc pm:Value) (an:Option Addr) (cdv ct:Value) (us:List Value),us.length=fd.ps.length->bindArgs (PySem.W.fnOf x q (Zdn st) (ZbS st) (ZQ st) .none kV doc pm an cdv ct) ⟨us,[]⟩=pure (fd.ps.zip us)
 ck:chkSs ⟨fd.N,ZQ st,fs,true,kl⟩ fd.body (ZbS st)=true
structure DefOk(K:PySem.W.Frag)(mg:Str->Option Value)(kl:Kl)(fs:List Str)(x:Str)(fd:Fd)(st:Stmt)(f:Addr)(fdd:FuncData):Prop where
 bd:BodyOk K kl fs x x fd st f fdd
 mg:mg x=some (.ref f)
structure Md(Pr:Program)(w:World)(K:PySem.W.Frag)(mg:Str->Option Value)(P:Pg)(kl:Kl):Prop where
 bare:Zfl K=true
 gd:∀ x kvs,P.GD x=some kvs->∃ a kvs',mg x=some (.ref a)/\DkK Pr w K a kvs'/\∀ H B,RKs ⟨K,mg⟩ H B kvs kvs'
 g:∀ x d,P.G x=some d->∃ v u,mg x=some u/\RelV v u/\∀ H B,RD ⟨K,mg⟩ H B d v
 blt:∀ x∈(["len", "isinstance", "int", "tuple", "list", "sum", "all", "sorted", "range", "enumerate", "reversed", "str", "bool", "max"]:List Str),mg x=none
 defs:∀ x fd,P.tb.lookup x=some fd->∃ st f fdd,DefOk K mg kl (P.tb.map (·.1)) x fd st f fdd
 cls:∀ C∈kl.cs,∃ a,mg C=some (.ref a)/\Cls K a/\∀ f∈kl.ats,ZaQ K a f
 mts:∀ p∈kl.ms,∃ a f fdd fd st q,mg p.1=some (.ref a)/\Cls K a/\Meth K a p.2 f/\P.look (mnm p.1 p.2)=some fd/\BodyOk K kl (P.tb.map (·.1)) p.2 q fd st f fdd
 mks:∀ C∈kl.is,∃ a f fdd fd st q,mg C=some (.ref a)/\Mk K a f/\P.look (mnm C (O "__init__"))=some fd/\BodyOk K kl (P.tb.map (·.1)) (O "__init__") q fd st f fdd
 xcs:∀ C∈kl.xs,∃ a,mg C=some (.ref a)/\XOk K a
theorem Zms{Y:Yx}{H:Hp}{B:List Addr}{N:List Str}{ds:List D}{vs:List V}(r:RDs Y H B ds vs):RS Y H B (Zn N ds) (L2.start N vs):=by
 refine ⟨by simp [Zn,L2.start,r.length],fun i d e=>?_⟩;unfold Zn at e;unfold L2.start;by_cases hi:i<ds.length
 . rw [Oe (by simpa using hi),On] at e;rw [Oe (by simpa [<- r.length] using hi),On];obtain ⟨d',e1,e2⟩:=Oo.mp e;cases e2;obtain ⟨v,h1,h2⟩:=r.get e1;exact ⟨v,by rw [h1];rfl,h2⟩
 . rw [Om (by simpa using hi)] at e;have:=O1 e;rw [List.mem_replicate] at this;cases this.2
theorem ZoO{Y:Yx}{H:Hp}{B:List Addr}{r:R (Fl×Ev)}{Q:VK}{E:XK}(f:Fin Y (RD Y) H B (Zh r) Q E):Zz Y H B r {nx:=fun _ H'=>Q .non H',rt:=Q} E:=by
 cases r with
 | bad=>exact f.elim
 | exc c h=>exact f
 | ok p h =>
   obtain ⟨fl,S⟩:=p;cases fl with
   | nx=>exact fun H' μ' g rh σ' _=>f .non H' μ' g rh .non
   | bk=>exact f.elim
   | ct=>exact f.elim
   | rt d=>exact fun H' μ' g rh v rv=>f v H' μ' g rh rv
section
variable {Pr:Program}{w:World}{K:PySem.W.Frag}{mg:Str->Option Value}{base:Heap}{P:Pg}{kl:Kl}
theorem Zhm{x:Str}{fd:Fd}(h:P.tb.lookup x=some fd):P.look x=some fd:=by unfold Pg.look;rw [h]
theorem Zmu{n:Nat}{x:Str}{fd:Fd}(hl:P.look x=some fd){vs:List V}{H:Hp}{Q:VK}{E:XK}(h:ZeZ (P.tbl n) ⟨K,mg⟩ x vs H Q E):vs.length=fd.ps.length:=by
 obtain ⟨ds,h,B,rh,rs,f⟩:=h;cases n with
 | zero=>exact f.elim
 | succ n =>
   have f:Fin ⟨K,mg⟩ (RD ⟨K,mg⟩) H B (run P (n+1) x ds h) Q E:=f;rw [run,hl] at f;obtain ⟨hz,_⟩:=f.iff;rw [<- rs.length];exact hz
structure Lev(Pr:Program)(w:World)(K:PySem.W.Frag)(mg:Str->Option Value)(base:Heap)(P:Pg)(kl:Kl)(n:Nat):Prop where
 defs:∀ y∈P.tb.map (·.1),∃ ps,Def Pr w K mg base (2 * n+61) y ps (ZeZ (P.tbl n) ⟨K,mg⟩ y)
 mts:∀ p∈kl.ms,∃ a f fd ps,mg p.1=some (.ref a)/\Cls K a/\Meth K a p.2 f/\FnOk Pr w K mg base (CXF Pr w) (2 * n+61) f fd ps (ZeZ (P.tbl n) ⟨K,mg⟩ (mnm p.1 p.2))/\Binds K fd ps []
 mks:∀ C∈kl.is,∃ a f fd ps,mg C=some (.ref a)/\Mk K a f/\FnOk Pr w K mg base (CXF Pr w) (2 * n+61) f fd ps (ZeZ (P.tbl n) ⟨K,mg⟩ (mnm C (O "__init__")))/\Binds K fd ps []
theorem ZhD(M:Md Pr w K mg P kl){x nm q:Str}{fd:Fd}{st:Stmt}{f:Addr}{fdd:FuncData}(hl:P.look x=some fd)(o:BodyOk K kl (P.tb.map (·.1)) nm q fd st f fdd) :
   ∀ n,Lev Pr w K mg base P kl n->FnOk Pr w K mg base (CXF Pr w) (2 * (n+1)+61) f fdd fd.ps (ZeZ (P.tbl (n+1)) ⟨K,mg⟩ x):=by
 intro n ih;obtain ⟨oc,od,kV,doc,pm,an,cdv,ct,osl,rfl,lk,hcd⟩:=o.fn.ex;have S_:=o.sc;rw [show 2 * (n+1)+61=(2 * n+61+1)+1 by omega];refine Zum lk hcd S_ (fun vs H Q E h=>Zmu hl h) fun A outer s H vs Q E hr hsp=>?_;refine body_of (t:=Zqy (P.tbl n) ⟨K,mg⟩ E fd.body) (sts_ok fd.body (k:=2 * n+61) (Γ:=⟨fd.N,ZQ st,P.tb.map (·.1),true,kl⟩) ⟨⟨⟨rfl,rfl,M.gd,M.g,M.bare⟩,rfl,fun _=>rfl,fun y hy=>?_,fun y hy=>hy,S_.nd,rfl,hr.mono (by omega),by omega,Zpj fun _ _ z=>z,ih.defs,M.blt,hr,M.cls,ih.mts,ih.mks⟩,rfl,fun _=>rfl,PassesOwn.leaving,?_,ZmE,rfl,rfl,M.xcs⟩ o.ck) ?_
 . unfold Zox at hy;rw [Bool.or_eq_true,Bool.or_eq_true] at hy;rcases hy with (hy|hy)|hy
   . exact .inl (of_decide_eq_true hy)
   . exact .inr (.inl (of_decide_eq_true hy))
   . exact .inr (.inr (of_decide_eq_true hy))
 . show (if (ZQ st).kind.isAnnotationScope then ScopeKind.function else (ZQ st).kind)=.function;rw [S_.kind];rfl
 . obtain ⟨ds,h,B,rh,rs,f⟩:=hsp;have f:Fin ⟨K,mg⟩ (RD ⟨K,mg⟩) H B (run P (n+1) x ds h) Q E:=f;rw [run,hl] at f;obtain ⟨hz,f⟩:=f.iff;exact ⟨Zn fd.N ds,h,B,rh,Zms rs,ZoO f⟩
theorem mem_lookup{α:Type}{l:List (Str×α)}{x:Str}(h:x∈l.map (·.1)):∃ a,l.lookup x=some a:=by
 induction l with
 | nil=>simp at h
 | cons p r ih =>
   rw [OF];by_cases e:x=p.1
   . have:(x==p.1)=true:=by simpa using e
     rw [this];exact ⟨_,rfl⟩
   . have:(x==p.1)=false:=by simpa using e
     rw [this];exact ih (by simpa [e] using h)
theorem Zhy{x:Str}{fd:Fd}{f:Addr}{fdd:FuncData}(hl:P.look x=some fd):FnOk Pr w K mg base (CXF Pr w) (2 * 0+61) f fdd fd.ps (ZeZ (P.tbl 0) ⟨K,mg⟩ x) :=
 ⟨fun vs H Q E h=>Zmu hl h,fun A outer s H args us vs Q E _ _ _ _ h=>by obtain ⟨ds,h,B,rh,rs,f⟩:=h;exact f.elim⟩
theorem Zon(M:Md Pr w K mg P kl):∀ n,Lev Pr w K mg base P kl n:=by
 intro n;induction n with
 | zero =>
   refine ⟨fun y hy=>?_,fun p hp=>?_,fun C hC=>?_⟩
   . obtain ⟨fd,hl⟩:=mem_lookup hy;obtain ⟨st,f,fdd,o⟩:=M.defs y fd hl;exact ⟨fd.ps,f,fdd,o.mg,o.bd.fn.kp,o.bd.fn.binds o.bd.hb,Zhy (Zhm hl)⟩
   . obtain ⟨a,f,fdd,fd,st,q,m,c,me,hl,o⟩:=M.mts p hp;exact ⟨a,f,fdd,fd.ps,m,c,me,Zhy hl,o.fn.binds o.hb⟩
   . obtain ⟨a,f,fdd,fd,st,q,m,me,hl,o⟩:=M.mks C hC;exact ⟨a,f,fdd,fd.ps,m,me,Zhy hl,o.fn.binds o.hb⟩
 | succ n ih =>
   refine ⟨fun y hy=>?_,fun p hp=>?_,fun C hC=>?_⟩
   . obtain ⟨fd,hl⟩:=mem_lookup hy;obtain ⟨st,f,fdd,o⟩:=M.defs y fd hl;exact ⟨fd.ps,f,fdd,o.mg,o.bd.fn.kp,o.bd.fn.binds o.bd.hb,ZhD M (Zhm hl) o.bd n ih⟩
   . obtain ⟨a,f,fdd,fd,st,q,m,c,me,hl,o⟩:=M.mts p hp;exact ⟨a,f,fdd,fd.ps,m,c,me,ZhD M hl o n ih,o.fn.binds o.hb⟩
   . obtain ⟨a,f,fdd,fd,st,q,m,me,hl,o⟩:=M.mks C hC;exact ⟨a,f,fdd,fd.ps,m,me,ZhD M hl o n ih,o.fn.binds o.hb⟩
theorem Zsf(M:Md Pr w K mg P kl){x:Str}{a:Str}{fd:Fd}{fa:Addr}(n:Nat)(hl:P.tb.lookup x=some fd)(hps:fd.ps=[a])(hm:mg x=some (.ref fa)) :
   ∃ fdd:FuncData,(∀ (s:Shared) (v:Value),BindsTo s fdd ⟨[v],[]⟩ [(a,v)])/\∀ base:Heap,FnOk Pr w K mg base (CXF Pr w) (2 * (n+1)+61) fa fdd [a] (ZeZ (P.tbl (n+1)) ⟨K,mg⟩ x):=by
 obtain ⟨st,f,fdd,o⟩:=M.defs x fd hl;have e:=hm.symm.trans o.mg;cases e;refine ⟨fdd,fun s v=>?_,fun base=>hps ▸ ZhD M (Zhm hl) o.bd n (Zon M n)⟩;obtain ⟨oc,od,kV,doc,pm,an,cdv,ct,osl,rfl,lk,hcd⟩:=o.bd.fn.ex;have:=o.bd.hb kV doc pm an cdv ct [v] (by rw [hps];rfl);rw [hps] at this;exact BindsTo.of_eq this
end
theorem Zs3{α:Type}{us:List α}(h:us.length=0):us=[]:=List.length_eq_zero_iff.mp h
theorem Zlg{α:Type}{us:List α}{n:Nat}(h:us.length=n+1):∃ a r,us=a::r/\r.length=n:=by
 cases us with
 | nil=>cases h
 | cons a r=>exact ⟨a,r,rfl,Nat.succ.inj h⟩
theorem Zs2{α:Type}{us:List α}(h:us.length=1):∃ a0,us=[a0]:=by
 obtain ⟨a0,r,rfl,h2⟩:=Zlg h;exact ⟨a0,by rw [Zs3 h2]⟩
theorem Zs1{α:Type}{us:List α}(h:us.length=2):∃ a0 a1,us=[a0,a1]:=by
 obtain ⟨a0,r,rfl,h2⟩:=Zlg h;obtain ⟨a1,rfl⟩:=Zs2 h2;exact ⟨a0,a1,rfl⟩
theorem Zs0{α:Type}{us:List α}(h:us.length=3):∃ a0 a1 a2,us=[a0,a1,a2]:=by
 obtain ⟨a0,r,rfl,h2⟩:=Zlg h;obtain ⟨a1,a2,rfl⟩:=Zs1 h2;exact ⟨a0,a1,a2,rfl⟩
theorem ZsZ{α:Type}{us:List α}(h:us.length=4):∃ a0 a1 a2 a3,us=[a0,a1,a2,a3]:=by
 obtain ⟨a0,r,rfl,h2⟩:=Zlg h;obtain ⟨a1,a2,a3,rfl⟩:=Zs0 h2;exact ⟨a0,a1,a2,a3,rfl⟩
theorem ZsY{α:Type}{us:List α}(h:us.length=5):∃ a0 a1 a2 a3 a4,us=[a0,a1,a2,a3,a4]:=by
 obtain ⟨a0,r,rfl,h2⟩:=Zlg h;obtain ⟨a1,a2,a3,a4,rfl⟩:=ZsZ h2;exact ⟨a0,a1,a2,a3,a4,rfl⟩
theorem ZuU{α:Type}{us:List α}(h:us.length=6):∃ a0 a1 a2 a3 a4 a5,us=[a0,a1,a2,a3,a4,a5]:=by
 obtain ⟨a0,r,rfl,h2⟩:=Zlg h;obtain ⟨a1,a2,a3,a4,a5,rfl⟩:=ZsY h2;exact ⟨a0,a1,a2,a3,a4,a5,rfl⟩
end IV
end
section
namespace IV
open PySem PySem.Spec PyProof.Rows L2
noncomputable def All{α:Type}(p:α->Prop):List α->Prop
 | []=>True
 | a::l=>p a/\All p l
theorem All.mem{α:Type}{p:α->Prop}:∀ {l:List α},All p l->∀ a∈l,p a
 | [],_,a,h=>by simp at h
 | b::l,⟨h1,h2⟩,a,h=>by
   rcases O2.mp h with rfl|h
   . exact h1
   . exact All.mem h2 a h
theorem lookup_mem{α:Type}{l:List (Str×α)}{x:Str}{a:α}(h:l.lookup x=some a):(x,a)∈l:=by
 induction l with
 | nil=>cases h
 | cons p r ih =>
   rw [OF] at h;by_cases e:x=p.1
   . have:(x==p.1)=true:=by simpa using e
     rw [this] at h;cases h;subst e;exact Oi
   . have:(x==p.1)=false:=by simpa using e
     rw [this] at h;exact Oh _ (ih h)
noncomputable def spL(K:PySem.W.Frag):Sp:=fun vs H Q _=>∃ (a:Addr) (ns:List Int),vs=[.ref a]/\SqL K H a (ns.map V.int)/\ns.length<=63/\Zqp H/\∀ H',Q (.bl true) H'
theorem ZkZ{Y:Yx}{H:Hp}{B:List Addr}:∀ ns:List Int,RDs Y H B (ns.map D.int) (ns.map V.int)
 | []=>.nil
 | n::r=>.cons (.int n) (ZkZ r)
theorem ZsX {l:PySem.W.OpenLaw}{q:Program}{loose:List Str}{XP:(Str->Option Value)->Heap->Prop}{YP:World->Heap->Prop}{d:DefRec}{K:Params->PySem.W.Frag}{P:Pg}{kl:Kl}{fd:Fd} (n:Nat) (hn:l.most=some 63) (hdf:d.params.defaults=[]) (hd:d.name=O "law") (hr:Room (2 * (n+1)+61) callerA)
   (hY:∀ (w:World) (h:Heap),YP w h->(K w.params).In h) (hl:P.tb.lookup (O "law")=some fd) (hps:fd.ps=[O "_law_script"])
   (hrun:∀ ns:List Int,ns.length<=63->∃ h',run P (n+1) (O "law") [.ro (ns.map .int)] []=.ok (.bl true) h')
   (M:∀ (w:World) (mg:Str->Option Value) (h:Heap),(K w.params).In h->h.Ns mainGlobals mg->Md l.prog w (K w.params) mg P kl) :
   PySem.W.WalkO q loose XP YP l.row.toRowW d [] (fun f vs=>PySem.call f vs):=by
 refine L2.Zow (n:=63) (k:=2 * (n+1)+61) (x := "_law_script") (CX:=fun w=>CXF l.prog w) (sp:=fun w=>spL (K w.params)) hn (by decide) hdf hr hY (fun w mg fa h KX G hmg=>?_) (fun _ _ a ns hl hO hS=>⟨a,ns,rfl,hS,hl,hO,fun _=>rfl⟩) fun _ _ _ _ _ z=>by obtain ⟨_,_,_,_,_,_,_,_,_,_,_,_,_,z⟩:=z;exact z
 rw [hd] at hmg;obtain ⟨fdd,hb,F⟩:=Zsf (M w mg h KX G) n hl hps hmg;refine ⟨fdd,hb,fun base _ _=>(F base).imp fun vs H Q E hsp=>?_⟩;obtain ⟨a,ns,rfl,hS,hz,hO,hq⟩:=hsp;obtain ⟨h',e⟩:=hrun ns hz;refine ⟨[.ro (ns.map .int)],[],[],⟨rfl,.nil,fun i o a e=>by simp at e,fun i o e=>by simp at e⟩,.cons (.ro ?_ (ZkZ ns)) .nil,?_⟩
 . rcases hS with hS|hS
   . rcases hS with hS|hS
     . rcases hO a with z|⟨o,xs,z⟩<;>(rw [z] at hS;cases hS)
     . exact .inl hS
   . exact .inr hS
 . show Fin _ _ H [] (run P (n+1) (O "law") [.ro (ns.map .int)] []) Q E;rw [e];exact fun b H' μ' _ _ r=>by cases r;exact hq H'
theorem Zdr {K:PySem.W.Frag}{H:Hp}{a:Addr}{od:Option Addr}{its:Array Value}{n:Nat}{sl:Array (Option Value)}{vs:List V} (h:K.lookup a=some ⟨.type "tuple",od,.seq its n,sl⟩) (hz:its.size<=sizeLine) (r:Zm vs its.toList):SqT K H a vs :=
 .inr ⟨_,its,n,h,rfl,rfl,hz,r⟩
end IV
end
section
namespace IV
open PySem L2 PyProof.Rows
structure Chk(kl:Kl)(fs:List Str)(x q:Str)(fd:Fd)(st:Stmt):Prop where
 sc:FnScope fd.N fd.ps (ZQ st)
 hb:∀ (kV doc pm:Value) (an:Option Addr) (cdv ct:Value) (us:List Value),us.length=fd.ps.length->bindArgs (PySem.W.fnOf x q (Zdn st) (ZbS st) (ZQ st) .none kV doc pm an cdv ct) ⟨us,[]⟩=pure (fd.ps.zip us)
 ck:chkSs ⟨fd.N,ZQ st,fs,true,kl⟩ fd.body (ZbS st)=true
variable {K:PySem.W.Frag}{h:Heap}{mg:Str->Option Value}{kl:Kl}{fs:List Str}{x q C:Str}{fd:Fd}{st:Stmt}{ca:Addr}{P:Pg}
theorem Chk.bd(c:Chk kl fs x q fd st){f:Addr}{fdd:FuncData}(F:Fun K x q st f fdd):BodyOk K kl fs x q fd st f fdd:=⟨F,c.sc,c.hb,c.ck⟩
noncomputable def ZD(K:PySem.W.Frag)(x:Str)(st:Stmt):Prop:=∃ f fdd,PySem.W.nsIn K mainGlobals x=some (some (.ref f))/\Fun K x x st f fdd
noncomputable def Zkn(K:PySem.W.Frag)(ca:Addr)(x q:Str)(st:Stmt):Prop:=∃ f fdd,PySem.W.findIn K (.ref ca) x=some (some (.ref f))/\PySem.W.isFn K (.ref f)=true/\PySem.W.keepIn K (.ref f)=true/\Fun K x q st f fdd
theorem Zf(X:K.In h)(G:h.Ns mainGlobals mg)(d:ZD K x st)(c:Chk kl fs x x fd st):∃ st f fdd,DefOk K mg kl fs x fd st f fdd:=by
 obtain ⟨f,fdd,a,F⟩:=d;exact ⟨st,f,fdd,c.bd F,PySem.W.mg_of X G a⟩
theorem Zfb(X:K.In h)(G:h.Ns mainGlobals mg)(y:PySem.W.nsIn K mainGlobals C=some (some (.ref ca)))(cl:Cls K ca)(d:Zkn K ca x q st)(c:Chk kl (P.tb.map (·.1)) x q fd st)(e:P.look (mnm C x)=some fd):∃ a f fdd fd st q,mg C=some (.ref a)/\Cls K a/\Meth K a x f/\P.look (mnm C x)=some fd/\BodyOk K kl (P.tb.map (·.1)) x q fd st f fdd:=by
 obtain ⟨f,fdd,u1,u2,u3,F⟩:=d;exact ⟨ca,f,fdd,fd,st,q,PySem.W.mg_of X G y,cl,⟨u1,u2,u3⟩,e,c.bd F⟩
theorem Zr9 (X:K.In h) (G:h.Ns mainGlobals mg) (y:PySem.W.nsIn K mainGlobals C=some (some (.ref ca))) (m:PySem.W.makesIn K ca=true) (k:PySem.W.keepIn K (.ref ca)=true) (d:Zkn K ca (O "__init__") q st) (c:Chk kl (P.tb.map (·.1)) (O "__init__") q fd st) (e:P.look (mnm C (O "__init__"))=some fd):∃ a f fdd fd st q,mg C=some (.ref a)/\Mk K a f/\P.look (mnm C (O "__init__"))=some fd/\BodyOk K kl (P.tb.map (·.1)) (O "__init__") q fd st f fdd:=by
 obtain ⟨f,fdd,u1,u2,u3,F⟩:=d;exact ⟨ca,f,fdd,fd,st,q,PySem.W.mg_of X G y,⟨m,u1,u2,k⟩,e,c.bd F⟩
end IV
end
section
set_option tactic.hygienic false
namespace IV
open PySem L2
theorem Zhj{a b:String}(h:Str.ofString a=Str.ofString b):a=b:=by
 have e:∀ s:String,(Str.ofString s).cps.toList=s.toList.map Char.toNat:=fun s=>by
   show (cpsOfBytes 0 0 s.toByteArray.data.toList).toArray.toList=_;rw [cpsOfBytes_string]
 have h1:=congrArg (fun s:Str=>s.cps.toList) h;simp only [e] at h1;have h2:a.toList=b.toList:=by
   have inj:∀ {x y:Char},x.toNat=y.toNat->x=y:=fun {x y} q=>by
     have:x.val=y.val:=UInt32.toNat_inj.mp q;exact Char.ext this
   exact (List.map_inj_right fun x y q=>inj q).mp h1
 exact String.toList_inj.mp h2
@[simp] theorem ofString_eq(a b:String):(Str.ofString a=Str.ofString b)↔a=b:=⟨Zhj,fun h=>h ▸ rfl⟩
@[simp] theorem ZpA(a b:String):(Str.ofString a==Str.ofString b)=(a==b):=by
 rw [Bool.eq_iff_iff];simp
noncomputable def Un{γ:Type}(k:γ):Type:=Unit
noncomputable def un{γ:Type}{k:γ}:Un k:=()
noncomputable def R.bnd{α β:Type}(r:R α)(k:α->Hd->R β)(u:Un k:=un):R β:=r.bind k
@[simp] theorem Zl{α β:Type}{a:α}{h:Hd}{k:α->Hd->R β}{u:Un k}:R.bnd (.ok a h) k u=k a h:=rfl
@[simp] theorem ZuR{α β:Type}{k:α->Hd->R β}{u:Un k}:R.bnd (R.bad:R α) k u=.bad:=rfl
section
variable {T:Tb}{S:Ev}{h:Hd}
@[simp] theorem bind_ok{α β:Type}{a:α}{h:Hd}{k:α->Hd->R β}:(R.ok a h).bind k=k a h:=rfl
@[simp] theorem bind_bad{α β:Type}{k:α->Hd->R β}:(R.bad:R α).bind k=.bad:=rfl
@[simp] theorem ofO_some{α:Type}{a:α}{h:Hd}:R.ofO (some a) h=.ok a h:=rfl
@[simp] theorem ZlF{α:Type}{a:α}{h:Hd}:(R.ok a h).plain=.ok a h:=rfl
@[simp] theorem ZhA{i}:ev T (.var i) S h=R.ofO (S[i]?).join h:=rfl
@[simp] theorem Zj4{d}:ev T (.cst d) S h=.ok d h:=rfl
@[simp] theorem ZnW{x}:ev T (.glo x) S h=R.ofO (T.G x) h:=rfl
@[simp] theorem ZnX{op a b}:ev T (.bin op a b) S h=(ev T a S h).bnd fun x h1=>(ev T b S h1).bnd fun y h2=>opB op x y h2:=rfl
@[simp] theorem Zj5{op a b}:ev T (.cmp op a b) S h=(ev T a S h).bnd fun x h1=>(ev T b S h1).bnd fun y h2=>opC T.GD op x y h2:=rfl
@[simp] theorem ZvF{a}:ev T (.neg a) S h=(ev T a S h).bnd fun x h1=>match x with
   | .int i=>.ok (.int (-i)) h1
   | _=>.bad:=rfl
@[simp] theorem ZvY{a}:ev T (.nt a) S h=(ev T a S h).bnd fun x h1=>match x with
   | .bl b=>.ok (.bl (!b)) h1
   | _=>.bad:=rfl
@[simp] theorem Zp5{es}:ev T (.ands es) S h=evAnd T es S h:=rfl
@[simp] theorem ZvE{es}:ev T (.ors es) S h=evOr T es S h:=rfl
@[simp] theorem ZsT{e}:evAnd T (.cons e .nil) S h=ev T e S h:=rfl
@[simp] theorem Zl5{e e' r}:evAnd T (.cons e (.cons e' r)) S h=(ev T e S h).bnd fun x h1=>match x with
     | .bl true=>evAnd T (.cons e' r) S h1
     | .bl false=>.ok (.bl false) h1
     | _=>.bad:=rfl
@[simp] theorem Zuv{e}:evOr T (.cons e .nil) S h=ev T e S h:=rfl
@[simp] theorem Zuu{e e' r}:evOr T (.cons e (.cons e' r)) S h=(ev T e S h).bnd fun x h1=>match x with
     | .bl true=>.ok (.bl true) h1
     | .bl false=>evOr T (.cons e' r) S h1
     | _=>.bad:=rfl
@[simp] theorem ZvI{c a b}:ev T (.ite c a b) S h=(tst T c S h).bnd fun c h1=>if c then ev T a S h1 else ev T b S h1:=rfl
@[simp] theorem Zfd{es}:ev T (.tupl es) S h=(evs T es S h).bnd fun xs h1=>if xs.length<=sizeLine then .ok (.tup xs) h1 else .bad:=rfl
@[simp] theorem Zk5{es}:ev T (.lstl es) S h=(evs T es S h).bnd fun xs h1=>if xs.length<=sizeLine then ZcI (.lst xs) h1 else .bad:=rfl
@[simp] theorem ZiN{a i}:ev T (.ix a i) S h=(ev T a S h).bnd fun x h1=>(ev T i S h1).bnd fun y h2=>ZaS T.GD x y h2:=rfl
@[simp] theorem Zup{a lo hi}:ev T (.sl a lo hi) S h=(ev T a S h).bnd fun x h1=>(evo T lo S h1).bnd fun l h2=>(evo T hi S h2).bnd fun u h3=>Zgj x l u h3:=rfl
@[simp] theorem ZvJ{f es}:ev T (.blt f es) S h=(evs T es S h).bnd fun xs h1=>Zb4 T.GD f xs h1:=rfl
@[simp] theorem ZhC{f es}:ev T (.call f es) S h=(evs T es S h).bnd fun xs h1=>T.C f xs h1:=rfl
@[simp] theorem Zp3{m o es}:ev T (.meth m o es) S h=(ev T o S h).bnd fun x h1=>if Zdz x h1 then (evs T es S h1).bnd fun xs h2=>Zbo m x xs h2 else .bad:=rfl
@[simp] theorem Zfe{NC js it g c e}:ev T (.comp NC js it g c e) S h=(evi T it S h).bnd fun w h1=>(ZL w.src g (tsto T c) (ev T e) w.xs (Zbp js S) [] h1).bnd fun xs h2=>ZcI (.lst xs) h2:=rfl
@[simp] theorem ZuQ{e d}:ev T (.maxd e d) S h=(ev T e S h).bnd fun x h1=>(ev T d S h1).bnd fun y h2=>Zld x y h2:=rfl
@[simp] theorem Zut{ps}:ev T (.dictl ps) S h=(evs T ps S h).bnd fun xs h1=>match ZcO xs with
   | some kvs=>if kvs.length<=15 then ZcI (.dic (Zb2 [] kvs)) h1 else .bad
   | none=>.bad:=rfl
@[simp] theorem ZvK{Cs o f}:ev T (.att Cs o f) S h=(ev T o S h).bnd fun x h1=>Zgp Cs f x h1:=rfl
@[simp] theorem Zur{C es}:ev T (.mk C es) S h=(evs T es S h).bnd fun xs h1=>Znm T.C C xs h1:=rfl
@[simp] theorem ZnV{C m o es}:ev T (.mcl C m o es) S h=(ev T o S h).bnd fun x h1=>match ZY x h1 with
   | some (C',fs)=>if C'=C/\fs.lookup m=none then (evs T es S h1).bnd fun xs h2=>T.C (mnm C m) (x::xs) h2 else .bad
   | none=>.bad:=rfl
@[simp] theorem ZuP{e}:ev T (.trev e) S h=(ev T e S h).bnd fun x h1=>ZqU x h1:=rfl
@[simp] theorem ZvG{e}:ev T (.lrv e) S h=(ev T e S h).bnd fun x h1=>ZuD x h1:=rfl
@[simp] theorem ZvD{o e}:ev T (.tix o e) S h=(ev T o S h).bnd fun x h1=>if Zuf x then (ev T e S h1).bnd fun y h2=>ZuC x y h2 else .bad:=rfl
@[simp] theorem ZvH{o e}:ev T (.lix o e) S h=(ev T o S h).bnd fun x h1=>if Zdz x h1 then (ev T e S h1).bnd fun y h2=>ZuE x y h2 else .bad:=rfl
@[simp] theorem Zsz{a b}:ev T (.lin a b) S h=(ev T a S h).bnd fun x h1=>(ev T b S h1).bnd fun y h2=>Ze4 x y h2:=rfl
@[simp] theorem ZsV{Cs o f e}:xs1 T (.seta Cs o f e) S h=(ev T e S h).bnd fun d h1=>(ev T o S h1).bnd fun x h2=>(Zg8 Cs f x d h2).bnd fun _ h3=>.ok (.nx,S) h3:=rfl
@[simp] theorem ZsW{Cs o f e}:xs1 T (.auga Cs o f e) S h=(ev T o S h).bnd fun x h1=>(Zgp Cs f x h1).bnd fun v h2=>(ev T e S h2).bnd fun y h3=>match v,y with
   | .int a,.int b=>if (ZY x h1).map (·.1)=(ZY x h3).map (·.1) then (Zg8 Cs f x (.int (a+b)) h3).bnd fun _ h4=>.ok (.nx,S) h4 else .bad
   | _,_=>.bad:=rfl
@[simp] theorem Zef:evs T .nil S h=.ok [] h:=rfl
@[simp] theorem Za9{e es}:evs T (.cons e es) S h=(ev T e S h).bnd fun x h1=>(evs T es S h1).bnd fun xs h2=>.ok (x::xs) h2:=rfl
@[simp] theorem Zuo:evo T none S h=.ok none h:=rfl
@[simp] theorem ZnU{e}:evo T (some e) S h=(ev T e S h).bnd fun x h1=>match x with
   | .int i=>.ok (some i) h1
   | _=>.bad:=rfl
@[simp] theorem Zg1{e}:tst T (.ex e) S h=(ev T e S h).bnd fun x h1=>R.ofO (ZdU T.GD x h1) h1:=rfl
@[simp] theorem ZhZ{ts}:tst T (.ands ts) S h=tstAnd T ts S h:=rfl
@[simp] theorem Zku{ts}:tst T (.ors ts) S h=tstOr T ts S h:=rfl
@[simp] theorem ZuV{a}:tst T (.nt a) S h=(tst T a S h).bnd fun c h1=>.ok (!c) h1:=rfl
@[simp] theorem Zq6{t}:tstAnd T (.one t) S h=tst T t S h:=rfl
@[simp] theorem ZeE{t ts}:tstAnd T (.cons t ts) S h=(tst T t S h).bnd fun c h1=>if c then tstAnd T ts S h1 else .ok false h1:=rfl
@[simp] theorem ZsQ{t}:tstOr T (.one t) S h=tst T t S h:=rfl
@[simp] theorem Zfm{t ts}:tstOr T (.cons t ts) S h=(tst T t S h).bnd fun c h1=>if c then .ok true h1 else tstOr T ts S h1:=rfl
@[simp] theorem Zlk:tsto T none S h=.ok true h:=rfl
@[simp] theorem ZsP{t}:tsto T (some t) S h=tst T t S h:=rfl
@[simp] theorem Zsy{e}:evi T (.pl e) S h=(ev T e S h).bnd fun x h1=>R.ofO (Zan x h1) h1:=rfl
@[simp] theorem ZpZ{e}:evi T (.rng e) S h=(ev T e S h).bnd fun x h1=>match x with
   | .int j=>if Za1 j then .ok ⟨none,Zaz 0 j.toNat⟩ h1 else .bad
   | _=>.bad:=rfl
@[simp] theorem Zp1{e}:evi T (.enu e) S h=(ev T e S h).bnd fun x h1=>R.ofO ((Zkq x h1).map fun w=>⟨w.src,ZcD w.xs⟩) h1:=rfl
@[simp] theorem Zp0{e}:evi T (.rev e) S h=(ev T e S h).bnd fun x h1=>R.ofO ((Zgt x h1).map fun w=>⟨w.src,w.xs.reverse⟩) h1:=rfl
@[simp] theorem Zp2{e}:evi T (.en1 e) S h=(ev T e S h).bnd fun x h1=>match x with
   | .tup xs=>.ok ⟨none,ZdK xs⟩ h1
   | _=>.bad:=rfl
@[simp] theorem ZuO{e}:evi T (.en0 e) S h=(ev T e S h).bnd fun x h1=>match x with
   | .tup xs=>.ok ⟨none,ZcD xs⟩ h1
   | _=>.bad:=rfl
@[simp] theorem ZvC{e}:evi T (.dk e) S h=(ev T e S h).bnd fun x h1=>ZnQ x h1:=rfl
@[simp] theorem ZgY{e}:xs1 T (.ret e) S h=(ev T e S h).bnd fun x h1=>.ok (.rt x,S) h1:=rfl
@[simp] theorem Ze6{g e}:xs1 T (.set g e) S h=(ev T e S h).bnd fun x h1=>(R.ofO (ZbG g x S) h1).bnd fun ρ1 h2=>.ok (.nx,ρ1) h2:=rfl
@[simp] theorem ZuJ{o i e}:xs1 T (.put o i e) S h=(ev T e S h).bnd fun x h1=>(ev T o S h1).bnd fun y h2=>(ev T i S h2).bnd fun z h3=>(ZbP y z x h3).bnd fun _ h4=>.ok (.nx,S) h4:=rfl
@[simp] theorem Zko{e}:xs1 T (.drp e) S h=(ev T e S h).bnd fun _ h1=>.ok (.nx,S) h1:=rfl
@[simp] theorem Ze7{c a b}:xs1 T (.iff c a b) S h=(tst T c S h).bnd fun t h1=>if t then xs2 T a S h1 else xs2 T b S h1:=rfl
@[simp] theorem ZuI{c b}:xs1 T (.whl c b) S h=ZV (tst T c) (xs2 T b) T.L S h:=rfl
@[simp] theorem Zfh{g it b}:xs1 T (.forr g it b) S h=(evi T it S h).bnd fun w h1=>ZS w.src g (xs2 T b) w.xs S h1:=rfl
@[simp] theorem Zoq:xs2 T .nil S h=.ok (.nx,S) h:=rfl
@[simp] theorem Zb8{s r}:xs2 T (.cons s r) S h=(xs1 T s S h).bnd fun p h1=>match p with
   | (.nx,ρ1)=>xs2 T r ρ1 h1
   | p=>.ok p h1:=rfl
theorem Za{s:Sx}{r:Sxs}{ρ1:Ev}{h1:Hd}(e:xs1 T s S h=.ok (.nx,ρ1) h1):xs2 T (.cons s r) S h=xs2 T r ρ1 h1:=by rw [Zb8,e];rfl
theorem Ze{s:Sx}{r:Sxs}{ρ1:Ev}{h1:Hd}{d:D}(e:xs1 T s S h=.ok (.rt d,ρ1) h1):xs2 T (.cons s r) S h=.ok (.rt d,ρ1) h1:=by rw [Zb8,e];rfl
@[simp] theorem Zqj{i d}:ZbG (.nm i) d S=some (S.set i (some d)):=rfl
@[simp] theorem ZiZ{i j a b}:ZbG (.two i j) (.tup [a,b]) S=some ((S.set i (some a)).set j (some b)):=rfl
@[simp] theorem Zve{d:D}:Zh (.ok (.rt d,S) h)=.ok d h:=rfl
@[simp] theorem Zvf:Zh (.ok (.nx,S) h)=.ok .non h:=rfl
end
@[simp] theorem Zlq{xs:List D}{h:Hd}:seqOf (.tup xs) h=some xs:=rfl
@[simp] theorem ZtW{f:Int->Int->Bool}{i j:Int}{h:Hd}:Zhh f (.int i) (.int j) h=.ok (.bl (f i j)) h:=rfl
section
variable {GD:Str->Option (List (Key×D))}{h:Hd}
@[simp] theorem Zng{x y}:opC GD .Eq x y h=Zb1 false x y h:=rfl
@[simp] theorem Zr0{x y}:opC GD .NotEq x y h=Zb1 true x y h:=rfl
@[simp] theorem Zvu{i j}:opC GD .Lt (.int i) (.int j) h=.ok (.bl (decide (i<j))) h:=rfl
@[simp] theorem Zvv{i j}:opC GD .LtE (.int i) (.int j) h=.ok (.bl (decide (i<=j))) h:=rfl
@[simp] theorem Zvw{i j}:opC GD .Gt (.int i) (.int j) h=.ok (.bl (decide (j<i))) h:=rfl
@[simp] theorem Zvx{i j}:opC GD .GtE (.int i) (.int j) h=.ok (.bl (decide (j<=i))) h:=rfl
@[simp] theorem Znf{x}:opC GD .Is x .non h=.ok (.bl (decide (x=.non))) h:=rfl
@[simp] theorem Zne{x}:opC GD .IsNot x .non h=.ok (.bl (!decide (x=.non))) h:=rfl
@[simp] theorem ZsS{s n}:opC GD .In (.str s) (.kd n) h=match GD n with
   | some kvs=>.ok (.bl (Zac kvs (.inr s)).isSome) h
   | none=>.bad:=by
 show ZbQ GD false (.str s) (.kd n) h=_;unfold ZbQ;simp only [seqOf,lstOf,dicOf,keyOf];cases GD n<;>rfl
@[simp] theorem Zhi{s n}:opC GD .NotIn (.str s) (.kd n) h=match GD n with
   | some kvs=>.ok (.bl (!(Zac kvs (.inr s)).isSome)) h
   | none=>.bad:=by
 show ZbQ GD true (.str s) (.kd n) h=_;unfold ZbQ;simp only [seqOf,lstOf,dicOf,keyOf];cases GD n<;>rfl
theorem Zi6(ss:List Str):(ss.map D.str).all D.flat=true:=by
 rw [OC];intro x hx;obtain ⟨s,_,rfl⟩:=List.mem_map.mp hx;rfl
theorem any_words(ss:List Str)(x:Str):((ss.map D.str).any fun z=>eqF z (.str x))=decide (x∈ss):=by
 induction ss with
 | nil=>rfl
 | cons s r ih =>
   rw [Op,List.any_cons,ih];show ((s==x) || decide (x∈r))=_;by_cases e:s=x
   . subst e;simp
   . have:(s==x)=false:=by simpa using e
     rw [this];have e':¬ x=s:=fun q=>e q.symm;simp [e']
theorem Zd6{ss:List Str}{x:Str}:opC GD .In (.str x) (.tup (ss.map .str)) h=.ok (.bl (decide (x∈ss))) h:=by
 show ZbQ GD false (.str x) (.tup (ss.map .str)) h=_;unfold ZbQ;rw [Zlq];simp only [Zi6,any_words];rfl
@[simp] theorem ZtV{xs i}:ZaS GD (.tup xs) (.int i) h=R.ofO (atI xs i) h:=rfl
@[simp] theorem ZuM{xs i}:ZaS GD (.ro xs) (.int i) h=R.ofO (atI xs i) h:=rfl
@[simp] theorem Zps{n s}:ZaS GD (.kd n) (.str s) h=match GD n with
   | some kvs=>R.ofO (Zac kvs (.inr s)) h
   | none=>.bad:=rfl
theorem ZI{i k xs}(e:h[i]? = some (.lst xs)):ZaS GD (.ref i) (.int k) h=R.ofO (atI xs k) h:=by
 unfold ZaS;simp only [seqOf,lstOf,e]
@[simp] theorem ZqV{α:Type}{x:α}{l:List α}:atI (x::l) 0=some x:=by simp [atI,ixN]
theorem ZcB{α:Type}{l:List α}{k:Nat}:atI l (k:Int)=l[k]? := by
 unfold atI ixN;by_cases hk:k<l.length
 . simp [hk]
 . simp [hk]
@[simp] theorem Zv1{α:Type}{x y:α}{l:List α}:atI (x::y::l) 1=some y:=ZcB (k:=1)
@[simp] theorem Zv0{α:Type}{x y z:α}{l:List α}:atI (x::y::z::l) 2=some z:=ZcB (k:=2)
@[simp] theorem ZvZ{α:Type}{x y z w:α}{l:List α}:atI (x::y::z::w::l) 3=some w:=ZcB (k:=3)
theorem Zoi{α:Type}{l:List α}{x:α}:atI (l++[x]) (-1)=some x:=by
 unfold atI ixN;rw [if_neg (by decide),if_pos (by simp;omega)];have:(-1+((l++[x]).length:Int)).toNat=l.length:=by simp;omega
 simp only [Option.bind_some,this];simp
@[simp] theorem ZtU{xs l u}:Zgj (.tup xs) l u h=.ok (.tup (cutD xs l u)) h:=rfl
@[simp] theorem Zl8{x:D}{l:List D}:cutD (x::l) (some 1) none=l:=by
 simp [cutD,HT.sIx]
@[simp] theorem Zkv{b}:ZdU GD (.bl b) h=some b:=rfl
@[simp] theorem Zs9{i}:ZdU GD (.int i) h=some (i != 0):=rfl
@[simp] theorem Zs7{xs}:ZdU GD (.tup xs) h=some (!xs.isEmpty):=rfl
@[simp] theorem Zs8:ZdU GD .non h=some false:=rfl
@[simp] theorem Zpw{i j}:opB .Add (.int i) (.int j) h=.ok (.int (i+j)) h:=rfl
@[simp] theorem ZuN{i j}:opB .Sub (.int i) (.int j) h=.ok (.int (i - j)) h:=rfl
theorem ZO{i j:Int}(hj:0<j):opB .Mod (.int i) (.int j) h=.ok (.int (i % j)) h:=if_pos hj
theorem Zcq{i j:Int}(hj:0<j/\j<1073741824):opB .FloorDiv (.int i) (.int j) h=.ok (.int (i / j)) h:=if_pos hj
theorem Zd7{i j:Int}(hj:i.natAbs<2 ^ 2000/\j.natAbs<2 ^ 2000):opB .Mult (.int i) (.int j) h=.ok (.int (i * j)) h:=if_pos hj
theorem Zdi{xs ys:List D}(hl:xs.length+ys.length<=sizeLine):opB .Add (.tup xs) (.tup ys) h=.ok (.tup (xs++ys)) h:=if_pos hl
@[simp] theorem Zij{n:Bool}{x y:Str}:Zb1 n (.str x) (.str y) h=.ok (.bl (if n then !decide (x=y) else decide (x=y))) h:=by
 have e:PyData.eqv (.str x) (.str y)=decide (x=y):=by
   show (x==y)=_;rw [Bool.beq_eq_decide_eq]
 have q:Zb1 n (.str x) (.str y) h=if min (PyData.str x).depth (PyData.str y).depth<=1100 then .ok (.bl (if n then !PyData.eqv (.str x) (.str y) else PyData.eqv (.str x) (.str y))) h else .bad:=rfl;rw [q,if_pos (by simp [PyData.depth]),e]
@[simp] theorem Znc{n:Bool}{x y:Int}:Zb1 n (.int x) (.int y) h=.ok (.bl (if n then !decide (x=y) else decide (x=y))) h:=by
 have e:PyData.eqv (.int x) (.int y)=decide (x=y):=by
   show (x==y)=_;rw [Bool.beq_eq_decide_eq]
 have q:Zb1 n (.int x) (.int y) h=if min (PyData.int x).depth (PyData.int y).depth<=1100 then .ok (.bl (if n then !PyData.eqv (.int x) (.int y) else PyData.eqv (.int x) (.int y))) h else .bad:=rfl;rw [q,if_pos (by simp [PyData.depth]),e]
end
@[simp] theorem ZsR{xs:List D}(h:xs.length<=1000):xs.length<=sizeLine:=OE h (by decide)
theorem Zc{P:Pg}{n:Nat}{f:Str}{fd:Fd}{ds:List D}{h:Hd}(e:P.tb.lookup f=some fd)(hl:ds.length=fd.ps.length):run P (n+1) f ds h=Zh (xs2 ⟨P.G,P.GD,run P n,P.L⟩ fd.body (Zn fd.N ds) h):=by
 rw [run,show P.look f=some fd by unfold Pg.look;rw [e]];simp only;rw [if_pos hl]
theorem ZdG{P:Pg}{n:Nat}{f:Str}{fd:Fd}{ds:List D}{h:Hd}(hn:P.tb.lookup f=none)(e:P.ms.lookup f=some fd)(hl:ds.length=fd.ps.length):run P (n+1) f ds h=Zh (xs2 ⟨P.G,P.GD,run P n,P.L⟩ fd.body (Zn fd.N ds) h):=by
 rw [run,show P.look f=some fd by unfold Pg.look;rw [hn];exact e];simp only;rw [if_pos hl]
end IV
namespace IV
open PySem L2
section
variable {h:Hd}{x y z w:DO}{r:List DO}
@[simp] theorem ZdP:(h++x::r)[h.length]? = some x:=by simp
@[simp] theorem Zv4:(h++x::y::r)[h.length+1]? = some y:=by simp
@[simp] theorem Zv3:(h++x::y::z::r)[h.length+2]? = some z:=by simp
@[simp] theorem Zv2:(h++x::y::z::w::r)[h.length+3]? = some w:=by simp
@[simp] theorem ZqE{o:DO}:(h++x::r).set h.length o=h++o::r:=by simp
@[simp] theorem ZvX{o:DO}:(h++x::y::r).set (h.length+1) o=h++x::o::r:=by simp
@[simp] theorem ZvW{o:DO}:(h++x::y::z::r).set (h.length+2) o=h++x::y::o::r:=by simp
end
@[simp] theorem ZpC{o:DO}{h:Hd}:ZcI o h=.ok (.ref h.length) (h++[o]):=rfl
section
variable {h:Hd}
theorem Zd9{i:Nat}{ys:List D}{d:D}(e:h[i]? = some (.lst ys))(hz:ys.length<sizeLine):Zbo .app (.ref i) [d] h=.ok .non (h.set i (.lst (ys++[d]))):=by
 simp only [Zbo,e,ZfN,Znr];rw [if_pos hz]
theorem Ziq{i:Nat}{ys:List D}{d:D}(e:h[i]? = some (.lst (ys++[d]))):Zbo .pop (.ref i) [] h=.ok d (h.set i (.lst ys)):=by
 simp only [Zbo,e,ZfN,Zsb];simp
theorem Zex{i:Nat}{ys:List D}(e:h[i]? = some (.lst ys)):Zdz (.ref i) h=true:=by simp [Zdz,e]
theorem Zoz{GD:Str->Option (List (Key×D))}{i:Nat}{ys:List D}(e:h[i]? = some (.lst ys)):ZdU GD (.ref i) h=some (!ys.isEmpty):=by simp [ZdU,e]
@[simp] theorem Zul{g:Tg}{body:Ev->Hd->R (Fl×Ev)}{S:Ev}:ZS none g body [] S h=.ok (.nx,S) h:=rfl
theorem Zau{g:Tg}{body:Ev->Hd->R (Fl×Ev)}{d:D}{ds:List D}{S:Ev}:ZS none g body (d::ds) S h=match ZbG g d S with
     | none=>.bad
     | some ρ1=>(body ρ1 h).bnd fun p h2=>match p with
       | (.nx,ρ2)=>ZS none g body ds ρ2 h2
       | (.ct,ρ2)=>ZS none g body ds ρ2 h2
       | (.bk,ρ2)=>.ok (.nx,ρ2) h2
       | (.rt d,ρ2)=>.ok (.rt d,ρ2) h2:=rfl
theorem ZW{src:Option (Nat×List D)}{g:Tg}{test:Ev->Hd->R Bool}{elt:Ev->Hd->R D}{d:D}{ds:List D}{S:Ev}{acc:List D}:ZL src g test elt (d::ds) S acc h=if Wk.stays src h/\acc.length<sizeLine then match ZbG g d S with
     | none=>.bad
     | some ρ1=>(test ρ1 h).plain.bnd fun b h1=>if b then (elt ρ1 h1).plain.bnd fun x h2=>ZL src g test elt ds S (acc++[x]) h2 else ZL src g test elt ds S acc h1
   else .bad:=rfl
theorem ZbO{test:Ev->Hd->R Bool}{body:Ev->Hd->R (Fl×Ev)}{n:Nat}{S:Ev}:ZV test body (n+1) S h=(test S h).bnd fun b h1=>if b then (body S h1).bnd fun p h2=>match p with
     | (.nx,ρ2)=>ZV test body n ρ2 h2
     | (.ct,ρ2)=>ZV test body n ρ2 h2
     | (.bk,ρ2)=>.ok (.nx,ρ2) h2
     | (.rt d,ρ2)=>.ok (.rt d,ρ2) h2
   else .ok (.nx,S) h1:=rfl
end
inductive Wd where
 | add|sub|mul|lt
 deriving DecidableEq
noncomputable def Wd.s:Wd->Str
 | .add=>O "+"
 | .sub=>O "-"
 | .mul=>O "*"
 | .lt=>O "<"
inductive T where
 | num (n:Int)|name (x:Str)|fn (x:Str) (e:T)|rcc (f x:Str) (e:T)|call (f a:T)|iff (c t e:T)|op (w:Wd) (a b:T)
noncomputable def T.d:T->D
 | .num n=>.tup [.str (O "num"),.int n]
 | .name x=>.tup [.str (O "name"),.str x]
 | .fn x e=>.tup [.str (O "fn"),.str x,e.d]
 | .rcc f x e=>.tup [.str (O "rec"),.str f,.str x,e.d]
 | .call f a=>.tup [.str (O "call"),f.d,a.d]
 | .iff c t e=>.tup [.str (O "if"),c.d,t.d,e.d]
 | .op w a b=>.tup [.str w.s,a.d,b.d]
noncomputable def T.parts:T->List T
 | .num _|.name _=>[]
 | .fn _ e|.rcc _ _ e=>[e]
 | .call f a=>[f,a]
 | .iff c t e=>[c,t,e]
 | .op _ a b=>[a,b]
noncomputable def T.places:T->List T
 | .num n=>[.num n]
 | .name x=>[.name x]
 | .fn x e=>.fn x e::e.places
 | .rcc f x e=>.rcc f x e::e.places
 | .call f a=>.call f a::(f.places++a.places)
 | .iff c t e=>.iff c t e::(c.places++(t.places++e.places))
 | .op w a b=>.op w a b::(a.places++b.places)
noncomputable def T.size(t:T):Nat:=t.places.length
theorem T.places_parts(t:T):t.places=t::t.parts.flatMap T.places:=by
 cases t<;>simp [T.places,T.parts]
end IV
end
section
namespace IV
open PySem L2
section
variable {U:Tb}{S:Ev}{h h1:Hd}{f:Str}{as:List D}{r:R D}
noncomputable abbrev Tb.say(U:Tb)(r:R D):Tb:=⟨U.G,U.GD,fun _ _ _=>r,U.L⟩
theorem Zj{s:Sx}{y:R (Fl×Ev)}(e:U.C f as h1=r)(q:xs1 U s S h=xs1 (U.say (U.C f as h1)) s S h)(z:xs1 (U.say r) s S h=y):xs1 U s S h=y:=by rw [q,e,z]
theorem Zoc{s:Ex}{y:R D}(e:U.C f as h1=r)(q:ev U s S h=ev (U.say (U.C f as h1)) s S h)(z:ev (U.say r) s S h=y):ev U s S h=y:=by rw [q,e,z]
theorem Zr{c:Tx}{a b:Sxs}(e:tst U c S h=.ok true h1):xs1 U (.iff c a b) S h=xs2 U a S h1:=by rw [Ze7,e];rfl
theorem Zx{c:Tx}{a b:Sxs}(e:tst U c S h=.ok false h1):xs1 U (.iff c a b) S h=xs2 U b S h1:=by rw [Ze7,e];rfl
theorem ZA{e:Ex}{d:D}(q:ev U e S h=.ok d h1):xs1 U (.ret e) S h=.ok (.rt d,S) h1:=by rw [ZgY,q];rfl
theorem Zv{i:Nat}{e:Ex}{d:D}(q:ev U e S h=.ok d h1):xs1 U (.set (.nm i) e) S h=.ok (.nx,S.set i (some d)) h1:=by rw [Ze6,q];rfl
theorem ZdJ{g:Tg}{it:Ix}{b:Sxs}{w:Wk}(q:evi U it S h=.ok w h1):xs1 U (.forr g it b) S h=ZS w.src g (xs2 U b) w.xs S h1:=by rw [Zfh,q];rfl
theorem ZaL{op:Operator}{a b:Ex}{x y:D}{h2:Hd}(p:ev U a S h=.ok x h1)(q:ev U b S h1=.ok y h2):ev U (.bin op a b) S h=opB op x y h2:=by rw [ZnX,p];simp only [Zl,q]
theorem ZJ{op:CmpOp}{a b:Ex}{x y:D}{h2:Hd}(p:ev U a S h=.ok x h1)(q:ev U b S h1=.ok y h2):ev U (.cmp op a b) S h=opC U.GD op x y h2:=by rw [Zj5,p];simp only [Zl,q]
theorem Zez{e:Ex}{b:Bool}(q:ev U e S h=.ok (.bl b) h1):tst U (.ex e) S h=.ok b h1:=by rw [Zg1,q];rfl
theorem Zt{b c:Bool}{y:R Bool}(q:y=.ok b h1)(e:b=c):y=.ok c h1:=e ▸ q
noncomputable def hdS:Sxs->Sx
 | .cons s _=>s
 | .nil=>.pas
noncomputable def tlS:Sxs->Sxs
 | .cons _ r=>r
 | .nil=>.nil
theorem rt1{ss:Sxs}{ρ1:Ev}{d:D}{h2:Hd}(e:xs1 U (hdS ss) S h=.ok (.rt d,ρ1) h2)(hs:ss=.cons (hdS ss) (tlS ss)):Zh (xs2 U ss S h)=.ok d h2:=by rw [hs,Ze e];rfl
theorem nx1{ss:Sxs}{ρ1:Ev}{h2:Hd}(e:xs1 U (hdS ss) S h=.ok (.nx,ρ1) h2)(hs:ss=.cons (hdS ss) (tlS ss)):xs2 U ss S h=xs2 U (tlS ss) ρ1 h2:=by rw [hs,Za e];rfl
theorem Zd{a:Ex}{es:Exs}{x:D}{xs:List D}{h2:Hd}(p:ev U a S h=.ok x h1)(q:evs U es S h1=.ok xs h2):evs U (.cons a es) S h=.ok (x::xs) h2:=by rw [Za9,p,Zl,q];rfl
theorem Zp4{g:Str}{es:Exs}{xs:List D}(p:evs U es S h=.ok xs h1):ev U (.call g es) S h=U.C g xs h1:=by rw [ZhC,p];rfl
theorem Zob{es:Exs}{e:Ex}{xs:List D}{z:Int}{d:D}(a:atI xs z=some d)(p:evs U es S h=.ok xs h)(q:ev U e S (h++[.lst xs])=.ok (.int z) (h++[.lst xs]))(hz:xs.length<=1000):ev U (.ix (.lstl es) e) S h=.ok d (h++[.lst xs]):=by
 rw [ZiN,Zk5,p,Zl,if_pos (OE hz (by decide)),ZpC,Zl,q,Zl,ZI (xs:=xs) (by simp),a];rfl
theorem Zs{g:Str}{es:Exs}{xs:List D}{y:R D}(e:U.C g xs h1=y)(p:evs U es S h=.ok xs h1):ev U (.call g es) S h=y:=(Zp4 p).trans e
theorem Zbi{es:Exs}{xs:List D}(p:evs U es S h=.ok xs h1)(hz:xs.length<=1000):ev U (.tupl es) S h=.ok (.tup xs) h1:=by rw [Zfd,p,Zl,if_pos (OE hz (by decide))]
theorem Zl0{e:Ex}{x:D}(p:ev U e S h=.ok x h1)(n:x≠.non):tst U (.ex (.cmp .Is e (.cst .non))) S h=.ok false h1:=Zez ((ZJ p rfl).trans (by rw [Znf,decide_eq_false n]))
theorem ZjT{e:Ex}(p:ev U e S h=.ok .non h1):tst U (.ex (.cmp .Is e (.cst .non))) S h=.ok true h1:=Zez ((ZJ p rfl).trans (by rw [Znf,decide_eq_true rfl]))
theorem Zgq{a b:Ex}{x y:Str}{h2:Hd}(p:ev U a S h=.ok (.str x) h1)(q:ev U b S h1=.ok (.str y) h2):tst U (.ex (.cmp .Eq a b)) S h=.ok (decide (x=y)) h2:=Zez ((ZJ p q).trans (by rw [Zng,Zij];rfl))
theorem Zf5{a b:Ex}{x y:Int}{h2:Hd}(p:ev U a S h=.ok (.int x) h1)(q:ev U b S h1=.ok (.int y) h2):tst U (.ex (.cmp .Eq a b)) S h=.ok (decide (x=y)) h2:=Zez ((ZJ p q).trans (by rw [Zng,Znc];rfl))
theorem ZaV{a b:Ex}{x y:D}{h2:Hd}(p:ev U a S h=.ok x h1)(q:ev U b S h1=.ok y h2):ev U (.ix a b) S h=ZaS U.GD x y h2:=by rw [ZiN,p,Zl,q,Zl]
theorem ZqX{a b:Tx}{c:Bool}{h2:Hd}(p:tst U a S h=.ok true h1)(q:tst U b S h1=.ok c h2):tst U (.ands (.cons a (.one b))) S h=.ok c h2:=by rw [ZhZ,ZeE,p];exact q
theorem ZuF{a b:Tx}(p:tst U a S h=.ok false h1):tst U (.ands (.cons a (.one b))) S h=.ok false h1:=by rw [ZhZ,ZeE,p];rfl
theorem ZtP{a b:Tx}(p:tst U a S h=.ok true h1):tst U (.ors (.cons a (.one b))) S h=.ok true h1:=by rw [Zku,Zfm,p];rfl
theorem Zna{a b:Tx}{c:Bool}{h2:Hd}(p:tst U a S h=.ok false h1)(q:tst U b S h1=.ok c h2):tst U (.ors (.cons a (.one b))) S h=.ok c h2:=by rw [Zku,Zfm,p];exact q
theorem Zgc{β:Type}(A:Tb->β){y:β}(e:U.C f as h1=r)(q:A U=A (U.say (U.C f as h1)))(z:A (U.say r)=y):A U=y:=by rw [q,e,z]
theorem ZuA{β:Type}(A:Tb->β){x:Str}{d:D}{y:β}(eg:U.G x=some d)(q:A U=A ⟨fun _=>U.G x,U.GD,U.C,U.L⟩)(z:A ⟨fun _=>some d,U.GD,U.C,U.L⟩=y):A U=y:=by rw [q,eg,z]
end
end IV
end
section
set_option tactic.hygienic false
namespace Gn
open PySem L2 IV
noncomputable def ZbI:Sxs:=(.cons (.iff (.ex (.cmp .NotIn (.ix (.var 0) (.cst (.int 0))) (.glo (O "FORMS")))) (.cons (.ret (.tupl .nil)) .nil) .nil) (.cons (.ret (.sl (.var 0) (some (.bin .Add (.cst (.int 1)) (.ix (.ix (.glo (O "FORMS")) (.ix (.var 0) (.cst (.int 0)))) (.cst (.int 0))))) none)) .nil))
noncomputable def ZbB:Fd:=⟨[(O "E")],[(O "E")],ZbI⟩
noncomputable def Zb7:Sxs:=(.cons (.iff (.ex (.cmp .Lt (.var 1) (.blt .len (.cons (.var 0) .nil)))) (.cons (.ret (.ix (.var 0) (.var 1))) .nil) .nil) (.cons (.ret (.cst (.int 0))) .nil))
noncomputable def ZN:Fd:=⟨[(O "_law_script"),(O "_law_k")],[(O "_law_script"),(O "_law_k")],Zb7⟩
noncomputable def ZeY:Sxs:=(.cons (.set (.nm 2) (.bin .Add (.bin .Pow (.cst (.int 10)) (.cst (.int 30))) (.cst (.int 57)))) (.cons (.set (.nm 3) (.bin .Mult (.bin .Mod (.var 0) (.var 2)) (.cst (.int 271828182845904523536028747135)))) (.cons (.set (.nm 3) (.bin .Add (.var 3) (.bin .Mult (.bin .Mult (.var 1) (.var 1)) (.cst (.int 314159265358979323846264338327))))) (.cons (.ret (.bin .Mod (.bin .Add (.var 3) (.cst (.int 577215664901532860606512090082))) (.var 2))) .nil))))
noncomputable def Zax:Fd:=⟨[(O "_law_cell"),(O "_law_k")],[(O "_law_cell"),(O "_law_k"),(O "_law_big"),(O "_law_number_here")],ZeY⟩
noncomputable def ZdM:Sxs:=(.cons (.set (.nm 1) (.ix (.var 0) (.cst (.int 1)))) (.cons (.put (.var 0) (.cst (.int 1)) (.bin .Add (.var 1) (.cst (.int 1)))) (.cons (.iff (.ex (.cmp .Lt (.var 1) (.blt .len (.cons (.ix (.var 0) (.cst (.int 0))) .nil)))) (.cons (.ret (.ix (.ix (.var 0) (.cst (.int 0))) (.var 1))) .nil) .nil) (.cons (.ret (.call (O "_law_mixed") (.cons (.var 1) (.cons (.cst (.int 7)) .nil)))) .nil))))
noncomputable def Zap:Fd:=⟨[(O "_law_state")],[(O "_law_state"),(O "_law_at")],ZdM⟩
noncomputable def ZeX:Sxs:=(.cons (.set (.nm 1) (.cst (.str (O "abcdefghijklmnopqrstuvwxyz")))) (.cons (.set (.nm 2) (.bin .Add (.cst (.int 1)) (.bin .Mod (.var 0) (.cst (.int 8))))) (.cons (.set (.nm 3) (.bin .Mod (.bin .FloorDiv (.var 0) (.cst (.int 8))) (.var 2))) (.cons (.set (.nm 4) (.bin .FloorDiv (.var 0) (.cst (.int 64)))) (.cons (.set (.nm 5) (.cst (.str (O "")))) (.cons (.forr (.nm 6) (.rng (.cst (.int 8))) (.cons (.set (.nm 5) (.bin .Add (.var 5) (.ix (.var 1) (.bin .Mod (.var 4) (.cst (.int 26)))))) (.cons (.set (.nm 4) (.bin .FloorDiv (.var 4) (.cst (.int 26)))) .nil))) (.cons (.set (.nm 7) (.lstl .nil)) (.cons (.forr (.nm 6) (.rng (.cst (.int 5))) (.cons (.set (.nm 8) (.ix (.var 1) (.bin .Mod (.bin .Add (.var 4) (.bin .Mult (.cst (.int 5)) (.var 6))) (.cst (.int 26))))) (.cons (.set (.nm 9) (.bin .Add (.bin .Add (.sl (.var 5) none (some (.var 3))) (.var 8)) (.sl (.var 5) (some (.bin .Add (.var 3) (.cst (.int 1)))) (some (.var 2))))) (.cons (.iff (.ex (.cmp .Eq (.bin .Mod (.bin .FloorDiv (.var 4) (.cst (.int 26))) (.cst (.int 4))) (.cst (.int 1)))) (.cons (.set (.nm 9) (.sl (.var 5) none (some (.bin .Sub (.cst (.int 8)) (.var 6))))) .nil) .nil) (.cons (.iff (.ex (.cmp .In (.var 9) (.tupl (.cons (.cst (.str (O "fn"))) (.cons (.cst (.str (O "rec"))) (.cons (.cst (.str (O "call"))) (.cons (.cst (.str (O "if"))) .nil))))))) (.cons (.set (.nm 9) (.bin .Mult (.cst (.str (O "q"))) (.blt .len (.cons (.var 9) .nil)))) .nil) .nil) (.cons (.drp (.meth .app (.var 7) (.cons (.var 9) .nil))) .nil)))))) (.cons (.ret (.var 7)) .nil)))))))))
noncomputable def Zaw:Fd:=⟨[(O "_law_number_here")],[(O "_law_number_here"),(O "_law_letters"),(O "_law_long"),(O "_law_place"),(O "_law_rest"),(O "_law_base"),(O "_law_k"),(O "_law_found"),(O "_law_sign"),(O "_law_word")],ZeX⟩
noncomputable def ZeW:Sxs:=(.cons (.set (.nm 2) (.dictl .nil)) (.cons (.forr (.two 3 4) (.pl (.var 0)) (.cons (.put (.var 2) (.var 3) (.var 4)) .nil)) (.cons (.ret (.comp [(O "_law_name"),(O "_law_wish"),(O "_law_known")] [none,some 1,some 2] (.pl (.blt .srt (.cons (.var 2) .nil))) (.nm 0) (some (.ex (.cmp .Eq (.ix (.var 2) (.var 0)) (.var 1)))) (.var 0))) .nil)))
noncomputable def Zav:Fd:=⟨[(O "_law_scope"),(O "_law_wish")],[(O "_law_scope"),(O "_law_wish"),(O "_law_known"),(O "_law_name"),(O "_law_held")],ZeW⟩
noncomputable def ZbV:Sxs:=(.cons (.iff (.ex (.cmp .Eq (.var 0) (.cst (.str (O "n"))))) (.cons (.ret (.tupl (.cons (.cst (.str (O "num"))) (.cons (.ix (.lstl (.cons (.cst (.int 0)) (.cons (.cst (.int 1)) (.cons (.cst (.int 2)) (.cons (.bin .Mod (.bin .FloorDiv (.var 1) (.cst (.int 7))) (.cst (.int 1000000))) .nil))))) (.bin .Mod (.var 1) (.cst (.int 4)))) .nil)))) .nil) .nil) (.cons (.iff (.ex (.cmp .Eq (.var 0) (.cst (.str (O "f"))))) (.cons (.ret (.tupl (.cons (.cst (.str (O "fn"))) (.cons (.cst (.str (O "w"))) (.cons (.tupl (.cons (.cst (.str (O "-"))) (.cons (.tupl (.cons (.cst (.str (O "name"))) (.cons (.cst (.str (O "w"))) .nil))) (.cons (.tupl (.cons (.cst (.str (O "num"))) (.cons (.bin .Mod (.var 1) (.cst (.int 3))) .nil))) .nil)))) .nil))))) .nil) .nil) (.cons (.ret (.tupl (.cons (.cst (.str (O "fn"))) (.cons (.cst (.str (O "w"))) (.cons (.tupl (.cons (.cst (.str (O "call"))) (.cons (.tupl (.cons (.cst (.str (O "name"))) (.cons (.cst (.str (O "w"))) .nil))) (.cons (.tupl (.cons (.cst (.str (O "num"))) (.cons (.bin .Mod (.var 1) (.cst (.int 5))) .nil))) .nil)))) .nil))))) .nil)))
noncomputable def ZT:Fd:=⟨[(O "_law_wish"),(O "_law_number_here")],[(O "_law_wish"),(O "_law_number_here")],ZbV⟩
noncomputable def ZaZ:Sx:=(.set (.nm 6) (.ix (.var 4) (.bin .Mod (.var 1) (.cst (.int 5)))))
noncomputable def Zab:Sx:=(.iff (.ex (.cmp .Eq (.var 0) (.cst (.str (O "g"))))) (.cons (.ret (.tupl (.cons (.cst (.str (O "fn"))) (.cons (.var 6) (.cons (.call (O "_law_any") (.cons (.cst (.str (O "n"))) (.cons (.bin .Add (.var 2) (.lstl (.cons (.tupl (.cons (.var 6) (.cons (.cst (.str (O "f"))) .nil))) .nil))) (.cons (.var 3) (.cons (.var 4) (.cons (.var 5) .nil)))))) .nil))))) .nil) .nil)
noncomputable def Zaa:Sx:=(.iff (.ex (.cmp .Eq (.bin .Mod (.bin .FloorDiv (.var 1) (.cst (.int 5))) (.cst (.int 3))) (.cst (.int 0)))) (.cons (.ret (.tupl (.cons (.cst (.str (O "fn"))) (.cons (.var 6) (.cons (.call (O "_law_any") (.cons (.cst (.str (O "n"))) (.cons (.bin .Add (.var 2) (.lstl (.cons (.tupl (.cons (.var 6) (.cons (.cst (.str (O "n"))) .nil))) .nil))) (.cons (.var 3) (.cons (.var 4) (.cons (.var 5) .nil)))))) .nil))))) .nil) .nil)
noncomputable def ZaY:Sx:=(.set (.nm 7) (.ix (.var 4) (.bin .Mod (.bin .Add (.bin .Add (.bin .Mod (.var 1) (.cst (.int 5))) (.cst (.int 1))) (.bin .Mod (.bin .FloorDiv (.var 1) (.cst (.int 15))) (.cst (.int 4)))) (.cst (.int 5)))))
noncomputable def ZaX:Sx:=(.set (.nm 8) (.bin .Add (.var 2) (.lstl (.cons (.tupl (.cons (.var 7) (.cons (.cst (.str (O "f"))) .nil))) (.cons (.tupl (.cons (.var 6) (.cons (.cst (.str (O "n"))) .nil))) .nil)))))
noncomputable def ZaW:Sx:=(.set (.nm 9) (.tupl (.cons (.cst (.str (O "call"))) (.cons (.tupl (.cons (.cst (.str (O "name"))) (.cons (.var 7) .nil))) (.cons (.tupl (.cons (.cst (.str (O "-"))) (.cons (.tupl (.cons (.cst (.str (O "name"))) (.cons (.var 6) .nil))) (.cons (.tupl (.cons (.cst (.str (O "num"))) (.cons (.cst (.int 1)) .nil))) .nil)))) .nil)))))
noncomputable def Z9:Sx:=(.iff (.ex (.cmp .Eq (.bin .Mod (.bin .FloorDiv (.var 1) (.cst (.int 60))) (.cst (.int 3))) (.cst (.int 0)))) (.cons (.set (.nm 9) (.call (O "_law_any") (.cons (.cst (.str (O "n"))) (.cons (.var 8) (.cons (.var 3) (.cons (.var 4) (.cons (.var 5) .nil))))))) .nil) (.cons (.iff (.ex (.cmp .Eq (.bin .Mod (.bin .FloorDiv (.var 1) (.cst (.int 60))) (.cst (.int 3))) (.cst (.int 1)))) (.cons (.set (.nm 9) (.tupl (.cons (.ix (.lstl (.cons (.cst (.str (O "+"))) (.cons (.cst (.str (O "*"))) .nil))) (.bin .Mod (.bin .FloorDiv (.var 1) (.cst (.int 180))) (.cst (.int 2)))) (.cons (.call (O "_law_any") (.cons (.cst (.str (O "n"))) (.cons (.var 8) (.cons (.var 3) (.cons (.var 4) (.cons (.bin .Sub (.var 5) (.cst (.int 1))) .nil)))))) (.cons (.var 9) .nil))))) .nil) .nil) .nil))
noncomputable def Z8:Sx:=(.ret (.tupl (.cons (.cst (.str (O "rec"))) (.cons (.var 7) (.cons (.var 6) (.cons (.tupl (.cons (.cst (.str (O "if"))) (.cons (.tupl (.cons (.cst (.str (O "name"))) (.cons (.var 6) .nil))) (.cons (.var 9) (.cons (.call (O "_law_any") (.cons (.cst (.str (O "n"))) (.cons (.var 8) (.cons (.var 3) (.cons (.var 4) (.cons (.bin .Sub (.var 5) (.cst (.int 1))) .nil)))))) .nil))))) .nil))))))
noncomputable def Zgh:Sxs:=(.cons ZaZ (.cons Zab (.cons Zaa (.cons ZaY (.cons ZaX (.cons ZaW (.cons Z9 (.cons Z8 .nil))))))))
noncomputable def Z4:Fd:=⟨[(O "_law_wish"),(O "_law_rest"),(O "_law_scope"),(O "_law_state"),(O "_law_names_here"),(O "_law_room")],[(O "_law_wish"),(O "_law_rest"),(O "_law_scope"),(O "_law_state"),(O "_law_names_here"),(O "_law_room"),(O "_law_x"),(O "_law_f"),(O "_law_inner"),(O "_law_again")],Zgh⟩
noncomputable def Zc9:Sx:=(.set (.nm 5) (.bin .Mod (.var 0) (.cst (.int 6))))
noncomputable def ZbK:Sx:=(.iff (.ex (.cmp .Eq (.var 5) (.cst (.int 0)))) (.cons (.ret (.call (O "_law_plain") (.cons (.cst (.str (O "n"))) (.cons (.bin .FloorDiv (.var 0) (.cst (.int 6))) .nil)))) .nil) .nil)
noncomputable def ZbJ:Sx:=(.iff (.ex (.cmp .Lt (.var 5) (.cst (.int 3)))) (.cons (.set (.nm 6) (.call (O "_law_any") (.cons (.cst (.str (O "n"))) (.cons (.var 1) (.cons (.var 2) (.cons (.var 3) (.cons (.var 4) .nil))))))) (.cons (.ret (.tupl (.cons (.ix (.lstl (.cons (.cst (.str (O "+"))) (.cons (.cst (.str (O "-"))) (.cons (.cst (.str (O "*"))) (.cons (.cst (.str (O "<"))) .nil))))) (.bin .Mod (.bin .FloorDiv (.var 0) (.cst (.int 6))) (.cst (.int 4)))) (.cons (.var 6) (.cons (.call (O "_law_any") (.cons (.cst (.str (O "n"))) (.cons (.var 1) (.cons (.var 2) (.cons (.var 3) (.cons (.var 4) .nil)))))) .nil))))) .nil)) .nil)
noncomputable def Zc8:Sx:=(.set (.nm 7) (.ix (.lstl (.cons (.cst (.str (O "f"))) (.cons (.cst (.str (O "f"))) (.cons (.cst (.str (O "g"))) .nil)))) (.bin .Sub (.var 5) (.cst (.int 3)))))
noncomputable def Zc7:Sx:=(.set (.nm 8) (.call (O "_law_any") (.cons (.var 7) (.cons (.var 1) (.cons (.var 2) (.cons (.var 3) (.cons (.var 4) .nil)))))))
noncomputable def Zc6:Sx:=(.ret (.tupl (.cons (.cst (.str (O "call"))) (.cons (.var 8) (.cons (.call (O "_law_any") (.cons (.ix (.dictl (.cons (.cst (.str (O "f"))) (.cons (.cst (.str (O "n"))) (.cons (.cst (.str (O "g"))) (.cons (.cst (.str (O "f"))) .nil))))) (.var 7)) (.cons (.var 1) (.cons (.var 2) (.cons (.var 3) (.cons (.var 4) .nil)))))) .nil)))))
noncomputable def Zcz:Sxs:=(.cons Zc9 (.cons ZbK (.cons ZbJ (.cons Zc8 (.cons Zc7 (.cons Zc6 .nil))))))
noncomputable def ZaG:Fd:=⟨[(O "_law_rest"),(O "_law_scope"),(O "_law_state"),(O "_law_names_here"),(O "_law_room")],[(O "_law_rest"),(O "_law_scope"),(O "_law_state"),(O "_law_names_here"),(O "_law_room"),(O "_law_way"),(O "_law_one"),(O "_law_wish"),(O "_law_fun")],Zcz⟩
noncomputable def Zbh:Sx:=(.put (.var 2) (.cst (.int 2)) (.bin .Sub (.ix (.var 2) (.cst (.int 2))) (.cst (.int 1))))
noncomputable def Zbg:Sx:=(.set (.nm 5) (.call (O "_law_next") (.cons (.var 2) .nil)))
noncomputable def ZU:Sx:=(.iff (.ex (.cmp .Eq (.bin .Mod (.var 5) (.cst (.int 29))) (.cst (.int 0)))) (.cons (.set (.nm 0) (.ix (.lstl (.cons (.cst (.str (O "n"))) (.cons (.cst (.str (O "f"))) (.cons (.cst (.str (O "g"))) .nil)))) (.bin .Mod (.bin .FloorDiv (.var 5) (.cst (.int 29))) (.cst (.int 3))))) .nil) .nil)
noncomputable def Zbf:Sx:=(.set (.nm 6) (.bin .FloorDiv (.var 5) (.cst (.int 87))))
noncomputable def Zbe:Sx:=(.set (.nm 7) (.call (O "_law_there") (.cons (.var 1) (.cons (.var 0) .nil))))
noncomputable def Zbd:Sx:=(.iff (.ands (.cons (.ex (.cmp .NotEq (.var 7) (.lstl .nil))) (.one (.ex (.cmp .Eq (.bin .Mod (.var 6) (.cst (.int 3))) (.cst (.int 0))))))) (.cons (.ret (.tupl (.cons (.cst (.str (O "name"))) (.cons (.ix (.var 7) (.bin .Mod (.bin .FloorDiv (.var 6) (.cst (.int 3))) (.blt .len (.cons (.var 7) .nil)))) .nil)))) .nil) .nil)
noncomputable def Zay:Sx:=(.iff (.ors (.cons (.ex (.cmp .Lt (.var 4) (.cst (.int 1)))) (.one (.ex (.cmp .Lt (.ix (.var 2) (.cst (.int 2))) (.cst (.int 0))))))) (.cons (.ret (.call (O "_law_plain") (.cons (.var 0) (.cons (.bin .FloorDiv (.var 6) (.cst (.int 3))) .nil)))) .nil) .nil)
noncomputable def ZbW:Sx:=(.set (.nm 6) (.bin .FloorDiv (.var 6) (.cst (.int 30))))
noncomputable def Zbc:Sx:=(.iff (.ex (.cmp .Eq (.bin .Mod (.var 6) (.cst (.int 8))) (.cst (.int 0)))) (.cons (.set (.nm 8) (.call (O "_law_any") (.cons (.cst (.str (O "n"))) (.cons (.var 1) (.cons (.var 2) (.cons (.var 3) (.cons (.bin .Sub (.var 4) (.cst (.int 1))) .nil))))))) (.cons (.set (.nm 9) (.call (O "_law_any") (.cons (.var 0) (.cons (.var 1) (.cons (.var 2) (.cons (.var 3) (.cons (.bin .Sub (.var 4) (.cst (.int 1))) .nil))))))) (.cons (.ret (.tupl (.cons (.cst (.str (O "if"))) (.cons (.var 8) (.cons (.var 9) (.cons (.call (O "_law_any") (.cons (.var 0) (.cons (.var 1) (.cons (.var 2) (.cons (.var 3) (.cons (.bin .Sub (.var 4) (.cst (.int 1))) .nil)))))) .nil)))))) .nil))) .nil)
noncomputable def ZaO:Sx:=(.iff (.ex (.cmp .Eq (.var 0) (.cst (.str (O "n"))))) (.cons (.ret (.call (O "_law_number") (.cons (.bin .FloorDiv (.var 6) (.cst (.int 8))) (.cons (.var 1) (.cons (.var 2) (.cons (.var 3) (.cons (.bin .Sub (.var 4) (.cst (.int 1))) .nil))))))) .nil) .nil)
noncomputable def Zbr:Sx:=(.ret (.call (O "_law_function") (.cons (.var 0) (.cons (.bin .FloorDiv (.var 6) (.cst (.int 8))) (.cons (.var 1) (.cons (.var 2) (.cons (.var 3) (.cons (.bin .Sub (.var 4) (.cst (.int 1))) .nil))))))))
noncomputable def Zmd:Sxs:=(.cons Zbh (.cons Zbg (.cons ZU (.cons Zbf (.cons Zbe (.cons Zbd (.cons Zay (.cons ZbW (.cons Zbc (.cons ZaO (.cons Zbr .nil)))))))))))
noncomputable def ZaU:Fd:=⟨[(O "_law_wish"),(O "_law_scope"),(O "_law_state"),(O "_law_names_here"),(O "_law_room")],[(O "_law_wish"),(O "_law_scope"),(O "_law_state"),(O "_law_names_here"),(O "_law_room"),(O "_law_number_here"),(O "_law_rest"),(O "_law_there_here"),(O "_law_asked_of"),(O "_law_first")],Zmd⟩
noncomputable def Zc5:Sxs:=(.cons (.ret (.bin .Add (.cst (.int 1)) (.blt .sum (.cons (.comp [(O "_law_part")] [none] (.pl (.var 0)) (.nm 0) (some (.ex (.blt .isi (.cons (.var 0) (.cons (.cst (.ty "tuple")) .nil))))) (.call (O "_law_width") (.cons (.var 0) .nil))) .nil)))) .nil)
noncomputable def Z3:Fd:=⟨[(O "_law_told")],[(O "_law_told")],Zc5⟩
noncomputable def ZdN:Sxs:=(.cons (.ret (.maxd (.comp [(O "_law_part")] [none] (.pl (.var 0)) (.nm 0) (some (.ex (.blt .isi (.cons (.var 0) (.cons (.cst (.ty "tuple")) .nil))))) (.bin .Add (.cst (.int 1)) (.call (O "_law_deep") (.cons (.var 0) .nil)))) (.cst (.int 0)))) .nil)
noncomputable def Zaq:Fd:=⟨[(O "_law_told")],[(O "_law_told")],ZdN⟩
noncomputable def Zam:Sx:=(.set (.nm 2) (.comp [(O "_law_k"),(O "_law_cell")] [none,none] (.enu (.sl (.var 0) (some (.var 1)) none)) (.two 0 1) none (.call (O "_law_mixed") (.cons (.var 1) (.cons (.bin .Add (.var 0) (.cst (.int 2))) .nil)))))
noncomputable def ZcH:Sx:=(.set (.nm 3) (.lstl (.cons (.var 2) (.cons (.cst (.int 0)) (.cons (.cst (.int 26)) .nil)))))
noncomputable def ZcG:Sx:=(.set (.nm 4) (.call (O "_law_names") (.cons (.call (O "_law_next") (.cons (.var 3) .nil)) .nil)))
noncomputable def ZcF:Sx:=(.set (.nm 5) (.call (O "_law_any") (.cons (.cst (.str (O "n"))) (.cons (.lstl .nil) (.cons (.var 3) (.cons (.var 4) (.cons (.cst (.int 7)) .nil)))))))
noncomputable def Zbl:Sx:=(.forr (.nm 6) (.rng (.cst (.int 2))) (.cons (.iff (.ex (.cmp .Lt (.call (O "_law_width") (.cons (.var 5) .nil)) (.cst (.int 50)))) (.cons (.put (.var 3) (.cst (.int 2)) (.cst (.int 12))) (.cons (.set (.nm 5) (.tupl (.cons (.cst (.str (O "+"))) (.cons (.var 5) (.cons (.call (O "_law_any") (.cons (.cst (.str (O "n"))) (.cons (.lstl .nil) (.cons (.var 3) (.cons (.var 4) (.cons (.cst (.int 6)) .nil)))))) .nil))))) .nil)) .nil) .nil))
noncomputable def Zbk:Sx:=(.iff (.ors (.cons (.ex (.cmp .Gt (.call (O "_law_width") (.cons (.var 5) .nil)) (.cst (.int 100)))) (.one (.ex (.cmp .Gt (.call (O "_law_deep") (.cons (.var 5) .nil)) (.cst (.int 20))))))) (.cons (.set (.nm 5) (.call (O "_law_plain") (.cons (.cst (.str (O "n"))) (.cons (.call (O "_law_next") (.cons (.var 3) .nil)) .nil)))) .nil) .nil)
noncomputable def ZcE:Sx:=(.ret (.var 5))
noncomputable def Zgs:Sxs:=(.cons Zam (.cons ZcH (.cons ZcG (.cons ZcF (.cons Zbl (.cons Zbk (.cons ZcE .nil)))))))
noncomputable def Zae:Fd:=⟨[(O "_law_script"),(O "_law_start")],[(O "_law_script"),(O "_law_start"),(O "_law_cells"),(O "_law_state"),(O "_law_names_here"),(O "_law_told"),(O "_law_k")],Zgs⟩
noncomputable def Zcf:List (Key×D):=[(.inr (O "fn"),.tup [.int 1,.int 1]),(.inr (O "rec"),.tup [.int 2,.int 1]),(.inr (O "call"),.tup [.int 0,.int 2]),(.inr (O "if"),.tup [.int 0,.int 3]),(.inr (O "+"),.tup [.int 0,.int 2]),(.inr (O "-"),.tup [.int 0,.int 2]),(.inr (O "*"),.tup [.int 0,.int 2]),(.inr (O "<"),.tup [.int 0,.int 2])]
structure Tre(P:Pg):Prop where
 parts:P.tb.lookup (O "parts_of")=some ZbB
 g:P.G (O "FORMS")=some (.kd (O "FORMS"))
 gd:P.GD (O "FORMS")=some Zcf
 big:1000000<=P.L
theorem ZbR {P:Pg} (H:Tre P) {U:Tb} (hU:U.G=P.G/\U.GD=P.GD) {S:Ev}{e:Ex}{w:Str}{h:Hd}{x:Option D} (q:ev U e S h=.ok (.str w) h) (f:Zac Zcf (.inr w)=x):tst U (.ex (.cmp .NotIn e (.glo (O "FORMS")))) S h=.ok (!x.isSome) h:=by
 have g:ev U (.glo (O "FORMS")) S h=.ok (.kd (O "FORMS")) h:=by
   rw [ZnW,hU.1,H.g];rfl
 refine Zez ((ZJ q g).trans ?_);rw [Zhi,hU.2,H.gd];simp only [f]
theorem Zk3 {P:Pg} (H:Tre P) {U:Tb} (hU:U.G=P.G/\U.GD=P.GD) {S:Ev}{e:Ex}{w:Str}{h:Hd}{x:D} (q:ev U e S h=.ok (.str w) h) (f:Zac Zcf (.inr w)=some x):ev U (.ix (.glo (O "FORMS")) e) S h=.ok x h:=by
 have g:ev U (.glo (O "FORMS")) S h=.ok (.kd (O "FORMS")) h:=by
   rw [ZnW,hU.1,H.g];rfl
 rw [ZiN,g,Zl,q,Zl,Zps,hU.2,H.gd];simp only [f];rfl
theorem ZcV{U:Tb}{S:Ev}{w:Str}{ds:List D}{h:Hd}:ev U (.ix (.var 0) (.cst (.int 0))) (some (.tup (.str w::ds))::S) h=.ok (.str w) h:=by
 show R.ofO (atI (D.str w::ds) 0) h=_;rw [ZqV];rfl
theorem ZjY {P:Pg} (H:Tre P) {U:Tb} (hU:U.G=P.G/\U.GD=P.GD) {w:Str}{ds:List D}{h:Hd}{a b:Int} (e:Zac Zcf (.inr w)=some (.tup [.int a,.int b])):ev U (.bin .Add (.cst (.int 1)) (.ix (.ix (.glo (O "FORMS")) (.ix (.var 0) (.cst (.int 0)))) (.cst (.int 0)))) [some (.tup (.str w::ds))] h=.ok (.int (1+a)) h:=by
 refine (ZaL (x:=.int 1) (y:=.int a) rfl ?_).trans rfl;rw [ZiN,Zk3 H hU ZcV e];rfl
theorem ZhB{U:Tb}{S:Ev}{e:Ex}{l:Int}{h:Hd}(q:ev U e S h=.ok (.int l) h):evo U (some e) S h=.ok (some l) h:=by
 rw [ZnU,q];rfl
theorem ZkA{U:Tb}{S:Ev}{a:Ex}{lo hi:Option Ex}{x:D}{l u:Option Int}{h:Hd}(p:ev U a S h=.ok x h)(q:evo U lo S h=.ok l h)(r:evo U hi S h=.ok u h):ev U (.sl a lo hi) S h=Zgj x l u h:=by
 simp only [Zup,p,Zl,q,r]
theorem Zih {P:Pg} (H:Tre P) (n:Nat) (h:Hd) (w:Str) (ds:List D) (e:Zac Zcf (.inr w)=none):run P (n+1) (O "parts_of") [.tup (.str w::ds)] h=.ok (.tup []) h:=by
 rw [Zc H.parts rfl];show Zh (xs2 (P.tbl n) ZbI [some (.tup (.str w::ds))] h)=_;rw [ZbI,Ze ((Zr (ZbR H ⟨rfl,rfl⟩ ZcV e)).trans (Ze (ZA (d:=.tup []) rfl)))];rfl
theorem Zcd {P:Pg} (H:Tre P) (n:Nat) (h:Hd) (w:Str) (ds:List D) (a b:Int) (e:Zac Zcf (.inr w)=some (.tup [.int a,.int b])):run P (n+1) (O "parts_of") [.tup (.str w::ds)] h=.ok (.tup (cutD (.str w::ds) (some (1+a)) none)) h:=by
 rw [Zc H.parts rfl];show Zh (xs2 (P.tbl n) ZbI [some (.tup (.str w::ds))] h)=_;have q:=ZjY H (U:=P.tbl n) ⟨rfl,rfl⟩ (ds:=ds) (h:=h) e;have r:ev (P.tbl n) (.sl (.var 0) (some (.bin .Add (.cst (.int 1)) (.ix (.ix (.glo (O "FORMS")) (.ix (.var 0) (.cst (.int 0)))) (.cst (.int 0))))) none) [some (.tup (.str w::ds))] h=.ok (.tup (cutD (.str w::ds) (some (1+a)) none)) h:=by
   exact (ZkA (a:=.var 0) (x:=.tup (.str w::ds)) rfl (ZhB q) rfl).trans rfl
 rw [ZbI,Za ((Zx (ZbR H ⟨rfl,rfl⟩ ZcV e)).trans rfl),Ze (ZA r)];rfl
theorem Zha {P:Pg} (H:Tre P) (n:Nat) (t:T) (h:Hd):run P (n+1) (O "parts_of") [t.d] h=.ok (.tup (t.parts.map T.d)) h:=by
 cases t with
 | num z=>exact Zih H n h (O "num") _ rfl
 | name x=>exact Zih H n h (O "name") _ rfl
 | fn x e=>exact Zcd H n h (O "fn") _ 1 1 rfl
 | rcc f x e=>exact Zcd H n h (O "rec") _ 2 1 rfl
 | call f a=>exact Zcd H n h (O "call") _ 0 2 rfl
 | iff c a b=>exact Zcd H n h (O "if") _ 0 3 rfl
 | op w a b=>exact Zcd H n h w.s _ 0 2 (by cases w<;>rfl)
end Gn
end
section
set_option tactic.hygienic false
set_option exponentiation.threshold 3000
namespace Gn
open PySem L2 IV
noncomputable def Up(i:Nat)(h h':Hd):Prop:=h.length<=h'.length/\∀ m,m<h.length->m≠i->h'[m]? = h[m]?
theorem Up.refl{i:Nat}{h:Hd}:Up i h h:=⟨Oq _,fun _ _ _=>rfl⟩
theorem Up.trans{i:Nat}{a b c:Hd}(x:Up i a b)(y:Up i b c):Up i a c :=
 ⟨OE x.1 y.1,fun m h1 h2=>(y.2 m (O3 h1 x.1) h2).trans (x.2 m h1 h2)⟩
theorem Up.set{i:Nat}{h:Hd}{o:DO}:Up i h (h.set i o):=⟨by simp,fun m _ h2=>by rw [Oc (Ne.symm h2)]⟩
theorem Up.app{i:Nat}{h g:Hd}:Up i h (h++g):=⟨by simp,fun m h1 _=>Oe h1⟩
theorem ZK{h:Hd}{i:Nat}{o:DO}(e:h[i]? = some o):i<h.length:=(Ob.mp e).1
theorem Up.at{i m:Nat}{h h':Hd}{o:DO}(u:Up i h h')(e:h[m]? = some o)(ne:m≠i):h'[m]? = some o:=(u.2 m (ZK e) ne).trans e
noncomputable def Alk(P:Pg)(f:Str)(fd:Fd):Prop:=∃ ps N,ps.length=fd.ps.length/\N.length=fd.N.length/\P.tb.lookup f=some ⟨ps,N,fd.body⟩
theorem Alk.same{P:Pg}{f:Str}{fd:Fd}(e:P.tb.lookup f=some fd):Alk P f fd:=⟨fd.ps,fd.N,rfl,rfl,e⟩
theorem Ze8{P:Pg}{n:Nat}{f:Str}{fd:Fd}{ds:List D}{h:Hd}(e:Alk P f fd)(hl:ds.length=fd.ps.length):run P (n+1) f ds h=Zh (xs2 ⟨P.G,P.GD,run P n,P.L⟩ fd.body (Zn fd.N ds) h):=by
 obtain ⟨ps,N,h1,h2,e⟩:=e;rw [Zc e (hl.trans h1.symm)];unfold Zn;rw [h2]
structure Mkr(P:Pg):Prop where
 mixed:P.tb.lookup (O "_law_mixed")=some Zax
 next:P.tb.lookup (O "_law_next")=some Zap
 names:P.tb.lookup (O "_law_names")=some Zaw
 there:P.tb.lookup (O "_law_there")=some Zav
 plain:P.tb.lookup (O "_law_plain")=some ZT
 function:Alk P (O "_law_function") Z4
 number:Alk P (O "_law_number") ZaG
 any:Alk P (O "_law_any") ZaU
 width:P.tb.lookup (O "_law_width")=some Z3
 deep:P.tb.lookup (O "_law_deep")=some Zaq
 program:Alk P (O "_law_program") Zae
structure Gen(P:Pg):Prop extends Tre P,Mkr P
noncomputable def big:Int:=1000000000000000000000000000057
noncomputable def mixed(c k:Int):Int:=(c % big * 271828182845904523536028747135+k * k * 314159265358979323846264338327+577215664901532860606512090082) % big
theorem Z0{i:Int}(h:-(2 ^ 128)<i)(h2:i<2 ^ 128):i.natAbs<2 ^ 2000:=by
 have:i.natAbs<2 ^ 128:=by omega
 exact O3 this (Nat.pow_le_pow_right (by decide) (by decide))
theorem Zln{k:Int}(hk:-(2 ^ 60)<k/\k<2 ^ 60):0<=k * k/\k * k<2 ^ 120:=by
 have a:k.natAbs<2 ^ 60:=by omega
 have b:k.natAbs * k.natAbs<2 ^ 60 * 2 ^ 60:=Nat.mul_lt_mul'' a a;have c2:((k.natAbs * k.natAbs:Nat):Int)=k * k:=Int.natAbs_mul_self;rw [<- c2];constructor
 . omega
 . have:((k.natAbs * k.natAbs:Nat):Int)<((2 ^ 60 * 2 ^ 60:Nat):Int):=Int.ofNat_lt.mpr b;exact this
theorem Zhb {P:Pg} (H:Mkr P) (n:Nat) (c k:Int) (h:Hd) (hk:-(2 ^ 60)<k/\k<2 ^ 60):run P (n+1) (O "_law_mixed") [.int c,.int k] h=.ok (.int (mixed c k)) h:=by
 rw [Zc H.mixed rfl];have hp:opB .Pow (.int 10) (.int 30) h=.ok (.int 1000000000000000000000000000000) h:=by
   show (if (0:Int)<=30/\(30:Int)<=1000000/\(10:Int).natAbs<2 ^ 64 then R.ok (D.int (10 ^ (30:Int).toNat)) h else R.bad)=_;rw [if_pos (by decide)];rfl
 have h1:0<=c % 1000000000000000000000000000057/\c % 1000000000000000000000000000057<1000000000000000000000000000057:=⟨Int.emod_nonneg _ (by decide),Int.emod_lt_of_pos _ (by decide)⟩
 have hkk:=Zln hk;have e1:opB .Mod (.int c) (.int 1000000000000000000000000000057) h=.ok (.int (c % 1000000000000000000000000000057)) h:=ZO (by decide);have e2:opB .Mult (.int (c % 1000000000000000000000000000057)) (.int 271828182845904523536028747135) h=.ok (.int (c % 1000000000000000000000000000057 * 271828182845904523536028747135)) h:=Zd7 ⟨Z0 (by omega) (by omega),Z0 (by decide) (by decide)⟩;have e3:opB .Mult (.int k) (.int k) h=.ok (.int (k * k)) h:=Zd7 ⟨Z0 (by omega) (by omega),Z0 (by omega) (by omega)⟩;have e4:opB .Mult (.int (k * k)) (.int 314159265358979323846264338327) h=.ok (.int (k * k * 314159265358979323846264338327)) h:=Zd7 ⟨Z0 (by omega) (by omega),Z0 (by decide) (by decide)⟩;have e5:opB .Mod (.int (c % 1000000000000000000000000000057 * 271828182845904523536028747135+k * k * 314159265358979323846264338327+577215664901532860606512090082)) (.int 1000000000000000000000000000057) h=.ok (.int (mixed c k)) h:=ZO (by decide);simp [Zax,ZeY,Zn,hp,e1,e2,e3,e4,e5]
noncomputable def St3(h:Hd)(i j:Nat)(cs:List Int)(at' b:Int):Prop:=h[i]? = some (.lst [.ref j,.int at',.int b])/\h[j]? = some (.lst (cs.map .int))/\i≠j
theorem Zji {P:Pg} (H:Mkr P) (n:Nat) {h:Hd}{i j:Nat}{cs:List Int}{a b:Int} (st:St3 h i j cs a b) (ha:0<=a/\a<2 ^ 50):∃ v,run P (n+2) (O "_law_next") [.ref i] h=.ok (.int v) (h.set i (.lst [.ref j,.int (a+1),.int b]))/\(v∈cs\/v=mixed a 7):=by
 obtain ⟨h1,h2,ne⟩:=st;rw [Zc H.next rfl];have i1:=ZK h1;have i2:(h.set i (.lst [.ref j,.int (a+1),.int b]))[i]? = some (.lst [.ref j,.int (a+1),.int b]):=by rw [Ol i1]
 have i3:(h.set i (.lst [.ref j,.int (a+1),.int b]))[j]? = some (.lst (cs.map .int)):=by rw [Oc ne];exact h2
 have hput:ZbP (.ref i) (.int 1) (.int (a+1)) h=.ok () (h.set i (.lst [.ref j,.int (a+1),.int b])):=by
   simp only [ZbP,h1];rfl
 have hlen:Zb4 P.GD .len [.ref j] (h.set i (.lst [.ref j,.int (a+1),.int b]))=.ok (.int cs.length) (h.set i (.lst [.ref j,.int (a+1),.int b])):=by
   simp only [Zb4,Zkl,seqOf,lstOf,i3];simp
 by_cases hc:a<cs.length
 . obtain ⟨k,rfl⟩:∃ k:Nat,a=k:=⟨a.toNat,by omega⟩
   have hk:k<cs.length:=by omega
   refine ⟨cs[k],?_,.inl (List.getElem_mem hk)⟩;have hat:atI (cs.map D.int) (k:Int)=some (.int cs[k]):=by rw [IV.ZcB,On,Og hk];rfl
   simp [Zap,ZdM,Zn,ZI h1,hput,ZI i2,hlen,hk,ZI i3,hat]
 . refine ⟨mixed a 7,?_,.inr rfl⟩;simp [Zap,ZdM,Zn,ZI h1,hput,ZI i2,hlen,hc,Zhb H n a 7 _ (by decide)]
noncomputable def Cl:List Str->T->Prop
 | _,.num n=>0<=n/\n<1000000
 | sc,.name x=>x∈sc
 | sc,.fn x e=>Cl (x::sc) e
 | sc,.rcc f x e=>Cl (x::f::sc) e/\f≠x
 | sc,.call f a=>Cl sc f/\Cl sc a
 | sc,.iff c t e=>Cl sc c/\Cl sc t/\Cl sc e
 | sc,.op _ a b=>Cl sc a/\Cl sc b
noncomputable def dep:T->Nat
 | .num _|.name _=>0
 | .fn _ e|.rcc _ _ e=>dep e+1
 | .call f a=>max (dep f) (dep a)+1
 | .iff c t e=>max (dep c) (max (dep t) (dep e))+1
 | .op _ a b=>max (dep a) (dep b)+1
theorem at4{a b c d:Int}(k:Int)(h0:0<=k)(h4:k<4):∃ v,atI [D.int a,.int b,.int c,.int d] k=some (.int v)/\(v=a\/v=b\/v=c\/v=d):=by
 have:k=0\/k=1\/k=2\/k=3:=by omega
 rcases this with rfl|rfl|rfl|rfl
 . exact ⟨a,by simp,.inl rfl⟩
 . exact ⟨b,by simp,.inr (.inl rfl)⟩
 . exact ⟨c,by simp,.inr (.inr (.inl rfl))⟩
 . exact ⟨d,by simp,.inr (.inr (.inr rfl))⟩
theorem Zg9 {P:Pg} (H:Mkr P) (n:Nat) (w:Str) (v:Int) (h:Hd) (sc:List Str):∃ t g,run P (n+1) (O "_law_plain") [.str w,.int v] h=.ok (T.d t) (h++g)/\Cl sc t/\dep t<=2/\t.size<=4:=by
 rw [Zc H.plain rfl];have m4:opB .Mod (.int v) (.int 4)=fun h=>.ok (.int (v % 4)) h:=by funext h;exact ZO (by decide)
 have m3:opB .Mod (.int v) (.int 3)=fun h=>.ok (.int (v % 3)) h:=by funext h;exact ZO (by decide)
 have m5:opB .Mod (.int v) (.int 5)=fun h=>.ok (.int (v % 5)) h:=by funext h;exact ZO (by decide)
 have d7:opB .FloorDiv (.int v) (.int 7)=fun h=>.ok (.int (v / 7)) h:=by funext h;exact Zcq (by decide)
 have mm:opB .Mod (.int (v / 7)) (.int 1000000)=fun h=>.ok (.int (v / 7 % 1000000)) h:=by funext h;exact ZO (by decide)
 by_cases w1:w=O "n"
 . obtain ⟨u,e,hu⟩:=at4 (a:=0) (b:=1) (c:=2) (d:=v / 7 % 1000000) (v % 4) (by omega) (by omega);refine ⟨.num u,[.lst [.int 0,.int 1,.int 2,.int (v / 7 % 1000000)]],?_,by show 0<=u/\u<1000000;omega,by show 0<=2;omega,by show 1<=4;omega⟩;have ix:ZaS P.GD (.ref h.length) (.int (v % 4)) (h++[.lst [.int 0,.int 1,.int 2,.int (v / 7 % 1000000)]])=R.ofO (atI [.int 0,.int 1,.int 2,.int (v / 7 % 1000000)] (v % 4)) _:=ZI ZdP;simp [ZT,ZbV,Zn,w1,m4,d7,mm,sizeLine_eq,ix,e,T.d]
 . by_cases w2:w=O "f"
   . refine ⟨.fn (O "w") (.op .sub (.name (O "w")) (.num (v % 3))),[],?_,?_,by simp only [dep];omega,by show 4<=4;omega⟩
     . simp [ZT,ZbV,Zn,w2,m3,sizeLine_eq,T.d,Wd.s]
     . exact ⟨Oi,by show 0<=v % 3/\v % 3<1000000;omega⟩
   . refine ⟨.fn (O "w") (.call (.name (O "w")) (.num (v % 5))),[],?_,?_,by simp only [dep];omega,by show 4<=4;omega⟩
     . simp [ZT,ZbV,Zn,w1,w2,m5,sizeLine_eq,T.d]
     . exact ⟨Oi,by show 0<=v % 5/\v % 5<1000000;omega⟩
noncomputable def Zu:Str:=O "abcdefghijklmnopqrstuvwxyz"
theorem Zis:Zu.length=26:=by decide +kernel
theorem Zjz:PyData.strOk Zu=true:=by decide +kernel
noncomputable def Wl(n:Nat)(x:Str):Prop:=PyData.strOk x=true/\x.length<=n
noncomputable def ltr(k:Int):Nat:=Zu.cps.toList.getD k.toNat 0
noncomputable def lt1(k:Int):Str:=⟨#[ltr k]⟩
theorem ZjA{GD:Str->Option (List (Key×D))}{h:Hd}(k:Int)(h0:0<=k)(h1:k<26):ZaS GD (.str Zu) (.int k) h=.ok (.str (lt1 k)) h/\Wl 1 (lt1 k):=by
 obtain ⟨m,rfl⟩:∃ m:Nat,k=m:=⟨k.toNat,by omega⟩
 have hl:Zu.cps.toList.length=26:=by decide +kernel
 have hm:m<Zu.cps.toList.length:=by omega
 have el:ltr m=Zu.cps.toList[m]:=by
   show Zu.cps.toList.getD (m:Int).toNat 0=_;rw [Int.toNat_natCast,List.getD_eq_getElem?_getD,Og hm];rfl
 have e:atI Zu.cps.toList (m:Int)=some Zu.cps.toList[m]:=by rw [IV.ZcB,Og hm]
 unfold lt1;rw [el];refine ⟨?_,Zjt Zjz (List.getElem_mem hm),by show (#[Zu.cps.toList[m]]:Array Nat).size<=1;simp⟩;have q:ZaS GD (.str Zu) (.int (m:Int)) h=if Zu.length<=sizeLine then R.ofO ((atI Zu.cps.toList (m:Int)).map fun c=>.str ⟨#[c]⟩) h else .bad:=rfl;rw [q,if_pos (by rw [Zis,sizeLine_eq];decide),e];rfl
theorem len_cat{x y:Str}:(x++y).length=x.length+y.length:=by
 show (x.cps++y.cps).size=_;rw [Array.size_append];rfl
theorem Zej{x y:Str}{a b:Nat}{h:Hd}(hx:Wl a x)(hy:Wl b y)(hz:a+b<=1000):opB .Add (.str x) (.str y) h=.ok (.str (x++y)) h/\Wl (a+b) (x++y):=by
 have hl:(x++y).length=x.length+y.length:=len_cat;refine ⟨if_pos (by rw [sizeLine_eq];have:=hx.2;have:=hy.2;omega),ZgI hx.1 hy.1,by rw [hl];have:=hx.2;have:=hy.2;omega⟩
theorem Znx{U:Tb}{h:Hd}{a l p f sg wd:Option D}:∀ (ks:List Int) (r:Int) (x:Str) (m:Nat) (k:Option D),Wl m x->x.length=m->m+ks.length<=100->∃ r' x' k',Wl (m+ks.length) x'/\x'.length=m+ks.length /\
   ZS none (.nm 6) (xs2 U (.cons (.set (.nm 5) (.bin .Add (.var 5) (.ix (.var 1) (.bin .Mod (.var 4) (.cst (.int 26)))))) (.cons (.set (.nm 4) (.bin .FloorDiv (.var 4) (.cst (.int 26)))) .nil))) (ks.map D.int) [a,some (.str Zu),l,p,some (.int r),some (.str x),k,f,sg,wd] h
     = .ok (.nx,[a,some (.str Zu),l,p,some (.int r'),some (.str x'),k',f,sg,wd]) h
 | [],r,x,m,k,hx,hn,hm=>⟨r,x,k,hx,hn,rfl⟩
 | c::cs,r,x,m,k,hx,hn,hm=>by
   obtain ⟨e1,hy⟩:=ZjA (GD:=U.GD) (h:=h) (r % 26) (by omega) (by omega);obtain ⟨e2,hxy⟩:=Zej (h:=h) hx hy (by simp at hm;omega);obtain ⟨r',x',k',h1,h2,e3⟩:=Znx (U:=U) (h:=h) (a:=a) (l:=l) (p:=p) (f:=f) (sg:=sg) (wd:=wd) cs (r / 26) (x++lt1 (r % 26)) (m+1) (some (.int c)) hxy (by rw [len_cat,hn];rfl) (by simp at hm ⊢;omega);have hcl:m+(c::cs).length=m+1+cs.length:=by rw [Os];omega
   refine ⟨r',x',k',by rw [hcl];exact h1,by rw [hcl];exact h2,?_⟩;have e4:opB .Mod (.int r) (.int 26) h=.ok (.int (r % 26)) h:=ZO (by decide);have e5:opB .FloorDiv (.int r) (.int 26) h=.ok (.int (r / 26)) h:=Zcq (by decide);rw [Op,Zau];simp [e4,e1,e2,e5,e3]
theorem Zrm(x:Str)(l u:Option Int):(StrLaws.sliceText x l u).length<=x.length:=by
 unfold StrLaws.sliceText;split
 . exact Oq _
 . show ((Builtin.Str.strSliceIndices l u 1 x.length).filterMap (x.cps[·]?)).toArray.size<=_;rw [Of];refine OE (List.length_filterMap_le _ _) ?_;unfold Builtin.Str.strSliceIndices;refine PySem.sliceRange_length_le _ _ _ _ (fun _=>?_) (fun z=>absurd (by decide) z);cases l<;>cases u<;>simp<;>omega
theorem Zdg{x:Str}{m:Nat}{h:Hd}(hx:Wl m x)(hm:m<=1000)(l u:Option Int):Zgj (.str x) l u h=.ok (.str (StrLaws.sliceText x l u)) h/\Wl m (StrLaws.sliceText x l u):=by
 refine ⟨if_pos (by rw [sizeLine_eq];have:=hx.2;omega),Znh hx.1 (Zfr _ _ _),?_⟩;have:=hx.2;have q:(StrLaws.sliceText x l u).length<=x.length:=Zrm x l u;omega
theorem in4 {GD:Str->Option (List (Key×D))}{h:Hd}{x:Str}:opC GD .In (.str x) (.tup [.str (O "fn"),.str (O "rec"),.str (O "call"),.str (O "if")]) h=.ok (.bl (decide (x∈[O "fn",O "rec",O "call",O "if"]))) h :=
 Zd6 (ss:=[O "fn",O "rec",O "call",O "if"])
theorem len_str{GD:Str->Option (List (Key×D))}{h:Hd}{x:Str}{m:Nat}(hx:Wl m x)(hm:m<=1000):Zb4 GD .len [.str x] h=.ok (.int x.length) h:=by
 show (if x.length<=sizeLine then _ else _)=_;exact if_pos (by rw [sizeLine_eq];have:=hx.2;omega)
theorem ZqA {x:Str}{h:Hd}{m:Nat} (hx:Wl m x) (hm:m<=1000):opB .Mult (.str (O "q")) (.int x.length) h=.ok (.str (Zer (O "q") x.length)) h/\Wl m (Zer (O "q") x.length):=by
 have hq:(O "q").length=1:=by decide +kernel
 have:=hx.2;refine ⟨if_pos ⟨by omega,by omega,by rw [hq];decide⟩,Zni (by decide +kernel) _,?_⟩;rw [Zd2,hq];omega
noncomputable def nmW(b:Str)(l p r c:Int):Str:=if r / 26 % 4=1 then StrLaws.sliceText b none (some (8 - c)) else StrLaws.sliceText b none (some p)++lt1 ((r+5 * c) % 26)++StrLaws.sliceText b (some (p+1)) (some l)
noncomputable def nmQ (w:Str):Str:=if w∈[O "fn",O "rec",O "call",O "if"] then Zer (O "q") w.length else w
noncomputable def nm(b:Str)(l p r c:Int):Str:=nmQ (nmW b l p r c)
theorem Znl{b:Str}(hb:Wl 8 b)(l p r c:Int):Wl 20 (nmW b l p r c):=by
 unfold nmW;split
 . have q:=(Zdg (h:=[]) hb (by decide) none (some (8 - c))).2;exact ⟨q.1,by have:=q.2;omega⟩
 . have q1:=(Zdg (h:=[]) hb (by decide) none (some p)).2;have q2:=(ZjA (GD:=fun _=>none) (h:=[]) ((r+5 * c) % 26) (by omega) (by omega)).2;have q3:=(Zdg (h:=[]) hb (by decide) (some (p+1)) (some l)).2;have q:=(Zej (h:=[]) (Zej (h:=[]) q1 q2 (by decide)).2 q3 (by decide)).2;exact ⟨q.1,by have:=q.2;omega⟩
theorem ZtZ{b:Str}(hb:Wl 8 b)(l p r c:Int):Wl 20 (nm b l p r c):=by
 unfold nm nmQ;split
 . exact (ZqA (h:=[]) (Znl hb l p r c) (by decide)).2
 . exact Znl hb l p r c
theorem ZkT{U:Tb}{h:Hd}{a:Option D}{l p r:Int}{b:Str}(hb:Wl 8 b):∀ (ks:List Int) (fo:List Str) (k sg wd:Option D),fo.length+ks.length<=100->(∀ c∈ks,0<=c/\c<100)->∃ k' sg' wd',
   ZS none (.nm 6) (xs2 U (.cons (.set (.nm 8) (.ix (.var 1) (.bin .Mod (.bin .Add (.var 4) (.bin .Mult (.cst (.int 5)) (.var 6))) (.cst (.int 26))))) (.cons (.set (.nm 9) (.bin .Add (.bin .Add (.sl (.var 5) none (some (.var 3))) (.var 8)) (.sl (.var 5) (some (.bin .Add (.var 3) (.cst (.int 1)))) (some (.var 2))))) (.cons (.iff (.ex (.cmp .Eq (.bin .Mod (.bin .FloorDiv (.var 4) (.cst (.int 26))) (.cst (.int 4))) (.cst (.int 1)))) (.cons (.set (.nm 9) (.sl (.var 5) none (some (.bin .Sub (.cst (.int 8)) (.var 6))))) .nil) .nil) (.cons (.iff (.ex (.cmp .In (.var 9) (.tupl (.cons (.cst (.str (O "fn"))) (.cons (.cst (.str (O "rec"))) (.cons (.cst (.str (O "call"))) (.cons (.cst (.str (O "if"))) .nil))))))) (.cons (.set (.nm 9) (.bin .Mult (.cst (.str (O "q"))) (.blt .len (.cons (.var 9) .nil)))) .nil) .nil) (.cons (.drp (.meth .app (.var 7) (.cons (.var 9) .nil))) .nil))))))
     (ks.map D.int) [a,some (.str Zu),some (.int l),some (.int p),some (.int r),some (.str b),k,some (.ref h.length),sg,wd] (h++[.lst (fo.map .str)])
     = .ok (.nx,[a,some (.str Zu),some (.int l),some (.int p),some (.int r),some (.str b),k',some (.ref h.length),sg',wd']) (h++[.lst ((fo++ks.map (nm b l p r)).map .str)])
 | [],fo,k,sg,wd,h2,h3=>⟨k,sg,wd,by simp⟩
 | c::cs,fo,k,sg,wd,h2,h3=>by
   have hc:=h3 c (by simp);obtain ⟨e1,hy⟩:=ZjA (GD:=U.GD) (h:=h++[.lst (fo.map .str)]) ((r+5 * c) % 26) (by omega) (by omega);have m5:opB .Mult (.int 5) (.int c) (h++[.lst (fo.map .str)])=.ok (.int (5 * c)) (h++[.lst (fo.map .str)]):=Zd7 ⟨Z0 (by decide) (by decide),Z0 (by omega) (by omega)⟩;have m26:opB .Mod (.int (r+5 * c)) (.int 26) (h++[.lst (fo.map .str)])=.ok (.int ((r+5 * c) % 26)) (h++[.lst (fo.map .str)]):=ZO (by decide);obtain ⟨f1,w1⟩:=Zdg (h:=h++[.lst (fo.map .str)]) hb (by decide) none (some p);obtain ⟨f2,w2⟩:=Zdg (h:=h++[.lst (fo.map .str)]) hb (by decide) (some (p+1)) (some l);obtain ⟨f3,w3⟩:=Zdg (h:=h++[.lst (fo.map .str)]) hb (by decide) none (some (8 - c));obtain ⟨c1,v1⟩:=Zej (h:=h++[.lst (fo.map .str)]) w1 hy (by decide);obtain ⟨c2,v2⟩:=Zej (h:=h++[.lst (fo.map .str)]) v1 w2 (by decide);have d26:opB .FloorDiv (.int r) (.int 26) (h++[.lst (fo.map .str)])=.ok (.int (r / 26)) (h++[.lst (fo.map .str)]):=Zcq (by decide);have m4:opB .Mod (.int (r / 26)) (.int 4) (h++[.lst (fo.map .str)])=.ok (.int (r / 26 % 4)) (h++[.lst (fo.map .str)]):=ZO (by decide);have hz:fo.length<16777216:=by simp at h2;omega
   generalize hy':lt1 ((r+5 * c) % 26)=y at *;have fin:∀ (wd1:Str),Wl 20 wd1->(xs2 U (.cons (.iff (.ex (.cmp .In (.var 9) (.tupl (.cons (.cst (.str (O "fn"))) (.cons (.cst (.str (O "rec"))) (.cons (.cst (.str (O "call"))) (.cons (.cst (.str (O "if"))) .nil))))))) (.cons (.set (.nm 9) (.bin .Mult (.cst (.str (O "q"))) (.blt .len (.cons (.var 9) .nil)))) .nil) .nil) (.cons (.drp (.meth .app (.var 7) (.cons (.var 9) .nil))) .nil))
       [a,some (.str Zu),some (.int l),some (.int p),some (.int r),some (.str b),some (.int c),some (.ref h.length),some (.str y),some (.str wd1)] (h++[.lst (fo.map .str)]))
       = .ok (.nx,[a,some (.str Zu),some (.int l),some (.int p),some (.int r),some (.str b),some (.int c),some (.ref h.length),some (.str y),some (.str (nmQ wd1))]) (h++[.lst (fo.map .str++[.str (nmQ wd1)])]):=by
     intro wd1 hw;unfold nmQ;obtain ⟨eq,wq⟩:=ZqA (h:=h++[.lst (fo.map .str)]) hw (by decide);by_cases hin:wd1∈[O "fn",O "rec",O "call",O "if"]
     . rw [if_pos hin];have i4:=in4 (GD:=U.GD) (h:=h++[.lst (fo.map .str)]) (x:=wd1);rw [decide_eq_true hin] at i4;simp only [Zb8,Ze7,Zg1,Zj5,ZhA,Zfd,Za9,Zef,Zj4,O0,OJ,Option.join_some,ofO_some,Zl,bind_ok];rw [if_pos (by rw [sizeLine_eq];decide)];simp only [Zl,bind_ok,i4,Zkv,ofO_some,if_true];simp [len_str hw,eq,Zdz,Zbo,ZfN,Znr,sizeLine_eq,hz]
     . rw [if_neg hin];have i4:=in4 (GD:=U.GD) (h:=h++[.lst (fo.map .str)]) (x:=wd1);rw [decide_eq_false hin] at i4;simp only [Zb8,Ze7,Zg1,Zj5,ZhA,Zfd,Za9,Zef,Zj4,O0,OJ,Option.join_some,ofO_some,Zl,bind_ok];rw [if_pos (by rw [sizeLine_eq];decide)];simp only [Zl,bind_ok,i4,Zkv,ofO_some];simp [Zdz,Zbo,ZfN,Znr,sizeLine_eq,hz]
   have go:xs2 U (.cons (.set (.nm 8) (.ix (.var 1) (.bin .Mod (.bin .Add (.var 4) (.bin .Mult (.cst (.int 5)) (.var 6))) (.cst (.int 26))))) (.cons (.set (.nm 9) (.bin .Add (.bin .Add (.sl (.var 5) none (some (.var 3))) (.var 8)) (.sl (.var 5) (some (.bin .Add (.var 3) (.cst (.int 1)))) (some (.var 2))))) (.cons (.iff (.ex (.cmp .Eq (.bin .Mod (.bin .FloorDiv (.var 4) (.cst (.int 26))) (.cst (.int 4))) (.cst (.int 1)))) (.cons (.set (.nm 9) (.sl (.var 5) none (some (.bin .Sub (.cst (.int 8)) (.var 6))))) .nil) .nil) (.cons (.iff (.ex (.cmp .In (.var 9) (.tupl (.cons (.cst (.str (O "fn"))) (.cons (.cst (.str (O "rec"))) (.cons (.cst (.str (O "call"))) (.cons (.cst (.str (O "if"))) .nil))))))) (.cons (.set (.nm 9) (.bin .Mult (.cst (.str (O "q"))) (.blt .len (.cons (.var 9) .nil)))) .nil) .nil) (.cons (.drp (.meth .app (.var 7) (.cons (.var 9) .nil))) .nil)))))
       [a,some (.str Zu),some (.int l),some (.int p),some (.int r),some (.str b),some (.int c),some (.ref h.length),sg,wd] (h++[.lst (fo.map .str)])
       = .ok (.nx,[a,some (.str Zu),some (.int l),some (.int p),some (.int r),some (.str b),some (.int c),some (.ref h.length),some (.str y),some (.str (nm b l p r c))]) (h++[.lst (fo.map .str++[.str (nm b l p r c)])]):=by
     unfold nm nmW;rw [hy'];by_cases hr:r / 26 % 4=1
     . have q2:=fin _ ⟨w3.1,by have:=w3.2;omega⟩;rw [if_pos hr,<- q2];simp [m5,m26,e1,f1,c1,f2,c2,d26,m4,hr,f3]
     . have q2:=fin _ ⟨v2.1,by have:=v2.2;omega⟩;rw [if_neg hr,<- q2];simp [m5,m26,e1,f1,c1,f2,c2,d26,m4,hr]
   obtain ⟨k',sg',wd',e3⟩:=ZkT (U:=U) (h:=h) (a:=a) (l:=l) (p:=p) (r:=r) hb cs (fo++[nm b l p r c]) (some (.int c)) (some (.str y)) (some (.str (nm b l p r c))) (by simp at h2 ⊢;omega) (fun z hz=>h3 z (by simp [hz]));refine ⟨k',sg',wd',?_⟩;rw [Op,Zau];simp only [Zqj,List.set_cons_succ,List.set_cons_zero];rw [go];simp only [Zl,bind_ok];have:(fo++[nm b l p r c]).map D.str=fo.map .str++[.str (nm b l p r c)]:=by simp
   rw [<- this,e3];simp
theorem Zsh:∀ k∈[[102,110],[114,101,99],[99,97,108,108],[105,102]],∀ l∈[[102,110],[114,101,99],[99,97,108,108],[105,102],List.replicate k.length 113],k=l\/k.length≠l.length\/∀ i,i<4->∃ j,j<4/\j≠i/\k[j]?≠l[j]? := by decide +kernel
theorem ZkV{b:List Nat}{x y:Nat}(ne:x≠y)(a:List Nat)(h:a++x::b∈[[102,110],[114,101,99],[99,97,108,108],[105,102]]):a++y::b ∉ [[102,110],[114,101,99],[99,97,108,108],[105,102]]/\a++y::b≠List.replicate (a++x::b).length 113:=by
 have l4:(a++x::b).length<=4:=by
   have:∀ k∈[[102,110],[114,101,99],[99,97,108,108],[105,102]],k.length<=4:=by decide
   exact this _ h
 have sl:(a++x::b).length=(a++y::b).length:=by simp
 have no:∀ l∈[[102,110],[114,101,99],[99,97,108,108],[105,102],List.replicate (a++x::b).length 113],a++y::b≠l:=fun l hl e=>by
   rcases Zsh _ h l hl with q|q|q
   . rw [<- e] at q;exact ne (List.cons.inj (List.append_cancel_left q)).1
   . exact q (by rw [<- e];exact sl)
   . obtain ⟨j,_,nj,d⟩:=q a.length (by simp at l4;omega);rw [<- e] at d;rcases Nat.lt_or_ge j a.length with z|z
     . exact d (by rw [Oe z,Oe z])
     . rw [Om z,Om z] at d;obtain ⟨m,hm⟩:∃ m,j - a.length=m+1:=⟨j - a.length - 1,by omega⟩
       rw [hm] at d;exact d rfl
 refine ⟨fun m=>no _ (List.mem_append_left [List.replicate (a++x::b).length 113] m) rfl,no _ (Ov [[102,110],[114,101,99],[99,97,108,108],[105,102]] (Ox.mpr rfl))⟩
theorem Znz {w:Str}:w∈[O "fn",O "rec",O "call",O "if"]↔w.cps.toList∈[[102,110],[114,101,99],[99,97,108,108],[105,102]]:=by
 have e:[[102,110],[114,101,99],[99,97,108,108],[105,102]]=[O "fn",O "rec",O "call",O "if"].map (·.cps.toList):=by decide +kernel
 rw [e];refine ⟨fun h=>List.mem_map_of_mem h,fun h=>?_⟩;obtain ⟨v,hv,q⟩:=List.mem_map.mp h;have:v=w:=by
   obtain ⟨⟨v⟩⟩:=v;obtain ⟨⟨w⟩⟩:=w;cases q;rfl
 exact this ▸ hv
theorem Zia:∀ n,(Zer (O "q") n).cps.toList=List.replicate n 113
 | n=>by
   have:∀ (n:Nat) (a:Array Nat),((List.replicate n (O "q").cps).foldl (·++·) a).toList=a.toList++List.replicate n 113:=by
     intro n;induction n with
     | zero=>intro a;simp
     | succ n ih=>intro a;rw [List.replicate_succ,List.foldl_cons,ih,Array.toList_append,Oz,List.replicate_succ];rfl
   have q:=this n #[];simpa [Zer] using q
theorem nq{a b:List Nat}{x y:Nat}{v w:Str}(hv:v.cps.toList=a++x::b)(hw:w.cps.toList=a++y::b)(ne:x≠y):nmQ v≠nmQ w:=by
 have hl:v.length=(a++x::b).length/\w.length=(a++y::b).length:=by rw [<- hv,<- hw];exact ⟨by simp [Str.length],by simp [Str.length]⟩
 unfold nmQ;intro e;have e':=congrArg (·.cps.toList) e;simp only [Znz] at e';split at e'
 . rename_i kv;rw [hv] at kv;obtain ⟨k1,k2⟩:=ZkV ne a kv;rw [if_neg (by rw [hw];exact k1),Zia,hw,hl.1] at e';exact k2 e'.symm
 . split at e'
   . rename_i kw;rw [hw] at kw;obtain ⟨k1,k2⟩:=ZkV (Ne.symm ne) a kw;rw [Zia,hv,hl.2] at e';exact k2 e'
   . rw [hv,hw] at e';have:=List.append_cancel_left e';exact ne (List.cons.inj this).1
theorem ZkO(w:Str):(nmQ w).length=w.length:=by
 unfold nmQ;split
 . rw [Zd2,show (O "q").length=1 by decide +kernel,Nat.mul_one]
 . rfl
theorem ZpF:∀ i j:Fin 26,ltr (i.val:Int)=ltr (j.val:Int)->i=j:=by decide +kernel
theorem Zt0{b:Str}{l p r:Int}(hb:b.length=8){c d:Int}(hc:0<=c/\c<5)(hd:0<=d/\d<5)(ne:c≠d):nm b l p r c≠nm b l p r d:=by
 unfold nm nmW;split
 . intro e;have e':=congrArg Str.length e;have len:∀ z:Int,0<=z/\z<5->(StrLaws.sliceText b none (some (8 - z))).length=(8 - z).toNat:=fun z hz=>by
     have h8:b.cps.toList.length=8:=by simpa [Str.length] using hb
     rw [StrLaws.sliceText_to ⟨by omega,by omega⟩];show (List.take (8 - z - 0).toNat (List.drop 0 b.cps.toList)).toArray.size=_;rw [Of,List.length_take,List.drop_zero,h8];omega
   rw [ZkO,ZkO,len c hc,len d hd] at e';omega
 . refine nq (a:=(StrLaws.sliceText b none (some p)).cps.toList) (b:=(StrLaws.sliceText b (some (p+1)) (some l)).cps.toList) (x:=ltr ((r+5 * c) % 26)) (y:=ltr ((r+5 * d) % 26)) ?_ ?_ ?_
   . show (_++#[ltr ((r+5 * c) % 26)]++_:Array Nat).toList=_;simp
   . show (_++#[ltr ((r+5 * d) % 26)]++_:Array Nat).toList=_;simp
   . intro e;have q:=ZpF ⟨((r+5 * c) % 26).toNat,by omega⟩ ⟨((r+5 * d) % 26).toNat,by omega⟩ (by
       show ltr (((r+5 * c) % 26).toNat:Int)=ltr (((r+5 * d) % 26).toNat:Int);rw [Int.toNat_of_nonneg (by omega),Int.toNat_of_nonneg (by omega)];exact e)
     have q:=Fin.mk.inj q;omega
theorem Znk{b:Str}{l p r:Int}(hb:b.length=8):(([0,1,2,3,4]:List Int).map (nm b l p r)).Nodup:=by
 refine List.pairwise_map.mpr (List.Pairwise.imp_of_mem (R:=fun x y=>x≠y) (fun {x y} hx hy ne=>Zt0 hb ?_ ?_ ne) (by decide))
 . simp at hx;omega
 . simp at hy;omega
theorem ZoR {P:Pg} (H:Mkr P) (n:Nat) (v:Int) (h:Hd):∃ ns:List Str,ns.length=5/\(∀ x∈ns,Wl 20 x)/\ns.Nodup/\run P (n+1) (O "_law_names") [.int v] h=.ok (.ref h.length) (h++[.lst (ns.map .str)]):=by
 rw [Zc H.names rfl];have u8:Zaz 0 8=[0,1,2,3,4,5,6,7].map D.int:=by rfl
 have u5:Zaz 0 5=[0,1,2,3,4].map D.int:=by rfl
 have m8:opB .Mod (.int v) (.int 8) h=.ok (.int (v % 8)) h:=ZO (by decide);have d8:opB .FloorDiv (.int v) (.int 8) h=.ok (.int (v / 8)) h:=Zcq (by decide);have mp:opB .Mod (.int (v / 8)) (.int (1+v % 8)) h=.ok (.int (v / 8 % (1+v % 8))) h:=ZO (by omega);have d64:opB .FloorDiv (.int v) (.int 64) h=.ok (.int (v / 64)) h:=Zcq (by decide);obtain ⟨r',b,k',hb,hb8,e1⟩:=Znx (U:=⟨P.G,P.GD,run P n,P.L⟩) (h:=h) (a:=some (.int v)) (l:=some (.int (1+v % 8))) (p:=some (.int (v / 8 % (1+v % 8)))) (f:=none) (sg:=none) (wd:=none) [0,1,2,3,4,5,6,7] (v / 64) (O "") 0 none ⟨by decide +kernel,by decide +kernel⟩ (by decide +kernel) (by decide);obtain ⟨k2,sg',wd',e2⟩:=ZkT (U:=⟨P.G,P.GD,run P n,P.L⟩) (h:=h) (a:=some (.int v)) (l:=1+v % 8) (p:=v / 8 % (1+v % 8)) (r:=r') hb [0,1,2,3,4] [] k' none none (by decide) (by decide);refine ⟨[0,1,2,3,4].map (nm b (1+v % 8) (v / 8 % (1+v % 8)) r'),rfl,fun x hx=>?_,Znk hb8,?_⟩
 . obtain ⟨c,_,rfl⟩:=List.mem_map.mp hx;exact ZtZ hb _ _ _ _
 generalize nm b (1+v % 8) (v / 8 % (1+v % 8)) r'=F at e2 ⊢;simp only [Oy,OB] at e2;have s8:Za1 8=true:=by decide
 have s5:Za1 5=true:=by decide
 unfold Zu at e1 e2;rw [<- u8] at e1;rw [<- u5] at e2
 try simp at e1
 try simp at e2
 simp [Zaw,ZeX,Zn,m8,d8,mp,d64,s8,s5,e1,e2,sizeLine_eq]
end Gn
end
section
set_option tactic.hygienic false
namespace Gn
open PySem L2 IV
noncomputable abbrev Scp:=List (Str×Str)
noncomputable def pairOf(p:Str×Str):D:=.tup [.str p.1,.str p.2]
noncomputable def Zmf(h:Hd)(k:Nat)(sc:Scp):Prop:=h[k]? = some (.lst (sc.map pairOf))
structure KnOk(sc:Scp)(kn:List (Key×D)):Prop where
 key:∀ p∈kn,∃ x,p.1=Sum.inr x/\x∈sc.map (·.1)
 val:∀ p∈kn,∃ s,p.2=D.str s
theorem Zie{kn:List (Key×D)}{k:Key}{v:D}{p:Key×D}(h:p∈putD kn k v):p∈kn\/p=(k,v):=by
 unfold putD at h;split at h
 . obtain ⟨q,hq,e⟩:=List.mem_map.mp h;split at e
   . rename_i ek;right;rw [<- e,ek]
   . left;rw [<- e];exact hq
 . rcases OD.mp h with z|z
   . exact .inl z
   . exact .inr (Ox.mp z)
theorem ZmP{kn:List (Key×D)}{k:Key}{v:D}:(putD kn k v).length<=kn.length+1:=by
 unfold putD;split<;>simp
theorem ZoZ{h:Hd}{kn:List (Key×D)}{x:Str}{v:D}(hz:kn.length<1000):ZbP (.ref h.length) (.str x) v (h++[.dic kn])=.ok () (h++[.dic (putD kn (.inr x) v)]):=by
 simp only [ZbP,ZdP,keyOf];rw [if_pos (by rw [sizeLine_eq];omega)];simp
theorem ZkS{U:Tb}{h:Hd}{k:Nat}{sc0:Scp}{w:Option D}(hs:Zmf h k sc0):∀ (sc:Scp) (kn:List (Key×D)) (a b:Option D),(∀ p∈sc,p∈sc0)->KnOk sc0 kn->kn.length+sc.length<=500->∃ kn' a' b',KnOk sc0 kn'/\kn'.length<=kn.length+sc.length /\
   ZS (some (k,sc0.map pairOf)) (.two 3 4) (xs2 U (.cons (.put (.var 2) (.var 3) (.var 4)) .nil)) (sc.map pairOf) [some (.ref k),w,some (.ref h.length),a,b] (h++[.dic kn])
     = .ok (.nx,[some (.ref k),w,some (.ref h.length),a',b']) (h++[.dic kn'])
 | [],kn,a,b,h1,h2,h3=>by
   refine ⟨kn,a,b,h2,by simp,?_⟩;have:(h++[DO.dic kn])[k]? = some (.lst (sc0.map pairOf)):=by rw [Oe (ZK hs)];exact hs
   simp [ZS,Wk.stays,this]
 | (x,s)::sc,kn,a,b,h1,h2,h3=>by
   simp only [Os] at h3;have st:(h++[DO.dic kn])[k]? = some (.lst (sc0.map pairOf)):=by rw [Oe (ZK hs)];exact hs
   have hk:KnOk sc0 (putD kn (.inr x) (.str s)):=by
     refine ⟨fun p hp=>?_,fun p hp=>?_⟩
     . rcases Zie hp with z|rfl
       . exact h2.key p z
       . exact ⟨x,rfl,List.mem_map.mpr ⟨(x,s),h1 _ (by simp),rfl⟩⟩
     . rcases Zie hp with z|rfl
       . exact h2.val p z
       . exact ⟨s,rfl⟩
   have pl:=ZmP (kn:=kn) (k:=.inr x) (v:=.str s);obtain ⟨kn',a',b',q1,q2,e⟩:=ZkS (U:=U) (w:=w) hs sc (putD kn (.inr x) (.str s)) (some (.str x)) (some (.str s)) (fun p hp=>h1 p (by simp [hp])) hk (by omega);refine ⟨kn',a',b',q1,by simp only [Os];omega,?_⟩;rw [Op,ZS];simp only [Wk.stays,st,decide_true,if_true];have e2:=ZoZ (h:=h) (kn:=kn) (x:=x) (v:=.str s) (by omega);simp [pairOf,e2];simpa [pairOf] using e
theorem find_key{kn:List (Key×D)}{x:Str}(hx:Sum.inr x∈kn.map (·.1)):∃ v,Zac kn (.inr x)=some v/\(Sum.inr x,v)∈kn:=by
 induction kn with
 | nil=>simp at hx
 | cons p r ih =>
   unfold Zac;by_cases e:p.1=Sum.inr x
   . refine ⟨p.2,?_,?_⟩
     . simp [List.find?_cons,e]
     . rw [<- e];exact Oi
   . obtain ⟨v,h1,h2⟩:=ih (by simpa [Ne.symm e] using hx);refine ⟨v,?_,Oh _ h2⟩;simpa [List.find?_cons,e,Zac] using h1
theorem ZkX{sc:Scp}:∀ {kn:List (Key×D)},(∀ p∈kn,∃ x,p.1=Sum.inr x/\x∈sc.map (·.1))->∃ ss,Zdk kn=some ss/\ss.length=kn.length/\(∀ x∈ss,x∈sc.map (·.1)/\Sum.inr x∈kn.map (·.1))
 | [],_=>⟨[],rfl,rfl,by simp⟩
 | (k,v)::r,h=>by
   obtain ⟨x,e,hx⟩:=h (k,v) (by simp);cases e;obtain ⟨ss,e1,e2,e3⟩:=ZkX (kn:=r) fun p hp=>h p (by simp [hp]);refine ⟨x::ss,by rw [Zdk,e1];rfl,by simp [e2],fun y hy=>?_⟩;rcases O2.mp hy with rfl|hy
   . exact ⟨hx,by simp⟩
   . exact ⟨(e3 y hy).1,by simp [(e3 y hy).2]⟩
theorem ZjC{U:Tb}{h:Hd}{kn:List (Key×D)}{w:Str}{so:List Str}(hv:∀ p∈kn,∃ s,p.2=D.str s):∀ (xs:List Str) (acc:List Str),(∀ x∈xs,Sum.inr x∈kn.map (·.1))->acc.length+xs.length<=1000->∃ ys,(∀ y∈ys,y∈xs) /\
   ZL (some (h.length+1,so.map D.str)) (.nm 0) (tsto U (some (.ex (.cmp .Eq (.ix (.var 2) (.var 0)) (.var 1))))) (ev U (.var 0)) (xs.map D.str) [none,some (.str w),some (.ref h.length)] (acc.map .str) (h++[.dic kn,.lst (so.map .str)])
     = .ok ((acc++ys).map .str) (h++[.dic kn,.lst (so.map .str)])
 | [],acc,h1,h2=>⟨[],by simp,by simp [ZL,Wk.stays]⟩
 | x::xs,acc,h1,h2=>by
   simp only [Os] at h2;obtain ⟨v,e1,hm⟩:=find_key (h1 x (by simp));obtain ⟨s,rfl⟩:∃ s,v=D.str s:=hv _ hm;have ix:ZaS U.GD (.ref h.length) (.str x) (h++[.dic kn,.lst (so.map .str)])=.ok (.str s) (h++[.dic kn,.lst (so.map .str)]):=by
     simp [ZaS,dicOf,e1]
   have hz:acc.length<sizeLine:=by rw [sizeLine_eq];omega
   by_cases hw:s=w
   . obtain ⟨ys,q1,q2⟩:=ZjC (U:=U) (h:=h) (w:=w) (so:=so) hv xs (acc++[x]) (fun y hy=>h1 y (by simp [hy])) (by simp;omega);refine ⟨x::ys,fun y hy=>?_,?_⟩
     . rcases O2.mp hy with rfl|hy
       . simp
       . simp [q1 y hy]
     . rw [Op,ZW];simp at q2;simp [Wk.stays,hz,ix,hw,q2]
   . obtain ⟨ys,q1,q2⟩:=ZjC (U:=U) (h:=h) (w:=w) (so:=so) hv xs acc (fun y hy=>h1 y (by simp [hy])) (by omega);refine ⟨ys,fun y hy=>by simp [q1 y hy],?_⟩;rw [Op,ZW];simp at q2;simp [Wk.stays,hz,ix,hw,q2]
theorem ZoQ{P:Pg}(H:Mkr P)(n:Nat){h:Hd}{k:Nat}{sc:Scp}(w:Str)(hs:Zmf h k sc)(hl:sc.length<=60)(hok:∀ p∈sc,PyData.strOk p.1=true):∃ (ys:List Str) (g:Hd),(∀ y∈ys,y∈sc.map (·.1))/\g.length=2 /\
   run P (n+1) (O "_law_there") [.ref k,.str w] h=.ok (.ref (h.length+2)) (h++g++[.lst (ys.map .str)]):=by
 rw [Zc H.there rfl];obtain ⟨kn,a',b',hk,hkl,e1⟩:=ZkS (U:=⟨P.G,P.GD,run P n,P.L⟩) (w:=some (.str w)) hs sc [] none none (fun _ hp=>hp) ⟨by simp,by simp⟩ (by simp;omega);obtain ⟨ss,e2,e3,e4⟩:=ZkX hk.key;have all:ss.all PyData.strOk=true:=by
   rw [OC];intro x hx;obtain ⟨p,hp,rfl⟩:=List.mem_map.mp (e4 x hx).1;exact hok p hp
 have perm:=Zdf ss;obtain ⟨ys,q1,q2⟩:=ZjC (U:=⟨P.G,P.GD,run P n,P.L⟩) (h:=h) (kn:=kn) (w:=w) (so:=Zca ss) hk.val (Zca ss) [] (fun x hx=>(e4 x (perm.mem_iff.mp hx)).2) (by rw [perm.length_eq];simp at hkl ⊢;omega);refine ⟨ys,[.dic kn,.lst ((Zca ss).map .str)],fun y hy=>(e4 y (perm.mem_iff.mp (q1 y hy))).1,rfl,?_⟩;have hsrt:Zb4 P.GD .srt [.ref h.length] (h++[.dic kn])=.ok (.ref (h.length+1)) (h++[.dic kn,.lst ((Zca ss).map .str)]):=by
   show Zek P.GD [.ref h.length] (h++[.dic kn])=_;simp only [Zek,dicOf,ZdP,Option.bind_some,e2];rw [if_pos ⟨by simp at hkl;omega,all⟩];simp
 have hw1:Zan (.ref k) (h++[DO.dic []])=some ⟨some (k,sc.map pairOf),sc.map pairOf⟩:=by
   have:(h++[DO.dic []])[k]? = some (.lst (sc.map pairOf)):=by rw [Oe (ZK hs)];exact hs
   simp [Zan,this]
 have hw2:Zan (.ref (h.length+1)) (h++[DO.dic kn,.lst ((Zca ss).map .str)])=some ⟨some (h.length+1,(Zca ss).map .str),(Zca ss).map .str⟩:=by
   simp [Zan]
 simp at q2 e1;simp [Zav,ZeW,Zn,ZcO,Zb2,hw1,e1,hsrt,hw2,Zbp,q2]
end Gn
end
section
namespace Gn
open PySem L2 IV
structure Ctx(cs:List Int)(ns:List Str)(h:Hd)(i j m k:Nat)(sc:Scp)(a b:Int):Prop where
 st:St3 h i j cs a b
 nm:h[m]? = some (.lst (ns.map .str))
 n5:ns.length=5
 nok:∀ x∈ns,Wl 20 x
 nd:ns.Nodup
 sca:Zmf h k sc
 sco:∀ p∈sc,Wl 20 p.1
 im:i≠m
 ik:i≠k
 ab:0<=a
variable {P:Pg}{cs:List Int}{ns:List Str}{h h':Hd}{i j m k:Nat}{sc:Scp}{a b a' b':Int}
theorem Ctx.up(c:Ctx cs ns h i j m k sc a b)(u:Up i h h')(st:St3 h' i j cs a' b')(ab:0<=a'):Ctx cs ns h' i j m k sc a' b' :=
 ⟨st,u.at c.nm (Ne.symm c.im),c.n5,c.nok,c.nd,u.at c.sca (Ne.symm c.ik),c.sco,c.im,c.ik,ab⟩
theorem St3.app{g:Hd}(s:St3 h i j cs a b):St3 (h++g) i j cs a b :=
 ⟨by rw [Oe (ZK s.1)];exact s.1,by rw [Oe (ZK s.2.1)];exact s.2.1,s.2.2⟩
theorem Ctx.app{g:Hd}(c:Ctx cs ns h i j m k sc a b):Ctx cs ns (h++g) i j m k sc a b:=c.up Up.app c.st.app c.ab
theorem Ctx.name(c:Ctx cs ns h i j m k sc a b){GD:Str->Option (List (Key×D))}(v:Int)(h0:0<=v)(h5:v<5):∃ x,ZaS GD (.ref m) (.int v) h=.ok (.str x) h/\Wl 20 x/\ns[v.toNat]? = some x:=by
 obtain ⟨q,rfl⟩:∃ q:Nat,v=q:=⟨v.toNat,by omega⟩
 have hq:q<ns.length:=by have:=c.n5;omega
 refine ⟨ns[q],?_,c.nok _ (List.getElem_mem hq),Og hq⟩;rw [ZI c.nm,IV.ZcB,On,Og hq];rfl
noncomputable def A(r:Nat):Int:=4 ^ (r+1)
theorem Zi5(r:Nat):0<A r:=Int.pow_pos (by decide)
theorem ZsO(r:Nat):A (r+1)=4 * A r:=by unfold A;rw [Int.pow_succ];omega
inductive Made(cs:List Int)(h:Hd)(i j:Nat)(sc:Scp)(a mx:Int)(dm:Nat)(r:R D):Prop
 | mk (t:T) (h':Hd) (a' b':Int) (e:r=.ok (T.d t) h') (u:Up i h h') (s:St3 h' i j cs a' b') (l1:a<=a') (l2:a'<=a+mx) (c:Cl (sc.map (·.1)) t) (p:dep t<=dm)
noncomputable def Zlf(P:Pg)(r n0:Nat):Prop:=∀ (n:Nat) (cs:List Int) (ns:List Str) (h:Hd) (i j m k:Nat) (sc:Scp) (a b:Int) (w:Str) (room:Int),room<=r->Ctx cs ns h i j m k sc a b->sc.length+2 * r<=50->a+A r<2 ^ 50 ->
 Made cs h i j sc a (A r) (3 * r+3) (run P (n+n0) (O "_law_any") [.str w,.ref k,.ref i,.ref m,.int room] h)
theorem Zol(H:Mkr P)(n:Nat)(c:Ctx cs ns h i j m k sc a b)(w:Str)(room:Int)(hl:sc.length<=50)(ha:a<2 ^ 50)(T1 T2 T3:Option D):∃ (v:Int) (w':Str) (ys:List Str) (h':Hd) (l:Nat),
   xs2 ⟨P.G,P.GD,run P (n+2),P.L⟩ (.cons Zbh (.cons Zbg (.cons ZU (.cons Zbf (.cons Zbe .nil))))) [some (.str w),some (.ref k),some (.ref i),some (.ref m),some (.int room),T1,T2,T3,none,none] h
     = .ok (.nx,[some (.str w'),some (.ref k),some (.ref i),some (.ref m),some (.int room),some (.int v),some (.int (v / 87)),some (.ref l),none,none]) h'/\Up i h h'/\Ctx cs ns h' i j m k sc (a+1) (b - 1)/\h'[l]? = some (.lst (ys.map .str))/\(∀ y∈ys,y∈sc.map (·.1)):=by
 have i1:=c.st.1;have lt:=ZK i1;have p1:ZbP (.ref i) (.int 2) (.int (b - 1)) h=.ok () (h.set i (.lst [.ref j,.int a,.int (b - 1)])):=by
   simp only [ZbP,i1];rfl
 have s1:St3 (h.set i (.lst [.ref j,.int a,.int (b - 1)])) i j cs a (b - 1):=⟨by rw [Ol lt],by rw [Oc c.st.2.2];exact c.st.2.1,c.st.2.2⟩
 have c1:=c.up Up.set s1 c.ab;obtain ⟨v,e2,_⟩:=Zji H n s1 ⟨c.ab,ha⟩;have lt1:i<(h.set i (.lst [.ref j,.int a,.int (b - 1)])).length:=by simpa using lt
 have s2:St3 ((h.set i (.lst [.ref j,.int a,.int (b - 1)])).set i (.lst [.ref j,.int (a+1),.int (b - 1)])) i j cs (a+1) (b - 1):=⟨by rw [Ol lt1],by rw [Oc c.st.2.2];exact s1.2.1,c.st.2.2⟩
 have c2:=c1.up Up.set s2 (by have:=c.ab;omega);generalize hh2:(h.set i (.lst [.ref j,.int a,.int (b - 1)])).set i (.lst [.ref j,.int (a+1),.int (b - 1)])=h2 at e2 s2 c2;have u2:Up i h h2:=hh2 ▸ Up.set.trans Up.set;have m29:∀ h,opB .Mod (.int v) (.int 29) h=.ok (.int (v % 29)) h:=fun h=>ZO (by decide);have d29:∀ h,opB .FloorDiv (.int v) (.int 29) h=.ok (.int (v / 29)) h:=fun h=>Zcq (by decide);have m3:∀ h,opB .Mod (.int (v / 29)) (.int 3) h=.ok (.int (v / 29 % 3)) h:=fun h=>ZO (by decide);have d87:∀ h,opB .FloorDiv (.int v) (.int 87) h=.ok (.int (v / 87)) h:=fun h=>Zcq (by decide);have hix:ZaS P.GD (.ref i) (.int 2) h=.ok (.int b) h:=by rw [ZI i1];simp
 have step3:∃ (w':Str) (h3:Hd),xs1 ⟨P.G,P.GD,run P (n+2),P.L⟩ ZU [some (.str w),some (.ref k),some (.ref i),some (.ref m),some (.int room),some (.int v),T2,T3,none,none] h2
     = .ok (.nx,[some (.str w'),some (.ref k),some (.ref i),some (.ref m),some (.int room),some (.int v),T2,T3,none,none]) h3/\Up i h2 h3/\Ctx cs ns h3 i j m k sc (a+1) (b - 1):=by
   by_cases hv:v % 29=0
   . have q:v / 29 % 3=0\/v / 29 % 3=1\/v / 29 % 3=2:=by omega
     have ix:∀ z:Int,ZaS P.GD (.ref h2.length) (.int z) (h2++[.lst [.str (O "n"),.str (O "f"),.str (O "g")]])=R.ofO (atI [.str (O "n"),.str (O "f"),.str (O "g")] z) _:=fun z=>ZI ZdP;rcases q with q|q|q
     . exact ⟨O "n",h2++[.lst [.str (O "n"),.str (O "f"),.str (O "g")]],by simp [ZU,m29,hv,d29,m3,sizeLine_eq,ix,q],Up.app,c2.app⟩
     . exact ⟨O "f",h2++[.lst [.str (O "n"),.str (O "f"),.str (O "g")]],by simp [ZU,m29,hv,d29,m3,sizeLine_eq,ix,q],Up.app,c2.app⟩
     . exact ⟨O "g",h2++[.lst [.str (O "n"),.str (O "f"),.str (O "g")]],by simp [ZU,m29,hv,d29,m3,sizeLine_eq,ix,q],Up.app,c2.app⟩
   . exact ⟨w,h2,by simp [ZU,m29,hv],Up.refl,c2⟩
 obtain ⟨w',h3,e3,u3,c3⟩:=step3;obtain ⟨ys,g,hy,hg,e5⟩:=ZoQ H (n+1) w' c3.sca (by omega) (fun p hp=>(c3.sco p hp).1);refine ⟨v,w',ys,h3++g++[.lst (ys.map .str)],h3.length+2,?_,(u2.trans u3).trans (Up.app.trans Up.app),c3.app.app,?_,hy⟩
 . have x1:xs1 ⟨P.G,P.GD,run P (n+2),P.L⟩ Zbh [some (.str w),some (.ref k),some (.ref i),some (.ref m),some (.int room),T1,T2,T3,none,none] h=.ok (.nx,[some (.str w),some (.ref k),some (.ref i),some (.ref m),some (.int room),T1,T2,T3,none,none]) (h.set i (.lst [.ref j,.int a,.int (b - 1)])):=by
     simp [Zbh,hix,p1]
   have x2:xs1 ⟨P.G,P.GD,run P (n+2),P.L⟩ Zbg [some (.str w),some (.ref k),some (.ref i),some (.ref m),some (.int room),T1,T2,T3,none,none] (h.set i (.lst [.ref j,.int a,.int (b - 1)]))=.ok (.nx,[some (.str w),some (.ref k),some (.ref i),some (.ref m),some (.int room),some (.int v),T2,T3,none,none]) h2:=by
     simp [Zbg,e2]
   have x4:∀ q,xs1 ⟨P.G,P.GD,run P (n+2),P.L⟩ Zbf [some (.str w'),some (.ref k),some (.ref i),some (.ref m),some (.int room),some (.int v),q,T3,none,none] h3=.ok (.nx,[some (.str w'),some (.ref k),some (.ref i),some (.ref m),some (.int room),some (.int v),some (.int (v / 87)),T3,none,none]) h3:=by
     intro q;simp [Zbf,d87]
   have x5:xs1 ⟨P.G,P.GD,run P (n+2),P.L⟩ Zbe [some (.str w'),some (.ref k),some (.ref i),some (.ref m),some (.int room),some (.int v),some (.int (v / 87)),T3,none,none] h3=.ok (.nx,[some (.str w'),some (.ref k),some (.ref i),some (.ref m),some (.int room),some (.int v),some (.int (v / 87)),some (.ref (h3.length+2)),none,none]) (h3++g++[.lst (ys.map .str)]):=by
     simp only [Zbe,Ze6,ZhC,Za9,Zef,ZhA,O0,OJ,Option.join_some,ofO_some,Zl,bind_ok,e5];rfl
   simp only [Zb8,x1,Zl,bind_ok,x2,e3,x4,x5,Zoq]
 . have:h3.length+2=(h3++g).length:=by simp [hg]
   rw [this];simp
end Gn
end
section
set_option tactic.hygienic false
namespace Gn
open PySem L2 IV
variable {P:Pg}{cs:List Int}{ns:List Str}{h h':Hd}{i j m k:Nat}{sc:Scp}{a b a' b':Int}
theorem Cl.mono{sc sc':List Str}:∀ {t:T},(∀ x∈sc,x∈sc')->Cl sc t->Cl sc' t
 | .num n,_,c=>c
 | .name x,s,c=>s x c
 | .fn x e,s,c=>Cl.mono (t:=e) (fun y hy=>by
     rcases O2.mp hy with z|z
     . rw [z];exact Oi
     . exact Oh _ (s y z)) c
 | .rcc f x e,s,c=>⟨Cl.mono (t:=e) (fun y hy=>by
     rcases O2.mp hy with z|z
     . rw [z];exact Oi
     . rcases O2.mp z with q|q
       . rw [q];exact Oh _ Oi
       . exact Oh _ (Oh _ (s y q))) c.1,c.2⟩
 | .call f e,s,c=>⟨Cl.mono s c.1,Cl.mono s c.2⟩
 | .iff p q r,s,c=>⟨Cl.mono s c.1,Cl.mono s c.2.1,Cl.mono s c.2.2⟩
 | .op w p q,s,c=>⟨Cl.mono s c.1,Cl.mono s c.2⟩
noncomputable def Zot(z:Int):Wd:=if z=0 then .add else if z=1 then .sub else if z=2 then .mul else .lt
theorem wd4 (z:Int) (h0:0<=z) (h4:z<4):atI [D.str (O "+"),.str (O "-"),.str (O "*"),.str (O "<")] z=some (.str (Zot z).s):=by
 have:z=0\/z=1\/z=2\/z=3:=by omega
 rcases this with rfl|rfl|rfl|rfl<;>simp [Zot,Wd.s]
noncomputable def me(rest:Int)(k i m:Nat)(room:Int)(a b c d:Option D):Ev:=[some (.int rest),some (.ref k),some (.ref i),some (.ref m),some (.int room),a,b,c,d]
theorem Zr3(H:Mkr P){r n0:Nat}(ih:Zlf P r n0)(hn:1<=n0)(n:Nat)(c:Ctx cs ns h i j m k sc a b)(rest:Int)(room:Int)(hr:room<=r)(hl:sc.length+2 * r<=50)(ha:a+2 * A r<2 ^ 50) :
   Made cs h i j sc a (2 * A r) (3 * r+4) (run P (n+n0+1) (O "_law_number") [.int rest,.ref k,.ref i,.ref m,.int room] h):=by
 have Ap:=Zi5 r;rw [Ze8 H.number rfl];show Made cs h i j sc a (2 * A r) (3 * r+4) (Zh (xs2 (P.tbl (n+n0)) Zcz (me rest k i m room none none none none) h));have x1:∀ h,xs1 (P.tbl (n+n0)) Zc9 (me rest k i m room none none none none) h=.ok (.nx,me rest k i m room (some (.int (rest % 6))) none none none) h:=fun h=>rfl;rw [Zcz,Za (x1 h)];obtain ⟨n1,e1⟩:∃ n1,n+n0=n1+1:=⟨n+n0 - 1,by omega⟩
 by_cases h0:rest % 6=0
 . obtain ⟨t,g,e2,ct,pt⟩:=Zg9 H n1 (O "n") (rest / 6) h (sc.map (·.1));refine ⟨t,h++g,a,b,?_,Up.app,c.st.app,by omega,by omega,ct,by omega⟩;rw [<- e1] at e2;have x2:xs1 (P.tbl (n+n0)) ZbK (me rest k i m room (some (.int (rest % 6))) none none none) h=.ok (.rt t.d,me rest k i m room (some (.int (rest % 6))) none none none) (h++g):=(Zr (Zt (Zf5 rfl rfl) (decide_eq_true h0))).trans (Ze (Zj e2 rfl rfl));rw [Ze x2];rfl
 . have x2:xs1 (P.tbl (n+n0)) ZbK (me rest k i m room (some (.int (rest % 6))) none none none) h=.ok (.nx,me rest k i m room (some (.int (rest % 6))) none none none) h:=(Zx (Zt (Zf5 rfl rfl) (decide_eq_false h0))).trans rfl;rw [Za x2];have lt:tst (P.tbl (n+n0)) (.ex (.cmp .Lt (.var 5) (.cst (.int 3)))) (me rest k i m room (some (.int (rest % 6))) none none none) h=.ok (decide (rest % 6<3)) h:=rfl;by_cases h3:rest % 6<3
   . obtain ⟨t1,g1,a1,b1,e2,u1,s1,l1,l2,c1,p1⟩:=ih n cs ns h i j m k sc a b (O "n") room hr c hl (by omega);have cc:=c.up u1 s1 (by have:=c.ab;omega);obtain ⟨t2,g2,a2,b2,e3,u2,s2,l3,l4,c2,p2⟩:=ih n cs ns (g1++[.lst [.str (O "+"),.str (O "-"),.str (O "*"),.str (O "<")]]) i j m k sc a1 b1 (O "n") room hr cc.app hl (by omega);refine ⟨.op (Zot (rest / 6 % 4)) t1 t2,g2,a2,b2,?_,u1.trans (Up.app.trans u2),s2,by omega,by omega,⟨c1,c2⟩,by simp only [dep];omega⟩;have w4:=wd4 (rest / 6 % 4) (by omega) (by omega);have x3:xs1 (P.tbl (n+n0)) ZbJ (me rest k i m room (some (.int (rest % 6))) none none none) h=.ok (.rt (T.op (Zot (rest / 6 % 4)) t1 t2).d,me rest k i m room (some (.int (rest % 6))) (some t1.d) none none) g2:=by
       refine (Zr (Zt lt (decide_eq_true h3))).trans ?_;refine (Za (ρ1:=me rest k i m room (some (.int (rest % 6))) (some t1.d) none none) (h1:=g1) (Zj e2 rfl rfl)).trans ?_;exact Ze (ZA (Zbi (Zd (Zob w4 rfl rfl (by simp)) (Zd rfl (Zd (Zs e3 rfl) rfl))) (by simp)))
     rw [Ze x3];rfl
   . have w3:∃ ws,(ws=O "f" \/ ws=O "g")/\atI [D.str (O "f"),.str (O "f"),.str (O "g")] (rest % 6 - 3)=some (.str ws):=by
       have:rest % 6 - 3=0\/rest % 6 - 3=1\/rest % 6 - 3=2:=by omega
       rcases this with q|q|q<;>rw [q]<;>simp
     obtain ⟨ws,hws,w3⟩:=w3;obtain ⟨t1,g1,a1,b1,e2,u1,s1,l1,l2,c1,p1⟩:=ih n cs ns (h++[.lst [.str (O "f"),.str (O "f"),.str (O "g")]]) i j m k sc a b ws room hr c.app hl (by omega);have cc:=c.app.up u1 s1 (by have:=c.ab;omega);have dd:∃ ws',ZaS P.GD (.ref g1.length) (.str ws) (g1++[.dic [(.inr (O "f"),.str (O "n")),(.inr (O "g"),.str (O "f"))]])=.ok (.str ws') (g1++[.dic [(.inr (O "f"),.str (O "n")),(.inr (O "g"),.str (O "f"))]]):=by
       rcases hws with rfl|rfl
       . exact ⟨O "n",by simp [ZaS,dicOf,Zac]⟩
       . exact ⟨O "f",by simp [ZaS,dicOf,Zac]⟩
     obtain ⟨ws',dd⟩:=dd;obtain ⟨t2,g2,a2,b2,e3,u2,s2,l3,l4,c2,p2⟩:=ih n cs ns (g1++[.dic [(.inr (O "f"),.str (O "n")),(.inr (O "g"),.str (O "f"))]]) i j m k sc a1 b1 ws' room hr cc.app hl (by omega);refine ⟨.call t1 t2,g2,a2,b2,?_,Up.app.trans (u1.trans (Up.app.trans u2)),s2,by omega,by omega,⟨c1,c2⟩,by simp only [dep];omega⟩;have x3:xs1 (P.tbl (n+n0)) ZbJ (me rest k i m room (some (.int (rest % 6))) none none none) h=.ok (.nx,me rest k i m room (some (.int (rest % 6))) none none none) h:=(Zx (Zt lt (decide_eq_false h3))).trans rfl;have x4:xs1 (P.tbl (n+n0)) Zc8 (me rest k i m room (some (.int (rest % 6))) none none none) h=.ok (.nx,me rest k i m room (some (.int (rest % 6))) none (some (.str ws)) none) (h++[.lst [.str (O "f"),.str (O "f"),.str (O "g")]]):=Zv (i:=7) (Zob w3 rfl rfl (by simp));have x5:xs1 (P.tbl (n+n0)) Zc7 (me rest k i m room (some (.int (rest % 6))) none (some (.str ws)) none) (h++[.lst [.str (O "f"),.str (O "f"),.str (O "g")]])=.ok (.nx,me rest k i m room (some (.int (rest % 6))) none (some (.str ws)) (some t1.d)) g1:=Zj e2 rfl rfl;have p6:ev (P.tbl (n+n0)) (.ix (.dictl (.cons (.cst (.str (O "f"))) (.cons (.cst (.str (O "n"))) (.cons (.cst (.str (O "g"))) (.cons (.cst (.str (O "f"))) .nil))))) (.var 7)) (me rest k i m room (some (.int (rest % 6))) none (some (.str ws)) (some t1.d)) g1=.ok (.str ws') (g1++[.dic [(.inr (O "f"),.str (O "n")),(.inr (O "g"),.str (O "f"))]]):=dd;have x6:xs1 (P.tbl (n+n0)) Zc6 (me rest k i m room (some (.int (rest % 6))) none (some (.str ws)) (some t1.d)) g1=.ok (.rt (T.call t1 t2).d,me rest k i m room (some (.int (rest % 6))) none (some (.str ws)) (some t1.d)) g2:=ZA (Zbi (Zd rfl (Zd rfl (Zd ((Zp4 (Zd p6 rfl)).trans e3) rfl))) (by simp));rw [Za x3,Za x4,Za x5,Ze x6];rfl
end Gn
end
section
set_option tactic.hygienic false
namespace Gn
open PySem L2 IV
variable {P:Pg}{cs:List Int}{ns:List Str}{h h':Hd}{i j m k:Nat}{sc:Scp}{a b a' b':Int}
theorem Ctx.wider(c:Ctx cs ns h i j m k sc a b)(more:Scp)(hm:∀ p∈more,Wl 20 p.1):Ctx cs ns (h++[.lst (more.map pairOf),.lst ((sc++more).map pairOf)]) i j m (h.length+1) (sc++more) a b:=by
 have c1:=c.app (g:=[.lst (more.map pairOf),.lst ((sc++more).map pairOf)]);refine ⟨c1.st,c1.nm,c1.n5,c1.nok,c1.nd,by unfold Zmf;simp,fun p hp=>?_,c1.im,?_,c1.ab⟩
 . rcases OD.mp hp with z|z
   . exact c.sco p z
   . exact hm p z
 . have:=ZK c.st.1;omega
theorem ZhF(c:Ctx cs ns h i j m k sc a b)(more:Scp)(hz:sc.length+more.length<=100):opB .Add (.ref k) (.ref h.length) (h++[.lst (more.map pairOf)])=.ok (.ref (h.length+1)) (h++[.lst (more.map pairOf),.lst ((sc++more).map pairOf)]):=by
 have hk:(h++[DO.lst (more.map pairOf)])[k]? = some (.lst (sc.map pairOf)):=by rw [Oe (ZK c.sca)];exact c.sca
 simp only [opB,Zqn,hk,ZdP];rw [if_pos (by simp;rw [sizeLine_eq];omega)];simp
theorem Ztn{sc:Scp}{x s:Str}:∀ y∈(sc++[(x,s)]).map (·.1),y∈x::sc.map (·.1):=fun y hy=>by
 rw [List.map_append] at hy;rcases OD.mp hy with z|z
 . exact Oh _ z
 . have:y=x:=by simpa using z
   rw [this];exact Oi
theorem unlike{ns:List Str}(n5:ns.length=5)(nd:ns.Nodup){x f:Str}{rest:Int}(ax:ns[(rest % 5).toNat]? = some x)(af:ns[((rest % 5+1+rest / 15 % 4) % 5).toNat]? = some f):f≠x:=fun e=>by
 have q:=(List.getElem?_inj (i:=(rest % 5).toNat) (j:=((rest % 5+1+rest / 15 % 4) % 5).toNat) (by rw [n5];omega) nd).mp (by rw [ax,af,e]);omega
noncomputable def fe(w:Str)(rest:Int)(k i m:Nat)(room:Int)(a b c d:Option D):Ev:=[some (.str w),some (.int rest),some (.ref k),some (.ref i),some (.ref m),some (.int room),a,b,c,d]
theorem Zun {N:Nat}{s:Str}{w:Str}{rest:Int}{room:Int}{x:Str}{t1:T}{g1 h1:Hd} (hc:opB .Add (.ref k) (.ref h.length) (h++[.lst ([(x,s)].map pairOf)])=.ok (.ref (h.length+1)) h1) (e1:run P N (O "_law_any") [.str (O "n"),.ref (h.length+1),.ref i,.ref m,.int room] h1=.ok t1.d g1):ev (P.tbl N) (.tupl (.cons (.cst (.str (O "fn"))) (.cons (.var 6) (.cons (.call (O "_law_any") (.cons (.cst (.str (O "n"))) (.cons (.bin .Add (.var 2) (.lstl (.cons (.tupl (.cons (.var 6) (.cons (.cst (.str s)) .nil))) .nil))) (.cons (.var 3) (.cons (.var 4) (.cons (.var 5) .nil)))))) .nil)))) (fe w rest k i m room (some (.str x)) none none none) h=.ok (T.fn x t1).d g1:=by
 have b:ev (P.tbl N) (.bin .Add (.var 2) (.lstl (.cons (.tupl (.cons (.var 6) (.cons (.cst (.str s)) .nil))) .nil))) (fe w rest k i m room (some (.str x)) none none none) h=.ok (.ref (h.length+1)) h1:=(ZaL (x:=.ref k) (y:=.ref h.length) (h1:=h) (h2:=h++[.lst ([(x,s)].map pairOf)]) rfl rfl).trans hc;exact Zbi (Zd rfl (Zd rfl (Zd ((Zp4 (Zd rfl (Zd b rfl))).trans e1) rfl))) (by simp)
theorem Zsu(H:Mkr P){r n0:Nat}(ih:Zlf P r n0)(n:Nat)(c:Ctx cs ns h i j m k sc a b)(w:Str)(rest:Int)(room:Int)(hr:room<=r)(hl:sc.length+2+2 * r<=50)(ha:a+2 * A r<2 ^ 50) :
   Made cs h i j sc a (2 * A r) (3 * r+6) (run P (n+n0+1) (O "_law_function") [.str w,.int rest,.ref k,.ref i,.ref m,.int room] h):=by
 have Ap:=Zi5 r;have hab:=c.ab;rw [Ze8 H.function rfl];obtain ⟨x,ex,wx,ax⟩:=c.name (GD:=P.GD) (rest % 5) (by clear ih ha hab hl hr;omega) (by clear ih ha hab hl hr;omega);show Made cs h i j sc a (2 * A r) (3 * r+6) (Zh (xs2 (P.tbl (n+n0)) (.cons ZaZ (.cons Zab (.cons Zaa (.cons ZaY (.cons ZaX (.cons ZaW (.cons Z9 (.cons Z8 .nil)))))))) (fe w rest k i m room none none none none) h));have x1:xs1 (P.tbl (n+n0)) ZaZ (fe w rest k i m room none none none none) h=.ok (.nx,fe w rest k i m room (some (.str x)) none none none) h:=by
   exact Zv (i:=6) ex
 rw [Za x1];by_cases hg:w=O "g"
 . have hc:=ZhF c [(x,O "f")] (by simp;omega);obtain ⟨t1,g1,a1,b1,e1,u1,s1,l1,l2,c1,p1⟩:=ih n cs ns _ i j m (h.length+1) (sc++[(x,O "f")]) a b (O "n") room hr (c.wider [(x,O "f")] (by simp [wx])) (by simp;omega) (by omega);refine ⟨.fn x t1,g1,a1,b1,?_,Up.app.trans u1,s1,l1,by omega,Cl.mono (t:=t1) Ztn c1,by simp only [dep];omega⟩;have e:xs1 (P.tbl (n+n0)) Zab (fe w rest k i m room (some (.str x)) none none none) h=.ok (.rt (T.fn x t1).d,fe w rest k i m room (some (.str x)) none none none) g1:=by
     subst hg;exact (Zr rfl).trans (Ze (ZA (Zun hc e1)))
   rw [Ze e];rfl
 have x2:xs1 (P.tbl (n+n0)) Zab (fe w rest k i m room (some (.str x)) none none none) h=.ok (.nx,fe w rest k i m room (some (.str x)) none none none) h:=by
   exact (Zx (Zt (Zgq rfl rfl) (decide_eq_false hg))).trans rfl
 rw [Za x2];by_cases h3:rest / 5 % 3=0
 . have hc:=ZhF c [(x,O "n")] (by simp;omega);obtain ⟨t1,g1,a1,b1,e1,u1,s1,l1,l2,c1,p1⟩:=ih n cs ns _ i j m (h.length+1) (sc++[(x,O "n")]) a b (O "n") room hr (c.wider [(x,O "n")] (by simp [wx])) (by simp;omega) (by omega);refine ⟨.fn x t1,g1,a1,b1,?_,Up.app.trans u1,s1,l1,by omega,Cl.mono (t:=t1) Ztn c1,by simp only [dep];omega⟩;have e:xs1 (P.tbl (n+n0)) Zaa (fe w rest k i m room (some (.str x)) none none none) h=.ok (.rt (T.fn x t1).d,fe w rest k i m room (some (.str x)) none none none) g1:=(Zr (Zt (Zf5 (x:=rest / 5 % 3) rfl rfl) (decide_eq_true h3))).trans (Ze (ZA (Zun hc e1)));rw [Ze e];rfl
 have x3:xs1 (P.tbl (n+n0)) Zaa (fe w rest k i m room (some (.str x)) none none none) h=.ok (.nx,fe w rest k i m room (some (.str x)) none none none) h:=by
   exact (Zx (Zt (Zf5 (x:=rest / 5 % 3) rfl rfl) (decide_eq_false h3))).trans rfl
 obtain ⟨f,ef,wf,af⟩:=c.name (GD:=P.GD) ((rest % 5+1+rest / 15 % 4) % 5) (by clear ih ha hab hl hr;omega) (by clear ih ha hab hl hr;omega);have nfx:f≠x:=unlike c.n5 c.nd ax af;have x4:xs1 (P.tbl (n+n0)) ZaY (fe w rest k i m room (some (.str x)) none none none) h=.ok (.nx,fe w rest k i m room (some (.str x)) (some (.str f)) none none) h:=by
   exact Zv (i:=7) ef
 have hc:=ZhF c [(f,O "f"),(x,O "n")] (by simp;omega);have cw:=c.wider [(f,O "f"),(x,O "n")] (by simp [wx,wf]);have sub:∀ y∈(sc++[(f,O "f"),(x,O "n")]).map (·.1),y∈x::f::sc.map (·.1):=fun y hy=>by simp at hy ⊢;rcases hy with z|z|z<;>simp [z]
 generalize hh1:(h++[DO.lst ([(f,O "f"),(x,O "n")].map pairOf),.lst ((sc++[(f,O "f"),(x,O "n")]).map pairOf)])=h1 at hc cw;have ug:Up i h h1:=by rw [<- hh1];exact Up.app
 have hl1:h1.length=h.length+2:=by rw [<- hh1];simp
 have x5:xs1 (P.tbl (n+n0)) ZaX (fe w rest k i m room (some (.str x)) (some (.str f)) none none) h=.ok (.nx,fe w rest k i m room (some (.str x)) (some (.str f)) (some (.ref (h.length+1))) none) h1:=by
   exact Zv (i:=8) ((ZaL (x:=.ref k) (y:=.ref h.length) (h1:=h) (h2:=h++[.lst ([(f,O "f"),(x,O "n")].map pairOf)]) rfl rfl).trans hc)
 have x6:xs1 (P.tbl (n+n0)) ZaW (fe w rest k i m room (some (.str x)) (some (.str f)) (some (.ref (h.length+1))) none) h1=.ok (.nx,fe w rest k i m room (some (.str x)) (some (.str f)) (some (.ref (h.length+1))) (some (T.call (.name f) (.op .sub (.name x) (.num 1))).d)) h1:=by
   exact rfl
 rw [Za x3,Za x4,Za x5,Za x6];generalize hsc:sc++[(f,O "f"),(x,O "n")]=sc1 at cw sub hh1;have hsl:sc1.length=sc.length+2:=by rw [<- hsc];simp
 clear x1 x2 x3 x4 x5 x6 hc hh1 hsc ex ef;have last:∀ (t1:T) (g1:Hd) (a1 b1:Int),Up i h1 g1->St3 g1 i j cs a1 b1->a<=a1->a1<=a+A r->Cl (x::f::sc.map (·.1)) t1->dep t1<=3 * r+4 ->
     xs1 (P.tbl (n+n0)) Z9 (fe w rest k i m room (some (.str x)) (some (.str f)) (some (.ref (h.length+1))) (some (T.call (.name f) (.op .sub (.name x) (.num 1))).d)) h1=.ok (.nx,fe w rest k i m room (some (.str x)) (some (.str f)) (some (.ref (h.length+1))) (some t1.d)) g1 ->
     Made cs h i j sc a (2 * A r) (3 * r+6) (Zh (xs2 (P.tbl (n+n0)) (.cons Z9 (.cons Z8 .nil)) (fe w rest k i m room (some (.str x)) (some (.str f)) (some (.ref (h.length+1))) (some (T.call (.name f) (.op .sub (.name x) (.num 1))).d)) h1)):=by
   intro t1 g1 a1 b1 u1 s1 l1 l2 c1 p1 x7;rw [Za x7];obtain ⟨t2,g2,a2,b2,e2,u2,s2,l3,l4,c2,p2⟩:=ih n cs ns g1 i j m (h.length+1) sc1 a1 b1 (O "n") (room - 1) (by clear ha;omega) (cw.up u1 s1 (by clear hl ha hr;omega)) (by clear ha hr;omega) (by clear hl hr;omega);refine ⟨.rcc f x (.iff (.name x) t1 t2),g2,a2,b2,?_,ug.trans (u1.trans u2),s2,Int.le_trans l1 l3,by clear hl hr ha;omega,⟨⟨Oi,c1,Cl.mono sub c2⟩,nfx⟩,by simp only [dep];clear hl hr ha;omega⟩;have e:xs1 (P.tbl (n+n0)) Z8 (fe w rest k i m room (some (.str x)) (some (.str f)) (some (.ref (h.length+1))) (some t1.d)) g1=.ok (.rt (T.rcc f x (.iff (.name x) t1 t2)).d,fe w rest k i m room (some (.str x)) (some (.str f)) (some (.ref (h.length+1))) (some t1.d)) g2:=by
     exact ZA (Zbi (Zd rfl (Zd rfl (Zd rfl (Zd (Zbi (Zd rfl (Zd rfl (Zd rfl (Zd (Zs e2 rfl) rfl)))) (by simp)) rfl)))) (by simp))
   rw [Ze e];rfl
 by_cases q0:rest / 60 % 3=0
 . obtain ⟨t1,g1,a1,b1,e1,u1,s1,l1,l2,c1,p1⟩:=ih n cs ns h1 i j m (h.length+1) sc1 a b (O "n") room hr cw (by clear ha hr;omega) (by clear hl hr;omega);refine last t1 g1 a1 b1 u1 s1 l1 l2 (Cl.mono sub c1) (by omega) ?_;exact (Zr (Zt (Zf5 (x:=rest / 60 % 3) rfl rfl) (decide_eq_true q0))).trans (Za (Zj e1 rfl rfl))
 . by_cases q1:rest / 60 % 3=1
   . have w2:∃ wd:Wd,atI [D.str (O "+"),.str (O "*")] (rest / 180 % 2)=some (.str wd.s):=by
       have:rest / 180 % 2=0\/rest / 180 % 2=1:=by clear ih ha hl hr q0 q1;omega
       rcases this with z|z<;>rw [z]
       . exact ⟨.add,by simp [Wd.s]⟩
       . exact ⟨.mul,by simp [Wd.s]⟩
     obtain ⟨wd,w2⟩:=w2;obtain ⟨t1,g1,a1,b1,e1,u1,s1,l1,l2,c1,p1⟩:=ih n cs ns _ i j m (h.length+1) sc1 a b (O "n") (room - 1) (by clear ha;omega) (cw.app (g:=[.lst [.str (O "+"),.str (O "*")]])) (by clear ha hr;omega) (by clear hl hr;omega);refine last (.op wd t1 (.call (.name f) (.op .sub (.name x) (.num 1)))) g1 a1 b1 (Up.app.trans u1) s1 l1 l2 ⟨Cl.mono sub c1,Oh _ Oi,Oi,by show (0:Int)<=1/\(1:Int)<1000000;decide⟩ (by simp only [dep];clear hl hr ha;omega) ?_;exact (Zx (Zt (Zf5 (x:=rest / 60 % 3) rfl rfl) (decide_eq_false q0))).trans (Za ((Zr (Zt (Zf5 (x:=rest / 60 % 3) rfl rfl) (decide_eq_true q1))).trans (Za (Zv (i:=9) (Zbi (Zd (Zob w2 rfl rfl (by simp)) (Zd (Zs e1 rfl) rfl)) (by simp))))))
   . refine last (.call (.name f) (.op .sub (.name x) (.num 1))) h1 a b Up.refl cw.st (Int.le_refl _) (by omega) ⟨Oh _ Oi,Oi,by show (0:Int)<=1/\(1:Int)<1000000;decide⟩ (by simp only [dep];omega) ?_;exact (Zx (Zt (Zf5 (x:=rest / 60 % 3) rfl rfl) (decide_eq_false q0))).trans (Za ((Zx (Zt (Zf5 (x:=rest / 60 % 3) rfl rfl) (decide_eq_false q1))).trans rfl))
end Gn
end
section
set_option tactic.hygienic false
namespace Gn
open PySem L2 IV
variable {P:Pg}{cs:List Int}{ns:List Str}{h h':Hd}{i j m k:Nat}{sc:Scp}{a b a' b':Int}
theorem ZkI(rd:Nat->Option PyData):∀ ys:List Str,D.pys rd (ys.map D.str)=some (ys.map PyData.str)
 | []=>rfl
 | y::ys=>by rw [Op,D.pys,ZkI rd ys];rfl
theorem Zr6{l:Nat}{ys:List Str}(e:h[l]? = some (.lst (ys.map .str))):Zb1 true (.ref l) (.ref h.length) (h++[.lst []])=.ok (.bl (!ys.isEmpty)) (h++[.lst []]):=by
 have e1:(h++[DO.lst []])[l]? = some (.lst (ys.map .str)):=by rw [Oe (ZK e)];exact e
 have p1:Ze1 (h++[.lst []]) (.ref l)=some (.list (ys.map .str)):=by
   show Ze0 (h++[.lst []]) 4 l=_;rw [Ze0,e1];simp [ZkI]
 have p2:Ze1 (h++[DO.lst []]) (.ref h.length)=some (.list []):=by
   show Ze0 (h++[.lst []]) 4 h.length=_;rw [Ze0,ZdP];rfl
 unfold IV.Zb1;rw [p1,p2];simp only;have d0:min (PyData.list (ys.map .str)).depth (PyData.list []).depth<=1100:=by
   have:(PyData.list []).depth<=1:=by decide +kernel
   omega
 rw [if_pos d0];cases ys with
 | nil=>rfl
 | cons y r=>rfl
theorem ZdR{U:Tb}{R:Sxs}{ρ':Ev}{h':Hd}{s:Sx}{A B_:Sxs}{S:Ev}{h:Hd}(e:xs2 U (.cons s A) S h=.ok (.nx,ρ') h')(q:∀ ρ1 h1,xs2 U A ρ1 h1=.ok (.nx,ρ') h'->xs2 U B_ ρ1 h1=xs2 U R ρ' h'):xs2 U (.cons s B_) S h=xs2 U R ρ' h':=by
 rw [Zb8] at e ⊢;cases r1:xs1 U s S h with
 | bad=>rw [r1] at e;cases e
 | exc c h1=>rw [r1] at e;cases e
 | ok p h1 =>
   rw [r1] at e;obtain ⟨fl,ρ1⟩:=p;cases fl with
   | nx=>exact q ρ1 h1 e
   | bk=>cases e
   | ct=>cases e
   | rt d=>cases e
theorem ZsU{U:Tb}{s1 s2 s3 s4 s5:Sx}{S ρ':Ev}{h h':Hd}(R:Sxs)(e:xs2 U (.cons s1 (.cons s2 (.cons s3 (.cons s4 (.cons s5 .nil))))) S h=.ok (.nx,ρ') h'):xs2 U (.cons s1 (.cons s2 (.cons s3 (.cons s4 (.cons s5 R))))) S h=xs2 U R ρ' h' :=
 ZdR e fun _ _ e=>ZdR e fun _ _ e=>ZdR e fun _ _ e=>ZdR e fun _ _ e=>ZdR e fun _ _ e=>by cases e;rfl
noncomputable def ae(w:Str)(k i m:Nat)(room v q:Int)(l:Nat)(a b:Option D):Ev:=[some (.str w),some (.ref k),some (.ref i),some (.ref m),some (.int room),some (.int v),some (.int q),some (.ref l),a,b]
theorem any_gen(H:Mkr P)(n1:Nat)(c:Ctx cs ns h i j m k sc a b)(w:Str)(room:Int)(mx:Int)(dm:Nat)(hdm:2<=dm)(hl:sc.length<=50)(ha:a<2 ^ 50)(hmx:1<=mx)
   (rc:1<=room->∃ r n0 n',room - 1<=(r:Nat)/\Zlf P r n0/\n1+2=n'+n0+1/\1<=n0/\sc.length+2+2 * r<=50/\1+3 * A r<=mx/\a+mx<2 ^ 50/\3 * r+6<=dm) :
   Made cs h i j sc a mx dm (run P (n1+3) (O "_law_any") [.str w,.ref k,.ref i,.ref m,.int room] h):=by
 have hab:=c.ab;rw [Ze8 H.any rfl];obtain ⟨v,w',ys,h5,l,e5,u5,c5,hy,hys⟩:=Zol H n1 c w room hl ha none none none;have st:Zn ZaU.N [.str w,.ref k,.ref i,.ref m,.int room]=[some (.str w),some (.ref k),some (.ref i),some (.ref m),some (.int room),none,none,none,none,none]:=rfl;rw [st,show ZaU.body=.cons Zbh (.cons Zbg (.cons ZU (.cons Zbf (.cons Zbe (.cons Zbd (.cons Zay (.cons ZbW (.cons Zbc (.cons ZaO (.cons Zbr .nil)))))))))) from rfl,ZsU _ e5];show Made cs h i j sc a mx dm (Zh (xs2 (P.tbl (n1+2)) (.cons Zbd (.cons Zay (.cons ZbW (.cons Zbc (.cons ZaO (.cons Zbr .nil)))))) (ae w' k i m room v (v / 87) l none none) h5));have nn:=Zr6 hy;have t1:tst (P.tbl (n1+2)) (.ex (.cmp .NotEq (.var 7) (.lstl .nil))) (ae w' k i m room v (v / 87) l none none) h5=.ok (!ys.isEmpty) (h5++[.lst []]):=Zez ((ZJ (x:=.ref l) (y:=.ref h5.length) (h1:=h5) (h2:=h5++[DO.lst []]) rfl rfl).trans nn);have t2:∀ h,tst (P.tbl (n1+2)) (.ex (.cmp .Eq (.bin .Mod (.var 6) (.cst (.int 3))) (.cst (.int 0)))) (ae w' k i m room v (v / 87) l none none) h=.ok (decide (v / 87 % 3=0)) h:=fun h=>Zf5 rfl rfl;have t8:∀ h,tst (P.tbl (n1+2)) (.ex (.cmp .Eq (.bin .Mod (.var 6) (.cst (.int 8))) (.cst (.int 0)))) (ae w' k i m room v (v / 87 / 30) l none none) h=.ok (decide (v / 87 / 30 % 8=0)) h:=fun h=>Zf5 rfl rfl;by_cases hn:ys.isEmpty=false/\v / 87 % 3=0
 ·
   have hp:0<ys.length:=by
     cases ys with
     | nil=>simp at hn
     | cons y r=>simp
   have ix:opB .Mod (.int (v / 87 / 3)) (.int ys.length) (h5++[.lst []])=.ok (.int (v / 87 / 3 % ys.length)) (h5++[.lst []]):=ZO (by omega);have hb:(0:Int)<=v / 87 / 3 % ys.length/\v / 87 / 3 % ys.length<ys.length:=⟨Int.emod_nonneg _ (by omega),Int.emod_lt_of_pos _ (by omega)⟩
   obtain ⟨q,hq⟩:∃ q:Nat,v / 87 / 3 % ys.length=q:=⟨(v / 87 / 3 % ys.length).toNat,by omega⟩
   have hql:q<ys.length:=by omega
   have hl5:(h5++[DO.lst []])[l]? = some (.lst (ys.map .str)):=by rw [Oe (ZK hy)];exact hy
   have len:Zb4 P.GD .len [.ref l] (h5++[.lst []])=.ok (.int ys.length) (h5++[.lst []]):=by
     simp only [Zb4,Zkl,seqOf,lstOf,hl5];simp
   have at5:ZaS P.GD (.ref l) (.int (q:Int)) (h5++[.lst []])=.ok (.str ys[q]) (h5++[.lst []]):=by
     rw [ZI hl5,IV.ZcB,On,Og hql];rfl
   refine ⟨.name ys[q],h5++[.lst []],a+1,b - 1,?_,u5.trans Up.app,c5.st.app,by omega,by omega,hys _ (List.getElem_mem hql),Nat.zero_le _⟩;have x6:xs1 (P.tbl (n1+2)) Zbd (ae w' k i m room v (v / 87) l none none) h5=.ok (.rt (T.name ys[q]).d,(ae w' k i m room v (v / 87) l none none)) (h5++[.lst []]):=by
     have el:ev (P.tbl (n1+2)) (.blt .len (.cons (.var 7) .nil)) (ae w' k i m room v (v / 87) l none none) (h5++[.lst []])=.ok (.int ys.length) (h5++[.lst []]):=len;have ei:ev (P.tbl (n1+2)) (.bin .Mod (.bin .FloorDiv (.var 6) (.cst (.int 3))) (.blt .len (.cons (.var 7) .nil))) (ae w' k i m room v (v / 87) l none none) (h5++[.lst []])=.ok (.int (q:Int)) (h5++[.lst []]):=(ZaL (x:=.int (v / 87 / 3)) rfl el).trans (ix.trans (by rw [hq]));rw [hn.1] at t1;exact (Zr (ZqX t1 (Zt (t2 _) (decide_eq_true hn.2)))).trans (Ze (ZA (Zbi (Zd rfl (Zd ((ZaV (x:=.ref l) rfl ei).trans at5) rfl)) (by simp))))
   rw [Ze x6];rfl
 . have x6:xs1 (P.tbl (n1+2)) Zbd (ae w' k i m room v (v / 87) l none none) h5
       = .ok (.nx,(ae w' k i m room v (v / 87) l none none)) (h5++[.lst []]):=by
     cases q:ys.isEmpty with
     | true =>
       rw [q] at t1;exact (Zx (ZuF t1)).trans rfl
     | false =>
       rw [q] at t1;have h3:¬ v / 87 % 3=0:=fun z=>hn ⟨q,z⟩;exact (Zx (ZqX t1 (Zt (t2 _) (decide_eq_false h3)))).trans rfl
   have c6:=c5.app (g:=[.lst []]);have u6:=u5.trans (Up.app (i:=i) (g:=[.lst []]));clear t1 nn;generalize hh6:h5++[.lst []]=h6 at x6 c6 u6;rw [Za x6];have ix2:ZaS P.GD (.ref i) (.int 2) h6=.ok (.int (b - 1)) h6:=by rw [ZI c6.st.1];simp
   have r1:tst (P.tbl (n1+2)) (.ex (.cmp .Lt (.var 4) (.cst (.int 1)))) (ae w' k i m room v (v / 87) l none none) h6=.ok (decide (room<1)) h6:=rfl;have r2:tst (P.tbl (n1+2)) (.ex (.cmp .Lt (.ix (.var 2) (.cst (.int 2))) (.cst (.int 0)))) (ae w' k i m room v (v / 87) l none none) h6=.ok (decide (b - 1<0)) h6:=Zez ((ZJ (y:=.int 0) (h2:=h6) ((ZaV (x:=.ref i) (y:=.int 2) rfl rfl).trans ix2) rfl).trans rfl);obtain ⟨t,g,ep,ct,pt⟩:=Zg9 H (n1+1) w' (v / 87 / 3) h6 (sc.map (·.1));by_cases hr:room<1
   . refine ⟨t,h6++g,a+1,b - 1,?_,u6.trans Up.app,c6.st.app,by omega,by omega,ct,by omega⟩;have x7:xs1 (P.tbl (n1+2)) Zay (ae w' k i m room v (v / 87) l none none) h6=.ok (.rt t.d,(ae w' k i m room v (v / 87) l none none)) (h6++g):=(Zr (ZtP (Zt r1 (decide_eq_true hr)))).trans (Ze (Zj ep rfl rfl));rw [Ze x7];rfl
   . by_cases hb:b - 1<0
     . refine ⟨t,h6++g,a+1,b - 1,?_,u6.trans Up.app,c6.st.app,by omega,by omega,ct,by omega⟩;have x7:xs1 (P.tbl (n1+2)) Zay (ae w' k i m room v (v / 87) l none none) h6=.ok (.rt t.d,(ae w' k i m room v (v / 87) l none none)) (h6++g):=(Zr (Zna (Zt r1 (decide_eq_false hr)) (Zt r2 (decide_eq_true hb)))).trans (Ze (Zj ep rfl rfl));rw [Ze x7];rfl
     . obtain ⟨r,n0,n',q1,ih,q2,q3,q4,q5,q6,q7⟩:=rc (by omega);have Ap:=Zi5 r;have x7:xs1 (P.tbl (n1+2)) Zay (ae w' k i m room v (v / 87) l none none) h6
           = .ok (.nx,(ae w' k i m room v (v / 87) l none none)) h6:=by
         exact (Zx (Zna (Zt r1 (decide_eq_false hr)) (Zt r2 (decide_eq_false hb)))).trans rfl
       have x8:xs1 (P.tbl (n1+2)) ZbW (ae w' k i m room v (v / 87) l none none) h6
           = .ok (.nx,(ae w' k i m room v (v / 87 / 30) l none none)) h6:=by
         exact rfl
       rw [Za x7,Za x8];by_cases h8:v / 87 / 30 % 8=0
       . obtain ⟨t1,g1,a1,b1,e1,u1,s1,l1,l2,c1,p1⟩:=ih (n'+1) cs ns h6 i j m k sc (a+1) (b - 1) (O "n") (room - 1) q1 c6 (by omega) (by omega);have cc1:=c6.up u1 s1 (by omega);obtain ⟨t2,g2,a2,b2,e2,u2,s2,l3,l4,c2,p2⟩:=ih (n'+1) cs ns g1 i j m k sc a1 b1 w' (room - 1) q1 cc1 (by omega) (by omega);have cc2:=cc1.up u2 s2 (by omega);obtain ⟨t3,g3,a3,b3,e3,u3,s3,l5,l6,c3,p3⟩:=ih (n'+1) cs ns g2 i j m k sc a2 b2 w' (room - 1) q1 cc2 (by omega) (by omega);rw [show n'+1+n0=n1+2 by omega] at e1 e2 e3;refine ⟨.iff t1 t2 t3,g3,a3,b3,?_,u6.trans (u1.trans (u2.trans u3)),s3,by omega,by omega,⟨c1,c2,c3⟩,by simp only [dep];omega⟩;have x9:xs1 (P.tbl (n1+2)) Zbc (ae w' k i m room v (v / 87 / 30) l none none) h6=.ok (.rt (T.iff t1 t2 t3).d,(ae w' k i m room v (v / 87 / 30) l (some t1.d) (some t2.d))) g3:=by
           refine (Zr (Zt (t8 _) (decide_eq_true h8))).trans ?_;refine (Za (ρ1:=ae w' k i m room v (v / 87 / 30) l (some t1.d) none) (h1:=g1) (Zj e1 rfl rfl)).trans ?_;refine (Za (ρ1:=ae w' k i m room v (v / 87 / 30) l (some t1.d) (some t2.d)) (h1:=g2) (Zj e2 rfl rfl)).trans ?_;exact Ze (Zj e3 rfl rfl)
         rw [Ze x9];rfl
       . have x9:xs1 (P.tbl (n1+2)) Zbc (ae w' k i m room v (v / 87 / 30) l none none) h6=.ok (.nx,(ae w' k i m room v (v / 87 / 30) l none none)) h6:=(Zx (Zt (t8 _) (decide_eq_false h8))).trans rfl;rw [Za x9];by_cases hw:w'=O "n"
         . obtain ⟨t1,g1,a1,b1,e1,u1,s1,l1,l2,c1,p1⟩:=Zr3 H ih q3 n' c6 (v / 87 / 30 / 8) (room - 1) q1 (by omega) (by omega);rw [<- q2] at e1;refine ⟨t1,g1,a1,b1,?_,u6.trans u1,s1,by omega,by omega,c1,by omega⟩;have x10:xs1 (P.tbl (n1+2)) ZaO (ae w' k i m room v (v / 87 / 30) l none none) h6=.ok (.rt t1.d,(ae w' k i m room v (v / 87 / 30) l none none)) g1:=(Zr (Zt (Zgq rfl rfl) (decide_eq_true hw))).trans (Ze (Zj e1 rfl rfl));rw [Ze x10];rfl
         . obtain ⟨t1,g1,a1,b1,e1,u1,s1,l1,l2,c1,p1⟩:=Zsu H ih n' c6 w' (v / 87 / 30 / 8) (room - 1) q1 (by omega) (by omega);rw [<- q2] at e1;refine ⟨t1,g1,a1,b1,?_,u6.trans u1,s1,by omega,by omega,c1,by omega⟩;have x10:xs1 (P.tbl (n1+2)) ZaO (ae w' k i m room v (v / 87 / 30) l none none) h6=.ok (.nx,(ae w' k i m room v (v / 87 / 30) l none none)) h6:=(Zx (Zt (Zgq rfl rfl) (decide_eq_false hw))).trans rfl;have x11:xs1 (P.tbl (n1+2)) Zbr (ae w' k i m room v (v / 87 / 30) l none none) h6=.ok (.rt t1.d,(ae w' k i m room v (v / 87 / 30) l none none)) g1:=Zj e1 rfl rfl;rw [Za x10,Ze x11];rfl
theorem Zok(H:Mkr P):∀ r:Nat,Zlf P r (2 * r+3)
 | 0=>fun n cs ns h i j m k sc a b w room hr c hl ha=>by
   have:=any_gen H n c w room (A 0) 3 (by decide) (by omega) (by have:=Zi5 0;omega) (by decide) (fun z=>by omega);exact this
 | r+1=>fun n cs ns h i j m k sc a b w room hr c hl ha=>by
   have Ap:=Zi5 r;have As:=ZsO r;have:=any_gen H (n+2 * r+2) c w room (A (r+1)) (3 * (r+1)+3) (by omega) (by omega) (by omega) (by omega) (fun _=>⟨r,2 * r+3,n,by omega,Zok H r,by omega,by omega,by omega,by omega,by omega,by omega⟩);rw [show n+(2 * (r+1)+3)=n+2 * r+2+3 by omega];exact this
end Gn
end
section
namespace Gn
open PySem L2 IV
noncomputable def front:T->List D
 | .num n=>[.str (O "num"),.int n]
 | .name x=>[.str (O "name"),.str x]
 | .fn x _=>[.str (O "fn"),.str x]
 | .rcc f x _=>[.str (O "rec"),.str f,.str x]
 | .call _ _=>[.str (O "call")]
 | .iff _ _ _=>[.str (O "if")]
 | .op w _ _=>[.str w.s]
theorem Zn3(t:T):t.d=.tup (front t++t.parts.map T.d):=by cases t<;>rfl
noncomputable def Zht:D->Bool
 | .str _|.int _=>true
 | _=>false
theorem ZjX(t:T):∀ d∈front t,Zht d=true:=by cases t<;>simp [front,Zht]
theorem ZnK {GD:Str->Option (List (Key×D))}{d:D}{h:Hd} (hf:Zht d=true):Zb4 GD .isi [d,.ty "tuple"] h=.ok (.bl false) h:=by
 cases d with
 | str x=>rfl
 | int x=>rfl
 | _=>cases hf
theorem ZpP {GD:Str->Option (List (Key×D))}{xs:List D}{h:Hd}:Zb4 GD .isi [.tup xs,.ty "tuple"] h=.ok (.bl true) h:=rfl
noncomputable abbrev isT:Tx:=.ex (.blt .isi (.cons (.var 0) (.cons (.cst (.ty "tuple")) .nil)))
theorem Zf9{U:Tb}{e:Ex}{h:Hd}{acc rest:List D}:∀ ds:List D,(∀ d∈ds,Zht d=true)->acc.length<sizeLine->ZL none (.nm 0) (tsto U (some isT)) (ev U e) (ds++rest) [none] acc h=ZL none (.nm 0) (tsto U (some isT)) (ev U e) rest [none] acc h
 | [],_,_=>rfl
 | d::ds,hd,hz=>by
   have:=ZnK (GD:=U.GD) (h:=h) (hd d (by simp));rw [List.cons_append,ZW];simp [Wk.stays,hz,this];exact Zf9 ds (fun x hx=>hd x (by simp [hx])) hz
theorem Zf7{U:Tb}{e:Ex}{f:T->Int}:∀ (ts:List T) (acc:List D) (h:Hd),(∀ t∈ts,∀ h,∃ g,ev U e [some t.d] h=.ok (.int (f t)) (h++g))->acc.length+ts.length<=1000->∃ g,ZL none (.nm 0) (tsto U (some isT)) (ev U e) (ts.map T.d) [none] acc h=.ok (acc++ts.map fun t=>.int (f t)) (h++g)
 | [],acc,h,_,_=>⟨[],by simp [ZL,Wk.stays]⟩
 | t::ts,acc,h,ht,hz=>by
   simp only [Os] at hz;obtain ⟨g1,e1⟩:=ht t (by simp) h;obtain ⟨g2,e2⟩:=Zf7 (U:=U) (e:=e) (f:=f) ts (acc++[.int (f t)]) (h++g1) (fun x hx=>ht x (by simp [hx])) (by simp;omega);refine ⟨g1++g2,?_⟩;have hz2:acc.length<sizeLine:=by rw [sizeLine_eq];omega
   have it:Zb4 U.GD .isi [t.d,.ty "tuple"] h=.ok (.bl true) h:=by rw [Zn3];exact ZpP
   rw [Op,ZW];simp [Wk.stays,hz2,it,e1,e2]
theorem Zeh{U:Tb}{e:Ex}{f:T->Int}(t:T)(h:Hd)(ht:∀ s∈t.parts,∀ h,∃ g,ev U e [some s.d] h=.ok (.int (f s)) (h++g)):∃ g,ZL none (.nm 0) (tsto U (some isT)) (ev U e) (front t++t.parts.map T.d) [none] [] h=.ok (t.parts.map fun s=>.int (f s)) (h++g):=by
 obtain ⟨g,e1⟩:=Zf7 (f:=f) t.parts [] h ht (by cases t<;>simp [T.parts]);refine ⟨g,?_⟩;rw [Zf9 _ (ZjX t) (by rw [sizeLine_eq];simp),e1];simp
theorem ints_map(f:T->Int):∀ ts:List T,intsOf (ts.map fun s=>D.int (f s))=some (ts.map f)
 | []=>rfl
 | t::ts=>by rw [Op,intsOf,ints_map f ts];rfl
variable {P:Pg}
theorem ZkB(t:T):(t.size:Int)=1+(t.parts.map fun s=>(s.size:Int)).sum:=by
 unfold T.size;rw [T.places_parts];have:∀ ts:List T,((ts.flatMap T.places).length:Int)=(ts.map fun s=>(s.places.length:Int)).sum:=by
   intro ts;induction ts with
   | nil=>rfl
   | cons t ts ih=>rw [List.flatMap_cons,OA,Op,OI,<- ih];omega
 rw [Os,<- this];omega
theorem Zeg{t s:T}(hs:s∈t.parts):dep s<dep t:=by
 cases t<;>simp [T.parts] at hs<;>simp only [dep]
 . subst hs;omega
 . subst hs;omega
 . rcases hs with rfl|rfl<;>omega
 . rcases hs with rfl|rfl|rfl<;>omega
 . rcases hs with rfl|rfl<;>omega
theorem ZkF (H:Mkr P):∀ (d n:Nat) (t:T) (h:Hd),dep t<=d->∃ g,run P (n+d+1) (O "_law_width") [t.d] h=.ok (.int t.size) (h++g):=by
 intro d;induction d with
 | zero =>
   intro n t h hd;rw [Zc H.width rfl];obtain ⟨g,e⟩:=Zeh (U:=⟨P.G,P.GD,run P (n+0),P.L⟩) (e:=.call (O "_law_width") (.cons (.var 0) .nil)) (f:=fun s=>(s.size:Int)) t h (fun s hs=>by have:=Zeg hs;omega);refine ⟨g++[.lst (t.parts.map fun s=>.int s.size)],?_⟩;rw [ZkB,Zn3];have sm:Zb4 P.GD .sum [.ref (h++g).length] (h++g++[.lst (t.parts.map fun s=>D.int s.size)])=.ok (.int (t.parts.map fun s=>(s.size:Int)).sum) (h++g++[.lst (t.parts.map fun s=>D.int s.size)]):=by
     simp only [Zb4,Zoh,lstOf,ZdP,Option.bind_some,ints_map];rfl
   simp at sm e;simp [Z3,Zc5,Zn,Zan,Zbp,e,sm]
 | succ d ih =>
   intro n t h hd;rw [Zc H.width rfl];obtain ⟨g,e⟩:=Zeh (U:=⟨P.G,P.GD,run P (n+(d+1)),P.L⟩) (e:=.call (O "_law_width") (.cons (.var 0) .nil)) (f:=fun s=>(s.size:Int)) t h (fun s hs h1=>by
     have:=Zeg hs;obtain ⟨g,e⟩:=ih n s h1 (by omega);refine ⟨g,?_⟩;have e':run P (n+(d+1)) (O "_law_width") [s.d] h1=.ok (.int s.size) (h1++g):=e;simp [e'])
   refine ⟨g++[.lst (t.parts.map fun s=>.int s.size)],?_⟩;rw [ZkB,Zn3];have sm:Zb4 P.GD .sum [.ref (h++g).length] (h++g++[.lst (t.parts.map fun s=>D.int s.size)])=.ok (.int (t.parts.map fun s=>(s.size:Int)).sum) (h++g++[.lst (t.parts.map fun s=>D.int s.size)]):=by
     simp only [Zb4,Zoh,lstOf,ZdP,Option.bind_some,ints_map];rfl
   simp at sm e;simp [Z3,Zc5,Zn,Zan,Zbp,e,sm]
end Gn
end
section
namespace Gn
open PySem L2 IV
variable {P:Pg}
theorem max2(x y:Nat):(if (1+(y:Int)) > 1+x then 1+(y:Int) else 1+x)=((max x y+1:Nat):Int):=by
 split<;>omega
theorem ZsE(t:T):ZcS (t.parts.map fun s=>1+(dep s:Int)) 0=dep t:=by
 cases t with
 | num n=>rfl
 | name x=>rfl
 | fn x e=>simp [T.parts,ZcS,dep];omega
 | rcc f x e=>simp [T.parts,ZcS,dep];omega
 | call f a=>simp only [T.parts,ZcS,dep,Op,Oy,List.foldl_cons,List.foldl_nil];rw [max2]
 | op w f a=>simp only [T.parts,ZcS,dep,Op,Oy,List.foldl_cons,List.foldl_nil];rw [max2]
 | iff c t e =>
   simp only [T.parts,ZcS,dep,Op,Oy,List.foldl_cons,List.foldl_nil];rw [max2];split<;>omega
theorem Zru (H:Mkr P):∀ (d n:Nat) (t:T) (h:Hd),dep t<=d->∃ g,run P (n+d+1) (O "_law_deep") [t.d] h=.ok (.int (dep t)) (h++g):=by
 have fin:∀ (t:T) (h g:Hd),Zld (.ref (h++g).length) (.int 0) (h++g++[.lst (t.parts.map fun s=>D.int (1+(dep s:Int)))])=.ok (.int (dep t)) (h++g++[.lst (t.parts.map fun s=>D.int (1+(dep s:Int)))]):=by
   intro t h g;have q:intsOf (t.parts.map fun s=>D.int (1+(dep s:Int)))=some (t.parts.map fun s=>1+(dep s:Int)):=ints_map (fun s=>1+(dep s:Int)) t.parts;simp only [Zld,lstOf,ZdP,Option.bind_some,q,Option.map_some,ZsE,ofO_some]
 intro d;induction d with
 | zero =>
   intro n t h hd;rw [Zc H.deep rfl];obtain ⟨g,e⟩:=Zeh (U:=⟨P.G,P.GD,run P (n+0),P.L⟩) (e:=.bin .Add (.cst (.int 1)) (.call (O "_law_deep") (.cons (.var 0) .nil))) (f:=fun s=>1+(dep s:Int)) t h (fun s hs=>by have:=Zeg hs;omega);refine ⟨g++[.lst (t.parts.map fun s=>.int (1+(dep s:Int)))],?_⟩;have sm:=fin t h g;rw [Zn3];simp at sm e;simp [Zaq,ZdN,Zn,Zan,Zbp,e,sm]
 | succ d ih =>
   intro n t h hd;rw [Zc H.deep rfl];obtain ⟨g,e⟩:=Zeh (U:=⟨P.G,P.GD,run P (n+(d+1)),P.L⟩) (e:=.bin .Add (.cst (.int 1)) (.call (O "_law_deep") (.cons (.var 0) .nil))) (f:=fun s=>1+(dep s:Int)) t h (fun s hs h1=>by
     have:=Zeg hs;obtain ⟨g,e⟩:=ih n s h1 (by omega);refine ⟨g,?_⟩;have e':run P (n+(d+1)) (O "_law_deep") [s.d] h1=.ok (.int (dep s)) (h1++g):=e;simp [e'])
   refine ⟨g++[.lst (t.parts.map fun s=>.int (1+(dep s:Int)))],?_⟩;have sm:=fin t h g;rw [Zn3];simp at sm e;simp [Zaq,ZdN,Zn,Zan,Zbp,e,sm]
theorem Zf8(H:Mkr P){n:Nat}{h:Hd}{k:Nat}{xs0:List D}(hk:h[k]? = some (.lst xs0)):∀ (xs:List Int) (j:Nat) (acc:List Int),acc.length+xs.length<=1000->j+xs.length<=1000->∃ cs:List Int,cs.length=acc.length+xs.length /\
   ZL (some (k,xs0)) (.two 0 1) (tsto ⟨P.G,P.GD,run P (n+1),P.L⟩ none) (ev ⟨P.G,P.GD,run P (n+1),P.L⟩ (.call (O "_law_mixed") (.cons (.var 1) (.cons (.bin .Add (.var 0) (.cst (.int 2))) .nil)))) (xs.mapIdx fun q x=>D.tup [.int ((q+j:Nat):Int),.int x]) [none,none] (acc.map .int) h
     = .ok (cs.map .int) h
 | [],j,acc,_,_=>⟨acc,by simp,by simp [ZL,Wk.stays,hk]⟩
 | x::xs,j,acc,h1,h2=>by
   simp only [Os] at h1 h2;obtain ⟨cs,q1,q2⟩:=Zf8 H hk xs (j+1) (acc++[mixed x ((j:Int)+2)]) (by simp;omega) (by omega);refine ⟨cs,by simp at q1;simp;omega,?_⟩;have e1:=Zhb H n x ((j:Int)+2) h ⟨by omega,by omega⟩;have hz:acc.length<sizeLine:=by rw [sizeLine_eq];omega
   have ei:(fun (q:Nat) (x:Int)=>D.tup [.int ((q+1+j:Nat):Int),.int x])=fun q x=>D.tup [.int ((q+(j+1):Nat):Int),.int x]:=by
     funext q x;rw [show q+1+j=q+(j+1) by omega]
   rw [List.mapIdx_cons,ZW];simp only [Wk.stays,hk,decide_true,true_and,List.length_map,hz,if_true,ZiZ,List.set_cons_zero,List.set_cons_succ,Zlk,ZlF,Zl,bind_ok,ZhC,Za9,Zef,ZhA,O0,OJ,Option.join_some,ofO_some,ZnX,Zj4,Zpw,Nat.zero_add,e1];rw [ei];have:=q2;rw [List.map_append] at this;exact this
end Gn
end
section
namespace IV
open PySem L2
section
variable {U:Tb}{S:Ev}{h h1 h2 h3:Hd}
theorem Zj2{m:Mf}{o:Ex}{es:Exs}{i:Nat}{ys xs:List D}{r:R D}(p:ev U o S h=.ok (.ref i) h1)(l:h1[i]? = some (.lst ys))(q:evs U es S h1=.ok xs h2)(e:Zbo m (.ref i) xs h2=r):ev U (.meth m o es) S h=r:=by rw [Zp3,p,Zl,Zex l,if_pos rfl,q];exact e
theorem ZgN{e:Ex}{d:D}(q:ev U e S h=.ok d h1):xs1 U (.drp e) S h=.ok (.nx,S) h1:=by rw [Zko,q];rfl
theorem Zba{C m:Str}{o:Ex}{es:Exs}{i:Nat}{fs:List (Str×D)}{xs:List D}{r:R D}(p:ev U o S h=.ok (.ref i) h1)(l:h1[i]? = some (.ins C fs))(f:fs.lookup m=none)(q:evs U es S h1=.ok xs h2)(e:U.C (mnm C m) (.ref i::xs) h2=r):ev U (.mcl C m o es) S h=r:=by
 rw [ZnV,p,Zl,show ZY (.ref i) h1=some (C,fs) by simp [ZY,l]];simp only [f,and_self,if_true,q];exact e
theorem ZqI{NC:List Str}{js:List (Option Nat)}{it:Ix}{g:Tg}{c:Option Tx}{e:Ex}{w:Wk}{xs:List D}(p:evi U it S h=.ok w h1)(q:ZL w.src g (tsto U c) (ev U e) w.xs (Zbp js S) [] h1=.ok xs h2):ev U (.comp NC js it g c e) S h=.ok (.ref h2.length) (h2++[.lst xs]):=by rw [Zfe,p,Zl,q];rfl
theorem Zsx{e:Ex}{xs:List D}(p:ev U e S h=.ok (.tup xs) h1):evi U (.rev e) S h=.ok ⟨none,xs.reverse⟩ h1:=by rw [Zp0,p];rfl
theorem Zhz{e:Ex}{xs:List D}(p:ev U e S h=.ok (.tup xs) h1):evi U (.pl e) S h=.ok ⟨none,xs⟩ h1:=by rw [Zsy,p];rfl
theorem Zj3{es:Exs}{xs:List D}(p:evs U es S h=.ok xs h1)(hz:xs.length<=1000):ev U (.lstl es) S h=.ok (.ref h1.length) (h1++[.lst xs]):=by rw [Zk5,p,Zl,if_pos (OE hz (by decide))];rfl
theorem Zqs{e:Ex}{i:Nat}{ys:List D}(p:ev U e S h=.ok (.ref i) h1)(l:h1[i]? = some (.lst ys)):tst U (.ex e) S h=.ok (!ys.isEmpty) h1:=by rw [Zg1,p,Zl,Zoz l];rfl
theorem ZdS{test:Ev->Hd->R Bool}{body:Ev->Hd->R (Fl×Ev)}{n:Nat}{ρ1:Ev}(e:test S h=.ok true h1)(q:body S h1=.ok (.nx,ρ1) h2):ZV test body (n+1) S h=ZV test body n ρ1 h2:=by rw [ZbO,e,Zl,if_pos rfl,q];rfl
theorem ZgZ{test:Ev->Hd->R Bool}{body:Ev->Hd->R (Fl×Ev)}{n:Nat}(e:test S h=.ok false h1):ZV test body (n+1) S h=.ok (.nx,S) h1:=by rw [ZbO,e];rfl
theorem Zss{a b:Ex}{x y:Int}(p:ev U a S h=.ok (.int x) h1)(q:ev U b S h1=.ok (.int y) h2):tst U (.ex (.cmp .Gt a b)) S h=.ok (decide (y<x)) h2:=Zez (ZJ p q)
theorem Zt8{a b:Ex}{x y:Int}(p:ev U a S h=.ok (.int x) h1)(q:ev U b S h1=.ok (.int y) h2):tst U (.ex (.cmp .Lt a b)) S h=.ok (decide (x<y)) h2:=Zez (ZJ p q)
theorem Zhx{g:Tg}{body:Ev->Hd->R (Fl×Ev)}{d:D}{ds:List D}{ρ1 ρ2:Ev}(b:ZbG g d S=some ρ1)(q:body ρ1 h=.ok (.nx,ρ2) h2):ZS none g body (d::ds) S h=ZS none g body ds ρ2 h2:=by rw [Zau,b];simp only;rw [q];rfl
theorem Zfj{test:Ev->Hd->R Bool}{body:Ev->Hd->R (Fl×Ev)}{n:Nat}{ρ1:Ev}{d:D}(e:test S h=.ok true h1)(q:body S h1=.ok (.rt d,ρ1) h2):ZV test body (n+1) S h=.ok (.rt d,ρ1) h2:=by rw [ZbO,e,Zl,if_pos rfl,q];rfl
theorem ZnJ{e:Ex}{x:D}(p:ev U e S h=.ok x h1):tst U (.ex (.cmp .IsNot e (.cst .non))) S h=.ok (!decide (x=.non)) h1:=Zez ((ZJ p rfl).trans Zne)
theorem Zsw{g:Tg}{body:Ev->Hd->R (Fl×Ev)}{d x:D}{ds:List D}{ρ1 ρ2:Ev}(b:ZbG g d S=some ρ1)(q:body ρ1 h=.ok (.rt x,ρ2) h2):ZS none g body (d::ds) S h=.ok (.rt x,ρ2) h2:=by rw [Zau,b];simp only;rw [q];rfl
variable {c:Str}
theorem ZcJ{s:Sx}{r:Sxs}(q:xs1 U s S h=.exc c h1):xs2 U (.cons s r) S h=.exc c h1:=by rw [xs2,q];rfl
theorem ZqK{e:Ex}(q:ev U e S h=.exc c h1):xs1 U (.drp e) S h=.exc c h1:=by rw [Zko,q];rfl
theorem Zmx{i:Nat}{e:Ex}(q:ev U e S h=.exc c h1):xs1 U (.set (.nm i) e) S h=.exc c h1:=by rw [Ze6,q];rfl
theorem Zts{e:Ex}{d:D}(q:ev U e S h=.ok d h1):xs1 U (.rai c e) S h=.exc c h1:=by rw [xs1,q];rfl
theorem Zos{test:Ev->Hd->R Bool}{body:Ev->Hd->R (Fl×Ev)}{n:Nat}(e:test S h=.ok true h1)(q:body S h1=.exc c h2):ZV test body (n+1) S h=.exc c h2:=by rw [ZbO,e,Zl,if_pos rfl,q];rfl
theorem Zuk{g:Tg}{body:Ev->Hd->R (Fl×Ev)}{d:D}{ds:List D}{ρ1:Ev}(b:ZbG g d S=some ρ1)(q:body ρ1 h=.exc c h2):ZS none g body (d::ds) S h=.exc c h2:=by rw [Zau,b];simp only;rw [q];rfl
theorem ZiM{a:Ex}{es:Exs}(p:ev U a S h=.exc c h1):evs U (.cons a es) S h=.exc c h1:=by rw [Za9,p];rfl
theorem Zf4{a:Ex}{es:Exs}{x:D}(p:ev U a S h=.ok x h1)(q:evs U es S h1=.exc c h2):evs U (.cons a es) S h=.exc c h2:=by rw [Za9,p,Zl,q];rfl
theorem Zk4{es:Exs}(p:evs U es S h=.exc c h1):ev U (.tupl es) S h=.exc c h1:=by rw [Zfd,p];rfl
theorem Zuq{C m:Str}{o:Ex}{es:Exs}{i:Nat}{fs:List (Str×D)}(p:ev U o S h=.ok (.ref i) h1)(l:h1[i]? = some (.ins C fs))(f:fs.lookup m=none)(q:evs U es S h1=.exc c h2):ev U (.mcl C m o es) S h=.exc c h2:=by
 rw [ZnV,p,Zl,show ZY (.ref i) h1=some (C,fs) by simp [ZY,l]];simp only [f,and_self,if_true,q];rfl
theorem Zq7{f:Str}{es:Exs}{i:Nat}{xs:List D}{d:D}(p:evs U es S h=.ok xs h1)(q:U.C f xs h1=.ok d h2):xs1 U (.trs i f es c) S h=.ok (.nx,S.set i (some d)) h2:=by rw [xs1,p];show Zga c i S (U.C f xs h1)=_;rw [q];rfl
theorem Zs6{f:Str}{es:Exs}{i:Nat}{xs:List D}(p:evs U es S h=.ok xs h1)(q:U.C f xs h1=.exc c h2):xs1 U (.trs i f es c) S h=.ok (.nx,S.set i (some .non)) h2:=by rw [xs1,p];show Zga c i S (U.C f xs h1)=_;rw [q];simp [Zga]
end
end IV
end
section
set_option tactic.hygienic false
namespace Gn
open PySem L2 IV
variable {P:Pg}{cs:List Int}{ns:List Str}{h h':Hd}{i j m:Nat}{a b:Int}
theorem Zom(H:Mkr P)(r N:Nat)(hN:2 * r+3<=N){k:Nat}{sc:Scp}(c:Ctx cs ns h i j m k sc a b)(w:Str)(room:Int)(hr:room<=r)(hl:sc.length+2 * r<=50)(ha:a+A r<2 ^ 50) :
   Made cs h i j sc a (A r) (3 * r+3) (run P N (O "_law_any") [.str w,.ref k,.ref i,.ref m,.int room] h):=by
 have:=Zok H r (N - (2 * r+3)) cs ns h i j m k sc a b w room hr c hl ha;rw [show N - (2 * r+3)+(2 * r+3)=N by omega] at this;exact this
theorem ZhX (H:Mkr P) (N:Nat) (t:T) (h:Hd) (hd:dep t<N):∃ g,run P N (O "_law_width") [t.d] h=.ok (.int t.size) (h++g):=by
 obtain ⟨g,e⟩:=ZkF H (dep t) (N - dep t - 1) t h (Oq _);rw [show N - dep t - 1+dep t+1=N by omega] at e;exact ⟨g,e⟩
theorem Zp8 (H:Mkr P) (N:Nat) (t:T) (h:Hd) (hd:dep t<N):∃ g,run P N (O "_law_deep") [t.d] h=.ok (.int (dep t)) (h++g):=by
 obtain ⟨g,e⟩:=Zru H (dep t) (N - dep t - 1) t h (Oq _);rw [show N - dep t - 1+dep t+1=N by omega] at e;exact ⟨g,e⟩
theorem Ctx.bare{k:Nat}{sc:Scp}(c:Ctx cs ns h i j m k sc a b):Ctx cs ns (h++[.lst []]) i j m h.length [] a b:=by
 have c1:=c.app (g:=[.lst []]);refine ⟨c1.st,c1.nm,c1.n5,c1.nok,c1.nd,by unfold Zmf;simp,by simp,c1.im,?_,c1.ab⟩;have:=ZK c.st.1;omega
noncomputable def vp(ro:D)(st:Int)(o2 o3 o4 o5 o6:Option D):Ev:=[some ro,some (.int st),o2,o3,o4,o5,o6]
noncomputable def ZpG:Sxs:=(.cons (.iff (.ex (.cmp .Lt (.call (O "_law_width") (.cons (.var 5) .nil)) (.cst (.int 50)))) (.cons (.put (.var 3) (.cst (.int 2)) (.cst (.int 12))) (.cons (.set (.nm 5) (.tupl (.cons (.cst (.str (O "+"))) (.cons (.var 5) (.cons (.call (O "_law_any") (.cons (.cst (.str (O "n"))) (.cons (.lstl .nil) (.cons (.var 3) (.cons (.var 4) (.cons (.cst (.int 6)) .nil)))))) .nil))))) .nil)) .nil) .nil)
inductive Turned(cs:List Int)(ns:List Str)(h:Hd)(i j m k:Nat)(sc:Scp)(a:Int)(dm:Nat)(S:Option D->Ev)(r:R (Fl×Ev)):Prop
 | mk (t:T) (h':Hd) (a' b':Int) (e:r=.ok (.nx,S (some t.d)) h') (c:Cl [] t) (d:dep t<=dm) (u:Up i h h') (x:Ctx cs ns h' i j m k sc a' b') (l:a'<=a+65536)
theorem turn(H:Mkr P){N:Nat}(hN:40<=N){k:Nat}{sc:Scp}(c:Ctx cs ns h i j m k sc a b){t:T}(ct:Cl [] t)(hd:dep t<=30)(ha:a<2 ^ 45)(ro:D)(st:Int)(o2 o6:Option D):Turned cs ns h i j m k sc a (max (dep t) 21+1) (fun o=>vp ro st o2 (some (.ref i)) (some (.ref m)) o o6)
   (xs2 (P.tbl N) ZpG (vp ro st o2 (some (.ref i)) (some (.ref m)) (some t.d) o6) h):=by
 have A6:A 6=16384:=by decide
 obtain ⟨g,ew⟩:=ZhX H N t h (by omega);have c1:=c.app (g:=g);have te:tst (P.tbl N) (.ex (.cmp .Lt (.call (O "_law_width") (.cons (.var 5) .nil)) (.cst (.int 50)))) (vp ro st o2 (some (.ref i)) (some (.ref m)) (some t.d) o6) h=.ok (decide ((t.size:Int)<50)) (h++g):=Zt8 (Zs ew rfl) rfl;by_cases hw:(t.size:Int)<50
 . have p1:ZbP (.ref i) (.int 2) (.int 12) (h++g)=.ok () ((h++g).set i (.lst [.ref j,.int a,.int 12])):=by
     simp only [ZbP,c1.st.1];rfl
   have s1:St3 ((h++g).set i (.lst [.ref j,.int a,.int 12])) i j cs a 12:=⟨by rw [Ol (ZK c1.st.1)],by rw [Oc c1.st.2.2];exact c1.st.2.1,c1.st.2.2⟩
   obtain ⟨h2,p1,u1,c2⟩:∃ h2,ZbP (.ref i) (.int 2) (.int 12) (h++g)=.ok () h2/\Up i h h2/\Ctx cs ns h2 i j m k sc a 12:=⟨_,p1,Up.app.trans Up.set,c1.up Up.set s1 c.ab⟩
   obtain ⟨t1,h3,a1,b1,e1,u3,s3,l1,l2,c3,p3⟩:=Zom H 6 N (by omega) c2.bare (O "n") 6 (by decide) (by simp) (by rw [A6];omega);have u4:=u1.trans ((Up.app (i:=i) (g:=[.lst []])).trans u3);have x1:xs1 (P.tbl N) (.put (.var 3) (.cst (.int 2)) (.cst (.int 12))) (vp ro st o2 (some (.ref i)) (some (.ref m)) (some t.d) o6) (h++g)=.ok (.nx,vp ro st o2 (some (.ref i)) (some (.ref m)) (some t.d) o6) h2:=by
     show R.bnd (ZbP (.ref i) (.int 2) (.int 12) (h++g)) _=_;rw [p1];rfl
   refine ⟨.op .add t t1,h3,a1,b1,?_,⟨ct,c3⟩,by simp only [dep];omega,u4,c.up u4 s3 (by have:=c.ab;omega),by rw [A6] at l2;omega⟩;refine (Za ((Zr (Zt te (decide_eq_true hw))).trans ((Za x1).trans ((Za (Zv (Zbi (Zd rfl (Zd rfl (Zd (Zs e1 (Zd rfl (Zd (Zj3 rfl (by simp)) rfl))) rfl))) (by simp)))).trans rfl)))).trans rfl
 . exact ⟨t,h++g,a,b,(Za ((Zx (Zt te (decide_eq_false hw))).trans rfl)).trans rfl,ct,by omega,Up.app,c1,by omega⟩
theorem Zty(zs:List Int)(st:Int)(hz:zs.length<=100):∃ ys:List Int,ys.length<=100/\∀ h:Hd,Zgj (.ro (zs.map D.int)) (some st) none h=.ok (.ref h.length) (h++[.lst (ys.map .int)]):=by
 refine ⟨(zs.drop (HT.sIx zs.length 0 (some st))).take (HT.sIx zs.length zs.length none - HT.sIx zs.length 0 (some st)),?_,fun h=>?_⟩
 . rw [List.length_take,List.length_drop];omega
 . show ZcI (.lst (cutD (zs.map D.int) (some st) none)) h=_;simp [cutD,List.map_drop,List.map_take]
inductive Begun(h:Hd)(S:Option D->Option D->Option D->Ev)(r:Sxs->R (Fl×Ev))(U:Tb):Prop
 | mk (cs:List Int) (ns:List Str) (h':Hd) (i j m:Nat) (e:∀ s,r s=xs2 U s (S (some (.ref j)) (some (.ref i)) (some (.ref m))) h') (c:Ctx cs ns (h'++[.lst []]) i j m h'.length [] 1 26) (l:h.length<=i) (u:Up i h h')
theorem ZrG(H:Mkr P){N:Nat}(hN:40<=N)(zs:List Int)(st:Int)(h:Hd)(hz:zs.length<=100):Begun h (fun o2 o3 o4=>vp (.ro (zs.map .int)) st o2 o3 o4 none none) (fun s=>xs2 (P.tbl N) (.cons Zam (.cons ZcH (.cons ZcG s))) (vp (.ro (zs.map .int)) st none none none none none) h) (P.tbl N):=by
 obtain ⟨N,rfl⟩:∃ N3,N=N3+2:=⟨N - 2,by omega⟩
 obtain ⟨ys,hyl,osl⟩:=Zty zs st hz;obtain ⟨cs,hcl,ec⟩:=Zf8 H (n:=N+1) (h:=h++[.lst (ys.map .int)]) (k:=h.length) (xs0:=ys.map .int) (by simp) ys 0 [] (by simp;omega) (by omega);have en:ZcD (ys.map D.int)=ys.mapIdx fun q x=>D.tup [.int ((q+0:Nat):Int),.int x]:=by
   unfold ZcD;apply List.ext_getElem?;intro q;simp [List.getElem?_mapIdx];cases ys[q]?<;>rfl
 have ei:evi (P.tbl (N+2)) (.enu (.sl (.var 0) (some (.var 1)) none)) (vp (.ro (zs.map .int)) st none none none none none) h=.ok ⟨some (h.length,ys.map .int),ZcD (ys.map D.int)⟩ (h++[.lst (ys.map .int)]):=by
   rw [Zp1,show ev (P.tbl (N+2)) (.sl (.var 0) (some (.var 1)) none) (vp (.ro (zs.map .int)) st none none none none none) h=.ok (.ref h.length) (h++[.lst (ys.map .int)]) from osl h,Zl];simp [Zkq]
 rw [<- en] at ec;have x1:xs1 (P.tbl (N+2)) Zam (vp (.ro (zs.map .int)) st none none none none none) h=.ok (.nx,vp (.ro (zs.map .int)) st (some (.ref (h++[DO.lst (ys.map .int)]).length)) none none none none) (h++[.lst (ys.map .int)]++[.lst (cs.map .int)]):=Zv (ZqI ei ec);generalize D.ro (zs.map .int)=ro at *;obtain ⟨h1,j,u1,k1,lj,x1⟩:∃ (h1:Hd) (j:Nat),Up h1.length h h1/\h1[j]? = some (.lst (cs.map .int))/\j<h1.length/\xs1 (P.tbl (N+2)) Zam (vp ro st none none none none none) h=.ok (.nx,vp ro st (some (.ref j)) none none none none) h1:=⟨_,_,Up.app.trans Up.app,ZdP,by simp,x1⟩
 have s2:St3 (h1++[.lst [.ref j,.int 0,.int 26]]) h1.length j cs 0 26:=⟨ZdP,by rw [Oe lj];exact k1,by omega⟩
 obtain ⟨v,e3,_⟩:=Zji H N s2 (by decide);rw [ZqE] at e3;obtain ⟨ns,n5,nok,nnd,e4⟩:=ZoR H (N+1) v (h1++[.lst [.ref j,.int 1,.int 26]]);have hle:=u1.1;refine ⟨cs,ns,h1++[.lst [.ref j,.int 1,.int 26]]++[.lst (ns.map .str)],h1.length,j,(h1++[DO.lst [.ref j,.int 1,.int 26]]).length,fun s=>?_,⟨⟨by simp,by simp [Oe lj,k1],by omega⟩,by simp,n5,nok,nnd,by unfold Zmf;simp,by simp,by simp,by simp,by decide⟩,hle,?_⟩
 . exact (Za x1).trans ((Za (Zv (Zj3 (Zd rfl (Zd rfl (Zd rfl rfl))) (by simp)))).trans ((Za (Zv (Zs e4 (Zd (Zs e3 rfl) rfl)))).trans rfl))
 . rw [Oz];exact ⟨by simp;omega,fun m a n=>by rw [Oe (by omega)];exact u1.2 m a n⟩
inductive Sixth(h:Hd)(i:Nat)(S:Option D->Ev)(r:R (Fl×Ev)):Prop
 | mk (t:T) (h':Hd) (e:r=.ok (.nx,S (some t.d)) h') (c:Cl [] t) (s:t.size<=100) (d:dep t<=20) (u:Up i h h')
theorem ZrF(H:Mkr P){N:Nat}(hN:40<=N){k:Nat}{sc:Scp}(c:Ctx cs ns h i j m k sc a b){t:T}(ct:Cl [] t)(hd:dep t<=26)(ha:a<2 ^ 50)(ro:D)(st:Int)(o2 o4 o6:Option D):Sixth h i (fun o=>vp ro st o2 (some (.ref i)) o4 o o6) (xs1 (P.tbl N) Zbk (vp ro st o2 (some (.ref i)) o4 (some t.d) o6) h):=by
 obtain ⟨g1,ew⟩:=ZhX H N t h (by omega);obtain ⟨g2,ed⟩:=Zp8 H N t (h++g1) (by omega);have tw:tst (P.tbl N) (.ex (.cmp .Gt (.call (O "_law_width") (.cons (.var 5) .nil)) (.cst (.int 100)))) (vp ro st o2 (some (.ref i)) o4 (some t.d) o6) h=.ok (decide ((100:Int)<t.size)) (h++g1):=Zss (Zs ew rfl) rfl;have td:tst (P.tbl N) (.ex (.cmp .Gt (.call (O "_law_deep") (.cons (.var 5) .nil)) (.cst (.int 20)))) (vp ro st o2 (some (.ref i)) o4 (some t.d) o6) (h++g1)=.ok (decide ((20:Int)<dep t)) (h++g1++g2):=Zss (Zs ed rfl) rfl;have plain:∀ {q:Sxs} (g:Hd),∃ t' h',xs2 (P.tbl N) (.cons (.set (.nm 5) (.call (O "_law_plain") (.cons (.cst (.str (O "n"))) (.cons (.call (O "_law_next") (.cons (.var 3) .nil)) .nil)))) .nil) (vp ro st o2 (some (.ref i)) o4 (some t.d) o6) (h++g)=.ok (.nx,vp ro st o2 (some (.ref i)) o4 (some (T.d t')) o6) h'/\Cl [] t'/\dep t'<=2/\t'.size<=4/\Up i h h':=fun g=>by
   obtain ⟨N,rfl⟩:∃ N3,N=N3+2:=⟨N - 2,by omega⟩
   obtain ⟨v,e8,_⟩:=Zji H N (c.app (g:=g)).st ⟨c.ab,ha⟩;obtain ⟨tp,gp,e9,q1,q2,q3⟩:=Zg9 H (N+1) (O "n") v ((h++g).set i (.lst [.ref j,.int (a+1),.int b])) [];exact ⟨tp,_,(Za (Zv (Zs e9 (Zd rfl (Zd (Zs e8 rfl) rfl))))).trans rfl,q1,q2,q3,(Up.app.trans Up.set).trans Up.app⟩
 by_cases hw:(100:Int)<t.size
 . obtain ⟨t',h',e,q1,q2,q3,u⟩:=plain (q:=.nil) g1;exact ⟨t',h',(Zr (ZtP (Zt tw (decide_eq_true hw)))).trans e,q1,by omega,by omega,u⟩
 . have tw':=Zt tw (decide_eq_false hw);by_cases hq:(20:Int)<dep t
   . obtain ⟨t',h',e,q1,q2,q3,u⟩:=plain (q:=.nil) (g1++g2);rw [<- Oz] at e;exact ⟨t',h',(Zr (Zna tw' (Zt td (decide_eq_true hq)))).trans e,q1,by omega,by omega,u⟩
   . exact ⟨t,_,(Zx (Zna tw' (Zt td (decide_eq_false hq)))).trans rfl,ct,by omega,by omega,Up.app.trans Up.app⟩
theorem Zlv (H:Mkr P) {N:Nat} (hN:40<=N) (zs:List Int) (st:Int) (h:Hd) (hz:zs.length<=100):∃ t h',run P (N+1) (O "_law_program") [.ro (zs.map .int),.int st] h=.ok (T.d t) h'/\Cl [] t/\t.size<=100/\dep t<=20/\h.length<=h'.length/\∀ q,q<h.length->h'[q]? = h[q]? := by
 rw [Ze8 H.program rfl];have A7:A 7=65536:=by decide
 cases ZrG H hN zs st h hz with
 | mk cs ns h3 i j m e3 c4 li u3 =>
 cases Zom H 7 N (by omega) c4 (O "n") 7 (by decide) (by decide) (by rw [A7];decide) with
 | mk t4 h4 a4 b4 e5 u4 s4 l1 l2 ct4 d4 =>
 rw [A7] at l2;cases turn H hN (c4.up u4 s4 (by omega)) ct4 (by omega) (by omega) (.ro (zs.map .int)) st (some (.ref j)) (some (.int 0)) with
 | mk t5 h5 a5 b5 e6 ct5 d5 u5 c6 l4 =>
 cases turn H hN c6 ct5 (by omega) (by omega) (.ro (zs.map .int)) st (some (.ref j)) (some (.int 1)) with
 | mk t6 h6 a6 b6 e7 ct6 d6 u6 c7 l6 =>
 cases ZrF H hN c7 ct6 (by omega) (by omega) (.ro (zs.map .int)) st (some (.ref j)) (some (.ref m)) (some (.int 1)) with
 | mk t hh x6 ct sz dt u =>
 have u8:=(u3.trans ((Up.app (i:=i) (g:=[.lst []])).trans ((u4.trans u5).trans u6))).trans u;refine ⟨t,hh,?_,ct,sz,dt,u8.1,fun q hq=>u8.2 q hq (by omega)⟩;have x5:xs1 (P.tbl N) Zbl (vp (.ro (zs.map .int)) st (some (.ref j)) (some (.ref i)) (some (.ref m)) (some t4.d) none) h4=.ok (.nx,vp (.ro (zs.map .int)) st (some (.ref j)) (some (.ref i)) (some (.ref m)) (some t6.d) (some (.int 1))) h6:=(ZdJ (w:=⟨none,[.int 0,.int 1]⟩) rfl).trans ((Zhx rfl e6).trans ((Zhx rfl e7).trans rfl));exact (congrArg Zh ((e3 (.cons ZcF (.cons Zbl (.cons Zbk (.cons ZcE .nil))))).trans ((Za (Zv (Zs e5 (Zd rfl (Zd (Zj3 rfl (by simp)) rfl))))).trans ((Za x5).trans ((Za x6).trans rfl))))).trans rfl
end Gn
end
section
namespace Rw
open PySem L2 IV Gn
noncomputable def Z6:Sxs:=(.cons (.forr (.two 2 3) (.pl (.var 1)) (.cons (.iff (.ex (.cmp .Eq (.var 2) (.var 0))) (.cons (.ret (.var 3)) .nil) .nil) .nil)) (.cons (.ret (.cst .non)) .nil))
noncomputable def Zas:Fd:=⟨[(O "name"),(O "around")],[(O "name"),(O "around"),(O "known"),(O "thing")],Z6⟩
noncomputable def Zcv:Sxs:=(.cons (.iff (.ex (.cmp .Eq (.ix (.var 0) (.cst (.int 0))) (.cst (.str (O "num"))))) (.cons (.ret (.var 0)) .nil) .nil) (.cons (.iff (.ex (.cmp .Eq (.ix (.var 0) (.cst (.int 0))) (.cst (.str (O "name"))))) (.cons (.ret (.call (O "bound_to") (.cons (.ix (.var 0) (.cst (.int 1))) (.cons (.var 1) .nil)))) .nil) .nil) (.cons (.ret (.tupl (.cons (.cst (.str (O "clo"))) (.cons (.var 0) (.cons (.var 1) .nil))))) .nil)))
noncomputable def Zby:Fd:=⟨[(O "E"),(O "around")],[(O "E"),(O "around")],Zcv⟩
noncomputable def ZgU:Sxs:=(.cons (.ret (.ix (.call (O "parts_of") (.cons (.ix (.var 0) (.cst (.int 1))) .nil)) (.cst (.int 0)))) .nil)
noncomputable def Zck:Fd:=⟨[(O "W")],[(O "W")],ZgU⟩
noncomputable def Zco:Sxs:=(.cons (.iff (.ex (.cmp .Eq (.ix (.ix (.var 0) (.cst (.int 1))) (.cst (.int 0))) (.cst (.str (O "fn"))))) (.cons (.ret (.bin .Add (.tupl (.cons (.tupl (.cons (.ix (.ix (.var 0) (.cst (.int 1))) (.cst (.int 1))) (.cons (.var 1) .nil))) .nil)) (.ix (.var 0) (.cst (.int 2))))) .nil) .nil) (.cons (.ret (.bin .Add (.tupl (.cons (.tupl (.cons (.ix (.ix (.var 0) (.cst (.int 1))) (.cst (.int 2))) (.cons (.var 1) .nil))) (.cons (.tupl (.cons (.ix (.ix (.var 0) (.cst (.int 1))) (.cst (.int 1))) (.cons (.var 0) .nil))) .nil))) (.ix (.var 0) (.cst (.int 2))))) .nil))
noncomputable def Zcj:Fd:=⟨[(O "W"),(O "V")],[(O "W"),(O "V")],Zco⟩
noncomputable def Zal:Sxs:=(.cons (.iff (.ex (.cmp .Is (.var 0) (.cst .non))) (.cons (.ret (.tupl (.cons (.cst (.str (O "stuck"))) .nil))) .nil) .nil) (.cons (.ret (.tupl (.cons (.cst (.str (O "loud"))) (.cons (.var 0) .nil)))) .nil))
noncomputable def ZZ:Fd:=⟨[(O "state")],[(O "state")],Zal⟩
noncomputable def Zda:Sxs:=(.cons (.iff (.ex (.cmp .NotEq (.ix (.var 0) (.cst (.int 0))) (.cst (.str (O "num"))))) (.cons (.ret (.cst .non)) .nil) .nil) (.cons (.ret (.ite (.ex (.cmp .Eq (.ix (.var 0) (.cst (.int 1))) (.cst (.int 0)))) (.var 2) (.var 1))) .nil))
noncomputable def ZaI:Fd:=⟨[(O "C"),(O "T"),(O "E")],[(O "C"),(O "T"),(O "E")],Zda⟩
noncomputable def ZC:Sxs:=(.cons (.iff (.ors (.cons (.ex (.cmp .NotEq (.ix (.var 1) (.cst (.int 0))) (.cst (.str (O "num"))))) (.one (.ex (.cmp .NotEq (.ix (.var 2) (.cst (.int 0))) (.cst (.str (O "num")))))))) (.cons (.ret (.cst .non)) .nil) .nil) (.cons (.iff (.ex (.cmp .Eq (.var 0) (.cst (.str (O "<"))))) (.cons (.ret (.tupl (.cons (.cst (.str (O "num"))) (.cons (.ite (.ex (.cmp .Lt (.ix (.var 1) (.cst (.int 1))) (.ix (.var 2) (.cst (.int 1))))) (.cst (.int 1)) (.cst (.int 0))) .nil)))) .nil) .nil) (.cons (.iff (.ex (.cmp .Eq (.var 0) (.cst (.str (O "+"))))) (.cons (.ret (.tupl (.cons (.cst (.str (O "num"))) (.cons (.bin .Mod (.bin .Add (.ix (.var 1) (.cst (.int 1))) (.ix (.var 2) (.cst (.int 1)))) (.glo (O "BEYOND"))) .nil)))) .nil) .nil) (.cons (.iff (.ex (.cmp .Eq (.var 0) (.cst (.str (O "-"))))) (.cons (.ret (.tupl (.cons (.cst (.str (O "num"))) (.cons (.bin .Mod (.bin .Sub (.ix (.var 1) (.cst (.int 1))) (.ix (.var 2) (.cst (.int 1)))) (.glo (O "BEYOND"))) .nil)))) .nil) .nil) (.cons (.ret (.tupl (.cons (.cst (.str (O "num"))) (.cons (.bin .Mod (.bin .Mult (.ix (.var 1) (.cst (.int 1))) (.ix (.var 2) (.cst (.int 1)))) (.glo (O "BEYOND"))) .nil)))) .nil)))))
noncomputable def Za4:Fd:=⟨[(O "word"),(O "first"),(O "second")],[(O "word"),(O "first"),(O "second")],ZC⟩
noncomputable def ZhK:Sxs:=(.cons (.ret (.tupl (.cons (.cst (.str (O "go"))) (.cons (.var 0) (.cons (.tupl .nil) (.cons (.tupl .nil) .nil)))))) .nil)
noncomputable def ZaE:Fd:=⟨[(O "E")],[(O "E")],ZhK⟩
noncomputable def Zgg:Sxs:=(.cons (.iff (.ex (.cmp .Eq (.ix (.var 0) (.cst (.int 0))) (.cst (.str (O "call"))))) (.cons (.ret (.tupl (.cons (.cst (.str (O "arg"))) (.cons (.ix (.var 0) (.cst (.int 2))) (.cons (.var 1) .nil))))) .nil) .nil) (.cons (.iff (.ex (.cmp .Eq (.ix (.var 0) (.cst (.int 0))) (.cst (.str (O "if"))))) (.cons (.ret (.tupl (.cons (.cst (.str (O "if"))) (.cons (.ix (.var 0) (.cst (.int 2))) (.cons (.ix (.var 0) (.cst (.int 3))) (.cons (.var 1) .nil)))))) .nil) .nil) (.cons (.ret (.tupl (.cons (.cst (.str (O "right"))) (.cons (.ix (.var 0) (.cst (.int 0))) (.cons (.ix (.var 0) (.cst (.int 2))) (.cons (.var 1) .nil)))))) .nil)))
noncomputable def Z2:Fd:=⟨[(O "E"),(O "around")],[(O "E"),(O "around")],Zgg⟩
noncomputable def ZhS:Sxs:=(.cons (.iff (.ex (.cmp .In (.ix (.var 0) (.cst (.int 0))) (.glo (O "AT_ONCE")))) (.cons (.ret (.tupl (.cons (.cst (.str (O "back"))) (.cons (.call (O "thing_of") (.cons (.var 0) (.cons (.var 1) .nil))) (.cons (.var 2) .nil))))) .nil) .nil) (.cons (.ret (.tupl (.cons (.cst (.str (O "go"))) (.cons (.ix (.var 0) (.cst (.int 1))) (.cons (.var 1) (.cons (.bin .Add (.tupl (.cons (.call (O "left_waiting") (.cons (.var 0) (.cons (.var 1) .nil))) .nil)) (.var 2)) .nil)))))) .nil))
noncomputable def Zf3:Fd:=⟨[(O "E"),(O "around"),(O "rest")],[(O "E"),(O "around"),(O "rest")],ZhS⟩
noncomputable def Zdo:Sxs:=(.cons (.iff (.ex (.cmp .Eq (.ix (.var 1) (.cst (.int 0))) (.cst (.str (O "num"))))) (.cons (.ret (.cst .non)) .nil) .nil) (.cons (.ret (.tupl (.cons (.cst (.str (O "go"))) (.cons (.call (O "body_of") (.cons (.var 1) .nil)) (.cons (.call (O "entered") (.cons (.var 1) (.cons (.var 0) .nil))) (.cons (.var 2) .nil)))))) .nil))
noncomputable def Zcl:Fd:=⟨[(O "V"),(O "W"),(O "rest")],[(O "V"),(O "W"),(O "rest")],Zdo⟩
noncomputable def Za0:Sxs:=(.cons (.set (.nm 3) (.call (O "chosen") (.cons (.var 0) (.cons (.ix (.var 1) (.cst (.int 1))) (.cons (.ix (.var 1) (.cst (.int 2))) .nil))))) (.cons (.iff (.ex (.cmp .Is (.var 3) (.cst .non))) (.cons (.ret (.cst .non)) .nil) .nil) (.cons (.ret (.tupl (.cons (.cst (.str (O "go"))) (.cons (.var 3) (.cons (.ix (.var 1) (.cst (.int 3))) (.cons (.var 2) .nil)))))) .nil)))
noncomputable def Zci:Fd:=⟨[(O "V"),(O "wait"),(O "rest")],[(O "V"),(O "wait"),(O "rest"),(O "E")],Za0⟩
noncomputable def Zat:Sxs:=(.cons (.set (.nm 3) (.call (O "worked") (.cons (.ix (.var 1) (.cst (.int 1))) (.cons (.ix (.var 1) (.cst (.int 2))) (.cons (.var 0) .nil))))) (.cons (.iff (.ex (.cmp .Is (.var 3) (.cst .non))) (.cons (.ret (.cst .non)) .nil) .nil) (.cons (.ret (.tupl (.cons (.cst (.str (O "back"))) (.cons (.var 3) (.cons (.var 2) .nil))))) .nil)))
noncomputable def Zbz:Fd:=⟨[(O "V"),(O "wait"),(O "rest")],[(O "V"),(O "wait"),(O "rest"),(O "N")],Zat⟩
noncomputable def ZH:Sxs:=(.cons (.iff (.ex (.cmp .Eq (.ix (.var 1) (.cst (.int 0))) (.cst (.str (O "fun"))))) (.cons (.set (.nm 3) (.call (O "applied") (.cons (.var 0) (.cons (.ix (.var 1) (.cst (.int 1))) (.cons (.var 2) .nil))))) .nil) (.cons (.iff (.ex (.cmp .Eq (.ix (.var 1) (.cst (.int 0))) (.cst (.str (O "if"))))) (.cons (.set (.nm 3) (.call (O "gone_on") (.cons (.var 0) (.cons (.var 1) (.cons (.var 2) .nil))))) .nil) (.cons (.set (.nm 3) (.call (O "reckoned") (.cons (.var 0) (.cons (.var 1) (.cons (.var 2) .nil))))) .nil)) .nil)) (.cons (.ret (.call (O "loud_or_stuck") (.cons (.var 3) .nil))) .nil))
noncomputable def Za7:Fd:=⟨[(O "V"),(O "wait"),(O "rest")],[(O "V"),(O "wait"),(O "rest"),(O "state")],ZH⟩
noncomputable def Zp:Sxs:=(.cons (.iff (.nt (.ex (.var 1))) (.cons (.ret (.tupl (.cons (.cst (.str (O "value"))) .nil))) .nil) .nil) (.cons (.set (.nm 2) (.ix (.var 1) (.cst (.int 0)))) (.cons (.iff (.ex (.cmp .Eq (.ix (.var 2) (.cst (.int 0))) (.cst (.str (O "arg"))))) (.cons (.ret (.tupl (.cons (.cst (.str (O "quiet"))) (.cons (.tupl (.cons (.cst (.str (O "go"))) (.cons (.ix (.var 2) (.cst (.int 1))) (.cons (.ix (.var 2) (.cst (.int 2))) (.cons (.bin .Add (.tupl (.cons (.tupl (.cons (.cst (.str (O "fun"))) (.cons (.var 0) .nil))) .nil)) (.sl (.var 1) (some (.cst (.int 1))) none)) .nil))))) .nil)))) .nil) .nil) (.cons (.iff (.ex (.cmp .Eq (.ix (.var 2) (.cst (.int 0))) (.cst (.str (O "right"))))) (.cons (.ret (.tupl (.cons (.cst (.str (O "quiet"))) (.cons (.tupl (.cons (.cst (.str (O "go"))) (.cons (.ix (.var 2) (.cst (.int 2))) (.cons (.ix (.var 2) (.cst (.int 3))) (.cons (.bin .Add (.tupl (.cons (.tupl (.cons (.cst (.str (O "left"))) (.cons (.ix (.var 2) (.cst (.int 1))) (.cons (.var 0) .nil)))) .nil)) (.sl (.var 1) (some (.cst (.int 1))) none)) .nil))))) .nil)))) .nil) .nil) (.cons (.ret (.call (O "loud_step") (.cons (.var 0) (.cons (.var 2) (.cons (.sl (.var 1) (some (.cst (.int 1))) none) .nil))))) .nil)))))
noncomputable def Za8:Fd:=⟨[(O "V"),(O "rest")],[(O "V"),(O "rest"),(O "wait")],Zp⟩
noncomputable def Zbb:Sxs:=(.cons (.iff (.ex (.cmp .Eq (.ix (.var 0) (.cst (.int 0))) (.cst (.str (O "go"))))) (.cons (.ret (.tupl (.cons (.cst (.str (O "quiet"))) (.cons (.call (O "gone") (.cons (.ix (.var 0) (.cst (.int 1))) (.cons (.ix (.var 0) (.cst (.int 2))) (.cons (.ix (.var 0) (.cst (.int 3))) .nil)))) .nil)))) .nil) .nil) (.cons (.ret (.call (O "back_step") (.cons (.ix (.var 0) (.cst (.int 1))) (.cons (.ix (.var 0) (.cst (.int 2))) .nil)))) .nil))
noncomputable def Za5:Fd:=⟨[(O "state")],[(O "state")],Zbb⟩
mutual
inductive Th where
 | num (n:Int)|clo (E:T) (ar:Ar)
inductive Ar where
 | nil|cons (x:Str) (v:Th) (r:Ar)
end
mutual
noncomputable def Th.d:Th->D
 | .num n=>.tup [.str (O "num"),.int n]
 | .clo E ar=>.tup [.str (O "clo"),E.d,.tup ar.ds]
noncomputable def Ar.ds:Ar->List D
 | .nil=>[]
 | .cons x v r=>.tup [.str x,v.d]::r.ds
end
inductive Wt where
 | arg (A:T) (ar:Ar)|fn (V:Th)|iff (t e:T) (ar:Ar)|right (w:Wd) (F:T) (ar:Ar)|left (w:Wd) (V:Th)
noncomputable def Wt.d:Wt->D
 | .arg A ar=>.tup [.str (O "arg"),A.d,.tup ar.ds]
 | .fn V=>.tup [.str (O "fun"),V.d]
 | .iff t e ar=>.tup [.str (O "if"),t.d,e.d,.tup ar.ds]
 | .right w F ar=>.tup [.str (O "right"),.str w.s,F.d,.tup ar.ds]
 | .left w V=>.tup [.str (O "left"),.str w.s,V.d]
inductive Sta where
 | go (E:T) (ar:Ar) (rest:List Wt)|back (V:Th) (rest:List Wt)
noncomputable def Sta.d:Sta->D
 | .go E ar rest=>.tup [.str (O "go"),E.d,.tup ar.ds,.tup (rest.map Wt.d)]
 | .back V rest=>.tup [.str (O "back"),V.d,.tup (rest.map Wt.d)]
inductive Ans where
 | quiet (s:Sta)|loud (s:Sta)|value|stuck
noncomputable def Ans.d:Ans->D
 | .quiet s=>.tup [.str (O "quiet"),s.d]
 | .loud s=>.tup [.str (O "loud"),s.d]
 | .value=>.tup [.str (O "value")]
 | .stuck=>.tup [.str (O "stuck")]
noncomputable def Ar.get(x:Str):Ar->Option Th
 | .nil=>none
 | .cons y v r=>if y=x then some v else r.get x
noncomputable def Ar.len:Ar->Nat
 | .nil=>0
 | .cons _ _ r=>r.len+1
theorem Ar.ds_len:∀ ar:Ar,ar.ds.length=ar.len
 | .nil=>by simp [Ar.ds,Ar.len]
 | .cons x v r=>by simp [Ar.ds,Ar.len,Ar.ds_len r]
noncomputable def thD:Option Th->D
 | none=>.non
 | some v=>v.d
structure Thg(P:Pg):Prop extends Gen P where
 bound_to:P.tb.lookup (O "bound_to")=some Zas
 thing_of:P.tb.lookup (O "thing_of")=some Zby
 body_of:P.tb.lookup (O "body_of")=some Zck
 entered:P.tb.lookup (O "entered")=some Zcj
 loud_or_stuck:P.tb.lookup (O "loud_or_stuck")=some ZZ
 chosen:P.tb.lookup (O "chosen")=some ZaI
 worked:P.tb.lookup (O "worked")=some Za4
 once:P.G (O "AT_ONCE")=some (.tup [.str (O "num"),.str (O "name"),.str (O "fn"),.str (O "rec")])
 beyond:P.G (O "BEYOND")=some (.int 1000000)
structure Row0(P:Pg):Prop extends Thg P where
 rows_begun:P.tb.lookup (O "rows_begun")=some ZaE
 left_waiting:P.tb.lookup (O "left_waiting")=some Z2
 gone:P.tb.lookup (O "gone")=some Zf3
 applied:P.tb.lookup (O "applied")=some Zcl
 gone_on:P.tb.lookup (O "gone_on")=some Zci
 reckoned:P.tb.lookup (O "reckoned")=some Zbz
 loud_step:P.tb.lookup (O "loud_step")=some Za7
 back_step:P.tb.lookup (O "back_step")=some Za8
 rows_step:P.tb.lookup (O "rows_step")=some Za5
variable {P:Pg}{h:Hd}
theorem ZkU{U:Tb}{x:Str}{A:Option D}:∀ (ar:Ar) (k v:Option D),∃ k' v',ZS none (.two 2 3) (xs2 U (.cons (.iff (.ex (.cmp .Eq (.var 2) (.var 0))) (.cons (.ret (.var 3)) .nil) .nil) .nil)) ar.ds [some (.str x),A,k,v] h
     = match ar.get x with
       | some th=>.ok (.rt th.d,[some (.str x),A,k',v']) h
       | none=>.ok (.nx,[some (.str x),A,k',v']) h
 | .nil,k,v=>⟨k,v,rfl⟩
 | .cons y th r,k,v=>by
   by_cases e:y=x
   . refine ⟨some (.str y),some th.d,?_⟩;rw [Ar.ds,Zau];simp [Ar.get,e]
   . obtain ⟨k',v',q⟩:=ZkU (U:=U) (x:=x) (A:=A) r (some (.str y)) (some th.d);refine ⟨k',v',?_⟩;rw [Ar.ds,Zau];simp [Ar.get,e,q]
theorem Zhd (H:Thg P) (n:Nat) (x:Str) (ar:Ar):run P (n+1) (O "bound_to") [.str x,.tup ar.ds] h=.ok (thD (ar.get x)) h:=by
 rw [Zc H.bound_to rfl];obtain ⟨k',v',q⟩:=ZkU (h:=h) (U:=⟨P.G,P.GD,run P n,P.L⟩) (x:=x) (A:=some (.tup ar.ds)) ar none none;cases e:ar.get x with
 | none =>
   rw [e] at q;show Zh (xs2 (P.tbl n) Z6 [some (.str x),some (.tup ar.ds),none,none] h)=_;rw [nx1 (U:=P.tbl n) (ss:=Z6) (ρ1:=[some (.str x),some (.tup ar.ds),k',v']) (h2:=h) ((ZdJ rfl).trans q) rfl];rfl
 | some th =>
   rw [e] at q;exact rt1 (U:=P.tbl n) (ss:=Z6) (S:=[some (.str x),some (.tup ar.ds),none,none]) ((ZdJ rfl).trans q) rfl
theorem ZfH (H:Thg P) (n:Nat) (V:Th) (T E:D):run P (n+1) (O "chosen") [V.d,T,E] h=.ok (match V with|.num z=>if z=0 then E else T|_=>.non) h:=by
 rw [Zc H.chosen (by cases V<;>rfl)];cases V with
 | num z=>by_cases e:z=0<;>simp [ZaI,Zda,Zn,Th.d,e]
 | clo E ar=>exact rfl
noncomputable def wk(w:Wd)(a b:Int):Int:=match w with
 | .lt=>if a<b then 1 else 0
 | .add=>(a+b) % 1000000
 | .sub=>(a - b) % 1000000
 | .mul=>a * b % 1000000
noncomputable def wkD(w:Wd):Th->Th->D
 | .num a,.num b=>(Th.num (wk w a b)).d
 | _,_=>.non
theorem worked_nn (hw:P.tb.lookup (O "worked")=some Za4) (hb:P.G (O "BEYOND")=some (.int 1000000)) (n:Nat) (w:Wd) {x y:Int} (hx:0<=x/\x<1000000) (hy:0<=y/\y<1000000):run P (n+1) (O "worked") [.str w.s,(T.num x).d,(T.num y).d] h=.ok (T.num (wk w x y)).d h:=by
 rw [Zc hw (by rfl)];have gb:∀ S,ev (P.tbl n) (.glo (O "BEYOND")) S h=.ok (.int 1000000) h:=fun S=>by
   show R.ofO (P.G (O "BEYOND")) h=_;rw [hb];rfl
 have m2:opB .Mult (.int x) (.int y) h=.ok (.int (x * y)) h:=Zd7 ⟨Z0 (by omega) (by omega),Z0 (by omega) (by omega)⟩;have fin:∀ (S:Ev) (e:Ex) (z:Int),ev (P.tbl n) e S h=.ok (.int z) h->xs1 (P.tbl n) (.ret (.tupl (.cons (.cst (.str (O "num"))) (.cons (.bin .Mod e (.glo (O "BEYOND"))) .nil)))) S h=.ok (.rt (T.num (z % 1000000)).d,S) h:=fun S e z q =>
   ZA (Zbi (Zd rfl (Zd ((ZaL q (gb S)).trans (ZO (by decide))) rfl)) (by simp))
 show Zh (xs2 (P.tbl n) ZC [some (.str w.s),some (T.num x).d,some (T.num y).d] h)=_;rw [nx1 (U:=P.tbl n) (ss:=ZC) (ρ1:=[some (.str w.s),some (T.num x).d,some (T.num y).d]) (h2:=h) rfl rfl];cases w with
 | lt=>by_cases e:x<y<;>simp [ZC,tlS,T.d,Wd.s,wk,e,sizeLine_eq]
 | add =>
   rw [nx1 (U:=P.tbl n) (ss:=tlS ZC) (ρ1:=[some (.str Wd.add.s),some (T.num x).d,some (T.num y).d]) (h2:=h) rfl rfl];exact rt1 (U:=P.tbl n) (ss:=tlS (tlS ZC)) ((Zr rfl).trans (Ze (fin _ _ (x+y) rfl))) rfl
 | sub =>
   rw [nx1 (U:=P.tbl n) (ss:=tlS ZC) (ρ1:=[some (.str Wd.sub.s),some (T.num x).d,some (T.num y).d]) (h2:=h) rfl rfl,nx1 (U:=P.tbl n) (ss:=tlS (tlS ZC)) (ρ1:=[some (.str Wd.sub.s),some (T.num x).d,some (T.num y).d]) (h2:=h) rfl rfl];exact rt1 (U:=P.tbl n) (ss:=tlS (tlS (tlS ZC))) ((Zr rfl).trans (Ze (fin _ _ (x - y) rfl))) rfl
 | mul =>
   rw [nx1 (U:=P.tbl n) (ss:=tlS ZC) (ρ1:=[some (.str Wd.mul.s),some (T.num x).d,some (T.num y).d]) (h2:=h) rfl rfl,nx1 (U:=P.tbl n) (ss:=tlS (tlS ZC)) (ρ1:=[some (.str Wd.mul.s),some (T.num x).d,some (T.num y).d]) (h2:=h) rfl rfl,nx1 (U:=P.tbl n) (ss:=tlS (tlS (tlS ZC))) (ρ1:=[some (.str Wd.mul.s),some (T.num x).d,some (T.num y).d]) (h2:=h) rfl rfl];exact rt1 (U:=P.tbl n) (ss:=tlS (tlS (tlS (tlS ZC)))) (fin _ _ (x * y) m2) rfl
theorem ZfG(H:Thg P)(n:Nat)(w:Wd)(V W:Th)(hv:∀ z,V=.num z->0<=z/\z<1000000)(hw:∀ z,W=.num z->0<=z/\z<1000000) :
   run P (n+1) (O "worked") [.str w.s,V.d,W.d] h=.ok (wkD w V W) h:=by
 cases V with
 | clo E ar=>rw [Zc H.worked (by cases W<;>rfl)];exact rfl
 | num a =>
   cases W with
   | clo E ar=>rw [Zc H.worked (by rfl)];exact rfl
   | num b=>exact worked_nn H.worked H.beyond n w (hv a rfl) (hw b rfl)
end Rw
end
section
namespace Rw
open PySem L2 IV Gn
variable {P:Pg}{h:Hd}
noncomputable def isFn:T->Bool
 | .fn _ _|.rcc _ _ _=>true
 | _=>false
noncomputable def Ar.keys:Ar->List Str
 | .nil=>[]
 | .cons x _ r=>x::r.keys
theorem Ar.get_some{x:Str}:∀ {ar:Ar},x∈ar.keys->∃ v,ar.get x=some v
 | .nil,h=>by simp [Ar.keys] at h
 | .cons y v r,h=>by
   by_cases e:y=x
   . exact ⟨v,by simp [Ar.get,e]⟩
   . have:x∈r.keys:=by
       simp [Ar.keys] at h;rcases h with z|z
       . exact absurd z.symm e
       . exact z
     obtain ⟨u,q⟩:=Ar.get_some this;exact ⟨u,by simp [Ar.get,e,q]⟩
mutual
noncomputable def ZeD:Th->Prop
 | .num n=>0<=n/\n<1000000
 | .clo E ar=>isFn E=true/\Cl ar.keys E/\ArOk ar
noncomputable def ArOk:Ar->Prop
 | .nil=>True
 | .cons _ v r=>ZeD v/\ArOk r
end
noncomputable def thing(E:T)(ar:Ar):Option Th:=match E with
 | .num n=>some (.num n)
 | .name x=>ar.get x
 | .fn x e=>some (.clo (.fn x e) ar)
 | .rcc f x e=>some (.clo (.rcc f x e) ar)
 | _=>none
noncomputable def step:Sta->Ans
 | .go E ar rest=>match E with
   | .call F A=>.quiet (.go F ar (.arg A ar::rest))
   | .iff C t e=>.quiet (.go C ar (.iff t e ar::rest))
   | .op w x y=>.quiet (.go x ar (.right w y ar::rest))
   | E=>match thing E ar with
     | some v=>.quiet (.back v rest)
     | none=>.stuck
 | .back V rest=>match rest with
   | []=>.value
   | .arg A ar::r=>.quiet (.go A ar (.fn V::r))
   | .right w F ar::r=>.quiet (.go F ar (.left w V::r))
   | .fn W::r=>match W with
     | .clo (.fn x e) ar=>.loud (.go e (.cons x V ar) r)
     | .clo (.rcc f x e) ar=>.loud (.go e (.cons x V (.cons f (.clo (.rcc f x e) ar) ar)) r)
     | _=>.stuck
   | .iff t e ar::r=>match V with
     | .num z=>.loud (.go (if z=0 then e else t) ar r)
     | _=>.stuck
   | .left w W::r=>match W,V with
     | .num a,.num b=>.loud (.back (.num (wk w a b)) r)
     | _,_=>.stuck
theorem ZoP (H:Thg P) (n:Nat) (E:T) (ar:Ar) (v:Th) (e:thing E ar=some v):run P (n+2) (O "thing_of") [E.d,.tup ar.ds] h=.ok v.d h:=by
 rw [Zc H.thing_of (by cases E<;>rfl)];cases E with
 | num z=>cases e;exact rfl
 | name x =>
   have q:=Zhd H n (h:=h) x ar;rw [show ar.get x=some v from e] at q;show Zh (xs2 (P.tbl (n+1)) Zcv [some (T.name x).d,some (.tup ar.ds)] h)=_;rw [nx1 (U:=P.tbl (n+1)) (ss:=Zcv) (ρ1:=[some (T.name x).d,some (.tup ar.ds)]) (h2:=h) rfl rfl];exact rt1 (U:=P.tbl (n+1)) (ss:=tlS Zcv) (Zj q rfl rfl) rfl
 | fn x b=>cases e;exact rfl
 | rcc f x b=>cases e;exact rfl
 | _=>cases e
theorem Zpy (w:Str):opC P.GD .In (.str w) (.tup [.str (O "num"),.str (O "name"),.str (O "fn"),.str (O "rec")]) h=.ok (.bl (decide (w∈[O "num",O "name",O "fn",O "rec"]))) h :=
 Zd6 (ss:=[O "num",O "name",O "fn",O "rec"])
theorem Zjk (H:Row0 P) (n:Nat) (E:T) (ar:Ar) (w:Wt) (e:(∃ F A,E=.call F A/\w=.arg A ar)\/(∃ C t f,E=.iff C t f/\w=.iff t f ar)\/∃ o x y,E=.op o x y/\w=.right o y ar):run P (n+1) (O "left_waiting") [E.d,.tup ar.ds] h=.ok w.d h:=by
 rw [Zc H.left_waiting (by cases E<;>rfl)];rcases e with ⟨F,A,rfl,rfl⟩|⟨C,t,f,rfl,rfl⟩|⟨o,x,y,rfl,rfl⟩
 . exact rfl
 . exact rfl
 . cases o<;>exact rfl
theorem ZsG(d:D)(ds:List D)(hz:ds.length<=1000000):opB .Add (.tup [d]) (.tup ds) h=.ok (.tup (d::ds)) h:=Zdi (by rw [sizeLine_eq];simp;omega)
noncomputable def gn1:Tx:=(.ex (.cmp .In (.ix (.var 0) (.cst (.int 0))) (.glo (O "AT_ONCE"))))
noncomputable def gn2:Ex:=(.tupl (.cons (.cst (.str (O "back"))) (.cons (.call (O "thing_of") (.cons (.var 0) (.cons (.var 1) .nil))) (.cons (.var 2) .nil))))
noncomputable def gn3:Ex:=(.tupl (.cons (.cst (.str (O "go"))) (.cons (.ix (.var 0) (.cst (.int 1))) (.cons (.var 1) (.cons (.bin .Add (.tupl (.cons (.call (O "left_waiting") (.cons (.var 0) (.cons (.var 1) .nil))) .nil)) (.var 2)) .nil)))))
theorem Zk1:ZhS=.cons (.iff gn1 (.cons (.ret gn2) .nil) .nil) (.cons (.ret gn3) .nil):=rfl
theorem Zrt (H:Row0 P) (n:Nat) (E:T) (ar:Ar) (rest:List Wt) (hc:Cl ar.keys E) (hz:rest.length<=1000000):∃ s,step (.go E ar rest)=.quiet s/\run P (n+3) (O "gone") [E.d,.tup ar.ds,.tup (rest.map Wt.d)] h=.ok s.d h:=by
 rw [Zc H.gone (by cases E<;>rfl)];have ts:∀ (x:Str) (ds:List D),E.d=.tup (.str x::ds)->tst (P.tbl (n+2)) gn1 [some E.d,some (.tup ar.ds),some (.tup (rest.map Wt.d))] h=.ok (decide (x∈[O "num",O "name",O "fn",O "rec"])) h:=fun x ds e=>by
   have q:ev (P.tbl (n+2)) (.glo (O "AT_ONCE")) [some E.d,some (.tup ar.ds),some (.tup (rest.map Wt.d))] h=.ok (.tup [.str (O "num"),.str (O "name"),.str (O "fn"),.str (O "rec")]) h:=by
     show R.ofO (P.G (O "AT_ONCE")) h=_;rw [H.once];rfl
   rw [e] at q ⊢;exact Zez ((ZJ ZcV q).trans (Zpy x))
 have ret:∀ v,thing E ar=some v->tst (P.tbl (n+2)) gn1 [some E.d,some (.tup ar.ds),some (.tup (rest.map Wt.d))] h=.ok true h->Zh (xs2 (P.tbl (n+2)) ZhS [some E.d,some (.tup ar.ds),some (.tup (rest.map Wt.d))] h)=.ok (Sta.back v rest).d h:=fun v e q=>by
   have e2:ev (P.tbl (n+2)) gn2 [some E.d,some (.tup ar.ds),some (.tup (rest.map Wt.d))] h=.ok (Sta.back v rest).d h:=Zoc (ZoP H.toThg n (h:=h) E ar v e) rfl rfl;rw [Zk1,Ze ((Zr q).trans (Ze (ZA e2)))];rfl
 have go:∀ (w:Wt) (p:T),run P (n+2) (O "left_waiting") [E.d,.tup ar.ds] h=.ok w.d h->ZaS P.GD E.d (.int 1) h=.ok p.d h->tst (P.tbl (n+2)) gn1 [some E.d,some (.tup ar.ds),some (.tup (rest.map Wt.d))] h=.ok false h->Zh (xs2 (P.tbl (n+2)) ZhS [some E.d,some (.tup ar.ds),some (.tup (rest.map Wt.d))] h)=.ok (Sta.go p ar (w::rest)).d h:=fun w p ew ep q=>by
   have p1:ev (P.tbl (n+2)) (.ix (.var 0) (.cst (.int 1))) [some E.d,some (.tup ar.ds),some (.tup (rest.map Wt.d))] h=.ok p.d h:=ep;have b1:ev (P.tbl (n+2)) (.bin .Add (.tupl (.cons (.call (O "left_waiting") (.cons (.var 0) (.cons (.var 1) .nil))) .nil)) (.var 2)) [some E.d,some (.tup ar.ds),some (.tup (rest.map Wt.d))] h=.ok (.tup (w.d::rest.map Wt.d)) h:=(ZaL (Zbi (Zd (Zs ew rfl) rfl) (by simp)) rfl).trans (ZsG w.d (rest.map Wt.d) (by simpa using hz));have e3:ev (P.tbl (n+2)) gn3 [some E.d,some (.tup ar.ds),some (.tup (rest.map Wt.d))] h=.ok (Sta.go p ar (w::rest)).d h:=Zbi (Zd rfl (Zd p1 (Zd rfl (Zd b1 rfl)))) (by simp);rw [Zk1,Za ((Zx q).trans rfl),Ze (ZA e3)];rfl
 cases E with
 | num z=>exact ⟨.back (.num z) rest,rfl,ret _ rfl (ts (O "num") _ rfl)⟩
 | name x =>
   obtain ⟨v,e⟩:=Ar.get_some (show x∈ar.keys from hc);exact ⟨.back v rest,by show (match thing (.name x) ar with|some v=>Ans.quiet (.back v rest)|none=>.stuck)=_;rw [show thing (.name x) ar=some v from e],ret _ e (ts (O "name") _ rfl)⟩
 | fn x b=>exact ⟨.back (.clo (.fn x b) ar) rest,rfl,ret _ rfl (ts (O "fn") _ rfl)⟩
 | rcc f x b=>exact ⟨.back (.clo (.rcc f x b) ar) rest,rfl,ret _ rfl (ts (O "rec") _ rfl)⟩
 | call F A=>exact ⟨.go F ar (.arg A ar::rest),rfl,go _ F (Zjk H (n+1) (h:=h) (.call F A) ar (.arg A ar) (.inl ⟨F,A,rfl,rfl⟩)) rfl (ts (O "call") _ rfl)⟩
 | iff C t e=>exact ⟨.go C ar (.iff t e ar::rest),rfl,go _ C (Zjk H (n+1) (h:=h) (.iff C t e) ar (.iff t e ar) (.inr (.inl ⟨C,t,e,rfl,rfl⟩))) rfl (ts (O "if") _ rfl)⟩
 | op w x y=>exact ⟨.go x ar (.right w y ar::rest),rfl,go _ x (Zjk H (n+1) (h:=h) (.op w x y) ar (.right w y ar) (.inr (.inr ⟨w,x,y,rfl,rfl⟩))) rfl ((ts w.s _ rfl).trans (by cases w<;>rfl))⟩
end Rw
end
section
set_option maxHeartbeats 2000000
namespace Rw
open PySem L2 IV Gn
variable {P:Pg}{h:Hd}
noncomputable def Ze5:Wt->Prop
 | .arg A ar=>Cl ar.keys A/\ArOk ar
 | .fn V=>ZeD V
 | .iff t e ar=>Cl ar.keys t/\Cl ar.keys e/\ArOk ar
 | .right _ F ar=>Cl ar.keys F/\ArOk ar
 | .left _ V=>ZeD V
noncomputable def Zem:Sta->Prop
 | .go E ar rest=>Cl ar.keys E/\ArOk ar/\∀ w∈rest,Ze5 w
 | .back V rest=>ZeD V/\∀ w∈rest,Ze5 w
theorem ZmK (H:Thg P) (n:Nat) (E e:T) (ar:Ar) (he:E.parts=[e]):run P (n+2) (O "body_of") [(Th.clo E ar).d] h=.ok e.d h:=by
 rw [Zc H.body_of rfl];have q:=Zha H.toTre n E h;rw [he] at q;exact rt1 (U:=P.tbl (n+1)) (ss:=ZgU) (S:=[some (Th.clo E ar).d]) (Zj q rfl rfl) rfl
theorem ZgF (H:Thg P) (n:Nat) (E e:T) (ar ar':Ar) (V:Th) (hz:ar.len<=1000000) (he:(∃ x,E=.fn x e/\ar'=.cons x V ar)\/∃ f x,E=.rcc f x e/\ar'=.cons x V (.cons f (.clo E ar) ar)):run P (n+1) (O "entered") [(Th.clo E ar).d,V.d] h=.ok (.tup ar'.ds) h:=by
 rw [Zc H.entered rfl];have hl:ar.ds.length<=1000000:=by rw [Ar.ds_len];exact hz
 rcases he with ⟨x,rfl,rfl⟩|⟨f,x,rfl,rfl⟩
 . exact rt1 (U:=P.tbl n) (ss:=Zco) (S:=[some (Th.clo (.fn x e) ar).d,some V.d]) ((Zr rfl).trans (Ze (ZA ((ZaL (x:=.tup [.tup [.str x,V.d]]) (y:=.tup ar.ds) rfl rfl).trans (ZsG _ ar.ds hl))))) rfl
 . show Zh (xs2 (P.tbl n) Zco [some (Th.clo (.rcc f x e) ar).d,some V.d] h)=_;rw [nx1 (U:=P.tbl n) (ss:=Zco) (ρ1:=[some (Th.clo (.rcc f x e) ar).d,some V.d]) (h2:=h) rfl rfl];exact rt1 (U:=P.tbl n) (ss:=tlS Zco) (ZA ((ZaL (x:=.tup [.tup [.str x,V.d],.tup [.str f,(Th.clo (.rcc f x e) ar).d]]) (y:=.tup ar.ds) rfl rfl).trans (Zdi (by rw [sizeLine_eq];simp;omega)))) rfl
theorem Ztv (H:Thg P) (n:Nat) (s:Sta):run P (n+1) (O "loud_or_stuck") [s.d] h=.ok (Ans.loud s).d h:=by
 rw [Zc H.loud_or_stuck (by rfl)];show Zh (xs2 (P.tbl n) Zal [some s.d] h)=_;rw [nx1 (U:=P.tbl n) (ss:=Zal) (ρ1:=[some s.d]) (h2:=h) ((Zx (Zl0 (x:=s.d) (h1:=h) rfl (by cases s<;>simp [Sta.d]))).trans rfl) rfl];rfl
theorem Zrs (H:Thg P) (n:Nat):run P (n+1) (O "loud_or_stuck") [.non] h=.ok Ans.stuck.d h:=by
 rw [Zc H.loud_or_stuck (by rfl)];exact rt1 (U:=P.tbl n) (ss:=Zal) (S:=[some .non]) ((Zr (ZjT (h1:=h) rfl)).trans (Ze rfl)) rfl
noncomputable def oS:Option Sta->D
 | none=>.non
 | some s=>s.d
noncomputable def oA:Option Sta->Ans
 | none=>.stuck
 | some s=>.loud s
theorem Zjj (H:Thg P) (n:Nat) (o:Option Sta):run P (n+1) (O "loud_or_stuck") [oS o] h=.ok (oA o).d h:=by
 cases o with
 | none=>exact Zrs H n
 | some s=>exact Ztv H n s
theorem Zly (H:Row0 P) (n:Nat) (V W:Th) (r:List Wt) (ok:ZeD W) (ha:∀ E ar,W=.clo E ar->ar.len<=1000000):∃ o,run P (n+3) (O "applied") [V.d,W.d,.tup (r.map Wt.d)] h=.ok (oS o) h/\step (.back V (.fn W::r))=oA o:=by
 cases W with
 | num z=>exact ⟨none,by rw [Zc H.applied rfl];exact rfl,rfl⟩
 | clo E ar =>
   have hz2:=ha E ar rfl;have fin:∀ (e:T) (ar':Ar),run P (n+2) (O "body_of") [(Th.clo E ar).d] h=.ok e.d h->run P (n+2) (O "entered") [(Th.clo E ar).d,V.d] h=.ok (.tup ar'.ds) h->run P (n+3) (O "applied") [V.d,(Th.clo E ar).d,.tup (r.map Wt.d)] h=.ok (Sta.go e ar' r).d h:=fun e ar' q1 q2=>by
     rw [Zc H.applied rfl];show Zh (xs2 (P.tbl (n+2)) Zdo [some V.d,some (Th.clo E ar).d,some (.tup (r.map Wt.d))] h)=_;rw [nx1 (U:=P.tbl (n+2)) (ss:=Zdo) (ρ1:=[some V.d,some (Th.clo E ar).d,some (.tup (r.map Wt.d))]) (h2:=h) rfl rfl];exact rt1 (U:=P.tbl (n+2)) (ss:=tlS Zdo) (ZA (Zbi (Zd rfl (Zd (Zs q1 rfl) (Zd (Zs q2 rfl) rfl))) (by simp))) rfl
   cases E with
   | fn x e=>exact ⟨some (.go e (.cons x V ar) r),fin e _ (ZmK H.toThg n (h:=h) (.fn x e) e ar rfl) (ZgF H.toThg (n+1) (h:=h) (.fn x e) e ar (.cons x V ar) V hz2 (.inl ⟨x,rfl,rfl⟩)),rfl⟩
   | rcc f x e=>exact ⟨some (.go e (.cons x V (.cons f (.clo (.rcc f x e) ar) ar)) r),fin e _ (ZmK H.toThg n (h:=h) (.rcc f x e) e ar rfl) (ZgF H.toThg (n+1) (h:=h) (.rcc f x e) e ar (.cons x V (.cons f (.clo (.rcc f x e) ar) ar)) V hz2 (.inr ⟨f,x,rfl,rfl⟩)),rfl⟩
   | _=>cases ok.1
theorem Zlx (H:Row0 P) (n:Nat) (V:Th) (t e:T) (ar:Ar) (r:List Wt):∃ o,run P (n+3) (O "gone_on") [V.d,(Wt.iff t e ar).d,.tup (r.map Wt.d)] h=.ok (oS o) h/\step (.back V (.iff t e ar::r))=oA o:=by
 have q:=ZfH H.toThg (n+1) (h:=h) V t.d e.d;cases V with
 | num z =>
   refine ⟨some (.go (if z=0 then e else t) ar r),?_,rfl⟩;have q':run P (n+2) (O "chosen") [(Th.num z).d,t.d,e.d] h=.ok (if z=0 then e else t).d h:=by
     rw [q];simp only;split<;>rfl
   generalize (if z=0 then e else t)=u at q' ⊢;rw [Zc H.gone_on rfl];show Zh (xs2 (P.tbl (n+2)) Za0 [some (Th.num z).d,some (Wt.iff t e ar).d,some (.tup (r.map Wt.d)),none] h)=_;rw [nx1 (U:=P.tbl (n+2)) (ss:=Za0) (ρ1:=[some (Th.num z).d,some (Wt.iff t e ar).d,some (.tup (r.map Wt.d)),some u.d]) (h2:=h) (Zj q' rfl rfl) rfl,nx1 (U:=P.tbl (n+2)) (ss:=tlS Za0) (ρ1:=[some (Th.num z).d,some (Wt.iff t e ar).d,some (.tup (r.map Wt.d)),some u.d]) (h2:=h) ((Zx (Zl0 (x:=u.d) (h1:=h) rfl (by cases u<;>simp [T.d]))).trans rfl) rfl];rfl
 | clo E ar2 =>
   refine ⟨none,?_,rfl⟩;rw [Zc H.gone_on rfl];show Zh (xs2 (P.tbl (n+2)) Za0 [some (Th.clo E ar2).d,some (Wt.iff t e ar).d,some (.tup (r.map Wt.d)),none] h)=_;rw [nx1 (U:=P.tbl (n+2)) (ss:=Za0) (ρ1:=[some (Th.clo E ar2).d,some (Wt.iff t e ar).d,some (.tup (r.map Wt.d)),some .non]) (h2:=h) (Zj q rfl rfl) rfl];exact rt1 (U:=P.tbl (n+2)) (ss:=tlS Za0) ((Zr (ZjT (h1:=h) rfl)).trans (Ze rfl)) rfl
theorem Zjh (H:Row0 P) (n:Nat) (V W:Th) (o:Wd) (r:List Wt) (okV:ZeD V) (okW:ZeD W):∃ u,run P (n+3) (O "reckoned") [V.d,(Wt.left o W).d,.tup (r.map Wt.d)] h=.ok (oS u) h/\step (.back V (.left o W::r))=oA u:=by
 have q:=ZfG H.toThg (n+1) (h:=h) o W V (fun z e=>by subst e;exact okW) (fun z e=>by subst e;exact okV);have no:wkD o W V=.non->run P (n+3) (O "reckoned") [V.d,(Wt.left o W).d,.tup (r.map Wt.d)] h=.ok .non h:=fun e=>by
   rw [e] at q;rw [Zc H.reckoned rfl];show Zh (xs2 (P.tbl (n+2)) Zat [some V.d,some (Wt.left o W).d,some (.tup (r.map Wt.d)),none] h)=_;rw [nx1 (U:=P.tbl (n+2)) (ss:=Zat) (ρ1:=[some V.d,some (Wt.left o W).d,some (.tup (r.map Wt.d)),some .non]) (h2:=h) (Zj q rfl rfl) rfl];exact rt1 (U:=P.tbl (n+2)) (ss:=tlS Zat) ((Zr (ZjT (h1:=h) rfl)).trans (Ze rfl)) rfl
 cases W with
 | clo E ar=>exact ⟨none,no rfl,rfl⟩
 | num x =>
   cases V with
   | clo E ar=>exact ⟨none,no rfl,rfl⟩
   | num y =>
     refine ⟨some (.back (.num (wk o x y)) r),?_,rfl⟩;have q':run P (n+2) (O "worked") [.str o.s,(Th.num x).d,(Th.num y).d] h=.ok (Th.num (wk o x y)).d h:=q;rw [Zc H.reckoned rfl];show Zh (xs2 (P.tbl (n+2)) Zat [some (Th.num y).d,some (Wt.left o (.num x)).d,some (.tup (r.map Wt.d)),none] h)=_;rw [nx1 (U:=P.tbl (n+2)) (ss:=Zat) (ρ1:=[some (Th.num y).d,some (Wt.left o (.num x)).d,some (.tup (r.map Wt.d)),some (Th.num (wk o x y)).d]) (h2:=h) (Zj q' rfl rfl) rfl,nx1 (U:=P.tbl (n+2)) (ss:=tlS Zat) (ρ1:=[some (Th.num y).d,some (Wt.left o (.num x)).d,some (.tup (r.map Wt.d)),some (Th.num (wk o x y)).d]) (h2:=h) ((Zx (Zl0 (x:=(Th.num (wk o x y)).d) (h1:=h) rfl (by simp [Th.d]))).trans rfl) rfl];rfl
theorem Zjl (H:Row0 P) (n:Nat) (V:Th) (rest:List Wt) (ok:Zem (.back V rest)) (hz:rest.length<=1000000) (ha:∀ W r,rest=.fn W::r->∀ E ar,W=.clo E ar->ar.len<=1000000):run P (n+5) (O "back_step") [V.d,.tup (rest.map Wt.d)] h=.ok (step (.back V rest)).d h:=by
 rw [Zc H.back_step rfl];cases rest with
 | nil=>exact rfl
 | cons w r =>
   have hr:r.length<=1000000:=by simp at hz;omega
   have okw:=ok.2 w (by simp);show Zh (xs2 (P.tbl (n+4)) Zp [some V.d,some (.tup (w.d::r.map Wt.d)),none] h)=_;have x2:xs1 (P.tbl (n+4)) (hdS (tlS Zp)) [some V.d,some (.tup (w.d::r.map Wt.d)),none] h=.ok (.nx,[some V.d,some (.tup (w.d::r.map Wt.d)),some w.d]) h:=Zv (i:=2) (by
     show R.ofO (atI (w.d::r.map Wt.d) 0) h=_;rw [ZqV];rfl)
   rw [nx1 (U:=P.tbl (n+4)) (ss:=Zp) (ρ1:=[some V.d,some (.tup (w.d::r.map Wt.d)),none]) (h2:=h) rfl rfl,nx1 (U:=P.tbl (n+4)) (ss:=tlS Zp) x2 rfl];have es:ev (P.tbl (n+4)) (.sl (.var 1) (some (.cst (.int 1))) none) [some V.d,some (.tup (w.d::r.map Wt.d)),some w.d] h=.ok (.tup (r.map Wt.d)) h:=by
     show R.ok (D.tup (cutD (w.d::r.map Wt.d) (some 1) none)) h=_;rw [Zl8]
   have eb:∀ (e:Ex) (d:D),ev (P.tbl (n+4)) e [some V.d,some (.tup (w.d::r.map Wt.d)),some w.d] h=.ok (.tup [d]) h->ev (P.tbl (n+4)) (.bin .Add e (.sl (.var 1) (some (.cst (.int 1))) none)) [some V.d,some (.tup (w.d::r.map Wt.d)),some w.d] h=.ok (.tup (d::r.map Wt.d)) h:=fun e d q=>(ZaL q es).trans (ZsG d (r.map Wt.d) (by simpa using hr));have lo:∀ o,run P (n+4) (O "loud_step") [V.d,w.d,.tup (r.map Wt.d)] h=.ok (oA o).d h->step (.back V (w::r))=oA o->xs1 (P.tbl (n+4)) (hdS (tlS (tlS Zp))) [some V.d,some (.tup (w.d::r.map Wt.d)),some w.d] h=.ok (.nx,[some V.d,some (.tup (w.d::r.map Wt.d)),some w.d]) h->xs1 (P.tbl (n+4)) (hdS (tlS (tlS (tlS Zp)))) [some V.d,some (.tup (w.d::r.map Wt.d)),some w.d] h=.ok (.nx,[some V.d,some (.tup (w.d::r.map Wt.d)),some w.d]) h->Zh (xs2 (P.tbl (n+4)) (tlS (tlS Zp)) [some V.d,some (.tup (w.d::r.map Wt.d)),some w.d] h)=.ok (step (.back V (w::r))).d h:=fun o e1 e2 y3 y4=>by
     rw [nx1 (U:=P.tbl (n+4)) (ss:=tlS (tlS Zp)) y3 rfl,nx1 (U:=P.tbl (n+4)) (ss:=tlS (tlS (tlS Zp))) y4 rfl,e2];exact rt1 (U:=P.tbl (n+4)) (ss:=tlS (tlS (tlS (tlS Zp)))) (ZA ((Zp4 (Zd rfl (Zd rfl (Zd es rfl)))).trans e1)) rfl
   cases w with
   | arg A ar =>
     have b1:=eb (.tupl (.cons (.tupl (.cons (.cst (.str (O "fun"))) (.cons (.var 0) .nil))) .nil)) (Wt.fn V).d rfl;exact rt1 (U:=P.tbl (n+4)) (ss:=tlS (tlS Zp)) ((Zr rfl).trans (Ze (ZA (Zbi (Zd rfl (Zd (Zbi (Zd rfl (Zd rfl (Zd rfl (Zd b1 rfl)))) (by simp)) rfl)) (by simp))))) rfl
   | right o F ar =>
     have b1:=eb (.tupl (.cons (.tupl (.cons (.cst (.str (O "left"))) (.cons (.ix (.var 2) (.cst (.int 1))) (.cons (.var 0) .nil)))) .nil)) (Wt.left o V).d rfl;rw [nx1 (U:=P.tbl (n+4)) (ss:=tlS (tlS Zp)) (ρ1:=[some V.d,some (.tup ((Wt.right o F ar).d::r.map Wt.d)),some (Wt.right o F ar).d]) (h2:=h) rfl rfl];exact rt1 (U:=P.tbl (n+4)) (ss:=tlS (tlS (tlS Zp))) ((Zr rfl).trans (Ze (ZA (Zbi (Zd rfl (Zd (Zbi (Zd rfl (Zd rfl (Zd rfl (Zd b1 rfl)))) (by simp)) rfl)) (by simp))))) rfl
   | fn W =>
     obtain ⟨o,e1,e2⟩:=Zly H n (h:=h) V W r okw (ha W r rfl);refine lo o ?_ e2 rfl rfl;rw [Zc H.loud_step rfl];show Zh (xs2 (P.tbl (n+3)) ZH [some V.d,some (Wt.fn W).d,some (.tup (r.map Wt.d)),none] h)=_;rw [nx1 (U:=P.tbl (n+3)) (ss:=ZH) (ρ1:=[some V.d,some (Wt.fn W).d,some (.tup (r.map Wt.d)),some (oS o)]) (h2:=h) ((Zr rfl).trans (Za (Zj e1 rfl rfl))) rfl];exact rt1 (U:=P.tbl (n+3)) (ss:=tlS ZH) (Zj (Zjj H.toThg (n+2) o) rfl rfl) rfl
   | iff t e ar =>
     obtain ⟨o,e1,e2⟩:=Zlx H n (h:=h) V t e ar r;refine lo o ?_ e2 rfl rfl;rw [Zc H.loud_step rfl];show Zh (xs2 (P.tbl (n+3)) ZH [some V.d,some (Wt.iff t e ar).d,some (.tup (r.map Wt.d)),none] h)=_;rw [nx1 (U:=P.tbl (n+3)) (ss:=ZH) (ρ1:=[some V.d,some (Wt.iff t e ar).d,some (.tup (r.map Wt.d)),some (oS o)]) (h2:=h) ((Zx rfl).trans (Za ((Zr rfl).trans (Za (Zj e1 rfl rfl))))) rfl];exact rt1 (U:=P.tbl (n+3)) (ss:=tlS ZH) (Zj (Zjj H.toThg (n+2) o) rfl rfl) rfl
   | left o W =>
     obtain ⟨u,e1,e2⟩:=Zjh H n (h:=h) V W o r ok.1 okw;refine lo u ?_ e2 rfl rfl;rw [Zc H.loud_step rfl];show Zh (xs2 (P.tbl (n+3)) ZH [some V.d,some (Wt.left o W).d,some (.tup (r.map Wt.d)),none] h)=_;rw [nx1 (U:=P.tbl (n+3)) (ss:=ZH) (ρ1:=[some V.d,some (Wt.left o W).d,some (.tup (r.map Wt.d)),some (oS u)]) (h2:=h) ((Zx rfl).trans (Za ((Zx rfl).trans (Za (Zj e1 rfl rfl))))) rfl];exact rt1 (U:=P.tbl (n+3)) (ss:=tlS ZH) (Zj (Zjj H.toThg (n+2) u) rfl rfl) rfl
theorem Zrq (H:Row0 P) (n:Nat) (s:Sta) (ok:Zem s) (hz:match s with|.go _ _ rest=>rest.length<=1000000|.back _ rest=>rest.length<=1000000/\∀ W r,rest=.fn W::r->∀ E ar,W=.clo E ar->ar.len<=1000000):run P (n+6) (O "rows_step") [s.d] h=.ok (step s).d h:=by
 rw [Zc H.rows_step (by cases s<;>rfl)];cases s with
 | go E ar rest =>
   obtain ⟨s,e1,e2⟩:=Zrt H (n+2) (h:=h) E ar rest ok.1 hz;rw [e1];exact rt1 (U:=P.tbl (n+5)) (ss:=Zbb) (S:=[some (Sta.go E ar rest).d]) (Zj e2 rfl rfl) rfl
 | back V rest =>
   have e:=Zjl H n (h:=h) V rest ok hz.1 hz.2;show Zh (xs2 (P.tbl (n+5)) Zbb [some (Sta.back V rest).d] h)=_;rw [nx1 (U:=P.tbl (n+5)) (ss:=Zbb) (ρ1:=[some (Sta.back V rest).d]) (h2:=h) rfl rfl];exact rt1 (U:=P.tbl (n+5)) (ss:=tlS Zbb) (Zj e rfl rfl) rfl
end Rw
end
section
namespace IV
open PySem L2
mutual
noncomputable def D.pure:D->Bool
 | .non|.bl _|.int _|.str _=>true
 | .tup xs=>D.pures xs
 | _=>false
noncomputable def D.pures:List D->Bool
 | []=>true
 | x::xs=>D.pure x&&D.pures xs
end
mutual
noncomputable def D.dp:D->Nat
 | .tup xs=>D.dps xs+1
 | _=>0
noncomputable def D.dps:List D->Nat
 | []=>0
 | x::xs=>max (D.dp x) (D.dps xs)
end
mutual
theorem Zhe{rd:Nat->Option PyData}:∀ d:D,d.pure=true->∃ p,D.py rd d=some p/\p.depth<=d.dp/\PyData.eqv p p=true
 | .non,_=>⟨.none,rfl,Oq _,rfl⟩
 | .bl b,_=>⟨.bool b,rfl,Oq _,by simp [PyData.eqv]⟩
 | .int b,_=>⟨.int b,rfl,Oq _,by simp [PyData.eqv]⟩
 | .str b,_=>⟨.str b,rfl,Oq _,by simp [PyData.eqv]⟩
 | .tup xs,h=>by
   obtain ⟨ps,e1,e2,e3⟩:=pys_same (rd:=rd) xs (by simpa [D.pure] using h);refine ⟨.tuple ps,by simp [D.py,e1],?_,?_⟩
   . simp only [PyData.depth,D.dp];omega
   . simpa [PyData.eqv] using e3
 | .ref _,h=>by cases h
 | .ty _,h=>by cases h
 | .ro _,h=>by cases h
 | .kd _,h=>by cases h
theorem pys_same{rd:Nat->Option PyData}:∀ ds:List D,D.pures ds=true->∃ ps,D.pys rd ds=some ps/\PyData.depthAll ps<=D.dps ds/\PyData.eqvAll ps ps=true
 | [],_=>⟨[],rfl,Oq _,by simp [PyData.eqvAll]⟩
 | x::xs,h=>by
   rw [D.pures,Oa] at h;obtain ⟨p,a1,a2,a3⟩:=Zhe (rd:=rd) x h.1;obtain ⟨ps,b1,b2,b3⟩:=pys_same (rd:=rd) xs h.2;refine ⟨p::ps,by simp [D.pys,a1,b1],?_,?_⟩
   . simp only [PyData.depthAll,D.dps];omega
   . simp [PyData.eqvAll,a3,b3]
end
theorem ZgH{n:Bool}{d:D}{h:Hd}(hp:d.pure=true)(hd:d.dp<=1100):Zb1 n d d h=.ok (.bl (!n)) h:=by
 obtain ⟨p,e1,e2,e3⟩:=Zhe (rd:=Ze0 h 4) d hp;unfold Zb1;rw [show Ze1 h d=some p from e1];simp only;rw [if_pos (by omega),e3];cases n<;>rfl
end IV
end
section
namespace Rw
open PySem L2 IV Gn
theorem T.pure_d:∀ t:T,t.d.pure=true
 | .num _=>rfl
 | .name _=>rfl
 | .fn _ e=>by simp [T.d,D.pure,D.pures,T.pure_d e]
 | .rcc _ _ e=>by simp [T.d,D.pure,D.pures,T.pure_d e]
 | .call f a=>by simp [T.d,D.pure,D.pures,T.pure_d f,T.pure_d a]
 | .iff c t e=>by simp [T.d,D.pure,D.pures,T.pure_d c,T.pure_d t,T.pure_d e]
 | .op _ f a=>by simp [T.d,D.pure,D.pures,T.pure_d f,T.pure_d a]
theorem T.dp_d:∀ t:T,t.d.dp=dep t+1
 | .num _=>rfl
 | .name _=>rfl
 | .fn _ e=>by simp [T.d,D.dp,D.dps,T.dp_d e,dep]
 | .rcc _ _ e=>by simp [T.d,D.dp,D.dps,T.dp_d e,dep]
 | .call f a=>by simp [T.d,D.dp,D.dps,T.dp_d f,T.dp_d a,dep]
 | .iff c t e=>by simp [T.d,D.dp,D.dps,T.dp_d c,T.dp_d t,T.dp_d e,dep]
 | .op _ f a=>by simp [T.d,D.dp,D.dps,T.dp_d f,T.dp_d a,dep]
mutual
theorem Th.pure_d:∀ v:Th,v.d.pure=true
 | .num _=>rfl
 | .clo E ar=>by simp [Th.d,D.pure,D.pures,T.pure_d,Ar.pure_d ar]
theorem Ar.pure_d:∀ ar:Ar,D.pures ar.ds=true
 | .nil=>rfl
 | .cons x v r=>by simp [Ar.ds,D.pures,D.pure,Th.pure_d v,Ar.pure_d r]
end
theorem Wt.pure_d(w:Wt):w.d.pure=true:=by
 cases w<;>simp [Wt.d,D.pure,D.pures,T.pure_d,Ar.pure_d,Th.pure_d]
theorem Wts.pure_d:∀ ws:List Wt,D.pures (ws.map Wt.d)=true
 | []=>rfl
 | w::ws=>by simp [D.pures,Wt.pure_d,Wts.pure_d ws]
theorem Sta.pure_d(s:Sta):s.d.pure=true:=by
 cases s<;>simp [Sta.d,D.pure,D.pures,T.pure_d,Ar.pure_d,Th.pure_d,Wts.pure_d]
theorem ZgX{x:Str}{v:Th}:∀ {ar:Ar},ArOk ar->ar.get x=some v->ZeD v
 | .nil,_,h=>by simp [Ar.get] at h
 | .cons y u r,a,h=>by
   by_cases e:y=x
   . simp [Ar.get,e] at h;subst h;exact a.1
   . simp [Ar.get,e] at h;exact ZgX a.2 h
theorem wk_ok(w:Wd)(a b:Int):0<=wk w a b/\wk w a b<1000000:=by
 cases w<;>simp only [wk]
 . omega
 . omega
 . exact ⟨Int.emod_nonneg _ (by decide),Int.emod_lt_of_pos _ (by decide)⟩
 . split<;>omega
theorem Zah{α:Type}{p:α->Prop}{x:α}{xs:List α}(a:p x)(b:∀ y∈xs,p y):∀ y∈x::xs,p y:=by
 intro y hy;rcases O2.mp hy with rfl|hy
 . exact a
 . exact b y hy
end Rw
end
section
namespace Tm
open PySem L2 IV
noncomputable def Zaj:Sxs:=(.cons (.iff (.ex (.cmp .NotIn (.ix (.var 0) (.cst (.int 0))) (.glo (O "FORMS")))) (.cons (.ret (.tupl .nil)) .nil) .nil) (.cons (.ret (.sl (.var 0) (some (.cst (.int 1))) (some (.bin .Add (.cst (.int 1)) (.ix (.ix (.glo (O "FORMS")) (.ix (.var 0) (.cst (.int 0)))) (.cst (.int 0))))))) .nil))
noncomputable def Zag:Fd:=⟨[(O "E")],[(O "E")],Zaj⟩
noncomputable def ZbL:Sxs:=(.cons (.iff (.ex (.cmp .NotIn (.ix (.var 0) (.cst (.int 0))) (.glo (O "FORMS")))) (.cons (.ret (.var 0)) .nil) .nil) (.cons (.ret (.sl (.var 0) none (some (.bin .Add (.cst (.int 1)) (.ix (.ix (.glo (O "FORMS")) (.ix (.var 0) (.cst (.int 0)))) (.cst (.int 0))))))) .nil))
noncomputable def ZbD:Fd:=⟨[(O "E")],[(O "E")],ZbL⟩
noncomputable def Zai:Sxs:=(.cons (.iff (.ex (.cmp .NotIn (.ix (.var 0) (.cst (.int 0))) (.glo (O "FORMS")))) (.cons (.ret (.cst (.int 0))) .nil) .nil) (.cons (.ret (.ix (.ix (.glo (O "FORMS")) (.ix (.var 0) (.cst (.int 0)))) (.cst (.int 1)))) .nil))
noncomputable def Zaf:Fd:=⟨[(O "front")],[(O "front")],Zai⟩
noncomputable def Zlc:Sxs:=(.cons (.set (.nm 1) (.lstl .nil)) (.cons (.forr (.nm 2) (.rev (.var 0)) (.cons (.set (.nm 3) (.comp [(O "k"),(O "done")] [none,some 1] (.rng (.call (O "count_parts") (.cons (.var 2) .nil))) (.nm 0) none (.meth .pop (.var 1) .nil))) (.cons (.drp (.meth .app (.var 1) (.cons (.bin .Add (.var 2) (.blt .tup (.cons (.var 3) .nil))) .nil))) .nil))) (.cons (.ret (.ix (.var 1) (.cst (.int 0)))) .nil)))
noncomputable def Zdm:Fd:=⟨[(O "fronts")],[(O "fronts"),(O "done"),(O "front"),(O "parts")],Zlc⟩
noncomputable def Z6:Sxs:=(.cons (.forr (.two 2 3) (.pl (.var 1)) (.cons (.iff (.ex (.cmp .Eq (.var 2) (.var 0))) (.cons (.ret (.var 3)) .nil) .nil) .nil)) (.cons (.ret (.cst .non)) .nil))
noncomputable def Zas:Fd:=⟨[(O "name"),(O "around")],[(O "name"),(O "around"),(O "known"),(O "thing")],Z6⟩
noncomputable def Zog:Sxs:=(.cons (.iff (.ex (.cmp .Eq (.ix (.var 0) (.cst (.int 0))) (.cst (.str (O "clo"))))) (.cons (.ret (.sl (.var 0) (some (.cst (.int 1))) none)) .nil) .nil) (.cons (.ret (.tupl (.cons (.var 0) (.cons (.tupl .nil) .nil)))) .nil))
noncomputable def ZcX:Fd:=⟨[(O "thing")],[(O "thing")],Zog⟩
noncomputable def Zkg:Sxs:=(.cons (.iff (.ex (.cmp .NotEq (.ix (.var 0) (.cst (.int 0))) (.cst (.str (O "name"))))) (.cons (.ret (.cst .non)) .nil) .nil) (.cons (.ret (.call (O "bound_to") (.cons (.ix (.var 0) (.cst (.int 1))) (.cons (.var 1) .nil)))) .nil))
noncomputable def Zao:Fd:=⟨[(O "place"),(O "around")],[(O "place"),(O "around")],Zkg⟩
noncomputable def Zi0:Sxs:=(.cons (.ret (.bin .Add (.blt .tup (.cons (.comp [(O "name")] [none] (.pl (.call (O "bound_names") (.cons (.var 0) .nil))) (.nm 0) none (.tupl (.cons (.var 0) (.cons (.cst .non) .nil)))) .nil)) (.var 1))) .nil)
noncomputable def Zcg:Fd:=⟨[(O "place"),(O "around")],[(O "place"),(O "around")],Zi0⟩
noncomputable def Zkh:Sxs:=(.cons (.ret (.cmp .In (.ix (.var 0) (.cst (.int 0))) (.glo (O "VALUES")))) .nil)
noncomputable def Zar:Fd:=⟨[(O "E")],[(O "E")],Zkh⟩
noncomputable def Zcx:Sx:=(.set (.nm 2) (.blt .tup (.cons (.comp [(O "name"),(O "filling")] [none,some 1] (.dk (.var 1)) (.nm 0) none (.tupl (.cons (.var 0) (.cons (.tupl (.cons (.cst (.str (O "clo"))) (.cons (.ix (.var 1) (.var 0)) (.cons (.tupl .nil) .nil)))) .nil)))) .nil)))
noncomputable def Zcw:Sx:=(.ret (.mcl (O "Pen") (O "filled") (.mk (O "Pen") (.cons (.cst .non) .nil)) (.cons (.var 0) (.cons (.var 2) .nil))))
noncomputable def Zof:Sxs:=(.cons Zcx (.cons Zcw .nil))
noncomputable def ZcW:Fd:=⟨[(O "E"),(O "filling")],[(O "E"),(O "filling"),(O "around")],Zof⟩
noncomputable def Zgr:Sxs:=(.cons (.iff (.ex (.cmp .Eq (.ix (.var 0) (.cst (.int 0))) (.cst (.str (O "if"))))) (.cons (.ret (.sl (.var 0) (some (.cst (.int 1))) (some (.cst (.int 2))))) .nil) .nil) (.cons (.ret (.call (O "parts_of") (.cons (.var 0) .nil))) .nil))
noncomputable def Zy:Fd:=⟨[(O "E")],[(O "E")],Zgr⟩
noncomputable def ZhT:Sxs:=(.cons (.forr (.two 1 2) (.en1 (.call (O "parts_first") (.cons (.var 0) .nil))) (.cons (.iff (.nt (.ex (.call (O "is_value") (.cons (.var 2) .nil)))) (.cons (.ret (.var 1)) .nil) .nil) .nil)) (.cons (.ret (.cst .non)) .nil))
noncomputable def ZaH:Fd:=⟨[(O "E")],[(O "E"),(O "k"),(O "part")],ZhT⟩
noncomputable def Zge:Sxs:=(.cons (.set (.nm 1) (.lstl (.cons (.tupl (.cons (.var 0) (.cons (.call (O "first_open") (.cons (.var 0) .nil)) .nil))) .nil))) (.cons (.whl (.ex (.cmp .IsNot (.ix (.ix (.var 1) (.neg (.cst (.int 1)))) (.cst (.int 1))) (.cst .non))) (.cons (.set (.nm 2) (.ix (.ix (.ix (.var 1) (.neg (.cst (.int 1)))) (.cst (.int 0))) (.ix (.ix (.var 1) (.neg (.cst (.int 1)))) (.cst (.int 1))))) (.cons (.drp (.meth .app (.var 1) (.cons (.tupl (.cons (.var 2) (.cons (.call (O "first_open") (.cons (.var 2) .nil)) .nil))) .nil))) .nil))) (.cons (.ret (.var 1)) .nil)))
noncomputable def Zbx:Fd:=⟨[(O "E")],[(O "E"),(O "way"),(O "inner")],Zge⟩
noncomputable def Zdb:Sxs:=(.cons (.iff (.ex (.cmp .Eq (.ix (.var 0) (.cst (.int 0))) (.cst (.str (O "fn"))))) (.cons (.ret (.call (O "put_in") (.cons (.ix (.var 0) (.cst (.int 2))) (.cons (.dictl (.cons (.ix (.var 0) (.cst (.int 1))) (.cons (.var 1) .nil))) .nil)))) .nil) .nil) (.cons (.iff (.ex (.cmp .Eq (.ix (.var 0) (.cst (.int 0))) (.cst (.str (O "rec"))))) (.cons (.ret (.call (O "put_in") (.cons (.ix (.var 0) (.cst (.int 3))) (.cons (.dictl (.cons (.ix (.var 0) (.cst (.int 1))) (.cons (.var 0) (.cons (.ix (.var 0) (.cst (.int 2))) (.cons (.var 1) .nil))))) .nil)))) .nil) .nil) (.cons (.ret (.cst .non)) .nil)))
noncomputable def ZcY:Fd:=⟨[(O "F"),(O "A")],[(O "F"),(O "A")],Zdb⟩
noncomputable def Zda:Sxs:=(.cons (.iff (.ex (.cmp .NotEq (.ix (.var 0) (.cst (.int 0))) (.cst (.str (O "num"))))) (.cons (.ret (.cst .non)) .nil) .nil) (.cons (.ret (.ite (.ex (.cmp .Eq (.ix (.var 0) (.cst (.int 1))) (.cst (.int 0)))) (.var 2) (.var 1))) .nil))
noncomputable def ZaI:Fd:=⟨[(O "C"),(O "T"),(O "E")],[(O "C"),(O "T"),(O "E")],Zda⟩
noncomputable def Zgd:Sx:=(.iff (.ors (.cons (.ex (.cmp .NotEq (.ix (.var 1) (.cst (.int 0))) (.cst (.str (O "num"))))) (.one (.ex (.cmp .NotEq (.ix (.var 2) (.cst (.int 0))) (.cst (.str (O "num")))))))) (.cons (.ret (.cst .non)) .nil) .nil)
noncomputable def Zke:Sx:=(.iff (.ex (.cmp .Eq (.var 0) (.cst (.str (O "<"))))) (.cons (.ret (.tupl (.cons (.cst (.str (O "num"))) (.cons (.ite (.ex (.cmp .Lt (.ix (.var 1) (.cst (.int 1))) (.ix (.var 2) (.cst (.int 1))))) (.cst (.int 1)) (.cst (.int 0))) .nil)))) .nil) .nil)
noncomputable def Zkd:Sx:=(.iff (.ex (.cmp .Eq (.var 0) (.cst (.str (O "+"))))) (.cons (.ret (.tupl (.cons (.cst (.str (O "num"))) (.cons (.bin .Mod (.bin .Add (.ix (.var 1) (.cst (.int 1))) (.ix (.var 2) (.cst (.int 1)))) (.glo (O "BEYOND"))) .nil)))) .nil) .nil)
noncomputable def Zkc:Sx:=(.iff (.ex (.cmp .Eq (.var 0) (.cst (.str (O "-"))))) (.cons (.ret (.tupl (.cons (.cst (.str (O "num"))) (.cons (.bin .Mod (.bin .Sub (.ix (.var 1) (.cst (.int 1))) (.ix (.var 2) (.cst (.int 1)))) (.glo (O "BEYOND"))) .nil)))) .nil) .nil)
noncomputable def Zkb:Sx:=(.ret (.tupl (.cons (.cst (.str (O "num"))) (.cons (.bin .Mod (.bin .Mult (.ix (.var 1) (.cst (.int 1))) (.ix (.var 2) (.cst (.int 1)))) (.glo (O "BEYOND"))) .nil))))
noncomputable def ZC:Sxs:=(.cons Zgd (.cons Zke (.cons Zkd (.cons Zkc (.cons Zkb .nil)))))
noncomputable def Za4:Fd:=⟨[(O "word"),(O "first"),(O "second")],[(O "word"),(O "first"),(O "second")],ZC⟩
noncomputable def Zkk:Sx:=(.iff (.ex (.cmp .Eq (.ix (.var 0) (.cst (.int 0))) (.cst (.str (O "call"))))) (.cons (.ret (.call (O "called") (.cons (.ix (.var 0) (.cst (.int 1))) (.cons (.ix (.var 0) (.cst (.int 2))) .nil)))) .nil) .nil)
noncomputable def Zkj:Sx:=(.iff (.ex (.cmp .Eq (.ix (.var 0) (.cst (.int 0))) (.cst (.str (O "if"))))) (.cons (.ret (.call (O "chosen") (.cons (.ix (.var 0) (.cst (.int 1))) (.cons (.ix (.var 0) (.cst (.int 2))) (.cons (.ix (.var 0) (.cst (.int 3))) .nil))))) .nil) .nil)
noncomputable def Zki:Sx:=(.ret (.call (O "worked") (.cons (.ix (.var 0) (.cst (.int 0))) (.cons (.ix (.var 0) (.cst (.int 1))) (.cons (.ix (.var 0) (.cst (.int 2))) .nil)))))
noncomputable def ZaP:Sxs:=(.cons Zkk (.cons Zkj (.cons Zki .nil)))
noncomputable def ZcZ:Fd:=⟨[(O "E")],[(O "E")],ZaP⟩
noncomputable def Zgf:Sxs:=(.cons (.set (.nm 2) (.var 1)) (.cons (.forr (.two 3 4) (.rev (.var 0)) (.cons (.set (.nm 2) (.bin .Add (.bin .Add (.sl (.var 3) none (some (.var 4))) (.tupl (.cons (.var 2) .nil))) (.sl (.var 3) (some (.bin .Add (.var 4) (.cst (.int 1)))) none))) .nil)) (.cons (.ret (.var 2)) .nil)))
noncomputable def ZbA:Fd:=⟨[(O "way"),(O "E")],[(O "way"),(O "E"),(O "whole"),(O "place"),(O "inner")],Zgf⟩
noncomputable def ZbU:Sx:=(.iff (.ex (.call (O "is_value") (.cons (.var 0) .nil))) (.cons (.ret (.tupl (.cons (.cst (.str (O "value"))) .nil))) .nil) .nil)
noncomputable def Zc3:Sx:=(.set (.nm 1) (.call (O "way_down") (.cons (.var 0) .nil)))
noncomputable def Zc2:Sx:=(.set (.nm 2) (.call (O "become") (.cons (.ix (.ix (.var 1) (.neg (.cst (.int 1)))) (.cst (.int 0))) .nil)))
noncomputable def ZbT:Sx:=(.iff (.ex (.cmp .Is (.var 2) (.cst .non))) (.cons (.ret (.tupl (.cons (.cst (.str (O "stuck"))) .nil))) .nil) .nil)
noncomputable def Zc1:Sx:=(.ret (.tupl (.cons (.cst (.str (O "loud"))) (.cons (.call (O "put_back") (.cons (.sl (.var 1) none (some (.neg (.cst (.int 1))))) (.cons (.var 2) .nil))) .nil))))
noncomputable def Zmc:Sxs:=(.cons ZbU (.cons Zc3 (.cons Zc2 (.cons ZbT (.cons Zc1 .nil)))))
noncomputable def Zch:Fd:=⟨[(O "E")],[(O "E"),(O "way"),(O "F")],Zmc⟩
noncomputable def Zdc:Sxs:=(.cons (.seta [(O "Pen")] (.var 0) (O "most") (.var 1)) (.cons (.seta [(O "Pen")] (.var 0) (O "used") (.cst (.int 0))) .nil))
noncomputable def ZP:Fd:=⟨[(O "self"),(O "most")],[(O "self"),(O "most")],Zdc⟩
noncomputable def Zkf (x:Sx):Sxs:=(.cons (.iff (.ex (.cmp .Eq (.att [(O "Pen")] (.var 0) (O "used")) (.att [(O "Pen")] (.var 0) (O "most")))) (.cons x .nil) .nil) (.cons (.auga [(O "Pen")] (.var 0) (O "used") (.cst (.int 1))) .nil))
noncomputable def Zj0 (x:Sx):Fd:=⟨[(O "self")],[(O "self")],Zkf x⟩
noncomputable def ZcA:Sxs:=(.cons (.set (.nm 3) (.lstl .nil)) (.cons (.set (.nm 4) (.lstl (.cons (.tupl (.cons (.var 1) (.cons (.var 2) .nil))) .nil))) (.cons (.whl (.ex (.var 4)) (.cons (.set (.nm 5) (.meth .pop (.var 4) .nil)) (.cons (.set (.nm 6) (.call (O "meant_by") (.cons (.ix (.var 5) (.cst (.int 0))) (.cons (.ix (.var 5) (.cst (.int 1))) .nil)))) (.cons (.iff (.ex (.cmp .Is (.var 6) (.cst .non))) (.cons (.drp (.mcl (O "Pen") (O "take_place") (.var 0) .nil)) (.cons (.drp (.meth .app (.var 3) (.cons (.call (O "front_of") (.cons (.ix (.var 5) (.cst (.int 0))) .nil)) .nil))) (.cons (.set (.nm 7) (.call (O "within") (.cons (.ix (.var 5) (.cst (.int 0))) (.cons (.ix (.var 5) (.cst (.int 1))) .nil)))) (.cons (.drp (.meth .ext (.var 4) (.cons (.comp [(O "part"),(O "inner")] [none,some 7] (.rev (.call (O "parts_of") (.cons (.ix (.var 5) (.cst (.int 0))) .nil))) (.nm 0) none (.tupl (.cons (.var 0) (.cons (.var 1) .nil)))) .nil))) .nil)))) (.cons (.drp (.meth .app (.var 4) (.cons (.call (O "opened") (.cons (.var 6) .nil)) .nil))) .nil)) .nil)))) (.cons (.ret (.call (O "built") (.cons (.var 3) .nil))) .nil))))
noncomputable def ZaK:Fd:=⟨[(O "self"),(O "E"),(O "around")],[(O "self"),(O "E"),(O "around"),(O "fronts"),(O "waiting"),(O "pair"),(O "thing"),(O "inner")],ZcA⟩
structure Trb(P:Pg):Prop extends Gn.Tre P where
 bound_names:P.tb.lookup (O "bound_names")=some Zag
 front_of:P.tb.lookup (O "front_of")=some ZbD
 count_parts:P.tb.lookup (O "count_parts")=some Zaf
 built:P.tb.lookup (O "built")=some Zdm
 bound_to:P.tb.lookup (O "bound_to")=some Zas
 opened:P.tb.lookup (O "opened")=some ZcX
 meant_by:P.tb.lookup (O "meant_by")=some Zao
 within:P.tb.lookup (O "within")=some Zcg
 n_Pen___init__:P.tb.lookup (mnm (O "Pen") (O "__init__"))=none
 Pen___init__:P.ms.lookup (mnm (O "Pen") (O "__init__"))=some ZP
 n_Pen_take_place:P.tb.lookup (mnm (O "Pen") (O "take_place"))=none
 tk:∃ x,P.ms.lookup (mnm (O "Pen") (O "take_place"))=some (Zj0 x)
 n_Pen_filled:P.tb.lookup (mnm (O "Pen") (O "filled"))=none
 Pen_filled:P.ms.lookup (mnm (O "Pen") (O "filled"))=some ZaK
structure Trm(P:Pg):Prop extends Trb P where
 is_value:P.tb.lookup (O "is_value")=some Zar
 put_in:P.tb.lookup (O "put_in")=some ZcW
 parts_first:P.tb.lookup (O "parts_first")=some Zy
 first_open:P.tb.lookup (O "first_open")=some ZaH
 way_down:P.tb.lookup (O "way_down")=some Zbx
 called:P.tb.lookup (O "called")=some ZcY
 chosen:P.tb.lookup (O "chosen")=some ZaI
 worked:P.tb.lookup (O "worked")=some Za4
 become:P.tb.lookup (O "become")=some ZcZ
 put_back:P.tb.lookup (O "put_back")=some ZbA
 stepped:P.tb.lookup (O "stepped")=some Zch
 gv:P.G (O "VALUES")=some (.tup [.str (O "num"),.str (O "fn"),.str (O "rec")])
 gb:P.G (O "BEYOND")=some (.int 1000000)
end Tm
end
section
namespace Tm
open PySem L2 IV
variable {P:Pg}{h:Hd}
section
variable {w:Wd}
@[simp] theorem ZuT:(w.s=O "num")↔False:=by cases w<;>simp [Wd.s]
@[simp] theorem ZuK:(w.s=O "name")↔False:=by cases w<;>simp [Wd.s]
@[simp] theorem ZuL:(w.s=O "call")↔False:=by cases w<;>simp [Wd.s]
@[simp] theorem ZvU:(w.s=O "if")↔False:=by cases w<;>simp [Wd.s]
@[simp] theorem ZvV:(w.s=O "fn")↔False:=by cases w<;>simp [Wd.s]
@[simp] theorem ZuS:(w.s=O "rec")↔False:=by cases w<;>simp [Wd.s]
@[simp] theorem Zfk:Zac Gn.Zcf (.inr w.s)=some (.tup [.int 0,.int 2]):=by cases w<;>rfl
end
noncomputable def bnd:T->List Str
 | .fn x _=>[x]
 | .rcc f x _=>[f,x]
 | _=>[]
noncomputable def fr:T->List D
 | .num n=>[.str (O "num"),.int n]
 | .name x=>[.str (O "name"),.str x]
 | .fn x _=>[.str (O "fn"),.str x]
 | .rcc f x _=>[.str (O "rec"),.str f,.str x]
 | .call _ _=>[.str (O "call")]
 | .iff _ _ _=>[.str (O "if")]
 | .op w _ _=>[.str w.s]
theorem ZvM(t:T):t.d=.tup (fr t++t.parts.map T.d):=by cases t<;>rfl
theorem Zhd (H:Trb P) (n:Nat) (t:T) (h:Hd):run P (n+1) (O "bound_names") [t.d] h=.ok (.tup ((bnd t).map .str)) h:=by
 have no:∀ (w:Str) (ds:List D),Zac Gn.Zcf (.inr w)=none->run P (n+1) (O "bound_names") [.tup (.str w::ds)] h=.ok (.tup []) h:=fun w ds e=>by
   rw [Zc H.bound_names rfl];show Zh (xs2 (P.tbl n) Zaj [some (.tup (.str w::ds))] h)=_;rw [Zaj,Ze ((Zr (Gn.ZbR H.toTre ⟨rfl,rfl⟩ Gn.ZcV e)).trans (Ze (ZA (d:=.tup []) rfl)))];rfl
 have yes:∀ (w:Str) (ds:List D) (a b:Int),Zac Gn.Zcf (.inr w)=some (.tup [.int a,.int b])->run P (n+1) (O "bound_names") [.tup (.str w::ds)] h=.ok (.tup (cutD (.str w::ds) (some 1) (some (1+a)))) h:=fun w ds a b e=>by
   rw [Zc H.bound_names rfl];show Zh (xs2 (P.tbl n) Zaj [some (.tup (.str w::ds))] h)=_;have q:=Gn.ZjY H.toTre (U:=P.tbl n) ⟨rfl,rfl⟩ (ds:=ds) (h:=h) e;have r:ev (P.tbl n) (.sl (.var 0) (some (.cst (.int 1))) (some (.bin .Add (.cst (.int 1)) (.ix (.ix (.glo (O "FORMS")) (.ix (.var 0) (.cst (.int 0)))) (.cst (.int 0)))))) [some (.tup (.str w::ds))] h=.ok (.tup (cutD (.str w::ds) (some 1) (some (1+a)))) h:=(Gn.ZkA (a:=.var 0) (x:=.tup (.str w::ds)) rfl rfl (Gn.ZhB q)).trans rfl;rw [Zaj,Za ((Zx (Gn.ZbR H.toTre ⟨rfl,rfl⟩ Gn.ZcV e)).trans rfl),Ze (ZA r)];rfl
 cases t with
 | num z=>exact no (O "num") _ rfl
 | name x=>exact no (O "name") _ rfl
 | fn x e=>exact yes (O "fn") _ 1 1 rfl
 | rcc f x e=>exact yes (O "rec") _ 2 1 rfl
 | call f a=>exact yes (O "call") _ 0 2 rfl
 | iff c a b=>exact yes (O "if") _ 0 3 rfl
 | op w a b=>exact yes w.s _ 0 2 Zfk
theorem ZiI (H:Trb P) (n:Nat) (h:Hd) (w:Str) (ds:List D) (e:Zac Gn.Zcf (.inr w)=none):run P (n+1) (O "front_of") [.tup (.str w::ds)] h=.ok (.tup (.str w::ds)) h:=by
 rw [Zc H.front_of rfl];show Zh (xs2 (P.tbl n) ZbL [some (.tup (.str w::ds))] h)=_;rw [ZbL,Ze ((Zr (Gn.ZbR H.toTre ⟨rfl,rfl⟩ Gn.ZcV e)).trans (Ze (ZA (d:=.tup (.str w::ds)) rfl)))];rfl
theorem Zce (H:Trb P) (n:Nat) (h:Hd) (w:Str) (ds:List D) (a b:Int) (e:Zac Gn.Zcf (.inr w)=some (.tup [.int a,.int b])):run P (n+1) (O "front_of") [.tup (.str w::ds)] h=.ok (.tup (cutD (.str w::ds) none (some (1+a)))) h:=by
 rw [Zc H.front_of rfl];show Zh (xs2 (P.tbl n) ZbL [some (.tup (.str w::ds))] h)=_;have q:=Gn.ZjY H.toTre (U:=P.tbl n) ⟨rfl,rfl⟩ (ds:=ds) (h:=h) e;have r:ev (P.tbl n) (.sl (.var 0) none (some (.bin .Add (.cst (.int 1)) (.ix (.ix (.glo (O "FORMS")) (.ix (.var 0) (.cst (.int 0)))) (.cst (.int 0)))))) [some (.tup (.str w::ds))] h=.ok (.tup (cutD (.str w::ds) none (some (1+a)))) h:=(Gn.ZkA (a:=.var 0) (x:=.tup (.str w::ds)) rfl rfl (Gn.ZhB q)).trans rfl;rw [ZbL,Za ((Zx (Gn.ZbR H.toTre ⟨rfl,rfl⟩ Gn.ZcV e)).trans rfl),Ze (ZA r)];rfl
theorem ZoT (H:Trb P) (n:Nat) (t:T) (h:Hd):run P (n+1) (O "front_of") [t.d] h=.ok (.tup (fr t)) h:=by
 cases t with
 | num z=>exact ZiI H n h (O "num") _ rfl
 | name x=>exact ZiI H n h (O "name") _ rfl
 | fn x e=>exact Zce H n h (O "fn") _ 1 1 rfl
 | rcc f x e=>exact Zce H n h (O "rec") _ 2 1 rfl
 | call f a=>exact Zce H n h (O "call") _ 0 2 rfl
 | iff c a b=>exact Zce H n h (O "if") _ 0 3 rfl
 | op w a b=>exact Zce H n h w.s _ 0 2 Zfk
theorem ZoU (H:Trb P) (n:Nat) (t:T) (h:Hd):run P (n+1) (O "count_parts") [.tup (fr t)] h=.ok (.int t.parts.length) h:=by
 have no:∀ (w:Str) (ds:List D),Zac Gn.Zcf (.inr w)=none->run P (n+1) (O "count_parts") [.tup (.str w::ds)] h=.ok (.int 0) h:=fun w ds e=>by
   rw [Zc H.count_parts rfl];show Zh (xs2 (P.tbl n) Zai [some (.tup (.str w::ds))] h)=_;rw [Zai,Ze ((Zr (Gn.ZbR H.toTre ⟨rfl,rfl⟩ Gn.ZcV e)).trans (Ze (ZA (d:=.int 0) rfl)))];rfl
 have yes:∀ (w:Str) (ds:List D) (a b:Int),Zac Gn.Zcf (.inr w)=some (.tup [.int a,.int b])->run P (n+1) (O "count_parts") [.tup (.str w::ds)] h=.ok (.int b) h:=fun w ds a b e=>by
   rw [Zc H.count_parts rfl];show Zh (xs2 (P.tbl n) Zai [some (.tup (.str w::ds))] h)=_;have r:ev (P.tbl n) (.ix (.ix (.glo (O "FORMS")) (.ix (.var 0) (.cst (.int 0)))) (.cst (.int 1))) [some (.tup (.str w::ds))] h=.ok (.int b) h:=by
     rw [ZiN,Gn.Zk3 H.toTre ⟨rfl,rfl⟩ Gn.ZcV e];rfl
   rw [Zai,Za ((Zx (Gn.ZbR H.toTre ⟨rfl,rfl⟩ Gn.ZcV e)).trans rfl),Ze (ZA r)];rfl
 cases t with
 | num z=>exact no (O "num") _ rfl
 | name x=>exact no (O "name") _ rfl
 | fn x e=>exact yes (O "fn") _ 1 1 rfl
 | rcc f x e=>exact yes (O "rec") _ 2 1 rfl
 | call f a=>exact yes (O "call") _ 0 2 rfl
 | iff c a b=>exact yes (O "if") _ 0 3 rfl
 | op w a b=>exact yes w.s _ 0 2 Zfk
noncomputable abbrev Ar:=List (Str×Option T)
noncomputable def thd (V:T):D:=.tup [.str (O "clo"),V.d,.tup []]
noncomputable def ard(p:Str×Option T):D:=.tup [.str p.1,match p.2 with|some V=>thd V|none=>.non]
noncomputable def get:Ar->Str->Option T
 | [],_=>none
 | (y,v)::r,x=>if y=x then v else get r x
noncomputable abbrev En:=List (Str×Option Rw.Th)
noncomputable def edd(p:Str×Option Rw.Th):D:=.tup [.str p.1,Rw.thD p.2]
noncomputable def ZdL:En->Str->Option Rw.Th
 | [],_=>none
 | (y,v)::r,x=>if y=x then v else ZdL r x
noncomputable def Znt:Sxs:=(.cons (.iff (.ex (.cmp .Eq (.var 2) (.var 0))) (.cons (.ret (.var 3)) .nil) .nil) .nil)
theorem Zub{U:Tb}{x:Str}{o:D}:∀ (ar:En) (a b:Option D),(∃ S,ZS none (.two 2 3) (xs2 U Znt) (ar.map edd) [some (.str x),some o,a,b] h=.ok (.rt (Rw.thD (ZdL ar x)),S) h)\/(ZdL ar x=none/\∃ S,ZS none (.two 2 3) (xs2 U Znt) (ar.map edd) [some (.str x),some o,a,b] h=.ok (.nx,S) h)
 | [],a,b=>.inr ⟨rfl,_,rfl⟩
 | (y,v)::r,a,b=>by
   have tt:tst U (.ex (.cmp .Eq (.var 2) (.var 0))) [some (.str x),some o,some (.str y),some (Rw.thD v)] h=.ok (decide (y=x)) h:=Zgq rfl rfl;by_cases e:y=x
   . refine .inl ⟨[some (.str x),some o,some (.str y),some (Rw.thD v)],?_⟩;rw [ZdL,if_pos e];exact Zsw rfl (Ze ((Zr (Zt tt (decide_eq_true e))).trans (Ze (ZA rfl))))
   . have b1:xs2 U Znt [some (.str x),some o,some (.str y),some (Rw.thD v)] h=.ok (.nx,[some (.str x),some o,some (.str y),some (Rw.thD v)]) h:=(Za ((Zx (Zt tt (decide_eq_false e))).trans rfl)).trans rfl;have s1:=Zhx (g:=.two 2 3) (ds:=r.map edd) (S:=[some (.str x),some o,a,b]) (d:=edd (y,v)) rfl b1;rw [ZdL,if_neg e];rcases Zub (U:=U) (x:=x) (o:=o) r (some (.str y)) (some (Rw.thD v)) with ⟨S,q⟩|⟨q0,S,q⟩
     . exact .inl ⟨S,s1.trans q⟩
     . exact .inr ⟨q0,S,s1.trans q⟩
theorem Zvg (H:Trb P) (n:Nat) (x:Str) (ar:En):run P (n+1) (O "bound_to") [.str x,.tup (ar.map edd)] h=.ok (Rw.thD (ZdL ar x)) h:=by
 rw [Zc H.bound_to (by rfl)];rcases Zub (U:=P.tbl n) (h:=h) (x:=x) (o:=.tup (ar.map edd)) ar none none with ⟨S,q⟩|⟨q0,S,q⟩
 . have w:xs2 (P.tbl n) Z6 [some (.str x),some (.tup (ar.map edd)),none,none] h=.ok (.rt (Rw.thD (ZdL ar x)),S) h:=Ze ((ZdJ (Zhz rfl)).trans q);exact congrArg Zh w
 . have w:xs2 (P.tbl n) Z6 [some (.str x),some (.tup (ar.map edd)),none,none] h=.ok (.rt .non,S) h:=(Za ((ZdJ (Zhz rfl)).trans q)).trans (Ze (ZA rfl));rw [q0];exact congrArg Zh w
noncomputable def mean(ar:Ar):T->Option T
 | .name x=>get ar x
 | _=>none
noncomputable def Zcn(ar:En):T->Option Rw.Th
 | .name x=>ZdL ar x
 | _=>none
theorem Zhc (H:Trb P) (n:Nat) (t:T) (ar:En):run P (n+2) (O "meant_by") [t.d,.tup (ar.map edd)] h=.ok (Rw.thD (Zcn ar t)) h:=by
 rw [Zc H.meant_by (by cases t<;>rfl)];cases t with
 | name x =>
   exact Zgc (U:=P.tbl (n+1)) (fun U=>Zh (xs2 U Zao.body (Zn Zao.N [(T.name x).d,.tup (ar.map edd)]) h)) (Zvg H n (h:=h) x ar) rfl rfl
 | op w a b=>cases w<;>exact rfl
 | _=>exact rfl
noncomputable def inn(t:T)(ar:Ar):Ar:=(bnd t).map (fun x=>(x,none))++ar
noncomputable def Zb3(t:T)(ar:En):En:=(bnd t).map (fun x=>(x,none))++ar
theorem ZiY{U:Tb}:∀ (xs:List Str) (acc:List D),acc.length+xs.length<=1000->ZL none (.nm 0) (tsto U none) (ev U (.tupl (.cons (.var 0) (.cons (.cst .non) .nil)))) (xs.map .str) [none] acc h=.ok (acc++(xs.map fun x=>D.tup [.str x,.non])) h
 | [],acc,_=>by simp [ZL,Wk.stays]
 | x::xs,acc,hz=>by
   have ih:=ZiY (U:=U) xs (acc++[.tup [.str x,.non]]) (by simp at hz ⊢;omega);have hl:acc.length<16777216:=by simp at hz;omega
   rw [Op,ZW];simp [Wk.stays,hl,sizeLine_eq];simpa using ih
theorem ZmF (H:Trb P) (n:Nat) (t:T) (ar:En) (hz:ar.length<=100000):run P (n+2) (O "within") [t.d,.tup (ar.map edd)] h=.ok (.tup ((Zb3 t ar).map edd)) (h++[.lst ((bnd t).map fun x=>.tup [.str x,.non])]):=by
 rw [Zc H.within (by cases t<;>rfl)];have e:=Zhd H n t h;have hb:(bnd t).length<=2:=by cases t<;>simp [bnd]
 have c:=ZiY (U:=⟨P.G,P.GD,run P (n+1),P.L⟩) (h:=h) (bnd t) [] (by simp;omega);have cat:∀ h',opB .Add (.tup ((bnd t).map fun x=>D.tup [.str x,.non])) (.tup (ar.map edd)) h'=.ok (.tup ((Zb3 t ar).map edd)) h':=by
   intro h';rw [Zdi (by rw [sizeLine_eq];simp;omega)];simp [Zb3,edd,Rw.thD,Function.comp_def]
 simp at c;simp [Zcg,Zi0,Zn,e,Zan,Zbp,c,Zb4,Zme,lstOf,cat]
noncomputable def opn:Rw.Th->T×Rw.Ar
 | .num n=>(.num n,.nil)
 | .clo E ar=>(E,ar)
theorem Zic (H:Trb P) (n:Nat) (v:Rw.Th):run P (n+1) (O "opened") [v.d] h=.ok (.tup [(opn v).1.d,.tup (opn v).2.ds]) h:=by
 rw [Zc H.opened (by cases v<;>rfl)];cases v<;>exact rfl
end Tm
end
section
namespace Tm
open PySem L2 IV
variable {P:Pg}
noncomputable def sub:Ar->T->T
 | _,.num n=>.num n
 | ar,.name x=>(get ar x).getD (.name x)
 | ar,.fn x e=>.fn x (sub ((x,none)::ar) e)
 | ar,.rcc f x e=>.rcc f x (sub ((f,none)::(x,none)::ar) e)
 | ar,.call f a=>.call (sub ar f) (sub ar a)
 | ar,.iff c t e=>.iff (sub ar c) (sub ar t) (sub ar e)
 | ar,.op w a b=>.op w (sub ar a) (sub ar b)
noncomputable def NN(ar:Ar):Prop:=∀ x,get ar x=none
theorem NN.cons{ar:Ar}(h:NN ar)(y:Str):NN ((y,none)::ar):=fun x=>by
 unfold get;split
 . rfl
 . exact h x
theorem Zbt:∀ (t:T) {ar:Ar},NN ar->sub ar t=t
 | .num _,_,_=>rfl
 | .name x,_,h=>by rw [sub,h x];rfl
 | .fn x e,_,h=>by rw [sub,Zbt e (h.cons x)]
 | .rcc f x e,_,h=>by rw [sub,Zbt e ((h.cons x).cons f)]
 | .call f a,_,h=>by rw [sub,Zbt f h,Zbt a h]
 | .iff c t e,_,h=>by rw [sub,Zbt c h,Zbt t h,Zbt e h]
 | .op w a b,_,h=>by rw [sub,Zbt a h,Zbt b h]
theorem Zb(t:T):t.size=1+(t.parts.map T.size).sum:=by
 unfold T.size;rw [T.places_parts];simp only [Os,List.length_flatMap];omega
theorem Zbv(t:T):1<=t.size:=by rw [Zb];omega
theorem Zlm(t:T)(ar:Ar)(h:mean ar t=none):(sub ar t).parts=t.parts.map (sub (inn t ar))/\fr (sub ar t)=fr t:=by
 cases t with
 | name x=>rw [sub,show get ar x=none from h];exact ⟨rfl,rfl⟩
 | _=>exact ⟨rfl,rfl⟩
theorem ZlQ{t:T}{ar:Ar}{V:T}(h:mean ar t=some V):sub ar t=V:=by
 cases t with
 | name x=>rw [sub,show get ar x=some V from h];rfl
 | _=>cases h
end Tm
namespace Rw
open PySem L2 IV
mutual
noncomputable def rd:Th->T
 | .num n=>.num n
 | .clo E ar=>Tm.sub (ra ar) E
noncomputable def ra:Ar->List (Str×Option T)
 | .nil=>[]
 | .cons x v r=>(x,some (rd v))::ra r
end
end Rw
namespace Tm
open PySem L2 IV
variable {P:Pg}
noncomputable def er(e:En):Ar:=e.map fun p=>(p.1,p.2.map Rw.rd)
noncomputable def up:Rw.Ar->En
 | .nil=>[]
 | .cons x v r=>(x,some v)::up r
theorem Zks:∀ ar:Rw.Ar,(up ar).map edd=ar.ds
 | .nil=>by rw [up,Rw.Ar.ds];rfl
 | .cons x v r=>by rw [up,Rw.Ar.ds,Op,Zks r];rfl
theorem ZnY:∀ ar:Rw.Ar,er (up ar)=Rw.ra ar
 | .nil=>by rw [up,Rw.ra];rfl
 | .cons x v r=>by rw [up,Rw.ra,<- ZnY r];rfl
theorem Zi9:∀ ar:Rw.Ar,(up ar).length=ar.len
 | .nil=>rfl
 | .cons x v r=>by rw [up,Rw.Ar.len,Os,Zi9 r]
theorem ZjW(x:Str):∀ e:En,get (er e) x=(ZdL e x).map Rw.rd
 | []=>rfl
 | (y,v)::r=>by
   show (if y=x then v.map Rw.rd else get (er r) x)=(if y=x then v else ZdL r x).map Rw.rd;split
   . rfl
   . exact ZjW x r
theorem ZsA(t:T)(e:En):er (Zb3 t e)=inn t (er e):=by simp [er,Zb3,inn,Function.comp_def]
noncomputable def tel(p:T×En):T:=sub (er p.2) p.1
theorem Zj7{t:T}{e:En}(h:Zcn e t=none):mean (er e) t=none:=by
 cases t with
 | name x=>show get (er e) x=none;rw [ZjW,show ZdL e x=none from h];rfl
 | _=>rfl
theorem Zg5(v:Rw.Th):tel ((opn v).1,up (opn v).2)=Rw.rd v:=by
 cases v with
 | num n=>rw [Rw.rd];rfl
 | clo E ar=>show sub (er (up ar)) E=_;rw [ZnY,Rw.rd]
theorem Zf6{t:T}{e:En}{v:Rw.Th}(h:Zcn e t=some v):tel (t,e)=Rw.rd v:=by
 cases t with
 | name x=>refine ZlQ ?_;show get (er e) x=_;rw [ZjW,show ZdL e x=some v from h];rfl
 | _=>cases h
theorem Zgv{t:T}{e:En}(h:Zcn e t=none):(tel (t,e)).parts=t.parts.map (fun s=>tel (s,Zb3 t e))/\fr (tel (t,e))=fr t:=by
 obtain ⟨a,b⟩:=Zlm t (er e) (Zj7 h);refine ⟨a.trans ?_,b⟩;rw [<- ZsA];rfl
noncomputable def tf(t:T):D:=.tup (fr t)
theorem ZeO{h:Hd}{i:Nat}{o:DO}(e:h[i]? = some o):i<h.length:=(Ob.mp e).1
theorem keep{h:Hd}{i:Nat}{o:DO}{g:Hd}(e:h[i]? = some o):(h++g)[i]? = some o:=by
 rw [Oe (ZeO e)];exact e
structure B_(h0 h:Hd)(fk dk:Nat)(fs ds:List D):Prop where
 f:h[fk]? = some (.lst fs)
 d:h[dk]? = some (.lst ds)
 ne:dk≠fk
 o1:h0.length<=dk
 ol:h0.length<=h.length
 old:∀ i,i<h0.length->h[i]? = h0[i]?
theorem B_.set{h0 h:Hd}{fk dk:Nat}{fs ds:List D}(b:B_ h0 h fk dk fs ds)(es:List D):B_ h0 (h.set dk (.lst es)) fk dk fs es :=
 ⟨by rw [Oc b.ne];exact b.f,by rw [Ol (ZeO b.d)],b.ne,b.o1,by simpa using b.ol,fun i hi=>by rw [Oc (by have:=b.o1;omega)];exact b.old i hi⟩
theorem B_.app{h0 h g:Hd}{fk dk:Nat}{fs ds:List D}(b:B_ h0 h fk dk fs ds):B_ h0 (h++g) fk dk fs ds :=
 ⟨keep b.f,keep b.d,b.ne,b.o1,by have:=b.ol;simp;omega,fun i hi=>by rw [Oe (by have:=b.ol;omega)];exact b.old i hi⟩
theorem ZqP{U:Tb}{h0:Hd}{fk dk:Nat}{fs:List D}:∀ (ks xs D0 acc:List D) (h:Hd),ks.length=xs.length->acc.length+xs.length<=1000->B_ h0 h fk dk fs (D0++xs.reverse)->∃ h',
   ZL none (.nm 0) (tsto U none) (ev U (.meth .pop (.var 1) .nil)) ks [none,some (.ref dk)] acc h=.ok (acc++xs) h'/\B_ h0 h' fk dk fs D0
 | [],[],D0,acc,h,_,_,b=>⟨h,by simp [ZL,Wk.stays],by simpa using b⟩
 | [],_::_,_,_,_,e,_,_=>by cases e
 | _::_,[],_,_,_,e,_,_=>by cases e
 | k::ks,x::xs,D0,acc,h,e,hz,b=>by
   have b1:B_ h0 h fk dk fs ((D0++xs.reverse)++[x]):=by simpa using b
   obtain ⟨h',q,b2⟩:=ZqP (U:=U) ks xs D0 (acc++[x]) _ (by simpa using e) (by simp at hz ⊢;omega) (b1.set (D0++xs.reverse));refine ⟨h',?_,b2⟩;have pp:=Ziq b1.d;have il:=Zex b1.d;have hl:acc.length<16777216:=by simp at hz;omega
   rw [ZW];simp [Wk.stays,hl,sizeLine_eq,il,pp];simpa using q
noncomputable def Zea:Sxs:=(.cons (.set (.nm 3) (.comp [(O "k"),(O "done")] [none,some 1] (.rng (.call (O "count_parts") (.cons (.var 2) .nil))) (.nm 0) none (.meth .pop (.var 1) .nil))) (.cons (.drp (.meth .app (.var 1) (.cons (.bin .Add (.var 2) (.blt .tup (.cons (.var 3) .nil))) .nil))) .nil))
theorem ZoG(H:Trb P)(n:Nat){h0 h:Hd}{fk dk:Nat}{fs D0:List D}(t:T)(b:B_ h0 h fk dk fs (D0++(t.parts.map T.d).reverse))(hz:D0.length<=1000000)(o0 o3:Option D):∃ h' o3',
   xs2 (P.tbl (n+1)) Zea [o0,some (.ref dk),some (tf t),o3] h=.ok (.nx,[o0,some (.ref dk),some (tf t),o3']) h'/\B_ h0 h' fk dk fs (D0++[t.d]):=by
 have hp:t.parts.length<=3:=by cases t<;>simp [T.parts]
 have hf:(fr t).length<=3:=by cases t<;>simp [fr]
 have ec:=ZoU H n t h;obtain ⟨h1,q1,b1⟩:=ZqP (U:=P.tbl (n+1)) (Zaz 0 t.parts.length) (t.parts.map T.d) D0 [] h (by simp [Zaz]) (by simp;omega) b;have s62:Za1 (t.parts.length:Int)=true:=by simp [Za1];omega
 have b2:=(b1.app (g:=[.lst (t.parts.map T.d)])).set (D0++[t.d]);refine ⟨_,some (.ref h1.length),?_,b2⟩;have k1:(h1++[DO.lst (t.parts.map T.d)])[dk]? = some (.lst D0):=keep b1.d;have x1:xs1 (P.tbl (n+1)) (.set (.nm 3) (.comp [(O "k"),(O "done")] [none,some 1] (.rng (.call (O "count_parts") (.cons (.var 2) .nil))) (.nm 0) none (.meth .pop (.var 1) .nil))) [o0,some (.ref dk),some (tf t),o3] h=.ok (.nx,[o0,some (.ref dk),some (tf t),some (.ref h1.length)]) (h1++[.lst (t.parts.map T.d)]):=by
   have ei:evi (P.tbl (n+1)) (.rng (.call (O "count_parts") (.cons (.var 2) .nil))) [o0,some (.ref dk),some (tf t),o3] h=.ok ⟨none,Zaz 0 t.parts.length⟩ h:=by
     have e1:ev (P.tbl (n+1)) (.call (O "count_parts") (.cons (.var 2) .nil)) [o0,some (.ref dk),some (tf t),o3] h=.ok (.int t.parts.length) h:=ec;rw [ZpZ,e1,Zl];exact (if_pos s62).trans (by rw [Int.toNat_natCast])
   rw [Ze6,Zfe,ei,Zl];simp only [Zbp,Op,Oy,Option.bind_none,Option.bind_some];rw [show ([o0,some (D.ref dk),some (tf t),o3][1]?).join=some (.ref dk) from rfl,q1];rfl
 have x2:xs1 (P.tbl (n+1)) (.drp (.meth .app (.var 1) (.cons (.bin .Add (.var 2) (.blt .tup (.cons (.var 3) .nil))) .nil))) [o0,some (.ref dk),some (tf t),some (.ref h1.length)] (h1++[.lst (t.parts.map T.d)])=.ok (.nx,[o0,some (.ref dk),some (tf t),some (.ref h1.length)]) (List.set (h1++[.lst (t.parts.map T.d)]) dk (.lst (D0++[t.d]))):=by
   have ap:=Zd9 (d:=t.d) k1 (by rw [sizeLine_eq];omega);have il:=Zex k1;have ad:∀ h',opB .Add (tf t) (.tup (t.parts.map T.d)) h'=.ok t.d h':=fun h'=>by rw [ZvM];exact Zdi (by rw [sizeLine_eq];simp;omega)
   simp [il,Zb4,Zme,lstOf,ad,ap]
 rw [Zea,Za x1,Za x2];rfl
end Tm
end
section
namespace Tm
open PySem L2 IV
variable {P:Pg}
theorem ZiJ{j:Nat}{L:List D}{g:Tg}{body:Ev->Hd->R (Fl×Ev)}{d:D}{ds:List D}{S ρ1 ρ2:Ev}{h h2:Hd}(e:h[j]? = some (.lst L))(b:ZbG g d S=some ρ1)(q:body ρ1 h=.ok (.nx,ρ2) h2):ZS (some (j,L)) g body (d::ds) S h=ZS (some (j,L)) g body ds ρ2 h2:=by
 have:Wk.stays (some (j,L)) h=true:=by simp [Wk.stays,e]
 rw [ZS,if_pos this,b];simp only;rw [q];rfl
theorem ZiK{j:Nat}{L:List D}{g:Tg}{body:Ev->Hd->R (Fl×Ev)}{S:Ev}{h:Hd}(e:h[j]? = some (.lst L)):ZS (some (j,L)) g body [] S h=.ok (.nx,S) h:=by
 have:Wk.stays (some (j,L)) h=true:=by simp [Wk.stays,e]
 rw [ZS,if_pos this]
noncomputable def wb(P:Pg)(n fk dk:Nat)(fs:List D)(o0:Option D)(rest:List D)(o2 o3:Option D)(h:Hd):R (Fl×Ev):=ZS (some (fk,fs)) (.nm 2) (xs2 (P.tbl (n+1)) Zea) rest [o0,some (.ref dk),o2,o3] h
noncomputable def Bt(P:Pg)(n:Nat)(h0:Hd)(fk dk:Nat)(fs:List D)(o0:Option D)(xs D0 D1:List D):Prop:=∀ (rest:List D) (h:Hd) (o2 o3:Option D),B_ h0 h fk dk fs D0->∃ h' o2' o3',wb P n fk dk fs o0 (xs++rest) o2 o3 h=wb P n fk dk fs o0 rest o2' o3' h'/\B_ h0 h' fk dk fs D1
section
variable {n:Nat}{h0:Hd}{fk dk:Nat}{fs:List D}{o0:Option D}{xs ys D0 D1 D2:List D}
theorem Bt.trans(a:Bt P n h0 fk dk fs o0 xs D0 D1)(b:Bt P n h0 fk dk fs o0 ys D1 D2):Bt P n h0 fk dk fs o0 (xs++ys) D0 D2:=fun rest h o2 o3 q=>by
 obtain ⟨h1,o21,o31,e1,q1⟩:=a (ys++rest) h o2 o3 q;obtain ⟨h2,o22,o32,e2,q2⟩:=b rest h1 o21 o31 q1;exact ⟨h2,o22,o32,by rw [Oz,e1,e2],q2⟩
theorem Bt.front(H:Trb P)(t:T)(hz:D0.length<=1000000):Bt P n h0 fk dk fs o0 [tf t] (D0++(t.parts.map T.d).reverse) (D0++[t.d]):=fun rest h o2 o3 b=>by
 obtain ⟨h',o3',e,b'⟩:=ZoG H n t b hz o0 o3;exact ⟨h',some (tf t),o3',ZiJ b.f rfl e,b'⟩
end
theorem Zb0(H:Trb P){n:Nat}{h0:Hd}{fk dk:Nat}{fs:List D}{o0:Option D}:∀ (t:T) (D0:List D),D0.length+t.size<=1000000->Bt P n h0 fk dk fs o0 (t.places.map tf).reverse D0 (D0++[t.d])
 | .num m,D0,hz=>by simpa [T.places,T.parts] using Bt.front (P:=P) (n:=n) (h0:=h0) (fk:=fk) (dk:=dk) (fs:=fs) (o0:=o0) (D0:=D0) H (.num m) (by omega)
 | .name m,D0,hz=>by simpa [T.places,T.parts] using Bt.front (P:=P) (n:=n) (h0:=h0) (fk:=fk) (dk:=dk) (fs:=fs) (o0:=o0) (D0:=D0) H (.name m) (by omega)
 | .fn x e,D0,hz=>by
   rw [Zb] at hz;simp only [T.parts,Op,Oy,OI,List.sum_nil] at hz;have a:=(Zb0 H (n:=n) (h0:=h0) (fk:=fk) (dk:=dk) (fs:=fs) (o0:=o0) e D0 (by omega)).trans (Bt.front H (.fn x e) (by omega));simpa [T.places,T.parts] using a
 | .rcc f x e,D0,hz=>by
   rw [Zb] at hz;simp only [T.parts,Op,Oy,OI,List.sum_nil] at hz;have a:=(Zb0 H (n:=n) (h0:=h0) (fk:=fk) (dk:=dk) (fs:=fs) (o0:=o0) e D0 (by omega)).trans (Bt.front H (.rcc f x e) (by omega));simpa [T.places,T.parts] using a
 | .call f a,D0,hz=>by
   rw [Zb] at hz;simp only [T.parts,Op,Oy,OI,List.sum_nil] at hz;have s1:=Zbv f;have q:=(Zb0 H (n:=n) (h0:=h0) (fk:=fk) (dk:=dk) (fs:=fs) (o0:=o0) a D0 (by omega)).trans (Zb0 H f (D0++[a.d]) (by simp;omega));have r:=Bt.front (P:=P) (n:=n) (h0:=h0) (fk:=fk) (dk:=dk) (fs:=fs) (o0:=o0) (D0:=D0) H (.call f a) (by omega);simp only [T.parts,Op,Oy,List.reverse_cons,List.reverse_nil,OB] at r;rw [<- Oz] at r;simpa [T.places] using q.trans r
 | .op w f a,D0,hz=>by
   rw [Zb] at hz;simp only [T.parts,Op,Oy,OI,List.sum_nil] at hz;have s1:=Zbv f;have q:=(Zb0 H (n:=n) (h0:=h0) (fk:=fk) (dk:=dk) (fs:=fs) (o0:=o0) a D0 (by omega)).trans (Zb0 H f (D0++[a.d]) (by simp;omega));have r:=Bt.front (P:=P) (n:=n) (h0:=h0) (fk:=fk) (dk:=dk) (fs:=fs) (o0:=o0) (D0:=D0) H (.op w f a) (by omega);simp only [T.parts,Op,Oy,List.reverse_cons,List.reverse_nil,OB] at r;rw [<- Oz] at r;simpa [T.places] using q.trans r
 | .iff c t e,D0,hz=>by
   rw [Zb] at hz;simp only [T.parts,Op,Oy,OI,List.sum_nil] at hz;have s1:=Zbv c;have s2:=Zbv t;have q:=((Zb0 H (n:=n) (h0:=h0) (fk:=fk) (dk:=dk) (fs:=fs) (o0:=o0) e D0 (by omega)).trans (Zb0 H t (D0++[e.d]) (by simp;omega))).trans (Zb0 H c (D0++[e.d]++[t.d]) (by simp;omega));have r:=Bt.front (P:=P) (n:=n) (h0:=h0) (fk:=fk) (dk:=dk) (fs:=fs) (o0:=o0) (D0:=D0) H (.iff c t e) (by omega);simp only [T.parts,Op,Oy,List.reverse_cons,List.reverse_nil,OB] at r;rw [<- Oz,<- Oz] at r;simpa [T.places] using q.trans r
theorem ZoV (H:Trb P) (n:Nat) (t:T) {h:Hd}{fk:Nat} (hf:h[fk]? = some (.lst (t.places.map tf))) (hz:t.size<=500000):∃ g,run P (n+2) (O "built") [.ref fk] h=.ok t.d (h++g):=by
 rw [Zc H.built (by rfl)];have b0:B_ h (h++[.lst []]) fk h.length (t.places.map tf) []:=⟨keep hf,by simp,by have:=ZeO hf;omega,Oq _,by simp,fun i hi=>Oe hi⟩
 obtain ⟨h1,o2,o3,e1,b1⟩:=Zb0 H (n:=n) (o0:=some (.ref fk)) t [] (by simp;omega) [] _ none none b0;have e2:wb P n fk h.length (t.places.map tf) (some (.ref fk)) [] o2 o3 h1=.ok (.nx,[some (.ref fk),some (.ref h.length),o2,o3]) h1:=ZiK b1.f;rw [e2,List.append_nil] at e1;have ex:∃ g,h1=h++g:=⟨h1.drop h.length,by
   apply List.ext_getElem?;intro i;rcases Nat.lt_or_ge i h.length with q|q
   . rw [b1.old i q,Oe q]
   . rw [Om q,List.getElem?_drop];congr 1;omega⟩
 obtain ⟨g,rfl⟩:=ex;refine ⟨g,?_⟩;have x0:=ZI (GD:=P.GD) (k:=0) b1.d;have hw:Zgt (.ref fk) (h++[.lst []])=some ⟨some (fk,t.places.map tf),t.places.map tf⟩:=by simp [Zgt,b0.f]
 unfold wb Zea at e1;simp only [Pg.tbl] at e1;simp only [OB] at x0;simp [Zdm,Zlc,Zn,sizeLine_eq,hw,e1,x0]
end Tm
end
section
namespace Tm
open PySem L2 IV
variable {P:Pg}
noncomputable def ZaR (mo:D) (u:Int):DO:=.ins (O "Pen") [(O "most",mo),(O "used",.int u)]
noncomputable def Lim(mo:D)(z:Int):Prop:=mo=.non\/∃ m:Int,mo=.int m/\z<=m
theorem ZqC (H:Trb P) (n:Nat) (mo:D) (h:Hd):Znm (run P (n+1)) (O "Pen") [mo] h=.ok (.ref h.length) (h++[ZaR mo 0]):=by
 unfold Znm;rw [ZdG H.n_Pen___init__ H.Pen___init__ (by rfl)];simp [ZP,Zdc,Zn,Zg8,ZlA,sizeLine_eq,ZaR]
theorem ZpQ{u:Int}{h:Hd}:IV.Zb1 false (D.int u) D.non h=.ok (D.bl false) h:=by
 have e:PyData.eqv (.int u) .none=false:=by simp [PyData.eqv]
 show (if min (PyData.int u).depth PyData.none.depth<=1100 then R.ok (D.bl (if false then !PyData.eqv (.int u) .none else PyData.eqv (.int u) .none)) h else .bad)=_;rw [if_pos (by simp [PyData.depth]),e];rfl
theorem ZmG (H:Trb P) (n:Nat) {h:Hd}{pk:Nat}{mo:D}{u:Int} (lm:Lim mo (u+1)) (hp:h[pk]? = some (ZaR mo u)):run P (n+1) (mnm (O "Pen") (O "take_place")) [.ref pk] h=.ok .non (h.set pk (ZaR mo (u+1))):=by
 obtain ⟨x,ht⟩:=H.tk;rw [ZdG H.n_Pen_take_place ht (by rfl)];have ne:IV.Zb1 false (D.int u) mo h=.ok (D.bl false) h:=by
   rcases lm with rfl|⟨m,rfl,q⟩
   . exact ZpQ
   . have:¬ u=m:=by omega
     simp [this]
 unfold ZaR at hp ⊢;simp [Zj0,Zkf,Zn,Zgp,ZY,hp,List.lookup,ne,Zg8,ZlA]
noncomputable def Wid (P:Pg):Prop:=∃ m,P.ms.lookup (mnm (O "Pen") (O "take_place"))=some (Zj0 (.rai (O "Wide") (.cst m)))
theorem Zib (H:Trb P) (w:Wid P) (n:Nat) {h:Hd}{pk:Nat}{u:Int} (hp:h[pk]? = some (ZaR (.int u) u)):run P (n+1) (mnm (O "Pen") (O "take_place")) [.ref pk] h=.exc (O "Wide") h:=by
 obtain ⟨m,ht⟩:=w;rw [ZdG H.n_Pen_take_place ht (by rfl)];have t1:tst (P.tbl n) (.ex (.cmp .Eq (.att [(O "Pen")] (.var 0) (O "used")) (.att [(O "Pen")] (.var 0) (O "most")))) [some (.ref pk)] h=.ok true h:=by
   unfold ZaR at hp;simp [Zgp,ZY,hp,List.lookup]
 exact congrArg Zh (ZcJ (r:=tlS (Zkf (.rai (O "Wide") (.cst m)))) ((Zr t1).trans (ZcJ (Zts rfl))))
noncomputable def pr(p:T×En):D:=.tup [p.1.d,.tup (p.2.map edd)]
structure Fi(mo:D)(h0 h:Hd)(pk fk wk:Nat)(u:Int)(F:List D)(W:List D):Prop where
 p:h[pk]? = some (ZaR mo u)
 f:h[fk]? = some (.lst F)
 w:h[wk]? = some (.lst W)
 ne:fk≠wk
 o2:h0.length<=fk
 o3:h0.length<=wk
 ol:h0.length<=h.length
 old:∀ i,i<h0.length->i≠pk->h[i]? = h0[i]?
section
variable {mo:D}{h0 h g:Hd}{pk fk wk:Nat}{u:Int}{F W:List D}
theorem Fi.app(q:Fi mo h0 h pk fk wk u F W):Fi mo h0 (h++g) pk fk wk u F W:=⟨keep q.p,keep q.f,keep q.w,q.ne,q.o2,q.o3,by have:=q.ol;simp;omega,fun i hi hn=>by rw [Oe (by have:=q.ol;omega)];exact q.old i hi hn⟩
theorem Zhk{i j:Nat}{l:List D}(a:h[i]? = some (ZaR mo u))(b:h[j]? = some (.lst l)):i≠j:=fun z=>by
 rw [z,b] at a;cases a
theorem Fi.setP(q:Fi mo h0 h pk fk wk u F W)(v:Int):Fi mo h0 (h.set pk (ZaR mo v)) pk fk wk v F W :=
 ⟨by rw [Ol (ZeO q.p)],by rw [Oc (Zhk q.p q.f)];exact q.f,by rw [Oc (Zhk q.p q.w)];exact q.w,q.ne,q.o2,q.o3,by simpa using q.ol,fun i hi hn=>by rw [Oc (Ne.symm hn)];exact q.old i hi hn⟩
theorem Fi.setF(q:Fi mo h0 h pk fk wk u F W)(G:List D):Fi mo h0 (h.set fk (.lst G)) pk fk wk u G W :=
 ⟨by rw [Oc (Zhk q.p q.f).symm];exact q.p,by rw [Ol (ZeO q.f)],by rw [Oc q.ne];exact q.w,q.ne,q.o2,q.o3,by simpa using q.ol,fun i hi hn=>by rw [Oc (by have:=q.o2;omega)];exact q.old i hi hn⟩
theorem Fi.setW(q:Fi mo h0 h pk fk wk u F W)(G:List D):Fi mo h0 (h.set wk (.lst G)) pk fk wk u F G :=
 ⟨by rw [Oc (Zhk q.p q.w).symm];exact q.p,by rw [Oc q.ne.symm];exact q.f,by rw [Ol (ZeO q.w)],q.ne,q.o2,q.o3,by simpa using q.ol,fun i hi hn=>by rw [Oc (by have:=q.o3;omega)];exact q.old i hi hn⟩
theorem Fi.pop{d:D}(q:Fi mo h0 h pk fk wk u F (W++[d])):∃ h1,Zbo .pop (.ref wk) [] h=.ok d h1/\Fi mo h0 h1 pk fk wk u F W:=⟨_,Ziq q.w,q.setW W⟩
theorem Fi.push(q:Fi mo h0 h pk fk wk u F W)(d:D)(hF:F.length<=1000000):∃ h1,Zbo .app (.ref fk) [d] h=.ok .non h1/\Fi mo h0 h1 pk fk wk u (F++[d]) W:=⟨_,Zd9 q.f (by rw [sizeLine_eq];omega),q.setF _⟩
theorem Fi.wait(q:Fi mo h0 h pk fk wk u F W)(d:D)(hW:W.length<=1000000):∃ h1,Zbo .app (.ref wk) [d] h=.ok .non h1/\Fi mo h0 h1 pk fk wk u F (W++[d]):=⟨_,Zd9 q.w (by rw [sizeLine_eq];omega),q.setW _⟩
theorem Fi.ext(q:Fi mo h0 h pk fk wk u F W)(xs:List D)(hW:W.length+xs.length<=1001000):∃ h1,Zbo .ext (.ref wk) [.ref h.length] (h++[.lst xs])=.ok .non h1/\Fi mo h0 h1 pk fk wk u F (W++xs):=by
 have q1:=q.app (g:=[.lst xs]);refine ⟨_,?_,q1.setW (W++xs)⟩;simp only [Zbo,q1.w,ZfN,Zsc,ZdP];rw [if_pos (by rw [sizeLine_eq];omega)]
theorem Fi.take (H:Trb P) (n:Nat) (lm:Lim mo (u+1)) (q:Fi mo h0 h pk fk wk u F W):∃ h1,run P (n+1) (mnm (O "Pen") (O "take_place")) [.ref pk] h=.ok .non h1/\Fi mo h0 h1 pk fk wk (u+1) F W:=⟨_,ZmG H n lm q.p,q.setP _⟩
end
noncomputable def ve(pk fk wk:Nat)(o1 o2 o5 o6 o7:Option D):Ev:=[some (.ref pk),o1,o2,some (.ref fk),some (.ref wk),o5,o6,o7]
noncomputable def fl1:Sx:=(.set (.nm 5) (.meth .pop (.var 4) .nil))
noncomputable def fl2:Sx:=(.set (.nm 6) (.call (O "meant_by") (.cons (.ix (.var 5) (.cst (.int 0))) (.cons (.ix (.var 5) (.cst (.int 1))) .nil))))
noncomputable def fa1:Sx:=(.drp (.mcl (O "Pen") (O "take_place") (.var 0) .nil))
noncomputable def fa2:Sx:=(.drp (.meth .app (.var 3) (.cons (.call (O "front_of") (.cons (.ix (.var 5) (.cst (.int 0))) .nil)) .nil)))
noncomputable def fa3:Sx:=(.set (.nm 7) (.call (O "within") (.cons (.ix (.var 5) (.cst (.int 0))) (.cons (.ix (.var 5) (.cst (.int 1))) .nil))))
noncomputable def fa4:Sx:=(.drp (.meth .ext (.var 4) (.cons (.comp [(O "part"),(O "inner")] [none,some 7] (.rev (.call (O "parts_of") (.cons (.ix (.var 5) (.cst (.int 0))) .nil))) (.nm 0) none (.tupl (.cons (.var 0) (.cons (.var 1) .nil)))) .nil)))
noncomputable def fb1:Sx:=(.drp (.meth .app (.var 4) (.cons (.call (O "opened") (.cons (.var 6) .nil)) .nil)))
noncomputable def fl3:Sx:=(.iff (.ex (.cmp .Is (.var 6) (.cst .non))) (.cons fa1 (.cons fa2 (.cons fa3 (.cons fa4 .nil)))) (.cons fb1 .nil))
noncomputable def Zdj:Sxs:=.cons fl1 (.cons fl2 (.cons fl3 .nil))
theorem ZpW:ZcA=.cons (.set (.nm 3) (.lstl .nil)) (.cons (.set (.nm 4) (.lstl (.cons (.tupl (.cons (.var 1) (.cons (.var 2) .nil))) .nil))) (.cons (.whl (.ex (.var 4)) Zdj) (.cons (.ret (.call (O "built") (.cons (.var 3) .nil))) .nil))):=rfl
theorem Zoa{U:Tb}{h:Hd}{a:D}:∀ (ds acc:List D),acc.length+ds.length<=1000->ZL none (.nm 0) (tsto U none) (ev U (.tupl (.cons (.var 0) (.cons (.var 1) .nil)))) ds [none,some a] acc h=.ok (acc++ds.map fun d=>D.tup [d,a]) h
 | [],acc,_=>by simp [ZL,Wk.stays]
 | x::xs,acc,hz=>by
   have ih:=Zoa (U:=U) (h:=h) (a:=a) xs (acc++[.tup [x,a]]) (by simp at hz ⊢;omega);have hl:acc.length<16777216:=by simp at hz;omega
   rw [ZW];simp [Wk.stays,hl,sizeLine_eq];simpa using ih
theorem ZoF(H:Trb P)(n:Nat){mo:D}{h0 h:Hd}{pk fk wk:Nat}{u:Int}{F W:List D}(t:T)(ar:En)(hm:Zcn ar t=none)(lm:Lim mo (u+1))(q:Fi mo h0 h pk fk wk u F (W++[pr (t,ar)]))(hF:F.length<=1000000)(hW:W.length<=1000000)(ha:ar.length<=90000)(o1 o2 o5 o6 o7:Option D):∃ h' o5' o6' o7',
   xs2 (P.tbl (n+2)) Zdj (ve pk fk wk o1 o2 o5 o6 o7) h=.ok (.nx,ve pk fk wk o1 o2 o5' o6' o7') h'/\Fi mo h0 h' pk fk wk (u+1) (F++[tf t]) (W++(t.parts.reverse.map fun s=>pr (s,Zb3 t ar))):=by
 obtain ⟨h1,pp,q1⟩:=q.pop;have em:=Zhc H n (h:=h1) t ar;rw [hm] at em;obtain ⟨h2,e2,q2⟩:=q1.take H (n+1) lm;obtain ⟨h3,e3,q3⟩:=q2.push (tf t) hF;obtain ⟨h4,e4,q4⟩:∃ h4,run P (n+2) (O "within") [t.d,.tup (ar.map edd)] h3=.ok (.tup ((Zb3 t ar).map edd)) h4/\Fi mo h0 h4 pk fk wk (u+1) (F++[tf t]) W:=⟨_,ZmF H n t ar (by omega),q3.app⟩
 have hp:t.parts.length<=3:=by cases t<;>simp [T.parts]
 obtain ⟨h5,e5,q5⟩:=q4.ext ((t.parts.map T.d).reverse.map fun d=>D.tup [d,.tup ((Zb3 t ar).map edd)]) (by simp;omega);have ec:=Zoa (U:=P.tbl (n+2)) (h:=h4) (a:=.tup ((Zb3 t ar).map edd)) (t.parts.map T.d).reverse [] (by simp;omega);refine ⟨h5,some (pr (t,ar)),some .non,some (.tup ((Zb3 t ar).map edd)),?_,by simpa [pr,List.map_reverse,Function.comp_def] using q5⟩;refine (Za (Zv (Zj2 rfl q.w rfl pp))).trans ((Za (Zv (Zs em rfl))).trans ((Za ((Zr (ZjT rfl)).trans ?_)).trans rfl));refine (Za (ZgN (Zba rfl q1.p rfl rfl e2))).trans ((Za (ZgN (Zj2 rfl q2.f (Zd (Zs (ZoT H (n+1) t h2) rfl) rfl) e3))).trans ?_);exact (Za (Zv (Zs e4 rfl))).trans ((Za (ZgN (Zj2 rfl q4.w (Zd (ZqI (Zsx (Zs (Gn.Zha H.toTre (n+1) t h4) rfl)) ec) rfl) e5))).trans rfl)
theorem Zra(H:Trb P)(w:Wid P)(n:Nat){h0 h:Hd}{pk fk wk:Nat}{u:Int}{F W:List D}(t:T)(ar:En)(hm:Zcn ar t=none)(q:Fi (.int u) h0 h pk fk wk u F (W++[pr (t,ar)]))(o1 o2 o5 o6 o7:Option D):∃ h',
   xs2 (P.tbl (n+2)) Zdj (ve pk fk wk o1 o2 o5 o6 o7) h=.exc (O "Wide") h'/\Fi (.int u) h0 h' pk fk wk u F W:=by
 obtain ⟨h1,pp,q1⟩:=q.pop;have em:=Zhc H n (h:=h1) t ar;rw [hm] at em;refine ⟨h1,?_,q1⟩;exact (Za (Zv (Zj2 rfl q.w rfl pp))).trans ((Za (Zv (Zs em rfl))).trans (ZcJ ((Zr (ZjT rfl)).trans (ZcJ (ZqK (Zba rfl q1.p rfl rfl (Zib H w (n+1) q1.p)))))))
theorem ZoD(H:Trb P)(n:Nat){mo:D}{h0 h:Hd}{pk fk wk:Nat}{u:Int}{F W:List D}(t:T)(ar:En){v:Rw.Th}(hm:Zcn ar t=some v)(q:Fi mo h0 h pk fk wk u F (W++[pr (t,ar)]))(hW:W.length<=1000000)(o1 o2 o5 o6 o7:Option D):∃ h' o5' o6' o7',
   xs2 (P.tbl (n+2)) Zdj (ve pk fk wk o1 o2 o5 o6 o7) h=.ok (.nx,ve pk fk wk o1 o2 o5' o6' o7') h'/\Fi mo h0 h' pk fk wk u F (W++[pr ((opn v).1,up (opn v).2)]):=by
 obtain ⟨h1,pp,q1⟩:=q.pop;have em:=Zhc H n (h:=h1) t ar;rw [hm] at em;obtain ⟨h2,e2,q2⟩:=q1.wait (pr ((opn v).1,up (opn v).2)) hW;have eo:=Zic H (n+1) (h:=h1) v;rw [<- Zks] at eo;refine ⟨h2,some (pr (t,ar)),some v.d,o7,?_,q2⟩;refine (Za (Zv (Zj2 rfl q.w rfl pp))).trans ((Za (Zv (Zs em rfl))).trans ((Za ((Zx (Zl0 rfl (fun z=>by cases v<;>cases z))).trans ?_)).trans rfl));exact (Za (ZgN (Zj2 rfl q1.w (Zd (Zs eo rfl) rfl) e2))).trans rfl
end Tm
end
section
namespace Rw
open PySem L2 IV
mutual
noncomputable def ThG(N:Nat):Th->Prop
 | .num _=>True
 | .clo E ar=>(∀ x,E≠.name x)/\ar.len+2 * E.size<=2 * N/\ArG N ar
noncomputable def ArG(N:Nat):Ar->Prop
 | .nil=>True
 | .cons _ v r=>ThG N v/\ArG N r
end
end Rw
namespace Tm
open PySem L2 IV
variable {P:Pg}
theorem ZaC:∀ (xs:List Str) (ar:Ar) {x:Str}{V:T},get (xs.map (fun y=>(y,none))++ar) x=some V->get ar x=some V
 | [],ar,x,V,e=>e
 | y::xs,ar,x,V,e=>by
   rw [Op,List.cons_append,get] at e;split at e
   . cases e
   . exact ZaC xs ar e
theorem Zhf{t s:T}(hs:s∈t.parts):s.size+1<=t.size:=by
 rw [Zb t];have:∀ l:List T,s∈l->s.size<=(l.map T.size).sum:=by
   intro l;induction l with
   | nil=>intro z;cases z
   | cons a r ih =>
     intro z;rw [Op,OI];rcases O2.mp z with rfl|z
     . omega
     . have:=ih z;omega
 have:=this _ hs;omega
noncomputable def Wok(N:Nat)(p:T×En):Prop:=p.2.length+2 * p.1.size<=2 * N/\∀ q∈p.2,∀ v,q.2=some v->Rw.ThG N v
theorem Wok.part{N:Nat}{t s:T}{ar:En}(w:Wok N (t,ar))(hs:s∈t.parts):Wok N (s,Zb3 t ar):=by
 have h1:=Zhf hs;have hb:(bnd t).length<=2:=by cases t<;>simp [bnd]
 have h2:=w.1;have:(Zb3 t ar).length=(bnd t).length+ar.length:=by simp [Zb3]
 refine ⟨?_,fun q hq v e=>?_⟩
 . simp only at h2 ⊢;omega
 . rcases OD.mp hq with hq|hq
   . obtain ⟨y,_,rfl⟩:=List.mem_map.mp hq;cases e
   . exact w.2 q hq v e
theorem Zq4{N:Nat}:∀ {ar:Rw.Ar},Rw.ArG N ar->∀ q∈up ar,∀ v,q.2=some v->Rw.ThG N v
 | .nil,_,q,hq,_,_=>by cases hq
 | .cons x w r,h,q,hq,v,e=>by
   rcases O2.mp hq with rfl|hq
   . cases e;exact h.1
   . exact Zq4 h.2 q hq v e
theorem Wok.thing{N:Nat}(hN:1<=N){v:Rw.Th}(h:Rw.ThG N v):Wok N ((opn v).1,up (opn v).2):=by
 cases v with
 | num n=>refine ⟨?_,fun q hq=>by cases hq⟩;show 0+2 * 1<=2 * N;omega
 | clo E ar=>refine ⟨?_,Zq4 h.2.2⟩;have:=h.2.1;show (up ar).length+2 * E.size<=2 * N;rw [Zi9];exact this
theorem ZiO{x:Str}{v:Rw.Th}:∀ {e:En},ZdL e x=some v->∃ q∈e,q.2=some v
 | [],h=>by cases h
 | (y,o)::r,h=>by
   rw [ZdL] at h;split at h
   . exact ⟨_,Oi,h⟩
   . obtain ⟨q,hq,e⟩:=ZiO h;exact ⟨q,Oh _ hq,e⟩
theorem Wok.mean{N:Nat}{t:T}{e:En}{v:Rw.Th}(w:Wok N (t,e))(h:Zcn e t=some v):Rw.ThG N v:=by
 cases t with
 | name x=>obtain ⟨q,hq,e⟩:=ZiO (show ZdL e x=some v from h);exact w.2 q hq v e
 | _=>cases h
theorem Znb{N:Nat}{v:Rw.Th}(h:Rw.ThG N v):Zcn (up (opn v).2) (opn v).1=none:=by
 cases v with
 | num n=>rfl
 | clo E ar=>cases E with
   | name x=>exact absurd rfl (h.1 x)
   | _=>rfl
noncomputable def tot(W:List (T×En)):Nat:=(W.map fun p=>(tel p).size).sum
theorem Zg3(A B_:List (T×En)):tot (A++B_)=tot A+tot B_:=by simp [tot]
theorem Zg2(p:T×En):tot [p]=(tel p).size:=by simp [tot]
theorem Zll{t:T}{e:En}(h:Zcn e t=none):(tel (t,e)).size=1+tot (t.parts.reverse.map fun s=>(s,Zb3 t e)):=by
 rw [Zb,(Zgv h).1];simp [tot,List.map_reverse,Function.comp_def]
noncomputable def com(W:List (T×En)):List D:=(W.reverse.flatMap fun p=>(tel p).places).map tf
theorem ZhE(W:List (T×En))(p:T×En):com (W++[p])=(tel p).places.map tf++com W:=by simp [com]
theorem Zl9(W:List (T×En)){t:T}{e:En}(h:Zcn e t=none):com (W++[(t,e)])=tf t::com (W++t.parts.reverse.map fun s=>(s,Zb3 t e)):=by
 obtain ⟨h1,h2⟩:=Zgv h;rw [ZhE,T.places_parts,Op,show tf (tel (t,e))=tf t by unfold tf;rw [h2],h1];simp [com,List.flatMap_append,List.map_reverse,List.flatMap_map]
noncomputable def Bud(P:Pg)(mo:D)(u:Int)(K n:Nat):Prop:=(mo=.non/\n<=K)\/(mo=.int (u+(K:Int))/\(n<=K\/Wid P))
noncomputable def nb(e:En)(t:T):Nat:=match Zcn e t with
 | some _=>1
 | none=>0
noncomputable def nbs(W:List (T×En)):Nat:=match W.getLast? with
 | some p=>nb p.2 p.1
 | none=>0
theorem Zt1(e:En)(t:T):nb e t<=1:=by unfold nb;split<;>omega
theorem Znn(W:List (T×En)):nbs W<=1:=by unfold nbs;split;exact Zt1 _ _;omega
theorem ZkP(W:List (T×En))(p:T×En):nbs (W++[p])=nb p.2 p.1:=by simp [nbs]
noncomputable def Old(h0 h:Hd)(pk:Nat):Prop:=h0.length<=h.length/\∀ i,i<h0.length->i≠pk->h[i]? = h0[i]?
inductive Fld(P:Pg)(n:Nat)(mo:D)(h0:Hd)(pk fk wk:Nat)(o1 o2:Option D)(u:Int)(F:List D)(W:List (T×En))(K:Nat):R (Fl×Ev)->Prop
 | ok {h':Hd}{o5 o6 o7:Option D} (le:tot W<=K) (q:Fi mo h0 h' pk fk wk (u+(tot W:Int)) (F++com W) []):Fld P n mo h0 pk fk wk o1 o2 u F W K (.ok (.nx,ve pk fk wk o1 o2 o5 o6 o7) h')
 | ex {h':Hd} (lt:K<tot W) (q:Old h0 h' pk):Fld P n mo h0 pk fk wk o1 o2 u F W K (.exc (O "Wide") h')
theorem ZjB(H:Trb P)(n:Nat){N:Nat}(hN:1<=N)(hN2:N<=45000){mo:D}{h0:Hd}{pk fk wk:Nat}{o1 o2:Option D}:∀ (fuel:Nat) (W:List (T×En)) (F:List D) (u:Int) (h:Hd) (o5 o6 o7:Option D) (K:Nat),Bud P mo u K (tot W)->2 * K+1+nbs W<=fuel->F.length+K<=400000->W.length+3 * K<=1000000->(∀ p∈W,Wok N p)->Fi mo h0 h pk fk wk u F (W.map pr) ->
   Fld P n mo h0 pk fk wk o1 o2 u F W K (ZV (tst (P.tbl (n+2)) (.ex (.var 4))) (xs2 (P.tbl (n+2)) Zdj) fuel (ve pk fk wk o1 o2 o5 o6 o7) h)
 | 0,W,F,u,h,o5,o6,o7,K,_,hf,_,_,_,_=>by omega
 | fuel+1,W,F,u,h,o5,o6,o7,K,bu,hf,hz,hw,ok,q=>by
   rcases List.eq_nil_or_concat W with rfl|⟨V,p,rfl⟩
   . rw [ZgZ (Zqs rfl q.w)];exact .ok (Nat.zero_le _) (by simpa [com,tot] using q)
   . obtain ⟨t,ar⟩:=p;rw [List.concat_eq_append] at bu hf hw ok q ⊢;have q':Fi mo h0 h pk fk wk u F (V.map pr++[pr (t,ar)]):=by simpa using q
     have hW:=ok (t,ar) (by simp);have okV:∀ p∈V,Wok N p:=fun p hp=>ok p (by simp [hp]);rw [ZkP] at hf;simp only at hf;rw [OA,List.length_singleton] at hw;have hV:(V.map pr).length<=1000000:=by rw [List.length_map];omega
     have ha:ar.length<=90000:=by have:=hW.1;simp only at this;omega
     have tt:=Zt (Zqs (U:=P.tbl (n+2)) (S:=ve pk fk wk o1 o2 o5 o6 o7) (e:=.var 4) rfl q'.w) (c:=true) (by simp);have e1:tot (V++[(t,ar)])=tot V+(tel (t,ar)).size:=by rw [Zg3,Zg2]
     cases hm:Zcn ar t with
     | none =>
       have t1:=Zll hm;rw [show nb ar t=0 by unfold nb;rw [hm]] at hf;cases K with
       | zero =>
         rcases bu with ⟨_,z⟩|⟨rfl,z⟩
         . omega
         . rcases z with z|z
           . omega
           . have q2:Fi (.int u) h0 h pk fk wk u F (V.map pr++[pr (t,ar)]):=by simpa using q'
             obtain ⟨h1,x,q1⟩:=Zra H z n t ar hm q2 o1 o2 o5 o6 o7;rw [Zos tt x];exact .ex (by omega) ⟨q1.ol,q1.old⟩
       | succ K =>
         have lm:Lim mo (u+1):=by
           rcases bu with ⟨e,_⟩|⟨e,_⟩
           . exact .inl e
           . exact .inr ⟨_,e,by omega⟩
         obtain ⟨h1,o51,o61,o71,x,q1⟩:=ZoF H n t ar hm lm q' (by omega) hV ha o1 o2 o5 o6 o7;rw [ZdS tt x];have e2:tot (V++t.parts.reverse.map fun s=>(s,Zb3 t ar))=tot V+tot (t.parts.reverse.map fun s=>(s,Zb3 t ar)):=Zg3 _ _;have hp:t.parts.length<=3:=by cases t<;>simp [T.parts]
         have nl:=Znn (V++t.parts.reverse.map fun s=>(s,Zb3 t ar));have ih:=ZjB H n hN hN2 (o1:=o1) (o2:=o2) fuel (V++t.parts.reverse.map fun s=>(s,Zb3 t ar)) (F++[tf t]) (u+1) h1 o51 o61 o71 K (by
           rcases bu with ⟨e,z⟩|⟨e,z⟩
           . exact .inl ⟨e,by omega⟩
           . exact .inr ⟨by rw [e];congr 1;omega,z.imp (fun z=>by omega) id⟩) (by omega) (by rw [OA,List.length_singleton];omega) (by rw [OA,List.length_map,List.length_reverse];omega) (fun p hp=>by
           rcases OD.mp hp with hp|hp
           . exact okV p hp
           . obtain ⟨s,hs,rfl⟩:=List.mem_map.mp hp;exact hW.part (by simpa using hs)) (by simpa [List.map_map,Function.comp_def] using q1)
         generalize ZV _ _ _ _ _=r at ih ⊢;cases ih with
         | ok le q =>
           refine .ok (by omega) ?_;rw [Zl9 V hm,show u+((tot (V++[(t,ar)]):Nat):Int)=u+1+((tot (V++t.parts.reverse.map fun s=>(s,Zb3 t ar)):Nat):Int) by rw [e1,e2,t1];omega];simpa using q
         | ex lt q=>exact .ex (by omega) q
     | some v =>
       rw [show nb ar t=1 by unfold nb;rw [hm]] at hf;have g:=hW.mean hm;have s1:(tel (t,ar)).size=(tel ((opn v).1,up (opn v).2)).size:=by rw [Zf6 hm,Zg5]
       have e2:tot (V++[((opn v).1,up (opn v).2)])=tot (V++[(t,ar)]):=by rw [e1,Zg3,Zg2,s1]
       obtain ⟨h1,o51,o61,o71,x,q1⟩:=ZoD H n t ar hm q' hV o1 o2 o5 o6 o7;rw [ZdS tt x];have ih:=ZjB H n hN hN2 (o1:=o1) (o2:=o2) fuel (V++[((opn v).1,up (opn v).2)]) F u h1 o51 o61 o71 K (by rw [e2];exact bu) (by rw [ZkP];unfold nb;rw [Znb g];simp only;omega) hz (by rw [OA,List.length_singleton];omega) (fun p hp=>by
         rcases OD.mp hp with hp|hp
         . exact okV p hp
         . rw [Ox.mp hp];exact Wok.thing hN g) (by simpa using q1)
       have e3:com (V++[((opn v).1,up (opn v).2)])=com (V++[(t,ar)]):=by rw [ZhE,ZhE,Zf6 hm,Zg5]
       generalize ZV _ _ _ _ _=r at ih ⊢;cases ih with
       | ok le q =>
         rw [e2,e3] at q;exact .ok (by omega) q
       | ex lt q=>exact .ex (by omega) q
end Tm
end
section
namespace Tm
open PySem L2 IV
variable {P:Pg}
theorem grown{h0 h:Hd}(hl:h0.length<=h.length)(old:∀ i,i<h0.length->h[i]? = h0[i]?):∃ g,h=h0++g:=⟨h.drop h0.length,by
 apply List.ext_getElem?;intro i;rcases Nat.lt_or_ge i h0.length with q|q
 . rw [old i q,Oe q]
 . rw [Om q,List.getElem?_drop];congr 1;omega⟩
noncomputable def Aft(h0 h:Hd)(pk:Nat)(mo:D)(u:Int):Prop:=h[pk]? = some (ZaR mo u)/\h0.length<=h.length/\∀ i,i<h0.length->i≠pk->h[i]? = h0[i]?
inductive Out(h0:Hd)(pk:Nat)(mo:D)(t:T)(u:Int)(K:Nat):R D->Prop
 | ok {h':Hd} (le:t.size<=K) (a:Aft h0 h' pk mo (u+(t.size:Int))):Out h0 pk mo t u K (.ok t.d h')
 | ex {h':Hd} (lt:K<t.size) (a:Old h0 h' pk):Out h0 pk mo t u K (.exc (O "Wide") h')
theorem ZmI(H:Trb P)(n:Nat){N:Nat}(hN:1<=N)(hN2:N<=45000)(t:T)(e:En){mo:D}{h0 h:Hd}{pk K:Nat}{u:Int}(a:Aft h0 h pk mo u)(bu:Bud P mo u K (tel (t,e)).size)(hK:K<=300000)(hw:Wok N (t,e)) :
   Out h0 pk mo (tel (t,e)) u K (run P (n+3) (mnm (O "Pen") (O "filled")) [.ref pk,t.d,.tup (e.map edd)] h):=by
 obtain ⟨hp,hl,old⟩:=a;rw [ZdG H.n_Pen_filled H.Pen_filled (by rfl)];have q0:Fi mo h0 (h++[.lst [],.lst ([(t,e)].map pr)]) pk h.length (h.length+1) u [] ([(t,e)].map pr):=⟨keep hp,by simp,by simp,by omega,hl,by omega,by simp;omega,fun i hi hn=>by rw [Oe (by omega)];exact old i hi hn⟩
 have e1:=Zg2 (t,e);have big:=H.big;have nl:=Znn [(t,e)];have x:=ZjB H n hN hN2 (o1:=some t.d) (o2:=some (.tup (e.map edd))) P.L [(t,e)] [] u _ none none none K (by rw [e1];exact bu) (by omega) (by simp only [List.length_nil];omega) (by simp only [Os,List.length_nil];omega) (fun p hp=>by rw [Ox.mp hp];exact hw) q0;have x1:xs1 (P.tbl (n+2)) (.set (.nm 3) (.lstl .nil)) [some (.ref pk),some t.d,some (.tup (e.map edd)),none,none,none,none,none] h=.ok (.nx,[some (.ref pk),some t.d,some (.tup (e.map edd)),some (.ref h.length),none,none,none,none]) (h++[.lst []]):=Zv (Zj3 rfl (by decide));have x2:xs1 (P.tbl (n+2)) (.set (.nm 4) (.lstl (.cons (.tupl (.cons (.var 1) (.cons (.var 2) .nil))) .nil))) [some (.ref pk),some t.d,some (.tup (e.map edd)),some (.ref h.length),none,none,none,none] (h++[.lst []])=.ok (.nx,[some (.ref pk),some t.d,some (.tup (e.map edd)),some (.ref h.length),some (.ref (h.length+1)),none,none,none]) (h++[.lst [],.lst ([(t,e)].map pr)]):=by
   have:=Zv (U:=P.tbl (n+2)) (i:=4) (Zj3 (S:=[some (.ref pk),some t.d,some (.tup (e.map edd)),some (.ref h.length),none,none,none,none]) (h:=h++[.lst []]) (es:=.cons (.tupl (.cons (.var 1) (.cons (.var 2) .nil))) .nil) (Zd (Zbi (Zd rfl (Zd rfl rfl)) (by simp)) rfl) (by simp));simpa [pr] using this
 have key:∀ y,Fld P n mo h0 pk h.length (h.length+1) (some t.d) (some (.tup (e.map edd))) u [] [(t,e)] K y->xs1 (P.tbl (n+2)) (.whl (.ex (.var 4)) Zdj) [some (.ref pk),some t.d,some (.tup (e.map edd)),some (.ref h.length),some (.ref (h.length+1)),none,none,none] (h++[.lst [],.lst ([(t,e)].map pr)])=y->Out h0 pk mo (tel (t,e)) u K (Zh (xs2 (P.tbl (n+2)) ZcA [some (.ref pk),some t.d,some (.tup (e.map edd)),none,none,none,none,none] h)):=by
   intro y x z;rw [ZpW,Za x1,Za x2];cases x with
   | ex lt q =>
     rw [ZcJ z];exact .ex (by rw [e1] at lt;exact lt) q
   | @ok h1 o5 o6 o7 le q1 =>
     have qf:=q1.f;have ec:com [(t,e)]=(tel (t,e)).places.map tf:=by simp [com]
     rw [ec,OB] at qf;rw [e1] at le q1;obtain ⟨g2,e3⟩:=ZoV H n (tel (t,e)) qf (by omega);have q2:=q1.app (g:=g2);have x4:xs1 (P.tbl (n+2)) (.ret (.call (O "built") (.cons (.var 3) .nil))) (ve pk h.length (h.length+1) (some t.d) (some (.tup (e.map edd))) o5 o6 o7) h1=.ok (.rt (tel (t,e)).d,ve pk h.length (h.length+1) (some t.d) (some (.tup (e.map edd))) o5 o6 o7) (h1++g2):=ZA (Zs e3 rfl);rw [Za z,Ze x4];exact .ok le ⟨q2.p,q2.ol,q2.old⟩
 exact key _ x rfl
noncomputable abbrev Fil:=List (Str×T)
noncomputable def Fil.ar(f:Fil):Ar:=f.map fun p=>(p.1,some p.2)
noncomputable def fen(f:Fil):En:=f.map fun p=>(p.1,some (Rw.Th.clo p.2 .nil))
theorem ZpX(f:Fil):f.ar.map ard=(fen f).map edd:=by simp [Fil.ar,fen,ard,edd,thd,Rw.thD,Rw.Th.d,Rw.Ar.ds,Function.comp_def]
theorem ZsB(f:Fil):er (fen f)=f.ar:=by simp [er,fen,Fil.ar,Rw.rd,Rw.ra,Zbt _ (show NN [] from fun _=>rfl),Function.comp_def]
noncomputable def Fil.kv(f:Fil):List (Key×D):=f.map fun p=>(.inr p.1,p.2.d)
theorem Zkr:∀ {f:Fil}{x:Str}{V:T},(f.map (·.1)).Nodup->(x,V)∈f->Zac f.kv (.inr x)=some V.d
 | (y,W)::r,x,V,nd,hm=>by
   rw [Op,List.nodup_cons] at nd;unfold Zac Fil.kv;rw [Op,List.find?_cons];rcases O2.mp hm with e|hm
   . cases e;simp
   . have ne:y≠x:=fun z=>nd.1 (by rw [z];exact List.mem_map.mpr ⟨(x,V),hm,rfl⟩);have:¬ (Sum.inr y:Key)=Sum.inr x:=fun z=>ne (Sum.inr.inj z);simp only [this,decide_false];exact Zkr nd.2 hm
noncomputable def fe1:Ex:=(.tupl (.cons (.var 0) (.cons (.tupl (.cons (.cst (.str (O "clo"))) (.cons (.ix (.var 1) (.var 0)) (.cons (.tupl .nil) .nil)))) .nil)))
theorem ZqQ{U:Tb}{h:Hd}{dk:Nat}{f:Fil}(nd:(f.map (·.1)).Nodup)(hd:h[dk]? = some (.fdic f.kv)):∀ (r:Fil) (acc:List D),(∀ p∈r,p∈f)->acc.length+r.length<=1000 ->
   ZL none (.nm 0) (tsto U none) (ev U fe1) (r.map fun p=>D.str p.1) [none,some (.ref dk)] acc h=.ok (acc++r.ar.map ard) h
 | [],acc,_,_=>by simp [ZL,Wk.stays,Fil.ar]
 | (x,V)::r,acc,hm,hz=>by
   have ih:=ZqQ (U:=U) nd hd r (acc++[ard (x,some V)]) (fun p hp=>hm p (Oh _ hp)) (by simp at hz ⊢;omega);have hl:acc.length<16777216:=by simp at hz;omega
   have hv:=Zkr nd (hm (x,V) Oi);have ix:ZaS U.GD (.ref dk) (.str x) h=.ok V.d h:=by simp [ZaS,dicOf,hd,hv]
   have ee:ev U fe1 [some (.str x),some (.ref dk)] h=.ok (ard (x,some V)) h:=by simp [fe1,ix,sizeLine_eq,ard,thd]
   rw [Op,ZW];simp [Wk.stays,hl,sizeLine_eq,ee];simpa [Fil.ar] using ih
theorem ZkG(H:Trm P)(n:Nat)(t:T)(f:Fil){h0 h:Hd}{dk:Nat}(nd:(f.map (·.1)).Nodup)(hf:f.length<=100)(hd:h[dk]? = some (.dic f.kv))(ho:h0.length<=dk)(hl:h0.length<=h.length)(old:∀ i,i<h0.length->h[i]? = h0[i]?){N:Nat}(hN:1<=N)(hN2:N<=45000)(hw:Wok N (t,fen f))(hz:(sub f.ar t).size<=300000) :
   ∃ g,run P (n+4) (O "put_in") [t.d,.ref dk] h=.ok (sub f.ar t).d (h0++g):=by
 rw [Zc H.put_in (by rfl)];have hdl:=ZeO hd;generalize hh1:h.set dk (.fdic f.kv)=h1;have d1:h1[dk]? = some (.fdic f.kv):=by rw [<- hh1,Ol hdl]
 have l1:h1.length=h.length:=by rw [<- hh1];simp
 have old1:∀ i,i<h0.length->h1[i]? = h0[i]? := fun i hi=>by rw [<- hh1,Oc (by omega)];exact old i hi
 have ec:=ZqQ (U:=P.tbl (n+3)) nd d1 f [] (fun p hp=>hp) (by simp;omega);have ks:(f.kv.map fun p=>ZnB p.1)=f.map fun p=>D.str p.1:=by simp [Fil.kv,ZnB,Function.comp_def]
 have x1:xs1 (P.tbl (n+3)) Zcx [some t.d,some (.ref dk),none] h=.ok (.nx,[some t.d,some (.ref dk),some (.tup (f.ar.map ard))]) (h1++[.lst (f.ar.map ard)]):=by
   have ei:evi (P.tbl (n+3)) (.dk (.var 1)) [some t.d,some (.ref dk),none] h=.ok ⟨none,f.map fun p=>D.str p.1⟩ h1:=by
     simp [ZnQ,hd,hh1,ks]
   have ev1:ev (P.tbl (n+3)) (.comp [(O "name"),(O "filling")] [none,some 1] (.dk (.var 1)) (.nm 0) none fe1) [some t.d,some (.ref dk),none] h=.ok (.ref h1.length) (h1++[.lst (f.ar.map ard)]):=by
     rw [Zfe,ei,Zl];simp only [Zbp,Op,Oy,Option.bind_none,Option.bind_some];rw [show ([some t.d,some (D.ref dk),none][1]?).join=some (.ref dk) from rfl,ec];rfl
   unfold fe1 at ev1;simp [-Zfe,Zcx,ev1,Zb4,Zme,lstOf]
 generalize hh2:h1++[DO.lst (f.ar.map ard)]=h2 at x1;have l2:h2.length=h.length+1:=by rw [<- hh2];simp [l1]
 have old2:∀ i,i<h0.length->(h2++[ZaR .non 0])[i]? = h0[i]? := fun i hi=>by
   rw [Oe (by omega),<- hh2,Oe (by omega)];exact old1 i hi
 have ep:=ZqC H.toTrb (n+2) .non h2;have et:tel (t,fen f)=sub f.ar t:=by show sub (er (fen f)) t=_;rw [ZsB]
 have o:=ZmI H.toTrb n hN hN2 t (fen f) (mo:=.non) (h0:=h0) (h:=h2++[ZaR .non 0]) (pk:=h2.length) (u:=0) (K:=(sub f.ar t).size) ⟨by simp,by simp;omega,fun i hi _=>old2 i hi⟩ (.inl ⟨rfl,by rw [et];exact Oq _⟩) hz hw;rw [et,<- ZpX] at o;obtain ⟨h3,e,a3⟩:∃ h3,run P (n+3) (mnm (O "Pen") (O "filled")) [.ref h2.length,t.d,.tup (f.ar.map ard)] (h2++[ZaR .non 0])=.ok (sub f.ar t).d h3/\Aft h0 h3 h2.length .non (0+((sub f.ar t).size:Int)):=by
   generalize run P (n+3) _ _ _=r at o;cases o with
   | ok le a=>exact ⟨_,rfl,a⟩
   | ex lt a=>omega
 obtain ⟨g,rfl⟩:=grown a3.2.1 (fun i hi=>a3.2.2 i hi (by omega));refine ⟨g,?_⟩;have io:ZY (.ref h2.length) (h2++[ZaR .non 0])=some (O "Pen",[(O "most",.non),(O "used",.int 0)]):=by simp [ZY,ZaR]
 have x2:xs1 (P.tbl (n+3)) Zcw [some t.d,some (.ref dk),some (.tup (f.ar.map ard))] h2=.ok (.rt (sub f.ar t).d,[some t.d,some (.ref dk),some (.tup (f.ar.map ard))]) (h0++g):=by
   simp [Zcw,Pg.tbl,ep,io,List.lookup,e]
 show Zh (xs2 (P.tbl (n+3)) (.cons Zcx (.cons Zcw .nil)) [some t.d,some (.ref dk),none] h)=_;rw [Za x1,Ze x2];rfl
end Tm
end
section
namespace Tm
open PySem L2 IV
variable {P:Pg}{h:Hd}
noncomputable def isV:T->Bool
 | .num _|.fn _ _|.rcc _ _ _=>true
 | _=>false
noncomputable def pf:T->List T
 | .iff c _ _=>[c]
 | t=>t.parts
noncomputable def Zee:Nat->List T->Option Nat
 | _,[]=>none
 | k,t::r=>if isV t then Zee (k+1) r else some k
noncomputable def fo(t:T):Option Nat:=Zee 1 (pf t)
noncomputable def oN:Option Nat->D
 | some k=>.int (k:Int)
 | none=>.non
theorem ZqD (H:Trm P) (n:Nat) (t:T):run P (n+1) (O "is_value") [t.d] h=.ok (.bl (isV t)) h:=by
 rw [Zc H.is_value (by cases t<;>rfl)];refine ZuA (U:=P.tbl n) (fun U=>Zh (xs2 U Zar.body (Zn Zar.N [t.d]) h)) H.gv ?_ ?_
 . cases t with
   | op w a b=>cases w<;>exact rfl
   | _=>exact rfl
 . cases t with
   | op w a b=>cases w<;>exact rfl
   | _=>exact rfl
theorem Zvh (H:Trm P) (n:Nat) (t:T):run P (n+2) (O "parts_first") [t.d] h=.ok (.tup ((pf t).map T.d)) h:=by
 rw [Zc H.parts_first (by cases t<;>rfl)];have ep:=Gn.Zha H.toTre n t h;cases t with
 | iff c a b=>exact rfl
 | op w a b=>exact Zgc (U:=P.tbl (n+1)) (fun U=>Zh (xs2 U Zy.body (Zn Zy.N [(T.op w a b).d]) h)) ep (by cases w<;>rfl) (by cases w<;>rfl)
 | _=>exact Zgc (U:=P.tbl (n+1)) (fun U=>Zh (xs2 U Zy.body (Zn Zy.N [T.d _]) h)) ep rfl rfl
noncomputable def ZeP:Sxs:=(.cons (.iff (.nt (.ex (.call (O "is_value") (.cons (.var 2) .nil)))) (.cons (.ret (.var 1)) .nil) .nil) .nil)
noncomputable def cnt(k:Nat):List T->List D
 | []=>[]
 | t::r=>.tup [.int ((k+1:Nat):Int),t.d]::cnt (k+1) r
theorem ZiT:∀ (ts:List T) (k:Nat),((ts.map T.d).mapIdx fun i x=>D.tup [.int ((k+i+1:Nat):Int),x])=cnt k ts
 | [],_=>rfl
 | t::r,k=>by
   rw [Op,List.mapIdx_cons,cnt,<- ZiT r (k+1)];congr 1
   . congr 1;funext i x;congr 4;omega
theorem Zud(H:Trm P)(n:Nat){E:D}:∀ (ts:List T) (k:Nat) (a b:Option D),(∃ S,ZS none (.two 1 2) (xs2 (P.tbl (n+1)) ZeP) (cnt k ts) [some E,a,b] h=.ok (.rt (oN (Zee (k+1) ts)),S) h)\/(Zee (k+1) ts=none/\∃ S,ZS none (.two 1 2) (xs2 (P.tbl (n+1)) ZeP) (cnt k ts) [some E,a,b] h=.ok (.nx,S) h)
 | [],k,a,b=>.inr ⟨rfl,_,rfl⟩
 | t::r,k,a,b=>by
   have ev:=ZqD H n (h:=h) t;rw [cnt,Zau];cases hv:isV t with
   | false =>
     rw [hv] at ev;refine .inl ⟨[some E,some (.int ((k+1:Nat):Int)),some t.d],?_⟩;simp [ZeP,Pg.tbl,ev,Zee,hv,oN]
   | true =>
     rw [hv] at ev;have x:xs2 (P.tbl (n+1)) ZeP [some E,some (.int ((k+1:Nat):Int)),some t.d] h=.ok (.nx,[some E,some (.int ((k+1:Nat):Int)),some t.d]) h:=by simp [ZeP,Pg.tbl,ev]
     have ih:=Zud H n (E:=E) r (k+1) (some (.int ((k+1:Nat):Int))) (some t.d);simp only [ZiZ,List.set_cons_zero,List.set_cons_succ,x,Zl,Zee,hv,if_true];exact ih
theorem Ztx (H:Trm P) (n:Nat) (t:T):run P (n+3) (O "first_open") [t.d] h=.ok (oN (fo t)) h:=by
 rw [Zc H.first_open (by cases t<;>rfl)];have ep:=Zvh H n (h:=h) t;have ei:evi (P.tbl (n+2)) (.en1 (.call (O "parts_first") (.cons (.var 0) .nil))) [some t.d,none,none] h=.ok ⟨none,cnt 0 (pf t)⟩ h:=by
   have e1:ev (P.tbl (n+2)) (.call (O "parts_first") (.cons (.var 0) .nil)) [some t.d,none,none] h=.ok (.tup ((pf t).map T.d)) h:=ep;rw [Zp2,e1,Zl];have:=ZiT (pf t) 0;simp only [Nat.zero_add] at this;simp only [ZdK,this]
 show Zh (xs2 (P.tbl (n+2)) (.cons (.forr (.two 1 2) (.en1 (.call (O "parts_first") (.cons (.var 0) .nil))) ZeP) (.cons (.ret (.cst .non)) .nil)) [some t.d,none,none] h)=_;rcases Zud H (n+1) (E:=t.d) (h:=h) (pf t) 0 none none with ⟨S,q⟩|⟨q0,S,q⟩
 . have x:xs1 (P.tbl (n+2)) (.forr (.two 1 2) (.en1 (.call (O "parts_first") (.cons (.var 0) .nil))) ZeP) [some t.d,none,none] h=.ok (.rt (oN (fo t)),S) h:=by
     rw [Zfh,ei,Zl];exact q
   rw [Ze x];rfl
 . have x:xs1 (P.tbl (n+2)) (.forr (.two 1 2) (.en1 (.call (O "parts_first") (.cons (.var 0) .nil))) ZeP) [some t.d,none,none] h=.ok (.nx,S) h:=by
     rw [Zfh,ei,Zl];exact q
   rw [Za x];have:fo t=none:=q0;rw [this];rfl
noncomputable def pth:T->List (T×Nat)
 | .call f a=>if isV f then (if isV a then [] else (.call f a,2)::pth a) else (.call f a,1)::pth f
 | .op w f a=>if isV f then (if isV a then [] else (.op w f a,2)::pth a) else (.op w f a,1)::pth f
 | .iff c t e=>if isV c then [] else (.iff c t e,1)::pth c
 | _=>[]
noncomputable def bot:T->T
 | .call f a=>if isV f then (if isV a then .call f a else bot a) else bot f
 | .op w f a=>if isV f then (if isV a then .op w f a else bot a) else bot f
 | .iff c t e=>if isV c then .iff c t e else bot c
 | t=>t
noncomputable def ZbN(t:T):List D:=(pth t).map (fun p=>D.tup [p.1.d,.int (p.2:Int)])++[.tup [(bot t).d,.non]]
theorem Zou(t:T)(nv:isV t=false)(nn:∀ x,t≠.name x):(fo t=none/\pth t=[]/\bot t=t)\/∃ k s,fo t=some k/\pth t=(t,k)::pth s/\bot t=bot s/\isV s=false/\s∈t.parts/\(∀ GD,ZaS GD t.d (.int (k:Int)) h=.ok s.d h):=by
 cases t with
 | num _=>cases nv
 | fn _ _=>cases nv
 | rcc _ _ _=>cases nv
 | name x=>exact absurd rfl (nn x)
 | call f a =>
   cases hf:isV f with
   | false=>exact .inr ⟨1,f,by simp [fo,pf,T.parts,Zee,hf],by simp [pth,hf],by simp [bot,hf],hf,by simp [T.parts],fun GD=>by simp [T.d]⟩
   | true =>
     cases ha:isV a with
     | false=>exact .inr ⟨2,a,by simp [fo,pf,T.parts,Zee,hf,ha],by simp [pth,hf,ha],by simp [bot,hf,ha],ha,by simp [T.parts],fun GD=>by simp [T.d]⟩
     | true=>exact .inl ⟨by simp [fo,pf,T.parts,Zee,hf,ha],by simp [pth,hf,ha],by simp [bot,hf,ha]⟩
 | op w f a =>
   cases hf:isV f with
   | false=>exact .inr ⟨1,f,by simp [fo,pf,T.parts,Zee,hf],by simp [pth,hf],by simp [bot,hf],hf,by simp [T.parts],fun GD=>by simp [T.d]⟩
   | true =>
     cases ha:isV a with
     | false=>exact .inr ⟨2,a,by simp [fo,pf,T.parts,Zee,hf,ha],by simp [pth,hf,ha],by simp [bot,hf,ha],ha,by simp [T.parts],fun GD=>by simp [T.d]⟩
     | true=>exact .inl ⟨by simp [fo,pf,T.parts,Zee,hf,ha],by simp [pth,hf,ha],by simp [bot,hf,ha]⟩
 | iff c a b =>
   cases hf:isV c with
   | false=>exact .inr ⟨1,c,by simp [fo,pf,Zee,hf],by simp [pth,hf],by simp [bot,hf],hf,by simp [T.parts],fun GD=>by simp [T.d]⟩
   | true=>exact .inl ⟨by simp [fo,pf,Zee,hf],by simp [pth,hf],by simp [bot,hf]⟩
end Tm
end
section
namespace Tm
open PySem L2 IV
variable {P:Pg}{h:Hd}
theorem ZqG{l:List D}{a:D}:atI (l++[a]) (-1)=some a:=Zoi
theorem ZsF{l:List D}{a:D}:cutD (l++[a]) none (some (-1))=l:=by
 have e:HT.sIx (l++[a]).length (l++[a]).length (some (-1))=l.length:=by simp [HT.sIx];omega
 have e0:HT.sIx (l++[a]).length 0 none=0:=by simp [HT.sIx]
 unfold cutD;rw [e,e0];simp
theorem Zqa{t s:T}(c:Gn.Cl [] t)(nv:isV t=false)(hs:s∈t.parts):Gn.Cl [] s:=by
 cases t with
 | num _=>cases nv
 | fn _ _=>cases nv
 | rcc _ _ _=>cases nv
 | name _=>cases hs
 | call f a=>simp [T.parts] at hs;rcases hs with rfl|rfl;exact c.1;exact c.2
 | op w f a=>simp [T.parts] at hs;rcases hs with rfl|rfl;exact c.1;exact c.2
 | iff f a b=>simp [T.parts] at hs;rcases hs with rfl|rfl|rfl;exact c.1;exact c.2.1;exact c.2.2
theorem Zuy{t:T}(c:Gn.Cl [] t):∀ x,t≠.name x:=fun x e=>by subst e;cases c
noncomputable def wd(t:T):D:=.tup [t.d,oN (fo t)]
noncomputable def wc:Tx:=(.ex (.cmp .IsNot (.ix (.ix (.var 1) (.neg (.cst (.int 1)))) (.cst (.int 1))) (.cst .non)))
noncomputable def Zns:Sxs:=(.cons (.set (.nm 2) (.ix (.ix (.ix (.var 1) (.neg (.cst (.int 1)))) (.cst (.int 0))) (.ix (.ix (.var 1) (.neg (.cst (.int 1)))) (.cst (.int 1))))) (.cons (.drp (.meth .app (.var 1) (.cons (.tupl (.cons (.var 2) (.cons (.call (O "first_open") (.cons (.var 2) .nil)) .nil))) .nil))) .nil))
theorem ZqH(H:Trm P)(n:Nat){E:D}:∀ (fuel:Nat) (t:T) (A:List D) (o2:Option D),t.size<=fuel->A.length+t.size<=1000000->Gn.Cl [] t->isV t=false->∃ o2',
   ZV (tst (P.tbl (n+3)) wc) (xs2 (P.tbl (n+3)) Zns) fuel [some E,some (.ref h.length),o2] (h++[.lst (A++[wd t])])=.ok (.nx,[some E,some (.ref h.length),o2']) (h++[.lst (A++ZbN t)])
 | 0,t,A,o2,hf,_,_,_=>by have:=Zbv t;omega
 | fuel+1,t,A,o2,hf,hz,c,nv=>by
   have e1:ev (P.tbl (n+3)) (.ix (.var 1) (.neg (.cst (.int 1)))) [some E,some (.ref h.length),o2] (h++[.lst (A++[wd t])])=.ok (wd t) (h++[.lst (A++[wd t])]):=(ZaV rfl rfl).trans (by rw [ZI ZdP,ZqG];rfl);have e2:ev (P.tbl (n+3)) (.ix (.ix (.var 1) (.neg (.cst (.int 1)))) (.cst (.int 1))) [some E,some (.ref h.length),o2] (h++[.lst (A++[wd t])])=.ok (oN (fo t)) (h++[.lst (A++[wd t])]):=(ZaV e1 rfl).trans rfl;rcases Zou (h:=h++[.lst (A++[wd t])]) t nv (Zuy c) with ⟨h1,h2,h3⟩|⟨k,s,h1,h2,h3,h4,h5,h6⟩
   . refine ⟨o2,(ZgZ (Zt (ZnJ e2) (by rw [h1];simp [oN]))).trans ?_⟩;simp [ZbN,h2,h3,wd,h1,oN]
   . have sl:=Zhf h5;obtain ⟨o2',e⟩:=ZqH H n (E:=E) fuel s (A++[wd t]) (some s.d) (by omega) (by simp;omega) (Zqa c nv h5) h4;rw [h1] at e2;have ap:=Zd9 (d:=wd s) (ZdP (h:=h) (x:=.lst (A++[wd t])) (r:=[])) (by rw [sizeLine_eq];simp;omega);rw [ZqE] at ap;refine ⟨o2',(ZdS (Zt (ZnJ e2) (by simp [oN])) ((Za (Zv ((ZaV ((ZaV e1 rfl).trans rfl) e2).trans (h6 P.GD)))).trans ((Za (ZgN (Zj2 rfl ZdP (Zd (Zbi (Zd rfl (Zd (Zs (Ztx H n s) rfl) rfl)) (by simp)) rfl) ap))).trans rfl))).trans (Eq.trans e ?_)⟩;simp [ZbN,h2,h3,wd,h1,oN]
theorem Ztt (H:Trm P) (n:Nat) (t:T) (c:Gn.Cl [] t) (nv:isV t=false) (hz:t.size<=100000):run P (n+4) (O "way_down") [t.d] h=.ok (.ref h.length) (h++[.lst (ZbN t)]):=by
 rw [Zc H.way_down (by rfl)];have big:=H.big;obtain ⟨o2,e⟩:=ZqH H n (h:=h) (E:=t.d) P.L t [] none (by omega) (by simp;omega) c nv;have w:xs2 (P.tbl (n+3)) Zge [some t.d,none,none] h=.ok (.rt (.ref h.length),[some t.d,some (.ref h.length),o2]) (h++[.lst ([]++ZbN t)]):=(Za (Zv (Zj3 (Zd (Zbi (Zd rfl (Zd (Zs (Ztx H n t) rfl) rfl)) (by simp)) rfl) (by simp)))).trans ((Za (s:=.whl wc Zns) e).trans (Ze (ZA rfl)));exact congrArg Zh w
noncomputable def Za2:T->Nat->T->T
 | .call _ a,1,u=>.call u a
 | .call f _,2,u=>.call f u
 | .op w _ a,1,u=>.op w u a
 | .op w f _,2,u=>.op w f u
 | .iff _ t e,1,u=>.iff u t e
 | s,_,_=>s
noncomputable def Z1:List (T×Nat)->T->T
 | [],u=>u
 | (s,k)::r,u=>Za2 s k (Z1 r u)
noncomputable def Vp:T×Nat->Prop
 | (.call _ _,1)|(.call _ _,2)|(.op _ _ _,1)|(.op _ _ _,2)|(.iff _ _ _,1)=>True
 | _=>False
theorem Zes:∀ t:T,∀ p∈pth t,Vp p
 | .num _,p,hp=>by cases hp
 | .name _,p,hp=>by cases hp
 | .fn _ _,p,hp=>by cases hp
 | .rcc _ _ _,p,hp=>by cases hp
 | .call f a,p,hp=>by
   simp only [pth] at hp;split at hp
   . split at hp
     . cases hp
     . rcases O2.mp hp with rfl|hp
       . trivial
       . exact Zes a p hp
   . rcases O2.mp hp with rfl|hp
     . trivial
     . exact Zes f p hp
 | .op w f a,p,hp=>by
   simp only [pth] at hp;split at hp
   . split at hp
     . cases hp
     . rcases O2.mp hp with rfl|hp
       . trivial
       . exact Zes a p hp
   . rcases O2.mp hp with rfl|hp
     . trivial
     . exact Zes f p hp
 | .iff c t e,p,hp=>by
   simp only [pth] at hp;split at hp
   . cases hp
   . rcases O2.mp hp with rfl|hp
     . trivial
     . exact Zes c p hp
noncomputable def pd(p:T×Nat):D:=.tup [p.1.d,.int (p.2:Int)]
noncomputable def lb1:Sx:=(.set (.nm 2) (.bin .Add (.bin .Add (.sl (.var 3) none (some (.var 4))) (.tupl (.cons (.var 2) .nil))) (.sl (.var 3) (some (.bin .Add (.var 4) (.cst (.int 1)))) none)))
noncomputable def Zeb:Sxs:=(.cons lb1 .nil)
theorem Zrc{U:Tb}{a b:D}(p:T×Nat)(v:Vp p)(u:T):xs2 U Zeb [some a,some b,some u.d,some p.1.d,some (.int (p.2:Int))] h=.ok (.nx,[some a,some b,some (Za2 p.1 p.2 u).d,some p.1.d,some (.int (p.2:Int))]) h:=by
 have o:∀ (xs ys:List D),xs.length+ys.length<=10->opB .Add (.tup xs) (.tup ys) h=.ok (.tup (xs++ys)) h:=fun xs ys q=>Zdi (by rw [sizeLine_eq];omega);obtain ⟨s,k⟩:=p;have go:∀ r,xs1 U lb1 [some a,some b,some u.d,some s.d,some (.int (k:Int))] h=.ok (.nx,[some a,some b,some r,some s.d,some (.int (k:Int))]) h->xs2 U Zeb [some a,some b,some u.d,some s.d,some (.int (k:Int))] h=.ok (.nx,[some a,some b,some r,some s.d,some (.int (k:Int))]) h:=fun r e=>by
   rw [Zeb,Za e];rfl
 unfold Vp at v;split at v
 . rename_i e;cases e;exact go _ rfl
 . rename_i e;cases e;exact go _ rfl
 . rename_i e;cases e;exact go _ rfl
 . rename_i e;cases e;exact go _ rfl
 . rename_i e;cases e;exact go _ rfl
 . cases v
theorem Zny{U:Tb}{a b:D}{wk:Nat}{L:List D}(hw:h[wk]? = some (.lst L)):∀ (ps:List (T×Nat)) (rest:List D) (u:T) (o3 o4:Option D),(∀ p∈ps,Vp p)->∃ o3' o4',
   ZS (some (wk,L)) (.two 3 4) (xs2 U Zeb) ((ps.map pd).reverse++rest) [some a,some b,some u.d,o3,o4] h=ZS (some (wk,L)) (.two 3 4) (xs2 U Zeb) rest [some a,some b,some (Z1 ps u).d,o3',o4'] h
 | [],rest,u,o3,o4,_=>⟨o3,o4,rfl⟩
 | p::ps,rest,u,o3,o4,v=>by
   obtain ⟨o31,o41,e⟩:=Zny (U:=U) (a:=a) (b:=b) hw ps (pd p::rest) u o3 o4 (fun q hq=>v q (Oh _ hq));refine ⟨some p.1.d,some (.int (p.2:Int)),?_⟩;rw [Op,List.reverse_cons,Oz,List.cons_append,OB,e];exact ZiJ hw rfl (Zrc p (v p Oi) (Z1 ps u))
theorem Zjl (H:Trm P) (n:Nat) {wk:Nat} (ps:List (T×Nat)) (u:T) (hw:h[wk]? = some (.lst (ps.map pd))) (v:∀ p∈ps,Vp p):run P (n+1) (O "put_back") [.ref wk,u.d] h=.ok (Z1 ps u).d h:=by
 rw [Zc H.put_back (by rfl)];obtain ⟨o3,o4,e⟩:=Zny (U:=P.tbl n) (a:=.ref wk) (b:=u.d) hw ps [] u none none v;rw [List.append_nil,ZiK hw] at e;have ei:evi (P.tbl n) (.rev (.var 0)) [some (.ref wk),some u.d,some u.d,none,none] h=.ok ⟨some (wk,ps.map pd),(ps.map pd).reverse⟩ h:=by simp [Zgt,hw]
 have w:xs2 (P.tbl n) Zgf [some (.ref wk),some u.d,none,none,none] h=.ok (.rt (Z1 ps u).d,[some (.ref wk),some u.d,some (Z1 ps u).d,o3,o4]) h:=(Za (Zv rfl)).trans ((Za ((ZdJ ei).trans e)).trans (Ze (ZA rfl)));exact congrArg Zh w
end Tm
end
section
namespace Tm
open PySem L2 IV
variable {P:Pg}{h:Hd}
noncomputable def ZaD(f:Str)(F:T)(x:Str)(A:T):Fil:=if f=x then [(x,A)] else [(f,F),(x,A)]
noncomputable def bec:T->Option T
 | .call F A=>match F with
   | .fn x e=>some (sub (Fil.ar [(x,A)]) e)
   | .rcc f x e=>some (sub (Fil.ar (ZaD f (.rcc f x e) x A)) e)
   | _=>none
 | .iff c t e=>match c with
   | .num z=>some (if z=0 then e else t)
   | _=>none
 | .op w a b=>match a,b with
   | .num a,.num b=>some (.num (_root_.Rw.wk w a b))
   | _,_=>none
 | _=>none
noncomputable def next(t:T):Option T:=(bec (bot t)).map (Z1 (pth t))
noncomputable def oT:Option T->D
 | some t=>t.d
 | none=>.non
theorem ZbX{M:Nat}(hM:1<=M):∀ (t:T) (ar:Ar),(∀ x V,get ar x=some V->V.size<=M)->(sub ar t).size<=t.size * M
 | .num _,_,_=>by simp [sub,T.size,T.places];omega
 | .name x,ar,hv=>by
   cases e:get ar x with
   | none=>simp [sub,e,T.size,T.places];omega
   | some V=>have:=hv x V e;simp [sub,e];simp [T.size,T.places] at *;omega
 | .fn x e,ar,hv=>by
   have ih:=ZbX hM e ((x,none)::ar) (fun y V q=>hv y V (ZaC [x] ar q));rw [sub,Zb,Zb (.fn x e)];simp [T.parts,Nat.add_mul] at ih ⊢;omega
 | .rcc f x e,ar,hv=>by
   have ih:=ZbX hM e ((f,none)::(x,none)::ar) (fun y V q=>hv y V (ZaC [f,x] ar q));rw [sub,Zb,Zb (.rcc f x e)];simp [T.parts,Nat.add_mul] at ih ⊢;omega
 | .call f a,ar,hv=>by
   have i1:=ZbX hM f ar hv;have i2:=ZbX hM a ar hv;rw [sub,Zb,Zb (.call f a)];simp [T.parts,Nat.add_mul] at i1 i2 ⊢;omega
 | .op w f a,ar,hv=>by
   have i1:=ZbX hM f ar hv;have i2:=ZbX hM a ar hv;rw [sub,Zb,Zb (.op w f a)];simp [T.parts,Nat.add_mul] at i1 i2 ⊢;omega
 | .iff c t e,ar,hv=>by
   have i1:=ZbX hM c ar hv;have i2:=ZbX hM t ar hv;have i3:=ZbX hM e ar hv;rw [sub,Zb,Zb (.iff c t e)];simp [T.parts,Nat.add_mul] at i1 i2 i3 ⊢;omega
theorem Zhw:∀ (f:Fil) {x:Str}{V:T},get f.ar x=some V->(x,V)∈f
 | [],x,V,e=>by cases e
 | (y,W)::r,x,V,e=>by
   rw [Fil.ar,Op,get] at e;split at e
   . rename_i q;cases e;rw [<- q];exact Oi
   . exact Oh _ (Zhw r e)
theorem ZjZ{t:T}{f:Fil}(hs:∀ p∈f,p.2.size<=300):(sub f.ar t).size<=t.size * 300:=ZbX (M:=300) (by omega) t f.ar fun x V e=>hs (x,V) (Zhw f e)
theorem ZnS{t:T}{f:Fil}(ht:t.size<=300)(hf:f.length<=2)(hs:∀ p∈f,p.2.size<=300/\∀ x,p.2≠.name x):Wok 301 (t,fen f)/\(sub f.ar t).size<=300000:=by
 have:=ZjZ (t:=t) (f:=f) fun p hp=>(hs p hp).1;refine ⟨⟨?_,fun q hq v e=>?_⟩,by omega⟩
 . have:(fen f).length=f.length:=by simp [fen]
   simp only;omega
 . obtain ⟨p,hp,rfl⟩:=List.mem_map.mp hq;cases e;refine ⟨(hs p hp).2,?_,trivial⟩;have:=(hs p hp).1;show 0+2 * p.2.size<=602;omega
theorem ZmJ (H:Trm P) (n:Nat) (F A:T) (hv:isV F=true) (hF:F.size<=300) (hA:A.size<=300) (nA:∀ x,A≠.name x):∃ g,run P (n+5) (O "called") [F.d,A.d] h=.ok (oT (bec (.call F A))) (h++g):=by
 rw [Zc H.called (by cases F<;>rfl)];have gr:∀ (f:Fil),∃ k,k=h.length/\(h++[DO.dic f.kv])[k]? = some (.dic f.kv):=fun f=>⟨_,rfl,by simp⟩
 cases F with
 | num z=>exact ⟨[],by rw [List.append_nil];exact rfl⟩
 | fn x e =>
   have he:e.size<=300:=by rw [Zb] at hF;simp [T.parts] at hF;omega
   obtain ⟨w1,w2⟩:=ZnS (t:=e) (f:=[(x,A)]) he (by simp) (by simp;exact ⟨by omega,nA⟩);obtain ⟨g,q⟩:=ZkG H n e [(x,A)] (h0:=h) (h:=h++[.dic (Fil.kv [(x,A)])]) (dk:=h.length) (by simp) (by simp) (by simp) (Oq _) (by simp) (fun i hi=>Oe hi) (by omega) (by omega) w1 w2;refine ⟨g,?_⟩;exact rt1 (U:=P.tbl (n+4)) (ss:=Zdb) (S:=[some (T.fn x e).d,some A.d]) (Zj q rfl rfl) rfl
 | rcc f x e =>
   have he:e.size<=300:=by rw [Zb] at hF;simp [T.parts] at hF;omega
   have hlen:(ZaD f (.rcc f x e) x A).length<=2:=by unfold ZaD;split<;>simp
   have hnd:((ZaD f (.rcc f x e) x A).map (·.1)).Nodup:=by
     unfold ZaD;split
     . simp
     . simpa using (by assumption)
   obtain ⟨w1,w2⟩:=ZnS (t:=e) (f:=ZaD f (.rcc f x e) x A) he hlen (by
     unfold ZaD;split
     . simp;exact ⟨by omega,nA⟩
     . simp;exact ⟨hF,hA,nA⟩)
   obtain ⟨g,q⟩:=ZkG H n e (ZaD f (.rcc f x e) x A) (h0:=h) (h:=h++[.dic (Fil.kv (ZaD f (.rcc f x e) x A))]) (dk:=h.length) hnd (by omega) (by simp) (Oq _) (by simp) (fun i hi=>Oe hi) (by omega) (by omega) w1 w2;refine ⟨g,?_⟩;have mg:Zb2 [] [(Sum.inr f,(T.rcc f x e).d),(Sum.inr x,A.d)]=Fil.kv (ZaD f (.rcc f x e) x A):=by
     unfold ZaD;by_cases z:f=x
     . subst z;simp [Zb2,putD,Fil.kv]
     . have:¬ (Sum.inr f:Key)=Sum.inr x:=fun q=>z (Sum.inr.inj q);simp [Zb2,putD,Fil.kv,z]
   rw [<- mg] at q;show Zh (xs2 (P.tbl (n+4)) Zdb [some (T.rcc f x e).d,some A.d] h)=_;rw [nx1 (U:=P.tbl (n+4)) (ss:=Zdb) (S:=[some (T.rcc f x e).d,some A.d]) (ρ1:=[some (T.rcc f x e).d,some A.d]) (h2:=h) rfl rfl];exact rt1 (U:=P.tbl (n+4)) (ss:=tlS Zdb) (Zj q rfl rfl) rfl
 | _=>cases hv
theorem ZfH (H:Trm P) (n:Nat) (c a b:T) (hv:isV c=true):run P (n+1) (O "chosen") [c.d,a.d,b.d] h=.ok (oT (bec (.iff c a b))) h:=by
 rw [Zc H.chosen (by rfl)];cases c with
 | num z=>by_cases e:z=0<;>simp [ZaI,Zda,Zn,T.d,bec,oT,e]
 | fn x e=>exact rfl
 | rcc f x e=>exact rfl
 | _=>cases hv
theorem ZfG (H:Trm P) (n:Nat) (w:Wd) (a b:T) (va:isV a=true) (vb:isV b=true) (ca:Gn.Cl [] a) (cb:Gn.Cl [] b):run P (n+1) (O "worked") [.str w.s,a.d,b.d] h=.ok (oT (bec (.op w a b))) h:=by
 have no:∀ (a b:T),xs1 (P.tbl n) Zgd [some (.str w.s),some a.d,some b.d] h=.ok (.rt .non,[some (.str w.s),some a.d,some b.d]) h->run P (n+1) (O "worked") [.str w.s,a.d,b.d] h=.ok .non h:=fun a b e=>by
   rw [Zc H.worked (by rfl)];exact rt1 (U:=P.tbl n) (ss:=ZC) e rfl
 cases a with
 | num x =>
   cases b with
   | num y =>
     exact _root_.Rw.worked_nn H.worked H.gb n w ca cb
   | fn _ _=>exact no (.num x) (.fn _ _) rfl
   | rcc _ _ _=>exact no (.num x) (.rcc _ _ _) rfl
   | _=>cases vb
 | fn _ _=>exact no (.fn _ _) b rfl
 | rcc _ _ _=>exact no (.rcc _ _ _) b rfl
 | _=>cases va
noncomputable def Red:T->Prop
 | .call f a=>isV f=true/\isV a=true
 | .op _ f a=>isV f=true/\isV a=true
 | .iff c _ _=>isV c=true
 | _=>False
theorem Zct:∀ t:T,isV t=false->Gn.Cl [] t->Red (bot t)/\Gn.Cl [] (bot t)/\(bot t).size<=t.size
 | .num _,nv,_=>by cases nv
 | .name x,_,c=>by cases c
 | .fn _ _,nv,_=>by cases nv
 | .rcc _ _ _,nv,_=>by cases nv
 | .call f a,_,c=>by
   have z:(T.call f a).size=1+(f.size+a.size):=by rw [Zb];simp [T.parts]
   simp only [bot];split
   . split
     . exact ⟨⟨by assumption,by assumption⟩,c,Oq _⟩
     . rename_i q;have ih:=Zct a (by simpa using q) c.2;exact ⟨ih.1,ih.2.1,by omega⟩
   . rename_i q;have ih:=Zct f (by simpa using q) c.1;exact ⟨ih.1,ih.2.1,by omega⟩
 | .op w f a,_,c=>by
   have z:(T.op w f a).size=1+(f.size+a.size):=by rw [Zb];simp [T.parts]
   simp only [bot];split
   . split
     . exact ⟨⟨by assumption,by assumption⟩,c,Oq _⟩
     . rename_i q;have ih:=Zct a (by simpa using q) c.2;exact ⟨ih.1,ih.2.1,by omega⟩
   . rename_i q;have ih:=Zct f (by simpa using q) c.1;exact ⟨ih.1,ih.2.1,by omega⟩
 | .iff f a b,_,c=>by
   have z:(T.iff f a b).size=1+(f.size+(a.size+b.size)):=by rw [Zb];simp [T.parts]
   simp only [bot];split
   . exact ⟨by assumption,c,Oq _⟩
   . rename_i q;have ih:=Zct f (by simpa using q) c.1;exact ⟨ih.1,ih.2.1,by omega⟩
theorem ZmL (H:Trm P) (n:Nat) (t:T) (r:Red t) (c:Gn.Cl [] t) (hz:t.size<=300):∃ g,run P (n+6) (O "become") [t.d] h=.ok (oT (bec t)) (h++g):=by
 rw [Zc H.become (by rfl)];cases t with
 | call F A =>
   have z:(T.call F A).size=1+(F.size+A.size):=by rw [Zb];simp [T.parts]
   obtain ⟨g,e⟩:=ZmJ H n (h:=h) F A r.1 (by omega) (by omega) (fun x z=>by have:=r.2;rw [z] at this;cases this);exact ⟨g,rt1 (U:=P.tbl (n+5)) (ss:=ZaP) (S:=[some (T.call F A).d]) (Zj e rfl rfl) rfl⟩
 | iff a b d =>
   have e:=ZfH H (n+4) (h:=h) a b d r;exact ⟨[],by
     rw [List.append_nil];show Zh (xs2 (P.tbl (n+5)) ZaP [some (T.iff a b d).d] h)=_;rw [nx1 (U:=P.tbl (n+5)) (ss:=ZaP) (S:=[some (T.iff a b d).d]) (ρ1:=[some (T.iff a b d).d]) (h2:=h) rfl rfl];exact rt1 (U:=P.tbl (n+5)) (ss:=tlS ZaP) (Zj e rfl rfl) rfl⟩
 | op w a b =>
   have e:=ZfG H (n+4) (h:=h) w a b r.1 r.2 c.1 c.2;exact ⟨[],by
     rw [List.append_nil];show Zh (xs2 (P.tbl (n+5)) ZaP [some (T.op w a b).d] h)=_;rw [nx1 (U:=P.tbl (n+5)) (ss:=ZaP) (S:=[some (T.op w a b).d]) (ρ1:=[some (T.op w a b).d]) (h2:=h) (by cases w<;>rfl) rfl,nx1 (U:=P.tbl (n+5)) (ss:=tlS ZaP) (S:=[some (T.op w a b).d]) (ρ1:=[some (T.op w a b).d]) (h2:=h) (by cases w<;>rfl) rfl];exact rt1 (U:=P.tbl (n+5)) (ss:=tlS (tlS ZaP)) (Zj e rfl rfl) rfl⟩
 | _=>cases r
noncomputable def ans (t:T):D:=if isV t then .tup [.str (O "value")] else match next t with
 | some u=>.tup [.str (O "loud"),u.d]
 | none=>.tup [.str (O "stuck")]
theorem ZgE (H:Trm P) (n:Nat) (t:T) (c:Gn.Cl [] t) (hz:t.size<=300):∃ g,run P (n+7) (O "stepped") [t.d] h=.ok (ans t) (h++g):=by
 rw [Zc H.stepped (by rfl)];have ev:=ZqD H (n+5) (h:=h) t;show ∃ g,Zh (xs2 (P.tbl (n+6)) (.cons ZbU (.cons Zc3 (.cons Zc2 (.cons ZbT (.cons Zc1 .nil))))) [some t.d,none,none] h)=_;cases nv:isV t with
 | true =>
   rw [nv] at ev;refine ⟨[],?_⟩;have x1:xs1 (P.tbl (n+6)) ZbU [some t.d,none,none] h=.ok (.rt (.tup [.str (O "value")]),[some t.d,none,none]) h:=Zj ev rfl rfl;rw [Ze x1,List.append_nil,ans,nv];rfl
 | false =>
   rw [nv] at ev;have x1:xs1 (P.tbl (n+6)) ZbU [some t.d,none,none] h=.ok (.nx,[some t.d,none,none]) h:=Zj ev rfl rfl;have ew:=Ztt H (n+2) (h:=h) t c nv (by omega);have x2:xs1 (P.tbl (n+6)) Zc3 [some t.d,none,none] h=.ok (.nx,[some t.d,some (.ref h.length),none]) (h++[.lst (ZbN t)]):=Zj ew rfl rfl;obtain ⟨r1,r2,r3⟩:=Zct t nv c;obtain ⟨g,eb⟩:=ZmL H n (h:=h++[.lst (ZbN t)]) (bot t) r1 r2 (by omega);have ix:ZaS P.GD (.ref h.length) (.int (-1)) (h++[.lst (ZbN t)])=.ok (.tup [(bot t).d,.non]) (h++[.lst (ZbN t)]):=by rw [ZI (xs:=ZbN t) (by simp),ZbN,ZqG];rfl
   have x3:xs1 (P.tbl (n+6)) Zc2 [some t.d,some (.ref h.length),none] (h++[.lst (ZbN t)])=.ok (.nx,[some t.d,some (.ref h.length),some (oT (bec (bot t)))]) (h++[.lst (ZbN t)]++g):=Zv (Zs eb (Zd ((ZaV ((ZaV rfl rfl).trans ix) rfl).trans rfl) rfl));rw [Za x1,Za x2,Za x3];have kw:(h++[DO.lst (ZbN t)]++g)[h.length]? = some (.lst (ZbN t)):=by simp
   cases hb:bec (bot t) with
   | none =>
     refine ⟨[.lst (ZbN t)]++g,?_⟩;have x4:xs1 (P.tbl (n+6)) ZbT [some t.d,some (.ref h.length),some (oT none)] (h++[.lst (ZbN t)]++g)=.ok (.rt (.tup [.str (O "stuck")]),[some t.d,some (.ref h.length),some (oT none)]) (h++[.lst (ZbN t)]++g):=(Zr (ZjT rfl)).trans (Ze (ZA rfl));rw [Ze x4,ans,nv,next,hb,<- Oz];rfl
   | some u =>
     generalize hh:h++[DO.lst (ZbN t)]++g=h1 at *;have nn:u.d≠.non:=by cases u<;>simp [T.d]
     have x4:xs1 (P.tbl (n+6)) ZbT [some t.d,some (.ref h.length),some (oT (some u))] h1=.ok (.nx,[some t.d,some (.ref h.length),some (oT (some u))]) h1:=(Zx (Zl0 rfl nn)).trans rfl;have ep:=Zjl H (n+5) (h:=h1++[.lst ((pth t).map pd)]) (wk:=h1.length) (pth t) u (by simp) (Zes t);have sl:Zgj (.ref h.length) none (some (-1)) h1=.ok (.ref h1.length) (h1++[.lst ((pth t).map pd)]):=by
       have:cutD (ZbN t) none (some (-1))=(pth t).map pd:=by rw [ZbN,ZsF];rfl
       simp [Zgj,lstOf,kw,this]
     refine ⟨[.lst (ZbN t)]++g++[.lst ((pth t).map pd)],?_⟩;have x5:xs1 (P.tbl (n+6)) Zc1 [some t.d,some (.ref h.length),some (oT (some u))] h1=.ok (.rt (.tup [.str (O "loud"),(Z1 (pth t) u).d]),[some t.d,some (.ref h.length),some (oT (some u))]) (h1++[.lst ((pth t).map pd)]):=ZA (Zbi (Zd rfl (Zd (Zs ep (Zd ((Gn.ZkA rfl rfl rfl).trans sl) rfl)) rfl)) (by simp));rw [Za x4,Ze x5,ans,nv,next,hb,<- Oz,<- Oz,hh];rfl
end Tm
end
section
namespace Tm
open PySem L2 IV
variable {P:Pg}{h:Hd}
noncomputable def Kp(ar:Ar)(sc sc':List Str):Prop:=∀ x∈sc,(∃ V,get ar x=some V/\Gn.Cl [] V)\/(get ar x=none/\x∈sc')
theorem Kp.bind{ar:Ar}{sc sc':List Str}(k:Kp ar sc sc')(y:Str):Kp ((y,none)::ar) (y::sc) (y::sc'):=fun x hx=>by
 unfold get;by_cases e:y=x
 . rw [if_pos e];exact .inr ⟨rfl,by rw [e];exact Oi⟩
 . rw [if_neg e];rcases O2.mp hx with z|z
   . exact absurd z.symm e
   . rcases k x z with q|q
     . exact .inl q
     . exact .inr ⟨q.1,Oh _ q.2⟩
theorem Kp.two{ar:Ar}{sc sc':List Str}(k:Kp ar sc sc')(f x:Str):Kp ((f,none)::(x,none)::ar) (x::f::sc) (x::f::sc'):=fun z hz=>by
 have q:=(k.bind x).bind f z (by simp at hz ⊢;rcases hz with h|h|h<;>simp [h]);rcases q with q|q
 . exact .inl q
 . exact .inr ⟨q.1,by have:=q.2;simp at this ⊢;rcases this with h|h|h<;>simp [h]⟩
theorem Zbj:∀ (t:T) {ar:Ar}{sc sc':List Str},Kp ar sc sc'->Gn.Cl sc t->Gn.Cl sc' (sub ar t)
 | .num _,_,_,_,_,c=>c
 | .name x,ar,sc,sc',k,c=>by
   rcases k x c with ⟨V,e,cv⟩|⟨e,m⟩
   . rw [sub,e];exact Gn.Cl.mono (fun y hy=>by cases hy) cv
   . rw [sub,e];exact m
 | .fn x e,_,_,_,k,c=>Zbj e (k.bind x) c
 | .rcc f x e,_,_,_,k,c=>⟨Zbj e (k.two f x) c.1,c.2⟩
 | .call f a,_,_,_,k,c=>⟨Zbj f k c.1,Zbj a k c.2⟩
 | .iff f a b,_,_,_,k,c=>⟨Zbj f k c.1,Zbj a k c.2.1,Zbj b k c.2.2⟩
 | .op _ f a,_,_,_,k,c=>⟨Zbj f k c.1,Zbj a k c.2⟩
theorem ZaM{M:Nat}:∀ (t:T) (ar:Ar),(∀ x V,get ar x=some V->Gn.dep V<=M)->Gn.dep (sub ar t)<=Gn.dep t+M
 | .num _,_,_=>by simp [sub,Gn.dep]
 | .name x,ar,hv=>by
   cases e:get ar x with
   | none=>simp [sub,e,Gn.dep]
   | some V=>have:=hv x V e;simp [sub,e];omega
 | .fn x e,ar,hv=>by have:=ZaM e ((x,none)::ar) (fun y V q=>hv y V (ZaC [x] ar q));simp only [sub,Gn.dep];omega
 | .rcc f x e,ar,hv=>by have:=ZaM e ((f,none)::(x,none)::ar) (fun y V q=>hv y V (ZaC [f,x] ar q));simp only [sub,Gn.dep];omega
 | .call f a,ar,hv=>by have:=ZaM f ar hv;have:=ZaM a ar hv;simp only [sub,Gn.dep];omega
 | .op w f a,ar,hv=>by have:=ZaM f ar hv;have:=ZaM a ar hv;simp only [sub,Gn.dep];omega
 | .iff c t e,ar,hv=>by have:=ZaM c ar hv;have:=ZaM t ar hv;have:=ZaM e ar hv;simp only [sub,Gn.dep];omega
theorem ZbF:∀ t:T,Gn.dep t<t.size
 | .num _=>by simp [Gn.dep,T.size,T.places]
 | .name _=>by simp [Gn.dep,T.size,T.places]
 | .fn x e=>by have:=ZbF e;rw [Zb];simp [Gn.dep,T.parts];omega
 | .rcc f x e=>by have:=ZbF e;rw [Zb];simp [Gn.dep,T.parts];omega
 | .call f a=>by have:=ZbF f;have:=ZbF a;rw [Zb];simp [Gn.dep,T.parts];omega
 | .op w f a=>by have:=ZbF f;have:=ZbF a;rw [Zb];simp [Gn.dep,T.parts];omega
 | .iff c t e=>by have:=ZbF c;have:=ZbF t;have:=ZbF e;rw [Zb];simp [Gn.dep,T.parts];omega
theorem ZnT{f:Fil}(hc:∀ p∈f,Gn.Cl [] p.2)(sc:List Str)(hk:∀ x∈sc,x∈f.map (·.1)):Kp f.ar sc []:=fun x hx=>by
 have:∀ (f:Fil),(∀ p∈f,Gn.Cl [] p.2)->x∈f.map (·.1)->∃ V,get f.ar x=some V/\Gn.Cl [] V:=by
   intro f;induction f with
   | nil=>intro _ z;cases z
   | cons p r ih =>
     intro hc z;rw [Fil.ar,Op,get];by_cases e:p.1=x
     . rw [if_pos e];exact ⟨p.2,rfl,hc p Oi⟩
     . rw [if_neg e];rw [Op] at z;rcases O2.mp z with q|q
       . exact absurd q.symm e
       . exact ih (fun p hp=>hc p (Oh _ hp)) q
 exact .inl (this f hc (hk x hx))
theorem Zqk(t u:T)(r:Red t)(c:Gn.Cl [] t)(hz:t.size<=300)(e:bec t=some u):Gn.Cl [] u/\u.size<=t.size * 300:=by
 cases t with
 | call F A =>
   have z:(T.call F A).size=1+(F.size+A.size):=by rw [Zb];simp [T.parts]
   cases F with
   | fn x b =>
     cases e;have zb:(T.fn x b).size=1+b.size:=by rw [Zb];simp [T.parts]
     have fo:=ZjZ (t:=b) (f:=[(x,A)]) (by simp;omega);refine ⟨Zbj b (ZnT (by simp;exact c.2) [x] (by simp)) c.1,OE fo (Nat.mul_le_mul_right _ (by rw [z,zb];omega))⟩
   | rcc f x b =>
     cases e;have zb:(T.rcc f x b).size=1+b.size:=by rw [Zb];simp [T.parts]
     have mem:∀ p∈ZaD f (.rcc f x b) x A,p.2=.rcc f x b\/p.2=A:=by
       intro p hp;unfold ZaD at hp;split at hp
       . simp at hp;rw [hp];exact .inr rfl
       . simp at hp;rcases hp with rfl|rfl
         . exact .inl rfl
         . exact .inr rfl
     have fo:=ZjZ (t:=b) (f:=ZaD f (.rcc f x b) x A) (fun p hp=>by rcases mem p hp with q|q<;>rw [q]<;>omega);refine ⟨Zbj b (ZnT (fun p hp=>by rcases mem p hp with q|q<;>rw [q];exact c.1;exact c.2) [x,f] (by unfold ZaD;split<;>simp_all)) c.1.1,OE fo (Nat.mul_le_mul_right _ (by rw [z,zb];omega))⟩
   | _=>cases e
 | iff a b d =>
   have z:(T.iff a b d).size=1+(a.size+(b.size+d.size)):=by rw [Zb];simp [T.parts]
   cases a with
   | num m =>
     simp only [bec,Option.some.injEq] at e;subst e;split
     . exact ⟨c.2.2,by omega⟩
     . exact ⟨c.2.1,by omega⟩
   | _=>cases e
 | op w a b =>
   cases a with
   | num x =>
     cases b with
     | num y =>
       cases e;have:=_root_.Rw.wk_ok w x y;exact ⟨this,by simp [T.size,T.places]⟩
     | _=>cases e
   | _=>cases e
 | _=>cases r
theorem ZmW:∀ (t:T) (u:T),Gn.Cl [] t->Gn.Cl [] u->Gn.Cl [] (Z1 (pth t) u)/\(Z1 (pth t) u).size<=t.size+u.size:=by
 have two:∀ a b c u:Nat,a<=b+u->1+(a+c)<=1+(b+c)+u:=fun a b c u q=>by omega
 have two':∀ a b c u:Nat,a<=b+u->1+(c+a)<=1+(c+b)+u:=fun a b c u q=>by omega
 have z2:∀ f a,(T.call f a).size=1+(f.size+a.size):=fun f a=>by rw [Zb];simp [T.parts]
 have o2:∀ w f a,(T.op w f a).size=1+(f.size+a.size):=fun w f a=>by rw [Zb];simp [T.parts]
 have i2:∀ f a b,(T.iff f a b).size=1+(f.size+(a.size+b.size)):=fun f a b=>by rw [Zb];simp [T.parts]
 intro t u;induction t with
 | num _=>exact fun _ cu=>⟨cu,Nat.le_add_left _ _⟩
 | name _=>exact fun _ cu=>⟨cu,Nat.le_add_left _ _⟩
 | fn _ _ _=>exact fun _ cu=>⟨cu,Nat.le_add_left _ _⟩
 | rcc _ _ _ _=>exact fun _ cu=>⟨cu,Nat.le_add_left _ _⟩
 | call f a q1 q2 =>
   intro c cu;cases hf:isV f with
   | false =>
     simp only [pth,hf,Z1,Za2,OG,if_false];exact ⟨⟨(q1 c.1 cu).1,c.2⟩,by rw [z2,z2];exact two _ _ _ _ (q1 c.1 cu).2⟩
   | true =>
     cases ha:isV a with
     | false =>
       simp only [pth,hf,ha,Z1,Za2,OG,if_false,if_true];exact ⟨⟨c.1,(q2 c.2 cu).1⟩,by rw [z2,z2];exact two' _ _ _ _ (q2 c.2 cu).2⟩
     | true =>
       simp only [pth,hf,ha,Z1,if_true];exact ⟨cu,Nat.le_add_left _ _⟩
 | op w f a q1 q2 =>
   intro c cu;cases hf:isV f with
   | false =>
     simp only [pth,hf,Z1,Za2,OG,if_false];exact ⟨⟨(q1 c.1 cu).1,c.2⟩,by rw [o2,o2];exact two _ _ _ _ (q1 c.1 cu).2⟩
   | true =>
     cases ha:isV a with
     | false =>
       simp only [pth,hf,ha,Z1,Za2,OG,if_false,if_true];exact ⟨⟨c.1,(q2 c.2 cu).1⟩,by rw [o2,o2];exact two' _ _ _ _ (q2 c.2 cu).2⟩
     | true =>
       simp only [pth,hf,ha,Z1,if_true];exact ⟨cu,Nat.le_add_left _ _⟩
 | iff f a b q1 q2 q3 =>
   intro c cu;cases hf:isV f with
   | false =>
     simp only [pth,hf,Z1,Za2,OG,if_false];exact ⟨⟨(q1 c.1 cu).1,c.2.1,c.2.2⟩,by rw [i2,i2];exact two _ _ _ _ (q1 c.1 cu).2⟩
   | true =>
     simp only [pth,hf,Z1,if_true];exact ⟨cu,Nat.le_add_left _ _⟩
theorem Zin{t u:T}(nv:isV t=false)(c:Gn.Cl [] t)(hz:t.size<=120)(e:next t=some u):Gn.Cl [] u/\u.size<=40000:=by
 obtain ⟨v,e1,rfl⟩:=Oo.mp e;obtain ⟨r1,r2,r3⟩:=Zct t nv c;obtain ⟨b1,b2⟩:=Zqk (bot t) v r1 r2 (by omega) e1;obtain ⟨p1,p2⟩:=ZmW t v c b1;have:(bot t).size * 300<=120 * 300:=Nat.mul_le_mul_right _ (by omega);exact ⟨p1,by omega⟩
theorem Zp7(b A:T){x:Str}:Gn.dep b+Gn.dep A<=2 * Gn.dep (.call (.fn x b) A):=by
 show _<=2 * (max (Gn.dep b+1) (Gn.dep A)+1);omega
theorem Zn2(b A:T){f x:Str}:Gn.dep b+max (Gn.dep (.rcc f x b)) (Gn.dep A)<=2 * Gn.dep (.call (.rcc f x b) A):=by
 show Gn.dep b+max (Gn.dep b+1) (Gn.dep A)<=2 * (max (Gn.dep b+1) (Gn.dep A)+1);omega
theorem Zl6(a b d:T):Gn.dep d<=2 * Gn.dep (.iff a b d):=by
 show _<=2 * (max (Gn.dep a) (max (Gn.dep b) (Gn.dep d))+1);omega
theorem Zj8(a b d:T):Gn.dep b<=2 * Gn.dep (.iff a b d):=by
 show _<=2 * (max (Gn.dep a) (max (Gn.dep b) (Gn.dep d))+1);omega
theorem Zql(t u:T)(e:bec t=some u):Gn.dep u<=2 * Gn.dep t:=by
 cases t with
 | call F A =>
   cases F with
   | fn x b =>
     cases e;have dd:=ZaM (M:=Gn.dep A) b (Fil.ar [(x,A)]) (fun y V q=>by have:=Zhw [(x,A)] q;simp at this;rw [this.2];exact Oq _);exact OE dd (Zp7 _ _)
   | rcc f x b =>
     cases e;have dd:=ZaM (M:=max (Gn.dep (.rcc f x b)) (Gn.dep A)) b (Fil.ar (ZaD f (.rcc f x b) x A)) (fun y V q=>by
       have m:=Zhw _ q;unfold ZaD at m;split at m
       . simp at m;rw [m.2];exact Nat.le_max_right _ _
       . simp at m;rcases m with m|m
         . rw [m.2];exact Nat.le_max_left _ _
         . rw [m.2];exact Nat.le_max_right _ _)
     exact OE dd (Zn2 _ _)
   | _=>cases e
 | iff a b d =>
   cases a with
   | num m =>
     simp only [bec,Option.some.injEq] at e;subst e;split
     . exact Zl6 _ _ _
     . exact Zj8 _ _ _
   | _=>cases e
 | op w a b =>
   cases a with
   | num x =>
     cases b with
     | num y=>cases e;exact Nat.zero_le _
     | _=>cases e
   | _=>cases e
 | _=>cases e
theorem ZmX(u:T):∀ t:T,Gn.dep (Z1 (pth t) u)<=max (Gn.dep t) ((pth t).length+Gn.dep u)/\(pth t).length+Gn.dep (bot t)<=Gn.dep t:=by
 have m1:∀ a b c n u:Nat,a<=max b (n+u)->max a c+1<=max (max b c+1) (n+1+u):=fun a b c n u q=>by omega
 have m2:∀ a b c n u:Nat,a<=max b (n+u)->max c a+1<=max (max c b+1) (n+1+u):=fun a b c n u q=>by omega
 have m3:∀ b c n d:Nat,n+d<=b->n+1+d<=max b c+1:=fun b c n d q=>by omega
 have m4:∀ b c n d:Nat,n+d<=b->n+1+d<=max c b+1:=fun b c n d q=>by omega
 have m0:∀ d u:Nat,u<=max d (0+u):=fun d u=>by omega
 have m5:∀ d:Nat,0+d<=d:=fun d=>by omega
 intro t;induction t with
 | num _=>exact ⟨m0 _ _,m5 _⟩
 | name _=>exact ⟨m0 _ _,m5 _⟩
 | fn _ _ _=>exact ⟨m0 _ _,m5 _⟩
 | rcc _ _ _ _=>exact ⟨m0 _ _,m5 _⟩
 | call f a q1 q2 =>
   cases hf:isV f with
   | false =>
     simp only [pth,hf,Z1,Za2,bot,OG,if_false,Os];exact ⟨m1 _ _ _ _ _ q1.1,m3 _ _ _ _ q1.2⟩
   | true =>
     cases ha:isV a with
     | false =>
       simp only [pth,hf,ha,Z1,Za2,bot,OG,if_false,if_true,Os];exact ⟨m2 _ _ _ _ _ q2.1,m4 _ _ _ _ q2.2⟩
     | true =>
       simp only [pth,hf,ha,Z1,bot,if_true];exact ⟨m0 _ _,m5 _⟩
 | op w f a q1 q2 =>
   cases hf:isV f with
   | false =>
     simp only [pth,hf,Z1,Za2,bot,OG,if_false,Os];exact ⟨m1 _ _ _ _ _ q1.1,m3 _ _ _ _ q1.2⟩
   | true =>
     cases ha:isV a with
     | false =>
       simp only [pth,hf,ha,Z1,Za2,bot,OG,if_false,if_true,Os];exact ⟨m2 _ _ _ _ _ q2.1,m4 _ _ _ _ q2.2⟩
     | true =>
       simp only [pth,hf,ha,Z1,bot,if_true];exact ⟨m0 _ _,m5 _⟩
 | iff f a b q1 q2 q3 =>
   cases hf:isV f with
   | false =>
     simp only [pth,hf,Z1,Za2,bot,OG,if_false,Os];exact ⟨m1 _ _ _ _ _ q1.1,m3 _ _ _ _ q1.2⟩
   | true =>
     simp only [pth,hf,Z1,bot,if_true];exact ⟨m0 _ _,m5 _⟩
theorem ZpB{t u:T}(nv:isV t=false)(c:Gn.Cl [] t)(hz:t.size<=120)(e:next t=some u):Gn.Cl [] u/\u.size<=40000/\Gn.dep u<=240:=by
 obtain ⟨p1,p2⟩:=Zin nv c hz e;obtain ⟨v,e1,rfl⟩:=Oo.mp e;have d1:=Zql (bot t) v e1;obtain ⟨d2,d3⟩:=ZmX v t;have dl:=ZbF t;refine ⟨p1,p2,?_⟩;generalize Gn.dep (Z1 (pth t) v)=a at *;generalize Gn.dep (bot t)=b at *;generalize Gn.dep v=d at *;generalize Gn.dep t=f at *;generalize (pth t).length=n at *;clear e e1 p1 p2 nv c;omega
end Tm
end
section
namespace Rw
open PySem L2 IV Gn
theorem ZnM(x:Str):∀ ar:Ar,Tm.get (ra ar) x=(ar.get x).map rd
 | .nil=>rfl
 | .cons y v r=>by
   rw [ra,Tm.get,Ar.get];split
   . rfl
   . exact ZnM x r
mutual
theorem ZqB:∀ v:Th,ZeD v->Cl [] (rd v)
 | .num n,h=>by rw [rd];exact h
 | .clo E ar,h=>by rw [rd];exact Tm.Zbj E (kp_ra ar h.2.2) h.2.1
theorem kp_ra:∀ ar:Ar,ArOk ar->Tm.Kp (ra ar) ar.keys []
 | .nil,_=>fun x hx=>by cases hx
 | .cons y v r,h=>fun x hx=>by
   rw [ra,Tm.get];split
   . exact .inl ⟨rd v,rfl,ZqB v h.1⟩
   . rename_i ne;rcases O2.mp hx with e|hx
     . exact absurd e.symm ne
     . exact kp_ra r h.2 x hx
end
theorem Zi8:∀ {ar:Ar}{x:Str}{V:T},ArOk ar->Tm.get (ra ar) x=some V->Cl [] V
 | .nil,x,V,_,e=>by cases e
 | .cons y v r,x,V,h,e=>by
   rw [ra,Tm.get] at e;split at e
   . cases e;exact ZqB v h.1
   . exact Zi8 h.2 e
theorem Zlu{v:Th}(h:ZeD v):Tm.isV (rd v)=true:=by
 cases v with
 | num n=>rfl
 | clo E ar =>
   cases E with
   | fn x e=>rfl
   | rcc f x e=>rfl
   | _=>cases h.1
theorem ZbY:∀ (t:T) {sc:List Str}{ar:List (Str×Option T)},Cl sc t->(∀ y∈sc,Tm.get ar y=none)->Tm.sub ar t=t
 | .num _,_,_,_,_=>rfl
 | .name x,_,_,c,n=>by rw [Tm.sub,n x c];rfl
 | .fn x e,sc,ar,c,n=>by
   rw [Tm.sub,ZbY e (sc:=x::sc) c fun y hy=>?_];rw [Tm.get];split
   . rfl
   . rename_i ne;rcases O2.mp hy with q|q
     . exact absurd q.symm ne
     . exact n y q
 | .rcc f x e,sc,ar,c,n=>by
   rw [Tm.sub,ZbY e (sc:=x::f::sc) c.1 fun y hy=>?_];rw [Tm.get];split
   . rfl
   . rename_i nf;rw [Tm.get];split
     . rfl
     . rename_i nx;rcases O2.mp hy with q|q
       . exact absurd q.symm nx
       . rcases O2.mp q with q|q
         . exact absurd q.symm nf
         . exact n y q
 | .call f a,_,_,c,n=>by rw [Tm.sub,ZbY f c.1 n,ZbY a c.2 n]
 | .iff p q r,_,_,c,n=>by rw [Tm.sub,ZbY p c.1 n,ZbY q c.2.1 n,ZbY r c.2.2 n]
 | .op w f a,_,_,c,n=>by rw [Tm.sub,ZbY f c.1 n,ZbY a c.2 n]
noncomputable def Cmp(r t k:List (Str×Option T)):Prop:=∀ x,(∃ V,Tm.get r x=some V/\Tm.get k x=some V/\Cl [] V)\/(Tm.get r x=none/\Tm.get k x=Tm.get t x)
theorem Cmp.none{r t k:List (Str×Option T)}(c:Cmp r t k)(y:Str):Cmp ((y,none)::r) ((y,none)::t) ((y,none)::k):=fun x=>by
 simp only [Tm.get];split
 . exact .inr ⟨rfl,rfl⟩
 . exact c x
theorem ZaA:∀ (e:T) {r t k:List (Str×Option T)},Cmp r t k->Tm.sub t (Tm.sub r e)=Tm.sub k e
 | .num _,_,_,_,_=>rfl
 | .name x,r,t,k,c=>by
   rcases c x with ⟨V,e1,e2,cl⟩|⟨e1,e2⟩
   . simp only [Tm.sub,e1,e2,Option.getD_some];exact ZbY V cl (fun y hy=>by cases hy)
   . simp only [Tm.sub,e1,e2,Option.getD_none]
 | .fn x e,_,_,_,c=>by rw [Tm.sub,Tm.sub,Tm.sub,ZaA e (c.none x)]
 | .rcc f x e,_,_,_,c=>by rw [Tm.sub,Tm.sub,Tm.sub,ZaA e ((c.none x).none f)]
 | .call f a,_,_,_,c=>by rw [Tm.sub,Tm.sub,Tm.sub,ZaA f c,ZaA a c]
 | .iff p q s,_,_,_,c=>by rw [Tm.sub,Tm.sub,Tm.sub,ZaA p c,ZaA q c,ZaA s c]
 | .op w f a,_,_,_,c=>by rw [Tm.sub,Tm.sub,Tm.sub,ZaA f c,ZaA a c]
theorem Zrj{x:Str}{e:T}{ar:Ar}{A:T}(ok:ArOk ar):Tm.sub [(x,some A)] (Tm.sub ((x,none)::ra ar) e)=Tm.sub ((x,some A)::ra ar) e:=by
 refine ZaA e fun y=>?_;simp only [Tm.get];split
 . exact .inr ⟨rfl,rfl⟩
 . cases q:Tm.get (ra ar) y with
   | none=>exact .inr ⟨rfl,rfl⟩
   | some V=>exact .inl ⟨V,rfl,rfl,Zi8 ok q⟩
theorem ZoI{f x:Str}(ne:f≠x){e:T}{ar:Ar}{F A:T}(ok:ArOk ar):Tm.sub [(f,some F),(x,some A)] (Tm.sub ((f,none)::(x,none)::ra ar) e)=Tm.sub ((x,some A)::(f,some F)::ra ar) e:=by
 refine ZaA e fun y=>?_;simp only [Tm.get];by_cases q1:f=y
 . subst q1;rw [if_pos rfl,if_neg (Ne.symm ne),if_pos rfl,if_pos rfl];exact .inr ⟨rfl,rfl⟩
 . rw [if_neg q1,if_neg q1,if_neg q1];by_cases q2:x=y
   . rw [if_pos q2,if_pos q2,if_pos q2];exact .inr ⟨rfl,rfl⟩
   . rw [if_neg q2,if_neg q2,if_neg q2];cases q:Tm.get (ra ar) y with
     | none=>exact .inr ⟨rfl,rfl⟩
     | some V=>exact .inl ⟨V,rfl,rfl,Zi8 ok q⟩
noncomputable def fw:Wt->T->T
 | .arg A ar,t=>.call t (Tm.sub (ra ar) A)
 | .fn V,t=>.call (rd V) t
 | .iff a b ar,t=>.iff t (Tm.sub (ra ar) a) (Tm.sub (ra ar) b)
 | .right w F ar,t=>.op w t (Tm.sub (ra ar) F)
 | .left w V,t=>.op w (rd V) t
noncomputable def rnd(ws:List Wt)(t:T):T:=ws.foldl (fun t w=>fw w t) t
noncomputable def read:Sta->T
 | .go E ar ws=>rnd ws (Tm.sub (ra ar) E)
 | .back V ws=>rnd ws (rd V)
structure Wn(t t':T)(k:Nat)(f:T->T):Prop where
 v:Tm.isV t'=false
 l:(Tm.pth t').length=(Tm.pth t).length+k
 b:Tm.bot t'=Tm.bot t
 p:∀ u,Tm.Z1 (Tm.pth t') u=f (Tm.Z1 (Tm.pth t) u)
theorem Zuj{w:Wt}(ok:Ze5 w){t:T}(nv:Tm.isV t=false):Wn t (fw w t) 1 (fw w):=by
 cases w with
 | arg A ar=>exact ⟨rfl,by simp [fw,Tm.pth,nv],by simp [fw,Tm.bot,nv],fun u=>by simp [fw,Tm.pth,nv,Tm.Z1,Tm.Za2]⟩
 | fn V=>have v:=Zlu ok;exact ⟨rfl,by simp [fw,Tm.pth,nv,v],by simp [fw,Tm.bot,nv,v],fun u=>by simp [fw,Tm.pth,nv,v,Tm.Z1,Tm.Za2]⟩
 | iff a b ar=>exact ⟨rfl,by simp [fw,Tm.pth,nv],by simp [fw,Tm.bot,nv],fun u=>by simp [fw,Tm.pth,nv,Tm.Z1,Tm.Za2]⟩
 | right w F ar=>exact ⟨rfl,by simp [fw,Tm.pth,nv],by simp [fw,Tm.bot,nv],fun u=>by simp [fw,Tm.pth,nv,Tm.Z1,Tm.Za2]⟩
 | left w V=>have v:=Zlu ok;exact ⟨rfl,by simp [fw,Tm.pth,nv,v],by simp [fw,Tm.bot,nv,v],fun u=>by simp [fw,Tm.pth,nv,v,Tm.Z1,Tm.Za2]⟩
theorem ZmB:∀ (ws:List Wt) {t:T},(∀ w∈ws,Ze5 w)->Tm.isV t=false->Wn t (rnd ws t) ws.length (rnd ws)
 | [],t,_,nv=>⟨nv,rfl,rfl,fun _=>rfl⟩
 | w::ws,t,ok,nv=>by
   have a:=Zuj (ok w Oi) nv;have b:=ZmB ws (fun x hx=>ok x (Oh _ hx)) a.v;exact ⟨b.v,by rw [show rnd (w::ws) t=rnd ws (fw w t) from rfl,b.l,a.l,Os];omega,b.b.trans a.b,fun u=>by rw [show rnd (w::ws) t=rnd ws (fw w t) from rfl,b.p,a.p];rfl⟩
theorem Zrp{ws:List Wt}{t:T}(ok:∀ w∈ws,Ze5 w)(nv:Tm.isV t=false)(hp:Tm.pth t=[])(hb:Tm.bot t=t):Tm.isV (rnd ws t)=false/\Tm.next (rnd ws t)=(Tm.bec t).map (rnd ws)/\(Tm.pth (rnd ws t)).length=ws.length:=by
 have a:=ZmB ws ok nv;refine ⟨a.v,?_,by rw [a.l,hp];exact Nat.zero_add _⟩;unfold Tm.next;rw [a.b,hb];refine congrArg (fun f=>(Tm.bec t).map f) ?_;funext u;rw [a.p,hp];rfl
noncomputable def At(s:Sta):Prop:=Tm.isV (read s)=false/\∃ V ws,s=.back V ws/\(Tm.pth (read s)).length+1=ws.length
noncomputable def Sim(s:Sta):Ans->Prop
 | .quiet s'=>read s'=read s
 | .loud s'=>At s/\Tm.next (read s)=some (read s')
 | .value=>∃ V,s=.back V []/\Tm.isV (read s)=true
 | .stuck=>At s/\Tm.next (read s)=none
theorem Zmq(s:Sta)(ok:Zem s):Sim s (step s):=by
 cases s with
 | go E ar ws =>
   cases E with
   | num z=>exact rfl
   | name x =>
     obtain ⟨v,e⟩:=Ar.get_some (ar:=ar) ok.1;have:step (.go (.name x) ar ws)=.quiet (.back v ws):=by simp only [step,thing,e]
     rw [this];show rnd ws (rd v)=rnd ws (Tm.sub (ra ar) (.name x));rw [Tm.sub,ZnM,e];rfl
   | fn x e=>exact rfl
   | rcc f x e=>exact rfl
   | call F A=>exact rfl
   | iff C t e=>exact rfl
   | op w x y=>exact rfl
 | back V ws =>
   cases ws with
   | nil=>exact ⟨V,rfl,Zlu ok.1⟩
   | cons w r =>
     have okr:∀ x∈r,Ze5 x:=fun x hx=>ok.2 x (Oh _ hx);have okw:=ok.2 w Oi;have vV:=Zlu ok.1;have at':∀ t:T,fw w (rd V)=t->Tm.isV t=false->Tm.pth t=[]->Tm.bot t=t->At (.back V (w::r))/\Tm.next (read (.back V (w::r)))=(Tm.bec t).map (rnd r):=fun t e nv hp hb=>by
       have q:=Zrp okr nv hp hb;have e2:read (.back V (w::r))=rnd r t:=by rw [<- e];rfl
       exact ⟨⟨by rw [e2];exact q.1,V,w::r,rfl,by rw [e2,q.2.2];rfl⟩,by rw [e2];exact q.2.1⟩
     cases w with
     | arg A ar=>exact rfl
     | right w F ar=>exact rfl
     | fn W =>
       have vW:=Zlu okw;obtain ⟨a,n⟩:=at' _ rfl rfl (by simp [fw,Tm.pth,vV,vW]) (by simp [fw,Tm.bot,vV,vW]);cases W with
       | num z=>exact ⟨a,n⟩
       | clo E ar =>
         cases E with
         | fn x e =>
           refine ⟨a,n.trans ?_⟩;show some (rnd r (Tm.sub [(x,some (rd V))] (Tm.sub ((x,none)::ra ar) e)))=some (rnd r (Tm.sub ((x,some (rd V))::ra ar) e));rw [Zrj okw.2.2]
         | rcc f x e =>
           refine ⟨a,n.trans ?_⟩;have ne:=okw.2.1.2;show some (rnd r (Tm.sub (Tm.Fil.ar (Tm.ZaD f (rd (.clo (.rcc f x e) ar)) x (rd V))) (Tm.sub ((f,none)::(x,none)::ra ar) e)))=some (rnd r (Tm.sub ((x,some (rd V))::(f,some (rd (.clo (.rcc f x e) ar)))::ra ar) e));rw [<- ZoI ne okw.2.2,Tm.ZaD,if_neg ne];rfl
         | _=>cases okw.1
     | iff t e ar =>
       obtain ⟨a,n⟩:=at' _ rfl rfl (by simp [fw,Tm.pth,vV]) (by simp [fw,Tm.bot,vV]);cases V with
       | num z =>
         refine ⟨a,n.trans ?_⟩;show some (rnd r (if z=0 then Tm.sub (ra ar) e else Tm.sub (ra ar) t))=some (rnd r (Tm.sub (ra ar) (if z=0 then e else t)));split<;>rfl
       | clo E ar' =>
         cases E with
         | fn x e=>exact ⟨a,n⟩
         | rcc f x e=>exact ⟨a,n⟩
         | _=>cases ok.1.1
     | left w W =>
       have vW:=Zlu okw;obtain ⟨a,n⟩:=at' _ rfl rfl (by simp [fw,Tm.pth,vV,vW]) (by simp [fw,Tm.bot,vV,vW]);cases W with
       | num y =>
         cases V with
         | num z=>exact ⟨a,n⟩
         | clo E ar' =>
           cases E with
           | fn x e=>exact ⟨a,n⟩
           | rcc f x e=>exact ⟨a,n⟩
           | _=>cases ok.1.1
       | clo E ar' =>
         cases E with
         | fn x e=>exact ⟨a,n⟩
         | rcc f x e=>exact ⟨a,n⟩
         | _=>cases okw.1
end Rw
end
section
namespace Rw
open PySem L2 IV Gn
section
variable {N:Nat}
noncomputable def Bd(N:Nat)(E:T)(ar:Ar):Prop:=ar.len+2 * E.size<=2 * N
mutual
noncomputable def ThN(N:Nat):Th->Prop
 | .num _=>True
 | .clo E ar=>Bd N E ar/\ArN N ar
noncomputable def ArN(N:Nat):Ar->Prop
 | .nil=>True
 | .cons _ v r=>ThN N v/\ArN N r
end
noncomputable def WtN(N:Nat):Wt->Prop
 | .arg A ar=>Bd N A ar/\ArN N ar
 | .fn V=>ThN N V
 | .iff t e ar=>(Bd N t ar/\Bd N e ar)/\ArN N ar
 | .right _ F ar=>Bd N F ar/\ArN N ar
 | .left _ V=>ThN N V
noncomputable def StN(N:Nat):Sta->Prop
 | .go E ar ws=>Bd N E ar/\ArN N ar/\∀ w∈ws,WtN N w
 | .back V ws=>ThN N V/\∀ w∈ws,WtN N w
theorem Zi3{x:Str}{v:Th}:∀ {ar:Ar},ArN N ar->ar.get x=some v->ThN N v
 | .nil,_,e=>by cases e
 | .cons y u r,h,e=>by
   rw [Ar.get] at e;split at e
   . cases e;exact h.1
   . exact Zi3 h.2 e
theorem Zcu{E F:T}{ar:Ar}(h:Bd N E ar)(hf:F∈E.parts):Bd N F ar:=by
 have:=Tm.Zhf hf;unfold Bd at *;omega
theorem Zmr{s s':Sta}(ok:Zem s)(b:StN N s)(e:step s=.quiet s'\/step s=.loud s'):Zem s'/\StN N s':=by
 cases s with
 | go E ar ws =>
   cases E with
   | num z=>rcases e with e|e<;>cases e;exact ⟨⟨ok.1,ok.2.2⟩,trivial,b.2.2⟩
   | name x =>
     obtain ⟨v,q⟩:=Ar.get_some (ar:=ar) ok.1;have:step (.go (.name x) ar ws)=.quiet (.back v ws):=by simp only [step,thing,q]
     rw [this] at e;rcases e with e|e<;>cases e;exact ⟨⟨ZgX ok.2.1 q,ok.2.2⟩,Zi3 b.2.1 q,b.2.2⟩
   | fn x f=>rcases e with e|e<;>cases e;exact ⟨⟨⟨rfl,ok.1,ok.2.1⟩,ok.2.2⟩,⟨b.1,b.2.1⟩,b.2.2⟩
   | rcc g x f=>rcases e with e|e<;>cases e;exact ⟨⟨⟨rfl,ok.1,ok.2.1⟩,ok.2.2⟩,⟨b.1,b.2.1⟩,b.2.2⟩
   | call F A=>rcases e with e|e<;>cases e;exact ⟨⟨ok.1.1,ok.2.1,Zah ⟨ok.1.2,ok.2.1⟩ ok.2.2⟩,Zcu b.1 (by simp [T.parts]),b.2.1,Zah ⟨Zcu b.1 (by simp [T.parts]),b.2.1⟩ b.2.2⟩
   | iff C t f=>rcases e with e|e<;>cases e;exact ⟨⟨ok.1.1,ok.2.1,Zah ⟨ok.1.2.1,ok.1.2.2,ok.2.1⟩ ok.2.2⟩,Zcu b.1 (by simp [T.parts]),b.2.1,Zah ⟨⟨Zcu b.1 (by simp [T.parts]),Zcu b.1 (by simp [T.parts])⟩,b.2.1⟩ b.2.2⟩
   | op w x y=>rcases e with e|e<;>cases e;exact ⟨⟨ok.1.1,ok.2.1,Zah ⟨ok.1.2,ok.2.1⟩ ok.2.2⟩,Zcu b.1 (by simp [T.parts]),b.2.1,Zah ⟨Zcu b.1 (by simp [T.parts]),b.2.1⟩ b.2.2⟩
 | back V ws =>
   cases ws with
   | nil=>rcases e with e|e<;>cases e
   | cons w r =>
     have okr:∀ x∈r,Ze5 x:=fun x hx=>ok.2 x (Oh _ hx);have br:∀ x∈r,WtN N x:=fun x hx=>b.2 x (Oh _ hx);have okw:=ok.2 w Oi;have bw:=b.2 w Oi;cases w with
     | arg A ar=>rcases e with e|e<;>cases e;exact ⟨⟨okw.1,okw.2,Zah ok.1 okr⟩,bw.1,bw.2,Zah b.1 br⟩
     | right w F ar=>rcases e with e|e<;>cases e;exact ⟨⟨okw.1,okw.2,Zah ok.1 okr⟩,bw.1,bw.2,Zah b.1 br⟩
     | fn W =>
       cases W with
       | num z=>rcases e with e|e<;>cases e
       | clo E ar =>
         cases E with
         | fn x f =>
           rcases e with e|e<;>cases e;refine ⟨⟨okw.2.1,⟨ok.1,okw.2.2⟩,okr⟩,?_,⟨b.1,bw.2⟩,br⟩;have h1:=bw.1;have h2:=Tm.Zb (.fn x f);simp only [T.parts,Op,Oy,OI,List.sum_nil] at h2;unfold Bd at *;rw [Ar.len];omega
         | rcc g x f =>
           rcases e with e|e<;>cases e;refine ⟨⟨okw.2.1.1,⟨ok.1,okw,okw.2.2⟩,okr⟩,?_,⟨b.1,bw,bw.2⟩,br⟩;have h1:=bw.1;have h2:=Tm.Zb (.rcc g x f);simp only [T.parts,Op,Oy,OI,List.sum_nil] at h2;unfold Bd at *;rw [Ar.len,Ar.len];omega
         | _=>cases okw.1
     | iff t f ar =>
       cases V with
       | num z =>
         rcases e with e|e<;>cases e;by_cases q:z=0
         . simp only [q,if_true];exact ⟨⟨okw.2.1,okw.2.2,okr⟩,bw.1.2,bw.2,br⟩
         . simp only [if_neg q];exact ⟨⟨okw.1,okw.2.2,okr⟩,bw.1.1,bw.2,br⟩
       | clo E ar'=>rcases e with e|e<;>cases e
     | left w W =>
       cases W with
       | num y =>
         cases V with
         | num z=>rcases e with e|e<;>cases e;exact ⟨⟨wk_ok w y z,okr⟩,trivial,br⟩
         | clo E ar'=>rcases e with e|e<;>cases e
       | clo E ar'=>rcases e with e|e<;>cases e
noncomputable def wm:Wt->Nat
 | .arg A _=>2 * A.size+1
 | .right _ F _=>2 * F.size+1
 | _=>0
noncomputable def wms(ws:List Wt):Nat:=(ws.map wm).sum
noncomputable def ms:Sta->Nat
 | .go E _ ws=>2 * E.size+wms ws
 | .back _ ws=>wms ws
theorem Zb9(w:Wt)(ws:List Wt):wms (w::ws)=wm w+wms ws:=by simp [wms]
theorem Zr8{s s':Sta}(ok:Zem s)(e:step s=.quiet s'):ms s'<ms s:=by
 cases s with
 | go E ar ws =>
   have sp:=Tm.Zbv E;have sc:=Tm.Zb E;cases E with
   | name x =>
     obtain ⟨v,q⟩:=Ar.get_some (ar:=ar) ok.1;have:step (.go (.name x) ar ws)=.quiet (.back v ws):=by simp only [step,thing,q]
     rw [this] at e;cases e;simp only [ms];omega
   | num z=>cases e;simp only [ms];omega
   | fn x f=>cases e;simp only [ms];omega
   | rcc g x f=>cases e;simp only [ms];omega
   | call F A=>cases e;simp only [ms,Zb9,wm];simp [T.parts] at sc;omega
   | iff C t f=>cases e;simp only [ms,Zb9,wm];simp [T.parts] at sc;omega
   | op w x y=>cases e;simp only [ms,Zb9,wm];simp [T.parts] at sc;omega
 | back V ws =>
   cases ws with
   | nil=>cases e
   | cons w r =>
     cases w with
     | arg A ar=>cases e;simp only [ms,Zb9,wm];omega
     | right w F ar=>cases e;simp only [ms,Zb9,wm];omega
     | fn W =>
       cases W with
       | num z=>cases e
       | clo E ar=>cases E<;>cases e
     | iff t f ar=>cases V<;>cases e
     | left w W=>cases W<;>cases V<;>cases e
theorem Zi7:∀ {ws:List Wt},(∀ w∈ws,WtN N w)->wms ws<=ws.length * (2 * N+1)
 | [],_=>by simp [wms]
 | w::ws,h=>by
   have ih:=Zi7 (ws:=ws) (fun x hx=>h x (Oh _ hx));have hw:=h w Oi;have:wm w<=2 * N+1:=by
     cases w with
     | arg A ar=>have:=hw.1;unfold Bd at this;simp only [wm];omega
     | right w F ar=>have:=hw.1;unfold Bd at this;simp only [wm];omega
     | _=>exact Nat.zero_le _
   rw [Zb9,Os,Nat.succ_mul];omega
theorem ZpU(w:Wt)(t:T):t.size+1<=(fw w t).size:=by
 cases w with
 | arg A ar=>rw [fw,Tm.Zb (.call _ _)];simp [T.parts];omega
 | fn V=>rw [fw,Tm.Zb (.call _ _)];simp [T.parts];omega
 | iff a b ar=>rw [fw,Tm.Zb (.iff _ _ _)];simp [T.parts];omega
 | right w F ar=>rw [fw,Tm.Zb (.op _ _ _)];simp [T.parts];omega
 | left w V=>rw [fw,Tm.Zb (.op _ _ _)];simp [T.parts];omega
theorem ZcN:∀ (ws:List Wt) (t:T),t.size+ws.length<=(rnd ws t).size
 | [],_=>Oq _
 | w::ws,t=>by
   have a:=ZpU w t;have b:=ZcN ws (fw w t);rw [Os,show rnd (w::ws) t=rnd ws (fw w t) from rfl];omega
noncomputable def wts:Sta->List Wt
 | .go _ _ ws=>ws
 | .back _ ws=>ws
theorem ZhW(s:Sta):(wts s).length<=(read s).size:=by
 cases s with
 | go E ar ws=>have:=ZcN ws (Tm.sub (ra ar) E);exact OE (Nat.le_add_left _ _) this
 | back V ws=>have:=ZcN ws (rd V);exact OE (Nat.le_add_left _ _) this
theorem Zt4{s:Sta}(b:StN N s):ms s<=2 * N+(wts s).length * (2 * N+1):=by
 cases s with
 | go E ar ws=>have h1:=Zi7 b.2.2;have h2:=b.1;unfold Bd at h2;simp only [ms,wts];omega
 | back V ws=>have h1:=Zi7 b.2;simp only [ms,wts];omega
end
end Rw
end
section
namespace Pw
open PySem L2 IV
noncomputable def Zbs:Sxs:=(.cons (.drp (.mcl (O "Pen") (O "take_place") (.var 0) .nil)) (.cons (.ret (.bin .Add (.var 1) (.var 2))) .nil))
noncomputable def ZaJ:Fd:=⟨[(O "self"),(O "front"),(O "parts")],[(O "self"),(O "front"),(O "parts")],Zbs⟩
noncomputable def ZdO:Sxs:=(.cons (.set (.nm 2) (.call (O "opened") (.cons (.var 1) .nil))) (.cons (.ret (.mcl (O "Pen") (O "filled") (.var 0) (.cons (.ix (.var 2) (.cst (.int 0))) (.cons (.ix (.var 2) (.cst (.int 1))) .nil)))) .nil))
noncomputable def ZbE:Fd:=⟨[(O "self"),(O "thing")],[(O "self"),(O "thing"),(O "pair")],ZdO⟩
structure Pnw(P:Pg):Prop where
 t:Tm.Trb P
 wd:Tm.Wid P
 gw:P.G (O "WIDEST")=some (.int 120)
 n_Pen_joined:P.tb.lookup (mnm (O "Pen") (O "joined"))=none
 Pen_joined:P.ms.lookup (mnm (O "Pen") (O "joined"))=some ZaJ
 n_Pen_told:P.tb.lookup (mnm (O "Pen") (O "told"))=none
 Pen_told:P.ms.lookup (mnm (O "Pen") (O "told"))=some ZbE
end Pw
end
section
namespace Pw
open PySem L2 IV Tm
variable {P:Pg}{h0 h:Hd}{pk:Nat}
theorem ZmC{U:Tb}{e:Ex}{S:Ev}{r:R D}(q:ev U e S h=r):Zh (xs2 U (.cons (.ret e) .nil) S h)=r:=by
 rw [xs2,ZgY,q];cases r<;>rfl
theorem Aft.set{mo:D}{u:Int}(a:Aft h0 h pk mo u)(v:Int):Aft h0 (h.set pk (ZaR mo v)) pk mo v :=
 ⟨by rw [Ol (ZeO a.1)],by simpa using a.2.1,fun i hi hn=>by rw [Oc (Ne.symm hn)];exact a.2.2 i hi hn⟩
noncomputable abbrev Ot(h0:Hd)(pk:Nat)(t:T)(u:Nat)(r:R D):Prop:=Out h0 pk (.int 120) t (u:Int) (120 - u) r
section
variable {u N:Nat} (H:Pnw P) (n:Nat) (hN:1<=N) (hN2:N<=45000)
include H hN hN2
theorem ZkH (t:T) (e:En) (a:Aft h0 h pk (.int 120) (u:Int)) (hu:u<=120) (hw:Wok N (t,e)):Ot h0 pk (tel (t,e)) u (run P (n+3) (mnm (O "Pen") (O "filled")) [.ref pk,t.d,.tup (e.map edd)] h) :=
 ZmI H.t n hN hN2 t e a (.inr ⟨by congr 1;omega,.inr H.wd⟩) (by omega) hw
theorem Zd3 (t:T) (ar:Rw.Ar) (a:Aft h0 h pk (.int 120) (u:Int)) (hu:u<=120) (hw:Wok N (t,up ar)):Ot h0 pk (sub (Rw.ra ar) t) u (run P (n+3) (mnm (O "Pen") (O "filled")) [.ref pk,t.d,.tup ar.ds] h):=by
 have:=ZkH H n hN hN2 t (up ar) a hu hw;rw [Zks,show tel (t,up ar)=sub (Rw.ra ar) t by show sub (er (up ar)) t=_;rw [ZnY]] at this;exact this
theorem Zjg (v:Rw.Th) (a:Aft h0 h pk (.int 120) (u:Int)) (hu:u<=120) (g:Rw.ThG N v):Ot h0 pk (Rw.rd v) u (run P (n+4) (mnm (O "Pen") (O "told")) [.ref pk,v.d] h):=by
 have o:=ZkH H n hN hN2 (opn v).1 (up (opn v).2) a hu (Wok.thing hN g);rw [Zg5,Zks] at o;have x1:xs1 (P.tbl (n+3)) (hdS ZdO) [some (.ref pk),some v.d,none] h=.ok (.nx,[some (.ref pk),some v.d,some (.tup [(opn v).1.d,.tup (opn v).2.ds])]) h:=Zv (Zs (Zic H.t (n+2) v) rfl);have e:run P (n+4) (mnm (O "Pen") (O "told")) [.ref pk,v.d] h=run P (n+3) (mnm (O "Pen") (O "filled")) [.ref pk,(opn v).1.d,.tup (opn v).2.ds] h:=by
   rw [ZdG H.n_Pen_told H.Pen_told (by rfl)];exact (congrArg Zh (nx1 (U:=P.tbl (n+3)) (ss:=ZdO) x1 rfl)).trans (ZmC (Zba rfl a.1 rfl rfl rfl))
 rw [e];exact o
omit hN hN2
theorem Zlw (fs ps:List D) (a:Aft h0 h pk (.int 120) (u:Int)) (hu:u<120) (hz:fs.length+ps.length<=1000):run P (n+2) (mnm (O "Pen") (O "joined")) [.ref pk,.tup fs,.tup ps] h=.ok (.tup (fs++ps)) (h.set pk (ZaR (.int 120) ((u:Int)+1))):=by
 have e:=ZmG H.t n (u:=(u:Int)) (.inr ⟨120,rfl,by omega⟩) a.1;rw [ZdG H.n_Pen_joined H.Pen_joined (by rfl)];have x1:xs1 (P.tbl (n+1)) (hdS Zbs) [some (.ref pk),some (.tup fs),some (.tup ps)] h=.ok (.nx,[some (.ref pk),some (.tup fs),some (.tup ps)]) (h.set pk (ZaR (.int 120) ((u:Int)+1))):=ZgN (Zba rfl a.1 rfl rfl e);exact (congrArg Zh (nx1 (U:=P.tbl (n+1)) (ss:=Zbs) x1 rfl)).trans (ZmC ((ZaL rfl rfl).trans (Zdi (by rw [sizeLine_eq];omega))))
theorem ZmH (fs ps:List D) (a:Aft h0 h pk (.int 120) (120:Int)):run P (n+2) (mnm (O "Pen") (O "joined")) [.ref pk,.tup fs,.tup ps] h=.exc (O "Wide") h:=by
 have e:=Zib H.t H.wd n a.1;rw [ZdG H.n_Pen_joined H.Pen_joined (by rfl)];exact congrArg Zh (ZcJ (U:=P.tbl (n+1)) (r:=tlS Zbs) (ZqK (Zba rfl a.1 rfl rfl e)))
inductive Po(h0:Hd)(pk:Nat)(fs:List D)(t:T):R D->Prop
 | ok {h':Hd}{ps:List D}{u:Nat} (a:Aft h0 h' pk (.int 120) (u:Int)) (hu:u<=120) (e:t.d=.tup (fs++ps)) (z:t.size=u+1) (hz:fs.length+ps.length<=1000):Po h0 pk fs t (.ok (.tup ps) h')
 | ex {h':Hd} (lt:120<t.size) (o:Old h0 h' pk):Po h0 pk fs t (.exc (O "Wide") h')
theorem ZiD{S:Ev}{o fe pe:Ex}{w:Int}{fs:List D}{t:T}(eo:ev (P.tbl (n+2)) o S h=.ok (.ref pk) h)(hp:h[pk]? = some (ZaR (.int 120) w))(ef:ev (P.tbl (n+2)) fe S h=.ok (.tup fs) h)(po:Po h0 pk fs t (ev (P.tbl (n+2)) pe S h)) :
   Ot h0 pk t 0 (ev (P.tbl (n+2)) (.mcl (O "Pen") (O "joined") o (.cons fe (.cons pe .nil))) S h):=by
 generalize hr:ev (P.tbl (n+2)) pe S h=r at po;cases po with
 | ex lt o =>
   rw [Zuq eo hp rfl (Zf4 ef (ZiM hr))];exact .ex lt o
 | @ok h' ps u a hu e z hz =>
   have es:evs (P.tbl (n+2)) (.cons fe (.cons pe .nil)) S h=.ok [.tup fs,.tup ps] h':=Zd ef (Zd hr rfl);by_cases q:u=120
   . subst q;rw [Zba eo hp rfl es (ZmH H n fs ps a)];exact .ex (by omega) a.2
   . rw [Zba eo hp rfl es (Zlw H n fs ps a (by omega) hz),<- e];refine .ok (by omega) ?_;have:=Aft.set a ((u:Int)+1);rw [show ((0:Nat):Int)+(t.size:Int)=(u:Int)+1 by omega];exact this
end
section
variable {U:Tb}{S:Ev}{fs:List D}{t A B_:T}{u:Nat}{a b c:Ex}{x:D}
theorem ZtG(hu:u<=120)(ea:ev U a S h=.ok x h)(ob:Ot h0 pk A u (ev U b S h))(e:t.d=.tup (fs++[x,A.d]))(z:t.size=1+(u+A.size))(hz:fs.length<=900):Po h0 pk fs t (ev U (.tupl (.cons a (.cons b .nil))) S h):=by
 generalize hr:ev U b S h=r at ob;cases ob with
 | ex lt o =>
   rw [Zk4 (Zf4 ea (ZiM hr))];exact .ex (by omega) o
 | ok le q =>
   rw [Zbi (Zd ea (Zd hr rfl)) (by simp)];exact .ok (u:=u+A.size) q (by omega) e (by omega) (by simp;omega)
theorem ZtH(hu:u<=120)(oa:Ot h0 pk A u (ev U a S h))(eb:∀ h',ev U b S h'=.ok x h')(e:t.d=.tup (fs++[A.d,x]))(z:t.size=1+(A.size+u))(hz:fs.length<=900):Po h0 pk fs t (ev U (.tupl (.cons a (.cons b .nil))) S h):=by
 generalize hr:ev U a S h=r at oa;cases oa with
 | ex lt o =>
   rw [Zk4 (ZiM hr)];exact .ex (by omega) o
 | ok le q =>
   rw [Zbi (Zd hr (Zd (eb _) rfl)) (by simp)];exact .ok (u:=u+A.size) q (by omega) e (by omega) (by simp;omega)
theorem Zvs(hu:u<=120)(ea:ev U a S h=.ok x h)(ob:Ot h0 pk A u (ev U b S h))(oc:∀ h',Aft h0 h' pk (.int 120) ((u:Int)+(A.size:Int))->u+A.size<=120->Ot h0 pk B_ (u+A.size) (ev U c S h'))(e:t.d=.tup (fs++[x,A.d,B_.d]))(z:t.size=1+(u+(A.size+B_.size)))(hz:fs.length<=900):Po h0 pk fs t (ev U (.tupl (.cons a (.cons b (.cons c .nil)))) S h):=by
 generalize hr:ev U b S h=r at ob;cases ob with
 | ex lt o =>
   rw [Zk4 (Zf4 ea (ZiM hr))];exact .ex (by omega) o
 | @ok h1 le q =>
   have oc:=oc h1 q (by omega);generalize hs:ev U c S h1=s at oc;cases oc with
   | ex lt o =>
     rw [Zk4 (Zf4 ea (Zf4 hr (ZiM hs)))];exact .ex (by omega) o
   | ok le2 q2 =>
     rw [Zbi (Zd ea (Zd hr (Zd hs rfl))) (by simp)];exact .ok (u:=u+A.size+B_.size) q2 (by omega) e (by omega) (by simp;omega)
end
end Pw
end
section
namespace Rr
open PySem L2 IV
noncomputable def ZR:Sx:=(.iff (.ex (.cmp .Eq (.ix (.var 2) (.cst (.int 0))) (.cst (.str (O "arg"))))) (.cons (.ret (.mcl (O "Pen") (O "joined") (.var 0) (.cons (.tupl (.cons (.cst (.str (O "call"))) .nil)) (.cons (.tupl (.cons (.var 1) (.cons (.mcl (O "Pen") (O "filled") (.var 0) (.cons (.ix (.var 2) (.cst (.int 1))) (.cons (.ix (.var 2) (.cst (.int 2))) .nil))) .nil))) .nil)))) .nil) .nil)
noncomputable def Z5:Sx:=(.iff (.ex (.cmp .Eq (.ix (.var 2) (.cst (.int 0))) (.cst (.str (O "fun"))))) (.cons (.ret (.mcl (O "Pen") (O "joined") (.var 0) (.cons (.tupl (.cons (.cst (.str (O "call"))) .nil)) (.cons (.tupl (.cons (.mcl (O "Pen") (O "told") (.var 0) (.cons (.ix (.var 2) (.cst (.int 1))) .nil)) (.cons (.var 1) .nil))) .nil)))) .nil) .nil)
noncomputable def ZaN:Sx:=(.iff (.ex (.cmp .Eq (.ix (.var 2) (.cst (.int 0))) (.cst (.str (O "if"))))) (.cons (.ret (.mcl (O "Pen") (O "joined") (.var 0) (.cons (.tupl (.cons (.cst (.str (O "if"))) .nil)) (.cons (.tupl (.cons (.var 1) (.cons (.mcl (O "Pen") (O "filled") (.var 0) (.cons (.ix (.var 2) (.cst (.int 1))) (.cons (.ix (.var 2) (.cst (.int 3))) .nil))) (.cons (.mcl (O "Pen") (O "filled") (.var 0) (.cons (.ix (.var 2) (.cst (.int 2))) (.cons (.ix (.var 2) (.cst (.int 3))) .nil))) .nil)))) .nil)))) .nil) .nil)
noncomputable def ZbH:Sx:=(.iff (.ex (.cmp .Eq (.ix (.var 2) (.cst (.int 0))) (.cst (.str (O "right"))))) (.cons (.ret (.mcl (O "Pen") (O "joined") (.var 0) (.cons (.tupl (.cons (.ix (.var 2) (.cst (.int 1))) .nil)) (.cons (.tupl (.cons (.var 1) (.cons (.mcl (O "Pen") (O "filled") (.var 0) (.cons (.ix (.var 2) (.cst (.int 2))) (.cons (.ix (.var 2) (.cst (.int 3))) .nil))) .nil))) .nil)))) .nil) .nil)
noncomputable def Zc4:Sx:=(.ret (.mcl (O "Pen") (O "joined") (.var 0) (.cons (.tupl (.cons (.ix (.var 2) (.cst (.int 1))) .nil)) (.cons (.tupl (.cons (.mcl (O "Pen") (O "told") (.var 0) (.cons (.ix (.var 2) (.cst (.int 2))) .nil)) (.cons (.var 1) .nil))) .nil))))
noncomputable def ZX:Sxs:=(.cons ZR (.cons Z5 (.cons ZaN (.cons ZbH (.cons Zc4 .nil)))))
noncomputable def ZaF:Fd:=⟨[(O "pen"),(O "E"),(O "wait")],[(O "pen"),(O "E"),(O "wait")],ZX⟩
noncomputable def Zb6:Sx:=(.set (.nm 1) (.mk (O "Pen") (.cons (.glo (O "WIDEST")) .nil)))
noncomputable def ZG:Sx:=(.iff (.ex (.cmp .Eq (.ix (.var 0) (.cst (.int 0))) (.cst (.str (O "go"))))) (.cons (.set (.nm 2) (.mcl (O "Pen") (O "filled") (.var 1) (.cons (.ix (.var 0) (.cst (.int 1))) (.cons (.ix (.var 0) (.cst (.int 2))) .nil)))) .nil) (.cons (.set (.nm 2) (.mcl (O "Pen") (O "told") (.var 1) (.cons (.ix (.var 0) (.cst (.int 1))) .nil))) .nil))
noncomputable def Zb5:Sx:=(.forr (.nm 3) (.pl (.ix (.var 0) (.neg (.cst (.int 1))))) (.cons (.set (.nm 2) (.call (O "put_around") (.cons (.var 1) (.cons (.var 2) (.cons (.var 3) .nil))))) .nil))
noncomputable def ZdF:Sx:=(.ret (.var 2))
noncomputable def Zi1:Sxs:=(.cons Zb6 (.cons ZG (.cons Zb5 (.cons ZdF .nil))))
noncomputable def Za6:Fd:=⟨[(O "state")],[(O "state"),(O "pen"),(O "E"),(O "wait")],Zi1⟩
noncomputable def ZhN:Sx:=(.set (.nm 1) (.cst .non))
noncomputable def ZhM:Sx:=(.trs 1 (O "rows_read") (.cons (.var 0) .nil) (O "Wide"))
noncomputable def ZhL:Sx:=(.ret (.var 1))
noncomputable def Zcy:Sxs:=(.cons ZhN (.cons ZhM (.cons ZhL .nil)))
noncomputable def ZbC:Fd:=⟨[(O "_law_state")],[(O "_law_state"),(O "_law_told")],Zcy⟩
structure Rrd(P:Pg):Prop where
 r:Rw.Row0 P
 p:Pw.Pnw P
 put_around:P.tb.lookup (O "put_around")=some ZaF
 rows_read:P.tb.lookup (O "rows_read")=some Za6
 law_read:P.tb.lookup (O "_law_read")=some ZbC
end Rr
end
section
namespace Rr
open PySem L2 IV Tm Pw
open Rw (Th Wt Sta ZeD ArOk Ze5 Zem ThN ArN WtN StN ThG ArG Bd rd ra fw rnd read)
variable {P:Pg}{h0 h:Hd}{pk N:Nat}
mutual
theorem Zg4:∀ v:Th,ZeD v->ThN N v->ThG N v
 | .num _,_,_=>trivial
 | .clo E ar,ok,b=>⟨fun x z=>by (have q:=ok.1;rw [z] at q;cases q),b.1,arg_of ar ok.2.2 b.2⟩
theorem arg_of:∀ ar:Rw.Ar,ArOk ar->ArN N ar->ArG N ar
 | .nil,_,_=>trivial
 | .cons _ v r,ok,b=>⟨Zg4 v ok.1 b.1,arg_of r ok.2 b.2⟩
end
theorem Zfi{E:T}{ar:Rw.Ar}(ok:ArOk ar)(b:Bd N E ar)(a:ArN N ar):Wok N (E,up ar):=⟨by show (up ar).length+2 * E.size<=2 * N;rw [Zi9];exact b,Zq4 (arg_of ar ok a)⟩
section
variable {U:Tb}{S:Ev}
theorem Zk0{c:Tx}{e:Ex}{b r:Sxs}(t:tst U c S h=.ok true h):Zh (xs2 U (.cons (.iff c (.cons (.ret e) .nil) b) r) S h)=ev U e S h:=by
 rw [xs2,Zr t,xs2,ZgY];cases ev U e S h<;>rfl
theorem ZdA{c:Tx}{a r:Sxs}(t:tst U c S h=.ok false h):xs2 U (.cons (.iff c a .nil) r) S h=xs2 U r S h:=Za ((Zx t).trans rfl)
end
theorem Zky(f a:T):(T.call f a).size=1+(f.size+a.size):=by rw [Zb];simp [T.parts]
theorem Zqx(w:Wd)(f a:T):(T.op w f a).size=1+(f.size+a.size):=by rw [Zb];simp [T.parts]
theorem Zri(c t e:T):(T.iff c t e).size=1+(c.size+(t.size+e.size)):=by rw [Zb];simp [T.parts]
theorem ZkG (H:Rrd P) (n:Nat) (hN:1<=N) (hN2:N<=45000) (w:Wt) (ok:Ze5 w) (b:WtN N w) (E:T) (hE:E.size<=120) (a:Aft h0 h pk (.int 120) (E.size:Int)):Ot h0 pk (fw w E) 0 (run P (n+5) (O "put_around") [.ref pk,E.d,w.d] h):=by
 rw [Zc H.put_around (by rfl)];have tt:∀ (s v:Str) (ds:List D),w.d=.tup (.str v::ds)->tst (P.tbl (n+4)) (.ex (.cmp .Eq (.ix (.var 2) (.cst (.int 0))) (.cst (.str s)))) [some (.ref pk),some E.d,some w.d] h=.ok (decide (v=s)) h:=fun s v ds e=>Zgq ((ZaV (x:=w.d) rfl rfl).trans (by rw [e];simp)) rfl;show Ot h0 pk (fw w E) 0 (Zh (xs2 (P.tbl (n+4)) ZX [some (.ref pk),some E.d,some w.d] h));cases w with
 | arg A ar =>
   unfold ZX ZR;rw [Zk0 (Zt (tt _ _ _ rfl) (by decide))];have ob:=Zd3 H.p (n+1) hN hN2 A ar a hE (Zfi ok.2 b.1 b.2);refine ZiD H.p (n+2) rfl a.1 rfl (ZtG hE rfl (A:=sub (ra ar) A) ?_ rfl (Zky _ _) (by simp));rw [Zba (xs:=[A.d,.tup ar.ds]) rfl a.1 rfl rfl rfl];exact ob
 | fn V =>
   unfold ZX ZR Z5;rw [ZdA (Zt (tt _ _ _ rfl) (by decide)),Zk0 (Zt (tt _ _ _ rfl) (by decide))];have oa:=Pw.Zjg H.p n hN hN2 V a hE (Zg4 V ok b);refine ZiD H.p (n+2) rfl a.1 rfl (ZtH hE (A:=rd V) ?_ (fun _=>rfl) rfl (Zky _ _) (by simp));rw [Zba (xs:=[V.d]) rfl a.1 rfl rfl rfl];exact oa
 | iff t e ar =>
   unfold ZX ZR Z5 ZaN;rw [ZdA (Zt (tt _ _ _ rfl) (by decide)),ZdA (Zt (tt _ _ _ rfl) (by decide)),Zk0 (Zt (tt _ _ _ rfl) (by decide))];have ob:=Zd3 H.p (n+1) hN hN2 t ar a hE (Zfi ok.2.2 b.1.1 b.2);refine ZiD H.p (n+2) rfl a.1 rfl (Zvs hE rfl (A:=sub (ra ar) t) (B_:=sub (ra ar) e) ?_ (fun h' a' hu=>?_) rfl (Zri _ _ _) (by simp))
   . rw [Zba (xs:=[t.d,.tup ar.ds]) rfl a.1 rfl rfl rfl];exact ob
   . rw [Zba (xs:=[e.d,.tup ar.ds]) rfl a'.1 rfl rfl rfl];exact Zd3 H.p (n+1) hN hN2 e ar (u:=E.size+(sub (ra ar) t).size) a' hu (Zfi ok.2.2 b.1.2 b.2)
 | right o F ar =>
   unfold ZX ZR Z5 ZaN ZbH;rw [ZdA (Zt (tt _ _ _ rfl) (by decide)),ZdA (Zt (tt _ _ _ rfl) (by decide)),ZdA (Zt (tt _ _ _ rfl) (by decide)),Zk0 (Zt (tt _ _ _ rfl) (by decide))];have ob:=Zd3 H.p (n+1) hN hN2 F ar a hE (Zfi ok.2 b.1 b.2);refine ZiD H.p (n+2) rfl a.1 rfl (ZtG hE rfl (A:=sub (ra ar) F) ?_ rfl (Zqx _ _ _) (by simp));rw [Zba (xs:=[F.d,.tup ar.ds]) rfl a.1 rfl rfl rfl];exact ob
 | left o V =>
   unfold ZX ZR Z5 ZaN ZbH Zc4;rw [ZdA (Zt (tt _ _ _ rfl) (by decide)),ZdA (Zt (tt _ _ _ rfl) (by decide)),ZdA (Zt (tt _ _ _ rfl) (by decide)),ZdA (Zt (tt _ _ _ rfl) (by decide)),ZmC rfl];have oa:=Pw.Zjg H.p n hN hN2 V a hE (Zg4 V ok b);refine ZiD H.p (n+2) rfl a.1 rfl (ZtH hE (A:=rd V) ?_ (fun _=>rfl) rfl (Zqx _ _ _) (by simp));rw [Zba (xs:=[V.d]) rfl a.1 rfl rfl rfl];exact oa
noncomputable def vr(s:D)(o1 o2 o3:Option D):Ev:=[some s,o1,o2,o3]
theorem rd1(H:Rrd P)(n:Nat)(s:D)(h:Hd):xs1 (P.tbl (n+1)) Zb6 (vr s none none none) h=.ok (.nx,vr s (some (.ref h.length)) none none) (h++[ZaR (.int 120) 0]):=by
 refine Zv (i:=1) ?_;have eg:ev (P.tbl (n+1)) (.glo (O "WIDEST")) (vr s none none none) h=.ok (.int 120) h:=by
   show R.ofO (P.G (O "WIDEST")) h=_;rw [H.p.gw];rfl
 simp only [Zur,Za9,Zef,eg,Zl];exact ZqC H.p.t n (.int 120) h
noncomputable def Zir:Sxs:=(.cons (.set (.nm 2) (.call (O "put_around") (.cons (.var 1) (.cons (.var 2) (.cons (.var 3) .nil))))) .nil)
inductive Lr(h0:Hd)(pk:Nat)(s:D)(t:T):R (Fl×Ev)->Prop
 | ok {h':Hd}{o3:Option D} (le:t.size<=120) (a:Aft h0 h' pk (.int 120) (t.size:Int)):Lr h0 pk s t (.ok (.nx,vr s (some (.ref pk)) (some t.d) o3) h')
 | ex {h':Hd} (lt:120<t.size) (o:Old h0 h' pk):Lr h0 pk s t (.exc (O "Wide") h')
theorem Znw(H:Rrd P)(n:Nat)(hN:1<=N)(hN2:N<=45000){s:D}:∀ (ws:List Wt) (t:T) (h:Hd) (o3:Option D),(∀ w∈ws,Ze5 w)->(∀ w∈ws,WtN N w)->t.size<=120->Aft h0 h pk (.int 120) (t.size:Int)->Lr h0 pk s (rnd ws t) (ZS none (.nm 3) (xs2 (P.tbl (n+5)) Zir) (ws.map Wt.d) (vr s (some (.ref pk)) (some t.d) o3) h)
 | [],t,h,o3,_,_,hz,a=>.ok hz a
 | w::ws,t,h,o3,ok,b,hz,a=>by
   have o:=ZkG H n hN hN2 w (ok w Oi) (b w Oi) t hz a;generalize hr:run P (n+5) (O "put_around") [.ref pk,t.d,w.d] h=r at o;cases o with
   | ex lt o =>
     have e:ZS none (.nm 3) (xs2 (P.tbl (n+5)) Zir) ((w::ws).map Wt.d) (vr s (some (.ref pk)) (some t.d) o3) h=_:=Zuk rfl (ZcJ (Zmx (Zs hr rfl)));rw [e];refine .ex ?_ o;have:=Rw.ZcN ws (fw w t);show 120<(rnd ws (fw w t)).size;omega
   | @ok h1 le a =>
     have e:ZS none (.nm 3) (xs2 (P.tbl (n+5)) Zir) ((w::ws).map Wt.d) (vr s (some (.ref pk)) (some t.d) o3) h=ZS none (.nm 3) (xs2 (P.tbl (n+5)) Zir) (ws.map Wt.d) (vr s (some (.ref pk)) (some (fw w t).d) (some w.d)) h1:=Zhx rfl ((Za (Zv (Zs hr rfl))).trans rfl);rw [e];exact Znw H n hN hN2 ws (fw w t) h1 _ (fun x hx=>ok x (Oh _ hx)) (fun x hx=>b x (Oh _ hx)) (by omega) (by simpa using a)
inductive Rs(h:Hd)(t:T):R D->Prop
 | ok {g:Hd} (le:t.size<=120):Rs h t (.ok t.d (h++g))
 | ex {g:Hd} (lt:120<t.size):Rs h t (.exc (O "Wide") (h++g))
theorem Old.grown{h0 h:Hd}{pk:Nat}(o:Old h0 h pk)(hp:h0.length<=pk):∃ g,h=h0++g:=Tm.grown o.1 fun i hi=>o.2 i hi (by omega)
theorem Aft.new(h:Hd)(mo:D):Aft h (h++[ZaR mo 0]) h.length mo 0:=⟨by simp,by simp,fun i hi _=>Oe hi⟩
theorem ZkD(H:Rrd P)(n:Nat)(hN:1<=N)(hN2:N<=45000){s:D}{ws:List Wt}{t:T}{h:Hd}(ok:∀ w∈ws,Ze5 w)(b:∀ w∈ws,WtN N w)
   (l0:Lr h h.length s t (xs1 (P.tbl (n+5)) ZG (vr s (some (.ref h.length)) none none) (h++[ZaR (.int 120) 0])))
   (ei:∀ o1 o2 o3 h1,evi (P.tbl (n+5)) (.pl (.ix (.var 0) (.neg (.cst (.int 1))))) (vr s o1 o2 o3) h1=.ok ⟨none,ws.map Wt.d⟩ h1):Rs h (rnd ws t) (run P (n+6) (O "rows_read") [s] h):=by
 rw [Zc H.rows_read (by rfl)];show Rs h (rnd ws t) (Zh (xs2 (P.tbl (n+5)) (.cons Zb6 (.cons ZG (.cons Zb5 (.cons ZdF .nil)))) (vr s none none none) h));rw [Za (rd1 H (n+4) s h)];generalize hr:xs1 (P.tbl (n+5)) ZG (vr s (some (.ref h.length)) none none) (h++[ZaR (.int 120) 0])=r at l0;cases l0 with
 | ex lt o =>
   rw [ZcJ hr];obtain ⟨g,rfl⟩:=Old.grown o (Oq _);refine .ex ?_;have:=Rw.ZcN ws t;omega
 | @ok h1 o3 le a =>
   rw [Za hr];have l:=Znw H n hN hN2 (s:=s) ws t h1 o3 ok b le a;generalize hs:ZS none (.nm 3) (xs2 (P.tbl (n+5)) Zir) (ws.map Wt.d) (vr s (some (.ref h.length)) (some t.d) o3) h1=y at l;have hs:xs1 (P.tbl (n+5)) Zb5 (vr s (some (.ref h.length)) (some t.d) o3) h1=y:=(ZdJ (ei _ _ _ _)).trans hs;cases l with
   | ex lt o =>
     rw [ZcJ hs];obtain ⟨g,rfl⟩:=Old.grown o (Oq _);exact .ex lt
   | ok le a =>
     rw [Za hs];obtain ⟨g,rfl⟩:=Old.grown a.2 (Oq _);exact .ok le
theorem Zrr (H:Rrd P) (n:Nat) (hN:1<=N) (hN2:N<=45000) (s:Sta) (ok:Zem s) (b:StN N s) (h:Hd):Rs h (read s) (run P (n+6) (O "rows_read") [s.d] h):=by
 have a:=Aft.new h (.int 120);cases s with
 | go E ar ws =>
   refine ZkD H n hN hN2 ok.2.2 b.2.2 ?_ fun o1 o2 o3 h1=>Zhz ((ZaV (y:=.int (-1)) rfl rfl).trans rfl);have o:=Zd3 H.p (n+2) hN hN2 E ar (u:=0) a (by omega) (Zfi ok.2.1 b.1 b.2.1);generalize hr:run P (n+2+3) _ _ _=r at o;have tt:tst (P.tbl (n+5)) (.ex (.cmp .Eq (.ix (.var 0) (.cst (.int 0))) (.cst (.str (O "go"))))) (vr (Sta.go E ar ws).d (some (.ref h.length)) none none) (h++[ZaR (.int 120) 0])=.ok true (h++[ZaR (.int 120) 0]):=Zt (Zgq rfl rfl) (by decide);cases o with
   | ex lt o=>rw [show xs1 (P.tbl (n+5)) ZG _ _=_ from (Zr tt).trans (ZcJ (Zmx (Zba rfl a.1 rfl rfl hr)))];exact .ex lt o
   | ok le q=>rw [show xs1 (P.tbl (n+5)) ZG _ _=_ from (Zr tt).trans ((Za (Zv (Zba rfl a.1 rfl rfl hr))).trans rfl)];exact .ok (o3:=none) le (by simpa using q)
 | back V ws =>
   refine ZkD H n hN hN2 ok.2 b.2 ?_ fun o1 o2 o3 h1=>Zhz ((ZaV (y:=.int (-1)) rfl rfl).trans rfl);have o:=Pw.Zjg H.p (n+1) hN hN2 V (u:=0) a (by omega) (Zg4 V ok.1 b.1);generalize hr:run P (n+1+4) _ _ _=r at o;have tt:tst (P.tbl (n+5)) (.ex (.cmp .Eq (.ix (.var 0) (.cst (.int 0))) (.cst (.str (O "go"))))) (vr (Sta.back V ws).d (some (.ref h.length)) none none) (h++[ZaR (.int 120) 0])=.ok false (h++[ZaR (.int 120) 0]):=Zt (Zgq rfl rfl) (by decide);cases o with
   | ex lt o=>rw [show xs1 (P.tbl (n+5)) ZG _ _=_ from (Zx tt).trans (ZcJ (Zmx (Zba rfl a.1 rfl rfl hr)))];exact .ex lt o
   | ok le q=>rw [show xs1 (P.tbl (n+5)) ZG _ _=_ from (Zx tt).trans ((Za (Zv (Zba rfl a.1 rfl rfl hr))).trans rfl)];exact .ok (o3:=none) le (by simpa using q)
noncomputable def rdo(t:T):D:=if t.size<=120 then t.d else .non
theorem ZoS (H:Rrd P) (n:Nat) (hN:1<=N) (hN2:N<=45000) (s:Sta) (ok:Zem s) (b:StN N s) (h:Hd):∃ g,run P (n+7) (O "_law_read") [s.d] h=.ok (rdo (read s)) (h++g):=by
 have r:=Zrr H n hN hN2 s ok b h;rw [Zc H.law_read (by rfl)];show ∃ g,Zh (xs2 (P.tbl (n+6)) Zcy [some s.d,none] h)=_;generalize hr:run P (n+6) (O "rows_read") [s.d] h=y at r;cases r with
 | @ok g le =>
   refine ⟨g,?_⟩;have w:xs2 (P.tbl (n+6)) Zcy [some s.d,none] h=.ok (.rt (read s).d,[some s.d,some (read s).d]) (h++g):=(Za (Zv rfl)).trans ((Za (Zq7 (Zd rfl rfl) hr)).trans (Ze (ZA rfl)));rw [w,rdo,if_pos le];rfl
 | @ex g lt =>
   refine ⟨g,?_⟩;have w:xs2 (P.tbl (n+6)) Zcy [some s.d,none] h=.ok (.rt .non,[some s.d,some .non]) (h++g):=(Za (Zv rfl)).trans ((Za (Zs6 (Zd rfl rfl) hr)).trans (Ze (ZA rfl)));rw [w,rdo,if_neg (by omega)];rfl
end Rr
end
section
namespace Rr
open PySem L2 IV Tm Pw
open Rw (Th Wt Sta Ans ZeD ArOk Ze5 Zem ThN ArN WtN StN Bd rd ra fw rnd read step)
variable {P:Pg}{h:Hd}{N:Nat}
theorem Ztu (H:Rrd P) (n:Nat) (hN2:N<=45000) {s:Sta} (ok:Zem s) (b:StN N s) (hl:(Rw.wts s).length<=200):run P (n+6) (O "rows_step") [s.d] h=.ok (step s).d h:=Rw.Zrq H.r n s ok (by
 cases s with
 | go E ar ws=>simp only [Rw.wts] at hl;simp only;omega
 | back V ws =>
   simp only [Rw.wts] at hl;refine ⟨by omega,fun W r e E ar q=>?_⟩;subst e;subst q;have:=(b.2 _ Oi).1;unfold Rw.Bd at this;omega)
theorem Zrn(n:Bool)(t:T)(hz:t.size<=120)(h:Hd):IV.Zb1 n t.d t.d h=.ok (.bl (!n)) h:=ZgH (_root_.Rw.T.pure_d t) (by rw [_root_.Rw.T.dp_d];have:=ZbF t;omega)
noncomputable def ends:Ex:=(.lstl (.cons (.tupl (.cons (.cst (.str (O "value"))) .nil)) (.cons (.tupl (.cons (.cst (.str (O "stuck"))) .nil)) .nil)))
noncomputable def vs2:List D:=[.tup [.str (O "value")],.tup [.str (O "stuck")]]
theorem ZqS (h:Hd):Ze1 (h++[.lst vs2]) (.ref h.length)=some (.list [.tuple [.str (O "value")],.tuple [.str (O "stuck")]]):=by
 show Ze0 (h++[.lst vs2]) 4 h.length=_;rw [Ze0,show (h++[DO.lst vs2])[h.length]? = some (.lst vs2) by simp];rfl
theorem ZqT{a:Str}{d:D}(hp:d.pure=true)(h:Hd):Ze4 (.tup [.str a,d]) (.ref h.length) (h++[.lst vs2])=.ok (.bl false) (h++[.lst vs2]):=by
 obtain ⟨p,e,_,_⟩:=Zhe (rd:=Ze0 (h++[.lst vs2]) 4) d hp;have p1:Ze1 (h++[.lst vs2]) (.tup [.str a,d])=some (.tuple [.str a,p]):=by simp only [Ze1,D.py,D.pys,e,Option.bind_some,Option.map_some]
 unfold Ze4;rw [p1,ZqS];simp only;rw [if_pos (OE (Nat.min_le_left _ _) (by simp [PyData.depth,PyData.depthAll]))];simp [PyData.eqv,PyData.eqvAll]
theorem Zoe {w:Str} (e:w=O "value" \/ w=O "stuck") (h:Hd):Ze4 (.tup [.str w]) (.ref h.length) (h++[.lst vs2])=.ok (.bl true) (h++[.lst vs2]):=by
 have p1:Ze1 (h++[.lst vs2]) (.tup [.str w])=some (.tuple [.str w]):=rfl;unfold Ze4;rw [p1,ZqS];simp only;rw [if_pos (OE (Nat.min_le_left _ _) (by simp [PyData.depth,PyData.depthAll]))];rcases e with rfl|rfl<;>simp [PyData.eqv,PyData.eqvAll]
theorem Zus{U:Tb}{S:Ev}{e:Ex}{x:D}{b:Bool}(p:ev U e S h=.ok x h)(q:Ze4 x (.ref h.length) (h++[.lst vs2])=.ok (.bl b) (h++[.lst vs2])):ev U (.lin e ends) S h=.ok (.bl b) (h++[.lst vs2]):=by
 have es:ev U ends S h=.ok (.ref h.length) (h++[.lst vs2]):=Zj3 (xs:=vs2) (Zd (Zbi (Zd rfl rfl) (by simp)) (Zd (Zbi (Zd rfl rfl) (by simp)) rfl)) (by simp [vs2]);rw [Zsz,p,Zl,es,Zl,q]
noncomputable def isE:Ans->Bool
 | .value|.stuck=>true
 | _=>false
theorem Ztb{U:Tb}{S:Ev}{e:Ex}{a:Ans}(p:ev U e S h=.ok a.d h):ev U (.lin e ends) S h=.ok (.bl (isE a)) (h++[.lst vs2]):=by
 refine Zus p ?_;cases a with
 | quiet s=>exact ZqT (Rw.Sta.pure_d s) h
 | loud s=>exact ZqT (Rw.Sta.pure_d s) h
 | value=>exact Zoe (.inl rfl) h
 | stuck=>exact Zoe (.inr rfl) h
end Rr
end
section
namespace K23L
open PySem L2 IV
noncomputable def ZhR:Sx:=(.set (.nm 1) (.call (O "_law_program") (.cons (.var 0) (.cons (.cst (.int 1)) .nil))))
noncomputable def ZhQ:Sx:=(.set (.nm 2) (.bin .Mod (.call (O "_law_mixed") (.cons (.call (O "_law_cell_at") (.cons (.var 0) (.cons (.cst (.int 0)) .nil))) (.cons (.cst (.int 1)) .nil))) (.cst (.int 25))))
noncomputable def ZhP:Sx:=(.set (.nm 3) (.call (O "rows_begun") (.cons (.var 1) .nil)))
noncomputable def ZhO:Sx:=(.set (.nm 4) (.cst (.int 0)))
noncomputable def Zfg:Sx:=(.whl (.ex (.cmp .Lt (.var 4) (.var 2))) (.cons (.set (.nm 5) (.call (O "rows_step") (.cons (.var 3) .nil))) (.cons (.iff (.ex (.cmp .Eq (.ix (.var 5) (.cst (.int 0))) (.cst (.str (O "loud"))))) (.cons (.set (.nm 6) (.call (O "stepped") (.cons (.var 1) .nil))) (.cons (.set (.nm 1) (.call (O "_law_read") (.cons (.ix (.var 5) (.cst (.int 1))) .nil))) (.cons (.iff (.ex (.cmp .NotEq (.ix (.var 6) (.cst (.int 0))) (.cst (.str (O "loud"))))) (.cons (.ret (.cst (.bl false))) .nil) .nil) (.cons (.iff (.ex (.cmp .Is (.var 1) (.cst .non))) (.cons (.ret (.cmp .Gt (.call (O "_law_width") (.cons (.ix (.var 6) (.cst (.int 1))) .nil)) (.cst (.int 120)))) .nil) .nil) (.cons (.iff (.ors (.cons (.ex (.cmp .NotEq (.var 1) (.ix (.var 6) (.cst (.int 1))))) (.one (.ex (.cmp .Gt (.call (O "_law_width") (.cons (.var 1) .nil)) (.cst (.int 120))))))) (.cons (.ret (.cst (.bl false))) .nil) .nil) (.cons (.set (.nm 4) (.bin .Add (.var 4) (.cst (.int 1)))) .nil)))))) (.cons (.iff (.ex (.cmp .NotEq (.ix (.var 5) (.cst (.int 0))) (.cst (.str (O "quiet"))))) (.cons (.ret (.ands (.cons (.lin (.var 5) (.lstl (.cons (.tupl (.cons (.cst (.str (O "value"))) .nil)) (.cons (.tupl (.cons (.cst (.str (O "stuck"))) .nil)) .nil)))) (.cons (.cmp .Eq (.call (O "stepped") (.cons (.var 1) .nil)) (.var 5)) .nil)))) .nil) .nil) .nil)) (.cons (.set (.nm 3) (.ix (.var 5) (.cst (.int 1)))) .nil))))
noncomputable def Zlb:Sx:=(.ret (.cst (.bl true)))
noncomputable def ZuB:Sxs:=(.cons ZhR (.cons ZhQ (.cons ZhP (.cons ZhO (.cons Zfg (.cons Zlb .nil))))))
noncomputable def ZgM:Fd:=⟨[(O "_law_script")],[(O "_law_script"),(O "_law_told"),(O "_law_most"),(O "_law_state"),(O "_law_loud"),(O "_law_answer"),(O "_law_due")],ZuB⟩
structure Lw(P:Pg):Prop where
 d:Rr.Rrd P
 t:Tm.Trm P
 cell:P.tb.lookup (O "_law_cell_at")=some Gn.ZN
 law:P.tb.lookup (O "law")=some ZgM
noncomputable def Zsd:Tx:=(.ex (.cmp .Lt (.var 4) (.var 2)))
noncomputable def Zt9:Sx:=(.set (.nm 5) (.call (O "rows_step") (.cons (.var 3) .nil)))
noncomputable def ZpI:Sx:=(.iff (.ex (.cmp .Eq (.ix (.var 5) (.cst (.int 0))) (.cst (.str (O "loud"))))) (.cons (.set (.nm 6) (.call (O "stepped") (.cons (.var 1) .nil))) (.cons (.set (.nm 1) (.call (O "_law_read") (.cons (.ix (.var 5) (.cst (.int 1))) .nil))) (.cons (.iff (.ex (.cmp .NotEq (.ix (.var 6) (.cst (.int 0))) (.cst (.str (O "loud"))))) (.cons (.ret (.cst (.bl false))) .nil) .nil) (.cons (.iff (.ex (.cmp .Is (.var 1) (.cst .non))) (.cons (.ret (.cmp .Gt (.call (O "_law_width") (.cons (.ix (.var 6) (.cst (.int 1))) .nil)) (.cst (.int 120)))) .nil) .nil) (.cons (.iff (.ors (.cons (.ex (.cmp .NotEq (.var 1) (.ix (.var 6) (.cst (.int 1))))) (.one (.ex (.cmp .Gt (.call (O "_law_width") (.cons (.var 1) .nil)) (.cst (.int 120))))))) (.cons (.ret (.cst (.bl false))) .nil) .nil) (.cons (.set (.nm 4) (.bin .Add (.var 4) (.cst (.int 1)))) .nil)))))) (.cons (.iff (.ex (.cmp .NotEq (.ix (.var 5) (.cst (.int 0))) (.cst (.str (O "quiet"))))) (.cons (.ret (.ands (.cons (.lin (.var 5) (.lstl (.cons (.tupl (.cons (.cst (.str (O "value"))) .nil)) (.cons (.tupl (.cons (.cst (.str (O "stuck"))) .nil)) .nil)))) (.cons (.cmp .Eq (.call (O "stepped") (.cons (.var 1) .nil)) (.var 5)) .nil)))) .nil) .nil) .nil))
noncomputable def Zvy:Sx:=(.set (.nm 3) (.ix (.var 5) (.cst (.int 1))))
noncomputable def ZfP:Sxs:=(.cons Zt9 (.cons ZpI (.cons Zvy .nil)))
theorem ZpJ:Zfg=.whl Zsd ZfP:=rfl
end K23L
end
section
namespace K23L
open PySem L2 IV Tm Pw Rr
open Rw (Th Wt Sta Ans Zem StN read step ms)
variable {P:Pg}{h:Hd}{N:Nat}
noncomputable def vl(ro td:D)(m:Int)(sd:D)(k:Int)(o5 o6:Option D):Ev:=[some ro,some td,some (.int m),some sd,some (.int k),o5,o6]
theorem Zr5{U:Tb}{S:Ev}{h1 h2:Hd}{a b:Ex}{x y:Str}(p:ev U a S h=.ok (.str x) h1)(q:ev U b S h1=.ok (.str y) h2):tst U (.ex (.cmp .NotEq a b)) S h=.ok (!decide (x=y)) h2:=Zez ((ZJ p q).trans (by rw [Zr0,Zij];rfl))
theorem ZvL(t:T):t.d≠.non:=fun z=>by cases t<;>cases z
section
variable {ro:D}{m k:Int}{s s':Sta}{t u:T}{o5 o6:Option D}
theorem Zrb(H:Lw P)(n:Nat)(hN:1<=N)(hN2:N<=45000)(c:Gn.Cl [] t)(nv:isV t=false)(hz:t.size<=120)(nx:next t=some u)(er:read s'=u)(ok':Zem s')(b':StN N s')(h:Hd):∃ g,xs1 (P.tbl (n+241)) ZpI (vl ro t.d m s.d k (some (Ans.loud s').d) o6) h=(if u.size<=120 then .ok (.nx,vl ro u.d m s.d (k+1) (some (Ans.loud s').d) (some (ans t))) (h++g) else .ok (.rt (.bl true),vl ro .non m s.d k (some (Ans.loud s').d) (some (ans t))) (h++g)):=by
 obtain ⟨cu,_,du⟩:=ZpB nv c hz nx;obtain ⟨g1,e1⟩:=ZgE H.t (n+234) (h:=h) t c (by omega);obtain ⟨g2,e2⟩:=ZoS H.d (n+234) hN hN2 s' ok' b' (h++g1);obtain ⟨g3,e3⟩:=Gn.ZkF H.d.r.toMkr 240 n u (h++g1++g2) du;have ea:ans t=.tup [.str (O "loud"),u.d]:=by rw [ans,nv,nx];rfl
 rw [er] at e2;refine ⟨g1++(g2++g3),?_⟩;rw [show h++(g1++(g2++g3))=h++g1++g2++g3 by simp];have t0:tst (P.tbl (n+241)) (.ex (.cmp .Eq (.ix (.var 5) (.cst (.int 0))) (.cst (.str (O "loud"))))) (vl ro t.d m s.d k (some (Ans.loud s').d) o6) h=.ok true h:=Zt (Zgq rfl rfl) (by decide);have x1:xs1 (P.tbl (n+241)) (.set (.nm 6) (.call (O "stepped") (.cons (.var 1) .nil))) (vl ro t.d m s.d k (some (Ans.loud s').d) o6) h=.ok (.nx,vl ro t.d m s.d k (some (Ans.loud s').d) (some (ans t))) (h++g1):=Zv (Zs e1 rfl);have x2:xs1 (P.tbl (n+241)) (.set (.nm 1) (.call (O "_law_read") (.cons (.ix (.var 5) (.cst (.int 1))) .nil))) (vl ro t.d m s.d k (some (Ans.loud s').d) (some (ans t))) (h++g1)=.ok (.nx,vl ro (rdo u) m s.d k (some (Ans.loud s').d) (some (ans t))) (h++g1++g2):=Zv (Zs e2 rfl);refine (Zr t0).trans ((Za x1).trans ((Za x2).trans ?_));rw [ea];generalize h++g1++g2=h2 at e3 ⊢;refine (Za ((Zx (Zt (Zr5 rfl rfl) (by decide))).trans rfl)).trans ?_;unfold rdo;split
 . rename_i hu;have w1:tst (P.tbl (n+241)) (.ex (.cmp .NotEq (.var 1) (.ix (.var 6) (.cst (.int 1))))) (vl ro u.d m s.d k (some (Ans.loud s').d) (some (.tup [.str (O "loud"),u.d]))) h2=.ok false h2:=Zez (b:=false) ((ZJ (x:=u.d) (y:=u.d) rfl rfl).trans (Zrn true u hu h2));have w2:tst (P.tbl (n+241)) (.ex (.cmp .Gt (.call (O "_law_width") (.cons (.var 1) .nil)) (.cst (.int 120)))) (vl ro u.d m s.d k (some (Ans.loud s').d) (some (.tup [.str (O "loud"),u.d]))) h2=.ok false (h2++g3):=Zt (Zss (Zs e3 rfl) rfl) (decide_eq_false (by omega));exact (Za ((Zx (Zl0 rfl (ZvL u))).trans rfl)).trans ((Za ((Zx (Zna w1 w2)).trans rfl)).trans rfl)
 . rename_i hu;have w2:ev (P.tbl (n+241)) (.cmp .Gt (.call (O "_law_width") (.cons (.ix (.var 6) (.cst (.int 1))) .nil)) (.cst (.int 120))) (vl ro .non m s.d k (some (Ans.loud s').d) (some (.tup [.str (O "loud"),u.d]))) h2=.ok (.bl true) (h2++g3):=(ZJ (Zs e3 rfl) rfl).trans (by rw [show opC (P.tbl (n+241)).GD .Gt (.int (u.size:Int)) (.int 120) (h2++g3)=.ok (.bl (decide ((120:Int)<(u.size:Int)))) (h2++g3) from rfl,decide_eq_true (by omega)]);exact Ze ((Zr (ZjT rfl)).trans (Ze (ZA w2)))
theorem ZoE(n:Nat):xs1 (P.tbl (n+241)) ZpI (vl ro t.d m s.d k (some (Ans.quiet s').d) o6) h=.ok (.nx,vl ro t.d m s.d k (some (Ans.quiet s').d) o6) h :=
 (Zx (Zt (Zgq rfl rfl) (by decide))).trans ((Za ((Zx (Zt (Zr5 rfl rfl) (by decide))).trans rfl)).trans rfl)
theorem Zmo (H:Lw P) (n:Nat) (c:Gn.Cl [] t) (hz:t.size<=120) {a:Ans}{w:Str} (hw:w=O "value" \/ w=O "stuck") (ha:a.d=.tup [.str w]) (ea:ans t=a.d) (ie:isE a=true) (h:Hd):∃ g,xs1 (P.tbl (n+241)) ZpI (vl ro t.d m s.d k (some a.d) o6) h=.ok (.rt (.bl true),vl ro t.d m s.d k (some a.d) o6) (h++g):=by
 obtain ⟨g1,e1⟩:=ZgE H.t (n+234) (h:=h++[.lst vs2]) t c (by omega);refine ⟨[.lst vs2]++g1,?_⟩;rw [<- Oz];have i1:ev (P.tbl (n+241)) (.lin (.var 5) ends) (vl ro t.d m s.d k (some a.d) o6) h=.ok (.bl true) (h++[.lst vs2]):=by
   have:=Ztb (U:=P.tbl (n+241)) (S:=vl ro t.d m s.d k (some a.d) o6) (h:=h) (e:=.var 5) (a:=a) rfl;rw [ie] at this;exact this
 have i2:ev (P.tbl (n+241)) (.cmp .Eq (.call (O "stepped") (.cons (.var 1) .nil)) (.var 5)) (vl ro t.d m s.d k (some a.d) o6) (h++[.lst vs2])=.ok (.bl true) (h++[.lst vs2]++g1):=(ZJ (Zs e1 rfl) (y:=a.d) rfl).trans (by rw [ea,ha];exact ZgH (n:=false) (d:=.tup [.str w]) rfl (by simp [D.dp,D.dps]));have t0:tst (P.tbl (n+241)) (.ex (.cmp .Eq (.ix (.var 5) (.cst (.int 0))) (.cst (.str (O "loud"))))) (vl ro t.d m s.d k (some a.d) o6) h=.ok false h:=Zt (Zgq (x:=w) ((ZaV (x:=a.d) rfl rfl).trans (by rw [ha];rfl)) rfl) (by rcases hw with rfl|rfl<;>decide);have t1:tst (P.tbl (n+241)) (.ex (.cmp .NotEq (.ix (.var 5) (.cst (.int 0))) (.cst (.str (O "quiet"))))) (vl ro t.d m s.d k (some a.d) o6) h=.ok true h:=Zt (Zr5 (x:=w) ((ZaV (x:=a.d) rfl rfl).trans (by rw [ha];rfl)) rfl) (by rcases hw with rfl|rfl<;>decide);have i3:ev (P.tbl (n+241)) (.ands (.cons (.lin (.var 5) ends) (.cons (.cmp .Eq (.call (O "stepped") (.cons (.var 1) .nil)) (.var 5)) .nil))) (vl ro t.d m s.d k (some a.d) o6) h=.ok (.bl true) (h++[.lst vs2]++g1):=by
   rw [Zp5,Zl5,i1];exact i2
 exact (Zx t0).trans (Ze ((Zr t1).trans (Ze (ZA i3))))
theorem ZpV{M j a b N l f:Nat}(hj:j<M)(hf:(M - j) * 30000+a<f+1)(m1:b<=2 * N+l * (2 * N+1))(hl:l<=120)(hN:N<=100):(M - (j+1)) * 30000+b<f:=by
 have m4:l * (2 * N+1)<=120 * (2 * 100+1):=Nat.mul_le_mul hl (by omega);obtain ⟨d,rfl⟩:∃ d,M=j+1+d:=⟨M - (j+1),by omega⟩
 rw [show j+1+d - j=d+1 by omega] at hf;rw [show j+1+d - (j+1)=d by omega];omega
theorem Zuc(H:Lw P)(n:Nat){M:Nat}(hN:1<=N)(hN2:N<=100):∀ (fuel:Nat) (s:Sta) (j:Nat) (h:Hd) (o5 o6:Option D),Zem s->StN N s->Gn.Cl [] (read s)->(read s).size<=120->(M - j) * 30000+ms s<fuel ->
   ∃ f S h',ZV (tst (P.tbl (n+241)) Zsd) (xs2 (P.tbl (n+241)) ZfP) fuel (vl ro (read s).d (M:Nat) s.d (j:Nat) o5 o6) h=.ok (f,S) h'/\(f=.rt (.bl true)\/f=.nx):=by
 intro fuel;induction fuel with
 | zero=>intro s j h o5 o6 _ _ _ _ hf;omega
 | succ fuel ih =>
   intro s j h o5 o6 ok b c hz hf;have te:tst (P.tbl (n+241)) Zsd (vl ro (read s).d (M:Nat) s.d (j:Nat) o5 o6) h=.ok (decide ((j:Int)<(M:Int))) h:=Zt8 rfl rfl;by_cases hj:j<M
   . have te:=Zt te (decide_eq_true (by omega));have wl:=Rw.ZhW s;have x1:xs1 (P.tbl (n+241)) Zt9 (vl ro (read s).d (M:Nat) s.d (j:Nat) o5 o6) h=.ok (.nx,vl ro (read s).d (M:Nat) s.d (j:Nat) (some (step s).d) o6) h:=Zv (Zs (Ztu H.d (n+235) (by omega) ok b (by omega)) rfl);have sim:=Rw.Zmq s ok;have inv:=fun s' e=>Rw.Zmr (s':=s') ok b e;cases hs:step s with
     | quiet s' =>
       rw [hs] at sim x1;obtain ⟨ok',b'⟩:=inv s' (.inl hs);have d:=Rw.Zr8 ok hs;have sim:read s'=read s:=sim;obtain ⟨f,S,h',e,q⟩:=ih s' j h (some (Ans.quiet s').d) o6 ok' b' (by rw [sim];exact c) (by rw [sim];exact hz) (by omega);rw [sim] at e;have w:xs2 (P.tbl (n+241)) ZfP (vl ro (read s).d (M:Nat) s.d (j:Nat) o5 o6) h=.ok (.nx,vl ro (read s).d (M:Nat) s'.d (j:Nat) (some (Ans.quiet s').d) o6) h:=(Za x1).trans ((Za (ZoE n)).trans rfl);exact ⟨f,S,h',(ZdS te w).trans e,q⟩
     | loud s' =>
       rw [hs] at x1 sim;obtain ⟨⟨nv,_⟩,nx⟩:=sim;obtain ⟨ok',b'⟩:=inv s' (.inr hs);obtain ⟨g,x3⟩:=Zrb H n hN (by omega) (ro:=ro) (m:=M) (k:=j) (s:=s) (o6:=o6) c nv hz nx rfl ok' b' h;by_cases hz':(read s').size<=120
       . rw [if_pos hz'] at x3;obtain ⟨f,S,h',e,q⟩:=ih s' (j+1) (h++g) (some (Ans.loud s').d) (some (ans (read s))) ok' b' (Zin nv c hz nx).1 hz' (ZpV hj hf (Rw.Zt4 b') (OE (Rw.ZhW s') hz') hN2);rw [show ((j+1:Nat):Int)=(j:Int)+1 from Int.natCast_succ j] at e;have w:xs2 (P.tbl (n+241)) ZfP (vl ro (read s).d (M:Nat) s.d (j:Nat) o5 o6) h=.ok (.nx,vl ro (read s').d (M:Nat) s'.d ((j:Int)+1) (some (Ans.loud s').d) (some (ans (read s)))) (h++g):=(Za x1).trans ((Za x3).trans rfl);exact ⟨f,S,h',(ZdS te w).trans e,q⟩
       . rw [if_neg hz'] at x3;have w:xs2 (P.tbl (n+241)) ZfP (vl ro (read s).d (M:Nat) s.d (j:Nat) o5 o6) h=.ok (.rt (.bl true),vl ro .non (M:Nat) s.d (j:Nat) (some (Ans.loud s').d) (some (ans (read s)))) (h++g):=(Za x1).trans (Ze x3);exact ⟨_,_,_,Zfj te w,.inl rfl⟩
     | value =>
       rw [hs] at x1 sim;obtain ⟨V,_,vt⟩:=sim;obtain ⟨g,x3⟩:=Zmo H n (ro:=ro) (m:=M) (k:=j) (s:=s) (o6:=o6) c hz (a:=.value) (.inl rfl) rfl (by rw [ans,vt];rfl) rfl h;exact ⟨_,_,_,Zfj te ((Za x1).trans (Ze x3)),.inl rfl⟩
     | stuck =>
       rw [hs] at x1 sim;obtain ⟨⟨nv,_⟩,nx⟩:=sim;obtain ⟨g,x3⟩:=Zmo H n (ro:=ro) (m:=M) (k:=j) (s:=s) (o6:=o6) c hz (a:=.stuck) (.inr rfl) rfl (by rw [ans,nv,nx];rfl) rfl h;exact ⟨_,_,_,Zfj te ((Za x1).trans (Ze x3)),.inl rfl⟩
   . exact ⟨.nx,_,h,ZgZ (Zt te (decide_eq_false (by omega))),.inr rfl⟩
end
theorem Zrv (H:Lw P) (n:Nat) (zs:List Int) {h:Hd}:∃ v,run P (n+1) (O "_law_cell_at") [.ro (zs.map .int),.int 0] h=.ok (.int v) h:=by
 rw [Zc H.cell rfl];cases zs with
 | nil=>exact ⟨0,by simp [Gn.ZN,Gn.Zb7,Zn,Zb4,Zkl,seqOf,lstOf]⟩
 | cons z zs =>
   refine ⟨z,?_⟩;have:(0:Int)<(zs.length:Int)+1:=by omega
   simp [Gn.ZN,Gn.Zb7,Zn,Zb4,Zkl,seqOf,lstOf,this]
theorem Ztw (H:Lw P) (zs:List Int) (hz:zs.length<=63):∃ h',run P (250+1) (O "law") [.ro (zs.map .int)] []=.ok (.bl true) h':=by
 obtain ⟨t,h1,e1,ct,st,dt,_,_⟩:=Gn.Zlv H.d.r.toMkr (N:=249) (by omega) zs 1 [] (by omega);obtain ⟨v,e2⟩:=Zrv H 249 (h:=h1) zs;have e3:=Gn.Zhb H.d.r.toMkr 249 v 1 h1 (by decide);obtain ⟨M,hM⟩:∃ M:Nat,Gn.mixed v 1 % 25=(M:Int):=⟨(Gn.mixed v 1 % 25).toNat,by have:=Int.emod_nonneg (Gn.mixed v 1) (b:=25) (by decide);omega⟩
 have hM2:M<=25:=by have:=Int.emod_lt_of_pos (Gn.mixed v 1) (b:=25) (by decide);omega
 have m1:opB .Mod (.int (Gn.mixed v 1)) (.int 25) h1=.ok (.int (M:Int)) h1:=(ZO (by decide)).trans (by rw [hM]);have rt:read (Sta.go t .nil [])=t:=Zbt t (fun x=>rfl);have big:=H.t.big;generalize D.ro (zs.map .int)=ro at *;obtain ⟨f,S,h3,e5,q⟩:=Zuc H 9 (ro:=ro) (M:=M) (N:=t.size) (Zbv t) st P.L (.go t .nil []) 0 h1 none none ⟨ct,trivial,fun x hx=>by cases hx⟩ ⟨by show 0+2 * t.size<=2 * t.size;omega,trivial,fun x hx=>by cases hx⟩ (by rw [rt];exact ct) (by rw [rt];omega) (by
   have:ms (Sta.go t .nil [])=2 * t.size:=by simp [ms,Rw.wms]
   omega)
 rw [rt] at e5;have eb:run P 250 (O "rows_begun") [t.d] h1=.ok (Sta.go t .nil []).d h1:=by
   rw [Zc H.d.r.rows_begun (by rfl)];exact rfl
 have x1:xs1 (P.tbl 250) ZhR [some ro,none,none,none,none,none,none] []=.ok (.nx,[some ro,some t.d,none,none,none,none,none]) h1:=Zv (Zs e1 rfl);have x2:xs1 (P.tbl 250) ZhQ [some ro,some t.d,none,none,none,none,none] h1=.ok (.nx,[some ro,some t.d,some (.int (M:Int)),none,none,none,none]) h1:=Zv ((ZaL (Zs e3 (Zd (Zs e2 rfl) rfl)) rfl).trans m1);have x3:xs1 (P.tbl 250) ZhP [some ro,some t.d,some (.int (M:Int)),none,none,none,none] h1=.ok (.nx,[some ro,some t.d,some (.int (M:Int)),some (Sta.go t .nil []).d,none,none,none]) h1:=Zv (Zs eb rfl);have x4:xs1 (P.tbl 250) ZhO [some ro,some t.d,some (.int (M:Int)),some (Sta.go t .nil []).d,none,none,none] h1=.ok (.nx,vl ro t.d (M:Nat) (Sta.go t .nil []).d (0:Nat) none none) h1:=rfl;have x5:xs1 (P.tbl 250) Zfg (vl ro t.d (M:Nat) (Sta.go t .nil []).d (0:Nat) none none) h1=.ok (f,S) h3:=by
   rw [ZpJ];exact e5
 rw [Zc H.law (by rfl)];refine ⟨h3,?_⟩;show Zh (xs2 (P.tbl 250) (.cons ZhR (.cons ZhQ (.cons ZhP (.cons ZhO (.cons Zfg (.cons Zlb .nil)))))) [some ro,none,none,none,none,none,none] [])=_;rw [Za x1,Za x2,Za x3,Za x4];rcases q with rfl|rfl
 . rw [Ze x5];rfl
 . rw [Za x5];rfl
end K23L
end
section
namespace K23
open PySem L2 IV PyProof.Rows
noncomputable abbrev Zag:Fd:=Tm.Zag
noncomputable abbrev ZbB:Fd:=Gn.ZbB
noncomputable abbrev ZbD:Fd:=Tm.ZbD
noncomputable abbrev Zaf:Fd:=Tm.Zaf
noncomputable abbrev Zdm:Fd:=Tm.Zdm
noncomputable abbrev Zas:Fd:=Rw.Zas
noncomputable abbrev Zby:Fd:=Rw.Zby
noncomputable abbrev Zck:Fd:=Rw.Zck
noncomputable abbrev Zcj:Fd:=Rw.Zcj
noncomputable abbrev ZZ:Fd:=Rw.ZZ
noncomputable abbrev ZcX:Fd:=Tm.ZcX
noncomputable abbrev Zao:Fd:=Tm.Zao
noncomputable abbrev Zcg:Fd:=Tm.Zcg
noncomputable abbrev Zar:Fd:=Tm.Zar
noncomputable abbrev ZcW:Fd:=Tm.ZcW
noncomputable abbrev Zy:Fd:=Tm.Zy
noncomputable abbrev ZaH:Fd:=Tm.ZaH
noncomputable abbrev Zbx:Fd:=Tm.Zbx
noncomputable abbrev ZcY:Fd:=Tm.ZcY
noncomputable abbrev ZaI:Fd:=Rw.ZaI
noncomputable abbrev Za4:Fd:=Rw.Za4
noncomputable abbrev ZcZ:Fd:=Tm.ZcZ
noncomputable abbrev ZbA:Fd:=Tm.ZbA
noncomputable abbrev Zch:Fd:=Tm.Zch
noncomputable abbrev ZaE:Fd:=Rw.ZaE
noncomputable abbrev Z2:Fd:=Rw.Z2
noncomputable abbrev Zf3:Fd:=Rw.Zf3
noncomputable abbrev Zcl:Fd:=Rw.Zcl
noncomputable abbrev Zci:Fd:=Rw.Zci
noncomputable abbrev Zbz:Fd:=Rw.Zbz
noncomputable abbrev Za7:Fd:=Rw.Za7
noncomputable abbrev Za8:Fd:=Rw.Za8
noncomputable abbrev Za5:Fd:=Rw.Za5
noncomputable abbrev ZaF:Fd:=Rr.ZaF
noncomputable abbrev Za6:Fd:=Rr.Za6
noncomputable abbrev ZN:Fd:=Gn.ZN
noncomputable abbrev Zax:Fd:=Gn.Zax
noncomputable abbrev Zap:Fd:=Gn.Zap
noncomputable abbrev Zaw:Fd:=Gn.Zaw
noncomputable abbrev Zav:Fd:=Gn.Zav
noncomputable abbrev ZT:Fd:=Gn.ZT
noncomputable abbrev Z4:Fd:=Gn.Z4
noncomputable abbrev ZaG:Fd:=Gn.ZaG
noncomputable abbrev ZaU:Fd:=Gn.ZaU
noncomputable abbrev Z3:Fd:=Gn.Z3
noncomputable abbrev Zaq:Fd:=Gn.Zaq
noncomputable abbrev Zae:Fd:=Gn.Zae
noncomputable abbrev ZbC:Fd:=Rr.ZbC
noncomputable abbrev ZgM:Fd:=K23L.ZgM
noncomputable abbrev ZP:Fd:=Tm.ZP
noncomputable def ZeC:Sxs:=(.cons (.iff (.ex (.cmp .Eq (.att [(O "Pen")] (.var 0) (O "used")) (.att [(O "Pen")] (.var 0) (O "most")))) (.cons (.rai (O "Wide") (.cst (.str (O "more places than an expression that is told may have")))) .nil) .nil) (.cons (.auga [(O "Pen")] (.var 0) (O "used") (.cst (.int 1))) .nil))
noncomputable def Zcm:Fd:=⟨[(O "self")],[(O "self")],ZeC⟩
noncomputable abbrev ZaJ:Fd:=Pw.ZaJ
noncomputable abbrev ZaK:Fd:=Tm.ZaK
noncomputable abbrev ZbE:Fd:=Pw.ZbE
noncomputable def tb:List (Str×Fd):=[((O "bound_names"),Zag),((O "parts_of"),ZbB),((O "front_of"),ZbD),((O "count_parts"),Zaf),((O "built"),Zdm),((O "bound_to"),Zas),((O "thing_of"),Zby),((O "body_of"),Zck),((O "entered"),Zcj),((O "loud_or_stuck"),ZZ),((O "opened"),ZcX),((O "meant_by"),Zao),((O "within"),Zcg),((O "is_value"),Zar),((O "put_in"),ZcW),((O "parts_first"),Zy),((O "first_open"),ZaH),((O "way_down"),Zbx),((O "called"),ZcY),((O "chosen"),ZaI),((O "worked"),Za4),((O "become"),ZcZ),((O "put_back"),ZbA),((O "stepped"),Zch),((O "rows_begun"),ZaE),((O "left_waiting"),Z2),((O "gone"),Zf3),((O "applied"),Zcl),((O "gone_on"),Zci),((O "reckoned"),Zbz),((O "loud_step"),Za7),((O "back_step"),Za8),((O "rows_step"),Za5),((O "put_around"),ZaF),((O "rows_read"),Za6),((O "_law_cell_at"),ZN),((O "_law_mixed"),Zax),((O "_law_next"),Zap),((O "_law_names"),Zaw),((O "_law_there"),Zav),((O "_law_plain"),ZT),((O "_law_function"),Z4),((O "_law_number"),ZaG),((O "_law_any"),ZaU),((O "_law_width"),Z3),((O "_law_deep"),Zaq),((O "_law_program"),Zae),((O "_law_read"),ZbC),((O "law"),ZgM)]
noncomputable def ms:List (Str×Fd):=[(mnm (O "Pen") (O "__init__"),ZP),(mnm (O "Pen") (O "take_place"),Zcm),(mnm (O "Pen") (O "joined"),ZaJ),(mnm (O "Pen") (O "filled"),ZaK),(mnm (O "Pen") (O "told"),ZbE)]
noncomputable def cG:List (Str×D):=[((O "WIDEST"),(.int 120)),((O "AT_ONCE"),(.tup [(.str (O "num")),(.str (O "name")),(.str (O "fn")),(.str (O "rec"))])),((O "VALUES"),(.tup [(.str (O "num")),(.str (O "fn")),(.str (O "rec"))])),((O "BEYOND"),(.int 1000000)),((O "FORMS"),.kd (O "FORMS"))]
noncomputable def cD:List (Str×List (Key×D)):=[((O "FORMS"),[(.inr (O "fn"),(.tup [(.int 1),(.int 1)])),(.inr (O "rec"),(.tup [(.int 2),(.int 1)])),(.inr (O "call"),(.tup [(.int 0),(.int 2)])),(.inr (O "if"),(.tup [(.int 0),(.int 3)])),(.inr (O "+"),(.tup [(.int 0),(.int 2)])),(.inr (O "-"),(.tup [(.int 0),(.int 2)])),(.inr (O "*"),(.tup [(.int 0),(.int 2)])),(.inr (O "<"),(.tup [(.int 0),(.int 2)]))])]
noncomputable def pg:Pg:=⟨tb,fun x=>cG.lookup x,fun x=>cD.lookup x,1000000,ms⟩
noncomputable def kl:Kl:=⟨[(O "Pen")],[(O "most"),(O "used")],[((O "Pen"),(O "take_place")),((O "Pen"),(O "joined")),((O "Pen"),(O "filled")),((O "Pen"),(O "told"))],[(O "Pen")],[(O "Wide")]⟩
noncomputable def top(i:Nat):Stmt:=PySem.Challenge.pw_samestride_k23_rows_loud.main.body.getD i (.Pass ⟨0,0,0,0⟩)
noncomputable def fs:List Str:=tb.map (·.1)
local macro_rules|`(tactic| wtm_at "chk")=>`(tactic| exact ⟨by constructor<;>decide +kernel,fun _ _ _ _ _ _ us hl=>by
   first
   | (have e:=Zs3 (show us.length=0 from hl);subst e;rfl)
   | (obtain ⟨a0,e⟩:=Zs2 (show us.length=1 from hl);subst e;rfl)
   | (obtain ⟨a0,a1,e⟩:=Zs1 (show us.length=2 from hl);subst e;rfl)
   | (obtain ⟨a0,a1,a2,e⟩:=Zs0 (show us.length=3 from hl);subst e;rfl)
   | (obtain ⟨a0,a1,a2,a3,e⟩:=ZsZ (show us.length=4 from hl);subst e;rfl)
   | (obtain ⟨a0,a1,a2,a3,a4,e⟩:=ZsY (show us.length=5 from hl);subst e;rfl)
   | (obtain ⟨a0,a1,a2,a3,a4,a5,e⟩:=ZuU (show us.length=6 from hl);subst e;rfl)
   | (obtain ⟨a0,a1,a2,a3,a4,a5,a6,e⟩:=us_7 (show us.length=7 from hl);subst e;rfl),by decide +kernel⟩)
abbrev Ck(n:String)(f:Fd)(s:Stmt):Prop:=Chk kl fs (O n) (O n) f s
noncomputable abbrev Zdw:=top 6
theorem Zgo:Ck "bound_names" Zag Zdw:=by wtm_at "chk"
noncomputable abbrev Zfx:=top 7
theorem ZjI:Ck "parts_of" ZbB Zfx:=by wtm_at "chk"
noncomputable abbrev ZfD:=top 8
theorem ZjO:Ck "front_of" ZbD ZfD:=by wtm_at "chk"
noncomputable abbrev Zdv:=top 9
theorem Zgn:Ck "count_parts" Zaf Zdv:=by wtm_at "chk"
noncomputable abbrev ZkC:=top 10
theorem ZpM:Ck "built" Zdm ZkC:=by wtm_at "chk"
noncomputable abbrev ZfE:=top 13
theorem ZjP:Ck "bound_to" Zas ZfE:=by wtm_at "chk"
noncomputable abbrev Zfu:=top 14
theorem ZjF:Ck "thing_of" Zby Zfu:=by wtm_at "chk"
noncomputable abbrev ZgC:=top 15
theorem ZlY:Ck "body_of" Zck ZgC:=by wtm_at "chk"
noncomputable abbrev ZgB:=top 16
theorem ZlX:Ck "entered" Zcj ZgB:=by wtm_at "chk"
noncomputable abbrev ZcC:=top 17
theorem Ze2:Ck "loud_or_stuck" ZZ ZcC:=by wtm_at "chk"
noncomputable abbrev Zh5:=top 18
theorem ZnF:Ck "opened" ZcX Zh5:=by wtm_at "chk"
noncomputable abbrev Zfy:=top 19
theorem ZjJ:Ck "meant_by" Zao Zfy:=by wtm_at "chk"
noncomputable abbrev Zh3:=top 20
theorem ZnD:Ck "within" Zcg Zh3:=by wtm_at "chk"
noncomputable abbrev ZfC:=top 25
theorem ZjN:Ck "is_value" Zar ZfC:=by wtm_at "chk"
noncomputable abbrev Zh4:=top 26
theorem ZnE:Ck "put_in" ZcW Zh4:=by wtm_at "chk"
noncomputable abbrev Zds:=top 27
theorem Zgk:Ck "parts_first" Zy Zds:=by wtm_at "chk"
noncomputable abbrev ZdZ:=top 28
theorem Zhq:Ck "first_open" ZaH ZdZ:=by wtm_at "chk"
noncomputable abbrev Zft:=top 29
theorem ZjE:Ck "way_down" Zbx Zft:=by wtm_at "chk"
noncomputable abbrev Zh7:=top 30
theorem ZnH:Ck "called" ZcY Zh7:=by wtm_at "chk"
noncomputable abbrev Zh6:=top 31
theorem ZnG:Ck "chosen" ZaI Zh6:=by wtm_at "chk"
noncomputable abbrev Zh2:=top 32
theorem ZnC:Ck "worked" Za4 Zh2:=by wtm_at "chk"
noncomputable abbrev Zh8:=top 33
theorem ZnI:Ck "become" ZcZ Zh8:=by wtm_at "chk"
noncomputable abbrev Zfw:=top 34
theorem ZjH:Ck "put_back" ZbA Zfw:=by wtm_at "chk"
noncomputable abbrev Zgy:=top 35
theorem ZlU:Ck "stepped" Zch Zgy:=by wtm_at "chk"
noncomputable abbrev ZdW:=top 37
theorem Zhn:Ck "rows_begun" ZaE ZdW:=by wtm_at "chk"
noncomputable abbrev ZcK:=top 38
theorem ZfT:Ck "left_waiting" Z2 ZcK:=by wtm_at "chk"
noncomputable abbrev ZmA:=top 39
theorem Zsm:Ck "gone" Zf3 ZmA:=by wtm_at "chk"
noncomputable abbrev ZgD:=top 40
theorem ZlZ:Ck "applied" Zcl ZgD:=by wtm_at "chk"
noncomputable abbrev ZgA:=top 41
theorem ZlW:Ck "gone_on" Zci ZgA:=by wtm_at "chk"
noncomputable abbrev Zfv:=top 42
theorem ZjG:Ck "reckoned" Zbz Zfv:=by wtm_at "chk"
noncomputable abbrev ZeH:=top 43
theorem Ziv:Ck "loud_step" Za7 ZeH:=by wtm_at "chk"
noncomputable abbrev ZeN:=top 44
theorem ZiB:Ck "back_step" Za8 ZeN:=by wtm_at "chk"
noncomputable abbrev ZeF:=top 45
theorem Zit:Ck "rows_step" Za5 ZeF:=by wtm_at "chk"
noncomputable abbrev ZdX:=top 46
theorem Zho:Ck "put_around" ZaF ZdX:=by wtm_at "chk"
noncomputable abbrev ZeG:=top 47
theorem Ziu:Ck "rows_read" Za6 ZeG:=by wtm_at "chk"
noncomputable abbrev Zdu:=top 49
theorem Zgm:Ck "_law_cell_at" ZN Zdu:=by wtm_at "chk"
noncomputable abbrev ZeM:=top 50
theorem ZiA:Ck "_law_mixed" Zax ZeM:=by wtm_at "chk"
noncomputable abbrev ZfA:=top 51
theorem ZjL:Ck "_law_next" Zap ZfA:=by wtm_at "chk"
noncomputable abbrev ZeL:=top 52
theorem Ziz:Ck "_law_names" Zaw ZeL:=by wtm_at "chk"
noncomputable abbrev ZeJ:=top 53
theorem Zix:Ck "_law_there" Zav ZeJ:=by wtm_at "chk"
noncomputable abbrev ZeK:=top 54
theorem Ziy:Ck "_law_plain" ZT ZeK:=by wtm_at "chk"
noncomputable abbrev ZcL:=top 55
theorem ZfU:Ck "_law_function" Z4 ZcL:=by wtm_at "chk"
noncomputable abbrev ZdY:=top 56
theorem Zhp:Ck "_law_number" ZaG ZdY:=by wtm_at "chk"
noncomputable abbrev Zgz:=top 57
theorem ZlV:Ck "_law_any" ZaU Zgz:=by wtm_at "chk"
noncomputable abbrev ZeI:=top 58
theorem Ziw:Ck "_law_width" Z3 ZeI:=by wtm_at "chk"
noncomputable abbrev ZfB:=top 59
theorem ZjM:Ck "_law_deep" Zaq ZfB:=by wtm_at "chk"
noncomputable abbrev Zdt:=top 60
theorem Zgl:Ck "_law_program" Zae Zdt:=by wtm_at "chk"
noncomputable abbrev Zfz:=top 61
theorem ZjK:Ck "_law_read" ZbC Zfz:=by wtm_at "chk"
noncomputable abbrev Zqz:=top 62
theorem Zue:Ck "law" ZgM Zqz:=by wtm_at "chk"
noncomputable abbrev ZcM:Stmt:=inClass (top 21) 0
theorem ZfV:Chk kl fs (O "__init__") (O "Pen.__init__") ZP ZcM:=by wtm_at "chk"
noncomputable abbrev Zcc:Stmt:=inClass (top 21) 1
theorem Zew:Chk kl fs (O "take_place") (O "Pen.take_place") Zcm Zcc:=by wtm_at "chk"
noncomputable abbrev Zd0:Stmt:=inClass (top 21) 2
theorem Zhr:Chk kl fs (O "joined") (O "Pen.joined") ZaJ Zd0:=by wtm_at "chk"
noncomputable abbrev Zd1:Stmt:=inClass (top 21) 3
theorem Zhs:Chk kl fs (O "filled") (O "Pen.filled") ZaK Zd1:=by wtm_at "chk"
noncomputable abbrev ZfF:Stmt:=inClass (top 21) 4
theorem ZjQ:Chk kl fs (O "told") (O "Pen.told") ZbE ZfF:=by wtm_at "chk"
end K23
end
section
namespace K23
open PySem L2 IV
theorem Zsg:pg.tb.lookup (O "law")=some ZgM:=by kernel_rfl
theorem mkr:Gn.Mkr pg:=⟨by kernel_rfl,by kernel_rfl,by kernel_rfl,by kernel_rfl,by kernel_rfl,.same (by kernel_rfl),.same (by kernel_rfl),.same (by kernel_rfl),by kernel_rfl,by kernel_rfl,.same (by kernel_rfl)⟩
theorem tre:Gn.Tre pg:=by
 constructor
 all_goals (first|kernel_rfl|decide)
theorem wid:Tm.Wid pg:=⟨.str (O "more places than an expression that is told may have"),by kernel_rfl⟩
theorem trb:Tm.Trb pg:=by
 constructor
 case toTre=>exact tre
 case tk=>obtain ⟨m,e⟩:=wid;exact ⟨_,e⟩
 all_goals kernel_rfl
theorem trm:Tm.Trm pg:=by
 constructor;exact trb
 all_goals kernel_rfl
theorem pnw:Pw.Pnw pg:=by
 constructor;exact trb;exact wid
 all_goals kernel_rfl
theorem gen:Gn.Gen pg:=⟨tre,mkr⟩
theorem thg:Rw.Thg pg:=by
 constructor;exact gen
 all_goals kernel_rfl
theorem row:Rw.Row0 pg:=by
 constructor;exact thg
 all_goals kernel_rfl
theorem rrd:Rr.Rrd pg:=by
 constructor;exact row;exact pnw
 all_goals kernel_rfl
theorem lw:K23L.Lw pg:=by
 constructor;exact rrd;exact trm
 all_goals kernel_rfl
theorem runs:∀ ns:List Int,ns.length<=63->∃ h',run pg (250+1) (O "law") [.ro (ns.map .int)] []=.ok (.bl true) h':=fun ns hl=>K23L.Ztw lw ns hl
end K23
end
section
set_option maxHeartbeats 4000000
namespace K23
open PySem L2 IV PyProof.Rows
theorem md{Pr:Program}{w:World}{K:PySem.W.Frag}{h:Heap}{mg:Str->Option Value}{ca1:Addr}{xa1:Addr}{t1:Tok}{q3:Addr}{r4:Option Addr}{n5:Nat}{v6:Array (Option Value)}{t8:Tok}{t9:Tok}{t10:Tok}{t11:Tok}{q13:Addr}{r14:Option Addr}{n15:Nat}{v16:Array (Option Value)}{t18:Tok}{t19:Tok}{t20:Tok}{t22:Tok}{q24:Addr}{e25:Nat}{j29:Int}{t30:Tok}{q31:Addr}{r32:Option Addr}{n33:Nat}{v34:Array (Option Value)}{t36:Tok}{t37:Tok}{j38:Int}{t39:Tok}{q40:Addr}{r41:Option Addr}{n42:Nat}{v43:Array (Option Value)}{t45:Tok}{t46:Tok}{j47:Int}{t48:Tok}{q49:Addr}{r50:Option Addr}{n51:Nat}{v52:Array (Option Value)}{t54:Tok}{t55:Tok}{j56:Int}{t57:Tok}{q58:Addr}{r59:Option Addr}{n60:Nat}{v61:Array (Option Value)}{t63:Tok}{t64:Tok}{j65:Int}{t66:Tok}{q67:Addr}{r68:Option Addr}{n69:Nat}{v70:Array (Option Value)}{t72:Tok}{t73:Tok}{j74:Int}{t75:Tok}{q76:Addr}{r77:Option Addr}{n78:Nat}{v79:Array (Option Value)}{t81:Tok}{t82:Tok}{j83:Int}{t84:Tok}{q85:Addr}{r86:Option Addr}{n87:Nat}{v88:Array (Option Value)}{t90:Tok}{t91:Tok}{j92:Int}{t93:Tok}{q94:Addr}{r95:Option Addr}{n96:Nat}{v97:Array (Option Value)}{t99:Tok}{t100:Tok}(X:K.In h)(G:h.Ns mainGlobals mg)
   (tb0:Zfl K=true)
   (d1:ZD K (O "bound_names") Zdw)
   (d2:ZD K (O "parts_of") Zfx)
   (d3:ZD K (O "front_of") ZfD)
   (d4:ZD K (O "count_parts") Zdv)
   (d5:ZD K (O "built") ZkC)
   (d6:ZD K (O "bound_to") ZfE)
   (d7:ZD K (O "thing_of") Zfu)
   (d8:ZD K (O "body_of") ZgC)
   (d9:ZD K (O "entered") ZgB)
   (d10:ZD K (O "loud_or_stuck") ZcC)
   (d11:ZD K (O "opened") Zh5)
   (d12:ZD K (O "meant_by") Zfy)
   (d13:ZD K (O "within") Zh3)
   (d14:ZD K (O "is_value") ZfC)
   (d15:ZD K (O "put_in") Zh4)
   (d16:ZD K (O "parts_first") Zds)
   (d17:ZD K (O "first_open") ZdZ)
   (d18:ZD K (O "way_down") Zft)
   (d19:ZD K (O "called") Zh7)
   (d20:ZD K (O "chosen") Zh6)
   (d21:ZD K (O "worked") Zh2)
   (d22:ZD K (O "become") Zh8)
   (d23:ZD K (O "put_back") Zfw)
   (d24:ZD K (O "stepped") Zgy)
   (d25:ZD K (O "rows_begun") ZdW)
   (d26:ZD K (O "left_waiting") ZcK)
   (d27:ZD K (O "gone") ZmA)
   (d28:ZD K (O "applied") ZgD)
   (d29:ZD K (O "gone_on") ZgA)
   (d30:ZD K (O "reckoned") Zfv)
   (d31:ZD K (O "loud_step") ZeH)
   (d32:ZD K (O "back_step") ZeN)
   (d33:ZD K (O "rows_step") ZeF)
   (d34:ZD K (O "put_around") ZdX)
   (d35:ZD K (O "rows_read") ZeG)
   (d36:ZD K (O "_law_cell_at") Zdu)
   (d37:ZD K (O "_law_mixed") ZeM)
   (d38:ZD K (O "_law_next") ZfA)
   (d39:ZD K (O "_law_names") ZeL)
   (d40:ZD K (O "_law_there") ZeJ)
   (d41:ZD K (O "_law_plain") ZeK)
   (d42:ZD K (O "_law_function") ZcL)
   (d43:ZD K (O "_law_number") ZdY)
   (d44:ZD K (O "_law_any") Zgz)
   (d45:ZD K (O "_law_width") ZeI)
   (d46:ZD K (O "_law_deep") ZfB)
   (d47:ZD K (O "_law_program") Zdt)
   (d48:ZD K (O "_law_read") Zfz)
   (d49:ZD K (O "law") Zqz)
   (y1a:PySem.W.nsIn K mainGlobals (O "Pen")=some (some (.ref ca1))) (y1b:PySem.W.plainGet K ca1 Str.empty=true) (y1c:PySem.W.hasDictIn K ca1=true) (y1d:PySem.W.plainOver K ca1=true) (y1e:PySem.W.findIn K (.ref ca1) "__setattr__" = some (some (.builtin "object.__setattr__")))
   (y1n1:PySem.W.findIn K (.ref ca1) (O "most")=some none)
   (y1n2:PySem.W.findIn K (.ref ca1) (O "used")=some none)
   (y1m:PySem.W.makesIn K ca1=true) (y1k:PySem.W.keepIn K (.ref ca1)=true)
   (u1:Zkn K ca1 (O "__init__") (O "Pen.__init__") ZcM)
   (u2:Zkn K ca1 (O "take_place") (O "Pen.take_place") Zcc)
   (u3:Zkn K ca1 (O "joined") (O "Pen.joined") Zd0)
   (u4:Zkn K ca1 (O "filled") (O "Pen.filled") Zd1)
   (u5:Zkn K ca1 (O "told") (O "Pen.told") ZfF)
   (o1a:PySem.W.nsIn K mainGlobals (O "Wide")=some (some (.ref xa1))) (o1b:PySem.W.typeIn K (.ref xa1)=some (.type "type")) (o1c:PySem.W.isClsIn K xa1=true) (o1d:PySem.W.subIn K (.ref xa1) (.type "BaseException")=some true) (o1e:PySem.W.excIn K xa1 [.type "ValueError",.type "Exception",.type "BaseException",.type "object"] "ValueError.__new__" = true) (o1f:PySem.W.subIn K (.ref xa1) (.ref xa1)=some true)
   (z1:PySem.W.nsIn K mainGlobals (O "len")=some none)
   (z2:PySem.W.nsIn K mainGlobals (O "isinstance")=some none)
   (z3:PySem.W.nsIn K mainGlobals (O "int")=some none)
   (z4:PySem.W.nsIn K mainGlobals (O "tuple")=some none)
   (z5:PySem.W.nsIn K mainGlobals (O "list")=some none)
   (z6:PySem.W.nsIn K mainGlobals (O "sum")=some none)
   (z7:PySem.W.nsIn K mainGlobals (O "all")=some none)
   (z8:PySem.W.nsIn K mainGlobals (O "sorted")=some none)
   (z9:PySem.W.nsIn K mainGlobals (O "range")=some none)
   (z10:PySem.W.nsIn K mainGlobals (O "enumerate")=some none)
   (z11:PySem.W.nsIn K mainGlobals (O "reversed")=some none)
   (z12:PySem.W.nsIn K mainGlobals (O "str")=some none)
   (z13:PySem.W.nsIn K mainGlobals (O "bool")=some none)
   (z14:PySem.W.nsIn K mainGlobals (O "max")=some none)
   (g2:PySem.W.nsIn K mainGlobals (O "WIDEST")=some (some (.int 120 t1)))
   (h7:K.lookup q3=some ⟨.type "tuple",r4,.seq #[.str (O "num") t8,.str (O "name") t9,.str (O "fn") t10,.str (O "rec") t11] n5,v6⟩)
   (g12:PySem.W.nsIn K mainGlobals (O "AT_ONCE")=some (some (.ref q3)))
   (h17:K.lookup q13=some ⟨.type "tuple",r14,.seq #[.str (O "num") t18,.str (O "fn") t19,.str (O "rec") t20] n15,v16⟩)
   (g21:PySem.W.nsIn K mainGlobals (O "VALUES")=some (some (.ref q13)))
   (g23:PySem.W.nsIn K mainGlobals (O "BEYOND")=some (some (.int 1000000 t22)))
   (h35:K.lookup q31=some ⟨.type "tuple",r32,.seq #[.int 1 t36,.int 1 t37] n33,v34⟩)
   (h44:K.lookup q40=some ⟨.type "tuple",r41,.seq #[.int 2 t45,.int 1 t46] n42,v43⟩)
   (h53:K.lookup q49=some ⟨.type "tuple",r50,.seq #[.int 0 t54,.int 2 t55] n51,v52⟩)
   (h62:K.lookup q58=some ⟨.type "tuple",r59,.seq #[.int 0 t63,.int 3 t64] n60,v61⟩)
   (h71:K.lookup q67=some ⟨.type "tuple",r68,.seq #[.int 0 t72,.int 2 t73] n69,v70⟩)
   (h80:K.lookup q76=some ⟨.type "tuple",r77,.seq #[.int 0 t81,.int 2 t82] n78,v79⟩)
   (h89:K.lookup q85=some ⟨.type "tuple",r86,.seq #[.int 0 t90,.int 2 t91] n87,v88⟩)
   (h98:K.lookup q94=some ⟨.type "tuple",r95,.seq #[.int 0 t99,.int 2 t100] n96,v97⟩)
   (g26:PySem.W.nsIn K mainGlobals (O "FORMS")=some (some (.ref q24)))
   (h27:K.lookup q24=some ⟨.type "dict",none,.dict #[⟨j29,.str (O "fn") t30,.ref q31⟩,⟨j38,.str (O "rec") t39,.ref q40⟩,⟨j47,.str (O "call") t48,.ref q49⟩,⟨j56,.str (O "if") t57,.ref q58⟩,⟨j65,.str (O "+") t66,.ref q67⟩,⟨j74,.str (O "-") t75,.ref q76⟩,⟨j83,.str (O "*") t84,.ref q85⟩,⟨j92,.str (O "<") t93,.ref q94⟩] e25,#[]⟩)
   (x101:j29=hashStr w (O "fn"))
   (x102:j38=hashStr w (O "rec"))
   (x103:j47=hashStr w (O "call"))
   (x104:j56=hashStr w (O "if"))
   (x105:j65=hashStr w (O "+"))
   (x106:j74=hashStr w (O "-"))
   (x107:j83=hashStr w (O "*"))
   (x108:j92=hashStr w (O "<"))
   (w28:(q24==sysModules)=false):Md Pr w K mg pg kl:=by
 have D_FORMS:∃ a kvs',mg (O "FORMS")=some (.ref a)/\DkK Pr w K a kvs'/\∀ H B,RKs ⟨K,mg⟩ H B (cD.lookup (O "FORMS") |>.getD []) kvs':=by
   refine ⟨q24,[(Sum.inr (O "fn"),(.ref q31)),(Sum.inr (O "rec"),(.ref q40)),(Sum.inr (O "call"),(.ref q49)),(Sum.inr (O "if"),(.ref q58)),(Sum.inr (O "+"),(.ref q67)),(Sum.inr (O "-"),(.ref q76)),(Sum.inr (O "*"),(.ref q85)),(Sum.inr (O "<"),(.ref q94))],PySem.W.mg_of X G g26,⟨_,_,_,[(Sum.inr (O "fn"),.ref q31),(Sum.inr (O "rec"),.ref q40),(Sum.inr (O "call"),.ref q49),(Sum.inr (O "if"),.ref q58),(Sum.inr (O "+"),.ref q67),(Sum.inr (O "-"),.ref q76),(Sum.inr (O "*"),.ref q85),(Sum.inr (O "<"),.ref q94)],h27,⟨rfl,rfl,rfl⟩,rfl,?_,(.cons (Zq (O "fn") t30) rfl (.cons (Zq (O "rec") t39) rfl (.cons (Zq (O "call") t48) rfl (.cons (Zq (O "if") t57) rfl (.cons (Zq (O "+") t66) rfl (.cons (Zq (O "-") t75) rfl (.cons (Zq (O "*") t84) rfl (.cons (Zq (O "<") t93) rfl .nil)))))))),(by show ([Sum.inr (O "fn"),Sum.inr (O "rec"),Sum.inr (O "call"),Sum.inr (O "if"),Sum.inr (O "+"),Sum.inr (O "-"),Sum.inr (O "*"),Sum.inr (O "<")]:List Key).Nodup;decide +kernel),(.cons ⟨rfl,Zad⟩ (.cons ⟨rfl,Zad⟩ (.cons ⟨rfl,Zad⟩ (.cons ⟨rfl,Zad⟩ (.cons ⟨rfl,Zad⟩ (.cons ⟨rfl,Zad⟩ (.cons ⟨rfl,Zad⟩ (.cons ⟨rfl,Zad⟩ .nil)))))))),(by show 8<=sizeLine;decide),w28⟩,fun _ _=>(.cons (.tup (Zdr (vs:=[(.int 1),(.int 1)]) h35 (by show 2<=sizeLine;decide) (.cons Zw (.cons Zw .nil))) (.cons (.int _) (.cons (.int _) .nil))) (.cons (.tup (Zdr (vs:=[(.int 2),(.int 1)]) h44 (by show 2<=sizeLine;decide) (.cons Zw (.cons Zw .nil))) (.cons (.int _) (.cons (.int _) .nil))) (.cons (.tup (Zdr (vs:=[(.int 0),(.int 2)]) h53 (by show 2<=sizeLine;decide) (.cons Zw (.cons Zw .nil))) (.cons (.int _) (.cons (.int _) .nil))) (.cons (.tup (Zdr (vs:=[(.int 0),(.int 3)]) h62 (by show 2<=sizeLine;decide) (.cons Zw (.cons Zw .nil))) (.cons (.int _) (.cons (.int _) .nil))) (.cons (.tup (Zdr (vs:=[(.int 0),(.int 2)]) h71 (by show 2<=sizeLine;decide) (.cons Zw (.cons Zw .nil))) (.cons (.int _) (.cons (.int _) .nil))) (.cons (.tup (Zdr (vs:=[(.int 0),(.int 2)]) h80 (by show 2<=sizeLine;decide) (.cons Zw (.cons Zw .nil))) (.cons (.int _) (.cons (.int _) .nil))) (.cons (.tup (Zdr (vs:=[(.int 0),(.int 2)]) h89 (by show 2<=sizeLine;decide) (.cons Zw (.cons Zw .nil))) (.cons (.int _) (.cons (.int _) .nil))) (.cons (.tup (Zdr (vs:=[(.int 0),(.int 2)]) h98 (by show 2<=sizeLine;decide) (.cons Zw (.cons Zw .nil))) (.cons (.int _) (.cons (.int _) .nil))) .nil))))))))⟩;exact (by
       intro e he;simp only [List.mem_toArray,O2,List.not_mem_nil,or_false] at he;rcases he with rfl|rfl|rfl|rfl|rfl|rfl|rfl|rfl
       . exact ⟨Sum.inr (O "fn"),Zq (O "fn") t30,x101⟩
       . exact ⟨Sum.inr (O "rec"),Zq (O "rec") t39,x102⟩
       . exact ⟨Sum.inr (O "call"),Zq (O "call") t48,x103⟩
       . exact ⟨Sum.inr (O "if"),Zq (O "if") t57,x104⟩
       . exact ⟨Sum.inr (O "+"),Zq (O "+") t66,x105⟩
       . exact ⟨Sum.inr (O "-"),Zq (O "-") t75,x106⟩
       . exact ⟨Sum.inr (O "*"),Zq (O "*") t84,x107⟩
       . exact ⟨Sum.inr (O "<"),Zq (O "<") t93,x108⟩
     )
 refine ⟨tb0,fun x kvs hx=>?_,fun x d hx=>?_,?_,fun x fd hx=>?_,?_,?_,?_,?_⟩
 . have hm:(x,kvs)∈cD:=lookup_mem hx;have e:(x,kvs)=((O "FORMS"),(cD.lookup (O "FORMS") |>.getD [])):=by
     simp only [cD,O2,List.not_mem_nil,or_false] at hm;exact hm
   cases e;exact D_FORMS
 . have hm:(x,d)∈cG:=lookup_mem hx;have all:All (fun p:Str×D=>∃ v u,mg p.1=some u/\RelV v u/\∀ H B,RD ⟨K,mg⟩ H B p.2 v) cG:=⟨⟨(.int 120),_,PySem.W.mg_of X G g2,Zw,fun _ _=>(.int _)⟩,⟨(.ref q3),_,PySem.W.mg_of X G g12,Zad,fun _ _=>(.tup (Zdr (vs:=[(.str (O "num")),(.str (O "name")),(.str (O "fn")),(.str (O "rec"))]) h7 (by show 4<=sizeLine;decide) (.cons Zbw (.cons Zbw (.cons Zbw (.cons Zbw .nil))))) (.cons (.str _ (by decide +kernel)) (.cons (.str _ (by decide +kernel)) (.cons (.str _ (by decide +kernel)) (.cons (.str _ (by decide +kernel)) .nil)))))⟩,⟨(.ref q13),_,PySem.W.mg_of X G g21,Zad,fun _ _=>(.tup (Zdr (vs:=[(.str (O "num")),(.str (O "fn")),(.str (O "rec"))]) h17 (by show 3<=sizeLine;decide) (.cons Zbw (.cons Zbw (.cons Zbw .nil)))) (.cons (.str _ (by decide +kernel)) (.cons (.str _ (by decide +kernel)) (.cons (.str _ (by decide +kernel)) .nil))))⟩,⟨(.int 1000000),_,PySem.W.mg_of X G g23,Zw,fun _ _=>(.int _)⟩,⟨.ref q24,_,PySem.W.mg_of X G g26,rfl,fun _ _=>.kd (PySem.W.mg_of X G g26)⟩,trivial⟩;exact all.mem _ hm
 . have all:All (fun x:Str=>mg x=none) ["len", "isinstance", "int", "tuple", "list", "sum", "all", "sorted", "range", "enumerate", "reversed", "str", "bool", "max"]:=⟨PySem.W.mg_none_of X G z1,PySem.W.mg_none_of X G z2,PySem.W.mg_none_of X G z3,PySem.W.mg_none_of X G z4,PySem.W.mg_none_of X G z5,PySem.W.mg_none_of X G z6,PySem.W.mg_none_of X G z7,PySem.W.mg_none_of X G z8,PySem.W.mg_none_of X G z9,PySem.W.mg_none_of X G z10,PySem.W.mg_none_of X G z11,PySem.W.mg_none_of X G z12,PySem.W.mg_none_of X G z13,PySem.W.mg_none_of X G z14,trivial⟩
   exact all.mem
 . have hm:(x,fd)∈tb:=lookup_mem hx;have all:All (fun p:Str×Fd=>∃ st f fdd,DefOk K mg kl fs p.1 p.2 st f fdd) tb:=⟨Zf X G d1 Zgo,Zf X G d2 ZjI,Zf X G d3 ZjO,Zf X G d4 Zgn,Zf X G d5 ZpM,Zf X G d6 ZjP,Zf X G d7 ZjF,Zf X G d8 ZlY,Zf X G d9 ZlX,Zf X G d10 Ze2,Zf X G d11 ZnF,Zf X G d12 ZjJ,Zf X G d13 ZnD,Zf X G d14 ZjN,Zf X G d15 ZnE,Zf X G d16 Zgk,Zf X G d17 Zhq,Zf X G d18 ZjE,Zf X G d19 ZnH,Zf X G d20 ZnG,Zf X G d21 ZnC,Zf X G d22 ZnI,Zf X G d23 ZjH,Zf X G d24 ZlU,Zf X G d25 Zhn,Zf X G d26 ZfT,Zf X G d27 Zsm,Zf X G d28 ZlZ,Zf X G d29 ZlW,Zf X G d30 ZjG,Zf X G d31 Ziv,Zf X G d32 ZiB,Zf X G d33 Zit,Zf X G d34 Zho,Zf X G d35 Ziu,Zf X G d36 Zgm,Zf X G d37 ZiA,Zf X G d38 ZjL,Zf X G d39 Ziz,Zf X G d40 Zix,Zf X G d41 Ziy,Zf X G d42 ZfU,Zf X G d43 Zhp,Zf X G d44 ZlV,Zf X G d45 Ziw,Zf X G d46 ZjM,Zf X G d47 Zgl,Zf X G d48 ZjK,Zf X G d49 Zue,trivial⟩
   exact all.mem _ hm
 . have all:All (fun C=>∃ a,mg C=some (.ref a)/\Cls K a/\∀ f∈kl.ats,ZaQ K a f) kl.cs:=⟨⟨ca1,PySem.W.mg_of X G y1a,⟨y1b,y1c,y1d,y1e⟩,(show All (fun f=>ZaQ K ca1 f) kl.ats from ⟨y1n1,y1n2,trivial⟩).mem⟩,trivial⟩
   exact all.mem
 . have all:All (fun p:Str×Str=>∃ a f fdd fd st q,mg p.1=some (.ref a)/\Cls K a/\Meth K a p.2 f/\pg.look (mnm p.1 p.2)=some fd/\BodyOk K kl (pg.tb.map (·.1)) p.2 q fd st f fdd) kl.ms:=⟨Zfb X G y1a ⟨y1b,y1c,y1d,y1e⟩ u2 Zew (by kernel_rfl),Zfb X G y1a ⟨y1b,y1c,y1d,y1e⟩ u3 Zhr (by kernel_rfl),Zfb X G y1a ⟨y1b,y1c,y1d,y1e⟩ u4 Zhs (by kernel_rfl),Zfb X G y1a ⟨y1b,y1c,y1d,y1e⟩ u5 ZjQ (by kernel_rfl),trivial⟩
   exact all.mem
 . have all:All (fun C:Str=>∃ a f fdd fd st q,mg C=some (.ref a)/\Mk K a f/\pg.look (mnm C (O "__init__"))=some fd/\BodyOk K kl (pg.tb.map (·.1)) (O "__init__") q fd st f fdd) kl.is:=⟨Zr9 X G y1a y1m y1k u1 ZfV (by kernel_rfl),trivial⟩
   exact all.mem
 . have all:All (fun C:Str=>∃ a,mg C=some (.ref a)/\XOk K a) kl.xs:=⟨⟨xa1,PySem.W.mg_of X G o1a,⟨⟨o1b,L2.isSome_of o1c,o1d⟩,o1e,o1f⟩⟩,trivial⟩
   exact all.mem
end K23
end
section
set_option maxHeartbeats 4000000
open PySem PySem.W PyProof.Rows
local macro_rules|`(tactic| wtm_at "dg")=>`(tactic| (refine' ⟨_,_,?na,L2.ZnP ?l ?c ?k⟩;(case na=>k_is);(case l=>k_is);(case c=>k_is);(case k=>k_is)))
local macro_rules|`(tactic| wtm_at "mg")=>`(tactic| (refine' ⟨_,_,?na,?f,?k,L2.ZnP ?l ?c ?kk⟩;(case na=>k_is);(case f=>k_is);(case l=>k_is);(case c=>k_is);(case k=>k_is);(case kk=>k_is)))
set_option maxRecDepth 100000 in
set_option maxHeartbeats 0 in
theorem PySem.Challenge.cw_samestride_k23_rows_loud_holds : PySem.Challenge.rw_samestride_k23_rows_loud.Holds := by
 refine K23hd ?_
 k_fill
 refine IV.ZsX (l:=PySem.Challenge.rw_samestride_k23_rows_loud) (P:=K23.pg) 250 rfl rfl rfl ⟨rfl,by decide,by decide⟩ (kl:=K23.kl) (fun w h Y=>PySem.W.kIn_of Y) K23.Zsg rfl K23.runs ?MM0
 case MM0 =>
   intro w mg h KX G;refine' K23.md KX G ?tb0 ?d1 ?d2 ?d3 ?d4 ?d5 ?d6 ?d7 ?d8 ?d9 ?d10 ?d11 ?d12 ?d13 ?d14 ?d15 ?d16 ?d17 ?d18 ?d19 ?d20 ?d21 ?d22 ?d23 ?d24 ?d25 ?d26 ?d27 ?d28 ?d29 ?d30 ?d31 ?d32 ?d33 ?d34 ?d35 ?d36 ?d37 ?d38 ?d39 ?d40 ?d41 ?d42 ?d43 ?d44 ?d45 ?d46 ?d47 ?d48 ?d49 ?y1a ?y1b ?y1c ?y1d ?y1e ?y1n1 ?y1n2 ?y1m ?y1k ?u1 ?u2 ?u3 ?u4 ?u5 ?o1a ?o1b ?o1c ?o1d ?o1e ?o1f ?z1 ?z2 ?z3 ?z4 ?z5 ?z6 ?z7 ?z8 ?z9 ?z10 ?z11 ?z12 ?z13 ?z14 ?g2 ?h7 ?g12 ?h17 ?g21 ?g23 ?h35 ?h44 ?h53 ?h62 ?h71 ?h80 ?h89 ?h98 ?g26 ?h27 ?x101 ?x102 ?x103 ?x104 ?x105 ?x106 ?x107 ?x108 ?w28
   (case tb0=>(first|k_is|kernel_rfl|decide +kernel))
   (case y1a=>k_is)
   (case y1b=>k_is)
   (case y1c=>k_is)
   (case y1d=>k_is)
   (case y1e=>k_is)
   (case y1n1=>k_is)
   (case y1n2=>k_is)
   (case y1m=>k_is)
   (case y1k=>k_is)
   (case u1=>wtm_at "mg")
   (case u2=>wtm_at "mg")
   (case u3=>wtm_at "mg")
   (case u4=>wtm_at "mg")
   (case u5=>wtm_at "mg")
   (case o1a=>k_is)
   (case o1b=>k_is)
   (case o1c=>k_is)
   (case o1d=>k_is)
   (case o1e=>k_exc)
   (case o1f=>k_is)
   (case d1=>wtm_at "dg")
   (case d2=>wtm_at "dg")
   (case d3=>wtm_at "dg")
   (case d4=>wtm_at "dg")
   (case d5=>wtm_at "dg")
   (case d6=>wtm_at "dg")
   (case d7=>wtm_at "dg")
   (case d8=>wtm_at "dg")
   (case d9=>wtm_at "dg")
   (case d10=>wtm_at "dg")
   (case d11=>wtm_at "dg")
   (case d12=>wtm_at "dg")
   (case d13=>wtm_at "dg")
   (case d14=>wtm_at "dg")
   (case d15=>wtm_at "dg")
   (case d16=>wtm_at "dg")
   (case d17=>wtm_at "dg")
   (case d18=>wtm_at "dg")
   (case d19=>wtm_at "dg")
   (case d20=>wtm_at "dg")
   (case d21=>wtm_at "dg")
   (case d22=>wtm_at "dg")
   (case d23=>wtm_at "dg")
   (case d24=>wtm_at "dg")
   (case d25=>wtm_at "dg")
   (case d26=>wtm_at "dg")
   (case d27=>wtm_at "dg")
   (case d28=>wtm_at "dg")
   (case d29=>wtm_at "dg")
   (case d30=>wtm_at "dg")
   (case d31=>wtm_at "dg")
   (case d32=>wtm_at "dg")
   (case d33=>wtm_at "dg")
   (case d34=>wtm_at "dg")
   (case d35=>wtm_at "dg")
   (case d36=>wtm_at "dg")
   (case d37=>wtm_at "dg")
   (case d38=>wtm_at "dg")
   (case d39=>wtm_at "dg")
   (case d40=>wtm_at "dg")
   (case d41=>wtm_at "dg")
   (case d42=>wtm_at "dg")
   (case d43=>wtm_at "dg")
   (case d44=>wtm_at "dg")
   (case d45=>wtm_at "dg")
   (case d46=>wtm_at "dg")
   (case d47=>wtm_at "dg")
   (case d48=>wtm_at "dg")
   (case d49=>wtm_at "dg")
   (case z1=>k_is)
   (case z2=>k_is)
   (case z3=>k_is)
   (case z4=>k_is)
   (case z5=>k_is)
   (case z6=>k_is)
   (case z7=>k_is)
   (case z8=>k_is)
   (case z9=>k_is)
   (case z10=>k_is)
   (case z11=>k_is)
   (case z12=>k_is)
   (case z13=>k_is)
   (case z14=>k_is)
   (case g2=>k_is)
   (case g12=>k_is)
   (case h7=>k_is)
   (case g21=>k_is)
   (case h17=>k_is)
   (case g23=>k_is)
   (case g26=>k_is)
   (case h27=>k_is)
   (case h35=>k_is)
   (case h44=>k_is)
   (case h53=>k_is)
   (case h62=>k_is)
   (case h71=>k_is)
   (case h80=>k_is)
   (case h89=>k_is)
   (case h98=>k_is)
   (case x101=>(first|rfl|k_is|fail))
   (case x102=>(first|rfl|k_is|fail))
   (case x103=>(first|rfl|k_is|fail))
   (case x104=>(first|rfl|k_is|fail))
   (case x105=>(first|rfl|k_is|fail))
   (case x106=>(first|rfl|k_is|fail))
   (case x107=>(first|rfl|k_is|fail))
   (case x108=>(first|rfl|k_is|fail))
   (case w28=>rfl)
end
