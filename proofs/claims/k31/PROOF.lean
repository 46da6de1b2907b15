import PyProof.Rows.All
import Wide.All
import OpenK.AllK
import Wide.FinOn
import PyProof.EqAt
import PyProof.EqKinds
import PyProof.TupleCall
import Lean
import PySem.Challenge.RW_samestride_k31_dump_begun_and_read
set_option Elab.async false
set_option linter.all false
set_option maxRecDepth 100000
open PySem.Str renaming ofString→Ω
open Bool renaming and_eq_true→Ωa
open List renaming getElem?_eq_some_iff→Ωb
open List renaming getElem?_set_ne→Ωc
open PySem.Heap renaming get?_push_of_some→Ωd
open List renaming getElem?_append_left→Ωe
open List renaming size_toArray→Ωf
open List renaming getElem?_eq_getElem→Ωg
open List renaming mem_cons_of_mem→Ωh
open List renaming mem_cons_self→Ωi
open PySem.Heap renaming get?_push_size→Ωj
open List renaming mem_of_getElem?→Ωk
open List renaming getElem?_set_self→Ωl
open List renaming getElem?_append_right→Ωm
open List renaming getElem?_map→Ωn
open Option renaming map_eq_some_iff→Ωo
open List renaming map_cons→Ωp
open Nat renaming le_refl→Ωq
open List renaming mem_cons→Ωr
open List renaming length_cons→Ωs
open Nat renaming lt_of_lt_of_le→Ωt
open Nat renaming ne_of_lt→Ωu
open List renaming mem_append_right→Ωv
open Bool renaming false_ne_true→Ωw
open List renaming mem_singleton→Ωx
open List renaming map_nil→Ωy
open List renaming append_assoc→Ωz
open List renaming length_append→ΩA
open List renaming nil_append→ΩB
open List renaming all_eq_true→ΩC
open List renaming mem_append→ΩD
open Nat renaming le_trans→ΩE
open List renaming lookup_cons→ΩF
open Bool renaming false_eq_true→ΩG
open Nat renaming lt_succ_self→ΩH
open List renaming sum_cons→ΩI
open List renaming getElem?_cons_zero→ΩJ
open List renaming getElem?_cons_succ→ΩK
section
open PySem PySem.W PyProof.Rows
set_option maxHeartbeats 0
namespace PySem.W.Fast
def tw4745621430928405568:=0
def tw977549859725639776:=0
def tw1670228556811885856:=0
def tw15761176125911734592:=0
def tw2854350575254769088:=0
def tw13376393673869991360:=0
def tw13012053605162815168:=0
def tw2238918238995018528:=0
def tw9806064376940324672:=0
def tw14209833031099387776:=0
def tw6175655554375656352:=0
def tw2819592538503489440:=0
def tw9685988202056634465:=0
def tw5680447167716606049:=0
def tw55875348452626561:=0
def tw17720493647759772801:=0
def tw11403249268047800673:=0
def tw6975910416240387457:=0
def tw12150511089907651009:=0
def tw17754726851644576193:=0
def tw4866022830261667297:=0
def tw2651289578673846817:=0
def tw7809323655686355553:=0
def tw18430151844778562337:=0
def tw15847304900229321665:=0
def tw2078959197728993249:=0
def tw8473455889258304546:=0
def tw10688243869520774178:=0
def tw10809904308135105666:=0
def tw6961115882986529922:=0
def tw3676129783643104482:=0
def tw507662992611479842:=0
def tw13167344891430172002:=0
def tw5992723692063037826:=0
def tw5235897720892410306:=0
def tw2576322841101841954:=0
def tw15068748629510523586:=0
def tw11685862693417710370:=0
def tw15139973328636191618:=0
def tw216259022657430402:=0
def tw14509747328076171138:=0
def tw3606798992162263010:=0
def tw10214071051291519043:=0
def tw5269452012018916547:=0
def tw578920810316466499:=0
def tw3730648612025483587:=0
def tw12008981671641390435:=0
def tw17850411558297558627:=0
def tw16694098327761830563:=0
def tw6845857924851517155:=0
def tw3918340117760697059:=0
def tw13352192854146633475:=0
def tw4144305447570473795:=0
def tw16538297068742108995:=0
def tw7423421986163696547:=0
def tw8444133287802864644:=0
def tw9528517351684975716:=0
def tw16332959413397214500:=0
def tw17462383307840775620:=0
def tw7551332031839480292:=0
def tw2173488388793930340:=0
def tw9108685196856091236:=0
def tw3780391480969667204:=0
def tw13950206354866538276:=0
def tw14408977399101909828:=0
def tw16896880439935855588:=0
def tw3625423831574263845:=0
def tw13963207714233936069:=0
def tw17518869391401043173:=0
def tw116660236016791877:=0
def tw15229231354967123269:=0
def tw10173255742839099845:=0
def tw8468829807565930053:=0
def tw2471028496622374469:=0
def tw4897483194167275109:=0
def tw15205593059516620421:=0
def tw15585849533744200325:=0
def tw13732511819182045893:=0
def tw8393315244622794565:=0
def tw17084332774031331173:=0
def tw1580421888629530501:=0
def tw1889652534586557381:=0
def tw7945964592185017414:=0
def tw930325942434250854:=0
def tw9601629544436838534:=0
def tw9082256306513305766:=0
def tw18353440798321251494:=0
def tw7207688893257796774:=0
def tw5596503554227015206:=0
def tw12191529679141486118:=0
def tw2221651028555947590:=0
def tw14733359506101356166:=0
def tw13543815557787615910:=0
def tw1142162886874522278:=0
def tw3813635093069988550:=0
def tw5348886426447004646:=0
def tw5002437437940992998:=0
def tw3256691523225497639:=0
def tw5937643201368821831:=0
def tw13945423774851413159:=0
def tw15988530590023110887:=0
def tw2699263735964713351:=0
def tw6650584567336958375:=0
def tw13992061897529643527:=0
def tw9510910189459427879:=0
def tw4239940732325394087:=0
def tw4437270753938220743:=0
def tw18159858734471982951:=0
def tw215371257487140743:=0
def tw6913378467022138279:=0
def tw17170313209532906439:=0
def tw17328141249758274535:=0
def tw11175735181392701576:=0
def tw2236328961577636040:=0
def tw17160479381308176936:=0
def tw9056016899120859752:=0
def tw18386774931664870248:=0
def tw13656743398858982312:=0
def tw6417694848140363720:=0
def tw4267560291749448648:=0
def tw8763291485381950440:=0
def tw17371642902958819369:=0
def tw11816564898847003753:=0
def tw10985585017677595753:=0
def tw7204919383959452809:=0
def tw6639061406923017:=0
def tw7477711818587057577:=0
def tw9994394829842025033:=0
def tw2961410560943212105:=0
def tw17999278817325329097:=0
def tw17455289541486464713:=0
def tw11519544528577861481:=0
def tw16376715254439981258:=0
def tw15748629890341060010:=0
def tw17759820576490733002:=0
def tw7281312432385646154:=0
def tw14371070704576611946:=0
def tw14870884065760578154:=0
def tw10429009890159340234:=0
def tw6131039777250596618:=0
def tw6235843050719401770:=0
def tw11831503578133604138:=0
def tw463003607727428426:=0
def tw1129960425710379914:=0
def tw6945687637723642794:=0
def tw14447300541453723659:=0
def tw18225072049830862859:=0
def tw4223183026779640907:=0
def tw7875628790083526827:=0
def tw17218135015684434091:=0
def tw2531530874007254219:=0
def tw10544701998054794539:=0
def tw17241390886888214923:=0
def tw4931228095666068939:=0
def tw17707659550304439787:=0
def tw16213681454964316715:=0
def tw14769685223190926987:=0
def tw7702191155930798763:=0
def tw388366702975232843:=0
def tw3357299594040680267:=0
def tw5182419459807209451:=0
def tw12993720809802105868:=0
def tw14021568254784903244:=0
def tw7965296432508779724:=0
def tw11260133358533741900:=0
def tw9160502653151210860:=0
def tw1738443782324569484:=0
def tw16085546681917257228:=0
def tw5957679787765937740:=0
def tw11558339492428187244:=0
def tw11929618354987478764:=0
def tw14486713778917712652:=0
def tw12056784549450038220:=0
def tw632649956986178508:=0
def tw8654930521914226733:=0
def tw9410604803645321293:=0
def tw14506830368628636781:=0
def tw11822437359760597133:=0
def tw7097335873652460717:=0
def tw11689092551568666925:=0
def tw16270290345166192941:=0
def tw14399915123520918093:=0
def tw4928476860230324941:=0
def tw15607429486483249901:=0
def tw11563130855605492493:=0
def tw2446146796071318381:=0
def tw214474506464592749:=0
def tw7907658412071472302:=0
def tw2640555061333054798:=0
def tw8744735690463442318:=0
def tw10691490915210839438:=0
def tw15075032054849834446:=0
def tw7113783233390916270:=0
def tw9390820970105412366:=0
def tw9272192288243301134:=0
def tw10814380444109408046:=0
def tw9578236075440237454:=0
def tw689409293549371278:=0
def tw17762693426666350607:=0
def tw4251368099462130767:=0
def tw395337061112209679:=0
def tw15732615313747210543:=0
def tw3856977603648346511:=0
def tw12992565581317415439:=0
def tw13588649228571919919:=0
def tw11749807344355099215:=0
def tw6933451252424241807:=0
def tw6006054849998703343:=0
def tw8176588253927471887:=0
def tw5111583000420437999:=0
def tw17539663436622153711:=0
def tw9208217344857773104:=0
def tw2471992322414962736:=0
def tw9860385244125959248:=0
def tw275127307903939856:=0
def tw777809003980787024:=0
def tw4097046611452325232:=0
def tw60268197102217680:=0
def tw816805274837271024:=0
def tw10807230640765679088:=0
def tw9212407508362267248:=0
def tw3713598358182227632:=0
def tw6648672195178912496:=0
def tw7449114803434941296:=0
def tw9527913982809696176:=0
def tw6662780529687023600:=0
def tw6002556666982482961:=0
def tw12532926726725076177:=0
def tw4460580319513789713:=0
def tw15746324303246649649:=0
def tw79097206425751889:=0
def tw1063858600746379633:=0
def tw1371192545735642513:=0
def tw9528673835784451505:=0
def tw5980325144932080145:=0
def tw8902216140421601841:=0
def tw4636918503500173873:=0
def tw17778639158161020529:=0
def tw6993157050910492401:=0
def tw15796461831947167537:=0
def tw4472670201405447057:=0
def tw9164086754915998641:=0
def tw7142333619473297361:=0
def tw4708105951615083538:=0
def tw12147005497393538066:=0
def tw6536416904751478802:=0
def tw13200058474358190226:=0
def tw13894345819789931666:=0
def tw2743378894334353586:=0
def tw8592716454497346738:=0
def tw14988001728213605618:=0
def tw12046511449326499090:=0
def tw17755986321442690418:=0
def tw9141575558003764626:=0
def tw8387876010010169810:=0
def tw11648497947231063538:=0
def tw3430601896538592754:=0
def tw13226720067842458098:=0
def tw18017674755473332754:=0
def tw1864128320909152818:=0
def tw17881217655640672818:=0
def tw2095171391874625330:=0
def tw8664350528599726994:=0
def tw2218855616298417138:=0
def tw8941216900072166483:=0
def tw1003454910381526163:=0
def tw11292081915097410739:=0
def tw6687493660072661267:=0
def tw11400586584080752947:=0
def tw6522288180463667539:=0
def tw13331901070266403187:=0
def tw15399512547711660531:=0
def tw9680743102060449299:=0
def tw10054408246119636531:=0
def tw3655639899664195187:=0
def tw14266353064783063763:=0
def tw8824710936534858483:=0
def tw3015114373162031891:=0
def tw7569545407590009747:=0
def tw2049315116973052851:=0
def tw18221875107982584787:=0
def tw17375382648708919348:=0
def tw5225270059992770772:=0
def tw3261541856565678324:=0
def tw1141225879275753844:=0
def tw6988214276511342036:=0
def tw12328687558210004:=0
def tw6739122619192814068:=0
def tw9038409642347447860:=0
def tw3402013590288520788:=0
def tw4781631358307814164:=0
def tw10650033094577537844:=0
def tw15576668269895700501:=0
def tw15477537992605629493:=0
def tw5734298416805706933:=0
def tw2500039021038688437:=0
def tw14478807348807049493:=0
def tw11266030418595257781:=0
def tw3479227911535802805:=0
def tw17249750980457618869:=0
def tw5471953479950683669:=0
def tw1997974384894040597:=0
def tw8498523248233980469:=0
def tw12673423401632230965:=0
def tw16699686878474826357:=0
def tw7775450088900106165:=0
def tw6550253733799102518:=0
def tw11166536275588153398:=0
def tw16234462889693105430:=0
def tw848536005120865846:=0
def tw12163308045875878614:=0
def tw988264262512765750:=0
def tw3781956908658128822:=0
def tw9944589621486752919:=0
def tw4090740621788636567:=0
def tw17710996254985328023:=0
def tw3073690962794387863:=0
def tw2616557816989858263:=0
def tw6672119244637167095:=0
def tw7086912431396657655:=0
def tw2300962969395223063:=0
def tw17637333822662526519:=0
def tw4441048874367058487:=0
def tw3043378442098283127:=0
def tw14924111457492071159:=0
def tw3246569600560150295:=0
def tw17278225292151380759:=0
def tw17112312156878942007:=0
def tw14796495965985309527:=0
def tw13870205710581660503:=0
def tw10977657447707011959:=0
def tw11329560005655027607:=0
def tw7979676103821411448:=0
def tw11992842220240056472:=0
def tw3975161658886532312:=0
def tw16675379364443536728:=0
def tw3100343998230783512:=0
def tw7491683856396650392:=0
def tw1757111401749413848:=0
def tw12089957956570575864:=0
def tw12124205770275447800:=0
def tw8460063246128736377:=0
def tw9417662479943345305:=0
def tw1371426000272605401:=0
def tw1009598062297048473:=0
def tw7789970748741417401:=0
def tw607129551363948985:=0
def tw7255944389691243097:=0
def tw13058764504791222041:=0
def tw11228432725917080505:=0
def tw16362243297199319001:=0
def tw5618258522360248313:=0
def tw8131655606046601274:=0
def tw1500202459104180282:=0
def tw5370326461988598874:=0
def tw1909953739993995450:=0
def tw13575308238184457466:=0
def tw16368047717383322906:=0
def tw10473746225686641946:=0
def tw5256718687149039930:=0
def tw15511873664894144954:=0
def tw4929590827293867482:=0
def tw7161876509320212282:=0
def tw1342597058051582842:=0
def tw8692706960064758682:=0
def tw11673945524208426970:=0
def tw6043658080417649658:=0
def tw14759930756635519994:=0
def tw10185308728584295515:=0
def tw5790261886329013339:=0
def tw9699283778283559035:=0
def tw2479168824176053403:=0
def tw2226693669517846715:=0
def tw18094782919683451099:=0
def tw18436077829537663227:=0
def tw218555140889123163:=0
def tw6064687819805718875:=0
def tw17315334874257026651:=0
def tw16705198351624706683:=0
def tw4540509363222066843:=0
def tw5684592828021602139:=0
def tw6400352568725237595:=0
def tw9759296434833159067:=0
def tw16807957564034230235:=0
def tw17811291618804340699:=0
def tw4343333250414728187:=0
def tw12477057720600293371:=0
def tw16035347819241931804:=0
def tw15812143693962397756:=0
def tw2194718167082519612:=0
def tw17022111329442743452:=0
def tw7460995857530326204:=0
def tw4742442308549329180:=0
def tw14130336221571183964:=0
def tw12995258411423844732:=0
def tw6586919451779505596:=0
def tw14554050780904373724:=0
def tw14307305130069876316:=0
def tw15903100367019391804:=0
def tw14040667811848280956:=0
def tw16265169383883474973:=0
def tw7938101414527612989:=0
def tw11800685882120139933:=0
def tw3302982296554303773:=0
def tw4669639362360478141:=0
def tw11459505394900437693:=0
def tw11320991168138468125:=0
def tw12017406930514997053:=0
def tw15421361400027825117:=0
def tw15905453698796665886:=0
def tw11880640153827719262:=0
def tw14438726412967840062:=0
def tw7976730470031712702:=0
def tw10681623807172749918:=0
def tw4556375010677166718:=0
def tw8627092602876383902:=0
def tw14600495329028199230:=0
def tw5478748306315508734:=0
def tw9111048435968842783:=0
def tw14136095586711403551:=0
def tw17134383465002017919:=0
def tw6738020219235494239:=0
def tw3563479996521112991:=0
def tw10690584288244885951:=0
def tw8586347288778309087:=0
def tw14893182475190395423:=0
def tw8073355676681722399:=0
def tw16334923643975882431:=0
def tw5739631272810024767:=0
def tw3689410904026048424:=0
def tw7656904676617870474:=0
end PySem.W.Fast
open_top K31hd for PySem.Challenge.rw_samestride_k31_dump_begun_and_read
end
section
namespace L2
open PySem PySem.Spec PyProof.Rows
noncomputable abbrev Key:=Sum Int Str
noncomputable def keyIs:Key→Value→Bool
 | .inl k,v=>Value.isInt k v
 | .inr x,v=>Value.isStrOf x v
noncomputable def keyH(w:World):Key→Int
 | .inl k=>hashInt k
 | .inr x=>hashStr w x
theorem keyIs_shape:∀ {k:Key}{v:Value},keyIs k v=true→(∃ i t,k=Sum.inl i∧v=Value.int i t)∨(∃ x t,k=Sum.inr x∧v=Value.str x t)
 | .inl i,v,h=>by
   obtain ⟨t,e⟩:=Value.isInt_shape (k:=i) (v:=v) h
   exact .inl ⟨i,t,rfl,e⟩
 | .inr x,v,h=>by
   obtain ⟨t,e⟩:=Value.isStrOf_shape (x:=x) (v:=v) h
   exact .inr ⟨x,t,rfl,e⟩
theorem keyIs_int(i:Int)(t:Tok):keyIs (.inl i) (.int i t)=true:=by simp [keyIs,Value.isInt]
theorem keyIs_str(x:Str)(t:Tok):keyIs (.inr x) (.str x t)=true:=by simp [keyIs,Value.isStrOf]
theorem key_ll(a b:Int):decide ((Sum.inl a:Key)=Sum.inl b)=(a==b):=by
 by_cases e:a=b
 · subst e;simp
 · have h:¬ (Sum.inl a:Key)=Sum.inl b:=fun q=>e (Sum.inl.inj q)
   rw [decide_eq_false h]
   exact (beq_eq_false_iff_ne.mpr e).symm
theorem key_rr(a b:Str):decide ((Sum.inr a:Key)=Sum.inr b)=decide (a=b):=by
 by_cases e:a=b
 · subst e;simp
 · have h:¬ (Sum.inr a:Key)=Sum.inr b:=fun q=>e (Sum.inr.inj q)
   rw [decide_eq_false h,decide_eq_false e]
theorem key_lr(a:Int)(b:Str):decide ((Sum.inl a:Key)=Sum.inr b)=false:=decide_eq_false (fun q=>nomatch q)
theorem key_rl(a:Str)(b:Int):decide ((Sum.inr a:Key)=Sum.inl b)=false:=decide_eq_false (fun q=>nomatch q)
noncomputable def mixKind(prog:Program)(w:World):PySem.KeyKind prog w Key where
 is:=keyIs
 hash:=keyH w
 inj:=fun v a b ha hb=>by
   rcases keyIs_shape ha with ⟨i,t,rfl,rfl⟩|⟨x,t,rfl,rfl⟩
   · rcases keyIs_shape hb with ⟨j,u,rfl,e⟩|⟨y,u,rfl,e⟩
     · injection e with e1 _;rw [e1]
     · exact nomatch e
   · rcases keyIs_shape hb with ⟨j,u,rfl,e⟩|⟨y,u,rfl,e⟩
     · exact nomatch e
     · injection e with e1 _;rw [e1]
 byValue:=fun k v h=>by
   rcases keyIs_shape h with ⟨i,t,rfl,rfl⟩|⟨x,t,rfl,rfl⟩<;>rfl
 pyHash:=fun hv h=>by
   rcases keyIs_shape hv with ⟨i,t,rfl,rfl⟩|⟨x,t,rfl,rfl⟩
   · exact wpAny_pyHash_int h
   · exact wpAny_pyHash_str h
 eqBool:=fun hu hv h=>by
   rcases keyIs_shape hu with ⟨i,t,rfl,rfl⟩|⟨x,t,rfl,rfl⟩
   · rcases keyIs_shape hv with ⟨j,u,rfl,rfl⟩|⟨y,u,rfl,rfl⟩
     · rw [key_ll] at h;exact wpAny_eqBool_int h
     · rw [key_lr] at h;exact SeqAt.EqAt.int_str i t y u _ _ _ _ h
   · rcases keyIs_shape hv with ⟨j,u,rfl,rfl⟩|⟨y,u,rfl,rfl⟩
     · rw [key_rl] at h;exact SeqAt.EqAt.str_int x t j u _ _ _ _ h
     · rw [key_rr] at h;exact wpAny_eqBool_str h
 «strs»:=fun k x t v h=>by
   rcases keyIs_shape h with ⟨i,u,rfl,e⟩|⟨y,u,rfl,e⟩
   · exact nomatch e
   · injection e with e1 _
     subst e1
     cases v<;>rfl
theorem mixKind_int(prog:Program)(w:World)(i:Int)(t:Tok):(mixKind prog w).is (.inl i) (.int i t)=true:=keyIs_int i t
theorem mixKind_str(prog:Program)(w:World)(x:Str)(t:Tok):(mixKind prog w).is (.inr x) (.str x t)=true:=keyIs_str x t
end L2
namespace L2
open PySem PySem.Spec PyProof.Rows
inductive V where
 | non|bl (b:Bool)|int (i:Int)|str (x:Str)|byt (b:Array UInt8)|flt (b:UInt64)|ref (a:Addr)|ty (n:String)
 deriving DecidableEq
noncomputable def RelV:V→Value→Prop
 | .non,u=>u=Value.none
 | .bl b,u=>u=Value.bool b
 | .int i,u=>∃ t,u=Value.int i t
 | .str x,u=>∃ t,u=Value.str x t
 | .byt b,u=>∃ t,u=Value.bytes b t
 | .flt b,u=>∃ t,u=Value.float b t
 | .ref a,u=>u=Value.ref a
 | .ty n,u=>u=Value.type n
noncomputable abbrev Vals:List V→List Value→Prop:=Paired RelV
theorem Vals.length{xs:List V}{us:List Value}(r:Vals xs us):xs.length=us.length:=Paired.length r
theorem Vals.get:∀ {xs:List V}{us:List Value}{i:Nat}{x:V},Vals xs us→xs[i]? = some x→∃ u,us[i]? = some u∧RelV x u
 | _,_,_,_,.nil,e=>by simp at e
 | _,_,0,_,.cons r _,e=>by simp at e;subst e;exact ⟨_,rfl,r⟩
 | _,_,i+1,x,.cons _ t,e=>by
   obtain ⟨u,h1,h2⟩:=Vals.get (i:=i) (x:=x) t (by simpa using e)
   exact ⟨u,by simpa using h1,h2⟩
theorem Vals.set{x:V}{u:Value}(r:RelV x u):∀ {xs:List V}{us:List Value} (i:Nat),Vals xs us→Vals (xs.set i x) (us.set i u)
 | _,_,_,.nil=>.nil
 | _,_,0,.cons _ t=>.cons r t
 | _,_,i+1,.cons q t=>.cons q (Vals.set r i t)
theorem Vals.append:∀ {xs ys:List V}{us ws:List Value},Vals xs us→Vals ys ws→Vals (xs++ys) (us++ws)
 | _,_,_,_,.nil,s=>s
 | _,_,_,_,.cons r t,s=>.cons r (Vals.append t s)
theorem Vals.take:∀ {xs:List V}{us:List Value} (n:Nat),Vals xs us→Vals (xs.take n) (us.take n)
 | _,_,0,_=>.nil
 | _,_,_+1,.nil=>.nil
 | _,_,n+1,.cons r t=>.cons r (Vals.take n t)
theorem Vals.drop:∀ {xs:List V}{us:List Value} (n:Nat),Vals xs us→Vals (xs.drop n) (us.drop n)
 | _,_,0,r=>r
 | _,_,_+1,.nil=>.nil
 | _,_,n+1,.cons _ t=>Vals.drop n t
noncomputable def RelO:Option V→Option Value→Prop
 | some v,some u=>RelV v u
 | none,none=>True
 | _,_=>False
noncomputable def KV{κ:Type}:List (κ×V)→List (κ×Value)→Prop:=Paired fun (p:κ×V) (q:κ×Value)=>p.1=q.1∧RelV p.2 q.2
noncomputable def kV:Key→V
 | .inl i=>.int i
 | .inr x=>.str x
inductive HO where
 | lst (xs:List V)
 | tup (xs:List V)
 | dK (kvs:List (Key×V))|dT (kvs:List (List Key×V))
 | set (S:Int→Bool) (n:Nat)
 | ins (C dx:Addr) (fs:List (Str×V))
 | own (x:Addr)
 | xd (fs:List (Str×V))
 | met (f x:Addr)
 | rng (lo hi:Int)
 | frz (o:Obj) (u:HO)
 | tbl (ps:Array Value)
 | ext (φ:Heap→Prop)
noncomputable abbrev Hp:=Addr→Option HO
noncomputable def upd(H:Hp)(a:Addr)(o:HO):Hp:=fun b=>if b=a then some o else H b
theorem upd_same{H:Hp}{a:Addr}{o:HO}:upd H a o a=some o:=by unfold upd;rw [if_pos rfl]
theorem upd_ne{H:Hp}{a b:Addr}{o:HO}(h:b≠a):upd H a o b=H b:=by unfold upd;rw [if_neg h]
theorem ne_of_none{H:Hp}{a b:Addr}{o:HO}(h:H a=some o)(h':H b=none):a≠b:=by
 intro e;subst e;rw [h] at h';cases h'
section
variable (P:Program) (w:World)
noncomputable def IsTupN (h:Heap) (a:Addr) (items:Array Value):Prop:=∃ o,h.get? a=some o∧o.cls=.type "tuple" ∧ o.dict=none∧∃ n,o.data=.seq items n
theorem IsTupN.tup{h:Heap}{a:Addr}{items:Array Value}(x:IsTupN h a items):IsTup h a items:=let ⟨o,ho,hc,_,r⟩:=x;⟨o,ho,hc,r⟩
theorem IsTupN.fresh (h:Heap) (items:Array Value):IsTupN (h.push {cls:=.type "tuple",data:=.seq items}) h.objs.size items:=⟨_,Ωj _ rfl,rfl,rfl,_,rfl⟩
noncomputable def ObjOk(H:Hp)(h:Heap)(a:Addr):HO→Prop
 | .lst xs=>xs.length≤sizeLine∧∃ (its:List Value) (n:Nat),Vals xs its∧h.get? a=some {cls:=.type "list",data:=.seq its.toArray n}
 | .tup xs=>xs.length≤sizeLine∧∃ its:List Value,Vals xs its∧IsTupN h a its.toArray
 | .dK kvs=>kvs.length≤sizeLine∧(a==sysModules)=false∧∃ vs,KV kvs vs∧h.DictOf (mixKind P w) a vs
 | .dT kvs=>kvs.length≤sizeLine∧(a==sysModules)=false∧∃ xs:List (List Key×Addr×Value),
     Paired (fun (p:List Key×V) (q:List Key×Addr×Value)=>p.1=q.1∧H q.2.1=some (.tup (p.1.map kV))∧RelV p.2 q.2.2) kvs xs ∧
     ∃ o es ep,h.get? a=some o∧o.ExactDict∧o.data=.dict es ep∧es.toList=xs.map (entryOfKey (tupleKind (mixKind P w)))∧(xs.map (·.1)).Nodup
 | .set S n=>h.SetOf (intKind P w) a S n
 | .ins C dx fs=>H dx=some (.own a)∧fs.length≤1000∧dx≠a∧h.get? a=some (PySem.W.instObj C dx) ∧
     ∃ mA,h.Ns1 dx mA∧(∀ f,RelO (fs.lookup f) (mA f))∧PySem.Within mA (fs.map (·.1))
 | .own _=>∃ o,h.get? a=some o
 | .xd fs=>∃ mA,h.Ns1 a mA∧∀ f,RelO (fs.lookup f) (mA f)
 | .rng lo hi=>∃ t u v,h.get? a=some {cls:=.type "range",data:=.fields #[.int lo t,.int hi u,.int 1 v]}
 | .frz o u=>h.get? a=some o∧ObjOk H h a u
 | .tbl ps=>h.get? a=some {cls:=.none,data:=.fields ps}
 | .met f x=>h.get? a=some (PySem.W.methodObj (.ref f) (.ref x))
 | .ext φ=>φ h∧(∃ o,h.get? a=some o)∧∀ h1 h2:Heap,φ h1→(∀ o,h1.get? a=some o→h2.get? a=some o)→φ h2
noncomputable def HOk(H:Hp)(h:Heap):Prop:=∀ a o,H a=some o→ObjOk P w H h a o
end
section
variable {P:Program}{w:World}{H H':Hp}{h h':Heap}{a:Addr}{o:HO}
theorem ObjOk.lt(x:ObjOk P w H h a o):a<h.objs.size:=by
 cases o with
 | lst xs=>obtain ⟨_,_,_,_,e⟩:=x;exact Heap.lt_size e
 | tup xs=>obtain ⟨_,_,_,p⟩:=x;exact p.tup.lt
 | dK kvs=>obtain ⟨_,_,_,_,o,_,_,e,_⟩:=x;exact Heap.lt_size e
 | dT kvs=>obtain ⟨_,_,_,_,o,_,_,e,_⟩:=x;exact Heap.lt_size e
 | set S n=>obtain ⟨o,_,_,_,e,_⟩:=x;exact Heap.lt_size e
 | ins C dx fs=>obtain ⟨_,_,_,e,_⟩:=x;exact Heap.lt_size e
 | own y=>obtain ⟨_,e⟩:=x;exact Heap.lt_size e
 | xd fs=>obtain ⟨_,⟨_,_,_,e,_⟩,_⟩:=x;exact Heap.lt_size e
 | rng lo hi=>obtain ⟨_,_,_,e⟩:=x;exact Heap.lt_size e
 | frz ob u=>obtain ⟨e,_⟩:=x;exact Heap.lt_size e
 | tbl ps=>exact Heap.lt_size (show h.get? a=some _ from x)
 | met f y=>exact Heap.lt_size (show h.get? a=some _ from x)
 | ext φ=>obtain ⟨_,⟨_,e⟩,_⟩:=x;exact Heap.lt_size e
theorem Paired.mapP{α β:Type}{F G:α→β→Prop}:∀ {l₁:List α}{l₂:List β},Paired F l₁ l₂→(∀ a b,F a b→G a b)→Paired G l₁ l₂
 | _,_,.nil,_=>.nil
 | _,_,.cons r t,f=>.cons (f _ _ r) (Paired.mapP t f)
theorem ObjOk.stay(x:ObjOk P w H h a o)(k:∀ b u,(b=a∨H b=some (.own a))→h.get? b=some u→h'.get? b=some u)
   (ho:∀ b,H b=some (.own a)→H' b=some (.own a)) (ht:∀ b xs,H b=some (.tup xs)→H' b=some (.tup xs)):ObjOk P w H' h' a o:=by
 induction o with
 | lst xs=>obtain ⟨z,its,n,r,e⟩:=x;exact ⟨z,its,n,r,k _ _ (.inl rfl) e⟩
 | tup xs=>obtain ⟨z,its,r,ob,e,c⟩:=x;exact ⟨z,its,r,ob,k _ _ (.inl rfl) e,c⟩
 | dK kvs=>obtain ⟨z,y,vs,r,ob,es,ep,e,c⟩:=x;exact ⟨z,y,vs,r,ob,es,ep,k _ _ (.inl rfl) e,c⟩
 | dT kvs =>
   obtain ⟨z,y,xs,r,ob,es,ep,e,c⟩:=x
   exact ⟨z,y,xs,Paired.mapP r fun p q z=>⟨z.1,ht _ _ z.2.1,z.2.2⟩,ob,es,ep,k _ _ (.inl rfl) e,c⟩
 | set S n=>obtain ⟨ob,es,ep,t,e,c⟩:=x;exact ⟨ob,es,ep,t,k _ _ (.inl rfl) e,c⟩
 | ins C dx fs =>
   obtain ⟨d,z,ne,e,mA,⟨od,es,ep,e2,c⟩,r⟩:=x
   exact ⟨ho _ d,z,ne,k _ _ (.inl rfl) e,mA,⟨od,es,ep,k _ _ (.inr d) e2,c⟩,r⟩
 | own y=>obtain ⟨ob,e⟩:=x;exact ⟨ob,k _ _ (.inl rfl) e⟩
 | xd fs=>obtain ⟨mA,⟨od,es,ep,e,c⟩,r⟩:=x;exact ⟨mA,⟨od,es,ep,k _ _ (.inl rfl) e,c⟩,r⟩
 | rng lo hi=>obtain ⟨t,u,v,e⟩:=x;exact ⟨t,u,v,k _ _ (.inl rfl) e⟩
 | frz ob u ih=>obtain ⟨e,q⟩:=x;exact ⟨k _ _ (.inl rfl) e,ih q⟩
 | tbl ps =>
   have e:h.get? a=some {cls:=.none,data:=.fields ps}:=x
   show h'.get? a=some {cls:=.none,data:=.fields ps}
   exact k a _ (.inl rfl) e
 | met f y =>
   have e:h.get? a=some (PySem.W.methodObj (.ref f) (.ref y)):=x
   show h'.get? a=some (PySem.W.methodObj (.ref f) (.ref y))
   exact k a _ (.inl rfl) e
 | ext φ=>obtain ⟨p,⟨o,e⟩,st⟩:=x;exact ⟨st _ _ p fun o q=>k _ _ (.inl rfl) q,⟨o,k _ _ (.inl rfl) e⟩,st⟩
theorem HOk.lt(x:HOk P w H h)(e:H a=some o):a<h.objs.size:=(x a o e).lt
theorem HOk.fresh(x:HOk P w H h)(e:h.objs.size≤a):H a=none:=by
 cases q:H a with
 | none=>rfl
 | some u=>exact absurd (Ωt (x.lt q) e) (Nat.lt_irrefl _)
theorem HOk.kept(x:HOk P w H h)(k:∀ b u,h.get? b=some u→h'.get? b=some u):HOk P w H h':=fun a o e =>
 (x a o e).stay (fun b u _ q=>k b u q) (fun _ q=>q) fun _ _ q=>q
theorem HOk.laid(x:HOk P w H h)(k:∀ b u,h.get? b=some u→h'.get? b=some u)(hp:h.objs.size≤a)(new:ObjOk P w (upd H a o) h' a o):HOk P w (upd H a o) h':=fun b u e=>by
 have hn:=x.fresh hp
 by_cases hb:b=a
 · subst hb;rw [upd_same] at e;cases e;exact new
 · rw [upd_ne hb] at e
   exact (x b u e).stay (fun c v _ q=>k c v q) (fun c q=>by rw [upd_ne (ne_of_none q hn)];exact q) fun c xs q=>by rw [upd_ne (ne_of_none q hn)];exact q
end
noncomputable def Rd(H:Hp)(a:Addr)(u:HO):Prop:=H a=some u∨∃ o,H a=some (.frz o u)
theorem Rd.ok{P:Program}{w:World}{H:Hp}{h:Heap}{a:Addr}{u:HO}(r:Rd H a u)(x:HOk P w H h):ObjOk P w H h a u:=by
 rcases r with r|⟨o,r⟩
 · exact x a u r
 · obtain ⟨_,q⟩:=x a _ r
   exact q
noncomputable def Mut:Option HO→Prop
 | some (.lst _)=>True
 | some (.dK _)=>True
 | some (.dT _)=>True
 | some (.set _ _)=>True
 | some (.ins _ _ _)=>True
 | some (.ext _)=>True
 | _=>False
section
variable {P:Program}{w:World}{H:Hp}{h h':Heap}{x e:Addr}{o':HO}
theorem HOk.write(ok:HOk P w H h)(mu:Mut (H x))(he:e=x∨H e=some (.own x))(k:∀ b u,b≠e→h.get? b=some u→h'.get? b=some u)(heo:∃ u,h'.get? e=some u)
   (new:ObjOk P w (upd H x o') h' x o'):HOk P w (upd H x o') h':=fun b u q=>by
 have nown:∀ c y,H c=some (.own y)→c≠x:=fun c y r z=>by subst z;rw [r] at mu;exact mu
 have ntup:∀ c xs,H c=some (.tup xs)→c≠x:=fun c xs r z=>by subst z;rw [r] at mu;exact mu
 by_cases hb:b=x
 · subst hb;rw [upd_same] at q;cases q;exact new
 · rw [upd_ne hb] at q
   by_cases hbe:b=e
   · have q':H b=some (.own x):=by
       rcases he with z|z
       · exact absurd (hbe.trans z) hb
       · rw [hbe];exact z
     rw [q] at q';cases q'
     obtain ⟨v,hv⟩:=heo
     exact ⟨v,by rw [hbe];exact hv⟩
   · refine (ok b u q).stay (fun c v hc r=>k c v ?_ r) (fun c r=>by rw [upd_ne (nown c b r)];exact r) fun c xs r=>by rw [upd_ne (ntup c xs r)];exact r
     rcases hc with rfl|hc
     · exact hbe
     · rintro rfl
       rcases he with z|z
       · exact nown c b hc z
       · rw [hc] at z;cases z;exact hb rfl
end
structure Un(fs ex:List Addr)(H H':Hp)(h h':Heap):Prop where
 keep:∀ b o,h.get? b=some o→H b=none→b ∉ fs→b ∉ ex→h'.get? b=some o
 slot:∀ b o,h.get? b=some o→H b=none→b∈fs→b ∉ ex→∃ sl,h'.get? b=some {o with slots:=sl}
 free:∀ b o,h.get? b=some o→H b=none→b ∉ ex→H' b=none
 there:∀ b o,h.get? b=some o→b ∉ ex→∃ o',h'.get? b=some o'
 tups:∀ b xs,H b=some (.tup xs)→H' b=some (.tup xs)
 frzs:∀ b o u,H b=some (.frz o u)→H' b=some (.frz o u)
 tbls:∀ b ps,H b=some (.tbl ps)→∃ more,H' b=some (.tbl (ps++more))
section
variable {fs fs' ex ex':List Addr}{H H1 H2:Hp}{h h1 h2 h':Heap}{a x e:Addr}{o:HO}
theorem Un.any(u:Un fs ex H H1 h h1){b:Addr}{ob:Obj}(q:h.get? b=some ob)(n:H b=none)(hx:b ∉ ex):∃ sl,h1.get? b=some {ob with slots:=sl}:=by
 by_cases hb:b∈fs
 · exact u.slot b ob q n hb hx
 · exact ⟨ob.slots,u.keep b ob q n hb hx⟩
theorem Un.kept(k:∀ b u,h.get? b=some u→h'.get? b=some u):Un fs ex H H h h' :=
 ⟨fun b ob q _ _ _=>k b ob q,fun b ob q _ _ _=>⟨ob.slots,k b ob q⟩,fun _ _ _ n _=>n,fun b ob q _=>⟨ob,k b ob q⟩,fun _ _ q=>q,fun _ _ _ q=>q,fun _ ps q=>⟨#[],by rw [q];simp⟩⟩
theorem Un.refl:Un fs ex H H h h:=Un.kept fun _ _ q=>q
theorem Un.laid(k:∀ b u,h.get? b=some u→h'.get? b=some u)(hp:h.objs.size≤a)(hn:H a=none):Un fs ex H (upd H a o) h h' where
 keep:=fun b u q _ _ _=>k b u q
 slot:=fun b u q _ _ _=>⟨u.slots,k b u q⟩
 free:=fun b u q n _=>by rw [upd_ne (Ωu (Ωt (Heap.lt_size q) hp))];exact n
 there:=fun b u q _=>⟨u,k b u q⟩
 tups:=fun b xs q=>by rw [upd_ne (ne_of_none q hn)];exact q
 frzs:=fun b u xs q=>by rw [upd_ne (ne_of_none q hn)];exact q
 tbls:=fun b ps q=>⟨#[],by rw [upd_ne (ne_of_none q hn),q];simp⟩
theorem Un.write(mu:Mut (H x))(he:e=x∨H e=some (.own x))(k:∀ b u,b≠e→h.get? b=some u→h'.get? b=some u)(heo:∃ u,h'.get? e=some u):Un fs ex H (upd H x o) h h':=by
 have hx:∀ b,H b=none→b≠x:=fun b n z=>by subst z;rw [n] at mu;exact mu
 have hb:∀ b,H b=none→b≠e:=fun b n z=>by
   subst z
   rcases he with r|r
   · exact hx b n r
   · rw [n] at r;cases r
 have hm:∀ b u,H b=some u→¬ Mut (some u)→b≠x:=fun b u q nm z=>by subst z;rw [q] at mu;exact nm mu
 refine ⟨fun b u q n _ _=>k b u (hb b n) q,fun b u q n _ _=>⟨u.slots,k b u (hb b n) q⟩,fun b u q n _=>by rw [upd_ne (hx b n)];exact n,fun b u q _=>?_,
   fun b xs q=>by rw [upd_ne (hm b _ q fun z=>z)];exact q,fun b u xs q=>by rw [upd_ne (hm b _ q fun z=>z)];exact q,fun b ps q=>⟨#[],by rw [upd_ne (hm b _ q fun z=>z),q];simp⟩⟩
 by_cases hbe:b=e
 · subst hbe;exact heo
 · exact ⟨u,k b u hbe q⟩
end
noncomputable def trk(h:Heap)(H:Hp):List Addr:=(List.range h.objs.size).filter fun a=>(H a).isSome
noncomputable def hidT(h:Heap)(H:Hp):Heap:=PySem.W.hideAll h (trk h H)
theorem hidT_size(h:Heap)(H:Hp):(hidT h H).objs.size=h.objs.size:=PySem.W.hideAll_size _ _
theorem hidT_get{h:Heap}{H:Hp}{b:Addr}{o:Obj}(e:h.get? b=some o)(n:H b=none):(hidT h H).get? b=some o :=
 PySem.W.hideAll_get _ e fun hm=>by
   have q:(H b).isSome=true:=(List.mem_filter.mp hm).2
   rw [n] at q;simp at q
theorem of_hidT{h:Heap}{H:Hp}{b:Addr}{o:Obj}(e:(hidT h H).get? b=some o):h.get? b=some o∧H b=none:=by
 have e':h.get? b=some o:=PySem.W.of_hideAll (trk h H) e
 refine ⟨e',?_⟩
 cases q:H b with
 | none=>rfl
 | some x =>
   have hm:b∈trk h H:=List.mem_filter.mpr ⟨List.mem_range.mpr (Heap.lt_size e'),by simp [q]⟩
   have z:(hidT h H).get? b=none:=PySem.W.hideAll_none (trk h H) hm
   rw [z] at e;cases e
end L2
namespace L2
open PySem PySem.Spec PyProof.Rows
structure Mod(K:PySem.W.Frag)(mg:Str→Option Value)(base:Heap):Prop where
 kin:K.In base
 glob:base.Ns mainGlobals mg
 blt:∃ mb,base.Ns builtinsNs mb∧∀ x:Str,x ≠ "__name__" → mb x=bootBuiltins x
 nolimit:base.NoLimit
structure Cx where
 prog:Program
 w:World
 K:PySem.W.Frag
 mg:Str→Option Value
 base:Heap
 A:Around
 N:List Str
 s₀:Shared
 H₀:Hp
 env:Env
 outer:List Env
 stack:List Env
 ex:List Addr
 fn:Str→Bool
 calm:Bool
 pn:List (Addr×Obj)
 xe:Value→Shared→Prop
noncomputable def frs(l:List Env):List Addr:=l.filterMap (·.frame)
noncomputable abbrev Cx.fs(X:Cx):List Addr:=frs X.outer
noncomputable def Vis(sc:Scope)(x:Str):Prop:=sc.names.lookup x=some .local∨sc.names.lookup x=some .cell∨sc.names.lookup x=some .free
noncomputable def Loc(sc:Scope)(x:Str):Prop:=sc.names.lookup x=some .local∨sc.names.lookup x=some .cell
noncomputable def Look(env:Env)(h:Heap)(m:Str→Option Value)(x:Str)(u:Value):Prop :=
 (env.kindOf x=some .local∧m x=some u)∨((env.kindOf x=some .cell∨env.kindOf x=some .free)∧∃ c,env.cells.lookup x=some c∧h.IsCell c (some u))
structure Cx.Ok(X:Cx):Prop where
 mod:Mod X.K X.mg X.base
 kind:X.env.scope.kind=.function
 glob:X.env.globals=mainGlobals
 blt:X.env.builtins=builtinsNs
 above:X.s₀.heap.objs.size≤X.env.locals
 inj:∀ x y c,X.env.cells.lookup x=some c→X.env.cells.lookup y=some c→x=y
 has:∀ x,(X.env.kindOf x=some .cell∨X.env.kindOf x=some .free)→∃ c,X.env.cells.lookup x=some c
 cab:∀ x c,X.fn x=true→X.env.cells.lookup x=some c→X.s₀.heap.objs.size≤c
 hd:X.calm=true→X.A.handled=none
 frames:X.A.frames=some X.stack
 stk:X.stack=X.outer∨(X.stack=X.env::X.outer∧X.env.frame=some X.env.locals)
 exf:∀ b∈X.ex,b≠X.env.locals∧∀ x c,X.env.cells.lookup x=some c→c≠b
 bs:∀ b o,X.base.get? b=some o→X.s₀.heap.get? b=some o∧X.H₀ b=none
 bsz:X.base.objs.size≤X.s₀.heap.objs.size
 noex:∀ b o,X.base.get? b=some o→b ∉ X.ex
 exfs:∀ b∈X.ex,b ∉ X.fs
 funs:X.s₀.heap.FunFrames X.base X.outer
 frf:∀ b∈X.fs,X.H₀ b=none
structure Inv(X:Cx)(pins:List (Addr×Obj))(σ:List (Option V))(H:Hp)(s:Shared):Prop where
 ok:X.Ok
 os:s.os=X.s₀.os
 bare:AllBare s.gens
 base:Un X.fs X.ex X.H₀ H X.s₀.heap s.heap
 loc:∃ m,s.heap.Ns X.env.locals m∧∀ (i:Nat) (x:Str) (v:V),X.N[i]? = some x→σ[i]? = some (some v)→Vis X.env.scope x→∃ u,RelV v u∧Look X.env s.heap m x u
 cell:∀ x c,X.env.cells.lookup x=some c→∃ v,s.heap.IsCell c v
 free:H X.env.locals=none
 freeC:∀ x c,X.env.cells.lookup x=some c→H c=none
 pin:∀ p∈X.pn++pins,s.heap.get? p.1=some p.2∧H p.1=none∧p.1≠X.env.locals∧p.1 ∉ X.fs∧∀ v,p.2.data≠.cell v
 hok:HOk X.prog X.w H s.heap
 len:σ.length=X.N.length
section
variable {X:Cx}{pins:List (Addr×Obj)}{σ:List (Option V)}{H H':Hp}{s:Shared}{h':Heap}
theorem Cx.Ok.nofr(ok:X.Ok){b:Addr}{o:Obj}(e:X.base.get? b=some o):b ∉ X.fs:=fun hb=>by
 have:=(ok.funs.mem hb).1
 rw [e] at this;cases this
theorem Inv.bs(I:Inv X pins σ H s):∀ b o,X.base.get? b=some o→s.heap.get? b=some o∧H b=none:=fun b o e =>
 ⟨I.base.keep b o (I.ok.bs b o e).1 (I.ok.bs b o e).2 (I.ok.nofr e) (I.ok.noex b o e),I.base.free b o (I.ok.bs b o e).1 (I.ok.bs b o e).2 (I.ok.noex b o e)⟩
theorem Inv.bk(I:Inv X pins σ H s):∀ b o,X.base.get? b=some o→s.heap.get? b=some o:=fun b o e=>(I.bs b o e).1
theorem Inv.mod(I:Inv X pins σ H s):Mod X.K X.mg X.base:=I.ok.mod
theorem Inv.kIn(I:Inv X pins σ H s):X.K.In s.heap:=I.ok.mod.kin.keeps I.bk
theorem Inv.lt(I:Inv X pins σ H s):X.env.locals<s.heap.objs.size:=let ⟨_,hn,_⟩:=I.loc;hn.lt
theorem Inv.sz(I:Inv X pins σ H s):X.s₀.heap.objs.size≤s.heap.objs.size:=ΩE I.ok.above (Nat.le_of_lt I.lt)
theorem Inv.nofs(I:Inv X pins σ H s){a:Addr}(h:s.heap.objs.size≤a):a ∉ X.fs:=fun hb=>by
 obtain ⟨_,o,ho,_⟩:=I.ok.funs.mem hb
 exact absurd (Ωt (Heap.lt_size ho) (ΩE I.sz h)) (Nat.lt_irrefl _)
theorem Inv.cne(I:Inv X pins σ H s):∀ x c,X.env.cells.lookup x=some c→c≠X.env.locals:=fun x c e z=>by
 obtain ⟨v,o,ho,hd⟩:=I.cell x c e
 obtain ⟨m,⟨o',es,ep,ho',hd',_⟩,_⟩:=I.loc
 rw [z,ho'] at ho;cases ho;rw [hd'] at hd;cases hd
theorem Inv.funs(I:Inv X pins σ H s):s.heap.FunFrames X.base X.outer:=by
 have all:∀ (l:List Env),(∀ b∈frs l,b∈X.fs)→X.s₀.heap.FunFrames X.base l→s.heap.FunFrames X.base l:=by
   intro l
   induction l with
   | nil=>intro _ _;trivial
   | cons env r ih =>
     intro hs hl
     obtain ⟨hk,⟨L,o,hf,hn,ho,hd⟩,hr⟩:=hl
     have hL:L∈X.fs:=hs L (by unfold frs;rw [List.filterMap_cons,hf];exact Ωi)
     obtain ⟨sl,e⟩:=I.base.slot L o ho (I.ok.frf L hL) hL fun z=>I.ok.exfs L z hL
     exact ⟨hk,⟨L,_,hf,hn,e,hd⟩,ih (fun b hb=>hs b (by unfold frs;rw [List.filterMap_cons,hf];exact Ωh _ hb)) hr⟩
 exact all X.outer (fun _ hb=>hb) I.ok.funs
theorem Inv.stack(I:Inv X pins σ H s):s.heap.FunFrames X.base X.stack:=by
 rcases I.ok.stk with e|⟨e,hf⟩
 · rw [e];exact I.funs
 · rw [e]
   obtain ⟨m,hn,_⟩:=I.loc
   refine .cons (by rw [I.ok.kind];decide) hf hn ?_ I.funs
   exact Heap.get?_none_of_le (ΩE I.ok.bsz I.ok.above)
theorem Inv.stkSub(I:Inv X pins σ H s):∀ b∈frs X.stack,b∈X.env.locals::X.fs:=fun b hb=>by
 rcases I.ok.stk with e|⟨e,hf⟩
 · rw [e] at hb;exact Ωh _ hb
 · rw [e] at hb
   unfold frs at hb
   rw [List.filterMap_cons,hf] at hb
   exact hb
theorem Inv.stkFree(I:Inv X pins σ H s):∀ b∈frs X.stack,H b=none:=fun b hb=>by
 rcases Ωr.mp (I.stkSub b hb) with e|hb
 · rw [e];exact I.free
 · obtain ⟨_,o,ho,_⟩:=I.ok.funs.mem hb
   exact I.base.free b o ho (I.ok.frf b hb) fun z=>I.ok.exfs b z hb
theorem Inv.step{g':Array GenState}{t':Nat}{d':Drawn}{ch:List Addr}(I:Inv X pins σ H s)
   (hch:∀ b∈ch,(b∈X.ex∨X.s₀.heap.objs.size≤b)∧b≠X.env.locals∧(∀ x c,X.env.cells.lookup x=some c→c≠b)∧∀ p∈X.pn++pins,p.1≠b)
   (keep:∀ b o,b≠X.env.locals→b ∉ X.fs→b ∉ ch→s.heap.get? b=some o→H b=none→h'.get? b=some o)
   (slot:∀ b o,b≠X.env.locals→b∈X.fs→b ∉ ch→s.heap.get? b=some o→H b=none→∃ sl,h'.get? b=some {o with slots:=sl}) (free:∀ b o,b ∉ ch→s.heap.get? b=some o→H b=none→H' b=none)
   (there:∀ b o,b ∉ ch→s.heap.get? b=some o→∃ o',h'.get? b=some o')
   (tups:∀ b xs,H b=some (.tup xs)→H' b=some (.tup xs)) (frzs:∀ b o u,H b=some (.frz o u)→H' b=some (.frz o u)) (tbls:∀ b ps,H b=some (.tbl ps)→∃ more,H' b=some (.tbl (ps++more)))
   (ns:∀ m,s.heap.Ns X.env.locals m→h'.Ns X.env.locals m) (hok:HOk X.prog X.w H' h') (hg:AllBare g') :
   Inv X pins σ H' {s with heap:=h',gens:=g',drawn:=d',toks:=t'}:=by
 have neL:∀ b o,X.s₀.heap.get? b=some o→b≠X.env.locals:=fun b o e=>Ωu (Ωt (Heap.lt_size e) I.ok.above)
 have neC:∀ b o,X.s₀.heap.get? b=some o→b ∉ X.ex→b ∉ ch:=fun b o e hx hb=>by
   rcases (hch b hb).1 with z|z
   · exact hx z
   · exact absurd (Ωt (Heap.lt_size e) z) (Nat.lt_irrefl _)
 have cellK:∀ x c,X.env.cells.lookup x=some c→∀ v,s.heap.IsCell c v→h'.IsCell c v:=fun x c e v ⟨o,ho,hd⟩=>by
   have nch:c ∉ ch:=fun z=>(hch c z).2.2.1 x c e rfl
   by_cases hc:c∈X.fs
   · obtain ⟨sl,q⟩:=slot c o (I.cne x c e) hc nch ho (I.freeC x c e)
     exact ⟨_,q,hd⟩
   · exact ⟨o,keep c o (I.cne x c e) hc nch ho (I.freeC x c e),hd⟩
 refine ⟨I.ok,I.os,hg,⟨fun b o e n hb hx=>?_,fun b o e n hb hx=>?_,fun b o e n hx=>?_,fun b o e hx=>?_,fun b xs e=>tups b xs (I.base.tups b xs e),fun b o xs e=>frzs b o xs (I.base.frzs b o xs e),fun b ps e=>?_⟩,?_,fun x c e=>?_,?_,fun x c e=>?_,fun p hp=>?_,hok,I.len⟩
 · exact keep b o (neL b o e) hb (neC b o e hx) (I.base.keep b o e n hb hx) (I.base.free b o e n hx)
 · obtain ⟨sl,e1⟩:=I.base.slot b o e n hb hx
   obtain ⟨sl',e2⟩:=slot b _ (neL b o e) hb (neC b o e hx) e1 (I.base.free b o e n hx)
   exact ⟨sl',e2⟩
 · obtain ⟨o',e1⟩:=I.base.there b o e hx
   exact free b o' (neC b o e hx) e1 (I.base.free b o e n hx)
 · obtain ⟨o',e1⟩:=I.base.there b o e hx
   exact there b o' (neC b o e hx) e1
 · obtain ⟨m1,e1⟩:=I.base.tbls b ps e
   obtain ⟨m2,e2⟩:=tbls b _ e1
   exact ⟨m1++m2,by rw [e2,Array.append_assoc]⟩
 · obtain ⟨m,hn,hl⟩:=I.loc
   refine ⟨m,ns m hn,fun i x v e1 e2 e3=>?_⟩
   obtain ⟨u,r,l⟩:=hl i x v e1 e2 e3
   refine ⟨u,r,?_⟩
   rcases l with l|⟨k,c,e,z⟩
   · exact .inl l
   · exact .inr ⟨k,c,e,cellK x c e _ z⟩
 · obtain ⟨v,z⟩:=I.cell x c e
   exact ⟨v,cellK x c e v z⟩
 · obtain ⟨m,⟨o,_,_,ho,_⟩,_⟩:=I.loc
   exact free _ o (fun z=>(hch _ z).2.1 rfl) ho I.free
 · obtain ⟨v,o,ho,hd⟩:=I.cell x c e
   exact free c o (fun z=>(hch c z).2.2.1 x c e rfl) ho (I.freeC x c e)
 · obtain ⟨e,n,ne,nf,d⟩:=I.pin p hp
   have nch:p.1 ∉ ch:=fun z=>(hch p.1 z).2.2.2 p hp rfl
   exact ⟨keep p.1 p.2 ne nf nch e n,free p.1 p.2 nch e n,ne,nf,d⟩
theorem Inv.un{t':Nat}(I:Inv X pins σ H s)(u:Un X.fs [] H H' s.heap h')(hok:HOk X.prog X.w H' h'):Inv X pins σ H' {s with heap:=h',toks:=t'}:=by
 obtain ⟨m,⟨o,es,ep,ho,r⟩,_⟩:=id I.loc
 obtain ⟨sl,hL⟩:=u.any ho I.free (by simp)
 exact I.step (g':=s.gens) (d':=s.drawn) (ch:=[]) (fun _ z=>nomatch z) (fun b o _ hb _ e n=>u.keep b o e n hb (by simp)) (fun b o _ hb _ e n=>u.slot b o e n hb (by simp)) (fun b o _ e n=>u.free b o e n (by simp)) (fun b o _ e=>u.there b o e (by simp)) u.tups u.frzs u.tbls (fun m' hm=>by
   obtain ⟨o',es',ep',ho',r'⟩:=hm
   rw [ho] at ho';cases ho'
   exact ⟨_,es',ep',hL,r'⟩) hok I.bare
theorem Inv.call{g':Array GenState}{t':Nat}{d':Drawn}{ch:List Addr}(I:Inv X pins σ H s)(u:Un (frs X.stack) ch H H' s.heap h')(hok:HOk X.prog X.w H' h')(hg:AllBare g')
   (hch:∀ b∈ch,(b∈X.ex∨X.s₀.heap.objs.size≤b)∧b≠X.env.locals∧(∀ x c,X.env.cells.lookup x=some c→c≠b)∧∀ p∈X.pn++pins,p.1≠b) :
   Inv X pins σ H' {s with heap:=h',gens:=g',drawn:=d',toks:=t'}:=by
 obtain ⟨m,⟨o,es,ep,ho,r⟩,_⟩:=id I.loc
 obtain ⟨sl,hL⟩:=u.any ho I.free fun z=>(hch _ z).2.1 rfl
 exact I.step (ch:=ch) hch (fun b o hL hb hc e n=>u.keep b o e n (fun z=>(Ωr.mp (I.stkSub b z)).elim hL hb) hc) (fun b o _ _ hc e n=>u.any e n hc) (fun b o hc e n=>u.free b o e n hc) (fun b o hc e=>u.there b o e hc) u.tups u.frzs u.tbls (fun m' hm=>by
   obtain ⟨o',es',ep',ho',r'⟩:=hm
   rw [ho] at ho';cases ho'
   exact ⟨_,es',ep',hL,r'⟩) hok hg
theorem Inv.turned{t':Nat}{it:Addr}(I:Inv X pins σ H s)(k:∀ b o,b≠it→s.heap.get? b=some o→h'.get? b=some o)(hn:H it=none)(hL:it≠X.env.locals)
   (h1:it∈X.ex∨X.s₀.heap.objs.size≤it) (h2:∀ x c,X.env.cells.lookup x=some c→c≠it) (h3:∀ p∈X.pn++pins,p.1≠it):Inv X pins σ H {s with heap:=h',toks:=t'}:=by
 have nit:∀ b u,H b=some u→b≠it:=fun b u e z=>by rw [z,hn] at e;cases e
 refine I.step (g':=s.gens) (d':=s.drawn) (ch:=[it]) (fun b hb=>?_) (fun b o _ _ hc e _=>k b o (fun z=>hc (by simp [z])) e) (fun b o _ _ hc e _=>⟨o.slots,k b o (fun z=>hc (by simp [z])) e⟩) (fun _ _ _ _ n=>n)
   (fun b o hc e=>⟨o,k b o (fun z=>hc (by simp [z])) e⟩) (fun _ _ e=>e) (fun _ _ _ e=>e) (fun b ps e=>⟨#[],by rw [e];simp⟩) (fun m hm=>?_) (fun b u e=>?_) I.bare
 · have e:b=it:=by simpa using hb
   subst e
   exact ⟨h1,hL,h2,h3⟩
 · obtain ⟨o,es,ep,ho,r⟩:=hm
   exact ⟨o,es,ep,k _ o (Ne.symm hL) ho,r⟩
 · refine (I.hok b u e).stay (fun c v hc q=>k c v ?_ q) (fun _ q=>q) fun _ _ q=>q
   rcases hc with z|z
   · rw [z];exact nit b u e
   · exact nit c _ z
theorem Inv.tok(I:Inv X pins σ H s)(t:Nat):Inv X pins σ H {s with toks:=t}:=I.un (h':=s.heap) (t':=t) Un.refl I.hok
theorem Inv.kept{t':Nat}(I:Inv X pins σ H s)(k:∀ b u,s.heap.get? b=some u→h'.get? b=some u):Inv X pins σ H {s with heap:=h',toks:=t'}:=I.un (Un.kept k) (I.hok.kept k)
theorem Inv.laid{a:Addr}{o:HO}{t':Nat}(I:Inv X pins σ H s)(k:∀ b u,s.heap.get? b=some u→h'.get? b=some u)(hp:s.heap.objs.size≤a)(new:ObjOk X.prog X.w (upd H a o) h' a o) :
   Inv X pins σ (upd H a o) {s with heap:=h',toks:=t'}:=I.un (Un.laid k hp (I.hok.fresh hp)) (I.hok.laid k hp new)
theorem Inv.write{x e:Addr}{o:HO}{t':Nat}(I:Inv X pins σ H s)(mu:Mut (H x))(he:e=x∨H e=some (.own x))(k:∀ b u,b≠e→s.heap.get? b=some u→h'.get? b=some u)(heo:∃ u,h'.get? e=some u)
   (new:ObjOk X.prog X.w (upd H x o) h' x o):Inv X pins σ (upd H x o) {s with heap:=h',toks:=t'}:=I.un (Un.write mu he k heo) (I.hok.write mu he k heo new)
theorem Inv.weak{σ':List (Option V)}(I:Inv X pins σ H s)(hl:σ'.length=σ.length)(w:∀ (i:Nat) v,σ'[i]? = some (some v)→σ[i]? = some (some v)):Inv X pins σ' H s :=
 ⟨I.ok,I.os,I.bare,I.base,let ⟨m,hn,hl'⟩:=I.loc;⟨m,hn,fun i x v e1 e2 e3=>hl' i x v e1 (w i v e2) e3⟩,I.cell,I.free,I.freeC,I.pin,I.hok,hl.trans I.len⟩
theorem Inv.pins_of{pins':List (Addr×Obj)}(I:Inv X pins σ H s)(h:∀ p∈pins',s.heap.get? p.1=some p.2∧H p.1=none∧p.1≠X.env.locals∧p.1 ∉ X.fs∧∀ v,p.2.data≠.cell v):Inv X pins' σ H s :=
 ⟨I.ok,I.os,I.bare,I.base,I.loc,I.cell,I.free,I.freeC,fun p hp=>(ΩD.mp hp).elim (fun z=>I.pin p (List.mem_append_left _ z)) (h p),I.hok,I.len⟩
theorem nodup_ix{N:List Str}(hN:N.Nodup){i j:Nat}{x:Str}(a:N[i]? = some x)(b:N[j]? = some x):i=j:=by
 obtain ⟨h1,e1⟩:=Ωb.mp a
 obtain ⟨h2,e2⟩:=Ωb.mp b
 exact (List.getElem_inj hN).mp (e1.trans e2.symm)
theorem store_ok2{M:Model}{A:Around}{E:Value→Shared→Prop}{i:Nat}{x:Str}{v:V}{u:Value}{Q:Unit→Shared→Prop}(I:Inv X pins σ H s)(hN:X.N.Nodup)(hi:X.N[i]? = some x)(hx:Loc X.env.scope x)(r:RelV v u)
   (h:∀ s',Inv X pins (σ.set i (some v)) H s'→(∃ a,Heap.SameBut a s.heap s'.heap∧(a=X.env.locals∨X.env.cells.lookup x=some a))→Q () s') (hf:X.fn x=true∨X.env.scope.names.lookup x=some .local:=by first|exact .inl rfl|exact .inr rfl|assumption):wpAny M A (storeName X.env x u) Q E s:=by
 obtain ⟨m,hn,hl⟩:=id I.loc
 have hcls:(X.env.scope.kind==.class || (X.env.scope.kind==.module&&X.env.locals != X.env.globals))=false:=by rw [I.ok.kind];rfl
 have hiσ:i<σ.length:=by rw [I.len];exact (Ωb.mp hi).1
 have cne:=I.cne
 have tracked:∀ {a:Addr}{h':Heap},(∃ o,s.heap.get? a=some o∧H a=none)→Heap.SameBut a s.heap h'→HOk X.prog X.w H h':=fun {a h'} ha hs b ob e=>by
   obtain ⟨_,_,hfree⟩:=ha
   refine (I.hok b ob e).stay (fun c w' hc q=>(hs.2 c ?_).trans q) (fun _ q=>q) fun _ _ q=>q
   rintro rfl
   rcases hc with rfl|hc
   · rw [hfree] at e;cases e
   · rw [hfree] at hc;cases hc
 rcases hx with hk|hk
 · refine wpAny_storeName_local hk hn (fun h' hn' hs=>?_) hcls
   obtain ⟨oL,_,_,hoL,_⟩:=id hn
   refine h _ ⟨I.ok,I.os,I.bare,⟨fun b o e n hb hx=>?_,fun b o e n hb hx=>?_,I.base.free,fun b o e hx=>?_,I.base.tups,I.base.frzs,I.base.tbls⟩,⟨_,hn',fun j y v' e1 e2 e3=>?_⟩,fun y c e=>?_,I.free,I.freeC,fun p hp=>?_,tracked ⟨oL,hoL,I.free⟩ hs,by simpa using I.len⟩ ⟨_,hs,.inl rfl⟩
   · exact (hs.2 b (Ωu (Ωt (Heap.lt_size e) I.ok.above))).trans (I.base.keep b o e n hb hx)
   · obtain ⟨sl,e1⟩:=I.base.slot b o e n hb hx
     exact ⟨sl,(hs.2 b (Ωu (Ωt (Heap.lt_size e) I.ok.above))).trans e1⟩
   · obtain ⟨o',e1⟩:=I.base.there b o e hx
     exact ⟨o',(hs.2 b (Ωu (Ωt (Heap.lt_size e) I.ok.above))).trans e1⟩
   · by_cases hj:j=i
     · subst hj
       rw [hi] at e1;cases e1
       rw [Ωl hiσ] at e2
       cases e2
       exact ⟨u,r,.inl ⟨hk,by simp⟩⟩
     · rw [Ωc (Ne.symm hj)] at e2
       obtain ⟨u',r',q⟩:=hl j y v' e1 e2 e3
       refine ⟨u',r',?_⟩
       rcases q with ⟨k,e⟩|⟨k,c,e,z⟩
       · refine .inl ⟨k,?_⟩
         have:y≠x:=fun e=>hj (nodup_ix hN e1 (e ▸ hi))
         simp [this,e]
       · exact .inr ⟨k,c,e,z.sameBut hs (cne y c e)⟩
   · obtain ⟨w',z⟩:=I.cell y c e
     exact ⟨w',z.sameBut hs (cne y c e)⟩
   · obtain ⟨e,n,ne,nf,d⟩:=I.pin p hp
     exact ⟨(hs.2 p.1 ne).trans e,n,ne,nf,d⟩
 · have hfn:X.fn x=true:=by
     rcases hf with z|z
     · exact z
     · rw [z] at hk;cases hk
   obtain ⟨c,hc⟩:=I.ok.has x (.inl hk)
   obtain ⟨w',z⟩:=I.cell x c hc
   refine wpAny_storeName_cell I.ok.kind hk hc z (fun h' hc' hs=>?_)
   obtain ⟨oc,hoc,hocd⟩:=id z
   refine h {s with heap:=h'} ⟨I.ok,I.os,I.bare,⟨fun b o e n hb hx=>?_,fun b o e n hb hx=>?_,I.base.free,fun b o e hx=>?_,I.base.tups,I.base.frzs,I.base.tbls⟩,⟨m,hn.sameBut hs (Ne.symm (cne x c hc)),fun j y v' e1 e2 e3=>?_⟩,fun y c' e=>?_,I.free,I.freeC,fun p hp=>?_,tracked ⟨oc,hoc,I.freeC x c hc⟩ hs,by simpa using I.len⟩ ⟨c,hs,.inr hc⟩
   · exact (hs.2 b (Ωu (Ωt (Heap.lt_size e) (I.ok.cab x c hfn hc)))).trans (I.base.keep b o e n hb hx)
   · obtain ⟨sl,e1⟩:=I.base.slot b o e n hb hx
     exact ⟨sl,(hs.2 b (Ωu (Ωt (Heap.lt_size e) (I.ok.cab x c hfn hc)))).trans e1⟩
   · obtain ⟨o',e1⟩:=I.base.there b o e hx
     exact ⟨o',(hs.2 b (Ωu (Ωt (Heap.lt_size e) (I.ok.cab x c hfn hc)))).trans e1⟩
   · by_cases hj:j=i
     · subst hj
       rw [hi] at e1;cases e1
       rw [Ωl hiσ] at e2
       cases e2
       exact ⟨u,r,.inr ⟨.inl hk,c,hc,hc'⟩⟩
     · rw [Ωc (Ne.symm hj)] at e2
       obtain ⟨u',r',q⟩:=hl j y v' e1 e2 e3
       refine ⟨u',r',?_⟩
       rcases q with q|⟨k,c',e,z'⟩
       · exact .inl q
       · refine .inr ⟨k,c',e,z'.sameBut hs ?_⟩
         rintro rfl
         exact hj (nodup_ix hN e1 (I.ok.inj _ _ _ e hc ▸ hi))
   · by_cases hcc:c'=c
     · subst hcc;exact ⟨_,hc'⟩
     · obtain ⟨w2,z2⟩:=I.cell y c' e
       exact ⟨w2,z2.sameBut hs hcc⟩
   · obtain ⟨e,n,ne,nf,d⟩:=I.pin p hp
     refine ⟨(hs.2 p.1 ?_).trans e,n,ne,nf,d⟩
     intro q
     rw [q,hoc] at e
     have q':oc=p.2:=Option.some.inj e
     exact d w' (by rw [← q'];exact hocd)
theorem store_ok{M:Model}{A:Around}{E:Value→Shared→Prop}{i:Nat}{x:Str}{v:V}{u:Value}{Q:Unit→Shared→Prop}(I:Inv X pins σ H s)(hN:X.N.Nodup)(hi:X.N[i]? = some x)(hx:Loc X.env.scope x)(r:RelV v u)
   (h:∀ s',Inv X pins (σ.set i (some v)) H s'→Q () s') (hf:X.fn x=true∨X.env.scope.names.lookup x=some .local:=by first|exact .inl rfl|exact .inr rfl|assumption):wpAny M A (storeName X.env x u) Q E s :=
 store_ok2 I hN hi hx r (fun s' I' _=>h s' I') hf
theorem Inv.call'{s':Shared}{ch:List Addr}(I:Inv X pins σ H s)(ho:s'.os=s.os)(u:Un (frs X.stack) ch H H' s.heap s'.heap)(hok:HOk X.prog X.w H' s'.heap)(hg:AllBare s'.gens)
   (hch:∀ b∈ch,(b∈X.ex∨X.s₀.heap.objs.size≤b)∧b≠X.env.locals∧(∀ x c,X.env.cells.lookup x=some c→c≠b)∧∀ p∈X.pn++pins,p.1≠b):Inv X pins σ H' s':=by
 obtain ⟨h',g',d',t',o'⟩:=s'
 have e:o'=s.os:=ho
 subst e
 exact I.call (g':=g') (t':=t') (d':=d') u hok hg hch
end
noncomputable abbrev XK:=Value→Option Addr→Hp→Prop
noncomputable abbrev St:=List (Option V)
noncomputable abbrev VK:=V→Hp→Prop
noncomputable abbrev TE:=St→Hp→VK→Prop
noncomputable abbrev TT:=St→Hp→(Bool→Hp→Prop)→Prop
noncomputable abbrev TA:=St→Hp→(List V→Hp→Prop)→Prop
structure Ends where
 nx:St→Hp→Prop
 rt:VK
 bk:St→Hp→Prop:=fun _ _=>False
 ct:St→Hp→Prop:=fun _ _=>False
noncomputable abbrev TS:=Ends→St→Hp→Prop
noncomputable def EP(X:Cx)(pins:List (Addr×Obj))(σ:St)(Q:VK)(u:Value)(s':Shared):Prop:=∃ v H',Inv X pins σ H' s'∧RelV v u∧Q v H'
noncomputable def TP(X:Cx)(pins:List (Addr×Obj))(σ:St)(Q:Bool→Hp→Prop)(b:Bool)(s':Shared):Prop:=∃ H',Inv X pins σ H' s'∧Q b H'
noncomputable def AP(X:Cx)(pins:List (Addr×Obj))(σ:St)(Q:List V→Hp→Prop)(us:List Value)(s':Shared):Prop:=∃ vs H',Inv X pins σ H' s'∧Vals vs us∧Q vs H'
noncomputable def SP(X:Cx)(pins:List (Addr×Obj))(D:Ends)(f:Flow)(s':Shared):Prop :=
 match f with
 | .next=>∃ σ' H',Inv X pins σ' H' s'∧D.nx σ' H'
 | .brk=>∃ σ' H',Inv X pins σ' H' s'∧D.bk σ' H'
 | .cont=>∃ σ' H',Inv X pins σ' H' s'∧D.ct σ' H'
 | .ret u=>∃ v σ' H',Inv X pins σ' H' s'∧RelV v u∧D.rt v H'
noncomputable def PE(X:Cx)(e:Expr)(t:TE):Prop :=
 ∀ (pins:List (Addr×Obj)) (s:Shared) (σ:St) (H:Hp) (Q:VK),Inv X pins σ H s→t σ H Q→wpAny (model X.prog X.w) X.A (eval e X.env) (EP X pins σ Q) X.xe s
noncomputable def PT(X:Cx)(e:Expr)(t:TT):Prop :=
 ∀ (pins:List (Addr×Obj)) (s:Shared) (σ:St) (H:Hp) (Q:Bool→Hp→Prop),Inv X pins σ H s→t σ H Q→wpAny (model X.prog X.w) X.A (isTrue e X.env (eval e X.env)) (TP X pins σ Q) X.xe s
noncomputable def PW(X:Cx)(e:Expr)(t:TT):Prop :=
 ∀ (whole:Sem Value) (pins:List (Addr×Obj)) (s:Shared) (σ:St) (H:Hp) (Q:Bool→Hp→Prop),Inv X pins σ H s→t σ H Q→wpAny (model X.prog X.w) X.A (isTrue e X.env whole) (TP X pins σ Q) X.xe s
theorem PW.pt{X:Cx}{e:Expr}{t:TT}(h:PW X e t):PT X e t:=h _
noncomputable def PA(X:Cx)(es:List Expr)(t:TA):Prop :=
 ∀ (pos:Pos) (pins:List (Addr×Obj)) (s:Shared) (σ:St) (H:Hp) (Q:List V→Hp→Prop),Inv X pins σ H s→t σ H Q→wpAny (model X.prog X.w) X.A (spliced (backTo pos (starEach es X.env))) (AP X pins σ Q) X.xe s
noncomputable def PS(X:Cx)(st:Stmt)(t:TS):Prop :=
 ∀ (pins:List (Addr×Obj)) (s:Shared) (σ:St) (H:Hp) (D:Ends),Inv X pins σ H s→t D σ H→wpAny (model X.prog X.w) X.A (exec st X.env) (SP X pins D) X.xe s
noncomputable def PSs(X:Cx)(st:List Stmt)(t:TS):Prop :=
 ∀ (pins:List (Addr×Obj)) (s:Shared) (σ:St) (H:Hp) (D:Ends),Inv X pins σ H s→t D σ H→wpAny (model X.prog X.w) X.A (execs st X.env) (SP X pins D) X.xe s
theorem thn{α:Type}{t:Sem α}{Q Q':α→Shared→Prop}{M:Model}{A:Around}{E:Value→Shared→Prop}{s:Shared}(h:wpAny M A t Q E s)(hQ:∀ a s,Q a s→Q' a s):wpAny M A t Q' E s:=wpAny_mono h hQ fun _ _ x=>x
end L2
namespace L2
open PySem PySem.Spec PyProof.Rows
section
variable {X:Cx}
noncomputable def tVar(i:Nat):TE:=fun σ H Q=>∃ v,σ[i]? = some (some v)∧Q v H
noncomputable def tC(v:V):TE:=fun _ H Q=>Q v H
theorem pe_var {i:Nat}{x:Str}{pos:Pos} (hN:X.N[i]? = some x) (hv:Vis X.env.scope x) (hd:(x==("__debug__" : Str))=false:=by decide) (hcd:(x==("__classdict__" : Str))=false:=by decide):PE X (.Name x pos) (tVar i):=by
 intro pins s σ H Q I h
 obtain ⟨v,e,h⟩:=h
 obtain ⟨m,hn,hl⟩:=I.loc
 obtain ⟨u,r,l⟩:=hl i x v hN e hv
 have fin:EP X pins σ Q u s:=⟨v,H,I,r,h⟩
 rcases l with ⟨hk,hm⟩|⟨hk,c,hc,hcell⟩
 · exact wpAny_Name (wpAny_loadName_local I.ok.kind hk hn hm fin) hd
 · rcases hk with hk|hk
   · exact wpAny_Name (wpAny_loadName_cell I.ok.kind hk hc hcell fin) hd
   · exact wpAny_Name (wpAny_loadName_free I.ok.kind hk hc hcell fin hcd) hd
theorem pe_int{i j pos}:PE X (.Constant (.int i) j pos) (tC (.int i)):=fun _ _ _ H _ I h=>wpAny_Constant_int ⟨.int i,H,I.tok _,⟨_,rfl⟩,h⟩
theorem pe_bl{b j pos}:PE X (.Constant (.bool b) j pos) (tC (.bl b)):=fun _ _ _ H _ I h=>Constant_bool ⟨.bl b,H,I,rfl,h⟩
theorem pe_non{j pos}:PE X (.Constant .none j pos) (tC .non):=fun _ _ _ H _ I h=>Constant_none ⟨.non,H,I,rfl,h⟩
theorem pe_str{x j pos}:PE X (.Constant (.str x) j pos) (tC (.str x)):=fun _ _ _ H _ I h=>Calls.Constant_str ⟨.str x,H,I.tok _,⟨_,rfl⟩,h⟩
noncomputable def Gl(X:Cx)(x:Str):Prop:=X.env.kindOf x=some .globalImplicit
theorem ld_glob{E:Value→Shared→Prop}{pins:List (Addr×Obj)}{s:Shared}{σ:St}{H:Hp}{x:Str}{u:Value}{pos:Pos}{Q:Value→Shared→Prop}(I:Inv X pins σ H s)(hg:Gl X x)(hm:X.mg x=some u)(h:Q u s)
   (hd:(x==("__debug__" : Str))=false:=by decide):wpAny (model X.prog X.w) X.A (eval (.Name x pos) X.env) Q E s :=
 Calls.Name_function_global I.ok.kind hg (Calls.loadGlobal_global (by rw [I.ok.glob];exact I.mod.glob.keeps I.bk) hm h) hd
theorem ld_blt{E:Value→Shared→Prop}{pins:List (Addr×Obj)}{s:Shared}{σ:St}{H:Hp}{x:Str}{u:Value}{pos:Pos}{Q:Value→Shared→Prop}(I:Inv X pins σ H s)(hg:Gl X x)(hm:X.mg x=none)(hv:bootBuiltins x=some u)(h:Q u s)
   (hn:x ≠ "__name__" := by decide) (hd:(x==("__debug__" : Str))=false:=by decide):wpAny (model X.prog X.w) X.A (eval (.Name x pos) X.env) Q E s:=by
 obtain ⟨mb,h1,h2⟩:=I.mod.blt
 exact Calls.Name_function_global I.ok.kind hg (Calls.loadGlobal_builtin (by rw [I.ok.glob];exact I.mod.glob.keeps I.bk) hm (by rw [I.ok.blt];exact h1.keeps I.bk) ((h2 x hn).trans hv) h) hd
theorem pe_glob {x:Str}{v:V}{u:Value}{pos:Pos} (hg:Gl X x) (hm:X.mg x=some u) (r:RelV v u) (hd:(x==("__debug__" : Str))=false:=by decide):PE X (.Name x pos) (tC v) :=
 fun _ _ _ H _ I h=>ld_glob I hg hm ⟨v,H,I,r,h⟩ hd
theorem pe_bltn {x:Str}{v:V}{u:Value}{pos:Pos} (hg:Gl X x) (hm:X.mg x=none) (hv:bootBuiltins x=some u) (r:RelV v u) (hn:x ≠ "__name__" := by decide) (hd:(x==("__debug__" : Str))=false:=by decide):PE X (.Name x pos) (tC v) :=
 fun _ _ _ H _ I h=>ld_blt I hg hm hv ⟨v,H,I,r,h⟩ hn hd
variable {a b:Expr}{ta tb:TE}{pos:Pos}
variable {tA tB':TT}{rest:List Expr}
noncomputable def tAnd(t u:TT):TT:=fun σ H Q=>t σ H fun c H1=>if c=true then u σ H1 Q else Q false H1
noncomputable def tOr(t u:TT):TT:=fun σ H Q=>t σ H fun c H1=>if c=true then Q true H1 else u σ H1 Q
noncomputable def tNot(t:TT):TT:=fun σ H Q=>t σ H fun c H1=>Q (!c) H1
theorem pw_and1(ha:PT X a tA):PW X (.BoolOp .And [a] pos) tA:=by
 intro wh pins s σ H Q I h
 refine isTrue_and (thn (ha pins s σ H Q I h) fun c s1 e=>?_)
 cases c with
 | true=>exact isTrue_and_nil e
 | false=>exact e
theorem pw_or1(ha:PT X a tA):PW X (.BoolOp .Or [a] pos) tA:=by
 intro wh pins s σ H Q I h
 refine isTrue_or (thn (ha pins s σ H Q I h) fun c s1 e=>?_)
 cases c with
 | false=>exact isTrue_or_nil e
 | true=>exact e
theorem pw_and(ha:PT X a tA)(hb:PW X (.BoolOp .And (b::rest) pos) tB'):PW X (.BoolOp .And (a::b::rest) pos) (tAnd tA tB'):=by
 intro wh pins s σ H Q I h
 refine isTrue_and (thn (ha pins s σ H _ I h) fun c s1 ⟨H1,I1,q1⟩=>?_)
 cases c with
 | true=>exact hb wh pins s1 σ H1 Q I1 q1
 | false=>exact ⟨H1,I1,q1⟩
theorem pw_or(ha:PT X a tA)(hb:PW X (.BoolOp .Or (b::rest) pos) tB'):PW X (.BoolOp .Or (a::b::rest) pos) (tOr tA tB'):=by
 intro wh pins s σ H Q I h
 refine isTrue_or (thn (ha pins s σ H _ I h) fun c s1 ⟨H1,I1,q1⟩=>?_)
 cases c with
 | true=>exact ⟨H1,I1,q1⟩
 | false=>exact hb wh pins s1 σ H1 Q I1 q1
theorem pt_not(ha:PT X a tA):PT X (.UnaryOp .Not a pos) (tNot tA):=by
 intro pins s σ H Q I h
 exact isTrue_not (ha pins s σ H (fun c H1=>Q (!c) H1) I h)
noncomputable def tAndV(ta tb:TE):TE:=fun σ H Q=>ta σ H fun x H1=>∃ c,x=.bl c∧if c=true then tb σ H1 Q else Q (.bl false) H1
noncomputable def tOrV(ta tb:TE):TE:=fun σ H Q=>ta σ H fun x H1=>∃ c,x=.bl c∧if c=true then Q (.bl true) H1 else tb σ H1 Q
noncomputable def tNotV(ta:TE):TE:=fun σ H Q=>ta σ H fun x H1=>∃ c,x=.bl c∧Q (.bl (!c)) H1
theorem pe_one{op}{t:TE}(h:PE X a t):PE X (.BoolOp op [a] pos) t:=fun pins s σ H Q I hw=>BoolOp_one (h pins s σ H Q I hw)
theorem pe_and(ha:PE X a ta)(hb:PE X (.BoolOp .And (b::rest) pos) tb):PE X (.BoolOp .And (a::b::rest) pos) (tAndV ta tb):=by
 intro pins s σ H Q I h
 refine BoolOp_and (thn (ha pins s σ H _ I h) fun v s1 ⟨x,H1,I1,r1,q1⟩=>?_)
 obtain ⟨c,rfl,q1⟩:=q1
 cases r1
 refine wpAny_truthy_bool ?_
 cases c with
 | true=>exact hb pins s1 σ H1 Q I1 q1
 | false=>exact ⟨.bl false,H1,I1,rfl,q1⟩
theorem pe_or(ha:PE X a ta)(hb:PE X (.BoolOp .Or (b::rest) pos) tb):PE X (.BoolOp .Or (a::b::rest) pos) (tOrV ta tb):=by
 intro pins s σ H Q I h
 refine BoolOp_or (thn (ha pins s σ H _ I h) fun v s1 ⟨x,H1,I1,r1,q1⟩=>?_)
 obtain ⟨c,rfl,q1⟩:=q1
 cases r1
 refine wpAny_truthy_bool ?_
 cases c with
 | false=>exact hb pins s1 σ H1 Q I1 q1
 | true=>exact ⟨.bl true,H1,I1,rfl,q1⟩
theorem pe_not(ha:PE X a ta):PE X (.UnaryOp .Not a pos) (tNotV ta):=by
 intro pins s σ H Q I h
 refine UnaryOp_ (thn (ha pins s σ H _ I h) fun v s1 ⟨x,H1,I1,r1,q1⟩=>?_)
 obtain ⟨c,rfl,q1⟩:=q1
 cases r1
 exact not_of (wpAny_truthy_bool ⟨.bl (!c),H1,I1,rfl,q1⟩)
noncomputable def tIf(t:TT)(ta tb:TE):TE:=fun σ H Q=>t σ H fun c H1=>if c=true then ta σ H1 Q else tb σ H1 Q
theorem pe_ifExp{c:Expr}(hc:PT X c tA)(ha:PE X a ta)(hb:PE X b tb):PE X (.IfExp c a b pos) (tIf tA ta tb):=by
 intro pins s σ H Q I h
 refine wpAny_IfExp (thn (hc pins s σ H _ I h) fun d s1 ⟨H1,I1,q1⟩=>?_)
 cases d with
 | true=>exact ha pins s1 σ H1 Q I1 q1
 | false=>exact hb pins s1 σ H1 Q I1 q1
end
end L2
namespace L2
open PySem PySem.Spec PyProof.Rows
noncomputable def SqL(K:PySem.W.Frag)(H:Hp)(a:Addr)(xs:List V):Prop :=
 Rd H a (.lst xs) ∨
   ∃ (o:Obj) (its:Array Value) (n:Nat),K.lookup a=some o∧o.cls=.type "list" ∧ o.dict=none∧o.data=.seq its n∧its.size≤sizeLine∧Vals xs its.toList
noncomputable def SqT(K:PySem.W.Frag)(H:Hp)(a:Addr)(xs:List V):Prop :=
 Rd H a (.tup xs) ∨
   ∃ (o:Obj) (its:Array Value) (n:Nat),K.lookup a=some o∧o.cls=.type "tuple" ∧ o.data=.seq its n∧its.size≤sizeLine∧Vals xs its.toList
noncomputable def absV:Value→Option V
 | .none=>some .non
 | .bool b=>some (.bl b)
 | .int i _=>some (.int i)
 | .str x _=>some (.str x)
 | .bytes b _=>some (.byt b)
 | .float b _=>some (.flt b)
 | .ref a=>some (.ref a)
 | .type n=>some (.ty n)
 | _=>none
theorem RelV.abs{x:V}{u:Value}(r:RelV x u):absV u=some x:=by
 cases x with
 | non=>cases r;rfl
 | bl _=>cases r;rfl
 | int _=>obtain ⟨t,rfl⟩:=r;rfl
 | str _=>obtain ⟨t,rfl⟩:=r;rfl
 | byt _=>obtain ⟨t,rfl⟩:=r;rfl
 | flt _=>obtain ⟨t,rfl⟩:=r;rfl
 | ref _=>cases r;rfl
 | ty _=>cases r;rfl
theorem RelV.inj{x y:V}{u:Value}(r:RelV x u)(q:RelV y u):x=y:=Option.some.inj (r.abs.symm.trans q.abs)
theorem Vals.inj:∀ {xs ys:List V}{us:List Value},Vals xs us→Vals ys us→xs=ys
 | _,_,_,.nil,.nil=>rfl
 | _,_,_,.cons r t,.cons r' t'=>by rw [r.inj r',Vals.inj t t']
section
variable {X:Cx}{pins:List (Addr×Obj)}{σ:St}{H:Hp}{s:Shared}{a:Addr}{xs ys:List V}
theorem SqL.of{K:PySem.W.Frag}(h:H a=some (.lst xs)):SqL K H a xs:=.inl (.inl h)
theorem Inv.list(I:Inv X pins σ H s)(h:SqL X.K H a xs):∃ its:List Value,Vals xs its∧PlainL s.heap a its.toArray∧xs.length≤sizeLine:=by
 rcases h with h|⟨o,its,n,hk,hc,hd,hs,hz,r⟩
 · obtain ⟨z,its,n,r,e⟩:=h.ok I.hok
   exact ⟨its,r,⟨_,n,e,rfl,rfl,rfl⟩,z⟩
 · refine ⟨its.toList,r,⟨o,n,I.kIn a o hk,hc,hd,by simpa using hs⟩,?_⟩
   have e:=r.length
   simp only [Array.length_toList] at e
   omega
theorem Inv.tuple(I:Inv X pins σ H s)(h:SqT X.K H a xs):∃ its:List Value,Vals xs its∧IsTup s.heap a its.toArray∧xs.length≤sizeLine:=by
 rcases h with h|⟨o,its,n,hk,hc,hs,hz,r⟩
 · obtain ⟨z,its,r,p⟩:=h.ok I.hok
   exact ⟨its,r,p.tup,z⟩
 · refine ⟨its.toList,r,⟨o,I.kIn a o hk,hc,n,by simpa using hs⟩,?_⟩
   have e:=r.length
   simp only [Array.length_toList] at e
   omega
theorem Inv.list_inj(I:Inv X pins σ H s)(h:SqL X.K H a xs)(h':SqL X.K H a ys):xs=ys:=by
 obtain ⟨its,r,⟨o,n,e,_,_,d⟩,_⟩:=I.list h
 obtain ⟨its',r',⟨o',n',e',_,_,d'⟩,_⟩:=I.list h'
 rw [e] at e';cases e'
 rw [d] at d'
 injection d' with d1 _
 have:its=its':=by simpa using congrArg Array.toList d1
 subst this
 exact r.inj r'
theorem Inv.tuple_inj(I:Inv X pins σ H s)(h:SqT X.K H a xs)(h':SqT X.K H a ys):xs=ys:=by
 obtain ⟨its,r,⟨o,e,_,n,d⟩,_⟩:=I.tuple h
 obtain ⟨its',r',⟨o',e',_,n',d'⟩,_⟩:=I.tuple h'
 rw [e] at e';cases e'
 rw [d] at d'
 injection d' with d1 _
 have:its=its':=by simpa using congrArg Array.toList d1
 subst this
 exact r.inj r'
end
noncomputable abbrev Cx.wish(X:Cx)(E:Value→Shared→Prop):Cx:={X with xe:=E}
noncomputable abbrev Cx.nox(X:Cx):Cx:=X.wish fun _ _=>False
theorem Cx.Ok.wish{X:Cx}(ok:X.Ok)(E:Value→Shared→Prop):(X.wish E).Ok :=
 ⟨ok.mod,ok.kind,ok.glob,ok.blt,ok.above,ok.inj,ok.has,ok.cab,ok.hd,ok.frames,ok.stk,ok.exf,ok.bs,ok.bsz,ok.noex,ok.exfs,ok.funs,ok.frf⟩
theorem Cx.Ok.unwish{X:Cx}{E:Value→Shared→Prop}(ok:(X.wish E).Ok):X.Ok :=
 ⟨ok.mod,ok.kind,ok.glob,ok.blt,ok.above,ok.inj,ok.has,ok.cab,ok.hd,ok.frames,ok.stk,ok.exf,ok.bs,ok.bsz,ok.noex,ok.exfs,ok.funs,ok.frf⟩
section
variable {X:Cx}{pins:List (Addr×Obj)}{σ:St}{H:Hp}{s:Shared}{E:Value→Shared→Prop}
theorem Inv.wish(I:Inv X pins σ H s)(E:Value→Shared→Prop):Inv (X.wish E) pins σ H s:=⟨I.ok.wish E,I.os,I.bare,I.base,I.loc,I.cell,I.free,I.freeC,I.pin,I.hok,I.len⟩
theorem Inv.unwish(I:Inv (X.wish E) pins σ H s):Inv X pins σ H s:=⟨I.ok.unwish,I.os,I.bare,I.base,I.loc,I.cell,I.free,I.freeC,I.pin,I.hok,I.len⟩
theorem SP.unwish{D:Ends}{f:Flow}{s':Shared}(h:SP (X.wish E) pins D f s'):SP X pins D f s':=by
 cases f with
 | next=>obtain ⟨σ',H',I,q⟩:=h;exact ⟨σ',H',I.unwish,q⟩
 | brk=>obtain ⟨σ',H',I,q⟩:=h;exact ⟨σ',H',I.unwish,q⟩
 | cont=>obtain ⟨σ',H',I,q⟩:=h;exact ⟨σ',H',I.unwish,q⟩
 | ret u=>obtain ⟨v,σ',H',I,r,q⟩:=h;exact ⟨v,σ',H',I.unwish,r,q⟩
theorem PSs.nox{st:List Stmt}{t:TS}(h:PSs X.nox st t):PSs X st t:=fun pins s σ H D I hw =>
 wpAny_mono (h pins s σ H D (I.wish _) hw) (fun _ _ q=>q.unwish) fun _ _ z=>False.elim z
end
section
variable {X:Cx}{st:Stmt}{rest:List Stmt}{t u:TS}{e:Expr}{te:TE}{pos:Pos}
noncomputable def tNext:TS:=fun D σ H=>D.nx σ H
noncomputable def tSeq(t u:TS):TS:=fun D σ H=>t {D with nx:=u D} σ H
theorem pss_nil:PSs X [] tNext:=fun _ _ σ H _ I h=>wpAny_execs_nil ⟨σ,H,I,h⟩
theorem pss_cons(h1:PS X st t)(h2:PSs X rest u):PSs X (st::rest) (tSeq t u):=by
 intro pins s σ H D I h
 refine wpAny_execs_cons (thn (h1 pins s σ H {D with nx:=u D} I h) fun f s1 q=>?_)
 cases f with
 | next =>
   obtain ⟨σ',H',I',q⟩:=q
   exact h2 pins s1 σ' H' D I' q
 | ret v=>exact q
 | brk=>exact q
 | cont=>exact q
noncomputable def tBreak:TS:=fun D σ H=>D.bk σ H
noncomputable def tCont:TS:=fun D σ H=>D.ct σ H
theorem ps_pass:PS X (.Pass pos) tNext:=fun _ _ σ H _ I h=>wpAny_Pass ⟨σ,H,I,h⟩
theorem ps_break:PS X (.Break pos) tBreak:=fun _ _ σ H _ I h=>wpAny_Break ⟨σ,H,I,h⟩
theorem ps_continue:PS X (.Continue pos) tCont:=fun _ _ σ H _ I h=>wpAny_Continue ⟨σ,H,I,h⟩
theorem Inv.quiet{pins:List (Addr×Obj)}{σ:St}{H:Hp}{s:Shared}(I:Inv X pins σ H s):interactive X.env=false:=by simp [interactive,I.ok.kind]
noncomputable def tDrop(te:TE):TS:=fun D σ H=>te σ H fun _ H1=>D.nx σ H1
theorem ps_expr(he:PE X e te)(hs:swapsWith e none pos.line X.env=pure false:=by rfl):PS X (.Expr e pos) (tDrop te):=by
 intro pins s σ H D I h
 exact wpAny_Expr_any (thn (he pins s σ H _ I h) fun v s1 ⟨x,H1,I1,r1,q1⟩=>⟨σ,H1,I1,q1⟩) I.quiet hs
noncomputable def tRet(te:TE):TS:=fun D σ H=>te σ H D.rt
theorem ps_ret(he:PE X e te):PS X (.Return (some e) pos) (tRet te):=by
 intro pins s σ H D I h
 exact wpAny_Return_some (thn (he pins s σ H _ I h) fun v s1 ⟨x,H1,I1,r1,q1⟩=>⟨x,σ,H1,I1,r1,q1⟩)
noncomputable def tIfS(c:TT)(t u:TS):TS:=fun D σ H=>c σ H fun b H1=>if b=true then t D σ H1 else u D σ H1
theorem ps_if{c:Expr}{a b:List Stmt}{tc:TT}(hc:PT X c tc)(ha:PSs X a t)(hb:PSs X b u):PS X (.If c a b pos) (tIfS tc t u):=by
 intro pins s σ H D I h
 refine wpAny_If (thn (hc pins s σ H _ I h) fun d s1 ⟨H1,I1,q1⟩=>?_)
 cases d with
 | true=>exact ha pins s1 σ H1 D I1 q1
 | false=>exact hb pins s1 σ H1 D I1 q1
end
noncomputable abbrev TG:=V→St→Hp→(St→Hp→Prop)→Prop
noncomputable abbrev TGs:=List V→St→Hp→(St→Hp→Prop)→Prop
noncomputable def PG(X:Cx)(target:Expr)(t:TG):Prop :=
 ∀ (pins:List (Addr×Obj)) (s:Shared) (σ:St) (H:Hp) (v:V) (u:Value) (Q:St→Hp→Prop),Inv X pins σ H s→RelV v u→t v σ H Q →
   wpAny (model X.prog X.w) X.A (assign target X.env u) (fun _ s'=>∃ σ' H',Inv X pins σ' H' s'∧Q σ' H') X.xe s
noncomputable def PGs(X:Cx)(ts:List Expr)(t:TGs):Prop :=
 ∀ (pins:List (Addr×Obj)) (s:Shared) (σ:St) (H:Hp) (vs:List V) (us:List Value) (Q:St→Hp→Prop),Inv X pins σ H s→Vals vs us→t vs σ H Q →
   wpAny (model X.prog X.w) X.A (assignInOrder ((assignEach ts X.env).map (·.2)) us) (fun _ s'=>∃ σ' H',Inv X pins σ' H' s'∧Q σ' H') X.xe s
noncomputable abbrev TSet:=V→V→V→Hp→(Hp→Prop)→Prop
noncomputable def PSet(X:Cx)(t:TSet):Prop :=
 ∀ (pins:List (Addr×Obj)) (s:Shared) (σ:St) (H:Hp) (o i v:V) (ov iv u:Value) (Q:Hp→Prop),Inv X pins σ H s→RelV o ov→RelV i iv→RelV v u→t o i v H Q →
   wpAny (model X.prog X.w) X.A (setItem ov iv u) (fun _ s'=>∃ H',Inv X pins σ H' s'∧Q H') X.xe s
noncomputable abbrev TIp:=V→V→Hp→VK→Prop
noncomputable def PIp(X:Cx)(op:Operator)(t:TIp):Prop :=
 ∀ (pins:List (Addr×Obj)) (s:Shared) (σ:St) (H:Hp) (x y:V) (v u:Value) (Q:VK),Inv X pins σ H s→RelV x v→RelV y u→t x y H Q →
   wpAny (model X.prog X.w) X.A (inplaceOp op v u) (EP X pins σ Q) X.xe s
section
variable {X:Cx}{pos:Pos}
noncomputable def gName(i:Nat):TG:=fun v σ H Q=>Q (σ.set i (some v)) H
theorem pg_name{i:Nat}{x:Str}(hN:X.N.Nodup)(hi:X.N[i]? = some x)(hx:Loc X.env.scope x)(hf:X.fn x=true∨X.env.scope.names.lookup x=some .local:=by first|exact .inl rfl|exact .inr rfl|assumption):PG X (.Name x pos) (gName i):=by
 intro pins s σ H v u Q I r h
 exact wpAny_assign_Name (store_ok I hN hi hx r (fun s' I'=>⟨_,H,I',h⟩) hf)
noncomputable def gNil:TGs:=fun vs σ H Q=>vs=[]∧Q σ H
noncomputable def gCons(t:TG)(u:TGs):TGs:=fun vs σ H Q=>∃ v r,vs=v::r∧t v σ H fun σ' H'=>u r σ' H' Q
theorem pgs_nil:PGs X [] gNil:=by
 intro pins s σ H vs us Q I r h
 obtain ⟨e,h⟩:=h
 subst e
 cases r
 exact assignInOrder_nil ⟨σ,H,I,h⟩
theorem pgs_cons{e:Expr}{es:List Expr}{t:TG}{u:TGs}(h1:PG X e t)(h2:PGs X es u)
   (hs:(assignEach (e::es) X.env).map (·.2)=assign e X.env::(assignEach es X.env).map (·.2):=by rfl):PGs X (e::es) (gCons t u):=by
 intro pins s σ H vs us Q I r h
 obtain ⟨v,vr,e1,h⟩:=h
 subst e1
 cases r with
 | cons r rr =>
   rw [hs]
   refine assignInOrder_cons (thn (h1 pins s σ H _ _ _ I r h) fun _ s1 ⟨σ1,H1,I1,q1⟩=>?_)
   exact h2 pins s1 σ1 H1 _ _ Q I1 rr q1
noncomputable def gTup(K:PySem.W.Frag)(n:Nat)(t:TGs):TG:=fun v σ H Q=>∃ a xs,v=.ref a∧SqT K H a xs∧xs.length=n∧t xs σ H Q
theorem pg_tup{es:List Expr}{k:Nat}{t:TGs}{n:Nat}(hc:X.calm=true)(h:PGs X es t)
   (hn:(assignEach es X.env).length=n:=by rfl) (hst:(assignEach es X.env).findIdx? (·.1)=none:=by rfl):PG X (.Tuple es k pos) (gTup X.K n t):=by
 intro pins s σ H v u Q I r hw
 obtain ⟨a,xs,e1,hq,hl,hw⟩:=hw
 subst e1
 cases r
 obtain ⟨its,rv,ht,hz⟩:=I.tuple hq
 refine assign_Tuple_tuple (I.ok.hd hc) ht (by simp [hn,← hl,rv.length]) hst fun h' hx=>?_
 have I1:Inv X pins σ H {s with heap:=h'}:=I.kept (t':=s.toks) fun b o e=>hx b o (Ωu (Heap.lt_size e)) e
 exact h pins _ σ H xs _ Q I1 (by simpa using rv) hw
noncomputable def gSub(to ti:TE)(t:TSet):TG:=fun v σ H Q=>to σ H fun o H1=>ti σ H1 fun i H2=>t o i v H2 fun H3=>Q σ H3
theorem pg_sub{o i:Expr}{to ti:TE}{t:TSet}(ho:PE X o to)(hi:PE X i ti)(hs:PSet X t)
   (ha:∀ v,assign (.Subscript o i pos) X.env v=(do
     let ov ← holding [v] (eval o X.env)
     let iv ← holding [v,ov] (eval i X.env)
     standAt pos
     holding [v,ov,iv] (setItem ov iv v)
     release [v,ov,iv] []):=by intro _;rfl):PG X (.Subscript o i pos) (gSub to ti t):=by
 intro pins s σ H v u Q I r h
 rw [ha]
 refine wpAny_bind (wpAny_holding (thn (ho pins s σ H _ I h) fun ov s1 ⟨x,H1,I1,r1,q1⟩=>?_))
 refine wpAny_bind (wpAny_holding (thn (hi pins s1 σ H1 _ I1 q1) fun iv s2 ⟨y,H2,I2,r2,q2⟩=>?_))
 refine wpAny_bind (wpAny_standAt (wpAny_bind (wpAny_holding (thn (hs pins s2 σ H2 x y v ov iv u _ I2 r1 r2 r q2) fun _ s3 ⟨H3,I3,q3⟩=>?_))))
 exact wpAny_release ⟨σ,H3,I3,q3⟩
noncomputable def tAsg(te:TE)(g:TG):TS:=fun D σ H=>te σ H fun x H1=>g x σ H1 D.nx
theorem ps_asg{tg e:Expr}{te:TE}{g:TG}(he:PE X e te)(hg:PG X tg g)(hs:swapsWithSole [tg] e pos.line X.env=pure false:=by rfl)(hw:swappedStores [tg] e X.env=pure none:=by rfl)
   (h1:(assignEach [tg] X.env).map (·.2)=[assign tg X.env]:=by rfl):PS X (.Assign [tg] e pos) (tAsg te g):=by
 intro pins s σ H D I h
 refine wpAny_Assign_stores (thn (he pins s σ H _ I h) fun v s1 ⟨x,H1,I1,r1,q1⟩=>?_) hs hw
 rw [h1]
 exact thn (hg pins s1 σ H1 x v _ I1 r1 q1) fun _ s2 q=>q
theorem ps_set{i:Nat}{x:Str}{e:Expr}{te:TE}{pos':Pos}(hN:X.N.Nodup)(hi:X.N[i]? = some x)(hx:Loc X.env.scope x)(he:PE X e te)(hs:swapsWith e (some (.Name x pos')) pos.line X.env=pure false:=by rfl)(hf:X.fn x=true∨X.env.scope.names.lookup x=some .local:=by first|exact .inl rfl|exact .inr rfl|assumption) :
   PS X (.Assign [.Name x pos'] e pos) (tAsg te (gName i)):=by
 intro pins s σ H D I h
 refine wpAny_Assign_Name (thn (he pins s σ H _ I h) fun v s1 ⟨y,H1,I1,r1,q1⟩=>?_) hs
 exact store_ok I1 hN hi hx r1 (fun s2 I2=>⟨_,H1,I2,q1⟩) hf
noncomputable def tAug(i:Nat)(te:TE)(ti:TIp):TS:=fun D σ H=>∃ x,σ[i]? = some (some x)∧te σ H fun y H1=>ti x y H1 fun z H2=>D.nx (σ.set i (some z)) H2
theorem ps_aug{i:Nat}{x:Str}{e:Expr}{te:TE}{op:Operator}{ti:TIp}{pos':Pos}(hN:X.N.Nodup)(hi:X.N[i]? = some x)(hx:Loc X.env.scope x)(he:PE X e te)(ho:PIp X op ti)(hf:X.fn x=true∨X.env.scope.names.lookup x=some .local:=by first|exact .inl rfl|exact .inr rfl|assumption) :
   PS X (.AugAssign (.Name x pos') op e pos) (tAug i te ti):=by
 intro pins s σ H D I h
 obtain ⟨v,e1,h⟩:=h
 obtain ⟨m,hn,hl⟩:=I.loc
 have vis:Vis X.env.scope x:=by rcases hx with k|k;exact .inl k;exact .inr (.inl k)
 obtain ⟨u,r,l⟩:=hl i x v hi e1 vis
 refine wpAny_AugAssign_Name ?_
 have go:wpAny (model X.prog X.w) X.A (eval e X.env) (fun w s₂=>wpAny (model X.prog X.w) X.A (inplaceOp op u w) (fun r s₃=>wpAny (model X.prog X.w) X.A (storeName X.env x r) (fun _=>SP X pins D .next) X.xe s₃) X.xe s₂) X.xe s:=by
   refine thn (he pins s σ H _ I h) fun w s1 ⟨y,H1,I1,r1,q1⟩=>?_
   refine thn (ho pins s1 σ H1 v y u w _ I1 r r1 q1) fun z s2 ⟨zv,H2,I2,r2,q2⟩=>?_
   exact store_ok I2 hN hi hx r2 (fun s3 I3=>⟨_,H2,I3,q2⟩) hf
 rcases l with ⟨hk,hm⟩|⟨hk,c,hc,hcell⟩
 · exact wpAny_loadName_local I.ok.kind hk hn hm go
 · rcases hk with hk|hk
   · exact wpAny_loadName_cell I.ok.kind hk hc hcell go
   · rcases hx with k|k
     · have:X.env.scope.names.lookup x=some .free:=hk
       rw [k] at this;cases this
     · have:X.env.scope.names.lookup x=some .free:=hk
       rw [k] at this;cases this
noncomputable def ipI(f:Int→Int→Int):TIp:=fun x y H Q=>∃ i j,x=.int i∧y=.int j∧Q (.int (f i j)) H
theorem ip_add:PIp X .Add (ipI fun i j=>i+j):=by
 intro pins s σ H x y v u Q I r1 r2 h
 obtain ⟨i,j,e1,e2,q⟩:=h
 subst e1;subst e2
 obtain ⟨t,rfl⟩:=r1
 obtain ⟨t',rfl⟩:=r2
 exact iadd_int ⟨.int _,H,I.tok _,⟨_,rfl⟩,q⟩
end
section
variable {X:Cx}{pos:Pos}
noncomputable def tWhile(c:TT)(tb:TS):TS:=fun D σ H=>∃ W:Nat→St→Hp→Prop,(∃ m,W m σ H)∧∀ m σ H,W m σ H →
 c σ H fun b H1=>if b=true then ∃ N:St→Hp→Prop,(∀ σ' H',N σ' H'→∃ m',m'<m∧W m' σ' H')∧tb {D with nx:=N,ct:=N,bk:=D.nx} σ H1 else D.nx σ H1
theorem ps_while{c:Expr}{body:List Stmt}{tc:TT}{tb:TS}(hp:PassesOwn (model X.prog X.w) X.A X.env X.xe)(hc:PT X c tc)(hb:PSs X body tb):PS X (.While c body [] pos) (tWhile tc tb):=by
 intro pins s σ H D I h
 obtain ⟨W,⟨m0,w0⟩,turn⟩:=h
 refine wpAny_While (codeAny_whileLoop (fun n s'=>∃ σ' H',Inv X pins σ' H' s'∧W n σ' H') ?_ m0 ⟨σ,H,I,w0⟩)
 rintro n s1 ⟨σ1,H1,I1,w1⟩
 refine wpAny_passesOwn hp (thn (hc pins s1 σ1 H1 _ I1 (turn n σ1 H1 w1)) fun b s2 ⟨H2,I2,q2⟩=>?_)
 cases b with
 | true =>
   obtain ⟨N,hN,q2⟩:=q2
   rw [if_pos rfl]
   refine wpAny_passesOwn hp (thn (hb pins s2 σ1 H2 _ I2 q2) fun f s3 q3=>?_)
   cases f with
   | next =>
     obtain ⟨σ3,H3,I3,n3⟩:=q3
     obtain ⟨m',hm,w3⟩:=hN σ3 H3 n3
     exact ⟨m',hm,σ3,H3,I3,w3⟩
   | cont =>
     obtain ⟨σ3,H3,I3,n3⟩:=q3
     obtain ⟨m',hm,w3⟩:=hN σ3 H3 n3
     exact ⟨m',hm,σ3,H3,I3,w3⟩
   | brk=>exact q3
   | ret v=>exact q3
 | false =>
   rw [if_neg Ωw]
   exact wpAny_execs_nil ⟨σ1,H2,I2,q2⟩
end
structure It where
 go:Nat→Hp→Prop
 yld:Nat→Hp→V→Hp→Prop
 stop:Nat→Hp→Prop
noncomputable def FpOk(X:Cx)(pins:List (Addr×Obj))(H:Hp)(b:Addr):Prop :=
 H b=none∧b≠X.env.locals∧b ∉ X.fs∧(b∈X.ex∨X.s₀.heap.objs.size≤b)∧(∀ x c,X.env.cells.lookup x=some c→c≠b)∧∀ p∈X.pn++pins,p.1≠b
theorem Inv.fpOk{X:Cx}{pins:List (Addr×Obj)}{σ:St}{H H':Hp}{s:Shared}{b:Addr}(I:Inv X pins σ H s)(hb:s.heap.objs.size≤b)(hn:H' b=none):FpOk X pins H' b:=by
 refine ⟨hn,Nat.ne_of_gt (Ωt I.lt hb),I.nofs hb,.inr (ΩE I.sz hb),fun x c e z=>?_,fun p hp z=>?_⟩
 · obtain ⟨v,q⟩:=I.cell x c e
   exact absurd (Ωt q.lt (by rw [z];exact hb)) (Nat.lt_irrefl _)
 · exact absurd (Ωt (Heap.lt_size (I.pin p hp).1) (by rw [z];exact hb)) (Nat.lt_irrefl _)
structure Turn(P:Program)(w:World)(K:PySem.W.Frag)(tg:Expr)(J:It)(fp:List Addr)(it:Addr)(tn:Nat→Heap→Prop):Prop where
 mem:it∈fp
 obj:∀ i h,tn i h→∀ b∈fp,∃ o,h.get? b=some o∧∀ v,o.data≠.cell v
 keep:∀ i h h',tn i h→(∀ b∈fp,∀ o,h.get? b=some o→h'.get? b=some o)→tn i h'
 item:∀ (X:Cx),X.prog=P→X.w=w→X.K=K→X.calm=true→∀ (i:Nat) (pins:List (Addr×Obj)) (s:Shared) (σ:St) (H:Hp) (E:Value→Shared→Prop),Inv X pins σ H s→(∀ b∈fp,FpOk X pins H b)→tn i s.heap→J.go i H →
   wpAny (model P w) X.A (pyNext (.ref it)) (fun r s1=>∃ u,r=some u ∧
     wpAny (model P w) X.A (letOwnedTupleGo tg (.ref it) u) (fun _ s2=>∃ x H',Inv X pins σ H' s2∧RelV x u∧J.yld i H x H'∧tn (i+1) s2.heap∧∀ b∈fp,H' b=none) E s1) E s
 done:∀ (X:Cx),X.prog=P→X.w=w→X.K=K→X.calm=true→∀ (i:Nat) (pins:List (Addr×Obj)) (s:Shared) (σ:St) (H:Hp) (E:Value→Shared→Prop),Inv X pins σ H s→(∀ b∈fp,FpOk X pins H b)→tn i s.heap→J.stop i H →
   wpAny (model P w) X.A (pyNext (.ref it)) (fun r s1=>r=none∧Inv X pins σ H s1) E s
 self:∀ (A:Around) (i:Nat) (s:Shared) (Q:Value→Shared→Prop) (E:Value→Shared→Prop),tn i s.heap→Q (.ref it) s→wpAny (model P w) A (pyIter (.ref it)) Q E s
noncomputable abbrev TI:=St→Hp→(It→Hp→Prop)→Prop
noncomputable def PIE(X:Cx)(pins:List (Addr×Obj))(σ:St)(tg:Expr)(R:It→Hp→Prop)(itv:Value)(s2:Shared):Prop :=
 ∃ (it:Addr) (fp:List Addr) (tn:Nat→Heap→Prop) (J:It) (H':Hp),itv=.ref it∧Inv X pins σ H' s2∧Turn X.prog X.w X.K tg J fp it tn∧tn 0 s2.heap∧(∀ b∈fp,FpOk X pins H' b)∧R J H'
noncomputable def PI(X:Cx)(tg iter:Expr)(wi:TI):Prop :=
 ∀ (pins:List (Addr×Obj)) (s:Shared) (σ:St) (H:Hp) (R:It→Hp→Prop),Inv X pins σ H s→wi σ H R →
   wpAny (model X.prog X.w) X.A (eval iter X.env) (fun v s1=>wpAny (model X.prog X.w) X.A (pyIter v) (PIE X pins σ tg R) X.xe s1) X.xe s
theorem go_of{M:Model}{A:Around}{E:Value→Shared→Prop}{s:Shared}{tg:Expr}{it:Addr}{u:Value}{o:Obj}{n:String}{vs:Array Value}{Q:Unit→Shared→Prop}(ho:s.heap.get? it=some o)(hc:o.cls=.type n)(hd:o.data=.fields vs)
   (hn:["enumerate", "zip", "dict_itemiterator", "dict_reverseitemiterator", "odict_iterator", "itertools.zip_longest", "itertools.pairwise"].contains n=false) (hQ:Q () s):wpAny M A (letOwnedTupleGo tg (.ref it) u) Q E s:=by
 unfold letOwnedTupleGo
 cases tg<;>first
   | exact wpAny_pure hQ
   | (cases u<;>first
       | exact wpAny_pure hQ
       | (refine wpAny_bind (wpAny_load ho ?_)
          rw [hc,hd]
          show wpAny M A (if (["enumerate", "zip", "dict_itemiterator", "dict_reverseitemiterator", "odict_iterator", "itertools.zip_longest", "itertools.pairwise"].contains n&&vs[0]?==some (rawInt _))=true then _ else _) Q E s
          rw [if_neg (by intro h;rw [hn,Bool.false_and] at h;cases h)]
          exact wpAny_pure hQ))
noncomputable def Itl(K:PySem.W.Frag)(a:Addr):It :=
 ⟨fun i H=>∃ xs x,SqL K H a xs∧xs[i]? = some x,fun i H x H'=>H'=H∧∀ xs,SqL K H a xs→xs[i]? = some x,fun i H=>∃ xs,SqL K H a xs∧xs.length≤i⟩
noncomputable def Itt(K:PySem.W.Frag)(a:Addr):It :=
 ⟨fun i H=>∃ xs x,SqT K H a xs∧xs[i]? = some x,fun i H x H'=>H'=H∧∀ xs,SqT K H a xs→xs[i]? = some x,fun i H=>∃ xs,SqT K H a xs∧xs.length≤i⟩
noncomputable def Itr(lo:Int)(n:Nat):It:=⟨fun i _=>i<n,fun i H x H'=>H'=H∧x=.int (lo+i),fun i _=>n≤i⟩
theorem turn_list{P:Program}{w:World}{K:PySem.W.Frag}{tg:Expr}(a it:Addr):Turn P w K tg (Itl K a) [it] it (fun i h=>h.IsListIter it a i) where
 mem:=by simp
 obj:=fun i h st b hb=>by
   have e:b=it:=by simpa using hb
   subst e
   obtain ⟨o,e,c,d⟩:=st
   exact ⟨o,e,fun v z=>by rw [d] at z;cases z⟩
 keep:=fun i h h' st k=>st.at fun o e=>k it (by simp) o e
 item:=by
   intro X hP hw hK hc i pins s σ H E I hf st hg
   subst hP hw hK
   obtain ⟨xs,x,hq,hx⟩:=hg
   obtain ⟨its,rv,p,hz⟩:=I.list hq
   obtain ⟨u,hu,ru⟩:=rv.get hx
   obtain ⟨f0,f1,f2,f3,f4,f5⟩:=hf it (by simp)
   refine wpAny_pyNext_list_item st p.isList (x:=u) (by simpa using hu) fun h' st' sb=>?_
   have I1:Inv X pins σ H {s with heap:=h'}:=I.turned (t':=s.toks) (fun b o hb e=>(sb.2 b hb).trans e) f0 f1 f3 f4 f5
   obtain ⟨o,e,c,d⟩:=id st'
   exact ⟨u,rfl,go_of (s:={s with heap:=h'}) e c d (by decide) ⟨x,H,I1,ru,⟨rfl,fun ys hy=>by rw [I.list_inj hy hq];exact hx⟩,st',fun b hb=>(hf b hb).1⟩⟩
 done:=by
   intro X hP hw hK hc i pins s σ H E I hf st hg
   subst hP hw hK
   obtain ⟨xs,hq,hx⟩:=hg
   obtain ⟨its,rv,p,hz⟩:=I.list hq
   obtain ⟨f0,f1,f2,f3,f4,f5⟩:=hf it (by simp)
   have hl:=rv.length
   exact wpAny_pyNext_list_end (I.ok.hd hc) st p.isList (by simp;omega) fun h' eb=>⟨rfl,I.turned (t':=s.toks) (fun b o hb e=>eb b o hb e) f0 f1 f3 f4 f5⟩
 self:=fun _ _ _ _ _ st h=>wpAny_pyIter_listiter st h
theorem turn_tuple{P:Program}{w:World}{K:PySem.W.Frag}{tg:Expr}(a it:Addr):Turn P w K tg (Itt K a) [it] it (fun i h=>h.IsTupleIter it a i) where
 mem:=by simp
 obj:=fun i h st b hb=>by
   have e:b=it:=by simpa using hb
   subst e
   obtain ⟨o,e,c,d⟩:=st
   exact ⟨o,e,fun v z=>by rw [d] at z;cases z⟩
 keep:=fun i h h' st k=>st.at fun o e=>k it (by simp) o e
 item:=by
   intro X hP hw hK hc i pins s σ H E I hf st hg
   subst hP hw hK
   obtain ⟨xs,x,hq,hx⟩:=hg
   obtain ⟨its,rv,p,hz⟩:=I.tuple hq
   obtain ⟨u,hu,ru⟩:=rv.get hx
   obtain ⟨f0,f1,f2,f3,f4,f5⟩:=hf it (by simp)
   refine wpAny_pyNext_tuple_item st (show s.heap.IsTuple a its.toArray from p) (x:=u) (by simpa using hu) fun h' st' sb=>?_
   have I1:Inv X pins σ H {s with heap:=h'}:=I.turned (t':=s.toks) (fun b o hb e=>(sb.2 b hb).trans e) f0 f1 f3 f4 f5
   obtain ⟨o,e,c,d⟩:=id st'
   exact ⟨u,rfl,go_of (s:={s with heap:=h'}) e c d (by decide) ⟨x,H,I1,ru,⟨rfl,fun ys hy=>by rw [I.tuple_inj hy hq];exact hx⟩,st',fun b hb=>(hf b hb).1⟩⟩
 done:=by
   intro X hP hw hK hc i pins s σ H E I hf st hg
   subst hP hw hK
   obtain ⟨xs,hq,hx⟩:=hg
   obtain ⟨its,rv,p,hz⟩:=I.tuple hq
   obtain ⟨f0,f1,f2,f3,f4,f5⟩:=hf it (by simp)
   have hl:=rv.length
   exact wpAny_pyNext_tuple_end (I.ok.hd hc) st (show s.heap.IsTuple a its.toArray from p) (by simp;omega) fun h' eb=>⟨rfl,I.turned (t':=s.toks) (fun b o hb e=>eb b o hb e) f0 f1 f3 f4 f5⟩
 self:=fun _ _ _ _ _ st h=>wpAny_pyIter_tupleiter st h
theorem turn_range{P:Program}{w:World}{K:PySem.W.Frag}{tg:Expr}(it:Addr)(lo:Int)(n:Nat):Turn P w K tg (Itr lo n) [it] it (fun i h=>IsRangeIter h it (lo+(i:Nat) * 1) ((n:Int) - (i:Nat)) 1) where
 mem:=by simp
 obj:=fun i h st b hb=>by
   have e:b=it:=by simpa using hb
   subst e
   exact ⟨_,st,fun v z=>by
     have z':Data.fields _=Data.cell v:=z
     cases z'⟩
 keep:=fun i h h' st k=>k it (by simp) _ st
 item:=by
   intro X hP hw hK hc i pins s σ H E I hf st hg
   subst hP hw hK
   obtain ⟨f0,f1,f2,f3,f4,f5⟩:=hf it (by simp)
   have W:=Walks.range (prog:=X.prog) (w:=X.w) (I.ok.hd hc) it lo 1 n
   refine W.item i s _ _ hg st fun v h' tk hv st' kk=>?_
   obtain ⟨t,rfl⟩:=hv
   have I1:Inv X pins σ H {s with heap:=h',toks:=tk}:=I.turned (fun b o hb e=>kk b o (by simpa using hb) e) f0 f1 f3 f4 f5
   refine ⟨_,rfl,go_of (s:={s with heap:=h',toks:=tk}) (n := "range_iterator") st' rfl rfl (by decide) ⟨.int (lo+i),H,I1,⟨t,?_⟩,⟨rfl,rfl⟩,st',fun b hb=>(hf b hb).1⟩⟩
   rw [Int.mul_one]
 done:=by
   intro X hP hw hK hc i pins s σ H E I hf st hg
   subst hP hw hK
   obtain ⟨f0,f1,f2,f3,f4,f5⟩:=hf it (by simp)
   exact wpAny_pyNext_range_end (I.ok.hd hc) st (by have:n≤i:=hg;omega) fun h' eb=>⟨rfl,I.turned (t':=s.toks) (fun b o hb e=>eb b o hb e) f0 f1 f3 f4 f5⟩
 self:=fun _ _ _ _ _ st h=>wpAny_pyIter_rangeiter st h
end L2
namespace L2
open PySem PySem.Spec PyProof.Rows
section
variable {X:Cx}{tg:Expr}
theorem range_it{pins:List (Addr×Obj)}{σ:St}{H:Hp}{s:Shared}{R:It→Hp→Prop}{E:Value→Shared→Prop}{lo hi:Int}{t u v:Tok}{tk:Nat}(I:Inv X pins σ H s)(h1:-(2 ^ 62)≤lo)(h2:lo<2 ^ 62)(h3:-(2 ^ 62)≤hi)(h4:hi<2 ^ 62)
   (q:R (Itr lo (hi - lo).toNat) H):wpAny (model X.prog X.w) X.A (pyIter (.ref s.heap.objs.size)) (PIE X pins σ tg R) E {s with heap:=s.heap.push {cls:=.type "range",data:=.fields #[.int lo t,.int hi u,.int 1 v]},toks:=tk}:=by
 refine wpAny_pyIter_range (IsRange.new ..) (small_one h1 h2 h3 h4) ?_
 have I1:Inv X pins σ H {s with heap:=s.heap.push {cls:=.type "range",data:=.fields #[.int lo t,.int hi u,.int 1 v]},toks:=tk}:=I.kept fun b o e=>Ωd _ e
 refine ⟨(s.heap.push {cls:=.type "range",data:=.fields #[.int lo t,.int hi u,.int 1 v]}).objs.size,[(s.heap.push {cls:=.type "range",data:=.fields #[.int lo t,.int hi u,.int 1 v]}).objs.size],_,_,H,rfl,
   I1.kept (t':=tk) fun b o e=>Ωd _ e,turn_range _ lo (hi - lo).toNat,?_,fun b hb=>?_,q⟩
 · have e1:lo+((0:Nat):Int) * 1=lo:=by simp
   have e2:(((hi - lo).toNat:Nat):Int) - ((0:Nat):Int)=Builtin.Range.rangeSize lo hi 1:=by rw [rangeSize_one];split<;>omega
   show IsRangeIter _ _ (lo+((0:Nat):Int) * 1) ((((hi - lo).toNat:Nat):Int) - ((0:Nat):Int)) 1
   rw [e1,e2]
   exact Ωj _ rfl
 · have e:b=(s.heap.push {cls:=.type "range",data:=.fields #[.int lo t,.int hi u,.int 1 v]}).objs.size:=by simpa using hb
   subst e
   exact I1.fpOk (Ωq _) (I1.hok.fresh (Ωq _))
noncomputable def iRng1(ta:TA):TI:=fun σ H R=>ta σ H fun vs H1=>∃ j:Int,vs=[.int j]∧-(2 ^ 62)≤j∧j<2 ^ 62∧R (Itr 0 j.toNat) H1
theorem pi_range1 {a:Expr}{ta:TA}{p pos:Pos} (hg:Gl X "range") (hm:X.mg "range" = none) (ha:PA X [a] ta) (hs:starEach [a] X.env=[(false,eval a X.env)]:=by rfl):PI X tg (.Call (.Name "range" p) [a] [] pos) (iRng1 ta):=by
 intro pins s σ H R I h
 refine Call_ (ld_blt I hg hm boot_range (PyProof.Rows.callWith_type1 (thn (ha pos pins s σ H _ I h) fun us s1 ⟨vs,H1,I1,r1,q1⟩=>?_) hs rfl))
 obtain ⟨j,e,q1,q2,q⟩:=q1
 subst e
 cases r1 with
 | cons r rr =>
   cases rr
   obtain ⟨t,rfl⟩:=r
   exact call_range_1 (range_it I1 (by omega) (by omega) q1 q2 (by simpa using q))
noncomputable def tFor(wi:TI)(g:TG)(tb:TS):TS:=fun D σ H=>wi σ H fun J H1=>∃ W:Nat→Nat→St→Hp→Prop,(∃ m,W 0 m σ H1)∧∀ i m σ H,W i m σ H →
 (J.stop i H∧D.nx σ H)∨(J.go i H∧∃ N:St→Hp→Prop,(∀ σ' H',N σ' H'→∃ m',m'<m∧W (i+1) m' σ' H')∧∀ x H',J.yld i H x H'→g x σ H' fun σ2 H2=>tb {D with nx:=N,ct:=N,bk:=D.nx} σ2 H2)
noncomputable def pinsAt(fp:List Addr)(h:Heap):List (Addr×Obj):=fp.filterMap fun b=>(h.get? b).map fun o=>(b,o)
theorem mem_pinsAt{fp:List Addr}{h:Heap}{b:Addr}{o:Obj}(hb:b∈fp)(e:h.get? b=some o):(b,o)∈pinsAt fp h:=List.mem_filterMap.mpr ⟨b,hb,by rw [e];rfl⟩
theorem of_pinsAt{fp:List Addr}{h:Heap}{p:Addr×Obj}(hp:p∈pinsAt fp h):p.1∈fp∧h.get? p.1=some p.2:=by
 obtain ⟨b,hb,e⟩:=List.mem_filterMap.mp hp
 cases q:h.get? b with
 | none=>rw [q] at e;cases e
 | some o =>
   rw [q] at e
   have e':(b,o)=p:=Option.some.inj e
   subst e'
   exact ⟨hb,q⟩
theorem Inv.pinned{pins:List (Addr×Obj)}{σ:St}{H:Hp}{s:Shared}{fp:List Addr}(I:Inv X pins σ H s)(hf:∀ b∈fp,FpOk X pins H b)(ho:∀ b∈fp,∃ o,s.heap.get? b=some o∧∀ v,o.data≠.cell v):Inv X (pins++pinsAt fp s.heap) σ H s :=
 I.pins_of fun p hp=>(ΩD.mp hp).elim (fun z=>I.pin p (Ωv _ z)) fun z=>by
   obtain ⟨hb,e⟩:=of_pinsAt z
   obtain ⟨f0,f1,f2,_⟩:=hf p.1 hb
   obtain ⟨o,e',d⟩:=ho p.1 hb
   rw [e] at e';cases e'
   exact ⟨e,f0,f1,f2,d⟩
theorem Inv.unpinned{pins pl:List (Addr×Obj)}{σ:St}{H:Hp}{s:Shared}(I:Inv X (pins++pl) σ H s):Inv X pins σ H s:=I.pins_of fun p hp=>I.pin p (Ωv _ (List.mem_append_left _ hp))
theorem ps_for{iter:Expr}{body:List Stmt}{wi:TI}{g:TG}{tb:TS}{pos:Pos}(hp:PassesOwn (model X.prog X.w) X.A X.env X.xe)(hc:X.calm=true)(hi:PI X tg iter wi)(hg:PG X tg g)(hb:PSs X body tb)
   (hs:∀ x,foldedSetIterable iter X.env x=pure x:=by intro _;rfl):PS X (.For tg iter body [] pos) (tFor wi g tb):=by
 intro pins s σ H D I h
 refine wpAny_For (thn (hi pins s σ H _ I h) fun v s1 h1=>thn h1 fun itv s2 h2=>?_) hs
 obtain ⟨it,fp,tn,J,H2,e,I2,T,st2,f2,W,⟨m0,w0⟩,turn⟩:=h2
 subst e
 have stat:∀ {H':Hp},(∀ b∈fp,H' b=none)→∀ b∈fp,FpOk X pins H' b:=fun hn b hb=>⟨hn b hb,(f2 b hb).2⟩
 refine codeAny_forLoop_any (fun n s'=>∃ i σ' H',Inv X pins σ' H' s'∧tn i s'.heap∧(∀ b∈fp,H' b=none)∧W i n σ' H') ?_ m0 ⟨0,σ,H2,I2,st2,fun b hb=>(f2 b hb).1,w0⟩
 rintro n s3 ⟨i,σ3,H3,I3,st3,fr3,w3⟩
 rcases turn i n σ3 H3 w3 with ⟨stop,qn⟩|⟨go,N,hN,step⟩
 · refine wpAny_passesOwn hp (thn (T.done X rfl rfl rfl hc i pins s3 σ3 H3 X.xe I3 (stat fr3) st3 stop) fun r s4 ⟨hr,I4⟩=>?_)
   subst hr
   exact wpAny_execs_nil ⟨σ3,H3,I4,qn⟩
 · refine wpAny_passesOwn hp (thn (T.item X rfl rfl rfl hc i pins s3 σ3 H3 X.xe I3 (stat fr3) st3 go) fun r s4 ⟨u,hr,h4⟩=>?_)
   subst hr
   refine wpAny_passesOwn hp (thn h4 fun _ s5 ⟨x,H5,I5,r5,y5,st5,fr5⟩=>?_)
   have I5':=I5.pinned (stat fr5) (T.obj _ _ st5)
   refine wpAny_passesOwn hp (thn (hg _ s5 σ3 H5 x u _ I5' r5 (step x H5 y5)) fun _ s6 ⟨σ6,H6,I6,q6⟩=>?_)
   refine wpAny_passesOwn hp (thn (hb _ s6 σ6 H6 _ I6 q6) fun f s7 q7=>?_)
   have again:∀ {σ7:St}{H7:Hp},Inv X (pins++pinsAt fp s5.heap) σ7 H7 s7→N σ7 H7→∃ m,m<n∧∃ i σ' H',Inv X pins σ' H' s7∧tn i s7.heap∧(∀ b∈fp,H' b=none)∧W i m σ' H':=fun {σ7 H7} I7 n7=>by
     obtain ⟨m',hm,w7⟩:=hN σ7 H7 n7
     refine ⟨m',hm,i+1,σ7,H7,I7.unpinned,T.keep _ _ _ st5 fun b hb o e=>(I7.pin (b,o) (Ωv _ (Ωv _ (mem_pinsAt hb e)))).1,fun b hb=>?_,w7⟩
     obtain ⟨o,e,d⟩:=T.obj _ _ st5 b hb
     exact (I7.pin (b,o) (Ωv _ (Ωv _ (mem_pinsAt hb e)))).2.1
   cases f with
   | next=>obtain ⟨σ7,H7,I7,n7⟩:=q7;exact again I7 n7
   | cont=>obtain ⟨σ7,H7,I7,n7⟩:=q7;exact again I7 n7
   | brk=>obtain ⟨σ7,H7,I7,q7⟩:=q7;exact ⟨σ7,H7,I7.unpinned,q7⟩
   | ret v=>obtain ⟨x7,σ7,H7,I7,r7,q7⟩:=q7;exact ⟨x7,σ7,H7,I7.unpinned,r7,q7⟩
end
end L2
namespace L2
open PySem PySem.Spec PyProof.Rows
noncomputable abbrev R2:=V→V→Hp→VK→Prop
noncomputable def OpR(X:Cx)(f:Value→Value→Sem Value)(r:R2):Prop :=
 ∀ (pins:List (Addr×Obj)) (s:Shared) (σ:St) (H:Hp) (x y:V) (v u:Value) (Q:VK),Inv X pins σ H s→RelV x v→RelV y u→r x y H Q →
   wpAny (model X.prog X.w) X.A (f v u) (EP X pins σ Q) X.xe s
noncomputable def UnR(X:Cx)(f:Value→Sem Value)(r:V→Hp→VK→Prop):Prop :=
 ∀ (pins:List (Addr×Obj)) (s:Shared) (σ:St) (H:Hp) (x:V) (v:Value) (Q:VK),Inv X pins σ H s→RelV x v→r x H Q →
   wpAny (model X.prog X.w) X.A (f v) (EP X pins σ Q) X.xe s
noncomputable def CallR(X:Cx)(f:Value)(r:List V→Hp→VK→Prop):Prop :=
 ∀ (pins:List (Addr×Obj)) (s:Shared) (σ:St) (H:Hp) (xs:List V) (us:List Value) (Q:VK),Inv X pins σ H s→Vals xs us→r xs H Q →
   wpAny (model X.prog X.w) X.A (call f us) (EP X pins σ Q) X.xe s
noncomputable def TruR(X:Cx)(r:V→Hp→(Bool→Hp→Prop)→Prop):Prop :=
 ∀ (pins:List (Addr×Obj)) (s:Shared) (σ:St) (H:Hp) (x:V) (v:Value) (Q:Bool→Hp→Prop),Inv X pins σ H s→RelV x v→r x H Q →
   wpAny (model X.prog X.w) X.A (truthy v) (TP X pins σ Q) X.xe s
noncomputable def tOp(r:R2)(ta tb:TE):TE:=fun σ H Q=>ta σ H fun x H1=>tb σ H1 fun y H2=>r x y H2 Q
noncomputable def tUn(r:V→Hp→VK→Prop)(ta:TE):TE:=fun σ H Q=>ta σ H fun x H1=>r x H1 Q
noncomputable def rI(C:Int→Int→Prop)(g:Int→Int→V):R2:=fun x y H Q=>∃ i j,x=.int i∧y=.int j∧C i j∧Q (g i j) H
noncomputable def rI0(g:Int→Int→V):R2:=fun x y H Q=>∃ i j,x=.int i∧y=.int j∧Q (g i j) H
noncomputable def rU(g:Int→V):V→Hp→VK→Prop:=fun x H Q=>∃ i,x=.int i∧Q (g i) H
section
variable {X:Cx}{a b c:Expr}{ta tb tc:TE}{pos:Pos}
theorem binT(ha:PE X a ta)(hb:PE X b tb){pins:List (Addr×Obj)}{s:Shared}{σ:St}{H:Hp}{R:V→V→Hp→Prop}(I:Inv X pins σ H s)
   (h:ta σ H fun x H1=>tb σ H1 fun y H2=>R x y H2) {Q:Value→Shared→Prop}{f:Value→Value→Sem Value}
   (hf:∀ v u s2 x y H2,Inv X pins σ H2 s2→RelV x v→RelV y u→R x y H2→wpAny (model X.prog X.w) X.A (f v u) Q X.xe s2) :
   wpAny (model X.prog X.w) X.A (eval a X.env) (fun v s₁=>wpAny (model X.prog X.w) X.A (eval b X.env) (fun u s₂=>wpAny (model X.prog X.w) X.A (f v u) Q X.xe s₂) X.xe s₁) X.xe s:=by
 refine thn (ha pins s σ H _ I h) fun v s1 ⟨x,H1,I1,r1,q1⟩=>?_
 refine thn (hb pins s1 σ H1 _ I1 q1) fun u s2 ⟨y,H2,I2,r2,q2⟩=>?_
 exact hf v u s2 x y H2 I2 r1 r2 q2
theorem pe_op{op:Operator}{r:R2}(ho:OpR X (binaryOp op) r)(ha:PE X a ta)(hb:PE X b tb):PE X (.BinOp a op b pos) (tOp r ta tb):=by
 intro pins s σ H Q I h
 exact wpAny_BinOp (binT ha hb I h fun v u s2 x y H2 I2 rx ry q=>ho pins s2 σ H2 x y v u Q I2 rx ry q)
theorem pe_un{op:UnaryOp}{r:V→Hp→VK→Prop}(ho:UnR X (unaryOp op) r)(ha:PE X a ta):PE X (.UnaryOp op a pos) (tUn r ta):=by
 intro pins s σ H Q I h
 exact UnaryOp_ (thn (ha pins s σ H _ I h) fun v s1 ⟨x,H1,I1,r1,q1⟩=>ho pins s1 σ H1 x v Q I1 r1 q1)
theorem opI{f:Value→Value→Sem Value}{C:Int→Int→Prop}{g:Int→Int→Int}
   (rule:∀ (i j:Int) (t u:Tok) (s:Shared) (Q:Value→Shared→Prop) (E:Value→Shared→Prop),C i j→Q (.int (g i j) s.toks) {s with toks:=s.toks+1}→wpAny (model X.prog X.w) X.A (f (.int i t) (.int j u)) Q E s) :
   OpR X f (rI C fun i j=>.int (g i j)):=by
 intro pins s σ H x y v u Q I rx ry h
 obtain ⟨i,j,rfl,rfl,hc,q⟩:=h
 obtain ⟨t,rfl⟩:=rx
 obtain ⟨t',rfl⟩:=ry
 exact rule i j t t' s _ _ hc ⟨.int (g i j),H,I.tok _,⟨_,rfl⟩,q⟩
theorem opI0{f:Value→Value→Sem Value}{g:Int→Int→Int}
   (rule:∀ (i j:Int) (t u:Tok) (s:Shared) (Q:Value→Shared→Prop) (E:Value→Shared→Prop),Q (.int (g i j) s.toks) {s with toks:=s.toks+1}→wpAny (model X.prog X.w) X.A (f (.int i t) (.int j u)) Q E s) :
   OpR X f (rI0 fun i j=>.int (g i j)):=by
 intro pins s σ H x y v u Q I rx ry h
 obtain ⟨i,j,rfl,rfl,q⟩:=h
 obtain ⟨t,rfl⟩:=rx
 obtain ⟨t',rfl⟩:=ry
 exact rule i j t t' s _ _ ⟨.int (g i j),H,I.tok _,⟨_,rfl⟩,q⟩
theorem opB0{f:Value→Value→Sem Value}{g:Int→Int→Bool}
   (rule:∀ (i j:Int) (t u:Tok) (s:Shared) (Q:Value→Shared→Prop) (E:Value→Shared→Prop),Q (.bool (g i j)) s→wpAny (model X.prog X.w) X.A (f (.int i t) (.int j u)) Q E s) :
   OpR X f (rI0 fun i j=>.bl (g i j)):=by
 intro pins s σ H x y v u Q I rx ry h
 obtain ⟨i,j,rfl,rfl,q⟩:=h
 obtain ⟨t,rfl⟩:=rx
 obtain ⟨t',rfl⟩:=ry
 exact rule i j t t' s _ _ ⟨.bl (g i j),H,I,rfl,q⟩
noncomputable def CDiv(i j:Int):Prop:=0<j∧j<1073741824
noncomputable def CPow(i j:Int):Prop:=0≤j∧j≤1000000∧i.natAbs<2 ^ 64
theorem op_add:OpR X (binaryOp .Add) (rI0 fun i j=>.int (i+j)):=opI0 fun _ _ _ _ _ _ _ q=>add_int q
theorem op_sub:OpR X (binaryOp .Sub) (rI0 fun i j=>.int (i - j)):=opI0 fun _ _ _ _ _ _ _ q=>sub_int q
theorem op_fdiv:OpR X (binaryOp .FloorDiv) (rI CDiv fun i j=>.int (i / j)):=opI fun i j _ _ _ _ _ hc q=>by
 have h1:(0:Int)<j:=hc.1
 have h2:j<1073741824:=hc.2
 exact floordiv_int (by omega) (by rw [Int.fdiv_eq_ediv_of_nonneg i (by omega)];exact q) (.inl (PyProof.noPylong_small (by omega)))
theorem op_mod:OpR X (binaryOp .Mod) (rI (fun _ j=>0<j) fun i j=>.int (i % j)):=opI fun i j _ _ _ _ _ hc q=>by
 have h1:(0:Int)<j:=hc
 exact mod_int' (by omega) (by rw [Int.fmod_eq_emod_of_nonneg i (by omega)];exact q)
theorem op_pow:OpR X (binaryOp .Pow) (rI CPow fun i j=>.int (i ^ j.toNat)):=opI fun _ _ _ _ _ _ _ hc q=>pow_int_small hc.1 hc.2.1 hc.2.2 q
theorem unI{f:Value→Sem Value}{g:Int→Int}
   (rule:∀ (i:Int) (t:Tok) (s:Shared) (Q:Value→Shared→Prop) (E:Value→Shared→Prop),Q (.int (g i) s.toks) {s with toks:=s.toks+1}→wpAny (model X.prog X.w) X.A (f (.int i t)) Q E s) :
   UnR X f (rU fun i=>.int (g i)):=by
 intro pins s σ H x v Q I rx h
 obtain ⟨i,rfl,q⟩:=h
 obtain ⟨t,rfl⟩:=rx
 exact rule i t s _ _ ⟨.int (g i),H,I.tok _,⟨_,rfl⟩,q⟩
theorem un_neg:UnR X (unaryOp .USub) (rU fun i=>.int (-i)):=unI fun _ _ _ _ _ q=>neg_int q
end
section
variable {X:Cx}{a b c:Expr}{ta tb tc:TE}{pos:Pos}
theorem fin_bl{pins:List (Addr×Obj)}{σ:St}{H:Hp}{s:Shared}{Q:VK}{k k':Bool}(I:Inv X pins σ H s)(q:Q (.bl k) H)(e:k=k'):EP X pins σ Q (.bool k') s:=by
 subst e
 exact ⟨.bl k,H,I,rfl,q⟩
theorem op_lt:OpR X (compareOp .Lt) (rI0 fun i j=>.bl (decide (i<j))):=opB0 fun _ _ _ _ _ _ _ q=>lt_int q
theorem op_le:OpR X (compareOp .LtE) (rI0 fun i j=>.bl (decide (i≤j))):=opB0 fun _ _ _ _ _ _ _ q=>le_int q
theorem op_gt:OpR X (compareOp .Gt) (rI0 fun i j=>.bl (decide (j<i))):=opB0 fun _ _ _ _ _ _ _ q=>gt_int q
theorem op_ge:OpR X (compareOp .GtE) (rI0 fun i j=>.bl (decide (j≤i))):=opB0 fun _ _ _ _ _ _ _ q=>ge_int q
theorem op_isN:OpR X (compareOp .Is) (fun x y H Q=>y=.non∧Q (.bl (decide (x=.non))) H):=by
 intro pins s σ H x y v u Q I rx ry h
 obtain ⟨rfl,q⟩:=h
 cases ry
 refine is_none_gen (fin_bl I q ?_)
 cases x<;>first
   | (cases rx;rfl)
   | (obtain ⟨t,rfl⟩:=rx;rfl)
theorem op_notN:OpR X (compareOp .IsNot) (fun x y H Q=>y=.non∧Q (.bl (!decide (x=.non))) H):=by
 intro pins s σ H x y v u Q I rx ry h
 obtain ⟨rfl,q⟩:=h
 cases ry
 refine isnot_none_gen (fin_bl I q ?_)
 cases x<;>first
   | (cases rx;rfl)
   | (obtain ⟨t,rfl⟩:=rx;rfl)
theorem pe_cmpR{op:CmpOp}{r:R2}(ho:OpR X (compareOp op) r)(ha:PE X a ta)(hb:PE X b tb)(hm:behindInMarks op b=false):PE X (.Compare a [op] [b] pos) (tOp r ta tb):=by
 intro pins s σ H Q I h
 exact wpAny_Compare1 (binT ha hb I h fun v u s2 x y H2 I2 rx ry q=>ho pins s2 σ H2 x y v u Q I2 rx ry q) hm
noncomputable def tTest(t:TE):TT:=fun σ H Q=>t σ H fun x H'=>∃ k,x=.bl k∧Q k H'
theorem pt_cmpR{op:CmpOp}{r:R2}(ho:OpR X (compareOp op) r)(ha:PE X a ta)(hb:PE X b tb)(hm:behindInMarks op b=false):PT X (.Compare a [op] [b] pos) (tTest (tOp r ta tb)):=by
 intro pins s σ H Q I h
 refine wpAny_isTrue_Compare1 (thn (ha pins s σ H _ I h) fun v s1 ⟨x,H1,I1,r1,q1⟩=>thn (hb pins s1 σ H1 _ I1 q1) fun u s2 ⟨y,H2,I2,r2,q2⟩ =>
   thn (ho pins s2 σ H2 x y v u _ I2 r1 r2 q2) fun c s3 ⟨z,H3,I3,r3,k,e,q3⟩=>?_) hm
 subst e
 cases r3
 exact wpAny_truthy_bool ⟨H3,I3,q3⟩
noncomputable def TruV(K:PySem.W.Frag)(x:V)(H:Hp)(k:Bool):Prop :=
 match x with
 | .non=>k=false
 | .bl b=>k=b
 | .int i=>k=(i != 0)
 | .str y=>y.length≤sizeLine∧k=((y.length:Int) != 0)
 | .byt y=>y.size≤sizeLine∧k=((y.size:Int) != 0)
 | .ref p=>(∃ xs,SqL K H p xs∧k=!xs.isEmpty)∨(∃ xs,SqT K H p xs∧k=!xs.isEmpty)∨∃ kvs,H p=some (.dK kvs)∧k=!kvs.isEmpty
 | _=>False
theorem isEmpty_kv{κ:Type}{kvs:List (κ×V)}{vs:List (κ×Value)}(r:KV kvs vs):(!vs.isEmpty)=!kvs.isEmpty:=by
 cases r<;>rfl
theorem isEmpty_of{xs:List V}{its:List Value}(r:Vals xs its):(!its.toArray.isEmpty)=!xs.isEmpty:=by
 cases r<;>simp
theorem line63:(sizeLine:Nat)<2 ^ 63:=by rw [sizeLine_eq];decide
theorem tru_ok:TruR X (fun x H Q=>∃ k,TruV X.K x H k∧Q k H):=by
 intro pins s σ H x v Q I rx h
 obtain ⟨k,e,q⟩:=h
 have hl:=line63
 have hs:sizeLine=16777216:=sizeLine_eq
 cases x with
 | non =>
   cases rx
   have e':k=false:=e
   subst e'
   exact truthy_none ⟨H,I,q⟩
 | bl b =>
   cases rx
   have e':k=b:=e
   subst e'
   exact wpAny_truthy_bool ⟨H,I,q⟩
 | int i =>
   obtain ⟨t,rfl⟩:=rx
   have e':k=(i != 0):=e
   subst e'
   exact PySem.P.truthy_int ⟨H,I,q⟩
 | str y =>
   obtain ⟨t,rfl⟩:=rx
   obtain ⟨hy,e'⟩:y.length≤sizeLine∧k=((y.length:Int) != 0):=e
   subst e'
   exact PySem.P.truthy_str (by omega) ⟨H,I.tok _,q⟩
 | byt y =>
   obtain ⟨t,rfl⟩:=rx
   obtain ⟨hy,e'⟩:y.size≤sizeLine∧k=((y.size:Int) != 0):=e
   subst e'
   exact PySem.W.truthy_bytes (by omega) ⟨H,I.tok _,q⟩
 | ref p =>
   cases rx
   have e':(∃ xs,SqL X.K H p xs∧k=!xs.isEmpty)∨(∃ xs,SqT X.K H p xs∧k=!xs.isEmpty)∨∃ kvs,H p=some (.dK kvs)∧k=!kvs.isEmpty:=e
   rcases e' with ⟨xs,hx,e'⟩|⟨xs,hx,e'⟩|⟨kvs,hx,e'⟩
   · subst e'
     obtain ⟨its,r,pl,hz⟩:=I.list hx
     have hlen:=r.length
     exact wpAny_truthy_list pl.isList (by simp only [Ωf];omega) ⟨H,I.tok _,by rw [isEmpty_of r];exact q⟩
   · subst e'
     obtain ⟨its,r,pl,hz⟩:=I.tuple hx
     have hlen:=r.length
     exact truthy_tuple pl (by simp only [Ωf];omega) ⟨H,I.tok _,by rw [isEmpty_of r];exact q⟩
   · subst e'
     obtain ⟨hz,hS,vs,r,m⟩:kvs.length≤sizeLine∧(p==sysModules)=false∧∃ vs,KV kvs vs∧s.heap.DictOf (mixKind X.prog X.w) p vs:=I.hok p _ hx
     have hlen:kvs.length=vs.length:=Paired.length r
     exact wpAny_truthy_dict hS m (by omega) ⟨H,I.tok _,by rw [isEmpty_kv r];exact q⟩
 | _=>exact (show False from e).elim
theorem pt_truth(ha:PE X a ta)(he:∀ whole,isTrue a X.env whole=(do let v ← whole;standAt a.pos;holding [v] (truthy v))) :
   PT X a (fun σ H Q=>ta σ H fun x H'=>∃ k,TruV X.K x H' k∧Q k H'):=by
 intro pins s σ H Q I h
 exact isTrue_plain (thn (ha pins s σ H _ I h) fun v s1 ⟨x,H1,I1,r1,q1⟩=>tru_ok pins s1 σ H1 x v Q I1 r1 q1) (he _)
theorem op_add_str:OpR X (binaryOp .Add) (fun x y H Q=>∃ i j,x=.str i∧y=.str j∧i.length+j.length≤sizeLine∧Q (.str (i++j)) H):=by
 intro pins s σ H x y v u Q I rx ry h
 obtain ⟨i,j,rfl,rfl,hz,q⟩:=h
 obtain ⟨t,rfl⟩:=rx
 obtain ⟨t',rfl⟩:=ry
 exact add_str (fun t' tk=>⟨.str (i++j),H,I.tok _,⟨_,rfl⟩,q⟩) hz
theorem vals1{x:V}{us:List Value}(r:Vals [x] us):∃ u,us=[u]∧RelV x u:=by
 cases r with
 | cons r1 r2=>cases r2;exact ⟨_,rfl,r1⟩
theorem vals2{x y:V}{us:List Value}(r:Vals [x,y] us):∃ u w',us=[u,w']∧RelV x u∧RelV y w':=by
 cases r with
 | cons r1 r2 =>
   cases r2 with
   | cons r3 r4=>cases r4;exact ⟨_,_,rfl,r1,r3⟩
end
end L2
namespace L2
open PySem PySem.Spec PyProof.Rows
structure ObjM(h:Heap)(x dx C:Addr)(mA:Str→Option Value):Prop where
 obj:h.get? x=some (PySem.W.instObj C dx)
 ns:h.Ns1 dx mA
 ne:dx≠x
theorem lookIn_ns{h:Heap}{dx:Addr}{mA:Str→Option Value}(n:h.Ns1 dx mA):∃ od,h.get? dx=some od∧∀ name,PySem.W.lookIn name od=some (mA name):=by
 obtain ⟨o,es,ep,ho,hd,hk,_,hm⟩:=n
 refine ⟨o,ho,fun name=>?_⟩
 have e:=hm name
 unfold nsFind findBy at e
 rw [← Array.find?_toList] at e
 unfold PySem.W.lookIn
 rw [hd]
 dsimp only
 split
 · rename_i y q
   rw [q] at e
   exact congrArg some e
 · rename_i q
   rw [q] at e
   have a:es.toList.any (·.refKey)=false:=by
     rw [List.any_eq_false]
     intro y hy
     obtain ⟨z,t,hkey⟩:=hk y (Array.mem_toList_iff.mp hy)
     simp [DictEntry.refKey,hkey]
   have a':¬ es.toList.any (·.refKey)=true:=by rw [a];exact Ωw
   rw [if_neg a']
   exact congrArg some e
theorem ObjM.look{h:Heap}{x dx C:Addr}{mA:Str→Option Value}(I:ObjM h x dx C mA):∃ od,PySem.W.InstAt h x (PySem.W.instObj C dx) C (some od)∧∀ name,PySem.W.lookIn name od=some (mA name) :=
 let ⟨od,ho,hl⟩:=lookIn_ns I.ns
 ⟨od,⟨I.obj,rfl,rfl,ho⟩,hl⟩
section
variable {prog:Program}{w:World}{A:Around}{E:Value→Shared→Prop}{s:Shared}{K:PySem.W.Frag}{x dx C f:Addr}{mA:Str→Option Value}{name:Str}{v:Value}
theorem get_map{expr:Bool}{Q:Value→Shared→Prop}(X:K.In s.heap)(I:ObjM s.heap x dx C mA)(hg:PySem.W.plainGet K C name=true)(hh:PySem.W.hasDictIn K C=true)
   (ha:PySem.W.findIn K (.ref C) name=some none) (hv:mA name=some v) (hv':PySem.W.handedIn v=true) (h:Q v {s with toks:=s.toks+1}) :
   wpAny (model prog w) A (getAttr (.ref x) name expr) Q E s:=by
 obtain ⟨od,J,hl⟩:=I.look
 exact PySem.W.get_value X J (PySem.W.plainGet_of hg).1 (PySem.W.findObj_own hh ha rfl (by rw [hl,hv])) hv' h
theorem get_meth{pl:Sem Bool}{Q:Value×List Value→Shared→Prop}(X:K.In s.heap)(I:ObjM s.heap x dx C mA)(hg:PySem.W.plainGet K C name=true)
   (hf:PySem.W.findIn K (.ref C) name=some (some (.ref f))) (ht:PySem.W.isFn K (.ref f)=true) (hv:mA name=none) (h:Q (.ref f,[.ref x]) s) :
   wpAny (model prog w) A (getMethod (.ref x) name pl) Q E s:=by
 obtain ⟨od,J,hl⟩:=I.look
 exact PySem.W.method_fn X J (PySem.W.plainGet_of hg).1 (PySem.W.plainGet_of hg).2 hf (beq_iff_eq.mp ht) (by show (PySem.W.lookIn name od).map (·.isSome)=some false;rw [hl,hv];rfl) h
theorem set_map{ns:List Str}{Q:Unit→Shared→Prop}(X:K.In s.heap)(I:ObjM s.heap x dx C mA)
   (hs:PySem.W.findIn K (.ref C) "__setattr__" = some (some (.builtin "object.__setattr__"))) (hp:PySem.W.plainOver K C=true) (ht:PySem.W.takerIn K C name=some none) (hh:PySem.W.hasDictIn K C=true)
   (hw:PySem.Within mA ns) (hsz:ns.length≤sizeLine)
   (h:∀ h',ObjM h' x dx C (fun y=>if y=name then some v else mA y)→Heap.SameBut dx s.heap h'→Q () {s with heap:=h',toks:=s.toks+2}) :
   wpAny (model prog w) A (setAttr (.ref x) name v) Q E s:=by
 obtain ⟨od,J,hl⟩:=I.look
 refine PySem.W.set_plain X J hs (PySem.W.osa_open (s:={s with toks:=s.toks+1}) (r:=none) X J hp ht fun b=>?_)
 obtain ⟨cd,hc,hd'⟩:=PySem.W.any_some hh
 have hx:s.heap.get? x=some ⟨.ref C,some dx,.plain,#[]⟩:=I.obj
 refine wpAny_bind (wpAny_pure (wpAny_bind (wpAny_bind (wpAny_loadPart hx (wpAny_bind (PySem.W.Looks.here (s:={s with toks:=s.toks+1}) (PySem.W.looks_clsIn X hc) ?_))))))
 rw [hd']
 refine wpAny_pure (a:=some dx) (wpAny_bind (wpAny_pure (wpAny_bind ?_)))
 refine wpAny_nsSet1 (s:={s with toks:=s.toks+1}) I.ns fun h' hn2 hs2=>?_
 obtain ⟨oD,esD,epD,hoD,hdD,hcD⟩:=hn2.count (PySem.Within.cons name v hw)
 refine wpAny_bind (wpAny_lookBehind hoD (by rw [hdD];exact pastItsLine_dict (ΩE hcD (by rw [Ωs];omega))) ?_)
 exact wpAny_pure (h _ ⟨(hs2.2 _ (Ne.symm I.ne)).trans I.obj,hn2,I.ne⟩ hs2)
theorem make_map{R:Result→Shared→Prop}{vs:List Value}{kw:List (Str×Value)}(X:K.In s.heap)(hm:PySem.W.makesIn K C=true)
   (hi:PySem.W.findIn K (.ref C) "__init__" = some (some (.ref f))) (hf:PySem.W.typeIn K (.ref f)=some (.type "function"))
   (h:codeAny (model prog w) (A.under (.builtin "type.__call__" ⟨.ref C::vs,kw⟩)) (.call (.ref f) ⟨.ref (s.heap.objs.size+1)::vs,kw⟩) (PySem.W.InitBack (s.heap.objs.size+1) R)
     {s with heap:=(s.heap.push PySem.W.emptyDict).push (PySem.W.instObj C s.heap.objs.size)}) :
   codeAny (model prog w) A (.call (.ref C) ⟨vs,kw⟩) R s:=by
 obtain ⟨hh,g,d,t,os⟩:=s
 exact PySem.W.make_core (PySem.W.makes_of X hm) (PySem.W.looks_findIn X hi) (fun self=>PySem.W.bind_fn X self hf) (.inl rfl) h
end
noncomputable def putF(f:Str)(v:V):List (Str×V)→List (Str×V)
 | []=>[(f,v)]
 | (g,x)::r=>if g=f then (g,v)::r else (g,x)::putF f v r
theorem lookup_putF(f g:Str)(v:V):∀ fs:List (Str×V),(putF f v fs).lookup g=if g=f then some v else fs.lookup g
 | []=>by
   show List.lookup g [(f,v)]=_
   by_cases h:g=f
   · have hb:(g==f)=true:=beq_iff_eq.mpr h
     simp only [List.lookup,hb,if_pos h]
   · have hb:(g==f)=false:=beq_eq_false_iff_ne.mpr h
     simp only [List.lookup,hb,if_neg h]
 | (k,x)::r=>by
   have ih:=lookup_putF f g v r
   rw [show putF f v ((k,x)::r)=(if k=f then (k,v)::r else (k,x)::putF f v r) from rfl]
   by_cases hk:k=f
   · rw [if_pos hk]
     by_cases h:g=k
     · have hb:(g==k)=true:=beq_iff_eq.mpr h
       simp only [List.lookup,hb,if_pos (h.trans hk)]
     · have hb:(g==k)=false:=beq_eq_false_iff_ne.mpr h
       simp only [List.lookup,hb,if_neg (fun e:g=f=>h (e.trans hk.symm))]
   · rw [if_neg hk]
     by_cases h:g=k
     · have hb:(g==k)=true:=beq_iff_eq.mpr h
       simp only [List.lookup,hb,if_neg (fun e:g=f=>hk (h.symm.trans e))]
     · have hb:(g==k)=false:=beq_eq_false_iff_ne.mpr h
       simp only [List.lookup,hb]
       exact ih
theorem keys_putF(f:Str)(v:V):∀ fs:List (Str×V),f∈(putF f v fs).map (·.1)∧∀ g,g∈fs.map (·.1)→g∈(putF f v fs).map (·.1)
 | []=>⟨by simp [putF],fun g h=>by simp at h⟩
 | (k,x)::r=>by
   obtain ⟨i1,i2⟩:=keys_putF f v r
   rw [show putF f v ((k,x)::r)=(if k=f then (k,v)::r else (k,x)::putF f v r) from rfl]
   by_cases hk:k=f
   · rw [if_pos hk]
     subst hk
     exact ⟨by simp,fun g h=>by simpa using h⟩
   · rw [if_neg hk]
     refine ⟨?_,fun g h=>?_⟩
     · rw [Ωp]
       exact Ωh _ i1
     · rw [Ωp] at h ⊢
       rcases Ωr.mp h with e|e
       · exact Ωr.mpr (.inl e)
       · exact Ωh _ (i2 g e)
theorem length_putF(f:Str)(v:V):∀ fs:List (Str×V),(putF f v fs).length≤fs.length+1
 | []=>by simp [putF]
 | (k,x)::r=>by
   have ih:=length_putF f v r
   rw [show putF f v ((k,x)::r)=(if k=f then (k,v)::r else (k,x)::putF f v r) from rfl]
   by_cases hk:k=f
   · rw [if_pos hk,Ωs,Ωs];omega
   · rw [if_neg hk,Ωs,Ωs];omega
theorem RelO.some_of{v:V}{o:Option Value}(r:RelO (some v) o):∃ u,o=some u∧RelV v u:=by
 cases o with
 | none=>exact (show False from r).elim
 | some u=>exact ⟨u,rfl,r⟩
theorem RelO.none_of{o:Option Value}(r:RelO none o):o=none:=by
 cases o with
 | none=>rfl
 | some u=>exact (show False from r).elim
theorem handed_of{v:V}{u:Value}(r:RelV v u):PySem.W.handedIn u=true:=by
 cases v with
 | non=>cases (show u=Value.none from r);rfl
 | bl b=>cases (show u=Value.bool b from r);rfl
 | int i=>obtain ⟨t,e⟩:=(show ∃ t,u=Value.int i t from r);cases e;rfl
 | str x=>obtain ⟨t,e⟩:=(show ∃ t,u=Value.str x t from r);cases e;rfl
 | byt b=>obtain ⟨t,e⟩:=(show ∃ t,u=Value.bytes b t from r);cases e;rfl
 | flt b=>obtain ⟨t,e⟩:=(show ∃ t,u=Value.float b t from r);cases e;rfl
 | ref a=>cases (show u=Value.ref a from r);rfl
 | ty n=>cases (show u=Value.type n from r);rfl
section
variable {P:Program}{w:World}{H H':Hp}{h h':Heap}{a C dx:Addr}{fs fs':List (Str×V)}
theorem ins_get(hok:HOk P w H h)(e:H a=some (.ins C dx fs)):∃ mA,ObjM h a dx C mA∧(∀ f,RelO (fs.lookup f) (mA f))∧PySem.Within mA (fs.map (·.1))∧fs.length≤1000∧H dx=some (.own a):=by
 obtain ⟨d,z,ne,ob,mA,n,r,q⟩:=(show ObjOk P w H h a (.ins C dx fs) from hok a _ e)
 exact ⟨mA,⟨ob,n,ne⟩,r,q,z,d⟩
end
structure Cls(K:PySem.W.Frag)(C:Addr):Prop where
 pg:PySem.W.plainGet K C Str.empty=true
 hd:PySem.W.hasDictIn K C=true
 po:PySem.W.plainOver K C=true
 sa:PySem.W.findIn K (.ref C) "__setattr__" = some (some (.builtin "object.__setattr__"))
theorem Cls.get{K:PySem.W.Frag}{C:Addr}(c:Cls K C)(f:Str):PySem.W.plainGet K C f=true:=c.pg
noncomputable def NoAttr(K:PySem.W.Frag)(C:Addr)(f:Str):Prop:=PySem.W.findIn K (.ref C) f=some none
theorem NoAttr.taker{K:PySem.W.Frag}{C:Addr}{f:Str}(n:NoAttr K C f):PySem.W.takerIn K C f=some none:=by
 unfold PySem.W.takerIn
 rw [show PySem.W.findIn K (.ref C) f=some none from n]
 rfl
structure Meth(K:PySem.W.Frag)(C:Addr)(m:Str)(f:Addr):Prop where
 at_:PySem.W.findIn K (.ref C) m=some (some (.ref f))
 fn:PySem.W.isFn K (.ref f)=true
 kp:PySem.W.keepIn K (.ref f)=true
section
variable {X:Cx}{pins:List (Addr×Obj)}{σ:St}{H:Hp}{s:Shared}{a C dx:Addr}{fs:List (Str×V)}{f:Str}{v:V}{A:Around}{E:Value→Shared→Prop}
theorem getattr_ok{b:Bool}{Q:Value→Shared→Prop}(I:Inv X pins σ H s)(e:H a=some (.ins C dx fs))(c:Cls X.K C)(n:NoAttr X.K C f)(l:fs.lookup f=some v)
   (h:∀ u s',Inv X pins σ H s'→RelV v u→Q u s'):wpAny (model X.prog X.w) A (getAttr (.ref a) f b) Q E s:=by
 obtain ⟨mA,O,r,_,_,_⟩:=ins_get I.hok e
 obtain ⟨u,hu,ru⟩:=RelO.some_of (v:=v) (o:=mA f) (by rw [← l];exact r f)
 exact get_map I.kIn O (c.get f) c.hd n hu (handed_of ru) (h u _ (I.tok _) ru)
theorem getmeth_ok{m:Str}{g:Addr}{pl:Sem Bool}{Q:Value×List Value→Shared→Prop}(I:Inv X pins σ H s)(e:H a=some (.ins C dx fs))(c:Cls X.K C)(k:Meth X.K C m g)(l:fs.lookup m=none)
   (h:Q (.ref g,[.ref a]) s):wpAny (model X.prog X.w) A (getMethod (.ref a) m pl) Q E s:=by
 obtain ⟨mA,O,r,_,_,_⟩:=ins_get I.hok e
 have hn:mA m=none:=RelO.none_of (by rw [← l];exact r m)
 exact get_meth I.kIn O (c.get m) k.at_ k.fn hn h
theorem setattr_ok{y:V}{u:Value}{Q:Unit→Shared→Prop}(I:Inv X pins σ H s)(e:H a=some (.ins C dx fs))(c:Cls X.K C)(n:NoAttr X.K C f)(hl:fs.length<1000)(ry:RelV y u)
   (h:∀ s',Inv X pins σ (upd H a (.ins C dx (putF f y fs))) s'→Q () s'):wpAny (model X.prog X.w) A (setAttr (.ref a) f u) Q E s:=by
 obtain ⟨mA,O,r,wi,_,ho⟩:=ins_get I.hok e
 have hz:(fs.map (·.1)).length≤sizeLine:=by rw [List.length_map,sizeLine_eq];omega
 refine set_map I.kIn O c.sa c.po n.taker c.hd wi hz fun h' O' sb=>h _ ?_
 have hd:∃ o,h'.get? dx=some o:=let ⟨o,_,_,e',_⟩:=O'.ns;⟨o,e'⟩
 refine I.write (x:=a) (e:=dx) (by rw [e];exact True.intro) (.inr ho) (fun b q hb z=>(sb.2 b hb).trans z) hd ?_
 refine ⟨by rw [upd_ne O.ne];exact ho,?_,O.ne,O'.obj,_,O'.ns,fun g=>?_,fun g hg=>?_⟩
 · have:=length_putF f y fs;omega
 · show RelO ((putF f y fs).lookup g) (if g=f then some u else mA g)
   rw [lookup_putF]
   by_cases q:g=f
   · rw [if_pos q,if_pos q];exact ry
   · rw [if_neg q,if_neg q];exact r g
 · by_cases q:g=f
   · rw [q];exact (keys_putF f y fs).1
   · refine (keys_putF f y fs).2 g (wi g fun z=>hg ?_)
     show (if g=f then some u else mA g)=none
     rw [if_neg q];exact z
theorem Inv.made(I:Inv X pins σ H s):Inv X pins σ (upd (upd H s.heap.objs.size (.own (s.heap.objs.size+1))) (s.heap.objs.size+1) (.ins C s.heap.objs.size []))
   {s with heap:=(s.heap.push PySem.W.emptyDict).push (PySem.W.instObj C s.heap.objs.size)}:=by
 have e1:(s.heap.push PySem.W.emptyDict).get? s.heap.objs.size=some PySem.W.emptyDict:=Ωj s.heap rfl
 have e2:((s.heap.push PySem.W.emptyDict).push (PySem.W.instObj C s.heap.objs.size)).get? (s.heap.objs.size+1)=some (PySem.W.instObj C s.heap.objs.size):=by
   have:=Ωj (s.heap.push PySem.W.emptyDict) (o:=PySem.W.instObj C s.heap.objs.size) rfl
   rwa [Heap.size_push] at this
 have e3:(s.heap.push PySem.W.emptyDict).Ns s.heap.objs.size (fun _=>none):=⟨PySem.W.emptyDict,#[],_,e1,rfl,(fun e he=>absurd he (by simp)),fun _=>rfl⟩
 have I1:=I.laid (a:=s.heap.objs.size) (o:=.own (s.heap.objs.size+1)) (h':=s.heap.push PySem.W.emptyDict) (t':=s.toks) (fun b u q=>Ωd _ q) (Ωq _) ⟨_,e1⟩
 refine I1.laid (a:=s.heap.objs.size+1) (o:=.ins C s.heap.objs.size []) (t':=s.toks) (fun b u q=>Ωd _ q) (Nat.le_of_eq (Heap.size_push _ _)) ?_
 have ne:s.heap.objs.size≠s.heap.objs.size+1:=Ωu (ΩH _)
 refine ⟨by rw [upd_ne ne,upd_same],Nat.zero_le _,ne,e2,fun _=>none,(Heap.Ns1.of_empty e3).at fun o q=>Ωd _ q,fun _=>True.intro,fun y hy=>absurd rfl hy⟩
theorem attr_of{prog:Program}{w:World}{env:Env}{e:Expr}{f:Str}{pos:Pos}{s:Shared}{Q:Value→Shared→Prop}(hb:attributeBase e f env (eval e env)=eval e env)
   (h:wpAny (model prog w) A (eval e env) (fun o s₁=>wpAny (model prog w) A (getAttr o f true) Q E s₁) E s):wpAny (model prog w) A (eval (.Attribute e f pos) env) Q E s :=
 Attribute_any_ h (by rw [arm_eval_Attribute,hb])
end
noncomputable def tFld(K:PySem.W.Frag)(ta:TE)(f:Str):TE:=fun σ H Q=>ta σ H fun x H1=>∃ a C dx fs v,x=.ref a∧H1 a=some (.ins C dx fs)∧Cls K C∧NoAttr K C f∧fs.lookup f=some v∧Q v H1
noncomputable def sFld(K:PySem.W.Frag)(ta tv:TE)(f:Str):TS:=fun D σ H=>tv σ H fun y H1=>ta σ H1 fun x H2=>∃ a C dx fs,x=.ref a∧H2 a=some (.ins C dx fs)∧Cls K C∧NoAttr K C f∧fs.length<1000 ∧
 D.nx σ (upd H2 a (.ins C dx (putF f y fs)))
noncomputable def InOp(X:Cx)(op:Operator)(rd:V→V→Hp→VK→Prop):Prop :=
 ∀ (pins:List (Addr×Obj)) (s:Shared) (σ:St) (H:Hp) (x y:V) (u v:Value) (Q:VK),Inv X pins σ H s→RelV x u→RelV y v→rd x y H Q→wpAny (model X.prog X.w) X.A (inplaceOp op u v) (EP X pins σ Q) X.xe s
noncomputable def sFldAug(K:PySem.W.Frag)(ta tv:TE)(rd:V→V→Hp→VK→Prop)(f:Str):TS:=fun D σ H=>ta σ H fun x H1=>∃ a C dx fs v,x=.ref a∧H1 a=some (.ins C dx fs)∧Cls K C∧NoAttr K C f∧fs.lookup f=some v ∧
 tv σ H1 fun y H2=>rd v y H2 fun z H3=>∃ dx' fs',H3 a=some (.ins C dx' fs')∧fs'.length<1000∧D.nx σ (upd H3 a (.ins C dx' (putF f z fs')))
section
variable {X:Cx}{o e value:Expr}{f:Str}{pos pos' tpos:Pos}{ta tv:TE}
theorem pe_fld(he:PE X e ta)(hb:attributeBase e f X.env (eval e X.env)=eval e X.env):PE X (.Attribute e f pos) (tFld X.K ta f):=by
 intro pins s σ H Q I h
 refine attr_of hb (thn (he pins s σ H _ I h) fun u s1 ⟨x,H1,I1,rx,a,C,dx,fs,v,ex,ea,c,n,l,q⟩=>?_)
 subst ex
 obtain rfl:u=Value.ref a:=rx
 exact getattr_ok I1 ea c n l fun u' s2 I2 ru=>⟨v,H1,I2,ru,q⟩
theorem ps_fld(ha:PE X o ta)(hv:PE X value tv)(hs:swapsWith value (some (.Attribute o f pos')) pos.line X.env=pure false):PS X (.Assign [.Attribute o f pos'] value pos) (sFld X.K ta tv f):=by
 intro pins s σ H D I h
 refine plainObj_wpAny_Assign_Attribute (thn (hv pins s σ H _ I h) fun u s1 ⟨y,H1,I1,ry,q⟩=>thn (ha pins s1 σ H1 _ I1 q) fun ov s2 ⟨x,H2,I2,rx,a,C,dx,fs,ex,ea,c,n,l,q2⟩=>?_) hs
 subst ex
 obtain rfl:ov=Value.ref a:=rx
 exact setattr_ok I2 ea c n l ry fun s3 I3=>⟨σ,_,I3,q2⟩
theorem ps_fldaug{op:Operator}{rd:V→V→Hp→VK→Prop}(ha:PE X o ta)(hv:PE X value tv)(hop:InOp X op rd):PS X (.AugAssign (.Attribute o f tpos) op value pos) (sFldAug X.K ta tv rd f):=by
 intro pins s σ H D I h
 refine wpAny_AugAssign_AttributeAny (thn (ha pins s σ H _ I h) fun ov s1 ⟨x,H1,I1,rx,a,C,dx,fs,v,ex,ea,c,n,l,q⟩=>?_)
 subst ex
 obtain rfl:ov=Value.ref a:=rx
 refine getattr_ok I1 ea c n l fun u s2 I2 ru=>thn (hv pins s2 σ H1 _ I2 q) fun w3 s3 ⟨y,H2,I3,ry,q3⟩=>thn (hop pins s3 σ H2 v y u w3 _ I3 ru ry q3) fun w4 s4 ⟨z,H3,I4,rz,dx',fs',ea',l',q4⟩=>?_
 exact setattr_ok I4 ea' c n l' rz fun s5 I5=>⟨σ,_,I5,q4⟩
noncomputable def rAdd:V→V→Hp→VK→Prop:=fun x y H Q=>∃ i j,x=.int i∧y=.int j∧Q (.int (i+j)) H
theorem in_add:InOp X .Add rAdd:=by
 rintro pins s σ H x y u v Q I rx ry ⟨i,j,rfl,rfl,q⟩
 obtain ⟨t,rfl⟩:=(show ∃ t,u=Value.int i t from rx)
 obtain ⟨t',rfl⟩:=(show ∃ t',v=Value.int j t' from ry)
 exact PyProof.Rows.iadd_int ⟨.int (i+j),H,I.tok _,⟨_,rfl⟩,q⟩
end
section
variable {X:Cx}{pins:List (Addr×Obj)}{σ:St}{H:Hp}{s:Shared}{A:Around}{E:Value→Shared→Prop}{Q:Value→Shared→Prop}{c:Value}{b:Bool}
end
end L2
namespace L2
open PySem PySem.Spec PyProof.Rows
structure Room(k:Nat)(A:Around):Prop where
 hd:A.handled=none
 dp:A.depth+k+5<recursionLimit
 un:A.units+4 * k+1300<cLine
theorem Room.mono{j k:Nat}{A:Around}(r:Room k A)(h:j≤k):Room j A:=⟨r.hd,by have:=r.dp;omega,by have:=r.un;omega⟩
theorem Room.deeper{k:Nat}{A:Around}(r:Room (k+1) A)(env:Env):Room k (A.deeper env) :=
 ⟨r.hd,by have:=r.dp;show A.depth+1+k+5<_;omega,by have:=r.un;show A.units+3+4 * k+1300<_;omega⟩
theorem make_depth {A:Around}{C:Addr}{us:List Value}{kw:List (Str×Value)}:(A.under (.builtin "type.__call__" ⟨.ref C::us,kw⟩)).depth=A.depth+1:=by
 first|rfl|simp [Around.under,Code.weight,Code.isCreation,Code.isGuard,Code.isCaller,Code.frames,Code.isFrame,guardIds]
theorem make_units {A:Around}{C:Addr}{us:List Value}{kw:List (Str×Value)}:(A.under (.builtin "type.__call__" ⟨.ref C::us,kw⟩)).units=A.units+1:=by
 first|rfl|simp [Around.under,Code.cUnits,Code.frames,Code.isFrame]
theorem Room.make {k:Nat}{A:Around} (r:Room (k+1) A) (C:Addr) (us:List Value) (kw:List (Str×Value)):Room k (A.under (.builtin "type.__call__" ⟨.ref C::us,kw⟩)) :=
 ⟨r.hd,by have:=r.dp;rw [make_depth];omega,by have:=r.un;rw [make_units];omega⟩
theorem Room.depth{k:Nat}{A:Around}(r:Room k A):A.depth<recursionLimit:=by have:=r.dp;omega
noncomputable def tNil:TA:=fun _ H Q=>Q [] H
noncomputable def tCons(ta:TE)(tr:TA):TA:=fun σ H Q=>ta σ H fun x H1=>tr σ H1 fun xs H2=>Q (x::xs) H2
section
variable {X:Cx}{e:Expr}{es:List Expr}{te:TE}{t:TA}{pos:Pos}
theorem pa_nil:PA X [] tNil:=fun _ _ _ _ H Q I h=>Calls.spliced_nil ⟨[],H,I,.nil,h⟩
theorem pa_cons(ha:PE X e te)(hr:PA X es t)(hs:starEach (e::es) X.env=(false,eval e X.env)::starEach es X.env:=by rfl):PA X (e::es) (tCons te t):=by
 intro pos pins s σ H Q I h
 rw [hs]
 show wpAny _ _ (spliced ((false,eval e X.env)::backTo pos (starEach es X.env))) _ _ s
 refine Calls.spliced_cons (thn (ha pins s σ H _ I h) fun u s1 ⟨x,H1,I1,r1,q1⟩=>?_)
 exact thn (hr pos pins s1 σ H1 _ I1 q1) fun us s2 ⟨xs,H2,I2,r2,q2⟩=>⟨x::xs,H2,I2,.cons r1 r2,q2⟩
noncomputable def tTup(t:TA):TE:=fun σ H Q=>t σ H fun xs H1=>xs.length≤sizeLine∧∀ p,H1 p=none→Q (.ref p) (upd H1 p (.tup xs))
noncomputable def tLst(t:TA):TE:=fun σ H Q=>t σ H fun xs H1=>xs.length≤sizeLine∧∀ p,H1 p=none→Q (.ref p) (upd H1 p (.lst xs))
theorem pe_tup{x1}(h:PA X es t):PE X (.Tuple es x1 pos) (tTup t):=by
 intro pins s σ H Q I hq
 refine wpAny_Tuple_spliced (thn (h pos pins s σ H _ I hq) fun us s1 ⟨xs,H1,I1,r,z,q⟩=>⟨by rw [← r.length];exact z,?_⟩)
 have hf:H1 s1.heap.objs.size=none:=I1.hok.fresh (Ωq _)
 refine ⟨.ref s1.heap.objs.size,upd H1 s1.heap.objs.size (.tup xs),I1.laid (t':=s1.toks) (fun b u e=>Ωd _ e) (Ωq _) ?_,rfl,q _ hf⟩
 exact ⟨z,us,r,⟨_,Ωj _ rfl,rfl,rfl,_,rfl⟩⟩
theorem pe_lst(h:PA X es t):PE X (.List es pos) (tLst t):=by
 intro pins s σ H Q I hq
 refine wpAny_List_spliced (thn (h pos pins s σ H _ I hq) fun us s1 ⟨xs,H1,I1,r,z,q⟩=>⟨by rw [← r.length];exact z,?_⟩)
 have hf:H1 s1.heap.objs.size=none:=I1.hok.fresh (Ωq _)
 refine ⟨.ref s1.heap.objs.size,upd H1 s1.heap.objs.size (.lst xs),I1.laid (t':=s1.toks) (fun b u e=>Ωd _ e) (Ωq _) ?_,rfl,q _ hf⟩
 exact ⟨z,us,0,r,Ωj _ rfl⟩
end
noncomputable abbrev Sp:=List V→Hp→VK→XK→Prop
noncomputable abbrev CXT:=List Env→Hp→Shared→XK→Value→Shared→Prop
structure Env0(P:Program)(w:World)(K:PySem.W.Frag)(mg:Str→Option Value)(base:Heap)(A:Around)(outer:List Env)(s:Shared)(H:Hp):Prop where
 frames:A.frames=some outer
 mod:Mod K mg base
 bs:∀ b o,base.get? b=some o→s.heap.get? b=some o∧H b=none
 bsz:base.objs.size≤s.heap.objs.size
 funs:s.heap.FunFrames base outer
 frf:∀ b∈frs outer,H b=none
 hok:HOk P w H s.heap
 bare:AllBare s.gens
noncomputable def CE(outer:List Env)(P:Program)(w:World)(H:Hp)(s:Shared)(Q:VK)(u:Value)(s':Shared):Prop :=
 ∃ v H',s'.os=s.os∧AllBare s'.gens∧Un (frs outer) [] H H' s.heap s'.heap∧HOk P w H' s'.heap∧RelV v u∧Q v H'
noncomputable def CR(CX:CXT)(outer:List Env)(P:Program)(w:World)(H:Hp)(s:Shared)(Q:VK)(E:XK)(r:Result)(s':Shared):Prop :=
 match r with
 | .ok (.ret u)=>CE outer P w H s Q u s'
 | .ok _=>False
 | .error e=>CX outer H s E e s'
structure FnOk(P:Program)(w:World)(K:PySem.W.Frag)(mg:Str→Option Value)(base:Heap)(CX:CXT)(k:Nat)(f:Addr)(fd:FuncData)(ps:List Str)(sp:Sp):Prop where
 len:∀ vs H Q E,sp vs H Q E→vs.length=ps.length
 run:∀ (A:Around) (outer:List Env) (s:Shared) (H:Hp) (args:Args) (us:List Value) (vs:List V) (Q:VK) (E:XK),Room k A→Env0 P w K mg base A outer s H→BindsTo s fd args (ps.zip us)→Vals vs us→sp vs H Q E →
   codeAny (model P w) A (.call (.ref f) args) (CR CX outer P w H s Q E) s
theorem FnOk.imp{P:Program}{w:World}{K:PySem.W.Frag}{mg:Str→Option Value}{base:Heap}{CX:CXT}{k:Nat}{f:Addr}{fd:FuncData}{ps:List Str}{sp sp':Sp}(F:FnOk P w K mg base CX k f fd ps sp)
   (h:∀ vs H Q E,sp' vs H Q E→sp vs H Q E):FnOk P w K mg base CX k f fd ps sp' :=
 ⟨fun vs H Q E q=>F.len vs H Q E (h _ _ _ _ q),fun A outer s H args us vs Q E hr he hb hv hs=>F.run A outer s H args us vs Q E hr he hb hv (h _ _ _ _ hs)⟩
theorem Env0.make{P:Program}{w:World}{K:PySem.W.Frag}{mg:Str→Option Value}{base:Heap}{A:Around}{outer:List Env}{s:Shared}{H:Hp}(e:Env0 P w K mg base A outer s H)(C:Addr)(us:List Value)(kw:List (Str×Value)) :
   Env0 P w K mg base (A.under (.builtin "type.__call__" ⟨.ref C::us,kw⟩)) outer s H:=⟨by first|exact e.frames|(simpa [Around.under,Code.envs,Code.isFrame,pushEnvs] using e.frames),e.mod,e.bs,e.bsz,e.funs,e.frf,e.hok,e.bare⟩
section
variable {X:Cx}{pins:List (Addr×Obj)}{σ:St}{H:Hp}{s s':Shared}
theorem Inv.env0(I:Inv X pins σ H s):Env0 X.prog X.w X.K X.mg X.base X.A X.stack s H :=
 ⟨I.ok.frames,I.ok.mod,I.bs,ΩE I.ok.bsz I.sz,I.stack,I.stkFree,I.hok,I.bare⟩
theorem Inv.after{Q:VK}{u:Value}(I:Inv X pins σ H s)(h:CE X.stack X.prog X.w H s Q u s'):EP X pins σ Q u s':=by
 obtain ⟨v,H',os,bare,un,hok,r,q⟩:=h
 obtain ⟨hh,g,d,t,os'⟩:=s'
 obtain rfl:os'=s.os:=os
 exact ⟨v,H',I.call (h':=hh) (g':=g) (d':=d) (t':=t) (ch:=[]) un hok bare (fun b z=>absurd z (by simp)),r,q⟩
end
noncomputable def tCall(sp:Sp)(dvs:List V)(E:XK)(t:TA):TE:=fun σ H Q=>t σ H fun vs H1=>sp (vs++dvs) H1 Q E
noncomputable def tMeth(C:Addr)(m:Str)(sp:Sp)(dvs:List V)(E:XK)(ta:TE)(t:TA):TE:=fun σ H Q=>ta σ H fun x H1=>∃ a dx fs,x=.ref a∧H1 a=some (.ins C dx fs)∧fs.lookup m=none ∧
 t σ H1 fun vs H2=>sp (x::(vs++dvs)) H2 Q E
noncomputable def tMake(C:Addr)(sp:Sp)(dvs:List V)(E:XK)(t:TA):TE:=fun σ H Q=>t σ H fun vs H1=>∀ x dx,H1 x=none→H1 dx=none→dx≠x →
 sp (.ref x::(vs++dvs)) (upd (upd H1 dx (.own x)) x (.ins C dx [])) (fun v H2=>v=.non∧Q (.ref x) H2) E
noncomputable def Binds(K:PySem.W.Frag)(fd:FuncData)(ps:List Str)(ds:List Value):Prop :=
 ∀ (s:Shared) (us:List Value),K.In s.heap→(us++ds).length=ps.length→BindsTo s fd ⟨us,[]⟩ (ps.zip (us++ds))
theorem Binds.all{K:PySem.W.Frag}{fd:FuncData}{ps:List Str}(h:∀ us:List Value,us.length=ps.length→bindArgs fd ⟨us,[]⟩=pure (ps.zip us)):Binds K fd ps []:=fun s us _ hl=>by
 rw [List.append_nil] at hl ⊢
 exact .of_eq (h us hl)
noncomputable def Passes(CX:CXT)(X:Cx)(E:XK):Prop:=∀ (pins:List (Addr×Obj)) (σ:St) (H:Hp) (s:Shared) (e:Value) (s':Shared),Inv X pins σ H s→CX X.stack H s E e s'→X.xe e s'
section
variable {X:Cx}{CX:CXT}{k:Nat}{f C:Addr}{fd:FuncData}{ps:List Str}{sp:Sp}{dvs:List V}{ds:List Value}{E:XK}{x m:Str}{p pos apos:Pos}{e o:Expr}{es:List Expr}{ta:TE}{t:TA}
theorem run_fn{pins:List (Addr×Obj)}{σ:St}{H:Hp}{s:Shared}{Q:VK}{us:List Value}{vs:List V}(F:FnOk X.prog X.w X.K X.mg X.base CX k f fd ps sp)(hr:Room k X.A)(hb:Binds X.K fd ps ds)(hd:Vals dvs ds)(hx:Passes CX X E)
   (I:Inv X pins σ H s) (r:Vals vs us) (h:sp (vs++dvs) H Q E):wpAny (model X.prog X.w) X.A (call (.ref f) us) (EP X pins σ Q) X.xe s:=by
 have r2:Vals (vs++dvs) (us++ds):=r.append hd
 have hl:(us++ds).length=ps.length:=by rw [← r2.length];exact F.len _ _ _ _ h
 refine wpAny_call (codeAny_mono (F.run X.A X.stack s H ⟨us,[]⟩ (us++ds) (vs++dvs) Q E hr I.env0 (hb s us I.kIn hl) r2 h) fun r s' hq=>?_)
 cases r with
 | error e=>exact hx pins σ H s e s' I hq
 | ok fl =>
   cases fl with
   | ret u=>exact I.after hq
   | next=>exact False.elim hq
   | brk=>exact False.elim hq
   | cont=>exact False.elim hq
theorem pe_call(F:FnOk X.prog X.w X.K X.mg X.base CX k f fd ps sp)(hr:Room k X.A)(hg:Gl X x)(hm:X.mg x=some (.ref f))(hk:PySem.W.keepIn X.K (.ref f)=true)(hb:Binds X.K fd ps ds)(hd:Vals dvs ds)(hx:Passes CX X E)
   (ha:PA X (e::es) t) (hdb:(x==("__debug__" : Str))=false:=by decide) (he:starEach (e::es) X.env=(false,eval e X.env)::starEach es X.env:=by rfl) (hpl:(backTo pos (starEach es X.env)).any (·.1)=false:=by rfl) :
   PE X (.Call (.Name x p) (e::es) [] pos) (tCall sp dvs E t):=by
 intro pins s σ H Q I h
 refine wpAny_Call_Name_kw (ld_glob I hg hm ?_ hdb)
 refine PySem.W.callWith_K (h₀:=X.base) I.ok.mod.kin hk (thn (ha pos pins s σ H _ I h) fun us s1 ⟨vs,H1,I1,r,q⟩=>⟨I1.kIn,?_⟩) he hpl
 exact run_fn F hr hb hd hx I1 r q
theorem pe_meth{pl:Sem Bool}(he:PE X o ta)(c:Cls X.K C)(hm:Meth X.K C m f)(F:FnOk X.prog X.w X.K X.mg X.base CX k f fd ps sp)(hr:Room k X.A)(hb:Binds X.K fd ps ds)(hd:Vals dvs ds)(hx:Passes CX X E)(ha:PA X (e::es) t)
   (hst:starEach (e::es) X.env=(false,eval e X.env)::starEach es X.env:=by rfl) (hpl:(backTo pos (starEach es X.env)).any (·.1)=false:=by rfl)
   (ht:eval (.Call (.Attribute o m apos) (e::es) [] pos) X.env=(do
     let ov ← eval o X.env
     standAt apos.atName
     let (f,first) ← holding [ov] (getMethod ov m pl)
     callWith pos f first (backTo pos (starEach (e::es) X.env)) (backToKw pos (keywordEach [] X.env))):=by rfl) :
   PE X (.Call (.Attribute o m apos) (e::es) [] pos) (tMeth C m sp dvs E ta t):=by
 intro pins s σ H Q I h
 refine PySem.W.methodCall_KW (pl:=pl) (thn (he pins s σ H _ I h) fun u s1 ⟨x,H1,I1,rx,a,dx,fs,ex,ea,l,q⟩=>?_) ht
 subst ex
 obtain rfl:u=Value.ref a:=rx
 refine getmeth_ok I1 ea c hm l ?_
 refine PySem.W.callWith_K (first:=[.ref a]) (h₀:=X.base) I.ok.mod.kin hm.kp (thn (ha pos pins s1 σ H1 _ I1 q) fun us s2 ⟨vs,H2,I2,r,q2⟩=>⟨I2.kIn,?_⟩) hst hpl
 exact run_fn (us:=.ref a::us) (vs:=.ref a::vs) F hr hb hd hx I2 (.cons rfl r) q2
theorem pe_meth0{pl:Sem Bool}(he:PE X o ta)(c:Cls X.K C)(hm:Meth X.K C m f)(F:FnOk X.prog X.w X.K X.mg X.base CX k f fd ps sp)(hr:Room k X.A)(hb:Binds X.K fd ps ds)(hd:Vals dvs ds)(hx:Passes CX X E)
   (ht:eval (.Call (.Attribute o m apos) [] [] pos) X.env=(do
     let ov ← eval o X.env
     standAt apos.atName
     let (f,first) ← holding [ov] (getMethod ov m pl)
     callWith pos f first (backTo pos (starEach [] X.env)) (backToKw pos (keywordEach [] X.env))):=by rfl) :
   PE X (.Call (.Attribute o m apos) [] [] pos) (tMeth C m sp dvs E ta tNil):=by
 intro pins s σ H Q I h
 refine PySem.W.methodCall_KW (pl:=pl) (thn (he pins s σ H _ I h) fun u s1 ⟨x,H1,I1,rx,a,dx,fs,ex,ea,l,q⟩=>?_) ht
 subst ex
 obtain rfl:u=Value.ref a:=rx
 refine getmeth_ok I1 ea c hm l ?_
 exact PySem.W.callWith_K0 (first:=[.ref a]) I1.kIn hm.kp (run_fn (us:=[.ref a]) (vs:=[.ref a]) F hr hb hd hx I1 (.cons rfl .nil) q)
structure Mk(K:PySem.W.Frag)(C f:Addr):Prop where
 makes:PySem.W.makesIn K C=true
 init:PySem.W.findIn K (.ref C) "__init__" = some (some (.ref f))
 fn:PySem.W.isFn K (.ref f)=true
 kp:PySem.W.keepIn K (.ref C)=true
theorem run_make{pins:List (Addr×Obj)}{σ:St}{H:Hp}{s:Shared}{Q:VK}{us:List Value}{vs:List V}(M:Mk X.K C f)(F:FnOk X.prog X.w X.K X.mg X.base CX k f fd ps sp)(hr:Room (k+1) X.A)(hb:Binds X.K fd ps ds)(hd:Vals dvs ds)
   (hx:Passes CX X E) (I:Inv X pins σ H s) (r:Vals vs us)
   (h:∀ x dx,H x=none→H dx=none→dx≠x→sp (.ref x::(vs++dvs)) (upd (upd H dx (.own x)) x (.ins C dx [])) (fun v H2=>v=.non∧Q (.ref x) H2) E) :
   wpAny (model X.prog X.w) X.A (call (.ref C) us) (EP X pins σ Q) X.xe s:=by
 have hq:=h (s.heap.objs.size+1) s.heap.objs.size (I.hok.fresh (Nat.le_succ _)) (I.hok.fresh (Ωq _)) (Ωu (ΩH _))
 have I2:=Inv.made (C:=C) I
 have r2:Vals (V.ref (s.heap.objs.size+1)::(vs++dvs)) (Value.ref (s.heap.objs.size+1)::(us++ds)):=.cons rfl (r.append hd)
 have hl:(Value.ref (s.heap.objs.size+1)::us++ds).length=ps.length:=by
   have e:=r2.length
   rw [F.len _ _ _ _ hq] at e
   exact e.symm
 refine wpAny_call (make_map (f:=f) I.kIn M.makes M.init (beq_iff_eq.mp M.fn) (codeAny_mono (F.run _ X.stack _ _ ⟨Value.ref (s.heap.objs.size+1)::us,[]⟩ (Value.ref (s.heap.objs.size+1)::(us++ds)) _ _ E (hr.make C us [])
   (I2.env0.make C us []) (hb _ (Value.ref (s.heap.objs.size+1)::us) I2.kIn hl) r2 hq) fun r s' hq'=>?_))
 cases r with
 | error e=>exact hx pins σ _ _ e s' I2 hq'
 | ok fl =>
   cases fl with
   | ret u =>
     obtain ⟨v,H',I3,rv,ev,q3⟩:=I2.after hq'
     subst ev
     exact ⟨rv,⟨V.ref (s.heap.objs.size+1),H',I3,rfl,q3⟩⟩
   | next=>exact False.elim hq'
   | brk=>exact False.elim hq'
   | cont=>exact False.elim hq'
theorem pe_make(M:Mk X.K C f)(F:FnOk X.prog X.w X.K X.mg X.base CX k f fd ps sp)(hr:Room (k+1) X.A)(hg:Gl X x)(hm:X.mg x=some (.ref C))(hb:Binds X.K fd ps ds)(hd:Vals dvs ds)(hx:Passes CX X E)
   (ha:PA X (e::es) t) (hdb:(x==("__debug__" : Str))=false:=by decide) (he:starEach (e::es) X.env=(false,eval e X.env)::starEach es X.env:=by rfl) (hpl:(backTo pos (starEach es X.env)).any (·.1)=false:=by rfl) :
   PE X (.Call (.Name x p) (e::es) [] pos) (tMake C sp dvs E t):=by
 intro pins s σ H Q I h
 refine wpAny_Call_Name_kw (ld_glob I hg hm ?_ hdb)
 refine PySem.W.callWith_K (h₀:=X.base) I.ok.mod.kin M.kp (thn (ha pos pins s σ H _ I h) fun us s1 ⟨vs,H1,I1,r,q⟩=>⟨I1.kIn,?_⟩) he hpl
 exact run_make M F hr hb hd hx I1 r q
theorem pe_make0(M:Mk X.K C f)(F:FnOk X.prog X.w X.K X.mg X.base CX k f fd ps sp)(hr:Room (k+1) X.A)(hg:Gl X x)(hm:X.mg x=some (.ref C))(hb:Binds X.K fd ps ds)(hd:Vals dvs ds)(hx:Passes CX X E)
   (hdb:(x==("__debug__" : Str))=false:=by decide):PE X (.Call (.Name x p) [] [] pos) (tMake C sp dvs E tNil):=by
 intro pins s σ H Q I h
 refine wpAny_Call_Name_kw (ld_glob I hg hm ?_ hdb)
 exact PySem.W.callWith_K0 I.kIn M.kp (run_make (us:=[]) M F hr hb hd hx I .nil h)
end
section
variable {X:Cx}{CX:CXT}{k:Nat}{f C:Addr}{fd:FuncData}{ps ks:List Str}{sp:Sp}{E:XK}{x m:Str}{p pos apos kpos:Pos}{e o:Expr}{es:List Expr}{kws:List Keyword}{te ta:TE}{t tk:TA}{nm:Option Str}
variable {g:List Value→List Value→List Value}{gV:List V→List V→List V}
end
structure FnScope(N P:List Str)(sc:Scope):Prop where
 kind:sc.kind=.function
 co:sc.isCoroutine=false
 gen:sc.isGenerator=false
 nd:N.Nodup
 pre:N.take P.length=P
 par:∀ x∈P,sc.names.lookup x=some .local∨sc.names.lookup x=some .cell
 nofree:∀ y∈sc.names,y.2≠.free
theorem bindL_out{kindOf:Str→Option NameKind}{x:Str}:∀ {binds:List (Str×Value)}{m:Str→Option Value},(∀ v,(x,v) ∉ binds)→bindL kindOf binds m x=m x
 | [],_,_=>rfl
 | (n,v)::r,m,h=>by
   unfold bindL
   rw [bindL_out fun w hw=>h w (Ωh _ hw)]
   split
   · have:x≠n:=by rintro rfl;exact h v Ωi
     simp [this]
   · rfl
theorem bindC_out{kindOf:Str→Option NameKind}{x:Str}:∀ {binds:List (Str×Value)}{m:Str→Option Value},(∀ v,(x,v) ∉ binds)→bindC kindOf binds m x=m x
 | [],_,_=>rfl
 | (n,v)::r,m,h=>by
   unfold bindC
   rw [bindC_out fun w hw=>h w (Ωh _ hw)]
   split
   · rfl
   · have:x≠n:=by rintro rfl;exact h v Ωi
     simp [this]
theorem bindL_get{kindOf:Str→Option NameKind}{x:Str}{v:Value}:∀ {P:List Str}{vs:List Value}{i:Nat}{m:Str→Option Value},P.Nodup→P[i]? = some x→vs[i]? = some v→kindOf x=some .local →
   bindL kindOf (P.zip vs) m x=some v
 | [],_,_,_,_,h,_,_=>by simp at h
 | _::_,[],_,_,_,_,h,_=>by simp at h
 | p::P,w::vs,0,m,nd,h1,h2,hk=>by
   simp at h1 h2;subst h1;subst h2
   show bindL kindOf ((p,w)::P.zip vs) m p=_
   unfold bindL
   rw [bindL_out fun v hv=>(List.nodup_cons.mp nd).1 (List.of_mem_zip hv).1,if_pos hk]
   simp
 | p::P,w::vs,i+1,m,nd,h1,h2,hk=>by
   show bindL kindOf ((p,w)::P.zip vs) m x=_
   unfold bindL
   exact bindL_get (i:=i) (List.nodup_cons.mp nd).2 (by simpa using h1) (by simpa using h2) hk
theorem bindC_get{kindOf:Str→Option NameKind}{x:Str}{v:Value}:∀ {P:List Str}{vs:List Value}{i:Nat}{m:Str→Option Value},P.Nodup→P[i]? = some x→vs[i]? = some v→kindOf x≠some .local →
   bindC kindOf (P.zip vs) m x=some v
 | [],_,_,_,_,h,_,_=>by simp at h
 | _::_,[],_,_,_,_,h,_=>by simp at h
 | p::P,w::vs,0,m,nd,h1,h2,hk=>by
   simp at h1 h2;subst h1;subst h2
   show bindC kindOf ((p,w)::P.zip vs) m p=_
   unfold bindC
   rw [bindC_out fun v hv=>(List.nodup_cons.mp nd).1 (List.of_mem_zip hv).1,if_neg hk]
   simp
 | p::P,w::vs,i+1,m,nd,h1,h2,hk=>by
   show bindC kindOf ((p,w)::P.zip vs) m x=_
   unfold bindC
   exact bindC_get (i:=i) (List.nodup_cons.mp nd).2 (by simpa using h1) (by simpa using h2) hk
noncomputable def start(N:List Str)(vs:List V):St:=vs.map some++List.replicate (N.length - vs.length) none
noncomputable def cxOf(CX:CXT)(P:Program)(w:World)(K:PySem.W.Frag)(mg:Str→Option Value)(base:Heap)(N:List Str)(qual:Str)(scope:Scope)(f:Addr)(cd:Value)(A:Around)(outer:List Env)(s:Shared)(H:Hp)(E:XK):Cx where
 prog:=P
 w:=w
 K:=K
 mg:=mg
 base:=base
 A:=A.deeper (envOfC qual scope s.heap.objs.size f cd)
 N:=N
 s₀:=s
 H₀:=H
 env:=envOfC qual scope s.heap.objs.size f cd
 outer:=outer
 stack:=envOfC qual scope s.heap.objs.size f cd::outer
 ex:=[]
 calm:=true
 fn:=fun _=>true
 pn:=[]
 xe:=fun e s'=>wpAny (model P w) (A.deeper (envOfC qual scope s.heap.objs.size f cd)) (leaving (envOfC qual scope s.heap.objs.size f cd) e) (fun _ s''=>CX outer H s E e s'') (fun e' s''=>CX outer H s E e' s'') s'
theorem cell_has{sc:Scope}{n:Nat}{x:Str}(h:sc.names.lookup x=some .cell):∃ c,(cellsFrom n sc.names []).lookup x=some c:=by
 have q:=PySem.W.cellsFrom_some sc.names n [] (.inl h)
 exact Option.isSome_iff_exists.mp q
theorem inv_start{CX:CXT}{P:Program}{w:World}{K:PySem.W.Frag}{mg:Str→Option Value}{base:Heap}{N ps:List Str}{qual:Str}{scope:Scope}{f:Addr}{cd:Value}{A:Around}{outer:List Env}{s s1:Shared}{H:Hp}{E:XK}{us:List Value}{vs:List V}
   (S:FnScope N ps scope) (hd:A.handled=none) (e0:Env0 P w K mg base A outer s H) (hl:vs.length=ps.length) (r:Vals vs us)
   (x:InCallC s s.heap.objs.size (bindL (envOfC qual scope s.heap.objs.size f cd).kindOf (ps.zip us) fun _=>none) (cellsFrom (s.heap.objs.size+1) scope.names []) (bindC (envOfC qual scope s.heap.objs.size f cd).kindOf (ps.zip us) fun _=>none) s1) :
   Inv (cxOf CX P w K mg base N qual scope f cd A outer s H E) [] (start N vs) H s1:=by
 have hpl:ps.length≤N.length:=by have:=congrArg List.length S.pre;rw [List.length_take] at this;omega
 obtain ⟨h1,tk,rfl,hk⟩:=x.done
 have noA:∀ b:Addr,b ∉ (cxOf CX P w K mg base N qual scope f cd A outer s H E).ex:=fun b z=>absurd (show b∈([]:List Addr) from z) (by simp)
 refine ⟨⟨e0.mod,S.kind,rfl,rfl,Ωq _,fun y z c h1 h2=>?_,fun y hy=>?_,fun y c _ h=>?_,fun _=>hd,Around.frames_deeper e0.frames,.inr ⟨rfl,rfl⟩,fun b z=>absurd z (noA b),e0.bs,e0.bsz,fun b _ _=>noA b,fun b z=>absurd z (noA b),e0.funs,e0.frf⟩,
   rfl,e0.bare,Un.kept hk,⟨_,x.toInCall.ns,fun i y v h1 h2 h3=>?_⟩,fun y c h=>⟨_,x.cell y c h⟩,e0.hok.fresh (Ωq _),fun y c h=>?_,fun p hp=>absurd (show p∈([]:List (Addr×Obj)) from hp) (by simp),e0.hok.kept hk,?_⟩
 · exact name_of_addr x.apart (PySem.mem_of_lookup h1) (PySem.mem_of_lookup h2)
 · have hy:scope.names.lookup y=some .cell∨scope.names.lookup y=some .free:=hy
   rcases hy with hy|hy
   · exact cell_has hy
   · exact absurd rfl (S.nofree _ (PySem.mem_of_lookup hy))
 · exact Nat.le_of_lt (x.above y c (PySem.mem_of_lookup h))
 · have hi:i<vs.length:=by
     unfold start at h2
     by_cases hi:i<vs.length
     · exact hi
     · rw [Ωm (by simpa using hi)] at h2
       rw [List.getElem?_replicate] at h2
       split at h2<;>cases h2
   have ha:vs[i]? = some v:=by
     unfold start at h2
     rw [Ωe (by simpa using hi),Ωn] at h2
     cases e:vs[i]? with
     | none=>rw [e] at h2;cases h2
     | some a=>rw [e] at h2;cases h2;rfl
   obtain ⟨u,hu,rv⟩:=r.get ha
   have hp:ps[i]? = some y:=by
     rw [← S.pre,List.getElem?_take_of_lt (by omega)];exact h1
   have ndP:ps.Nodup:=by rw [← S.pre];exact S.nd.sublist (List.take_sublist _ _)
   refine ⟨u,rv,?_⟩
   rcases S.par y (Ωk hp) with k|k
   · exact .inl ⟨k,bindL_get ndP hp hu k⟩
   · obtain ⟨c,e⟩:=cell_has (n:=s.heap.objs.size+1) k
     refine .inr ⟨.inl k,c,e,?_⟩
     have q:=x.cell y c e
     rw [bindC_get ndP hp hu (by show scope.names.lookup y≠_;rw [k];decide)] at q
     exact q
 · exact e0.hok.fresh (Nat.le_of_lt (x.above y c (PySem.mem_of_lookup h)))
 · unfold start
   show _=N.length
   rw [ΩA,List.length_map,List.length_replicate]
   omega
theorem fn_of{CX:CXT}{P:Program}{w:World}{K:PySem.W.Frag}{mg:Str→Option Value}{base:Heap}{k:Nat}{f:Addr}{name qual:Str}{params:Arguments}{body:List Stmt}{scope:Scope}{dV kV doc pm cdv ct oc:Value}{an od:Option Addr}
   {osl:Array (Option Value)}{N ps:List Str}{sp:Sp} (lk:K.lookup f=some ⟨oc,od,.func (PySem.W.fnOf name qual params body scope dV kV doc pm an cdv ct),osl⟩) (hcd:PySem.W.codeIn K cdv qual=true) (S:FnScope N ps scope)
   (len:∀ vs H Q E,sp vs H Q E→vs.length=ps.length)
   (hbody:∀ (A:Around) (outer:List Env) (s:Shared) (H:Hp) (vs:List V) (Q:VK) (E:XK),Room k (A.deeper (envOfC qual scope s.heap.objs.size f cdv))→sp vs H Q E →
     ∃ t,PSs (cxOf CX P w K mg base N qual scope f cdv A outer s H E) body t∧t {nx:=fun _ H'=>Q .non H',rt:=Q} (start N vs) H) :
   FnOk P w K mg base CX (k+1) f (PySem.W.fnOf name qual params body scope dV kV doc pm an cdv ct) ps sp:=by
 refine ⟨len,fun A outer s H args us vs Q E hr e0 hb r hsp=>?_⟩
 have hl:=len _ _ _ _ hsp
 have KX:K.In s.heap:=e0.mod.kin.keeps fun b o e=>(e0.bs b o e).1
 have lim:s.heap.NoLimit:=e0.mod.nolimit.keeps fun b o e=>(e0.bs b o e).1
 have hkind:∀ y∈ps.zip us,scope.names.lookup y.1=some .local∨(scope.names.lookup y.1=some .cell∧((cellsFrom (s.heap.objs.size+1) scope.names []).lookup y.1).isSome=true):=fun ⟨n,v⟩ hy=>by
   rcases S.par n (List.of_mem_zip hy).1 with q|q
   · exact .inl q
   · exact .inr ⟨q,PySem.W.cellsFrom_some _ _ _ (.inl q)⟩
 refine codeAny_call_function hr.depth (KX _ _ lk) rfl S.co S.gen rfl (PySem.W.codeRec_of KX hcd) (hb _ _ _ _ ?_)
 refine wpAny_newFunctionEnv_cells S.kind hkind fun env he s1 x=>?_
 subst he
 refine ⟨lim.keeps x.toInCall.keep,codeAny_func ?_⟩
 obtain ⟨t,ht,hq⟩:=hbody A outer s H vs Q E (hr.deeper _) hsp
 have I:Inv (cxOf CX P w K mg base N qual scope f cdv A outer s H E) [] (start N vs) H s1:=inv_start S hr.hd e0 hl r x
 refine wpAny_mono (ht [] s1 (start N vs) H _ I hq) (fun fl s' hs=>?_) fun e s' hs=>hs
 have fin:∀ {σ':St}{H':Hp}{v:V}{u:Value},Inv (cxOf CX P w K mg base N qual scope f cdv A outer s H E) [] σ' H' s'→RelV v u→Q v H'→CE outer P w H s Q u s' :=
   fun {σ' H' v u} J rv q=>⟨v,H',J.os,J.bare,J.base,J.hok,rv,q⟩
 cases fl with
 | ret u =>
   obtain ⟨v,σ',H',J,rv,q⟩:=hs
   exact fin J rv q
 | next =>
   obtain ⟨σ',H',J,q⟩:=hs
   exact fin (v:=V.non) (u:=Value.none) J rfl q
 | brk =>
   obtain ⟨_,_,_,q⟩:=hs
   exact False.elim q
 | cont =>
   obtain ⟨_,_,_,q⟩:=hs
   exact False.elim q
end L2
namespace L2
open PySem PySem.Spec PyProof.Rows
section
variable {X:Cx}{x:Str}{p pos:Pos}{e:Expr}{es:List Expr}{t:TA}{id T:String}{r:List V→Hp→VK→Prop}
noncomputable def tCB(r:List V→Hp→VK→Prop)(t:TA):TE:=fun σ H Q=>t σ H fun vs H1=>r vs H1 Q
theorem pe_callB (hc:CallR X (.builtin id) r) (hg:Gl X x) (hm:X.mg x=none) (hv:bootBuiltins x=some (.builtin id)) (ha:PA X (e::es) t) (hn:x ≠ "__name__" := by decide) (hdb:(x==("__debug__" : Str))=false:=by decide)
   (he:starEach (e::es) X.env=(false,eval e X.env)::starEach es X.env:=by rfl) (hpl:(backTo pos (starEach es X.env)).any (·.1)=false:=by rfl):PE X (.Call (.Name x p) (e::es) [] pos) (tCB r t):=by
 intro pins s σ H Q I h
 refine wpAny_Call_Name_kw (ld_blt I hg hm hv ?_ hn hdb)
 exact PyProof.Rows.callWith_builtin1 (thn (ha pos pins s σ H _ I h) fun us s1 ⟨vs,H1,I1,r1,q1⟩=>hc pins s1 σ H1 vs us Q I1 r1 q1) he hpl
theorem pe_callTy (hc:CallR X (.type T) r) (hg:Gl X x) (hm:X.mg x=none) (hv:bootBuiltins x=some (.type T)) (ha:PA X (e::es) t) (hn:x ≠ "__name__" := by decide) (hdb:(x==("__debug__" : Str))=false:=by decide)
   (he:starEach (e::es) X.env=(false,eval e X.env)::starEach es X.env:=by rfl) (hpl:(backTo pos (starEach es X.env)).any (·.1)=false:=by rfl):PE X (.Call (.Name x p) (e::es) [] pos) (tCB r t):=by
 intro pins s σ H Q I h
 refine wpAny_Call_Name_kw (ld_blt I hg hm hv ?_ hn hdb)
 exact PyProof.Rows.callWith_type1 (thn (ha pos pins s σ H _ I h) fun us s1 ⟨vs,H1,I1,r1,q1⟩=>hc pins s1 σ H1 vs us Q I1 r1 q1) he hpl
end
end L2
namespace HT
open PySem PyProof.Rows
section
open PySem.SeqAt
open PySem.AutoSeq1 (wpAny_loadPart')
open PySem.MeetsSeq PySem.MeetsSeq2 PySem.MeetsSeq3
end
section
variable {prog:Program}{w:World}{A:Around}{E:Value→Shared→Prop}{s:Shared}
theorem cat_tup{t b:Addr}{vs ws:List Value}{Q:Value→Shared→Prop}(ht:IsTup s.heap t vs.toArray)(hb:IsTup s.heap b ws.toArray)(hv:vs≠[])
   (h1:ws=[]→Q (.ref t) s) (h2:ws≠[]→Q (.ref s.heap.objs.size) {s with heap:=s.heap.push {cls:=.type "tuple",data:=.seq (vs++ws).toArray}})
   (hsz:vs.length+ws.length≤sizeLine):wpAny (model prog w) A (binaryOp .Add (.ref t) (.ref b)) Q E s:=by
 obtain ⟨⟨cls,dd,data,sl⟩,ho,hc,n,hd⟩:=id ht
 obtain ⟨⟨cls2,dd2,data2,sl2⟩,ho2,hc2,n2,hd2⟩:=id hb
 simp only at hc hd hc2 hd2
 subst hc hd hc2 hd2
 have e:vs.toArray++ws.toArray=(vs++ws).toArray:=by simp
 by_cases hw:ws=[]
 · exact concat_meets ⟨_,ho,rfl⟩ ⟨_,ho2,rfl⟩ noFill_tuple_add seq_tuple_add PySem.F.slot_tuple_add PySem.F.entry_tuple_add (PySem.F.args_tuple_add_2 _ _)
     (tuple_addW1 t b vs.toArray ws.toArray n n2 dd dd2 sl sl2 (by simpa using hv) (by simp [hw])) ⟨ho,ho2,h1 hw⟩
 · refine concat_meets ⟨_,ho,rfl⟩ ⟨_,ho2,rfl⟩ noFill_tuple_add seq_tuple_add PySem.F.slot_tuple_add PySem.F.entry_tuple_add (PySem.F.args_tuple_add_2 _ _)
     (tuple_addW2 t b vs.toArray ws.toArray n n2 dd dd2 sl sl2 (by simpa using hv) (by simpa using hw) (by rw [Ωf,Ωf];exact hsz)) ⟨ho,ho2,?_⟩
   rw [e]
   exact h2 hw
noncomputable def sIx(n d:Nat):Option Int→Nat
 | none=>d
 | some v=>if v<0 then (v+(n:Int)).toNat else min v.toNat n
theorem sIx_le(n d:Nat)(hd:d≤n)(o:Option Int):sIx n d o≤n:=by
 cases o with
 | none=>exact hd
 | some v =>
   show (if v<0 then (v+(n:Int)).toNat else min v.toNat n)≤n
   by_cases hv:v<0
   · rw [if_pos hv];omega
   · rw [if_neg hv];exact Nat.min_le_right _ _
theorem clip_eq(v:Int)(n d:Nat):(if v<0 then max (v+(n:Int)) 0 else min v (n:Int))=((sIx n d (some v):Nat):Int):=by
 show (if v<0 then max (v+(n:Int)) 0 else min v (n:Int))=(((if v<0 then (v+(n:Int)).toNat else min v.toNat n):Nat):Int)
 by_cases hv:v<0
 · simp only [if_pos hv];omega
 · simp only [if_neg hv];omega
theorem adjust_gen(lo hi:Option Int)(n:Nat):Builtin.Slice.sliceAdjust lo hi 1 (n:Int)=(((sIx n 0 lo:Nat):Int),((sIx n n hi:Nat):Int)):=by
 have h1:¬ ((1:Int)<0):=by omega
 unfold Builtin.Slice.sliceAdjust
 simp only [h1,if_false]
 refine Prod.ext ?_ ?_
 · cases lo with
   | none=>rfl
   | some v=>exact clip_eq v n 0
 · cases hi with
   | none=>rfl
   | some v=>exact clip_eq v n n
theorem places_gen(i j:Nat):Builtin.Slice.slicePlaces (i:Int) (j:Int) 1=j - i:=by
 unfold Builtin.Slice.slicePlaces
 have h1:(1:Int) > 0:=by omega
 simp only [h1,if_true,Int.ediv_one]
 split<;>omega
theorem slicePart_{v:Value}{o:Option Int}{Q:Option Int→Shared→Prop}(p:IsPart v o)(h:Q o s):wpAny (model prog w) A (Builtin.Slice.slicePartIndex v) Q E s:=by
 cases p with
 | none=>exact slicePart_none h
 | int i t=>exact slicePart_int h
theorem sliceApplied_gen{sl:Addr}{vl vu:Value}{lo hi:Option Int}{n:Nat}{Q:Int×Int×Nat→Shared→Prop}(hs:s.heap.IsSliceOf sl vl vu .none)(pl:IsPart vl lo)(pu:IsPart vu hi)
   (h:Q (((sIx n 0 lo:Nat):Int),1,sIx n n hi - sIx n 0 lo) s):wpAny (model prog w) A (Builtin.Slice.sliceApplied (.ref sl) (pure (n:Int))) Q E s:=by
 obtain ⟨os,hos,hcs,hds⟩:=id hs
 unfold Builtin.Slice.sliceApplied Builtin.Slice.sliceFields
 refine wpAny_bind (wpAny_bind (wpAny_field hos hds (x:=vl) rfl (wpAny_bind (wpAny_field hos hds (x:=vu) rfl (wpAny_bind (wpAny_field hos hds (x:=.none) rfl (wpAny_pure ?_)))))))
 refine wpAny_bind (slicePart_none ?_)
 show wpAny _ _ (if ((1:Int)==0)=true then _ else _) _ _ s
 rw [if_neg (by decide)]
 refine wpAny_bind (slicePart_ pl (wpAny_bind (slicePart_ pu (wpAny_bind (wpAny_pure ?_)))))
 show wpAny _ _ (match Builtin.Slice.sliceAdjust lo hi 1 (n:Int) with|(lo,hi)=>pure (lo,(1:Int),Builtin.Slice.slicePlaces lo hi 1)) _ _ s
 rw [adjust_gen lo hi n]
 show wpAny _ _ (pure (((sIx n 0 lo:Nat):Int),(1:Int),Builtin.Slice.slicePlaces ((sIx n 0 lo:Nat):Int) ((sIx n n hi:Nat):Int) 1)) _ _ s
 rw [places_gen]
 exact wpAny_pure h
theorem pick_gen(xs:Array Value)(i k:Nat):((List.range k).filterMap fun (m:Nat)=>xs[((i:Int)+(m:Int) * 1).toNat]?).toArray=((xs.toList.drop i).take k).toArray:=by
 have e:(fun (m:Nat)=>xs[((i:Int)+(m:Int) * 1).toNat]?)=fun m=>xs[i+m]? := by
   funext m
   have:((i:Int)+(m:Int) * 1).toNat=i+m:=by omega
   rw [this]
 rw [e]
 have:=pick_run xs i k
 rw [List.filterMap_map] at this
 have e2:((fun x=>xs[x]?) ∘ fun x=>i+x)=fun m=>xs[i+m]? := rfl
 rw [e2] at this
 rw [this]
theorem getItem_tuple_cut{t sl:Addr}{items:Array Value}{vl vu:Value}{lo hi:Option Int}{Q:Value→Shared→Prop}(ht:IsTup s.heap t items)(hs:s.heap.IsSliceOf sl vl vu .none)(pl:IsPart vl lo)(pu:IsPart vu hi)
   (hw:¬ (sIx items.size 0 lo=0∧sIx items.size items.size hi=items.size))
   (h:Q (.ref s.heap.objs.size) {s with heap:=s.heap.push {cls:=.type "tuple",data:=.seq ((items.toList.drop (sIx items.size 0 lo)).take (sIx items.size items.size hi - sIx items.size 0 lo)).toArray}})
   (hsz:items.size≤sizeLine):wpAny (model prog w) A (getItem (.ref t) (.ref sl)) Q E s:=by
 have htake:sizeOk (.seq ((items.toList.drop (sIx items.size 0 lo)).take (sIx items.size items.size hi - sIx items.size 0 lo)).toArray):=by
   show ((items.toList.drop (sIx items.size 0 lo)).take (sIx items.size items.size hi - sIx items.size 0 lo)).toArray.size≤sizeLine
   rw [Ωf,List.length_take,List.length_drop,Array.length_toList]
   omega
 have hj:sIx items.size items.size hi≤items.size:=sIx_le _ _ (Ωq _) hi
 obtain ⟨os,hos,hcs,hds⟩:=id hs
 have hTs:s.TypeIs (.ref sl) "slice" := ⟨os,hos,hcs⟩
 unfold getItem
 try with_reducible refine wpAny_holding ?_
 first|refine wpAny_bind (wpAny_pure ?_)|skip
 refine wpAny_bind (wpAny_sequenceKey ht.typeIs (by decide) ?_)
 refine wpAny_bind (wpAny_callSpecial?_slot (name:=Ω "__getitem__") ht.typeIs PyProof.Rows.slot_tuple_getitem
   (wpAny_call_entry PyProof.Rows.slot_tuple_getitem ht.typeIs entry_tuple_getitem ?_ (args_tuple_getitem _ _)))
 show wpAny _ _ (Builtin.Tuple.tupleItemsOf (.ref t) >>= _) _ _ s
 refine wpAny_bind (tupleItemsOf_ ht ?_)
 refine wpAny_bind (wpAny_typeOf hTs ?_)
 rw [if_pos (by decide)]
 refine wpAny_bind (sliceApplied_gen hs pl pu ?_)
 have hno:¬ ((((sIx items.size 0 lo:Nat):Int)==0&&(1:Int)==1&&(sIx items.size items.size hi - sIx items.size 0 lo)==items.size)=true):=by
   intro q
   rw [Ωa,Ωa] at q
   have q1:((sIx items.size 0 lo:Nat):Int)=0:=eq_of_beq q.1.1
   have q2:sIx items.size items.size hi - sIx items.size 0 lo=items.size:=eq_of_beq q.2
   exact hw ⟨by omega,by omega⟩
 show wpAny _ _ (if (((sIx items.size 0 lo:Nat):Int)==0&&(1:Int)==1&&(sIx items.size items.size hi - sIx items.size 0 lo)==items.size)=true then _ else _) _ _ s
 rw [if_neg hno,pick_gen]
 first
   | exact wpAny_bind (m:=Builtin.Tuple.tupleExact _) (wpAny_newObj_type (wpAny_pure ⟨_,rfl,wpAny_pure h⟩) htake)
   | exact wpAny_bind (m:=Builtin.Tuple.tupleExact _) (wpAny_newObj_type (wpAny_bind (wpAny_pure (wpAny_pure ⟨_,rfl,wpAny_pure h⟩))) htake)
   | exact wpAny_bind (wpAny_bind (m:=Builtin.Tuple.tupleExact _) (wpAny_newObj_type (wpAny_pure (wpAny_pure ⟨_,rfl,wpAny_pure h⟩)) htake))
   | exact wpAny_bind (wpAny_bind (m:=Builtin.Tuple.tupleExact _) (wpAny_newObj_type (wpAny_pure ⟨_,rfl,wpAny_pure h⟩) htake))
end
end HT
namespace L2
open PySem PySem.Spec PyProof.Rows
noncomputable abbrev TO:=St→Hp→(Option Int→Hp→Prop)→Prop
noncomputable def PO(X:Cx)(e:Option Expr)(t:TO):Prop :=
 ∀ (pins:List (Addr×Obj)) (s:Shared) (σ:St) (H:Hp) (Q:Option Int→Hp→Prop),Inv X pins σ H s→t σ H Q →
   wpAny (model X.prog X.w) X.A (evalPart e X.env) (fun u s'=>∃ o H',Inv X pins σ H' s'∧IsPart u o∧Q o H') X.xe s
noncomputable def tNoPart:TO:=fun _ H Q=>Q none H
noncomputable def tPart(t:TE):TO:=fun σ H Q=>t σ H fun x H1=>∃ i,x=.int i∧Q (some i) H1
section
variable {X:Cx}{e:Expr}{te:TE}{lo hi:Option Expr}{tl th:TO}{pos p2:Pos}
theorem po_none:PO X none tNoPart:=by
 intro pins s σ H Q I h
 rw [evalPart_none]
 exact wpAny_pure ⟨none,H,I,.none,h⟩
theorem po_some(h:PE X e te):PO X (some e) (tPart te):=by
 intro pins s σ H Q I hw
 rw [evalPart_some]
 refine thn (h pins s σ H _ I hw) fun u s1 ⟨x,H1,I1,r1,q1⟩=>?_
 obtain ⟨i,rfl,q⟩:=q1
 obtain ⟨t,rfl⟩:=r1
 exact ⟨some i,H1,I1,.int i t,q⟩
noncomputable def SlR(X:Cx)(r:V→Option Int→Option Int→Hp→VK→Prop):Prop :=
 ∀ (pins:List (Addr×Obj)) (s:Shared) (σ:St) (H:Hp) (x:V) (v vl vu:Value) (lo hi:Option Int) (sl:Addr) (Q:VK),Inv X pins σ H s→RelV x v→s.heap.IsSliceOf sl vl vu .none→IsPart vl lo→IsPart vu hi→r x lo hi H Q →
   ∃ T id,typeLookup (.type T) "__getitem__" = pure (some (.builtin id))∧s.TypeIs v T∧wpAny (model X.prog X.w) X.A (getItem v (.ref sl)) (EP X pins σ Q) X.xe s
noncomputable def tSl(r:V→Option Int→Option Int→Hp→VK→Prop)(te:TE)(tl th:TO):TE:=fun σ H Q=>te σ H fun x H1=>tl σ H1 fun l H2=>th σ H2 fun u H3=>r x l u H3 Q
theorem pe_slice{r:V→Option Int→Option Int→Hp→VK→Prop}(hr:SlR X r)(he:PE X e te)(hl:PO X lo tl)(hu:PO X hi th):PE X (.Subscript e (.Slice lo hi none p2) pos) (tSl r te tl th):=by
 intro pins s σ H Q I h
 refine Subscript_ (thn (he pins s σ H _ I h) fun v s1 ⟨x,H1,I1,r1,q1⟩=>?_)
 refine wpAny_Slice (thn (hl pins s1 σ H1 _ I1 q1) fun vl s2 ⟨l,H2,I2,pl,q2⟩=>thn (hu pins s2 σ H2 _ I2 q2) fun vu s3 ⟨u,H3,I3,pu,q3⟩=>?_)
 rw [evalPart_none]
 refine wpAny_pure ?_
 have I4:Inv X pins σ H3 {s3 with heap:=s3.heap.push {cls:=.type "slice",data:=.fields #[vl,vu,.none]}}:=I3.kept (t':=s3.toks) fun b ob q=>Ωd _ q
 obtain ⟨T,id,hT,ht,hg⟩:=hr pins {s3 with heap:=s3.heap.push {cls:=.type "slice",data:=.fields #[vl,vu,.none]}} σ H3 x v vl vu l u s3.heap.objs.size Q I4 r1 (Heap.IsSliceOf.new ..) pl pu q3
 show wpAny (model X.prog X.w) X.A (subscriptTail e (.Slice lo hi none p2) v (.ref s3.heap.objs.size)) (EP X pins σ Q) X.xe {s3 with heap:=s3.heap.push {cls:=.type "slice",data:=.fields #[vl,vu,.none]}}
 exact tail_any (ops:=[.ref s3.heap.objs.size,v]) ht hT hg (by with_unfolding_all rfl)
noncomputable def cutV(xs:List V)(lo hi:Option Int):List V:=(xs.drop (HT.sIx xs.length 0 lo)).take (HT.sIx xs.length xs.length hi - HT.sIx xs.length 0 lo)
theorem cutV_length(xs:List V)(lo hi:Option Int):(cutV xs lo hi).length≤xs.length:=by
 unfold cutV
 rw [List.length_take,List.length_drop]
 omega
noncomputable def rSlT(K:PySem.W.Frag):V→Option Int→Option Int→Hp→VK→Prop:=fun x lo hi H Q=>∃ a xs,x=.ref a∧SqT K H a xs ∧
 ¬ (HT.sIx xs.length 0 lo=0∧HT.sIx xs.length xs.length hi=xs.length)∧∀ p,H p=none→Q (.ref p) (upd H p (.tup (cutV xs lo hi)))
theorem sl_tup:SlR X (rSlT X.K):=by
 intro pins s σ H x v vl vu lo hi sl Q I rx hs pl pu h
 obtain ⟨a,xs,rfl,hx,hw,q⟩:=h
 cases rx
 obtain ⟨its,r,ht,hz⟩:=I.tuple hx
 have hlen:its.toArray.size=xs.length:=by rw [Ωf];exact r.length.symm
 refine ⟨"tuple",_,PyProof.Rows.slot_tuple_getitem.lookup,ht.typeIs,?_⟩
 refine HT.getItem_tuple_cut ht hs pl pu (by rw [hlen];exact hw) ?_ (by rw [hlen];exact hz)
 rw [hlen]
 refine ⟨.ref s.heap.objs.size,_,I.laid (t':=s.toks) (o:=.tup (cutV xs lo hi)) (fun b ob q=>Ωd _ q) (Ωq _) ?_,rfl,q _ (I.hok.fresh (Ωq _))⟩
 exact ⟨ΩE (cutV_length xs lo hi) hz,_,(r.drop (HT.sIx xs.length 0 lo)).take (HT.sIx xs.length xs.length hi - HT.sIx xs.length 0 lo),IsTupN.fresh _ _⟩
noncomputable def rCatT(K:PySem.W.Frag):R2:=fun x y H Q=>∃ a b xs ys,x=.ref a∧y=.ref b∧SqT K H a xs∧SqT K H b ys∧xs≠[]∧xs.length+ys.length≤sizeLine ∧
 (ys=[]→Q (.ref a) H)∧(ys≠[]→∀ p,H p=none→Q (.ref p) (upd H p (.tup (xs++ys))))
theorem Vals.nil_iff{xs:List V}{us:List Value}(r:Vals xs us):us=[]↔xs=[]:=by
 cases r with
 | nil=>simp
 | cons _ _=>simp
theorem op_catT:OpR X (binaryOp .Add) (rCatT X.K):=by
 intro pins s σ H x y v u Q I rx ry h
 obtain ⟨a,b,xs,ys,rfl,rfl,ha,hb,hx,hz,q1,q2⟩:=h
 cases rx
 cases ry
 obtain ⟨its,r1,p1,_⟩:=I.tuple ha
 obtain ⟨its2,r2,p2,_⟩:=I.tuple hb
 refine HT.cat_tup p1 p2 (fun z=>hx (r1.nil_iff.mp z)) (fun z=>⟨.ref a,H,I,rfl,q1 (r2.nil_iff.mp z)⟩) (fun z=>?_) (by rw [← r1.length,← r2.length];exact hz)
 refine ⟨.ref s.heap.objs.size,_,I.laid (t':=s.toks) (o:=.tup (xs++ys)) (fun b ob q=>Ωd _ q) (Ωq _) ?_,rfl,q2 (fun w=>z (r2.nil_iff.mpr w)) _ (I.hok.fresh (Ωq _))⟩
 exact ⟨by rw [ΩA];exact hz,_,r1.append r2,IsTupN.fresh _ _⟩
end
end L2
namespace L2
open PySem PySem.Spec PyProof.Rows
noncomputable def ixN(n:Nat)(i:Int):Option Nat:=if 0≤i then (if i<n then some i.toNat else none) else if -(n:Int)≤i then some (i+n).toNat else none
noncomputable def atI{α:Type}(xs:List α)(i:Int):Option α:=(ixN xs.length i).bind fun j=>xs[j]?
theorem ixN_seq{n:Nat}{i:Int}{j:Nat}(h:ixN n i=some j):seqIndex? i n=some j∧j<n∧-(n:Int)≤i∧i<n:=by
 unfold ixN at h
 by_cases h0:0≤i
 · rw [if_pos h0] at h
   by_cases h1:i<n
   · rw [if_pos h1] at h
     have e:i.toNat=j:=Option.some.inj h
     exact ⟨by rw [seqIndex_of h0 h1,e],by omega,by omega,h1⟩
   · rw [if_neg h1] at h;cases h
 · rw [if_neg h0] at h
   by_cases h1:-(n:Int)≤i
   · rw [if_pos h1] at h
     have e:(i+n).toNat=j:=Option.some.inj h
     exact ⟨by rw [seqIndex_neg (by omega) h1,e],by omega,h1,by omega⟩
   · rw [if_neg h1] at h;cases h
theorem atI_get{α:Type}{xs:List α}{i:Int}{v:α}(h:atI xs i=some v):∃ j,seqIndex? i xs.length=some j∧xs[j]? = some v∧j<xs.length∧-(xs.length:Int)≤i∧i<xs.length:=by
 unfold atI at h
 cases e:ixN xs.length i with
 | none=>rw [e] at h;cases h
 | some j =>
   rw [e] at h
   obtain ⟨h1,h2,h3,h4⟩:=ixN_seq e
   exact ⟨j,h1,h,h2,h3,h4⟩
noncomputable def PlainIx(b:Expr):Prop:=∀ o i,subscripted b false o i=operate [o,i] (getItem o i)
noncomputable def IxR(X:Cx)(r:R2):Prop :=
 ∀ (value slice:Expr) (pins:List (Addr×Obj)) (s:Shared) (σ:St) (H:Hp) (x y:V) (v u:Value) (Q:VK),Inv X pins σ H s→RelV x v→RelV y u→r x y H Q →
   subscripted slice false v u=operate [v,u] (getItem v u)→wpAny (model X.prog X.w) X.A (subscriptTail value slice v u) (EP X pins σ Q) X.xe s
noncomputable def MtR(X:Cx)(id:String)(r:V→List V→Hp→VK→Prop):Prop :=
 ∀ (pins:List (Addr×Obj)) (s:Shared) (σ:St) (H:Hp) (x:V) (xs:List V) (v:Value) (us:List Value) (Q:VK),Inv X pins σ H s→RelV x v→Vals xs us→r x xs H Q →
   wpAny (model X.prog X.w) X.A (call (.builtin id) (v::us)) (EP X pins σ Q) X.xe s
section
variable {X:Cx}{a b:Expr}{ta tb:TE}{pos:Pos}
theorem pe_ix{r:R2}(hr:IxR X r)(ha:PE X a ta)(hb:PE X b tb)(hs:PlainIx b):PE X (.Subscript a b pos) (tOp r ta tb):=by
 intro pins s σ H Q I h
 exact Subscript_ (binT ha hb I h fun v u s2 x y H2 I2 rx ry q=>hr a b pins s2 σ H2 x y v u Q I2 rx ry q (hs _ _))
noncomputable def rIxL(K:PySem.W.Frag):R2:=fun x y H Q=>∃ p xs i v,x=.ref p∧y=.int i∧SqL K H p xs∧atI xs i=some v∧Q v H
noncomputable def rIxT(K:PySem.W.Frag):R2:=fun x y H Q=>∃ p xs i v,x=.ref p∧y=.int i∧SqT K H p xs∧atI xs i=some v∧Q v H
noncomputable def rIxS:R2:=fun x y H Q=>∃ z i c,x=.str z∧y=.int i∧z.length≤sizeLine∧atI z.cps.toList i=some c∧Q (.str ⟨#[c]⟩) H
theorem ix_list:IxR X (rIxL X.K):=by
 intro value slice pins s σ H x y v u Q I rx ry h hs
 obtain ⟨p,xs,i,z,rfl,rfl,hq,he,q⟩:=h
 cases rx
 obtain ⟨t,rfl⟩:=ry
 obtain ⟨its,r,pl,hz⟩:=I.list hq
 obtain ⟨j,h1,h2,h3,h4,h5⟩:=atI_get he
 obtain ⟨w,ew,rw'⟩:=r.get h2
 have hl:=r.length
 have hn:=line63
 have fin:EP X pins σ Q w s:=⟨z,H,I,rw',q⟩
 by_cases h0:0≤i
 · have hj:i.toNat=j:=by
     rw [seqIndex_of h0 h5] at h1
     exact Option.some.inj h1
   exact item_listR pl.isList h0 (by omega) (by rw [hj];simpa using ew) fin hs
 · have hj:(i+(its.toArray.size:Int)).toNat=j:=by
     rw [seqIndex_neg (by omega) h4] at h1
     rw [Ωf,← hl]
     exact Option.some.inj h1
   exact subscriptTail_builtinR (x:=w) pl.isList.typeIs slot_list_getitem.lookup
     (wpAny_getItem_list_neg (Q:=fun r s'=>r=w∧EP X pins σ Q r s') pl.isList (by omega) (by rw [Ωf]<;>omega) (by omega) (by rw [hj];simpa using ew) ⟨rfl,fin⟩) hs
theorem ix_tup:IxR X (rIxT X.K):=by
 intro value slice pins s σ H x y v u Q I rx ry h hs
 obtain ⟨p,xs,i,z,rfl,rfl,hq,he,q⟩:=h
 cases rx
 obtain ⟨t,rfl⟩:=ry
 obtain ⟨its,r,pl,hz⟩:=I.tuple hq
 obtain ⟨j,h1,h2,h3,h4,h5⟩:=atI_get he
 obtain ⟨w,ew,rw'⟩:=r.get h2
 have hl:=r.length
 have hn:=line63
 have fin:EP X pins σ Q w s:=⟨z,H,I,rw',q⟩
 exact subscriptTail_builtinR (x:=w) pl.typeIs slot_tuple_getitem.lookup
   (getItem_tuple (j:=j) (Q:=fun r s'=>r=w∧EP X pins σ Q r s') pl (by omega) (by omega) (by rw [Ωf,← hl];exact h1) (by simpa using ew) ⟨rfl,fin⟩) hs
theorem ix_str:IxR X rIxS:=by
 intro value slice pins s σ H x y v u Q I rx ry h hs
 obtain ⟨z,i,c,rfl,rfl,hz,he,q⟩:=h
 obtain ⟨t,rfl⟩:=rx
 obtain ⟨t',rfl⟩:=ry
 obtain ⟨j,h1,h2,h3,h4,h5⟩:=atI_get he
 have hl:z.cps.toList.length=z.length:=by simp [Str.length]
 rw [hl] at h1 h4 h5
 have hn:=line63
 exact tail_any (typeIs_str s z t) slot_str_getitem.lookup (getItem_str (c:=c) (by
   have e1:decide (i < -(2 ^ 63:Int))=false:=decide_eq_false (by omega)
   have e2:decide (i ≥ 2 ^ 63)=false:=decide_eq_false (by omega)
   rw [e1,e2,Bool.or_false]) (by rw [h1];simpa using h2) ⟨.str ⟨#[c]⟩,H,I.tok _,⟨_,rfl⟩,q⟩) hs
theorem mapSeq_set (its:List Value) (n j:Nat) (u:Value):Obj.mapSeq (·.setIfInBounds j u) {cls:=.type "list",data:=.seq its.toArray n}={cls:=.type "list",data:=.seq (its.set j u).toArray n}:=by
 simp [Obj.mapSeq]
theorem Inv.lst{pins:List (Addr×Obj)}{σ:St}{H:Hp}{s:Shared}{p:Addr}{xs:List V}(I:Inv X pins σ H s)(h:H p=some (.lst xs)) :
   ∃ (its:List Value) (n:Nat),Vals xs its∧s.heap.get? p=some {cls:=.type "list",data:=.seq its.toArray n}∧xs.length≤sizeLine:=by
 obtain ⟨z,its,n,r,e⟩:=I.hok p _ h
 exact ⟨its,n,r,e,z⟩
theorem Inv.lstUpd{pins:List (Addr×Obj)}{σ:St}{H:Hp}{s:Shared}{p:Addr}{xs ys:List V}{its its':List Value}{n n':Nat}{f:Obj→Obj}(I:Inv X pins σ H s)(h:H p=some (.lst xs))
   (ho:s.heap.get? p=some {cls:=.type "list",data:=.seq its.toArray n}) (hf:f {cls:=.type "list",data:=.seq its.toArray n}={cls:=.type "list",data:=.seq its'.toArray n'}) (r:Vals ys its') (hz:ys.length≤sizeLine) (t:Nat) :
   Inv X pins σ (upd H p (.lst ys)) {s with heap:=s.heap.update p f,toks:=t}:=by
 have e:(s.heap.update p f).get? p=some {cls:=.type "list",data:=.seq its'.toArray n'}:=by
   rw [Heap.get?_update_self f ho (by rw [hf]<;>rfl),hf]
 refine I.write (x:=p) (e:=p) (by rw [h];trivial) (.inl rfl) (fun b u hb q=>(Heap.get?_update_other _ _ (Ne.symm hb)).trans q) ⟨_,e⟩ ?_
 exact ⟨hz,its',n',r,e⟩
noncomputable def rSetL:V→V→V→Hp→(Hp→Prop)→Prop:=fun o i v H Q=>∃ p xs k j,o=.ref p∧i=.int k∧H p=some (.lst xs)∧ixN xs.length k=some j∧Q (upd H p (.lst (xs.set j v)))
theorem set_list:PSet X rSetL:=by
 intro pins s σ H o i v ov iv u Q I ro ri rv h
 obtain ⟨p,xs,k,j,rfl,rfl,hp,hj,q⟩:=h
 cases ro
 obtain ⟨t,rfl⟩:=ri
 obtain ⟨its,n,r,ho,hz⟩:=I.lst hp
 obtain ⟨h1,h2,h3,h4⟩:=ixN_seq hj
 have hl:=r.length
 have hn:=line63
 have I':Inv X pins σ (upd H p (.lst (xs.set j v))) {s with heap:=s.heap.update p (Obj.mapSeq (·.setIfInBounds j u))} :=
   I.lstUpd hp ho (mapSeq_set its n j u) (r.set rv j) (by rw [List.length_set];exact hz) s.toks
 by_cases h0:0≤k
 · have hk:k.toNat=j:=by
     rw [seqIndex_of h0 h4] at h1
     exact Option.some.inj h1
   exact PySem.W.ki_setAt ho h0 (by omega) (by rw [Ωf,← hl];exact h4) (by rw [hk];exact ⟨_,I',q⟩)
 · have hk:(k+(its.toArray.size:Int)).toNat=j:=by
     rw [seqIndex_neg (by omega) h3] at h1
     rw [Ωf,← hl]
     exact Option.some.inj h1
   exact PySem.W.ki_setBack ho (by omega) (by rw [Ωf,← hl];exact h3) (by omega) (by rw [hk];exact ⟨_,I',q⟩)
theorem slice_bounds(lo hi:Option Int)(n:Nat):(sliceBounds lo hi none n).1=((HT.sIx n 0 lo:Nat):Int)∧(sliceBounds lo hi none n).2.1=((HT.sIx n n hi:Nat):Int)∧(sliceBounds lo hi none n).2.2=1:=by
 refine ⟨?_,?_,rfl⟩
 · cases lo with
   | none=>simp [sliceBounds,HT.sIx]
   | some i =>
     simp only [sliceBounds,HT.sIx,Option.getD_none,show (1:Int) > 0 by decide,if_true]
     by_cases h:i<0
     · simp only [h,if_true]<;>omega
     · simp only [h,if_false]<;>omega
 · cases hi with
   | none=>simp [sliceBounds,HT.sIx]
   | some i =>
     simp only [sliceBounds,HT.sIx,Option.getD_none,show (1:Int) > 0 by decide,if_true]
     by_cases h:i<0
     · simp only [h,if_true]<;>omega
     · simp only [h,if_false]<;>omega
theorem slicePick_cut(its:List Value)(lo hi:Option Int):slicePick its.toArray lo hi none=((its.drop (HT.sIx its.length 0 lo)).take (HT.sIx its.length its.length hi - HT.sIx its.length 0 lo)).toArray:=by
 obtain ⟨h1,h2,h3⟩:=slice_bounds lo hi its.toArray.size
 unfold slicePick
 rw [h1,h2,h3]
 simp only [sliceRange_one,pick_run,Ωf]<;>rfl
noncomputable def rSlL(K:PySem.W.Frag):V→Option Int→Option Int→Hp→VK→Prop:=fun x lo hi H Q=>∃ a xs,x=.ref a∧SqL K H a xs∧∀ p,H p=none→Q (.ref p) (upd H p (.lst (cutV xs lo hi)))
theorem sl_list:SlR X (rSlL X.K):=by
 intro pins s σ H x v vl vu lo hi sl Q I rx hs pl pu h
 obtain ⟨a,xs,rfl,hx,q⟩:=h
 cases rx
 obtain ⟨its,r,ht,hz⟩:=I.list hx
 have hlen:=r.length
 refine ⟨"list",_,slot_list_getitem.lookup,ht.isList.typeIs,?_⟩
 refine wpAny_getItem_list_slice ht.isList hs pl pu .none (by simp) ?_ (by rw [Ωf]<;>omega)
 rw [slicePick_cut,← hlen]
 refine ⟨.ref s.heap.objs.size,_,I.laid (t':=s.toks) (o:=.lst (cutV xs lo hi)) (fun b ob q=>Ωd _ q) (Ωq _) ?_,rfl,q _ (I.hok.fresh (Ωq _))⟩
 exact ⟨ΩE (cutV_length xs lo hi) hz,_,0,(r.drop (HT.sIx xs.length 0 lo)).take (HT.sIx xs.length xs.length hi - HT.sIx xs.length 0 lo),Ωj _ rfl⟩
noncomputable def flatV:V→Bool
 | .non=>true
 | .bl _=>true
 | .int _=>true
 | .str _=>true
 | _=>false
noncomputable def eqV:V→V→Bool
 | .non,.non=>true
 | .bl a,.bl b=>a==b
 | .bl a,.int b=>(if a then 1 else 0)==b
 | .int a,.bl b=>a==(if b then 1 else 0)
 | .int a,.int b=>a==b
 | .str a,.str b=>a==b
 | _,_=>false
theorem eqAt_V{A:Around}{s:Shared}{y x:V}{u v:Value}(ry:RelV y u)(rx:RelV x v)(fy:flatV y=true)(fx:flatV x=true):SeqAt.EqAt A s u v (eqV y x):=by
 cases y with
 | non =>
   cases ry
   cases x with
   | non=>cases rx;exact SeqAt.EqAt.same _
   | bl b=>cases rx;exact SeqAt.EqAt.none_bool b
   | int b=>obtain ⟨t,rfl⟩:=rx;exact SeqAt.EqAt.none_int b t
   | str b=>obtain ⟨t,rfl⟩:=rx;exact SeqAt.EqAt.none_str b t
   | _=>exact absurd (show false=true from fx) Ωw
 | bl a =>
   cases ry
   cases x with
   | non=>cases rx;exact SeqAt.EqAt.bool_none a
   | bl b=>cases rx;exact SeqAt.EqAt.bool_bool a b
   | int b=>obtain ⟨t,rfl⟩:=rx;exact SeqAt.EqAt.bool_int a b t
   | str b=>obtain ⟨t,rfl⟩:=rx;exact SeqAt.EqAt.bool_str a b t
   | _=>exact absurd (show false=true from fx) Ωw
 | int a =>
   obtain ⟨t',rfl⟩:=ry
   cases x with
   | non=>cases rx;exact SeqAt.EqAt.int_none a t'
   | bl b=>cases rx;exact SeqAt.EqAt.int_bool a t' b
   | int b=>obtain ⟨t,rfl⟩:=rx;exact SeqAt.EqAt.int_int a t' b t
   | str b=>obtain ⟨t,rfl⟩:=rx;exact SeqAt.EqAt.int_str a t' b t
   | _=>exact absurd (show false=true from fx) Ωw
 | str a =>
   obtain ⟨t',rfl⟩:=ry
   cases x with
   | non=>cases rx;exact SeqAt.EqAt.str_none a t'
   | bl b=>cases rx;exact SeqAt.EqAt.str_bool a t' b
   | int b=>obtain ⟨t,rfl⟩:=rx;exact SeqAt.EqAt.str_int a t' b t
   | str b=>obtain ⟨t,rfl⟩:=rx;exact SeqAt.EqAt.str_str a t' b t
   | _=>exact absurd (show false=true from fx) Ωw
 | _=>exact absurd (show false=true from fy) Ωw
noncomputable def eqU(x:V)(u:Value):Bool:=match u with
 | .none=>eqV .non x
 | .bool b=>eqV (.bl b) x
 | .int i _=>eqV (.int i) x
 | .str z _=>eqV (.str z) x
 | _=>false
theorem eqU_of{x y:V}{u:Value}(r:RelV y u)(f:flatV y=true):eqU x u=eqV y x:=by
 cases y with
 | non=>cases r;rfl
 | bl b=>cases r;rfl
 | int i=>obtain ⟨t,rfl⟩:=r;rfl
 | str z=>obtain ⟨t,rfl⟩:=r;rfl
 | _=>exact absurd (show false=true from f) Ωw
theorem any_eqU{x:V}:∀ {xs:List V}{us:List Value},Vals xs us→xs.all flatV=true→us.any (eqU x)=xs.any fun y=>eqV y x
 | _,_,.nil,_=>rfl
 | y::xs,u::us,.cons r t,f=>by
   rw [List.all_cons,Ωa] at f
   rw [List.any_cons,List.any_cons,eqU_of r f.1,any_eqU t f.2]
theorem mem_eqAt{A:Around}{s:Shared}{x:V}{v:Value}(rx:RelV x v)(fx:flatV x=true):∀ {xs:List V}{us:List Value},Vals xs us→xs.all flatV=true→∀ u∈us,SeqAt.EqAt A s u v (eqU x u)
 | _,_,.nil,_=>fun u hu=>by cases hu
 | y::xs,u::us,.cons r t,f=>fun u' hu=>by
   rw [List.all_cons,Ωa] at f
   rcases Ωr.mp hu with rfl|hu
   · rw [eqU_of r f.1];exact eqAt_V r rx f.1 fx
   · exact mem_eqAt rx fx t f.2 u' hu
noncomputable def inV(x:V)(xs:List V):Bool:=xs.any fun y=>eqV y x
noncomputable def rIn(K:PySem.W.Frag)(neg:Bool):R2:=fun x y H Q=>∃ p xs,y=.ref p∧(SqL K H p xs∨SqT K H p xs)∧flatV x=true∧xs.all flatV=true∧Q (.bl (if neg then !inV x xs else inV x xs)) H
theorem op_in_seq:OpR X (compareOp .In) (rIn X.K false):=by
 intro pins s σ H x y v u Q I rx ry h
 obtain ⟨p,xs,rfl,hq,fx,fs,q⟩:=h
 cases ry
 rcases hq with hq|hq
 · obtain ⟨its,r,pl,hz⟩:=I.list hq
   refine SeqAt.in_listAt (eqU x) pl.isList (fun w hw=>mem_eqAt rx fx r fs w (by simpa using hw)) ⟨.bl _,H,I,rfl,?_⟩
   rw [show its.toArray.any (eqU x)=its.any (eqU x) by simp,any_eqU r fs]
   exact q
 · obtain ⟨its,r,pl,hz⟩:=I.tuple hq
   refine SeqAt.in_tupleAt (eqU x) pl (fun w hw=>mem_eqAt rx fx r fs w (by simpa using hw)) ⟨.bl _,H,I,rfl,?_⟩
   rw [show its.toArray.any (eqU x)=its.any (eqU x) by simp,any_eqU r fs]
   exact q
theorem op_notIn_seq:OpR X (compareOp .NotIn) (rIn X.K true):=by
 intro pins s σ H x y v u Q I rx ry h
 obtain ⟨p,xs,rfl,hq,fx,fs,q⟩:=h
 cases ry
 rcases hq with hq|hq
 · obtain ⟨its,r,pl,hz⟩:=I.list hq
   refine SeqAt.notIn_listAt (eqU x) pl.isList (fun w hw=>mem_eqAt rx fx r fs w (by simpa using hw)) ⟨.bl _,H,I,rfl,?_⟩
   rw [show its.toArray.any (eqU x)=its.any (eqU x) by simp,any_eqU r fs]
   exact q
 · obtain ⟨its,r,pl,hz⟩:=I.tuple hq
   refine SeqAt.notIn_tupleAt (eqU x) pl (fun w hw=>mem_eqAt rx fx r fs w (by simpa using hw)) ⟨.bl _,H,I,rfl,?_⟩
   rw [show its.toArray.any (eqU x)=its.any (eqU x) by simp,any_eqU r fs]
   exact q
theorem call_len_seq:CallR X (.builtin "len") (fun xs H Q=>∃ p ys,xs=[.ref p]∧(SqL X.K H p ys∨SqT X.K H p ys)∧Q (.int ys.length) H):=by
 intro pins s σ H xs us Q I r h
 obtain ⟨p,ys,rfl,hq,q⟩:=h
 obtain ⟨u,rfl,rx⟩:=vals1 r
 cases rx
 have hn:=line63
 rcases hq with hq|hq
 · obtain ⟨its,r',pl,hz⟩:=I.list hq
   have hlen:=r'.length
   exact Calls.call_len_list pl.isList (by simp only [Ωf]<;>omega) ⟨.int ys.length,H,I.tok _,⟨s.toks+1,by rw [Ωf,hlen]⟩,q⟩
 · obtain ⟨its,r',pl,hz⟩:=I.tuple hq
   have hlen:=r'.length
   exact len_tuple pl (by simp only [Ωf]<;>omega) ⟨.int ys.length,H,I.tok _,⟨s.toks+1,by rw [Ωf,hlen]⟩,q⟩
theorem call_len_str:CallR X (.builtin "len") (fun xs H Q=>∃ z,xs=[.str z]∧z.length≤sizeLine∧Q (.int z.length) H):=by
 intro pins s σ H xs us Q I r h
 obtain ⟨z,rfl,hz,q⟩:=h
 obtain ⟨u,rfl,t,rfl⟩:=vals1 r
 have hn:=line63
 exact len_str (by omega) ⟨.int z.length,H,I.tok _,⟨_,rfl⟩,q⟩
theorem call_tuple_of:CallR X (.type "tuple") (fun xs H Q=>∃ p ys,xs=[.ref p]∧((SqL X.K H p ys∧∀ l,H l=none→Q (.ref l) (upd H l (.tup ys)))∨(SqT X.K H p ys∧Q (.ref p) H))):=by
 intro pins s σ H xs us Q I r h
 obtain ⟨p,ys,rfl,h⟩:=h
 obtain ⟨u,rfl,rx⟩:=vals1 r
 cases rx
 rcases h with ⟨hq,q⟩|⟨hq,q⟩
 · obtain ⟨its,r',pl,hz⟩:=I.list hq
   have hlen:=r'.length
   refine call_tuple_list pl.isList (fun h' kp=>?_) (by simp only [Ωf]<;>omega)
   have I1:Inv X pins σ H {s with heap:=h'}:=I.kept (t':=s.toks) kp
   have I2:Inv X pins σ (upd H h'.objs.size (.tup ys)) {s with heap:=h'.push {cls:=.type "tuple",data:=.seq its.toArray}} :=
     I1.laid (t':=s.toks) (fun b o e=>Ωd _ e) (Ωq _) (show ObjOk X.prog X.w _ _ _ (.tup ys) from ⟨hz,its,r',IsTupN.fresh _ _⟩)
   exact ⟨.ref h'.objs.size,_,I2,rfl,q _ (I1.hok.fresh (Ωq _))⟩
 · obtain ⟨its,r',pl,hz⟩:=I.tuple hq
   exact call_tuple_same pl ⟨.ref p,H,I,rfl,q⟩
noncomputable def tyV(K:PySem.W.Frag)(T:String)(x:V)(H:Hp):Prop:=match x with
 | .str _=>T = "str"
 | .int _=>T = "int"
 | .ref p=>(T = "list" ∧ ∃ xs,SqL K H p xs)∨(T = "tuple" ∧ ∃ o,K.lookup p=some o∧o.cls=.type "tuple" ∧ o.dict=none) ∨
     (T = "dict" ∧ ((∃ kvs,H p=some (.dK kvs))∨∃ kvs,H p=some (.dT kvs)))∨(T = "set" ∧ ∃ S n,H p=some (.set S n))
 | _=>False
theorem tyV_is{pins:List (Addr×Obj)}{σ:St}{H:Hp}{s:Shared}{T:String}{x:V}{v:Value}(I:Inv X pins σ H s)(r:RelV x v)(ty:tyV X.K T x H) :
   s.TypeIs v T∧∀ a,v=.ref a→∃ ob,s.heap.get? a=some ob∧ob.dict=none:=by
 cases x with
 | str z =>
   obtain ⟨t,rfl⟩:=r
   cases (show T = "str" from ty)
   exact ⟨typeIs_str s z t,fun _ e=>nomatch e⟩
 | int i =>
   obtain ⟨t,rfl⟩:=r
   cases (show T = "int" from ty)
   exact ⟨typeIs_int s i t,fun _ e=>nomatch e⟩
 | ref p =>
   cases r
   rcases ty with ⟨rfl,xs,hq⟩|⟨rfl,o,hk,hc,hd⟩|⟨rfl,hk⟩|⟨rfl,S,n,hk⟩
   · obtain ⟨its,_,pl,_⟩:=I.list hq
     refine ⟨pl.isList.typeIs,fun a e=>?_⟩
     cases e
     obtain ⟨o,n,e,c,hd,_⟩:=pl
     exact ⟨o,e,hd⟩
   · refine ⟨⟨o,I.kIn p o hk,hc⟩,fun a e=>?_⟩
     cases e
     exact ⟨o,I.kIn _ o hk,hd⟩
   · have z:∃ o,s.heap.get? p=some o∧o.ExactDict:=by
       rcases hk with ⟨kvs,hk⟩|⟨kvs,hk⟩
       · obtain ⟨_,_,_,_,o,_,_,e,ex,_⟩:=I.hok p _ hk
         exact ⟨o,e,ex⟩
       · obtain ⟨_,_,_,_,o,_,_,e,ex,_⟩:=I.hok p _ hk
         exact ⟨o,e,ex⟩
     obtain ⟨o,e,ex⟩:=z
     refine ⟨⟨o,e,ex.1⟩,fun a e2=>?_⟩
     cases e2
     exact ⟨o,e,ex.2.1⟩
   · obtain ⟨o,_,_,_,e,ex,_⟩:=I.hok p _ hk
     refine ⟨⟨o,e,ex.1⟩,fun a e2=>?_⟩
     cases e2
     exact ⟨o,e,ex.2.1⟩
 | _=>exact False.elim ty
noncomputable def tBM0(K:PySem.W.Frag)(T:String)(r:V→List V→Hp→VK→Prop)(to:TE):TE:=fun σ H Q=>to σ H fun x H1=>tyV K T x H1∧r x [] H1 Q
noncomputable def tBM(K:PySem.W.Frag)(T:String)(r:V→List V→Hp→VK→Prop)(to:TE)(t:TA):TE:=fun σ H Q=>to σ H fun x H1=>tyV K T x H1∧t σ H1 fun xs H2=>r x xs H2 Q
variable {o e:Expr}{es:List Expr}{to:TE}{t:TA}{name:Str}{apos cpos:Pos}{T id:String}{r:V→List V→Hp→VK→Prop}
theorem pe_bm0 (pa:PlainAttrs T) (slot:Slot T name id) (hty:typeOf (.builtin id)=pure (.type "method_descriptor")) (hm:MtR X id r) (ho:PE X o to)
   (hbase:attributeBase o name X.env (eval o X.env)=eval o X.env:=by rfl) (hline:(apos.endLine==cpos.line)=true:=by rfl):PE X (.Call (.Attribute o name apos) [] [] cpos) (tBM0 X.K T r to):=by
 intro pins s σ H Q I h
 refine wpAny_Call_method0_late hbase hline (thn (ho pins s σ H _ I h) fun v s1 ⟨x,H1,I1,r1,ty,q1⟩=>?_)
 obtain ⟨h1,h2⟩:=tyV_is I1 r1 ty
 exact ⟨T,id,pa,slot,hty,h1,h2,Calls.callWith_builtin rfl (PySem.evalArgs_none (hm pins s1 σ H1 x [] v [] Q I1 r1 .nil q1))⟩
theorem pe_bm (pa:PlainAttrs T) (slot:Slot T name id) (hty:typeOf (.builtin id)=pure (.type "method_descriptor")) (hm:MtR X id r) (ho:PE X o to) (ha:PA X (e::es) t)
   (hbase:attributeBase o name X.env (eval o X.env)=eval o X.env:=by rfl)
   (hfew:((backTo cpos (starEach (e::es) X.env)).all (fun x=>!x.1)&&(backToKw cpos (keywordEach [] X.env)).all (fun x=>x.1.isSome)
     && decide ((e::es).length+([]:List Keyword).length+(if ([]:List Keyword).isEmpty then 0 else 1)<30))=true:=by rfl)
   (hline:(apos.endLine==cpos.line)=true:=by rfl) (hs:starEach (e::es) X.env=(false,eval e X.env)::starEach es X.env:=by rfl) (hplain:(backTo cpos (starEach es X.env)).any (·.1)=false:=by rfl) :
   PE X (.Call (.Attribute o name apos) (e::es) [] cpos) (tBM X.K T r to t):=by
 intro pins s σ H Q I h
 refine wpAny_Call_method_late hbase hfew hline rfl (thn (ho pins s σ H _ I h) fun v s1 ⟨x,H1,I1,r1,ty,q1⟩=>?_)
 obtain ⟨h1,h2⟩:=tyV_is I1 r1 ty
 refine ⟨T,id,pa,slot,hty,h1,h2,?_⟩
 have hA:=ha cpos pins s1 σ H1 _ I1 q1
 rw [hs] at hA ⊢
 refine Calls.callWith_builtin (by show (false || (backTo cpos (starEach es X.env)).any (·.1))=false;rw [hplain]<;>rfl) (Calls.evalArgs_plain ?_)
 exact thn hA fun us s2 ⟨vs,H2,I2,r2,q2⟩=>hm pins s2 σ H2 x vs v us Q I2 r1 r2 q2
end
end L2
namespace L2
open PySem PySem.Spec PyProof.Rows
noncomputable def MtM(X:Cx)(id:String)(r:V→List V→Hp→VK→Prop):Prop :=
 ∀ (pins:List (Addr×Obj)) (s:Shared) (σ:St) (H:Hp) (x:V) (xs:List V) (v:Value) (us:List Value) (Q:VK),Inv X pins σ H s→RelV x v→Vals xs us→r x xs H Q →
   wpAny (model X.prog X.w) X.A (call (.builtin id) (v::us)) (EP X pins σ Q) X.xe s
theorem Vals.one:∀ {x:V}{us:List Value},Vals [x] us→∃ u,us=[u]∧RelV x u
 | _,_,.cons r .nil=>⟨_,rfl,r⟩
theorem Vals.zero:∀ {us:List Value},Vals [] us→us=[]
 | _,.nil=>rfl
theorem Vals.dropLast{xs:List V}{us:List Value}(h:Vals xs us):Vals xs.dropLast us.dropLast:=by
 induction h with
 | nil=>exact .nil
 | cons r t ih =>
   cases t with
   | nil=>exact .nil
   | cons q t'=>exact .cons r ih
theorem Vals.reverse{xs:List V}{us:List Value}(h:Vals xs us):Vals xs.reverse us.reverse:=by
 induction h with
 | nil=>exact .nil
 | cons r t ih=>rw [List.reverse_cons,List.reverse_cons];exact Vals.append ih (.cons r .nil)
theorem erase_last{α:Type}(l:List α):l.eraseIdx (l.length - 1)=l.dropLast:=by
 induction l with
 | nil=>rfl
 | cons a r ih =>
   cases r with
   | nil=>rfl
   | cons b r =>
     have e:(a::b::r).length - 1=((b::r).length - 1)+1:=by
       have h1:(a::b::r).length=r.length+2:=rfl
       have h2:(b::r).length=r.length+1:=rfl
       omega
     rw [e,List.eraseIdx_cons_succ,ih]
     all_goals rfl
section
variable {X:Cx}{pins:List (Addr×Obj)}{σ:St}{H:Hp}{s:Shared}{l b:Addr}{xs ys zs:List V}
theorem Inv.lset{its its':List Value}{n:Nat}{f:Array Value→Array Value}{t':Nat}(I:Inv X pins σ H s)(hH:H l=some (.lst xs))
   (e:s.heap.get? l=some {cls:=.type "list",data:=.seq its.toArray n}) (hf:f its.toArray=its'.toArray) (hv:Vals ys its') (hz:ys.length≤sizeLine) :
   Inv X pins σ (upd H l (.lst ys)) {s with heap:=s.heap.update l (Obj.mapSeq f),toks:=t'}:=by
 have q:=PySem.IsL.update e f
 rw [hf] at q
 refine I.write (x:=l) (e:=l) (by rw [hH];exact trivial) (.inl rfl) (fun b' u hb hu=>(Heap.get?_update_other s.heap (Obj.mapSeq f) (Ne.symm hb)).trans hu) ⟨_,q⟩ ?_
 exact ⟨hz,its',_,hv,q⟩
theorem Inv.lnew{its:List Value}{t':Nat}(I:Inv X pins σ H s)(hv:Vals ys its)(hz:ys.length≤sizeLine) :
   Inv X pins σ (upd H s.heap.objs.size (.lst ys)) {s with heap:=s.heap.push {cls:=.type "list",data:=.seq its.toArray},toks:=t'} :=
 I.laid (fun _ _ q=>Ωd _ q) (Ωq _) ⟨hz,its,0,hv,Ωj _ rfl⟩
theorem Inv.fresh(I:Inv X pins σ H s):H s.heap.objs.size=none:=I.hok.fresh (Ωq _)
theorem Inv.lstM (I:Inv X pins σ H s) (hH:H l=some (.lst xs)):xs.length≤sizeLine∧∃ (its:List Value) (n:Nat),Vals xs its∧xs.length=its.length∧s.heap.get? l=some {cls:=.type "list",data:=.seq its.toArray n}:=by
 obtain ⟨z,its,n,r,e⟩:=I.hok l _ hH
 exact ⟨z,its,n,r,r.length,e⟩
theorem notLongL{n:Nat}(h:n≤sizeLine):Builtin.List.listTooLong n=false:=by
 unfold Builtin.List.listTooLong
 exact decide_eq_false (by omega)
end
section
variable {X:Cx}
noncomputable def rAppend:V→List V→Hp→VK→Prop:=fun x vs H Q=>∃ l xs y,x=.ref l∧vs=[y]∧H l=some (.lst xs)∧xs.length<sizeLine∧Q .non (upd H l (.lst (xs++[y])))
theorem mt_append:MtM X "list.append" rAppend:=by
 intro pins s σ H x vs v us Q I rx rv h
 obtain ⟨l,xs,y,rfl,rfl,hH,hz,q⟩:=h
 cases rx
 obtain ⟨u,rfl,ru⟩:=rv.one
 obtain ⟨z,its,n,r,hl,e⟩:=I.lstM hH
 refine call_meets F.slot_list_append ⟨_,e,rfl⟩ F.entry_list_append (F.args_list_append_2 _ _) (PySem.list_append l its.toArray n u (by rw [Ωf];omega)) ⟨e,?_⟩
 refine ⟨.non,_,I.lset (its':=its++[u]) hH e (by simp) (r.append (.cons ru .nil)) ?_,rfl,q⟩
 rw [ΩA,List.length_singleton]
 omega
noncomputable def rExtend:V→List V→Hp→VK→Prop:=fun x vs H Q=>∃ l b xs zs,x=.ref l∧vs=[.ref b]∧H l=some (.lst xs)∧H b=some (.lst zs)∧xs.length+zs.length≤sizeLine∧Q .non (upd H l (.lst (xs++zs)))
theorem mt_extend:MtM X "list.extend" rExtend:=by
 intro pins s σ H x vs v us Q I rx rv h
 obtain ⟨l,b,xs,zs,rfl,rfl,hH,hB,hz,q⟩:=h
 cases rx
 obtain ⟨u,rfl,ru⟩:=rv.one
 cases ru
 obtain ⟨z,its,n,r,hl,e⟩:=I.lstM hH
 obtain ⟨z2,its2,n2,r2,hl2,e2⟩:=I.lstM hB
 have hsz:its.toArray.size+its2.toArray.size≤sizeLine:=by rw [Ωf,Ωf];omega
 have hlong:¬ (!its.toArray.isEmpty&&Builtin.List.listTooLong (its.toArray.size+its2.toArray.size))=true:=by
   rw [notLongL hsz,Bool.and_false]
   exact Ωw
 refine call_meets F.slot_list_extend ⟨_,e,rfl⟩ F.entry_list_extend (F.args_list_extend_2 _ _)
   (AutoSeq1.list_extend_list_list_0 l its.toArray n b its2.toArray n2 hlong (by rw [Ωf];omega) (by omega)) ⟨e,e2,?_⟩
 refine ⟨.non,_,I.lset (its':=its++its2) hH e (by simp) (r.append r2) ?_,rfl,q⟩
 rw [ΩA]
 omega
noncomputable def rPop:V→List V→Hp→VK→Prop:=fun x vs H Q=>∃ l xs y,x=.ref l∧vs=[]∧H l=some (.lst xs)∧xs[xs.length - 1]? = some y∧Q y (upd H l (.lst xs.dropLast))
theorem mt_pop:MtM X "list.pop" rPop:=by
 intro pins s σ H x vs v us Q I rx rv h
 obtain ⟨l,xs,y,rfl,rfl,hH,hy,q⟩:=h
 cases rx
 have hus:=rv.zero
 subst hus
 obtain ⟨z,its,n,r,hl,e⟩:=I.lstM hH
 obtain ⟨u,hu,ru⟩:=r.get hy
 have hy':its.toArray[its.toArray.size - 1]? = some u:=by
   show its.toArray[its.length - 1]? = some u
   rw [← Array.getElem?_toList,← hl]
   exact hu
 refine call_meets F.slot_list_pop ⟨_,e,rfl⟩ F.entry_list_pop (F.args_list_pop_1 _) (MeetsSeq.list_pop_last l its.toArray n u hy' (by rw [Ωf];omega)) ⟨e,?_⟩
 refine ⟨y,_,I.lset (its':=its.dropLast) hH e ?_ r.dropLast ?_,ru,q⟩
 · show its.toArray.eraseIdxIfInBounds (its.toArray.size - 1)=its.dropLast.toArray
   rw [Ωf,List.eraseIdxIfInBounds_toArray,erase_last]
 · rw [List.length_dropLast]
   omega
noncomputable def rReverse:V→List V→Hp→VK→Prop:=fun x vs H Q=>∃ l xs,x=.ref l∧vs=[]∧H l=some (.lst xs)∧Q .non (upd H l (.lst xs.reverse))
theorem mt_reverse:MtM X "list.reverse" rReverse:=by
 intro pins s σ H x vs v us Q I rx rv h
 obtain ⟨l,xs,rfl,rfl,hH,q⟩:=h
 cases rx
 have hus:=rv.zero
 subst hus
 obtain ⟨z,its,n,r,hl,e⟩:=I.lstM hH
 refine call_meets F.slot_list_reverse ⟨_,e,rfl⟩ F.entry_list_reverse (F.args_list_reverse_1 _) (AutoSeq1.list_reverse_list_0 l its.toArray n (by rw [Ωf];omega)) ⟨e,?_⟩
 refine ⟨.non,_,I.lset (its':=its.reverse) hH e (by simp) r.reverse ?_,rfl,q⟩
 rw [List.length_reverse]
 omega
noncomputable def rClear:V→List V→Hp→VK→Prop:=fun x vs H Q=>∃ l xs,x=.ref l∧vs=[]∧H l=some (.lst xs)∧Q .non (upd H l (.lst []))
theorem mt_clear:MtM X "list.clear" rClear:=by
 intro pins s σ H x vs v us Q I rx rv h
 obtain ⟨l,xs,rfl,rfl,hH,q⟩:=h
 cases rx
 have hus:=rv.zero
 subst hus
 obtain ⟨z,its,n,r,hl,e⟩:=I.lstM hH
 refine call_meets F.slot_list_clear ⟨_,e,rfl⟩ F.entry_list_clear (F.args_list_clear_1 _) (AutoSeq1.list_clear_list_0 l its.toArray n (by rw [Ωf];omega)) ⟨e,?_⟩
 exact ⟨.non,_,I.lset (its':=[]) (ys:=[]) hH e rfl .nil (Nat.zero_le _),rfl,q⟩
noncomputable def rCat:R2:=fun x y H Q=>∃ l b xs zs,x=.ref l∧y=.ref b∧H l=some (.lst xs)∧H b=some (.lst zs)∧xs.length+zs.length≤sizeLine∧∀ p,H p=none→Q (.ref p) (upd H p (.lst (xs++zs)))
theorem op_cat:OpR X (binaryOp .Add) rCat:=by
 intro pins s σ H x y v u Q I rx ry h
 obtain ⟨l,b,xs,zs,rfl,rfl,hH,hB,hz,q⟩:=h
 cases rx
 cases ry
 obtain ⟨z,its,n,r,hl,e⟩:=I.lstM hH
 obtain ⟨z2,its2,n2,r2,hl2,e2⟩:=I.lstM hB
 refine PySem.P.add_list e e2 ?_ (by rw [Ωf,Ωf];omega)
 have ea:its.toArray++its2.toArray=(its++its2).toArray:=by simp
 rw [ea]
 exact ⟨.ref _,_,I.lnew (t':=s.toks) (r.append r2) (by rw [ΩA];omega),rfl,q _ I.fresh⟩
end
section
variable {prog:Program}{w:World}{A:Around}{E:Value→Shared→Prop}{s:Shared}
set_option maxRecDepth 100000 in
end
section
variable {X:Cx}
end
end L2
namespace Att
open PySem PySem.W PySem.Calls PyProof.Rows
theorem ints_of_wellAll{P:Params}{h:Heap}:∀ (ns:List Int) (vs:List Value),WellAll P h vs (ns.map WData.int)→IntsAre vs ns:=by
 intro ns
 induction ns with
 | nil =>
   intro vs w
   rw [Ωy] at w
   cases w
   exact .nil
 | cons n ns ih =>
   intro vs w
   rw [Ωp] at w
   cases w with
   | cons a b =>
     cases a
     exact .cons _ _ (ih _ b)
theorem script_of{l:OpenLaw}{n:Nat}(hn:l.most=some n){P:Params}{h:Heap}{args:List WData}{vals:List Value}
   (hpre:l.row.toRowW.claim.pre args=true) (hwl:WellAll P h vals args) :
   ∃ a vs ns,vals=[Value.ref a]∧args=[WData.list (ns.map WData.int)]∧h.get? a=some {cls:=.type "list",data:=.seq vs.toArray}∧IntsAre vs ns∧ns.length≤n:=by
 have hsh:WShape.hasAll [] args [.list .int]=true:=(pre_splitW hpre).1
 have hc:l.pre.holds [] {args:=args}=true:=(pre_splitW hpre).2
 obtain ⟨d,r,rfl,h1,h2⟩:=hasAllW_cons hsh
 obtain rfl:=hasAllW_nil h2
 obtain ⟨xs,rfl,h3⟩:=hasW_list h1
 obtain ⟨ns,rfl⟩:=items_int h3
 have hlen:ns.length≤n:=by
   unfold OpenLaw.pre at hc
   have h4:(WTm.not (.lt (.lit (.int (n:Int))) (.len (.arg 0)))).holds [] {args:=[.list (ns.map .int)]}=true:=by
     have h4:=(holds_andW hc).1
     rw [hn] at h4
     exact h4
   have h5:=condW_of h4 (w_not (w_lt w_lit (w_len_list (w_arg rfl))))
   rw [List.length_map] at h5
   refine Nat.le_of_not_lt fun q=>?_
   have q':(n:Int)<((ns.length:Nat):Int):=by omega
   first
     | (rw [decide_eq_true q'] at h5;exact absurd h5 (by decide))
     | (simp at h5;omega)
 cases hwl with
 | cons w1 w2 =>
   cases w2
   cases w1 with
   | list ho hall=>exact ⟨_,_,ns,rfl,rfl,ho,ints_of_wellAll ns _ hall,hlen⟩
theorem post_true(l:OpenLaw)(args:List WData):l.row.toRowW.claim.post args (.bool true) args=true :=
 postW_of (r:=l.row.toRowW) (X:=(true==true))
   (show WShape.has [] (.bool true) .bool=true by first|rfl|decide|simp [WShape.has,WShape.arms,WShape.armsAll])
   (show (WTm.eq .res (.lit (.bool true))).value [] {args:=args,res:=some (.bool true),after:=args}=some (.bool (true==true)) from w_eq_bool (w_res rfl) w_lit) rfl
theorem attach_call{l:OpenLaw}{n:Nat}{q:Program}{loose:List Str}{XP:(Str→Option Value)→Heap→Prop}{YP:World→Heap→Prop}{d:DefRec}
   (hn:l.most=some n) (hdf:d.params.defaults=[])
   (call:∀ (w:World) (s₀ s₁:Shared) (mg mb:Str→Option Value) (fa:Addr) (o:Obj) (pm cd doc:Value) (a:Addr) (vs:List Value) (ns:List Int),
     Ground q loose [] XP w s₀ mg mb s₁.heap→YP w s₁.heap →
     s₁.heap.get? fa=some o→o.data=.func (docDef d.name d.params d.body d.scope pm cd doc)→s₁.heap.CodeRec cd d.name→mg d.name=some (.ref fa) →
     s₁.heap.get? a=some {cls:=.type "list",data:=.seq vs.toArray}→IntsAre vs ns→ns.length≤n→s₁.gens=#[] →
     codeAny (model l.prog w) callerA (.call (.ref fa) ⟨[.ref a],[]⟩) (fun r s'=>r=.ok (.ret (.bool true))∧OldK s₁.heap s'.heap∧s'.os=s₁.os∧AllBare s'.gens) s₁) :
   WalkO q loose XP YP l.row.toRowW d [] (fun f vs=>PySem.call f vs):=by
 intro w s₀ s₁ mg mb G Y fa o pm cd doc dV kV ho hd hcd hD hmg hg args vals as hpre hlay hrd hwl hlo
 obtain rfl:dV=.none:=Dflts.none hD hdf
 obtain rfl:kV=.none:=Dflts.noKw hD
 obtain ⟨a,vs,ns,rfl,rfl,hobj,hints,hlen⟩:=script_of hn hpre hwl
 refine enter_call (codeAny_mono (call w s₀ s₁ mg mb fa o pm cd doc a vs ns G Y ho (fd_plain hd) hcd hmg hobj hints hlen hg) fun r s' hq=>?_)
 obtain ⟨rfl,h2,h3,h4⟩:=hq
 exact ⟨.inl ⟨.bool true,.bool true,[],rfl,fun _=>rfl,.bool true,post_true l _,fun _=>⟨List.Pairwise.nil,fun _ hm=>(nomatch hm)⟩⟩,h2,h3,h4⟩
section
variable {prog:Program}{w:World}{A:Around}{E:Value→Shared→Prop}{s:Shared}{K:Frag}
end
end Att
namespace L2
open PySem PySem.Spec PyProof.Rows
theorem vals_ints:∀ {vs:List Value}{ns:List Int},IntsAre vs ns→Vals (ns.map V.int) vs
 | _,_,.nil=>.nil
 | _,_,.cons n t h=>.cons ⟨t,rfl⟩ (vals_ints h)
noncomputable def Only(H:Hp):Prop:=∀ b,H b=none∨∃ o xs,H b=some (.frz o (.lst xs))
theorem law_call{P:Program}{w:World}{K:PySem.W.Frag}{mg mb:Str→Option Value}{CX:CXT}{k:Nat}{fa a:Addr}{fd:FuncData}{x:Str}{sp:Sp}{s₁:Shared}{vs:List Value}{ns:List Int}
   (KX:K.In s₁.heap) (hns:s₁.heap.Ns mainGlobals mg) (hb:s₁.heap.Ns builtinsNs mb) (hbb:∀ x:Str,x ≠ "__name__" → mb x=bootBuiltins x) (hlim:s₁.heap.NoLimit) (hg:s₁.gens=#[])
   (ha:s₁.heap.get? a=some {cls:=.type "list",data:=.seq vs.toArray}) (hi:IntsAre vs ns) (hl:ns.length≤sizeLine) (hr:Room k callerA)
   (F:∀ base:Heap,K.In base→base.Ns mainGlobals mg→FnOk P w K mg base CX k fa fd [x] sp) (hbind:∀ (s:Shared) (u:Value),BindsTo s fd ⟨[u],[]⟩ [(x,u)])
   (hsp:∀ H:Hp,Only H→SqL K H a (ns.map V.int)→sp [.ref a] H (fun v _=>v=.bl true) fun _ _ _=>False)
   (hCX:∀ H e s',CX [] H s₁ (fun _ _ _=>False) e s'→False) :
   codeAny (model P w) callerA (.call (.ref fa) ⟨[.ref a],[]⟩) (fun r s'=>r=.ok (.ret (.bool true))∧OldK s₁.heap s'.heap∧s'.os=s₁.os∧AllBare s'.gens) s₁:=by
 have rv:=vals_ints hi
 have lenV:=hi.length
 have core:∀ H:Hp,Only H→SqL K H a (ns.map V.int)→HOk P w H s₁.heap→(∀ b,H b≠none→b=a)→(H a≠none→K.lookup a=none) →
     codeAny (model P w) callerA (.call (.ref fa) ⟨[.ref a],[]⟩) (fun r s'=>r=.ok (.ret (.bool true))∧OldK s₁.heap s'.heap∧s'.os=s₁.os∧AllBare s'.gens) s₁:=by
   intro H hO hS hok hA hK
   have base_of:∀ {b:Addr}{o:Obj},s₁.heap.get? b=some o→H b=none→(hidT s₁.heap H).get? b=some o:=fun e n=>hidT_get e n
   have noA:∀ {b:Addr}{o:Obj}{es:Array DictEntry}{ep:Nat},s₁.heap.get? b=some o→o.data=.dict es ep→H b=none:=fun {b o es ep} e d=>by
     cases q:H b with
     | none=>rfl
     | some u =>
       have e':b=a:=hA b (by rw [q];simp)
       subst e'
       rw [ha] at e;cases e
       have d':Data.seq vs.toArray _=Data.dict es ep:=d
       cases d'
   have nsK:∀ {b:Addr}{m:Str→Option Value},s₁.heap.Ns b m→(hidT s₁.heap H).Ns b m:=fun {b m} ⟨o,es,ep,e,d,r⟩=>⟨o,es,ep,base_of e (noA e d),d,r⟩
   have hKb:K.In (hidT s₁.heap H):=fun b o e=>base_of (KX b o e) (by
     cases q:H b with
     | none=>rfl
     | some u =>
       have e':b=a:=hA b (by rw [q];simp)
       subst e'
       rw [hK (by rw [q];simp)] at e;cases e)
   have hM:Mod K mg (hidT s₁.heap H):=⟨hKb,nsK hns,⟨mb,nsK hb,hbb⟩,let ⟨mc,h1,h2⟩:=hlim;⟨mc,nsK h1,h2⟩⟩
   have e0:Env0 P w K mg (hidT s₁.heap H) callerA [] s₁ H:=⟨rfl,hM,fun b o e=>of_hidT e,Nat.le_of_eq (hidT_size _ _),trivial,fun b hb=>absurd (show b∈([]:List Addr) from hb) (by simp),hok,.of_eq hg⟩
   refine codeAny_mono ((F _ hKb (nsK hns)).run callerA [] s₁ H ⟨[.ref a],[]⟩ [.ref a] [.ref a] _ _ hr e0 (hbind s₁ (.ref a)) (.cons rfl .nil) (hsp H hO hS)) fun r s' h=>?_
   cases r with
   | error e=>exact (hCX H e s' h).elim
   | ok fl =>
     cases fl with
     | next=>exact False.elim h
     | brk=>exact False.elim h
     | cont=>exact False.elim h
     | ret u =>
       obtain ⟨v,H',os,bare,un,hok',r',q⟩:=h
       have q':v=.bl true:=q
       subst q'
       obtain rfl:u=Value.bool true:=r'
       refine ⟨rfl,OldK.of_keep fun b o e=>?_,os,bare⟩
       cases q:H b with
       | none=>exact un.keep b o e q (by intro z;exact absurd (show b∈([]:List Addr) from z) (by simp)) (by simp)
       | some u =>
         rcases hO b with z|⟨ob,xs,z⟩
         · rw [q] at z;cases z
         · have z2:=un.frzs b ob _ z
           obtain ⟨e1,_⟩:=hok b _ z
           obtain ⟨e2,_⟩:=hok' b _ z2
           rw [e] at e1;cases e1
           exact e2
 cases hk:K.lookup a with
 | some o =>
   have e:=KX a o hk
   rw [ha] at e
   cases e
   refine core (fun _=>none) (fun _=>.inl rfl) (.inr ⟨_,vs.toArray,_,hk,rfl,rfl,rfl,by rw [Ωf,lenV];exact hl,by simpa using rv⟩) (fun b u z=>by have z':(none:Option HO)=some u:=z;cases z') (fun b z=>absurd rfl z) fun z=>absurd rfl z
 | none =>
   refine core (fun b=>if b=a then some (.frz {cls:=.type "list",data:=.seq vs.toArray} (.lst (ns.map V.int))) else none) (fun b=>?_) (.inl (.inr ⟨{cls:=.type "list",data:=.seq vs.toArray},if_pos rfl⟩)) (fun b u z=>?_) (fun b z=>?_) fun _=>hk
   · by_cases hb:b=a
     · exact .inr ⟨_,_,if_pos hb⟩
     · exact .inl (if_neg hb)
   · by_cases hb:b=a
     · have z':=(if_pos hb).symm.trans z
       cases z'
       subst hb
       exact ⟨ha,by rw [List.length_map];exact hl,vs,_,rv,ha⟩
     · have z':=(if_neg hb).symm.trans z
       cases z'
   · by_cases hb:b=a
     · exact hb
     · exact absurd (if_neg hb) z
end L2
namespace L2
open PySem PySem.Spec PyProof.Rows
theorem walk_of{l:PySem.W.OpenLaw}{n k:Nat}{q:Program}{loose:List Str}{XP:(Str→Option Value)→Heap→Prop}{YP:World→Heap→Prop}{d:DefRec}{K:Params→PySem.W.Frag}{CX:World→CXT}{sp:World→Sp}{x:Str}
   (hn:l.most=some n) (hn2:n≤sizeLine) (hdf:d.params.defaults=[]) (hr:Room k callerA)
   (hY:∀ (w:World) (h:Heap),YP w h→(K w.params).In h)
   (F:∀ (w:World) (mg:Str→Option Value) (fa:Addr) (h:Heap),(K w.params).In h→h.Ns mainGlobals mg→mg d.name=some (.ref fa) →
     ∃ fd:FuncData,(∀ (s:Shared) (u:Value),BindsTo s fd ⟨[u],[]⟩ [(x,u)]) ∧
       ∀ base:Heap,(K w.params).In base→base.Ns mainGlobals mg→FnOk l.prog w (K w.params) mg base (CX w) k fa fd [x] (sp w))
   (hsp:∀ (w:World) (H:Hp) (a:Addr) (ns:List Int),ns.length≤n→Only H→SqL (K w.params) H a (ns.map V.int)→sp w [.ref a] H (fun v _=>v=.bl true) fun _ _ _=>False)
   (hCX:∀ (w:World) (H:Hp) (s:Shared) (e:Value) (s':Shared),CX w [] H s (fun _ _ _=>False) e s'→False) :
   PySem.W.WalkO q loose XP YP l.row.toRowW d [] (fun f vs=>PySem.call f vs):=by
 refine Att.attach_call hn hdf fun w s₀ s₁ mg mb fa o pm cd doc a vs ns G Y ho hd hcd hmg hobj hints hlen hg=>?_
 have KX:=hY w _ Y
 obtain ⟨fd,hb,hF⟩:=F w mg fa _ KX G.T.g hmg
 exact law_call KX G.T.g G.T.b G.T.builtins G.T.nolimit hg hobj hints (ΩE hlen hn2) hr hF hb (fun H hO hS=>hsp w H a ns hlen hO hS) fun H e s'=>hCX w H s₁ e s'
end L2
namespace L2
open PySem PySem.Spec PyProof.Rows
noncomputable def inClass(s:Stmt)(j:Nat):Stmt:=match s with
 | .ClassDef _ _ _ body _ _ _ _ _ _ _=>body.getD j (.Pass ⟨0,0,0,0⟩)
 | _=>.Pass ⟨0,0,0,0⟩
noncomputable def defArgs(s:Stmt):Arguments:=match s with
 | .FunctionDef _ a _ _ _ _ _ _ _ _=>a
 | _=>{posonlyargs:=[],args:=[],vararg:=none,kwonlyargs:=[],kw_defaults:=[],kwarg:=none,defaults:=[]}
noncomputable def defBody(s:Stmt):List Stmt:=match s with
 | .FunctionDef _ _ b _ _ _ _ _ _ _=>b
 | _=>[]
noncomputable def defScope(s:Stmt):Scope:=match s with
 | .FunctionDef _ _ _ _ _ _ sc _ _ _=>sc
 | _=>{kind:=.function,names:=[],isGenerator:=false,isCoroutine:=false}
noncomputable abbrev E0:XK:=fun _ _ _=>False
structure Fun(K:PySem.W.Frag)(x qual:Str)(st:Stmt)(f:Addr)(fd:FuncData):Prop where
 ex:∃ (oc:Value) (od:Option Addr) (kV doc pm:Value) (an:Option Addr) (cdv ct:Value) (osl:Array (Option Value)),
   fd=PySem.W.fnOf x qual (defArgs st) (defBody st) (defScope st) .none kV doc pm an cdv ct∧K.lookup f=some ⟨oc,od,.func fd,osl⟩∧PySem.W.codeIn K cdv qual=true
 kp:PySem.W.keepIn K (.ref f)=true
section
variable {P:Program}{w:World}{K:PySem.W.Frag}{mg:Str→Option Value}{base:Heap}
theorem Fun.binds{x qual:Str}{st:Stmt}{f:Addr}{fd:FuncData}{ps:List Str}(F:Fun K x qual st f fd)
   (h:∀ (kV doc pm:Value) (an:Option Addr) (cdv ct:Value) (us:List Value),us.length=ps.length→bindArgs (PySem.W.fnOf x qual (defArgs st) (defBody st) (defScope st) .none kV doc pm an cdv ct) ⟨us,[]⟩=pure (ps.zip us)):Binds K fd ps []:=by
 obtain ⟨oc,od,kV,doc,pm,an,cdv,ct,osl,rfl,lk,hcd⟩:=F.ex
 exact .all (h kV doc pm an cdv ct)
theorem fun_mk{x qual:Str}{st:Stmt}{f:Addr}{oc:Value}{od an:Option Addr}{osl:Array (Option Value)}{kV doc pm cdv ct:Value}(l:K.lookup f=some ⟨oc,od,.func (PySem.W.fnOf x qual (defArgs st) (defBody st) (defScope st) .none kV doc pm an cdv ct),osl⟩)
   (c:PySem.W.codeIn K cdv qual=true) (k:PySem.W.keepIn K (.ref f)=true):Fun K x qual st f (PySem.W.fnOf x qual (defArgs st) (defBody st) (defScope st) .none kV doc pm an cdv ct):=⟨⟨oc,od,kV,doc,pm,an,cdv,ct,osl,rfl,l,c⟩,k⟩
end
section
variable {X:Cx}
end
theorem iteF{A B:Prop}(h:B):if false=true then A else B:=by
 rw [if_neg Ωw]
 exact h
theorem iteT{A B:Prop}(h:A):if true=true then A else B:=by
 rw [if_pos rfl]
 exact h
end L2
end
section
set_option tactic.hygienic false
namespace L2
open PySem PySem.Spec PyProof.Rows
end L2
namespace L2
open PySem PySem.Spec PyProof.Rows
section
variable (P:Program) (w:World)
end
section
variable {P:Program}{w:World}{H H':Hp}{h h':Heap}{a:Addr}{o:HO}
end
section
variable {P:Program}{w:World}{H:Hp}{h h':Heap}{x e:Addr}{o':HO}
end
section
variable {fs fs' ex ex':List Addr}{H H1 H2:Hp}{h h1 h2 h':Heap}{a x e:Addr}{o:HO}
end
end L2
namespace L2
open PySem PySem.Spec PyProof.Rows
section
variable {X:Cx}{pins:List (Addr×Obj)}{σ:List (Option V)}{H H':Hp}{s:Shared}{h':Heap}
end
end L2
namespace L2
open PySem PySem.Spec PyProof.Rows
section
variable {X:Cx}
variable {a b:Expr}{ta tb:TE}{pos:Pos}
variable {tA tB':TT}{rest:List Expr}
end
end L2
namespace L2
open PySem PySem.Spec PyProof.Rows
section
variable {X:Cx}{pins:List (Addr×Obj)}{σ:St}{H:Hp}{s:Shared}{a:Addr}{xs ys:List V}
end
section
variable {X:Cx}{pins:List (Addr×Obj)}{σ:St}{H:Hp}{s:Shared}{E:Value→Shared→Prop}
end
section
variable {X:Cx}{st:Stmt}{rest:List Stmt}{t u:TS}{e:Expr}{te:TE}{pos:Pos}
end
section
variable {X:Cx}{pos:Pos}
end
section
variable {X:Cx}{pos:Pos}
end
end L2
namespace L2
open PySem PySem.Spec PyProof.Rows
section
variable {X:Cx}{tg:Expr}
end
end L2
namespace L2
open PySem PySem.Spec PyProof.Rows
section
variable {X:Cx}{a b c:Expr}{ta tb tc:TE}{pos:Pos}
end
section
variable {X:Cx}{a b c:Expr}{ta tb tc:TE}{pos:Pos}
end
end L2
namespace L2
open PySem PySem.Spec PyProof.Rows
section
variable {prog:Program}{w:World}{A:Around}{E:Value→Shared→Prop}{s:Shared}{K:PySem.W.Frag}{x dx C f:Addr}{mA:Str→Option Value}{name:Str}{v:Value}
end
section
variable {P:Program}{w:World}{H H':Hp}{h h':Heap}{a C dx:Addr}{fs fs':List (Str×V)}
end
section
variable {X:Cx}{pins:List (Addr×Obj)}{σ:St}{H:Hp}{s:Shared}{a C dx:Addr}{fs:List (Str×V)}{f:Str}{v:V}{A:Around}{E:Value→Shared→Prop}
end
section
variable {X:Cx}{o e value:Expr}{f:Str}{pos pos' tpos:Pos}{ta tv:TE}
end
section
variable {X:Cx}{pins:List (Addr×Obj)}{σ:St}{H:Hp}{s:Shared}{A:Around}{E:Value→Shared→Prop}{Q:Value→Shared→Prop}{c:Value}{b:Bool}
end
end L2
namespace L2
open PySem PySem.Spec PyProof.Rows
section
variable {X:Cx}{e:Expr}{es:List Expr}{te:TE}{t:TA}{pos:Pos}
end
section
variable {X:Cx}{pins:List (Addr×Obj)}{σ:St}{H:Hp}{s s':Shared}
end
section
variable {X:Cx}{CX:CXT}{k:Nat}{f C:Addr}{fd:FuncData}{ps:List Str}{sp:Sp}{dvs:List V}{ds:List Value}{E:XK}{x m:Str}{p pos apos:Pos}{e o:Expr}{es:List Expr}{ta:TE}{t:TA}
end
section
variable {X:Cx}{CX:CXT}{k:Nat}{f C:Addr}{fd:FuncData}{ps ks:List Str}{sp:Sp}{E:XK}{x m:Str}{p pos apos kpos:Pos}{e o:Expr}{es:List Expr}{kws:List Keyword}{te ta:TE}{t tk:TA}{nm:Option Str}
variable {g:List Value→List Value→List Value}{gV:List V→List V→List V}
end
end L2
namespace L2
open PySem PySem.Spec PyProof.Rows
section
variable {X:Cx}{x:Str}{p pos:Pos}{e:Expr}{es:List Expr}{t:TA}{id T:String}{r:List V→Hp→VK→Prop}
end
end L2
namespace L2
open PySem PySem.Spec PyProof.Rows
section
variable {κ:Type} [DecidableEq κ]
noncomputable def valV(kvs:List (κ×V))(k:κ):Option V:=(kvs.find? fun kv=>decide (kv.1=k)).map (·.2)
noncomputable def putK(kvs:List (κ×V))(k:κ)(v:V):List (κ×V) :=
 if (kvs.any fun kv=>decide (kv.1=k))=true then kvs.map (fun kv=>if kv.1=k then (kv.1,v) else kv) else kvs++[(k,v)]
theorem valV_pos{p:κ×V}{r:List (κ×V)}{k:κ}(e:p.1=k):valV (p::r) k=some p.2:=by simp [valV,List.find?_cons,e]
theorem valV_neg{p:κ×V}{r:List (κ×V)}{k:κ}(e:¬ p.1=k):valV (p::r) k=valV r k:=by simp [valV,List.find?_cons,e]
theorem length_putK(kvs:List (κ×V))(k:κ)(v:V):(putK kvs k v).length≤kvs.length+1:=by
 unfold putK
 split
 · rw [List.length_map];omega
 · rw [ΩA,Ωs,List.length_nil];omega
theorem RelO.isSome_eq{o:Option V}{u:Option Value}(r:RelO o u):o.isSome=u.isSome:=by
 cases o with
 | none=>cases u with
   | none=>rfl
   | some _=>exact (show False from r).elim
 | some _=>cases u with
   | none=>exact (show False from r).elim
   | some _=>rfl
theorem KV.val{kvs:List (κ×V)}{vs:List (κ×Value)}(r:KV kvs vs)(k:κ):RelO (valV kvs k) (valueAt vs k):=by
 unfold KV at r
 induction r with
 | nil=>exact True.intro
 | @cons p q ps qs h t ih =>
   obtain ⟨h1,h2⟩:=h
   by_cases e:p.1=k
   · have e':q.1=k:=h1.symm.trans e
     have b:valueAt (q::qs) k=some q.2:=by simp [valueAt,List.find?_cons,e']
     rw [valV_pos e,b];exact h2
   · have e':¬ q.1=k:=fun z=>e (h1.trans z)
     have b:valueAt (q::qs) k=valueAt qs k:=by simp [valueAt,List.find?_cons,e']
     rw [valV_neg e,b];exact ih
theorem KV.any{kvs:List (κ×V)}{vs:List (κ×Value)}(r:KV kvs vs)(k:κ):(kvs.any fun kv=>decide (kv.1=k))=vs.any fun kv=>decide (kv.1=k):=by
 unfold KV at r
 induction r with
 | nil=>rfl
 | cons h t ih=>rw [List.any_cons,List.any_cons,ih,h.1]
theorem KV.repl{kvs:List (κ×V)}{vs:List (κ×Value)}(r:KV kvs vs)(k:κ){y:V}{u:Value}(ry:RelV y u) :
   KV (kvs.map fun kv=>if kv.1=k then (kv.1,y) else kv) (vs.map fun kv=>if kv.1=k then (kv.1,u) else kv):=by
 unfold KV at r ⊢
 induction r with
 | nil=>exact .nil
 | @cons p q ps qs h t ih =>
   rw [Ωp,Ωp]
   refine .cons ?_ ih
   obtain ⟨h1,h2⟩:=h
   by_cases e:p.1=k
   · rw [if_pos e,if_pos (h1.symm.trans e)];exact ⟨h1,ry⟩
   · rw [if_neg e,if_neg (fun z=>e (h1.trans z))];exact ⟨h1,h2⟩
theorem KV.put{kvs:List (κ×V)}{vs:List (κ×Value)}(r:KV kvs vs)(k:κ){y:V}{u:Value}(ry:RelV y u):KV (putK kvs k y) (stored vs k u):=by
 unfold putK stored
 rw [r.any k]
 by_cases e:(vs.any fun kv=>decide (kv.1=k))=true
 · rw [if_pos e,if_pos e];exact r.repl k ry
 · rw [if_neg e,if_neg e];exact Paired.snoc r ⟨rfl,ry⟩
theorem KV.length{kvs:List (κ×V)}{vs:List (κ×Value)}(r:KV kvs vs):kvs.length=vs.length:=Paired.length r
end
theorem kV_is{P:Program}{w:World}{k:Key}{u:Value}(r:RelV (kV k) u):(mixKind P w).is k u=true:=by
 cases k with
 | inl i=>obtain ⟨t,e⟩:=(show ∃ t,u=Value.int i t from r);subst e;exact mixKind_int P w i t
 | inr x=>obtain ⟨t,e⟩:=(show ∃ t,u=Value.str x t from r);subst e;exact mixKind_str P w x t
section
variable {P:Program}{w:World}{H:Hp}{h:Heap}{a:Addr}
theorem rd_of{u:HO}(ok:HOk P w H h)(e:Rd H a u):ObjOk P w H h a u:=e.ok ok
theorem dk_rd{kvs:List (Key×V)}(ok:HOk P w H h)(e:Rd H a (.dK kvs)):kvs.length≤sizeLine∧(a==sysModules)=false∧∃ vs,KV kvs vs∧h.DictOf (mixKind P w) a vs :=
 show ObjOk P w H h a (.dK kvs) from rd_of ok e
theorem dk_of{kvs:List (Key×V)}(ok:HOk P w H h)(e:H a=some (.dK kvs)):kvs.length≤sizeLine∧(a==sysModules)=false∧∃ vs,KV kvs vs∧h.DictOf (mixKind P w) a vs:=dk_rd ok (.inl e)
end
section
variable {X:Cx}{pins:List (Addr×Obj)}{σ:St}{H:Hp}{s:Shared}{a:Addr}{y v:V}{u r:Value}{o:Option V}{A:Around}{E:Value→Shared→Prop}
theorem Inv.big(I:Inv X pins σ H s):sysModules<s.heap.objs.size:=by
 have h:mainGlobals<s.heap.objs.size:=(I.mod.glob.keeps I.bk).lt
 exact Nat.lt_trans (by decide) h
theorem d_write{h':Heap}{t':Nat}{ob:HO}(I:Inv X pins σ H s)(mu:Mut (H a))(hs:Heap.SameBut a s.heap h')(he:∃ q,h'.get? a=some q)(new:ObjOk X.prog X.w (upd H a ob) h' a ob) :
   Inv X pins σ (upd H a ob) {s with heap:=h',toks:=t'} :=
 I.write (x:=a) (e:=a) mu (.inl rfl) (fun b q hb z=>(hs.2 b hb).trans z) he new
theorem dk_new{P:Program}{w:World}{H':Hp}{h':Heap}{kvs:List (Key×V)}{vs:List (Key×Value)}(z:kvs.length≤sizeLine)(hd:(a==sysModules)=false)(rel:KV kvs vs)(dd:h'.DictOf (mixKind P w) a vs) :
   ObjOk P w H' h' a (.dK kvs):=⟨z,hd,vs,rel,dd⟩
end
section
variable {X:Cx}{pins:List (Addr×Obj)}{σ:St}{H:Hp}{s:Shared}{a:Addr}{kvs:List (Key×V)}{k:Key}{u:Value}{A:Around}{E:Value→Shared→Prop}
end
section
variable {X:Cx}{o i e value:Expr}{pos pos' tpos:Pos}{td ty tv:TE}
end
theorem dk_empty {P:Program}{w:World}{H:Hp} (h:Heap) (hb:sysModules<h.objs.size):ObjOk P w H (h.push {cls:=.type "dict",data:=.dict #[]}) h.objs.size (.dK []) :=
 ⟨Nat.zero_le _,beq_eq_false_iff_ne.mpr (Ne.symm (Ωu hb)),[],.nil,Heap.DictOf.new h⟩
noncomputable def tDNewK:TE:=fun _ H Q=>∀ p,H p=none→Q (.ref p) (upd H p (.dK []))
section
variable {X:Cx}{pos:Pos}
theorem pe_dnewK:PE X (.Dict [] [] pos) tDNewK:=fun pins s σ H Q I h =>
 wpAny_Dict_empty ⟨.ref s.heap.objs.size,_,I.laid (a:=s.heap.objs.size) (o:=.dK []) (t':=s.toks) (fun _ _ q=>Ωd _ q) (Ωq _) (dk_empty s.heap I.big),rfl,h _ (I.hok.fresh (Ωq _))⟩
end
noncomputable def tPairs:List (TE×TE)→St→Hp→(List (V×V)→Hp→Prop)→Prop
 | [],_,H,Q=>Q [] H
 | (tk,tv)::r,σ,H,Q=>tk σ H fun x H1=>tv σ H1 fun y H2=>tPairs r σ H2 fun ps H3=>Q ((x,y)::ps) H3
noncomputable abbrev VV:List (V×V)→List (Value×Value)→Prop:=Paired fun p q=>RelV p.1 q.1∧RelV p.2 q.2
noncomputable def PPs(X:Cx)(pos:Pos)(keys:List (Option Expr))(values:List Expr)(trs:List (TE×TE)):Prop :=
 ∀ (pins:List (Addr×Obj)) (s:Shared) (σ:St) (H:Hp) (Q:List (V×V)→Hp→Prop),Inv X pins σ H s→tPairs trs σ H Q →
   wpAny (model X.prog X.w) X.A (evalPairs (pairTrees keys values X.env pos)) (fun vs s'=>∃ ps H',Inv X pins σ H' s'∧VV ps vs∧Q ps H') X.xe s
theorem pps_nil{X:Cx}{pos:Pos}:PPs X pos [] [] []:=fun pins s σ H Q I h=>pairTrees_nil_walk ⟨[],H,I,.nil,h⟩
theorem pps_cons{X:Cx}{pos:Pos}{k v:Expr}{ks:List (Option Expr)}{vs:List Expr}{tk tv:TE}{trs:List (TE×TE)}(hk:PE X k tk)(hv:PE X v tv)(hr:PPs X pos ks vs trs) :
   PPs X pos (some k::ks) (v::vs) ((tk,tv)::trs):=fun pins s σ H Q I h =>
 pairTrees_cons_walk (thn (hk pins s σ H _ I h) fun u s1 ⟨x,H1,I1,rx,q1⟩=>thn (hv pins s1 σ H1 _ I1 q1) fun w2 s2 ⟨y,H2,I2,ry,q2⟩ =>
   thn (hr pins s2 σ H2 _ I2 q2) fun ws s3 ⟨ps,H3,I3,rel,q3⟩=>⟨(x,y)::ps,H3,I3,.cons ⟨rx,ry⟩ rel,q3⟩)
noncomputable def mergeK(kvs more:List (Key×V)):List (Key×V):=more.foldl (fun acc kv=>putK acc kv.1 kv.2) kvs
theorem KV.merge:∀ {more:List (Key×V)}{rs:List (Key×Value)}{kvs:List (Key×V)}{vs:List (Key×Value)},KV more rs→KV kvs vs→KV (mergeK kvs more) (merged vs rs):=by
 intro more rs kvs vs r
 unfold KV at r
 induction r generalizing kvs vs with
 | nil=>intro q;exact q
 | @cons p q ps qs h t ih =>
   intro r0
   have e:KV (putK kvs p.1 p.2) (stored vs q.1 q.2):=by
     have:=r0.put p.1 h.2
     rw [← h.1];exact this
   exact ih e
theorem length_mergeK:∀ (more kvs:List (Key×V)),(mergeK kvs more).length≤kvs.length+more.length
 | [],kvs=>by show kvs.length≤kvs.length+0;omega
 | p::r,kvs=>by
   have h1:=length_mergeK r (putK kvs p.1 p.2)
   have h2:=length_putK kvs p.1 p.2
   show (mergeK (putK kvs p.1 p.2) r).length≤_
   rw [Ωs];omega
theorem carries_of{P:Program}{w:World}:∀ {kvs:List (Key×V)}{ws:List (Value×Value)},VV (kvs.map fun kv=>(kV kv.1,kv.2)) ws→∃ rs,Carries (mixKind P w) ws rs∧KV kvs rs
 | [],_,r=>by rw [Ωy] at r;cases r;exact ⟨[],True.intro,.nil⟩
 | p::kvs,_,r=>by
   rw [Ωp] at r
   cases r with
   | @cons a b as bs h t =>
     obtain ⟨rs,c,q⟩:=carries_of (P:=P) (w:=w) t
     obtain ⟨b1,b2⟩:=b
     exact ⟨(p.1,b2)::rs,⟨kV_is h.1,rfl,c⟩,.cons ⟨rfl,h.2⟩ q⟩
noncomputable def tDisp(trs:List (TE×TE)):TE:=fun σ H Q=>∀ p,H p=none→tPairs trs σ (upd H p (.dK [])) fun ps H2=>H2 p=some (.dK [])∧∃ kvs:List (Key×V),ps=kvs.map (fun kv=>(kV kv.1,kv.2))∧kvs.length≤15∧Q (.ref p) (upd H2 p (.dK (mergeK [] kvs)))
theorem pe_disp{X:Cx}{pos:Pos}{keys:List (Option Expr)}{values:List Expr}{trs:List (TE×TE)}(h:PPs X pos keys values trs)(hall:keys.all (·.isSome)=true)(hl:keys.length=values.length)(h0:keys≠[])
   (h15:keys.length≤15):PE X (.Dict keys values pos) (tDisp trs):=by
 intro pins s σ H Q I q
 have hn:=I.hok.fresh (Ωq s.heap.objs.size)
 have I1:=I.laid (a:=s.heap.objs.size) (o:=.dK []) (h':=s.heap.push {cls:=.type "dict",data:=.dict #[]}) (t':=s.toks) (fun _ _ q=>Ωd _ q) (Ωq _) (dk_empty s.heap I.big)
 refine wpAny_Dict_walk (knd:=mixKind X.prog X.w) hall hl h0 h15 (thn (h pins _ σ _ _ I1 (q _ hn)) fun ws s2 ⟨ps,H2,I2,rel,e,kvs,ep,lk,q2⟩=>?_)
 subst ep
 obtain ⟨rs,c,rk⟩:=carries_of (P:=X.prog) (w:=X.w) rel
 obtain ⟨z,hd,vs0,r0,dd⟩:=dk_of I2.hok e
 cases r0
 refine ⟨rs,c,dd,fun h' dd' hs=>⟨.ref s.heap.objs.size,_,?_,rfl,q2⟩⟩
 have hz:(mergeK [] kvs).length≤sizeLine:=by
   have h1:=length_mergeK kvs []
   rw [List.length_nil] at h1
   rw [sizeLine_eq];omega
 have he:∃ q,h'.get? s.heap.objs.size=some q:=let ⟨q,_,_,hq,_⟩:=dd';⟨q,hq⟩
 exact d_write I2 (by rw [e];exact True.intro) hs he (dk_new hz hd (rk.merge .nil) dd')
section
variable {X:Cx}{pins:List (Addr×Obj)}{σ:St}{H:Hp}{s:Shared}{a:Addr}{y d:V}{u r:Value}{o:Option V}{A:Around}{E:Value→Shared→Prop}
end
section
variable {X:Cx}{o e f:Expr}{apos cpos:Pos}{td ty tx:TE}
end
section
variable {X:Cx}{pins:List (Addr×Obj)}{σ:St}{H:Hp}{s:Shared}{a:Addr}{kvs:List (Key×V)}{A:Around}{E:Value→Shared→Prop}
end
section
variable {X:Cx}{pins:List (Addr×Obj)}{σ:St}{H:Hp}{s:Shared}{a:Addr}{y:V}{u:Value}{A:Around}{E:Value→Shared→Prop}
end
end L2
namespace Att
open PySem PySem.W PySem.Calls PyProof.Rows
section
variable {prog:Program}{w:World}{A:Around}{E:Value→Shared→Prop}{s:Shared}{K:Frag}
end
end Att
namespace L2
open PySem PySem.Spec PyProof.Rows
end L2
namespace L2
open PySem PySem.Spec PyProof.Rows
end L2
namespace L2
open PySem PySem.Spec PyProof.Rows
section
variable {P:Program}{w:World}{K:PySem.W.Frag}{mg:Str→Option Value}{base:Heap}
end
section
variable {X:Cx}
end
section
variable {κ:Type} [DecidableEq κ]
end
end L2
end
section
namespace L2
open PySem PySem.Spec PyProof.Rows
noncomputable def Its(x:Str):It:=⟨fun i _=>i<x.cps.size,fun i H v H'=>H'=H∧∃ c,x.cps[i]? = some c∧v=.str ⟨#[c]⟩,fun i _=>i=x.cps.size⟩
theorem go_str{M:Model}{A:Around}{E:Value→Shared→Prop}{s:Shared}{tg:Expr}{it:Addr}{x:Str}{t:Tok}{Q:Unit→Shared→Prop}(hQ:Q () s):wpAny M A (letOwnedTupleGo tg (.ref it) (.str x t)) Q E s:=by
 unfold letOwnedTupleGo
 cases tg<;>exact wpAny_pure hQ
theorem turn_str{P:Program}{w:World}{K:PySem.W.Frag}{tg:Expr}{it:Addr}{x:Str}{t:Tok}{ty:String}
   (W:∀ A':Around,A'.handled=none→Walks P w A' it [it] [it] x.cps.size (SignAt x) (fun i h=>h.IsStrIter it ty x t i))
   (hself:∀ (A:Around) (i:Nat) (s:Shared) (Q:Value→Shared→Prop) (E:Value→Shared→Prop),s.heap.IsStrIter it ty x t i→Q (.ref it) s→wpAny (model P w) A (pyIter (.ref it)) Q E s) :
   Turn P w K tg (Its x) [it] it (fun i h=>h.IsStrIter it ty x t i) where
 mem:=by simp
 obj:=fun i h st b hb=>by
   have e:b=it:=by simpa using hb
   subst e
   obtain ⟨o,e,c,d⟩:=st
   exact ⟨o,e,fun v z=>by rw [d] at z;cases z⟩
 keep:=fun i h h' st k=>by
   obtain ⟨o,e,r⟩:=st
   exact ⟨o,k it (by simp) o e,r⟩
 item:=by
   intro X hP hw hK hc i pins s σ H E I hf st hg
   subst hP hw hK
   obtain ⟨f0,f1,f2,f3,f4,f5⟩:=hf it (by simp)
   refine (W X.A (I.ok.hd hc)).item i s _ _ hg st fun v h' tk hv st' kk=>?_
   obtain ⟨c,u,hcx,rfl⟩:=hv
   have I1:Inv X pins σ H {s with heap:=h',toks:=tk}:=I.turned (fun b o hb e=>kk b o (by simpa using hb) e) f0 f1 f3 f4 f5
   exact ⟨_,rfl,go_str ⟨.str ⟨#[c]⟩,H,I1,⟨u,rfl⟩,⟨rfl,c,hcx,rfl⟩,st',fun b hb=>(hf b hb).1⟩⟩
 done:=by
   intro X hP hw hK hc i pins s σ H E I hf st hg
   subst hP hw hK
   obtain ⟨f0,f1,f2,f3,f4,f5⟩:=hf it (by simp)
   have e:i=x.cps.size:=hg
   subst e
   exact (W X.A (I.ok.hd hc)).done s _ _ st fun h' tk kk=>⟨rfl,I.turned (fun b o hb e=>kk b o (by simpa using hb) e) f0 f1 f3 f4 f5⟩
 self:=hself
theorem lookup_relabel{env:Env}:∀ (names:List (Str×NameKind)) (x:Str),
   (names.map fun (n,k)=>if (k==NameKind.free&&env.scope.kind==.function&&env.kindOf n==some .cell) then (n,NameKind.cell) else (n,k)).lookup x =
     (names.lookup x).map fun k=>if (k==NameKind.free&&env.scope.kind==.function&&env.kindOf x==some .cell) then NameKind.cell else k
 | [],_=>rfl
 | (n,k)::r,x=>by
   have ih:=@lookup_relabel env r x
   show List.lookup x ((if (k==NameKind.free&&env.scope.kind==.function&&env.kindOf n==some .cell)=true then (n,NameKind.cell) else (n,k))::_)=_
   cases hx:x==n with
   | true =>
     have e:x=n:=by simpa using hx
     subst e
     by_cases hc:(k==NameKind.free&&env.scope.kind==.function&&env.kindOf x==some .cell)=true
     · rw [if_pos hc];simp only [ΩF,hx,Option.map_some,if_pos hc]
     · rw [if_neg hc];simp only [ΩF,hx,Option.map_some,if_neg hc]
   | false =>
     by_cases hc:(k==NameKind.free&&env.scope.kind==.function&&env.kindOf n==some .cell)=true
     · rw [if_pos hc];simp only [ΩF,hx];exact ih
     · rw [if_neg hc];simp only [ΩF,hx];exact ih
noncomputable def clOf(env:Env):List (Str×NameKind)→List (Str×Addr)→List (Str×Addr)
 | [],cs=>cs
 | (n,k)::r,cs=>clOf env r (if (k==.free)=true then (n,(env.cells.lookup n).getD 0)::cs else cs)
theorem clOf_sub{env:Env}:∀ (l:List (Str×NameKind)) (cs:List (Str×Addr)),(∀ y∈l,y.2=.free→∃ c,env.cells.lookup y.1=some c) →
   (∀ x c,(x,c)∈cs→env.cells.lookup x=some c)→∀ x c,(x,c)∈clOf env l cs→env.cells.lookup x=some c
 | [],cs,_,h2,x,c,hm=>h2 x c hm
 | (n,k)::r,cs,h1,h2,x,c,hm=>by
   refine clOf_sub r _ (fun y hy=>h1 y (Ωh _ hy)) (fun x c hm=>?_) x c hm
   by_cases hk:(k==NameKind.free)=true
   · rw [if_pos hk] at hm
     rcases Ωr.mp hm with e|hm
     · cases e
       have hk':k=.free:=by
         cases k<;>first|rfl|(exact absurd hk (by decide))
       obtain ⟨c,e⟩:=h1 (n,k) Ωi hk'
       rw [e];rfl
     · exact h2 x c hm
   · rw [if_neg hk] at hm;exact h2 x c hm
theorem clOf_mono{env:Env}:∀ (l:List (Str×NameKind)) (cs:List (Str×Addr)) (p:Str×Addr),p∈cs→p∈clOf env l cs
 | [],_,_,h=>h
 | (n,k)::r,cs,p,h=>by
   refine clOf_mono r _ p ?_
   by_cases hk:(k==NameKind.free)=true
   · rw [if_pos hk];exact Ωh _ h
   · rw [if_neg hk];exact h
theorem clOf_has{env:Env}:∀ (l:List (Str×NameKind)) (cs:List (Str×Addr)) (y:Str×NameKind),y∈l→y.2=.free→∃ c,(y.1,c)∈clOf env l cs
 | (n,k)::r,cs,y,h,hf=>by
   rcases Ωr.mp h with e|h
   · subst e
     refine ⟨(env.cells.lookup n).getD 0,clOf_mono r _ _ ?_⟩
     have hk:(k==NameKind.free)=true:=by
       have:k=.free:=hf
       subst this;rfl
     rw [if_pos hk];exact Ωi
   · exact clOf_has r _ y h hf
theorem lookup_of_mem{α:Type}:∀ {l:List (Str×α)}{x:Str}{c:α},(x,c)∈l→∃ c',l.lookup x=some c'∧(x,c')∈l
 | (n,d)::r,x,c,h=>by
   cases hx:x==n with
   | true =>
     have e:x=n:=by simpa using hx
     subst e
     exact ⟨d,by simp [ΩF],Ωi⟩
   | false =>
     rcases Ωr.mp h with e|h
     · cases e;simp at hx
     · obtain ⟨c',h1,h2⟩:=lookup_of_mem h
       exact ⟨c',by simp only [ΩF,hx];exact h1,Ωh _ h2⟩
theorem closureFor_eq{scope:Scope}{env:Env}(h:∀ y∈scope.names,y.2=.free→∃ c,env.cells.lookup y.1=some c):closureFor scope env=pure (clOf env scope.names []):=by
 have all:∀ (l:List (Str×NameKind)) (cs:List (Str×Addr)),(∀ y∈l,y.2=.free→∃ c,env.cells.lookup y.1=some c) →
     (forIn l cs fun (x:Str×NameKind) r=>match x with|(name,kind)=>if (kind==NameKind.free)=true then (do let a ← cellOf env name;pure (ForInStep.yield ((name,a)::r))) else pure (ForInStep.yield r):Sem (List (Str×Addr)))=pure (clOf env l cs):=by
   intro l
   induction l with
   | nil=>intro cs _;rfl
   | cons y r ih =>
     intro cs hl
     obtain ⟨n,k⟩:=y
     rw [List.forIn_cons]
     have hr:=fun cs=>ih cs fun y hy=>hl y (Ωh _ hy)
     by_cases hk:(k==NameKind.free)=true
     · have hk':k=.free:=by
         cases k<;>first|rfl|(exact absurd hk (by decide))
       obtain ⟨c,e⟩:=hl (n,k) Ωi hk'
       have ec:cellOf env n=pure c:=by unfold cellOf;rw [e]
       simp only [hk,if_true,ec]
       show (forIn r ((n,c)::cs) _:Sem _)=_
       rw [hr]
       show _=pure (clOf env r (if (k==NameKind.free)=true then (n,(env.cells.lookup n).getD 0)::cs else cs))
       rw [if_pos hk,e]
       rfl
     · simp only [hk]
       show (forIn r cs _:Sem _)=_
       rw [hr]
       show _=pure (clOf env r (if (k==NameKind.free)=true then (n,(env.cells.lookup n).getD 0)::cs else cs))
       rw [if_neg hk]
 unfold closureFor
 have z:=all scope.names [] h
 dsimp only at z ⊢
 rw [z]
 rfl
end L2
end
section
set_option tactic.hygienic false
namespace L2
open PySem PySem.Spec PyProof.Rows
theorem compLoop_go{prog:Program}{w:World}{A:Around}{R:Result→Shared→Prop}{s:Shared}{elt target iter:Expr}{ifs:List Expr}{scope:Scope}{pos:Pos}{it acc:Value}{env:Env}(I:Nat→Shared→Prop)
   (turn:∀ n s,I n s→wpAny (model prog w) A (pyNext it) (fun r s₁=>match r with
     | none=>R (.ok .next) s₁
     | some v=>wpAny (model prog w) A (letOwnedTupleGo target it v) (fun _ s₁'=>wpAny (model prog w) A (assign target env v) (fun _ s₂ =>
         wpAny (model prog w) A (forIn ifs true fun c r=>if r=true then do let ok ← isTrue c env (eval c env);pure (ForInStep.yield ok) else pure (ForInStep.yield r)) (fun ok s₃ =>
           if ok=true then wpAny (model prog w) A (eval elt env) (fun x s₄ =>
             wpAny (model prog w) A (call (.builtin "list.append") [acc,x]) (fun _ s₅=>∃ m,m<n∧I m s₅) (notedBy (model prog w) A env fun e s'=>R (.error e) s') s₄) (notedBy (model prog w) A env fun e s'=>R (.error e) s') s₃
           else ∃ m,m<n∧I m s₃) (notedBy (model prog w) A env fun e s'=>R (.error e) s') s₂) (notedBy (model prog w) A env fun e s'=>R (.error e) s') s₁') (notedBy (model prog w) A env fun e s'=>R (.error e) s') s₁) (notedBy (model prog w) A env fun e s'=>R (.error e) s') s)
   (n:Nat) (h:I n s) :
   codeAny (model prog w) A (.compLoop (.ListComp elt [⟨target,iter,ifs,0⟩] scope pos) 0 it acc env) R s:=by
 refine codeAny_loop rfl I (fun n s hI=>?_) n h
 show wpAny _ A ((compTurn (.ListComp elt [⟨target,iter,ifs,0⟩] scope pos) 0 it acc env).onRaise (fun x=>do noteFrame x env;theTreesLotGoes x)) _ _ s
 refine wpAny_noted ?_
 rw [compTurn_list]
 refine wpAny_bind (wpAny_standAt (wpAny_bind (wpAny_mono (turn n s hI) (fun r s₁ h₁=>?_) fun _ _ h'=>h')))
 cases r with
 | none=>exact wpAny_pure h₁
 | some v =>
   refine wpAny_bind (wpAny_mono h₁ (fun _ s₁' h₁'=>?_) fun _ _ h'=>h')
   refine wpAny_bind (wpAny_mono h₁' (fun _ s₂ h₂=>wpAny_bind (wpAny_mono h₂ (fun ok s₃ h₃=>?_) fun _ _ h'=>h')) fun _ _ h'=>h')
   cases ok with
   | false=>exact wpAny_pure ⟨rfl,h₃⟩
   | true =>
     exact wpAny_bind (wpAny_bind (wpAny_mono h₃ (fun x s₄ h₄=>wpAny_bind (wpAny_mono h₄ (fun _ s₅ h₅=>wpAny_pure (wpAny_pure ⟨rfl,h₅⟩)) fun _ _ h'=>h')) fun _ _ h'=>h'))
structure CompSc(NC N:List Str)(js:List (Option Nat))(sc scope:Scope):Prop where
 kind:scope.kind=.function
 dkind:sc.kind=.function
 nocell:∀ y∈scope.names,y.2≠.cell
 locs:∀ y∈scope.names,y.2=.local→scope.names.lookup y.1=some .local
 free:∀ y∈scope.names,y.2=.free→sc.names.lookup y.1=some .cell
 nd:NC.Nodup
 len:js.length=NC.length
 jok:((NC.zip js).all fun p=>p.2.all fun j=>decide (N[j]? = some p.1)&&decide (scope.names.lookup p.1=some .free))=true
theorem CompSc.at{NC N:List Str}{js:List (Option Nat)}{sc scope:Scope}(S:CompSc NC N js sc scope){i j:Nat}{x:Str}(h1:NC[i]? = some x)(h2:js[i]? = some (some j)):N[j]? = some x∧scope.names.lookup x=some .free:=by
 have h:=S.jok
 rw [ΩC] at h
 have hm:(x,some j)∈NC.zip js:=by
   refine Ωk (i:=i) ?_
   rw [List.getElem?_zip_eq_some]
   exact ⟨h1,h2⟩
 have q:=h _ hm
 simp only [Option.all_some,Ωa,decide_eq_true_eq] at q
 exact q
noncomputable def capt(js:List (Option Nat))(σ:St):St:=js.map fun o=>o.bind fun j=>(σ[j]?).join
noncomputable def cxComp(X:Cx)(NC:List Str)(scope:Scope)(C:Addr)(s3:Shared)(H3:Hp)(fp:List Addr):Cx :=
 {X with N:=NC,s₀:=s3,H₀:=H3,env:=compEnvC scope (clOf X.env scope.names []) C X.env,outer:=X.stack,stack:=X.stack,ex:=fp,fn:=fun _=>false,calm:=true,pn:=[],xe:=fun _ _=>False}
noncomputable def TgOk(k:Nat)(g:TG):Prop:=∀ x σ H Q,g x σ H Q→g x σ H fun σ2 H2=>Q σ2 H2∧σ2.length=σ.length∧∀ j,k≤j→σ2[j]? = σ[j]?
noncomputable def TgsOk(k:Nat)(g:TGs):Prop:=∀ x σ H Q,g x σ H Q→g x σ H fun σ2 H2=>Q σ2 H2∧σ2.length=σ.length∧∀ j,k≤j→σ2[j]? = σ[j]?
theorem tg_name{i k:Nat}(h:i<k):TgOk k (gName i):=fun x σ H Q q=>⟨q,List.length_set,fun j hj=>by rw [Ωc (by omega)]⟩
theorem tgs_nil{k:Nat}:TgsOk k gNil:=fun x σ H Q q=>⟨q.1,q.2,rfl,fun _ _=>rfl⟩
theorem tgs_cons{i k:Nat}{u:TGs}(h:i<k)(hu:TgsOk k u):TgsOk k (gCons (gName i) u):=by
 rintro xs σ H Q ⟨v,r,e,q⟩
 refine ⟨v,r,e,?_⟩
 have z:=hu r (σ.set i (some v)) H Q q
 have z2:=hu r (σ.set i (some v)) H (fun σ2 H2=>Q σ2 H2∧σ2.length=(σ.set i (some v)).length∧∀ j,k≤j→σ2[j]? = (σ.set i (some v))[j]?) z
 show u r (σ.set i (some v)) H _
 have e1:(σ.set i (some v)).length=σ.length:=List.length_set
 have e2:∀ j,k≤j→(σ.set i (some v))[j]? = σ[j]? := fun j hj=>Ωc (by omega)
 have e3:(fun σ2 H2=>Q σ2 H2∧σ2.length=σ.length∧∀ j,k≤j→σ2[j]? = σ[j]?)=(fun σ2 H2=>Q σ2 H2∧σ2.length=(σ.set i (some v)).length∧∀ j,k≤j→σ2[j]? = (σ.set i (some v))[j]?):=by
   funext σ2 H2
   rw [e1]
   refine propext ⟨fun ⟨a,b,c⟩=>⟨a,b,fun j hj=>(c j hj).trans (e2 j hj).symm⟩,fun ⟨a,b,c⟩=>⟨a,b,fun j hj=>(c j hj).trans (e2 j hj)⟩⟩
 rw [e3]
 exact z
theorem tg_tup{K:PySem.W.Frag}{n k:Nat}{u:TGs}(hu:TgsOk k u):TgOk k (gTup K n u):=by
 rintro x σ H Q ⟨a,xs,e,h1,h2,q⟩
 exact ⟨a,xs,e,h1,h2,hu xs σ H Q q⟩
noncomputable def PIf(X:Cx)(ifs:List Expr)(t:TT):Prop :=
 ∀ (pins:List (Addr×Obj)) (s:Shared) (σ:St) (H:Hp) (Q:Bool→Hp→Prop),Inv X pins σ H s→t σ H Q →
   wpAny (model X.prog X.w) X.A (forIn ifs true fun c r=>if r=true then do let ok ← isTrue c X.env (eval c X.env);pure (ForInStep.yield ok) else pure (ForInStep.yield r)) (TP X pins σ Q) X.xe s
noncomputable def tYes:TT:=fun _ H Q=>Q true H
theorem pif_nil{X:Cx}:PIf X [] tYes:=fun _ _ _ H _ I h=>wpAny_tests_nil ⟨H,I,h⟩
theorem pif_one{X:Cx}{c:Expr}{t:TT}(hc:PT X c t):PIf X [c] t:=fun pins s σ H Q I h=>wpAny_tests_one (hc pins s σ H Q I h)
noncomputable def tComp(wi:TI)(js:List (Option Nat))(g:TG)(tc:TT)(te:TE):TE:=fun σ H Q=>wi σ H fun J H1=>∀ D,H1 D=none→∃ W:Nat→Nat→List V→Hp→Prop,(∃ m,W 0 m [] (upd H1 D (.lst []))) ∧
 ∀ i m ys H,W i m ys H→H D=some (.lst ys)→(J.stop i H∧Q (.ref D) H) ∨
   (J.go i H∧ys.length<sizeLine∧∀ x H',J.yld i H x H'→g x (capt js σ) H' fun σ2 H2=>tc σ2 H2 fun b H3 =>
     if b=true then te σ2 H3 fun y H4=>H4 D=some (.lst ys)∧∃ m',m'<m∧W (i+1) m' (ys++[y]) (upd H4 D (.lst (ys++[y])))
     else H3 D=some (.lst ys)∧∃ m',m'<m∧W (i+1) m' ys H3)
section
variable {X:Cx}{pins:List (Addr×Obj)}{σ:St}{H:Hp}{s:Shared}
theorem inv_comp{NC:List Str}{js:List (Option Nat)}{sc scope:Scope}{C:Addr}{h4:Heap}{tk:Nat}{fp:List Addr}{m:Str→Option Value}(S:CompSc NC X.N js sc scope)(hsc:X.env.scope=sc)(hc:X.calm=true)
   (I:Inv X pins σ H s) (f:∀ b∈fp,FpOk X pins H b) (fo:∀ b∈fp,∃ o,s.heap.get? b=some o) (hC:C=s.heap.objs.size) (hns:h4.Ns C m) (hk:∀ b o,s.heap.get? b=some o→h4.get? b=some o) :
   Inv (cxComp X NC scope C s H fp) [] (capt js σ) H {s with heap:=h4,toks:=tk}:=by
 have hcells:∀ y∈scope.names,y.2=.free→∃ c,X.env.cells.lookup y.1=some c:=fun y hy hf=>I.ok.has y.1 (.inl (show X.env.scope.names.lookup y.1=some .cell by rw [hsc];exact S.free y hy hf))
 have cl1:∀ x c,(clOf X.env scope.names []).lookup x=some c→X.env.cells.lookup x=some c:=fun x c e=>clOf_sub scope.names [] hcells (fun _ _ z=>by cases z) x c (PySem.mem_of_lookup e)
 have cl2:∀ y∈scope.names,y.2=.free→∃ c,(clOf X.env scope.names []).lookup y.1=some c:=fun y hy hf=>by
   obtain ⟨c,hm⟩:=clOf_has (env:=X.env) scope.names [] y hy hf
   obtain ⟨c',e,_⟩:=lookup_of_mem hm
   exact ⟨c',e⟩
 have kinds:∀ x,(cxComp X NC scope C s H fp).env.kindOf x=(scope.names.lookup x).map fun k=>if (k==NameKind.free&&X.env.scope.kind==.function&&X.env.kindOf x==some .cell) then NameKind.cell else k:=fun x=>lookup_relabel scope.names x
 have fcell:∀ x,scope.names.lookup x=some .free→(cxComp X NC scope C s H fp).env.kindOf x=some .cell:=fun x e=>by
   rw [kinds,e]
   have h1:X.env.kindOf x=some .cell:=show X.env.scope.names.lookup x=some .cell by rw [hsc];exact S.free (x,.free) (PySem.mem_of_lookup e) rfl
   have h2:X.env.scope.kind=.function:=I.ok.kind
   simp only [Option.map_some,h1,h2]
   rfl
 have flt:∀ b∈fp,b<s.heap.objs.size:=fun b hb=>let ⟨o,e⟩:=fo b hb;Heap.lt_size e
 refine ⟨⟨I.ok.mod,S.kind,I.ok.glob,I.ok.blt,Nat.le_of_eq hC.symm,fun x y c h1 h2=>I.ok.inj x y c (cl1 x c h1) (cl1 y c h2),fun x hx=>?_,fun x c hf _=>absurd (show false=true from hf) Ωw,fun _=>I.ok.hd hc,I.ok.frames,.inl rfl,fun b hb=>⟨?_,fun x c e=>(f b hb).2.2.2.2.1 x c (cl1 x c e)⟩,
     I.bs,ΩE I.ok.bsz I.sz,fun b o e hb=>?_,fun b hb hm=>?_,I.stack,I.stkFree⟩,
   rfl,I.bare,Un.kept hk,⟨m,hns,fun i x v h1 h2 h3=>?_⟩,fun x c e=>?_,?_,fun x c e=>I.freeC x c (cl1 x c e),fun p hp=>absurd (show p∈([]:List (Addr×Obj)) from hp) (by simp),I.hok.kept hk,?_⟩
 · rw [kinds] at hx
   cases e:scope.names.lookup x with
   | none=>rw [e] at hx;rcases hx with hx|hx<;>cases hx
   | some k =>
     rw [e] at hx
     have hm:=PySem.mem_of_lookup e
     have hk:k=.free:=by
       by_cases hf:(k==NameKind.free)=true
       · cases k<;>first|rfl|(exact absurd hf (by decide))
       · have hf':(k==NameKind.free)=false:=Bool.eq_false_iff.mpr hf
         simp only [Option.map_some,hf',Bool.false_and,ΩG,if_false] at hx
         rcases hx with hx|hx
         · exact absurd (Option.some.inj hx) (S.nocell _ hm)
         · exact Option.some.inj hx
     exact cl2 (x,k) hm hk
 · show b≠C
   rw [hC]
   exact Ωu (flt b hb)
 · obtain ⟨_,_,_,f3,_⟩:=f b hb
   rcases f3 with z|z
   · exact I.ok.noex b o e z
   · exact absurd (Ωt (Heap.lt_size e) (ΩE I.ok.bsz z)) (Nat.lt_irrefl _)
 · obtain ⟨_,f1,f2,_⟩:=f b hb
   exact (Ωr.mp (I.stkSub b hm)).elim f1 f2
 · have hj:∃ j,js[i]? = some (some j)∧σ[j]? = some (some v):=by
     unfold capt at h2
     rw [Ωn] at h2
     cases e:js[i]? with
     | none=>rw [e] at h2;cases h2
     | some o =>
       rw [e] at h2
       have h2':(o.bind fun j=>(σ[j]?).join)=some v:=Option.some.inj h2
       cases o with
       | none=>cases h2'
       | some j =>
         refine ⟨j,rfl,?_⟩
         have h3':(σ[j]?).join=some v:=h2'
         cases q:σ[j]? with
         | none=>rw [q] at h3';cases h3'
         | some r=>rw [q] at h3';rw [show r=some v from h3']
   obtain ⟨j,hj,hσ⟩:=hj
   obtain ⟨hN,hfr⟩:=S.at (show NC[i]? = some x from h1) hj
   have hcell:X.env.scope.names.lookup x=some .cell:=by rw [hsc];exact S.free (x,.free) (PySem.mem_of_lookup hfr) rfl
   obtain ⟨m0,_,hl⟩:=I.loc
   obtain ⟨u,r,l⟩:=hl j x v hN hσ (.inr (.inl hcell))
   refine ⟨u,r,?_⟩
   rcases l with ⟨k,_⟩|⟨_,c,e,z⟩
   · rw [show X.env.kindOf x=some .cell from hcell] at k
     cases k
   · obtain ⟨c',e'⟩:=cl2 (x,.free) (PySem.mem_of_lookup hfr) rfl
     have ec:=cl1 x c' e'
     rw [e] at ec
     cases ec
     obtain ⟨o,ho,hd⟩:=z
     exact .inr ⟨.inl (fcell x hfr),c,e',o,hk _ _ ho,hd⟩
 · obtain ⟨v,o,ho,hd⟩:=I.cell x c (cl1 x c e)
   exact ⟨v,o,hk _ _ ho,hd⟩
 · show H C=none
   rw [hC]
   exact I.hok.fresh (Ωq _)
 · unfold capt
   rw [List.length_map]
   exact S.len
end
section
variable {X:Cx}{elt tg iter:Expr}{ifs:List Expr}{scope sc:Scope}{pos:Pos}{NC:List Str}{js:List (Option Nat)}{k:Nat}{wi:TI}{g:TG}{tc:TT}{te:TE}
theorem Inv.comp_out{pins:List (Addr×Obj)}{σ σ':St}{H3 H':Hp}{s3 s1:Shared}{C:Addr}{fp:List Addr}{h'':Heap}(I3:Inv X pins σ H3 s3)(f:∀ b∈fp,FpOk X pins H3 b)(hC:C=s3.heap.objs.size)
   (I':Inv (cxComp X NC scope C s3 H3 fp) [] σ' H' s1) (hs:Heap.SameBut C s1.heap h''):Inv X pins σ H' {s1 with heap:=h''}:=by
 have ne:∀ b o,s3.heap.get? b=some o→b≠C:=fun b o e=>by rw [hC];exact Ωu (Heap.lt_size e)
 have u:=I'.base
 refine I3.call' (s':={s1 with heap:=h''}) (ch:=fp) I'.os ⟨fun b o e n hb hx=>(hs.2 b (ne b o e)).trans (u.keep b o e n hb hx),fun b o e n hb hx=>?_,u.free,fun b o e hx=>?_,u.tups,u.frzs,u.tbls⟩ ?_ I'.bare fun b hb=>?_
 · obtain ⟨sl,q⟩:=u.slot b o e n hb hx
   exact ⟨sl,(hs.2 b (ne b o e)).trans q⟩
 · obtain ⟨o',q⟩:=u.there b o e hx
   exact ⟨o',(hs.2 b (ne b o e)).trans q⟩
 · have hfree:H' C=none:=I'.free
   intro b ob e
   refine (I'.hok b ob e).stay (fun c w' hc q=>(hs.2 c ?_).trans q) (fun _ q=>q) fun _ _ q=>q
   rintro rfl
   rcases hc with rfl|hc
   · rw [hfree] at e;cases e
   · rw [hfree] at hc;cases hc
 · obtain ⟨_,f1,_,f3,f4,f5⟩:=f b hb
   exact ⟨f3,f1,f4,f5⟩
theorem pe_comp(S:CompSc NC X.N js sc scope)(hsc:X.env.scope=sc)(hc:X.calm=true)(hi:PI X tg iter wi)
   (hb:∀ (C:Addr) (s3:Shared) (H3:Hp) (fp:List Addr),PG (cxComp X NC scope C s3 H3 fp) tg g∧PIf (cxComp X NC scope C s3 H3 fp) ifs tc∧PE (cxComp X NC scope C s3 H3 fp) elt te)
   (hk:TgOk k g) (hjk:∀ j,j<k→js[j]? = some none) (hs:∀ x,foldedSetIterable iter X.env x=pure x:=by intro _;rfl) :
   PE X (.ListComp elt [⟨tg,iter,ifs,0⟩] scope pos) (tComp wi js g tc te):=by
 intro pins s σ H Q I h
 have hcells:∀ y∈scope.names,y.2=.free→∃ c,X.env.cells.lookup y.1=some c:=fun y hy hf=>I.ok.has y.1 (.inl (show X.env.scope.names.lookup y.1=some .cell by rw [hsc];exact S.free y hy hf))
 rw [eval_ListComp]
 refine wpAny_comprehension_free (use:=none) rfl hs (closureFor_eq hcells) S.kind S.locs (thn (hi pins s σ H _ I h) fun xv s1 h1=>thn h1 fun itv s2 h2=>?_)
 obtain ⟨it,fp,tn,J,H2,e,I2,T,st2,f2,rest⟩:=h2
 subst e
 have hD:H2 s2.heap.objs.size=none:=I2.hok.fresh (Ωq _)
 obtain ⟨W,⟨m0,w0⟩,turn⟩:=rest s2.heap.objs.size hD
 refine wpAny_newObj_type (wpAny_newFunctionEnv S.nocell (by intro y hy;simp at hy) (fun h4 hns hsb=>?_) S.kind)
 have I3:Inv X pins σ (upd H2 s2.heap.objs.size (.lst [])) {s2 with heap:=s2.heap.push {cls:=.type "list",dict:=none,data:=.seq ([]:List Value).toArray}}:=I2.lnew (t':=s2.toks) (ys:=[]) (its:=[]) .nil (Nat.zero_le _)
 dsimp only at hns hsb ⊢
 generalize hs3:({s2 with heap:=s2.heap.push {cls:=.type "list",dict:=none,data:=.seq ([]:List Value).toArray}}:Shared)=s3 at I3
 have eh:s2.heap.push {cls:=.type "list",dict:=none,data:=.seq ([]:List Value).toArray}=s3.heap:=by rw [← hs3]
 have eD:s2.heap.objs.size<s3.heap.objs.size:=by rw [← eh,Heap.size_push];exact ΩH _
 rw [eh] at hns hsb
 have keep:∀ b o,s3.heap.get? b=some o→h4.get? b=some o:=fun b o e=>(hsb.2 b (Ωu (Heap.lt_size e))).trans (Ωd _ e)
 have fpl:∀ b∈fp,∃ o,s3.heap.get? b=some o:=fun b hb=>by
   obtain ⟨o,e,_⟩:=T.obj 0 _ st2 b hb
   exact ⟨o,by rw [← eh];exact Ωd _ e⟩
 have neD:∀ b∈fp,b≠s2.heap.objs.size:=fun b hb=>by
   obtain ⟨o,e,_⟩:=T.obj 0 _ st2 b hb
   exact Ωu (Heap.lt_size e)
 have f3:∀ b∈fp,FpOk X pins (upd H2 s2.heap.objs.size (.lst [])) b:=fun b hb=>⟨by rw [upd_ne (neD b hb)];exact (f2 b hb).1,(f2 b hb).2⟩
 have I4:=inv_comp (tk:=s2.toks+([]:List (Str×Value)).length) S hsc hc I3 f3 fpl rfl hns keep
 have st4:tn 0 h4:=T.keep 0 _ _ st2 fun b hb o e=>keep b o (by rw [← eh];exact Ωd _ e)
 have stat:∀ {H':Hp},(∀ b∈fp,H' b=none)→∀ b∈fp,FpOk (cxComp X NC scope s3.heap.objs.size s3 (upd H2 s2.heap.objs.size (.lst [])) fp) [] H' b:=fun hn b hb =>
   ⟨hn b hb,Ωu (let ⟨o,e⟩:=fpl b hb;Heap.lt_size e),fun hm=>I4.ok.exfs b hb hm,.inl hb,fun x c e=>(I4.ok.exf b hb).2 x c e,fun p hp=>absurd (show p∈([]:List (Addr×Obj)) from hp) (by simp)⟩
 have eC:(s2.heap.push {cls:=.type "list",dict:=none,data:=.seq ([]:List Value).toArray}).objs.size=s3.heap.objs.size:=by rw [eh]
 have loop:∀ s4:Shared,s4={s3 with heap:=h4,toks:=s2.toks+([]:List (Str×Value)).length} →
     codeAny (model X.prog X.w) X.A (.compLoop (.ListComp elt [⟨tg,iter,ifs,0⟩] scope pos) 0 (.ref it) (.ref s2.heap.objs.size) (compEnvC scope (clOf X.env scope.names []) s3.heap.objs.size X.env))
       (compPost (model X.prog X.w) X.A X.xe none (EP X pins σ Q) (.ref s2.heap.objs.size) s3.heap.objs.size) s4:=by
   rintro s4 rfl
   refine compLoop_go (fun n s'=>∃ i ys H',Inv (cxComp X NC scope s3.heap.objs.size s3 (upd H2 s2.heap.objs.size (.lst [])) fp) [] (capt js σ) H' s'∧tn i s'.heap∧(∀ b∈fp,H' b=none)∧H' s2.heap.objs.size=some (.lst ys)∧W i n ys H') ?_ m0
     ⟨0,[],_,I4,st4,fun b hb=>(f3 b hb).1,upd_same,w0⟩
   rintro n s5 ⟨i,ys,H5,I5,st5,fr5,hD5,w5⟩
   rcases turn i n ys H5 w5 hD5 with ⟨stop,qn⟩|⟨go,hlen,step⟩
   · refine wpAny_mono (T.done (cxComp X NC scope s3.heap.objs.size s3 (upd H2 s2.heap.objs.size (.lst [])) fp) rfl rfl rfl rfl i [] s5 (capt js σ) H5 (fun _ _=>False) I5 (stat fr5) st5 stop) (fun r s6 ⟨hr,I6⟩=>?_) fun _ _ z=>z.elim
     subst hr
     obtain ⟨m,hm,_⟩:=I6.loc
     exact ⟨m,hm,fun h' hs'=>⟨.ref s2.heap.objs.size,H5,I3.comp_out f3 rfl I6 hs',rfl,qn⟩⟩
   · refine wpAny_mono (T.item (cxComp X NC scope s3.heap.objs.size s3 (upd H2 s2.heap.objs.size (.lst [])) fp) rfl rfl rfl rfl i [] s5 (capt js σ) H5 (fun _ _=>False) I5 (stat fr5) st5 go) (fun r s6 ⟨u,hr,h6⟩=>?_) fun _ _ z=>z.elim
     subst hr
     refine wpAny_mono h6 (fun _ s7 ⟨x,H7,I7,r7,y7,st7,fr7⟩=>?_) fun _ _ z=>z.elim
     have I7':=I7.pinned (stat fr7) (T.obj _ _ st7)
     obtain ⟨pg,pif,pe⟩:=hb s3.heap.objs.size s3 (upd H2 s2.heap.objs.size (.lst [])) fp
     refine wpAny_mono (pg _ s7 (capt js σ) H7 x u _ I7' r7 (hk _ _ _ _ (step x H7 y7))) (fun _ s8 ⟨σ8,H8,I8,q8,l8,k8⟩=>?_) fun _ _ z=>z.elim
     have back:∀ {H9:Hp}{s9:Shared},Inv (cxComp X NC scope s3.heap.objs.size s3 (upd H2 s2.heap.objs.size (.lst [])) fp) ([]++pinsAt fp s7.heap) σ8 H9 s9 →
         Inv (cxComp X NC scope s3.heap.objs.size s3 (upd H2 s2.heap.objs.size (.lst [])) fp) [] (capt js σ) H9 s9∧tn (i+1) s9.heap∧∀ b∈fp,H9 b=none:=fun {H9 s9} I9=>by
       refine ⟨(I9.unpinned).weak l8.symm fun j v e=>?_,T.keep _ _ _ st7 fun b hb o e=>(I9.pin (b,o) (Ωv _ (Ωv _ (mem_pinsAt hb e)))).1,fun b hb=>?_⟩
       · by_cases hj:j<k
         · unfold capt at e
           rw [Ωn,hjk j hj] at e
           cases e
         · rw [k8 j (Nat.le_of_not_lt hj)];exact e
       · obtain ⟨o,e,d⟩:=T.obj _ _ st7 b hb
         exact (I9.pin (b,o) (Ωv _ (Ωv _ (mem_pinsAt hb e)))).2.1
     refine wpAny_mono (pif _ s8 σ8 H8 _ I8 q8) (fun ok s9 ⟨H9,I9,q9⟩=>?_) fun _ _ z=>z.elim
     cases ok with
     | false =>
       rw [if_neg Ωw] at q9 ⊢
       obtain ⟨hD9,m',hm,w9⟩:=q9
       obtain ⟨b1,b2,b3⟩:=back I9
       exact ⟨m',hm,i+1,ys,H9,b1,b2,b3,hD9,w9⟩
     | true =>
       rw [if_pos rfl] at q9 ⊢
       refine wpAny_mono (pe _ s9 σ8 H9 _ I9 q9) (fun y s10 ⟨v,H10,I10,r10,hD10,m',hm,w10⟩=>?_) fun _ _ z=>z.elim
       refine wpAny_mono (mt_append (X:=cxComp X NC scope s3.heap.objs.size s3 (upd H2 s2.heap.objs.size (.lst [])) fp) _ s10 σ8 H10 (.ref s2.heap.objs.size) [v] (.ref s2.heap.objs.size) [y]
         (fun _ H11=>H11=upd H10 s2.heap.objs.size (.lst (ys++[v]))) I10 rfl (.cons r10 .nil) ⟨_,ys,v,rfl,rfl,hD10,hlen,rfl⟩) (fun _ s11 ⟨_,H11,I11,_,e11⟩=>?_) fun _ _ z=>z.elim
       subst e11
       obtain ⟨b1,b2,b3⟩:=back I11
       exact ⟨m',hm,i+1,ys++[v],_,b1,b2,b3,upd_same,w10⟩
 have e4:({s2 with heap:=h4,toks:=s2.toks+([]:List (Str×Value)).length}:Shared)={s3 with heap:=h4,toks:=s2.toks+([]:List (Str×Value)).length}:=by rw [← hs3]
 rw [eC]
 exact codeAny_compStart_list (loop _ e4) (T.self X.A 0 _ _ _ st4 (loop _ e4))
end
end L2
end
section
namespace L2
open PySem PySem.Spec PyProof.Rows
section
variable {X:Cx}
noncomputable def TyN(K:PySem.W.Frag)(x:V)(H:Hp)(t:String):Prop:=match x with
 | .int _=>t = "int"
 | .str _=>t = "str"
 | .bl _=>t = "bool"
 | .non=>t = "NoneType"
 | .ref p=>(t = "list" ∧ ∃ xs,SqL K H p xs)∨(t = "tuple" ∧ ∃ xs,SqT K H p xs)
 | _=>False
theorem call_isi:CallR X (.builtin "isinstance") (fun xs H Q=>∃ x t T b,xs=[x,.ty T]∧TyN X.K x H t∧PySem.W.kitOne X.K (.type t) (.type T)=some b∧Q (.bl b) H):=by
 intro pins s σ H xs us Q I r h
 obtain ⟨x,t,T,b,rfl,ty,e,q⟩:=h
 obtain ⟨u,w',rfl,rx,rT⟩:=vals2 r
 obtain rfl:w'=Value.type T:=rT
 have fin:∀ tk,EP X pins σ Q (.bool b) {s with toks:=tk}:=fun tk=>⟨.bl b,H,I.tok tk,rfl,q⟩
 cases x with
 | int i =>
   obtain ⟨tk,rfl⟩:=rx
   obtain rfl:t = "int" := ty
   exact PySem.W.kia_one PySem.W.kitx_int I.kIn trivial e (by intro z;cases z) fin
 | str i =>
   obtain ⟨tk,rfl⟩:=rx
   obtain rfl:t = "str" := ty
   exact PySem.W.kia_one PySem.W.kitx_str I.kIn trivial e (by intro z;cases z) fin
 | bl i =>
   obtain rfl:u=Value.bool i:=rx
   obtain rfl:t = "bool" := ty
   exact PySem.W.kia_one PySem.W.kitx_bool I.kIn trivial e (by intro z;cases z) fin
 | non =>
   obtain rfl:u=Value.none:=rx
   obtain rfl:t = "NoneType" := ty
   exact PySem.W.kia_one PySem.W.kitx_none I.kIn trivial e (by intro z;cases z) fin
 | ref p =>
   obtain rfl:u=Value.ref p:=rx
   rcases ty with ⟨rfl,xs,hx⟩|⟨rfl,xs,hx⟩
   · obtain ⟨its,_,pl,_⟩:=I.list hx
     exact PySem.W.kia_one PySem.W.kitx_list I.kIn pl.isList.typeIs e (by intro z;cases z) fin
   · obtain ⟨its,_,pl,_⟩:=I.tuple hx
     exact PySem.W.kia_one PySem.W.kitx_tuple I.kIn pl.typeIs e (by intro z;cases z) fin
 | _=>exact (show False from ty).elim
theorem kit_plain{K:PySem.W.Frag}{t T:String}{b:Bool}(h:PySem.W.kitOne [] (.type t) (.type T)=some b):PySem.W.kitOne K (.type t) (.type T)=some b:=h
noncomputable def rSlS:V→Option Int→Option Int→Hp→VK→Prop:=fun x lo hi H Q=>∃ y,x=.str y∧y.length≤sizeLine∧Q (.str (StrLaws.sliceText y lo hi)) H
theorem sl_str:SlR X rSlS:=by
 intro pins s σ H x v vl vu lo hi sl Q I rx hs pl pu h
 obtain ⟨y,rfl,hz,q⟩:=h
 obtain ⟨t,rfl⟩:=rx
 refine ⟨"str",_,F.slot_str_getitem.lookup,typeIs_str _ _ _,?_⟩
 have go:∀ (l u:Option (Int×Tok)),vl=partValue l→vu=partValue u→lo=l.map (·.1)→hi=u.map (·.1)→wpAny (model X.prog X.w) X.A (getItem (.str y t) (.ref sl)) (EP X pins σ Q) X.xe s:=by
   rintro l u rfl rfl rfl rfl
   refine wpAny_getItem_str_slice (l:=l) (u:=u) (st:=none) hs rfl ?_
   refine post_val_or_str ⟨ΩE (Txt.slice_le y _ _) hz,fun t' k=>⟨.str _,H,I.tok k,⟨t',rfl⟩,q⟩⟩
 cases pl with
 | none =>
   cases pu with
   | none=>exact go none none rfl rfl rfl rfl
   | int j tj=>exact go none (some (j,tj)) rfl rfl rfl rfl
 | int i ti =>
   cases pu with
   | none=>exact go (some (i,ti)) none rfl rfl rfl rfl
   | int j tj=>exact go (some (i,ti)) (some (j,tj)) rfl rfl rfl rfl
end
end L2
end
section
namespace L2
open PySem PySem.Spec PyProof.Rows
noncomputable def Kept(fs:List Addr)(H':Hp)(h h1 B:Heap):Prop:=∀ b o,h1.get? b=some o→(H' b≠none∨((∃ o',h.get? b=some o')∧b ∉ fs))→B.get? b=some o
noncomputable def CXF(P:Program)(w:World):CXT:=fun outer H s E e s' =>
 ∃ (a:Addr) (cls a0:Value) (H':Hp) (B:Heap),e=.ref a∧s'.os=s.os∧AllBare s'.gens∧Un (frs outer) [] H H' s.heap s'.heap∧HOk P w H' s'.heap ∧
   Heap.FlyingW B outer a cls a0 s'.heap∧Kept (frs outer) H' s.heap s'.heap B∧H' a=none∧E cls none H'
section
variable {P:Program}{w:World}{K:PySem.W.Frag}{mg:Str→Option Value}{base:Heap}{N:List Str}{qual:Str}{scope:Scope}{f:Addr}{cd:Value}{A:Around}{outer:List Env}{s0:Shared}{H0:Hp}{E:XK}
end
theorem pass_none{P:Program}{w:World}{X:Cx}:Passes (CXF P w) X E0:=fun _ _ _ _ _ _ _ h=>by
 obtain ⟨_,_,_,_,_,_,_,_,_,_,_,_,_,z⟩:=h
 exact z.elim
end L2
end
section
namespace L2
open PySem PySem.Spec PyProof.Rows
section
variable {X:Cx}{x:Str}{C:Addr}{bmB:List Value}{B newId initId:String}{np cpos pos:Pos}{e:Expr}{es:List Expr}{t:TA}{E:XK}
end
section
variable {X:Cx}{pins:List (Addr×Obj)}{σ:St}{H:Hp}{s:Shared}{a:Addr}{oe:Obj}
end
section
variable {X:Cx}{k:Nat}{x cx n:Str}{ps:List Str}{sp:Sp}{e:Expr}{es:List Expr}{t:TA}{p np cpos epos hpos pos:Pos}{f C2:Addr}{fd:FuncData}{ie:Nat}{b0:Stmt}{suite:List Stmt}{ts:Addr→Obj→TS}
end
end L2
end
section
namespace L2
open PySem PySem.Spec PyProof.Rows
noncomputable def Def(P:Program)(w:World)(K:PySem.W.Frag)(mg:Str→Option Value)(base:Heap)(k:Nat)(x:Str)(ps:List Str)(sp:Sp):Prop :=
 ∃ f fd,mg x=some (.ref f)∧PySem.W.keepIn K (.ref f)=true∧Binds K fd ps []∧FnOk P w K mg base (CXF P w) k f fd ps sp
section
variable {X:Cx}{k:Nat}{x:Str}{ps:List Str}{sp:Sp}{E:XK}{e:Expr}{es:List Expr}{t:TA}{p pos:Pos}
noncomputable def tCal(sp:Sp)(E:XK)(t:TA):TE:=fun σ H Q=>t σ H fun vs H1=>sp vs H1 Q E
theorem pe_def(D:Def X.prog X.w X.K X.mg X.base k x ps sp)(hr:Room k X.A)(hg:Gl X x)(hx:Passes (CXF X.prog X.w) X E)(ha:PA X (e::es) t)
   (hdb:(x==("__debug__" : Str))=false:=by decide) (he:starEach (e::es) X.env=(false,eval e X.env)::starEach es X.env:=by rfl) (hpl:(backTo pos (starEach es X.env)).any (·.1)=false:=by rfl) :
   PE X (.Call (.Name x p) (e::es) [] pos) (tCal sp E t):=by
 obtain ⟨f,fd,h1,h2,h3,h4⟩:=D
 intro pins s σ H Q I h
 refine pe_call h4 hr hg h1 h2 h3 .nil hx ha hdb he hpl pins s σ H Q I ?_
 have z:t σ H fun vs H1=>sp vs H1 Q E:=h
 show t σ H fun vs H1=>sp (vs++[]) H1 Q E
 simpa only [List.append_nil] using z
end
end L2
end
section
namespace L2
open PySem PySem.Spec PyProof.Rows
section
variable {X:Cx}{pins:List (Addr×Obj)}{σ:St}{H:Hp}{s:Shared}{h':Heap}
theorem fpOk_ch{ch:List Addr}(hf:∀ b∈ch,FpOk X pins H b):∀ b∈ch,(b∈X.ex∨X.s₀.heap.objs.size≤b)∧b≠X.env.locals∧(∀ x c,X.env.cells.lookup x=some c→c≠b)∧∀ p∈X.pn++pins,p.1≠b:=fun b hb=>by
 obtain ⟨_,f1,_,f3,f4,f5⟩:=hf b hb
 exact ⟨f3,f1,f4,f5⟩
theorem Inv.turnL{t':Nat}{ch:List Addr}(I:Inv X pins σ H s)(hf:∀ b∈ch,FpOk X pins H b)(k:∀ b o,b ∉ ch→s.heap.get? b=some o→h'.get? b=some o):Inv X pins σ H {s with heap:=h',toks:=t'}:=by
 have nit:∀ b u,H b=some u→b ∉ ch:=fun b u e z=>by rw [(hf b z).1] at e;cases e
 refine I.step (g':=s.gens) (d':=s.drawn) (ch:=ch) (fpOk_ch hf) (fun b o _ _ hc e _=>k b o hc e) (fun b o _ _ hc e _=>⟨o.slots,k b o hc e⟩) (fun _ _ _ _ n=>n)
   (fun b o hc e=>⟨o,k b o hc e⟩) (fun _ _ e=>e) (fun _ _ _ e=>e) (fun b ps e=>⟨#[],by rw [e];simp⟩) (fun m hm=>?_) (fun b u e=>?_) I.bare
 · obtain ⟨o,es,ep,ho,r⟩:=hm
   exact ⟨o,es,ep,k _ o (fun z=>(hf _ z).2.1 rfl) ho,r⟩
 · refine (I.hok b u e).stay (fun c v hc q=>k c v ?_ q) (fun _ q=>q) fun _ _ q=>q
   rcases hc with z|z
   · rw [z];exact nit b u e
   · exact nit c _ z
theorem Inv.turnT{t':Nat}{ch:List Addr}{T:Addr}{vs:List V}{us:List Value}(I:Inv X pins σ H s)(hf:∀ b∈ch,FpOk X pins H b)(k:∀ b o,b ∉ ch→s.heap.get? b=some o→h'.get? b=some o)
   (hT:s.heap.objs.size≤T) (tup:IsTupN h' T us.toArray) (rv:Vals vs us) (hz:vs.length≤sizeLine):Inv X pins σ (upd H T (.tup vs)) {s with heap:=h',toks:=t'}:=by
 have nit:∀ b u,H b=some u→b ∉ ch:=fun b u e z=>by rw [(hf b z).1] at e;cases e
 have neT:∀ b o,s.heap.get? b=some o→b≠T:=fun b o e=>Ωu (Ωt (Heap.lt_size e) hT)
 have hTn:H T=none:=I.hok.fresh hT
 refine I.step (g':=s.gens) (d':=s.drawn) (ch:=ch) (fpOk_ch hf) (fun b o _ _ hc e _=>k b o hc e) (fun b o _ _ hc e _=>⟨o.slots,k b o hc e⟩) (fun b o _ e n=>by rw [upd_ne (neT b o e)];exact n)
   (fun b o hc e=>⟨o,k b o hc e⟩) (fun b xs e=>by rw [upd_ne (ne_of_none e hTn)];exact e) (fun b o u e=>by rw [upd_ne (ne_of_none e hTn)];exact e) (fun b ps e=>⟨#[],by rw [upd_ne (ne_of_none e hTn),e];simp⟩) (fun m hm=>?_) (fun b u e=>?_) I.bare
 · obtain ⟨o,es,ep,ho,r⟩:=hm
   exact ⟨o,es,ep,k _ o (fun z=>(hf _ z).2.1 rfl) ho,r⟩
 · by_cases hb:b=T
   · subst hb
     rw [upd_same] at e
     cases e
     exact ⟨hz,us,rv,tup⟩
   · rw [upd_ne hb] at e
     refine (I.hok b u e).stay (fun c v hc q=>k c v ?_ q) (fun c q=>by rw [upd_ne (ne_of_none q hTn)];exact q) fun c xs q=>by rw [upd_ne (ne_of_none q hTn)];exact q
     rcases hc with z|z
     · rw [z];exact nit b u e
     · exact nit c _ z
end
noncomputable def Ite(K:PySem.W.Frag)(a:Addr):It :=
 ⟨fun i H=>∃ xs x,SqL K H a xs∧xs[i]? = some x,fun i H v H'=>∃ p,v=.ref p∧H p=none∧∃ x,(∀ xs,SqL K H a xs→xs[i]? = some x)∧H'=upd H p (.tup [.int i,x]),fun i H=>∃ xs,SqL K H a xs∧xs.length=i⟩
theorem turn_enum{P:Program}{w:World}{K:PySem.W.Frag}{es:List Expr}{kk:Nat}{tp:Pos}(a it e:Addr)(hei:e≠it)(hae:a≠e)(hai:a≠it) :
   Turn P w K (.Tuple es kk tp) (Ite K a) [e,it] e (fun i h=>(∃ old,IsEnum h e it i old)∧h.IsListIter it a i) where
 mem:=by simp
 obj:=fun i h st b hb=>by
   obtain ⟨⟨old,he⟩,o,e1,c,d⟩:=st
   rcases Ωr.mp hb with rfl|hb
   · exact ⟨_,he,fun v z=>by cases z⟩
   · have e2:b=it:=by simpa using hb
     subst e2
     exact ⟨o,e1,fun v z=>by rw [d] at z;cases z⟩
 keep:=fun i h h' st k=>by
   obtain ⟨⟨old,he⟩,st⟩:=st
   exact ⟨⟨old,k e (by simp) _ he⟩,st.at fun o z=>k it (by simp) o z⟩
 item:=by
   intro X hP hw hK hc i pins s σ H E I hf st hg
   subst hP hw hK
   obtain ⟨xs,x,hq,hx⟩:=hg
   obtain ⟨its,rv,p,hz⟩:=I.list hq
   have hl:=rv.length
   have hi:i<xs.length:=(Ωb.mp hx).1
   have W:=WalksT.enumerate (prog:=X.prog) (w:=X.w) (I.ok.hd hc) e it a hei hae hai its.toArray
   have itm:∀ (Q':Option Value→Shared→Prop) (E':Value→Shared→Prop),(∀ T vals h' tk,(∃ t x,its.toArray[i]? = some x∧vals=#[.int i t,x])→s.heap.objs.size≤T→IsTupN h' T vals →
       ((∃ x,IsEnumOut h' e it ((i:Int)+1) x T)∧h'.IsListIter it a (i+1)∧h'.IsList a its.toArray∧T≠e∧T≠it)→(∀ b o,b ∉ [e,it]→s.heap.get? b=some o→h'.get? b=some o)→Q' (some (.ref T)) {s with heap:=h',toks:=tk}) →
       wpAny (model X.prog X.w) X.A (pyNext (.ref e)) Q' E' s:=by
     intro Q' E' hQ
     obtain ⟨⟨old,he⟩,hit⟩:=st
     have hx2:its.toArray[i]? = some (its.toArray[i]'(by simp;omega)):=Array.getElem?_eq_getElem (by simp;omega)
     refine wpAny_pyNext_enum_item he hit p.isList hx2 hei fun h' ho hit' hT hsz hk=>?_
     have e1:e<s.heap.objs.size:=Heap.lt_size he
     have e2:it<s.heap.objs.size:=by obtain ⟨_,z,_⟩:=hit;exact Heap.lt_size z
     exact hQ s.heap.objs.size _ h' (s.toks+1) ⟨_,_,hx2,rfl⟩ (Ωq _) ⟨_,hT,rfl,rfl,_,rfl⟩ ⟨⟨_,ho⟩,hit',p.isList.at fun o z=>hk a o hae hai z,Nat.ne_of_gt e1,Nat.ne_of_gt e2⟩
       fun b o hb z=>hk b o (fun e'=>hb (by simp [e'])) (fun e'=>hb (by simp [e'])) z
   refine itm _ _ fun T vals h1 tk hP hT tup mid kk=>?_
   refine ⟨_,rfl,W.go _ _ _ i T {s with heap:=h1,toks:=tk} _ _ mid fun h2 st2 kk2=>?_⟩
   obtain ⟨t,y,hy,rfl⟩:=hP
   have hy':its[i]? = some y:=by simpa using hy
   obtain ⟨u,hu,ru⟩:=rv.get hx
   rw [hy'] at hu
   cases hu
   have hTw:T ∉ [e,it]:=W.apart i T h1 mid
   have tup2:IsTupN h2 T #[.int i t,y]:=by
     obtain ⟨o,q,r⟩:=tup
     exact ⟨o,kk2 T o hTw q,r⟩
   have I2:Inv X pins σ (upd H T (.tup [.int i,x])) {s with heap:=h2,toks:=tk}:=I.turnT hf (fun b o hb q=>kk2 b o hb (kk b o hb q)) hT (us:=[.int i t,y]) tup2 (.cons ⟨t,rfl⟩ (.cons ru .nil)) (by show 2≤sizeLine;decide)
   refine ⟨.ref T,_,I2,rfl,⟨T,rfl,I.hok.fresh hT,x,fun ys hy=>by rw [I.list_inj hy hq];exact hx,rfl⟩,⟨st2.1,st2.2.1⟩,fun b hb=>?_⟩
   have neb:b≠T:=fun z=>hTw (by rw [← z];exact hb)
   rw [upd_ne neb]
   exact (hf b hb).1
 done:=by
   intro X hP hw hK hc i pins s σ H E I hf st hg
   subst hP hw hK
   obtain ⟨xs,hq,hx⟩:=hg
   obtain ⟨its,rv,p,hz⟩:=I.list hq
   have hl:=rv.length
   have W:=WalksT.enumerate (prog:=X.prog) (w:=X.w) (I.ok.hd hc) e it a hei hae hai its.toArray
   have e1:its.toArray.size=i:=by simp;omega
   refine W.done s _ _ ?_ fun h1 tk kk=>⟨rfl,I.turnL hf kk⟩
   rw [e1]
   exact ⟨st.1,st.2,p.isList⟩
 self:=fun A i s Q E st h=>by
   obtain ⟨⟨old,he⟩,_⟩:=st
   exact wpAny_pyIter_enum he h
noncomputable def iEnum(K:PySem.W.Frag)(ta:TA):TI:=fun σ H R=>ta σ H fun vs H1=>∃ a,vs=[.ref a]∧(∃ xs,SqL K H1 a xs)∧R (Ite K a) H1
theorem pi_enum {X:Cx}{es:List Expr}{kk:Nat}{tp:Pos}{l:Expr}{ta:TA}{p pos:Pos} (hg:Gl X "enumerate") (hm:X.mg "enumerate" = none) (ha:PA X [l] ta) (hs:starEach [l] X.env=[(false,eval l X.env)]:=by rfl) :
   PI X (.Tuple es kk tp) (.Call (.Name "enumerate" p) [l] [] pos) (iEnum X.K ta):=by
 intro pins s σ H R I h
 refine Call_ (ld_blt I hg hm boot_enumerate (PyProof.Rows.callWith_type1 (thn (ha pos pins s σ H _ I h) fun us s1 ⟨vs,H1,I1,r1,q1⟩=>?_) hs rfl))
 obtain ⟨a,rfl,⟨xs,hq⟩,q⟩:=q1
 obtain ⟨u,rfl,ru⟩:=vals1 r1
 obtain rfl:u=Value.ref a:=ru
 obtain ⟨its,rv,pl,hz⟩:=I1.list hq
 have hlt:a<s1.heap.objs.size:=by obtain ⟨_,_,e,_⟩:=pl;exact Heap.lt_size e
 refine call_enumerate_list pl.isList fun h' he hi hsz kk=>?_
 refine wpAny_pyIter_enum he ?_
 refine ⟨s1.heap.objs.size+1,[s1.heap.objs.size+1,s1.heap.objs.size],_,_,H1,rfl,I1.kept (t':=s1.toks) kk,turn_enum a s1.heap.objs.size (s1.heap.objs.size+1) (Nat.succ_ne_self _) (Ωu (Nat.lt_succ_of_lt hlt)) (Ωu hlt),⟨⟨_,he⟩,hi⟩,fun b hb=>?_,q⟩
 rcases Ωr.mp hb with rfl|hb
 · exact I1.fpOk (Nat.le_succ _) (I1.hok.fresh (Nat.le_succ _))
 · have e:b=s1.heap.objs.size:=by simpa using hb
   subst e
   exact I1.fpOk (Ωq _) (I1.hok.fresh (Ωq _))
end L2
end
section
namespace L2
open PySem PySem.Spec PyProof.Rows PySem.Builtin PySem.Builtin.ObjectAttr PySem.Builtin.Getset_descriptor
section
variable {prog:Program}{w:World}{A:Around}{E:Value→Shared→Prop}{s:Shared}{K:PySem.W.Frag}{x D:Addr}{ox:Obj}
end
end L2
end
section
namespace L2
open PySem PySem.Spec PyProof.Rows
section
variable {X:Cx}
end
section
variable {CX:CXT}{P:Program}{w:World}{K:PySem.W.Frag}{mg:Str→Option Value}{base:Heap}{N:List Str}{qual:Str}{scope:Scope}{f:Addr}{cd:Value}{A:Around}{outer:List Env}{s0:Shared}{H0:Hp}{E:XK}{i:Nat}{x:Str}{pos pos':Pos}{e:Expr}{te:TE}
end
theorem body_nox{X:Cx}{b:List Stmt}{t:TS}{D:Ends}{σ:St}{H:Hp}(h:PSs X.nox b t)(r:t D σ H):∃ t,PSs X b t∧t D σ H:=⟨t,h.nox,r⟩
theorem relv_str{x:Str}{t:Tok}:RelV (.str x) (.str x t):=⟨t,rfl⟩
theorem relv_int{x:Int}{t:Tok}:RelV (.int x) (.int x t):=⟨t,rfl⟩
theorem relv_ref{a:Addr}:RelV (.ref a) (.ref a):=rfl
end L2
end
section
namespace L2
open PySem PySem.Spec PyProof.Rows
section
variable {X:Cx}
end
section
variable {X:Cx}{k:Nat}{x cx n:Str}{ps:List Str}{sp:Sp}{e:Expr}{es:List Expr}{t:TA}{p np cpos epos hpos pos:Pos}{C2:Addr}{ie:Nat}{b0:Stmt}{suite:List Stmt}{ts:Addr→Obj→TS}
end
end L2
end
section
namespace L2
open PySem PySem.Spec PyProof.Rows
end L2
end
section
namespace L2
open PySem PySem.Spec PyProof.Rows
noncomputable def DkK(P:Program)(w:World)(K:PySem.W.Frag)(a:Addr)(kvs:List (Key×V)):Prop :=
 ∃ (o:Obj) (es:Array DictEntry) (ep:Nat) (vs:List (Key×Value)),K.lookup a=some o∧o.ExactDict∧o.data=.dict es ep∧KeysOf (mixKind P w) es∧Pairs (mixKind P w) es.toList vs∧(vs.map (·.1)).Nodup∧KV kvs vs∧kvs.length≤sizeLine∧(a==sysModules)=false
noncomputable def Dk(P:Program)(w:World)(K:PySem.W.Frag)(H:Hp)(a:Addr)(kvs:List (Key×V)):Prop:=Rd H a (.dK kvs)∨DkK P w K a kvs
section
variable {X:Cx}{pins:List (Addr×Obj)}{σ:St}{H:Hp}{s:Shared}{a:Addr}
theorem Inv.dk{kvs:List (Key×V)}(I:Inv X pins σ H s)(h:Dk X.prog X.w X.K H a kvs):kvs.length≤sizeLine∧(a==sysModules)=false∧∃ vs,KV kvs vs∧s.heap.DictOf (mixKind X.prog X.w) a vs:=by
 rcases h with h|⟨o,es,ep,vs,lk,ex,da,ks,ps,nd,kv,z,hm⟩
 · exact dk_rd I.hok h
 · exact ⟨z,hm,vs,kv,o,es,ep,I.kIn a o lk,ex,da,ks,ps,nd⟩
noncomputable def rDIn(P:Program)(w:World)(K:PySem.W.Frag)(neg:Bool):R2:=fun x y H Q=>∃ a kvs k,y=.ref a∧x=kV k∧Dk P w K H a kvs∧Q (.bl (if neg then !(valV kvs k).isSome else (valV kvs k).isSome)) H
theorem op_inD:OpR X (compareOp .In) (rDIn X.prog X.w X.K false):=by
 intro pins s σ H x y v u Q I rx ry h
 obtain ⟨a,kvs,k,rfl,rfl,hd,q⟩:=h
 cases ry
 obtain ⟨z,hm,vs,rel,dd⟩:=I.dk hd
 refine wpAny_in_of (kV_is rx) hm dd.mapOf ?_
 rw [← (rel.val k).isSome_eq]
 exact ⟨.bl _,H,I.tok _,rfl,q⟩
theorem op_notInD:OpR X (compareOp .NotIn) (rDIn X.prog X.w X.K true):=by
 intro pins s σ H x y v u Q I rx ry h
 obtain ⟨a,kvs,k,rfl,rfl,hd,q⟩:=h
 cases ry
 obtain ⟨z,hm,vs,rel,dd⟩:=I.dk hd
 refine wpAny_notIn_of (kV_is rx) hm dd.mapOf ?_
 rw [← (rel.val k).isSome_eq]
 exact ⟨.bl _,H,I.tok _,rfl,q⟩
noncomputable def rIxD(P:Program)(w:World)(K:PySem.W.Frag):R2:=fun x y H Q=>∃ a kvs k v,x=.ref a∧y=kV k∧Dk P w K H a kvs∧valV kvs k=some v∧Q v H
theorem ix_dict:IxR X (rIxD X.prog X.w X.K):=by
 intro value slice pins s σ H x y v u Q I rx ry h hs
 obtain ⟨a,kvs,k,z,rfl,rfl,hd,hv,q⟩:=h
 cases rx
 obtain ⟨_,hm,vs,rel,dd⟩:=I.dk hd
 obtain ⟨w',hw,rw'⟩:=RelO.some_of (v:=z) (o:=valueAt vs k) (by rw [← hv];exact rel.val k)
 exact subscriptTail_builtinR (x:=w') dd.typeIs PySem.F.slot_dict_getitem.lookup (wpAny_getItem_of (kV_is ry) dd.mapOf hw ⟨rfl,z,H,I.tok _,rw',q⟩) hs
theorem d_put{A:Around}{E:Value→Shared→Prop}{kvs:List (Key×V)}{k:Key}{v:V}{u r:Value}{Q:Unit→Shared→Prop}(I:Inv X pins σ H s)(e:H a=some (.dK kvs))(l:kvs.length<sizeLine)(ry:RelV (kV k) u)(rv:RelV v r)
   (h:∀ s',Inv X pins σ (upd H a (.dK (putK kvs k v))) s'→Q () s'):wpAny (model X.prog X.w) A (setItem (.ref a) u r) Q E s:=by
 obtain ⟨z,hd,vs,rel,dd⟩:=dk_of I.hok e
 have hz:vs.length≤sizeLine:=by rw [← rel.length];exact z
 have hl:(putK kvs k v).length≤sizeLine:=by have:=length_putK kvs k v;omega
 refine wpAny_setItem_pairs (hsz:=hz) (kV_is ry) dd fun h' dd' hs=>h _ ?_
 have he:∃ q,h'.get? a=some q:=let ⟨q,_,_,hq,_⟩:=dd';⟨q,hq⟩
 exact d_write I (by rw [e];exact True.intro) hs he (dk_new hl hd (rel.put k rv) dd')
noncomputable def sPutD:TSet:=fun o i v H Q=>∃ a kvs k,o=.ref a∧i=kV k∧H a=some (.dK kvs)∧kvs.length<sizeLine∧Q (upd H a (.dK (putK kvs k v)))
theorem set_dict:PSet X sPutD:=by
 intro pins s σ H o i v ov iv u Q I ro ri rv h
 obtain ⟨a,kvs,k,rfl,rfl,e,l,q⟩:=h
 cases ro
 exact d_put I e l ri rv fun s' I'=>⟨_,I',q⟩
end
end L2
end
section
set_option tactic.hygienic false
namespace L2
open PySem PySem.Spec PyProof.Rows
section
variable {X:Cx}{elt tg iter:Expr}{ifs:List Expr}{scope sc:Scope}{pos:Pos}{NC:List Str}{js:List (Option Nat)}{k:Nat}{wi:TI}{g:TG}{tc:TT}{te:TE}
theorem ps_setComp{y:Str}{py spos:Pos}{i0:Nat}(hN:X.N.Nodup)(hy:X.N[i0]? = some y)(hx:Loc X.env.scope y)(hf:X.fn y=true∨X.env.scope.names.lookup y=some .local)(S:CompSc NC X.N js sc scope)(hsc:X.env.scope=sc)(hc:X.calm=true)(hi:PI X tg iter wi)
   (hb:∀ (C:Addr) (s3:Shared) (H3:Hp) (fp:List Addr),PG (cxComp X NC scope C s3 H3 fp) tg g∧PIf (cxComp X NC scope C s3 H3 fp) ifs tc∧PE (cxComp X NC scope C s3 H3 fp) elt te)
   (hk:TgOk k g) (hjk:∀ j,j<k→js[j]? = some none) (hs:∀ x,foldedSetIterable iter X.env x=pure x:=by intro _;rfl) (hsw:swapsWith (.ListComp elt [⟨tg,iter,ifs,0⟩] scope pos) (some (.Name y py)) spos.line X.env=pure true:=by rfl) :
   PS X (.Assign [.Name y py] (.ListComp elt [⟨tg,iter,ifs,0⟩] scope pos) spos) (tAsg (tComp wi js g tc te) (gName i0)):=by
 intro pins s σ H D0 I h
 have hcells:∀ y∈scope.names,y.2=.free→∃ c,X.env.cells.lookup y.1=some c:=fun y hy hf=>I.ok.has y.1 (.inl (show X.env.scope.names.lookup y.1=some .cell by rw [hsc];exact S.free y hy hf))
 rw [exec_Assign_Name_used _ _ _ _ hsw]
 refine wpAny_bind (wpAny_standAt (wpAny_bind ?_))
 show wpAny _ X.A (do let _ ← comprehension (.ListComp elt [⟨tg,iter,ifs,0⟩] scope pos) scope X.env _ (newList []) false (eval iter X.env) (some (assign (.Name y py) X.env))) _ _ s
 refine wpAny_bind (wpAny_mono (wpAny_comprehension_free (use:=some (assign (.Name y py) X.env)) (Q:=fun _ s'=>SP X pins D0 .next s') rfl hs (closureFor_eq hcells) S.kind S.locs (thn (hi pins s σ H _ I h) fun xv s1 h1=>thn h1 fun itv s2 h2=>?_)) (fun _ s' hq=>wpAny_pure (wpAny_pure hq)) fun _ _ e=>e)
 obtain ⟨it,fp,tn,J,H2,e,I2,T,st2,f2,rest⟩:=h2
 subst e
 have hD:H2 s2.heap.objs.size=none:=I2.hok.fresh (Ωq _)
 obtain ⟨W,⟨m0,w0⟩,turn⟩:=rest s2.heap.objs.size hD
 refine wpAny_newObj_type (wpAny_newFunctionEnv S.nocell (by intro y hy;simp at hy) (fun h4 hns hsb=>?_) S.kind)
 have I3:Inv X pins σ (upd H2 s2.heap.objs.size (.lst [])) {s2 with heap:=s2.heap.push {cls:=.type "list",dict:=none,data:=.seq ([]:List Value).toArray}}:=I2.lnew (t':=s2.toks) (ys:=[]) (its:=[]) .nil (Nat.zero_le _)
 dsimp only at hns hsb ⊢
 generalize hs3:({s2 with heap:=s2.heap.push {cls:=.type "list",dict:=none,data:=.seq ([]:List Value).toArray}}:Shared)=s3 at I3
 have eh:s2.heap.push {cls:=.type "list",dict:=none,data:=.seq ([]:List Value).toArray}=s3.heap:=by rw [← hs3]
 have eD:s2.heap.objs.size<s3.heap.objs.size:=by rw [← eh,Heap.size_push];exact ΩH _
 rw [eh] at hns hsb
 have keep:∀ b o,s3.heap.get? b=some o→h4.get? b=some o:=fun b o e=>(hsb.2 b (Ωu (Heap.lt_size e))).trans (Ωd _ e)
 have fpl:∀ b∈fp,∃ o,s3.heap.get? b=some o:=fun b hb=>by
   obtain ⟨o,e,_⟩:=T.obj 0 _ st2 b hb
   exact ⟨o,by rw [← eh];exact Ωd _ e⟩
 have neD:∀ b∈fp,b≠s2.heap.objs.size:=fun b hb=>by
   obtain ⟨o,e,_⟩:=T.obj 0 _ st2 b hb
   exact Ωu (Heap.lt_size e)
 have f3:∀ b∈fp,FpOk X pins (upd H2 s2.heap.objs.size (.lst [])) b:=fun b hb=>⟨by rw [upd_ne (neD b hb)];exact (f2 b hb).1,(f2 b hb).2⟩
 have I4:=inv_comp (tk:=s2.toks+([]:List (Str×Value)).length) S hsc hc I3 f3 fpl rfl hns keep
 have st4:tn 0 h4:=T.keep 0 _ _ st2 fun b hb o e=>keep b o (by rw [← eh];exact Ωd _ e)
 have stat:∀ {H':Hp},(∀ b∈fp,H' b=none)→∀ b∈fp,FpOk (cxComp X NC scope s3.heap.objs.size s3 (upd H2 s2.heap.objs.size (.lst [])) fp) [] H' b:=fun hn b hb =>
   ⟨hn b hb,Ωu (let ⟨o,e⟩:=fpl b hb;Heap.lt_size e),fun hm=>I4.ok.exfs b hb hm,.inl hb,fun x c e=>(I4.ok.exf b hb).2 x c e,fun p hp=>absurd (show p∈([]:List (Addr×Obj)) from hp) (by simp)⟩
 have eC:(s2.heap.push {cls:=.type "list",dict:=none,data:=.seq ([]:List Value).toArray}).objs.size=s3.heap.objs.size:=by rw [eh]
 have loop:∀ s4:Shared,s4={s3 with heap:=h4,toks:=s2.toks+([]:List (Str×Value)).length} →
     codeAny (model X.prog X.w) X.A (.compLoop (.ListComp elt [⟨tg,iter,ifs,0⟩] scope pos) 0 (.ref it) (.ref s2.heap.objs.size) (compEnvC scope (clOf X.env scope.names []) s3.heap.objs.size X.env))
       (compPost (model X.prog X.w) X.A X.xe (some (assign (.Name y py) X.env)) (fun _ s'=>SP X pins D0 .next s') (.ref s2.heap.objs.size) s3.heap.objs.size) s4:=by
   rintro s4 rfl
   refine compLoop_go (fun n s'=>∃ i ys H',Inv (cxComp X NC scope s3.heap.objs.size s3 (upd H2 s2.heap.objs.size (.lst [])) fp) [] (capt js σ) H' s'∧tn i s'.heap∧(∀ b∈fp,H' b=none)∧H' s2.heap.objs.size=some (.lst ys)∧W i n ys H') ?_ m0
     ⟨0,[],_,I4,st4,fun b hb=>(f3 b hb).1,upd_same,w0⟩
   rintro n s5 ⟨i,ys,H5,I5,st5,fr5,hD5,w5⟩
   rcases turn i n ys H5 w5 hD5 with ⟨stop,qn⟩|⟨go,hlen,step⟩
   · refine wpAny_mono (T.done (cxComp X NC scope s3.heap.objs.size s3 (upd H2 s2.heap.objs.size (.lst [])) fp) rfl rfl rfl rfl i [] s5 (capt js σ) H5 (fun _ _=>False) I5 (stat fr5) st5 stop) (fun r s6 ⟨hr,I6⟩=>?_) fun _ _ z=>z.elim
     subst hr
     obtain ⟨m,hm,_⟩:=I6.loc
     have Io:Inv X pins σ H5 s6:=I3.comp_out (h'':=s6.heap) f3 rfl I6 ⟨rfl,fun _ _=>rfl⟩
     have fC:FpOk X pins H5 s3.heap.objs.size:=I3.fpOk (Ωq _) I6.free
     show wpAny _ X.A (assign (.Name y py) X.env (.ref s2.heap.objs.size)) _ _ _
     refine wpAny_assign_Name (store_ok2 Io hN hy hx (v:=.ref s2.heap.objs.size) rfl (fun s8 I8 ⟨a8,sb8,ha8⟩=>?_) hf)
     have ne8:s3.heap.objs.size≠a8:=fun z=>by
       rcases ha8 with e|e
       · exact fC.2.1 (z.trans e)
       · exact fC.2.2.2.2.1 _ _ e z.symm
     refine ⟨m,hm.sameBut sb8 ne8,fun h' hs'=>?_⟩
     exact ⟨_,H5,I8.turnL (t':=s8.toks) (ch:=[s3.heap.objs.size]) (fun b hb=>by rw [Ωx.mp hb];exact fC) (fun b o hb e=>(hs'.2 b (fun z=>hb (by rw [z];exact List.mem_singleton_self _))).trans e),qn⟩
   · refine wpAny_mono (T.item (cxComp X NC scope s3.heap.objs.size s3 (upd H2 s2.heap.objs.size (.lst [])) fp) rfl rfl rfl rfl i [] s5 (capt js σ) H5 (fun _ _=>False) I5 (stat fr5) st5 go) (fun r s6 ⟨u,hr,h6⟩=>?_) fun _ _ z=>z.elim
     subst hr
     refine wpAny_mono h6 (fun _ s7 ⟨x,H7,I7,r7,y7,st7,fr7⟩=>?_) fun _ _ z=>z.elim
     have I7':=I7.pinned (stat fr7) (T.obj _ _ st7)
     obtain ⟨pg,pif,pe⟩:=hb s3.heap.objs.size s3 (upd H2 s2.heap.objs.size (.lst [])) fp
     refine wpAny_mono (pg _ s7 (capt js σ) H7 x u _ I7' r7 (hk _ _ _ _ (step x H7 y7))) (fun _ s8 ⟨σ8,H8,I8,q8,l8,k8⟩=>?_) fun _ _ z=>z.elim
     have back:∀ {H9:Hp}{s9:Shared},Inv (cxComp X NC scope s3.heap.objs.size s3 (upd H2 s2.heap.objs.size (.lst [])) fp) ([]++pinsAt fp s7.heap) σ8 H9 s9 →
         Inv (cxComp X NC scope s3.heap.objs.size s3 (upd H2 s2.heap.objs.size (.lst [])) fp) [] (capt js σ) H9 s9∧tn (i+1) s9.heap∧∀ b∈fp,H9 b=none:=fun {H9 s9} I9=>by
       refine ⟨(I9.unpinned).weak l8.symm fun j v e=>?_,T.keep _ _ _ st7 fun b hb o e=>(I9.pin (b,o) (Ωv _ (Ωv _ (mem_pinsAt hb e)))).1,fun b hb=>?_⟩
       · by_cases hj:j<k
         · unfold capt at e
           rw [Ωn,hjk j hj] at e
           cases e
         · rw [k8 j (Nat.le_of_not_lt hj)];exact e
       · obtain ⟨o,e,d⟩:=T.obj _ _ st7 b hb
         exact (I9.pin (b,o) (Ωv _ (Ωv _ (mem_pinsAt hb e)))).2.1
     refine wpAny_mono (pif _ s8 σ8 H8 _ I8 q8) (fun ok s9 ⟨H9,I9,q9⟩=>?_) fun _ _ z=>z.elim
     cases ok with
     | false =>
       rw [if_neg Ωw] at q9 ⊢
       obtain ⟨hD9,m',hm,w9⟩:=q9
       obtain ⟨b1,b2,b3⟩:=back I9
       exact ⟨m',hm,i+1,ys,H9,b1,b2,b3,hD9,w9⟩
     | true =>
       rw [if_pos rfl] at q9 ⊢
       refine wpAny_mono (pe _ s9 σ8 H9 _ I9 q9) (fun y s10 ⟨v,H10,I10,r10,hD10,m',hm,w10⟩=>?_) fun _ _ z=>z.elim
       refine wpAny_mono (mt_append (X:=cxComp X NC scope s3.heap.objs.size s3 (upd H2 s2.heap.objs.size (.lst [])) fp) _ s10 σ8 H10 (.ref s2.heap.objs.size) [v] (.ref s2.heap.objs.size) [y]
         (fun _ H11=>H11=upd H10 s2.heap.objs.size (.lst (ys++[v]))) I10 rfl (.cons r10 .nil) ⟨_,ys,v,rfl,rfl,hD10,hlen,rfl⟩) (fun _ s11 ⟨_,H11,I11,_,e11⟩=>?_) fun _ _ z=>z.elim
       subst e11
       obtain ⟨b1,b2,b3⟩:=back I11
       exact ⟨m',hm,i+1,ys++[v],_,b1,b2,b3,upd_same,w10⟩
 have e4:({s2 with heap:=h4,toks:=s2.toks+([]:List (Str×Value)).length}:Shared)={s3 with heap:=h4,toks:=s2.toks+([]:List (Str×Value)).length}:=by rw [← hs3]
 rw [eC]
 exact codeAny_compStart_list (loop _ e4) (T.self X.A 0 _ _ _ st4 (loop _ e4))
end
end L2
end
section
namespace L2
open PySem PySem.Spec PyProof.Rows
section
variable {K:PySem.W.Frag}{a D:Addr}{g:TG}{tc:TT}{te:TE}{js:List (Option Nat)}{σ:St}{H1:Hp}{Q:VK}
end
end L2
end
section
namespace L2
open PySem PySem.Spec PyProof.Rows
mutual
inductive Dp(K:PySem.W.Frag)(H:Hp):V→PyData→Prop
 | non:Dp K H .non .none
 | bl (b:Bool):Dp K H (.bl b) (.bool b)
 | int (i:Int):Dp K H (.int i) (.int i)
 | str (x:Str) (ok:PyData.strOk x=true):Dp K H (.str x) (.str x)
 | lst {a:Addr}{xs:List V}{ds:List PyData}:SqL K H a xs→Dps K H xs ds→Dp K H (.ref a) (.list ds)
 | tup {a:Addr}{xs:List V}{ds:List PyData}:SqT K H a xs→Dps K H xs ds→Dp K H (.ref a) (.tuple ds)
inductive Dps(K:PySem.W.Frag)(H:Hp):List V→List PyData→Prop
 | nil:Dps K H [] []
 | cons {v:V}{vs:List V}{d:PyData}{ds:List PyData}:Dp K H v d→Dps K H vs ds→Dps K H (v::vs) (d::ds)
end
section
variable {K:PySem.W.Frag}{H H':Hp}
mutual
theorem Dp.lay:∀ {v:V}{d:PyData},Dp K H v d→d.canLay0=true
 | _,_,.non=>rfl
 | _,_,.bl b=>rfl
 | _,_,.int i=>rfl
 | _,_,.str x ok=>ok
 | _,_,.lst h r=>Dps.lay r
 | _,_,.tup h r=>Dps.lay r
theorem Dps.lay:∀ {v:List V}{d:List PyData},Dps K H v d→PyData.canLayAll0 d=true
 | _,_,.nil=>rfl
 | _,_,.cons h r=>by rw [PyData.canLayAll0,Dp.lay h,Dps.lay r];rfl
end
end
section
variable {X:Cx}{pins:List (Addr×Obj)}{σ:St}{H:Hp}{s:Shared}
mutual
theorem Inv.reads(I:Inv X pins σ H s):∀ {v:V}{d:PyData}{u:Value},Dp X.K H v d→RelV v u→∃ as,Reads s.heap u d as
 | _,_,_,.non,r=>by cases r;exact ⟨_,.none⟩
 | _,_,_,.bl b,r=>by cases r;exact ⟨_,.bool b⟩
 | _,_,_,.int i,r=>by obtain ⟨t,rfl⟩:=r;exact ⟨_,.int i t⟩
 | _,_,_,.str x ok,r=>by obtain ⟨t,rfl⟩:=r;exact ⟨_,.str x t⟩
 | _,_,_,.lst h rs,r=>by
   cases r
   obtain ⟨its,rv,⟨o,n,e,c,_,dd⟩,_⟩:=I.list h
   obtain ⟨as,q⟩:=Inv.readsAll I rs rv
   exact ⟨_,.list e c dd (by simpa using q)⟩
 | _,_,_,.tup h rs,r=>by
   cases r
   obtain ⟨its,rv,⟨o,e,c,n,dd⟩,_⟩:=I.tuple h
   obtain ⟨as,q⟩:=Inv.readsAll I rs rv
   exact ⟨_,.tuple e c dd (by simpa using q)⟩
theorem Inv.readsAll(I:Inv X pins σ H s):∀ {v:List V}{d:List PyData}{u:List Value},Dps X.K H v d→Vals v u→∃ as,ReadsAll s.heap u d as
 | _,_,_,.nil,r=>by cases r;exact ⟨_,.nil⟩
 | _,_,_,.cons h rs,r=>by
   cases r with
   | cons r1 r2 =>
     obtain ⟨as,q⟩:=Inv.reads I h r1
     obtain ⟨bs,q2⟩:=Inv.readsAll I rs r2
     exact ⟨_,.cons q q2⟩
end
end
end L2
end
section
set_option tactic.hygienic false
namespace L2
open PySem PySem.Spec PyProof.Rows
namespace Rv
theorem own:Manifest.owners.lookup (String.ofList ['d','e','s','r','e','v','e','r'].reverse)=some Manifest.sig_reversed:=by kernel_rfl
theorem next:Slot "reversed" "__next__" "reversed.__next__" :=
 .of (owner := "reversed") (n := "__next__") (by rw [typeLookup_type,builtinLookup_eq_fast]<;>kernel_rfl) (by decide +kernel) (by decide +kernel) (by decide +kernel) (by first|exact .inl (by decide +kernel)|exact .inr (by decide +kernel)) (by rw [isSubtype_type]<;>kernel_rfl)
theorem eNext:entryFor table "reversed.__next__" = some Builtin.«reversed.__next__»:=entryFor_of_tree (by kernel_rfl)
theorem aNext (a:Value):argsOk "reversed.__next__" ⟨[a],[]⟩:=by
 unfold argsOk;rw [signature?_of (id := "reversed.__next__") (n:=['_','_','t','x','e','n','_','_']) (o:=['d','e','s','r','e','v','e','r']) (by kernel_rfl) own];kernel_rfl
theorem iter:Slot "reversed" "__iter__" "reversed.__iter__" :=
 .of (owner := "reversed") (n := "__iter__") (by rw [typeLookup_type,builtinLookup_eq_fast]<;>kernel_rfl) (by decide +kernel) (by decide +kernel) (by decide +kernel) (by first|exact .inl (by decide +kernel)|exact .inr (by decide +kernel)) (by rw [isSubtype_type]<;>kernel_rfl)
theorem aIter (a:Value):argsOk "reversed.__iter__" ⟨[a],[]⟩:=by
 unfold argsOk;rw [signature?_of (id := "reversed.__iter__") (n:=['_','_','r','e','t','i','_','_']) (o:=['d','e','s','r','e','v','e','r']) (by kernel_rfl) own];kernel_rfl
theorem eIter:entryFor table "reversed.__iter__" = some Builtin.«dict_keyiterator.__iter__» :=
 entryFor_alias (id' := "dict_keyiterator.__iter__") (by kernel_rfl) (by first|rfl|decide +kernel|(unfold String.splitOn;simp +decide [String.splitOnAux])) (by decide +kernel) (by kernel_rfl)
theorem noRev:typeLookup (.type "tuple") "__reversed__" = pure none:=by rw [typeLookup_type,builtinLookup_eq_fast]<;>kernel_rfl
theorem subSelf:isSubtype (.type "reversed") (.type "reversed")=pure true:=by rw [isSubtype_type]<;>kernel_rfl
theorem init:Slot "reversed" "__init__" "object.__init__" :=
 .of (owner := "object") (n := "__init__") (by rw [typeLookup_type,builtinLookup_eq_fast]<;>kernel_rfl) (by decide +kernel) (by decide +kernel) (by decide +kernel) (by first|exact .inl (by decide +kernel)|exact .inr (by decide +kernel)) (by rw [isSubtype_type]<;>kernel_rfl)
theorem called:TypeCalled "reversed" "reversed.__new__" "object.__init__" := ⟨by decide +kernel,F.create_reversed,⟨_,_,F.mro_reversed⟩,F.made_reversed,by decide +kernel,subSelf,init⟩
noncomputable def obj (l:Addr) (i:Int):Obj:={cls:=.type "reversed",data:=.fields #[.ref l,rawInt i]}
noncomputable def Is (h:Heap) (a l:Addr) (i:Int):Prop:=∃ o,h.get? a=some o∧o.cls=.type "reversed" ∧ o.data=.fields #[.ref l,rawInt i]
section
variable {prog:Program}{w:World}{A:Around}{E:Value→Shared→Prop}{s:Shared}
theorem Is.typeIs {a l:Addr}{i:Int} (x:Is s.heap a l i):s.TypeIs (.ref a) "reversed" := let ⟨o,ho,hc,_⟩:=x;⟨o,ho,hc⟩
theorem Is.at{h h':Heap}{a l:Addr}{i:Int}(x:Is h a l i)(e:∀ o,h.get? a=some o→h'.get? a=some o):Is h' a l i:=let ⟨o,ho,r⟩:=x;⟨o,e _ ho,r⟩
theorem new{l:Addr}{items:Array Value}{Q:Value→Shared→Prop}(hl:IsTup s.heap l items)(hz:items.size≤sizeLine)
   (h:Q (.ref s.heap.objs.size) {s with heap:=s.heap.push (obj l ((items.size:Int) - 1)),toks:=s.toks+1+1}) :
   codeAny (model prog w) A (.call (.builtin "reversed.__new__") ⟨[.type "reversed",.ref l],[]⟩) (wants Q E) s:=by
 have hfit:(items.size:Int)<2 ^ 63:=by have:=line63;omega
 refine codeAny_of_tree ?_
 show wpAny _ A.in1 (do checkBuiltinCall "reversed.__new__" ⟨[.type "reversed",.ref l],[]⟩;again (.builtin "reversed.__new__" ⟨[.type "reversed",.ref l],[]⟩)) _ _ s
 refine wpAny_bind (wpAny_of_eq (F.newCall_reversed_1 _) (wpAny_pure ⟨plainId_quiet F.plain_reversed_new _,codeAny_builtin F.entry_reversed_new ?_⟩))
 rw [Around.under_plainId F.plain_reversed_new _]
 unfold Builtin.«reversed.__new__»
 refine wpAny_bind (wpAny_of_eq (newClass_reversed _) ?_)
 try dsimp only
 refine wpAny_bind (wpAny_of_eq (a:=()) (by first|rfl|kernel_rfl) (wpAny_bind (wpAny_of_eq (a:=()) (by first|rfl|kernel_rfl) ?_)))
 try dsimp only
 refine wpAny_bind (wpAny_specialOf hl.typeIs noRev ?_)
 try dsimp only
 refine wpAny_bind ?_
 show wpAny _ _ (isInstance (.ref l) (.type "dict") >>= fun b=>_) _ _ s
 refine wpAny_bind (wpAny_isInstance hl.typeIs F.sub_tuple_dict ?_)
 show wpAny _ _ (specialOf (.ref l) "__getitem__" >>= fun b=>_) _ _ s
 refine wpAny_bind (wpAny_specialOf hl.typeIs slot_tuple_getitem.lookup ?_)
 refine wpAny_of_eq (a:=true) (by rfl) ?_
 show wpAny _ _ (call (.builtin "len") [.ref l] >>= fun b=>_) _ _ s
 refine wpAny_bind (len_tuple hl hfit ?_)
 show wpAny _ _ (asInt? (.int _ _) >>= fun b=>_) _ _ _
 refine wpAny_bind (wpAny_pure ?_)
 show wpAny _ _ (newObj (.type "reversed") (.fields #[.ref l,rawInt ((items.size:Int) - 1)]) >>= fun b=>_) _ _ _
 exact wpAny_bind (wpAny_newObj_type (wpAny_pure h))
theorem call{l:Addr}{items:Array Value}{Q:Value→Shared→Prop}(hl:IsTup s.heap l items)(hz:items.size≤sizeLine)
   (h:Q (.ref s.heap.objs.size) {s with heap:=s.heap.push (obj l ((items.size:Int) - 1)),toks:=s.toks+1+1}):wpAny (model prog w) A (PySem.call (.type "reversed") [.ref l]) Q E s:=by
 refine callType_codes called (F.typeCall_reversed_1 _) F.entry_object_init (new (Q:=fun o s1=>o=.ref s.heap.objs.size∧s1={s with heap:=s.heap.push (obj l ((items.size:Int) - 1)),toks:=s.toks+1+1}) hl hz ⟨rfl,rfl⟩) ?_
 rintro _ _ ⟨rfl,rfl⟩
 have hT:Shared.TypeIs {s with heap:=s.heap.push (obj l ((items.size:Int) - 1)),toks:=s.toks+1+1} (.ref s.heap.objs.size) "reversed" := ⟨_,Ωj _ rfl,rfl⟩
 refine ⟨hT,F.args_object_init_2 _ _,?_⟩
 exact object_init_meets init.lookup F.made_reversed (by decide) prog w _ _ _ ⟨hT,rfl,h⟩
theorem next_item{it l:Addr}{i:Nat}{items:Array Value}{x:Value}{Q:Option Value→Shared→Prop}(hit:Is s.heap it l (i:Int))(hl:IsTup s.heap l items)(hz:items.size≤sizeLine)(hx:items[i]? = some x)
   (hQ:∀ h' t',Is h' it l ((i:Int) - 1)→Heap.SameBut it s.heap h'→Q (some x) {s with heap:=h',toks:=t'}):wpAny (model prog w) A (pyNext (.ref it)) Q E s:=by
 obtain ⟨o,ho,hc,hd⟩:=id hit
 have hi:i<items.size:=by
   have:=(Array.getElem?_eq_some_iff.mp hx).1
   exact this
 have l63:=line63
 unfold pyNext
 refine wpAny_bind (wpAny_attempt (wpAny_callSpecial?_slot (name:=Ω "__next__") hit.typeIs next (wpAny_call_entry next hit.typeIs eNext ?_ (aNext _))))
 unfold Builtin.«reversed.__next__»
 refine wpAny_bind (wpAny_of_eq (a:=(Value.ref it,[])) rfl ?_)
 try dsimp only
 refine wpAny_bind (wpAny_field ho hd (x:=.ref l) rfl (wpAny_bind (wpAny_field ho hd (x:=rawInt (i:Int)) rfl ?_)))
 show wpAny _ _ (if (i:Int)<0 then _ else _) _ _ s
 rw [if_neg (by omega)]
 show wpAny _ _ (specialOf (.ref l) "__getitem__" >>= fun b=>_) _ _ s
 refine wpAny_bind (wpAny_specialOf hl.typeIs slot_tuple_getitem.lookup ?_)
 show wpAny _ _ (mkInt (i:Int) >>= fun b=>_) _ _ s
 refine wpAny_bind (wpAny_mkInt ?_)
 refine wpAny_bind (wpAny_attempt (getItem_tuple (s:={s with toks:=s.toks+1}) (j:=i) (x:=x) hl (by omega) (by omega) (seqIndex_of (by omega) (by omega)) hx ?_))
 show wpAny _ _ (field (.ref it) 1 >>= fun b=>_) _ _ _
 refine wpAny_bind (wpAny_field ho hd (x:=rawInt (i:Int)) rfl ?_)
 show wpAny _ _ (setField (.ref it) 1 (rawInt ((i:Int) - 1)) >>= fun b=>_) _ _ _
 refine wpAny_bind (wpAny_setField ho hd (by simp) ?_)
 refine wpAny_pure ⟨x,rfl,wpAny_pure (hQ _ _ ?_ (Heap.SameBut.update ..))⟩
 exact ⟨_,Heap.get?_update_self _ ho (Obj.isFreed_of_fields (Obj.data_mapFields hd _)),(Obj.cls_mapFields ..).trans hc,by rw [Obj.data_mapFields hd]<;>simp⟩
theorem next_end{it l:Addr}{Q:Option Value→Shared→Prop}(hh:A.handled=none)(hit:Is s.heap it l (-1))(hQ:∀ h',Heap.ExtBut it s.heap h'→Q none {s with heap:=h'}):wpAny (model prog w) A (pyNext (.ref it)) Q E s:=by
 obtain ⟨o,ho,hc,hd⟩:=id hit
 unfold pyNext
 refine wpAny_bind (wpAny_attempt (wpAny_callSpecial?_slot (name:=Ω "__next__") hit.typeIs next (wpAny_call_entry next hit.typeIs eNext ?_ (aNext _))))
 unfold Builtin.«reversed.__next__»
 refine wpAny_bind (wpAny_of_eq (a:=(Value.ref it,[])) rfl ?_)
 try dsimp only
 refine wpAny_bind (wpAny_field ho hd (x:=.ref l) rfl (wpAny_bind (wpAny_field ho hd (x:=rawInt (-1)) rfl ?_)))
 show wpAny _ _ (if (-1:Int)<0 then _ else _) _ _ s
 rw [if_pos (by decide)]
 refine wpAny_bind (wpAny_rule ?_)
 show wpAny _ _ ((setField (.ref it) 1 (rawInt (-1)) >>= fun _=>setField (.ref it) 0 .none) >>= fun b=>_) _ _ _
 have e1:=Heap.get?_update_self (Obj.mapFields (·.setIfInBounds 1 (rawInt (-1)))) ho (Obj.isFreed_of_fields (Obj.data_mapFields hd _))
 refine wpAny_bind (wpAny_bind (wpAny_setField ho hd (by simp) (wpAny_setField e1 (Obj.data_mapFields hd _) (by simp) ?_)))
 refine wpAny_bind ?_
 show wpAny _ _ (newExc (.type "StopIteration") [] >>= fun b=>_) _ _ _
 refine wpAny_bind ?_
 simp only [newExc,newTuple]
 refine wpAny_bind (wpAny_newObj_type ?_ (by size_fits))
 refine wpAny_bind (m:=firstArgMember _ _) (wpAny_of_eq (a:=Value.none) (by first|rfl|(simp only [firstArgMember]<;>rfl)) (wpAny_newObj_type ?_ (by size_fits)))
 simp only [raiseNew]
 refine wpAny_bind (wpAny_handled ?_)
 rw [show A.in1.handled=none from hh]
 refine wpAny_bind (wpAny_pure (wpAny_throw ?_))
 refine wpAny_bind (wpAny_isInstance (T := "StopIteration") (b:=true) ⟨_,Ωj _ rfl,rfl⟩ isSubtype_stop (wpAny_pure (hQ _ ?_)))
 exact ((((Heap.ExtBut.refl _ _).trans (Heap.SameBut.update ..).extBut).trans (Heap.SameBut.update ..).extBut).push _).push _
theorem iter_self{it l:Addr}{i:Int}{Q:Value→Shared→Prop}(hit:Is s.heap it l i)(h:Q (.ref it) s):wpAny (model prog w) A (pyIter (.ref it)) Q E s:=by
 refine wpAny_pyIter_slot hit.typeIs iter (wpAny_call_entry iter hit.typeIs eIter ?_ (aIter _))
 exact wpAny_pure ⟨_,rfl, "reversed",_,hit.typeIs,next.lookup,h⟩
end
end Rv
noncomputable def Itv(K:PySem.W.Frag)(a:Addr)(n:Nat):It :=
 ⟨fun i H=>∃ xs x,SqT K H a xs∧xs.length=n∧xs.reverse[i]? = some x,fun i H x H'=>H'=H∧∀ xs,SqT K H a xs→xs.reverse[i]? = some x,fun i H=>∃ xs,SqT K H a xs∧xs.length=n∧n=i⟩
theorem turn_rev{P:Program}{w:World}{K:PySem.W.Frag}{tg:Expr}(a it:Addr)(n:Nat):Turn P w K tg (Itv K a n) [it] it (fun i h=>i≤n∧Rv.Is h it a ((n:Int) - 1 - i)) where
 mem:=by simp
 obj:=fun i h st b hb=>by
   have e:b=it:=by simpa using hb
   subst e
   obtain ⟨_,o,e,c,d⟩:=st
   exact ⟨o,e,fun v z=>by rw [d] at z;cases z⟩
 keep:=fun i h h' st k=>⟨st.1,st.2.at fun o e=>k it (by simp) o e⟩
 item:=by
   intro X hP hw hK hc i pins s σ H E I hf st hg
   subst hP hw hK
   obtain ⟨hin,st⟩:=st
   obtain ⟨xs,x,hq,hxn,hx⟩:=hg
   obtain ⟨its,rv,p,hz⟩:=I.tuple hq
   have hl:=rv.length
   have hi:i<xs.length:=by
     have:=(Ωb.mp hx).1
     simpa using this
   have hx':xs[n - 1 - i]? = some x:=by
     rw [List.getElem?_reverse hi] at hx
     rw [← hxn]
     exact hx
   obtain ⟨u,hu,ru⟩:=rv.get hx'
   obtain ⟨f0,f1,f2,f3,f4,f5⟩:=hf it (by simp)
   have e1:(n:Int) - 1 - (i:Nat)=((n - 1 - i:Nat):Int):=by omega
   rw [e1] at st
   refine Rv.next_item st p (by simp;omega) (x:=u) (by simpa using hu) fun h' t' st' sb=>?_
   have I1:Inv X pins σ H {s with heap:=h',toks:=t'}:=I.turned (t':=t') (fun b o hb e=>(sb.2 b hb).trans e) f0 f1 f3 f4 f5
   obtain ⟨o,e,c,d⟩:=id st'
   have e2:((n - 1 - i:Nat):Int) - 1=(n:Int) - 1 - ((i+1:Nat):Int):=by omega
   refine ⟨u,rfl,go_of (s:={s with heap:=h',toks:=t'}) e c d (by decide) ⟨x,H,I1,ru,⟨rfl,fun ys hy=>by rw [I.tuple_inj hy hq];exact hx⟩,⟨by omega,by rw [← e2];exact st'⟩,fun b hb=>(hf b hb).1⟩⟩
 done:=by
   intro X hP hw hK hc i pins s σ H E I hf st hg
   subst hP hw hK
   obtain ⟨xs,hq,hxn,hx⟩:=hg
   obtain ⟨f0,f1,f2,f3,f4,f5⟩:=hf it (by simp)
   have st1:=st.2
   rw [show (n:Int) - 1 - (i:Nat)=-1 by omega] at st1
   exact Rv.next_end (I.ok.hd hc) st1 fun h' eb=>⟨rfl,I.turned (t':=s.toks) (fun b o hb e=>eb b o hb e) f0 f1 f3 f4 f5⟩
 self:=fun _ _ _ _ _ st h=>Rv.iter_self st.2 h
end L2
end
section
set_option tactic.hygienic false
namespace L2
open PySem PySem.Spec PyProof.Rows
theorem strs_vals:∀ {vs:List Value}{ss:List Str},StrsAre vs ss→Vals (ss.map V.str) vs
 | _,_,.nil=>.nil
 | _,_,.cons y t h=>.cons ⟨t,rfl⟩ (strs_vals h)
section
variable {prog:Program}{w:World}{A:Around}{E:Value→Shared→Prop}{s:Shared}
theorem sorted_col{r:Addr}{ss:List Str}{Q:Value→Shared→Prop}
   (hcol:∀ R:List Value→Shared→Prop,(∀ (h':Heap) (tk:Nat) (vs:List Value),s.heap.objs.size≤h'.objs.size→(∀ b o,s.heap.get? b=some o→h'.get? b=some o)→StrsAre vs ss→R vs {s with heap:=h',toks:=tk})→wpAny (model prog w) A.in1 (collect (.ref r)) R E s)
   (h64:ss.length<64)
   (h:∀ (D:Addr) (h':Heap) (tk:Nat) (out:List Value) (ss':List Str) (n:Nat),(∀ b o,s.heap.get? b=some o→h'.get? b=some o)→s.heap.objs.size≤D→h'.get? D=some {cls:=.type "list",data:=.seq out.toArray n}→StrsAre out ss'→ss'.Perm ss→sortedS ss'=true →
     Q (.ref D) {s with heap:=h',toks:=tk}):wpAny (model prog w) A (call (.builtin "sorted") [.ref r]) Q E s:=by
 refine Calls.call_function_entry kind_sorted plain_sorted entry_sorted (args_sorted1 _) ?_
 unfold Builtin.«sorted»
 refine wpAny_bind (m:=checkCount "sorted" 1 1 _) (wpAny_pure (wpAny_bind (hcol _ fun h' tk vs hsz hk hS=>?_)))
 have hlen:vs.length=ss.length:=by
   have:=(strs_vals hS).length
   simpa using this.symm
 have hz:vs.length≤sizeLine:=by rw [sizeLine_eq];omega
 refine wpAny_bind (wpAny_newList ?_ hz)
 have hoL:(h'.push (seqObj "list" vs.toArray 0)).get? h'.objs.size=some (seqObj "list" vs.toArray 0):=Ωj _ rfl
 refine wpAny_bind (wpAny_holding (wpAny_call_entry slot_list_sort ⟨_,hoL,rfl⟩ entry_list_sort (list_sort_treeK strKind_oneLt hoL hS.keysOf (fun v₁ v₂ rest e=>keyKind_strs (by rw [← e];exact hS)) (by omega) fun st' a1 a2=>⟨_,rfl,?_⟩) (args_list_sort _)))
 refine wpAny_pure ⟨_,rfl,?_⟩
 obtain ⟨ss',h1,h2,h3⟩:=sorted_out_str hS a1 a2
 obtain ⟨e,he⟩:=sortedHeap_at (out:=(arrOf st').map (·.2)) hoL
 have e2:((arrOf st').map (·.2))=((arrOf st').map (·.2)).toList.toArray:=Array.toArray_toList.symm
 refine h h'.objs.size _ tk ((arrOf st').map (·.2)).toList ss' e (fun b o q=>?_) hsz (by rw [← e2];exact he) h1 h2 h3
 have q':=hk b o q
 have hlt:=Heap.lt_size q'
 rw [sortedHeap_old (Ωu hlt) (by rw [size_push'];exact Nat.lt_succ_of_lt hlt)]
 exact Ωd _ q'
theorem collect_src{R:List Value→Shared→Prop}{T:String}{r d:Addr}{n:Nat}{P:Nat→Value→Prop}{OK:Heap→Prop}(K:PySem.W.KdlSrc prog w T r d n P OK)(hh:A.handled=none)(hok:OK s.heap)(hn:n≤sizeLine)
   (h:∀ (h':Heap) (tk:Nat) (acc:Array Value),s.heap.objs.size≤h'.objs.size→(∀ b o,s.heap.get? b=some o→h'.get? b=some o)→ItemsOf P acc n→R acc.toList {s with heap:=h',toks:=tk}) :
   wpAny (model prog w) A (collect (.ref r)) R E s:=by
 have lt:=K.there _ hok
 unfold collect
 refine wpAny_bind (wpAny_runValue (codeAny_builtin entry_proto_collect' ?_))
 rw [Around.under_plainId PySem.F.plain_proto_collect _]
 show wpAny _ A.in1 (newList [] >>= fun x=>again (.builtin "list.__iadd__" ⟨[x,.ref r],[]⟩)) _ _ s
 refine wpAny_bind (wpAny_newObj_type (wpAny_pure ⟨plainId_quiet PySem.F.plain_list_iadd _,codeAny_builtin entry_list_iadd' ?_⟩))
 rw [Around.under_plainId PySem.F.plain_list_iadd _]
 have e0:(s.heap.push {cls:=.type "list",data:=.seq ([]:List Value).toArray}).get? s.heap.objs.size=some {cls:=.type "list",data:=.seq #[]}:=Ωj _ rfl
 show wpAny _ A.in1 (Builtin.List.listExtendWith (.ref s.heap.objs.size) (.ref r) (.ref s.heap.objs.size)) _ _ _
 have key:=PySem.W.kdl_extend (A:=A) (s:={s with heap:=s.heap.push {cls:=.type "list",data:=.seq ([]:List Value).toArray}})
   (R:=fun (q:Result) (s':Shared)=>∃ (h':Heap) (tk:Nat) (acc:Array Value) (c:Nat),q=.ok (.ret (.ref s.heap.objs.size))∧s'={s with heap:=h',toks:=tk}∧(∀ b o,s.heap.get? b=some o→h'.get? b=some o)∧h'.get? s.heap.objs.size=some {cls:=.type "list",dict:=none,data:=.seq acc c,slots:=#[]}∧ItemsOf P acc n)
   K hh (K.keep _ _ hok fun b _ o e=>Ωd _ e) s.heap.objs.size (Nat.ne_of_gt lt.1) (Nat.ne_of_gt lt.2) (.ref s.heap.objs.size) 0 e0 (fun h' tk acc c hk hS hacc=>⟨h',tk,acc,c,rfl,rfl,fun b o e=>hk b o (Ωu (Heap.lt_size e)) (Ωd _ e),hS,hacc⟩) hn
 refine wpAny_mono key (fun fin s' x=>?_) fun e s' x=>?_
 · cases fin with
   | done f =>
     obtain ⟨h',tk,acc,c,e,rfl,hk,hS,hacc⟩:=x
     cases e
     exact wpAny_bind (wpAny_load hS (wpAny_pure (h h' tk acc (Nat.le_of_lt (Heap.lt_size hS)) hk hacc)))
   | again c₁ =>
     refine ⟨x.1,codeAny_mono x.2 fun q s₂ y=>?_⟩
     obtain ⟨h',tk,acc,c,rfl,rfl,hk,hS,hacc⟩:=y
     exact wpAny_bind (wpAny_load hS (wpAny_pure (h h' tk acc (Nat.le_of_lt (Heap.lt_size hS)) hk hacc)))
 · obtain ⟨_,_,_,_,z,_⟩:=x
   cases z
end
theorem paired_get{α β:Type}{R:α→β→Prop}:∀ {xs:List α}{ys:List β},Paired R xs ys→∀ {i:Nat}{x:α},xs[i]? = some x→∃ y,ys[i]? = some y∧R x y
 | _,_,.nil,i,x,e=>by simp at e
 | _,_,.cons h r,0,x,e=>by cases e;exact ⟨_,rfl,h⟩
 | _,_,.cons h r,i+1,x,e=>by
   obtain ⟨y,h1,h2⟩:=paired_get r (i:=i) (x:=x) (by simpa using e)
   exact ⟨y,by simpa using h1,h2⟩
theorem strs_items{P:Program}{w:World}:∀ (ss:List Str) (vs:List Value),vs.length=ss.length→(∀ (j:Nat) (v:Value),vs[j]? = some v→∃ x,ss[j]? = some x∧(mixKind P w).is (Sum.inr x) v=true)→StrsAre vs ss
 | [],[],_,_=>.nil
 | s::ss,v::vs,hl,h=>by
   obtain ⟨x,e,hx⟩:=h 0 v rfl
   cases e
   obtain ⟨t,rfl⟩:=Value.isStrOf_shape (x:=s) (v:=v) hx
   exact .cons s t (strs_items ss vs (by simpa using hl) fun j u hu=>h (j+1) u (by simpa using hu))
section
variable {X:Cx}
noncomputable def rSortedD(P:Program)(w:World)(K:PySem.W.Frag):List V→Hp→VK→Prop:=fun xs H Q=>∃ a kvs ss,xs=[.ref a]∧Dk P w K H a kvs∧kvs.map (·.1)=ss.map Sum.inr∧ss.length<64∧∀ p ss',H p=none→ss'.Perm ss→sortedS ss'=true→Q (.ref p) (upd H p (.lst (ss'.map V.str)))
theorem call_sortedD (hc:X.A.handled=none):CallR X (.builtin "sorted") (rSortedD X.prog X.w X.K):=by
 intro pins s σ H xs us Q I r h
 obtain ⟨a,kvs,ss,rfl,hd,hks,h64,q⟩:=h
 obtain ⟨u,rfl,ru⟩:=vals1 r
 cases ru
 obtain ⟨z,hm,vs,rel,dd⟩:=I.dk hd
 obtain ⟨ep,hat⟩:=dd.dictAt
 have hl:vs.length=kvs.length:=(Paired.length rel).symm
 have hl2:kvs.length=ss.length:=by
   have:=congrArg List.length hks
   simpa using this
 have hkey:∀ (j:Nat) k x,vs[j]? = some (k,x)→∃ y,ss[j]? = some y∧k=Sum.inr y:=fun j k x e=>by
   have hj:j<vs.length:=(Ωb.mp e).1
   have h1:kvs[j]? = some kvs[j]:=Ωg (by omega)
   obtain ⟨u,hu,hu2⟩:=paired_get rel h1
   rw [e] at hu
   cases hu
   have h3:(kvs.map (·.1))[j]? = some kvs[j].1:=by rw [Ωn,h1];rfl
   rw [hks,Ωn] at h3
   obtain ⟨y,hy,e3⟩:=Ωo.mp h3
   exact ⟨y,hy,hu2.1.symm.trans e3.symm⟩
 refine sorted_col (ss:=ss) (fun R hR=>collect_src (PySem.W.kdl_dict (knd:=mixKind X.prog X.w) (kvs:=vs) (ep:=ep) hm) hc hat (by omega) fun h' tk acc hsz hk hacc=>?_) h64 fun D h' tk out ss' n hk hD ho hS hp hs=>?_
 · refine hR h' tk acc.toList hsz hk (strs_items (P:=X.prog) (w:=X.w) ss acc.toList (by rw [Array.length_toList,hacc.1];omega) fun j v hv=>?_)
   obtain ⟨k,x,e,hk2⟩:=hacc.2 j v (by rw [← Array.getElem?_toList];exact hv)
   obtain ⟨y,hy,rfl⟩:=hkey j k x e
   exact ⟨y,hy,hk2⟩
 · have hlen:ss'.length≤sizeLine:=by rw [hp.length_eq];omega
   refine ⟨.ref D,_,I.laid (a:=D) (o:=.lst (ss'.map V.str)) (t':=tk) hk hD ⟨by simpa using hlen,out,n,strs_vals hS,ho⟩,rfl,q D ss' (I.hok.fresh hD) hp hs⟩
end
end L2
end
section
namespace L2
open PySem PySem.Spec PyProof.Rows
theorem vals_ints_are:∀ {ns:List Int}{vs:List Value},Vals (ns.map V.int) vs→IntsAre vs ns
 | [],vs,h=>by cases h;exact .nil
 | s::ss,vs,h=>by
   rw [Ωp] at h
   cases h with
   | cons h1 h2 =>
     obtain ⟨t,rfl⟩:=h1
     exact .cons s t (vals_ints_are h2)
noncomputable def repS(z:Str)(n:Nat):Str:=⟨(List.replicate n z.cps).foldl (·++·) #[]⟩
theorem fold_codes(a:Array Nat):∀ (n:Nat) (i:Array Nat),((List.replicate n a).foldl (·++·) i).size=i.size+n * a.size
 | 0,i=>by simp
 | n+1,i=>by
   rw [List.replicate_succ,List.foldl_cons,fold_codes a n (i++a),Array.size_append,Nat.succ_mul]
   omega
theorem repS_len(z:Str)(n:Nat):(repS z n).length=n * z.length:=by
 show ((List.replicate n z.cps).foldl (·++·) #[]).size=_
 rw [fold_codes]
 simp
 rfl
section
variable {X:Cx}
theorem call_sumL (hc:X.A.handled=none):CallR X (.builtin "sum") (fun xs H Q=>∃ (a:Addr) (ns:List Int),xs=[.ref a]∧SqL X.K H a (ns.map V.int)∧Q (.int ns.sum) H):=by
 intro pins s σ H xs us Q I r h
 obtain ⟨a,ns,rfl,hq,q⟩:=h
 obtain ⟨u,rfl,ru⟩:=vals1 r
 cases ru
 obtain ⟨its,rv,pl,hz⟩:=I.list hq
 have hi:=vals_ints_are rv
 obtain ⟨ys,e⟩:=hi.allInts.items
 refine sum_intListG (xs:=ys) hc (by rw [← e];exact pl.isList) fun h' tk t' hk=>?_
 refine ⟨.int ns.sum,H,I.kept (t':=tk) hk,⟨t',?_⟩,q⟩
 have e2:=hi.numsOf
 have e3:numsOf (intItems ys).toList=ns:=by rw [← e];exact e2
 rw [nums_intItems] at e3
 rw [preSum_eq,List.take_of_length_le (by simp),e3]
theorem op_mulS:OpR X (binaryOp .Mult) (fun x y H Q=>∃ z n,x=.str z∧y=.int n∧0≤n∧n≤1000∧z.length≤1000∧Q (.str (repS z n.toNat)) H):=by
 intro pins s σ H x y v u Q I rx ry h
 obtain ⟨z,n,rfl,rfl,h0,h1,h2,q⟩:=h
 obtain ⟨t,rfl⟩:=rx
 obtain ⟨t2,rfl⟩:=ry
 have hl:z.length * n.toNat≤1000000:=Nat.mul_le_mul h2 (by omega:n.toNat≤1000)
 have hs:(1000000:Nat)≤sizeLine:=by decide
 refine PySem.P.mul_str (by rw [decide_eq_false (by omega:¬ n < -(2 ^ 63:Int)),decide_eq_false (by omega:¬ n ≥ 2 ^ 63)]<;>rfl) (fun _ _=>?_) (fun _ _=>?_) ?_
 · have h3:1≤n:=by omega
   have h4:(9223372036854775807:Int) / n ≥ 1000:=by
     have:1000≤9223372036854775807 / n:=(Int.le_ediv_iff_mul_le (by omega)).mpr (by omega)
     exact this
   show ¬ ((z.length:Int) > (2 ^ 63 - 1) / n)
   rw [show (2 ^ 63 - 1:Int)=9223372036854775807 by decide]
   omega
 · unfold Builtin.Str.tooLong
   exact decide_eq_false (by omega)
 · by_cases hn:n<1
   · rw [if_pos hn]
     refine ⟨by decide,.str _,H,I.tok _,⟨_,rfl⟩,?_⟩
     rw [show n.toNat=0 by omega] at q
     exact q
   · rw [if_neg hn]
     by_cases h5:(n==1 || z.length==0)=true
     · rw [if_pos h5]
       refine ⟨.str _,H,I,⟨_,rfl⟩,?_⟩
       have e:repS z n.toNat=z:=by
         rw [Bool.or_eq_true] at h5
         rcases h5 with h5|h5
         · have e1:n.toNat=1:=by have:=eq_of_beq h5;omega
           rw [e1]
           unfold repS
           simp
         · have e1:z.length=0:=eq_of_beq h5
           have e2:(repS z n.toNat).length=0:=by rw [repS_len,e1];simp
           have f:∀ y:Str,y.length=0→y=⟨#[]⟩:=fun y hy=>by
             cases y with|mk c=>rw [show c=#[] from Array.eq_empty_of_size_eq_zero hy]
           exact (f _ e2).trans (f z e1).symm
       rw [e] at q
       exact q
     · rw [if_neg h5]
       refine ⟨?_,.str _,H,I.tok _,⟨_,rfl⟩,q⟩
       show (repS z n.toNat).length≤sizeLine
       rw [repS_len,Nat.mul_comm]
       omega
end
end L2
end
section
namespace L2
open PySem PySem.Spec PyProof.Rows
section
variable {X:Cx}
theorem mul_fits_big{i j:Int}(hi:i.natAbs<2 ^ 2000)(hj:j.natAbs<2 ^ 2000):IntMulOk i j:=by
 have bits:∀ k:Int,k.natAbs<2 ^ 2000→Builtin.Int.intBits k≤2000:=fun k hk=>by
   unfold Builtin.Int.intBits
   split
   · omega
   · rename_i h
     have h0:k.natAbs≠0:=by simpa using h
     have:=(Nat.log2_lt h0).mpr hk
     omega
 unfold IntMulOk
 have h1:=bits i hi
 have h2:=bits j hj
 have h3:Builtin.Int.intTooBig (Builtin.Int.intBits i+Builtin.Int.intBits j:Nat)=false:=by
   unfold Builtin.Int.intTooBig
   rw [decide_eq_false_iff_not]
   have:(bitsLine:Nat)=134217728:=by decide
   rw [this]
   omega
 intro q
 simp only [Ωa] at q
 have q2:=q.2
 rw [show ((Builtin.Int.intBits i:Int)+(Builtin.Int.intBits j:Int))=((Builtin.Int.intBits i+Builtin.Int.intBits j:Nat):Int) by simp] at q2
 rw [h3] at q2
 cases q2
theorem op_mulBig:OpR X (binaryOp .Mult) (rI (fun i j=>i.natAbs<2 ^ 2000∧j.natAbs<2 ^ 2000) fun i j=>.int (i * j)):=opI fun _ _ _ _ _ _ _ hc q=>mul_int q (mul_fits_big hc.1 hc.2)
noncomputable def rCat0(K:PySem.W.Frag):R2:=fun x y H Q=>∃ a b ys,x=.ref a∧y=.ref b∧SqT K H a []∧SqT K H b ys∧Q (.ref b) H
theorem op_cat0:OpR X (binaryOp .Add) (rCat0 X.K):=by
 intro pins s σ H x y v u Q I rx ry h
 obtain ⟨a,b,ys,rfl,rfl,ha,hb,q⟩:=h
 cases rx
 cases ry
 obtain ⟨its,r1,ht,_⟩:=I.tuple ha
 obtain ⟨its2,r2,hb,_⟩:=I.tuple hb
 cases r1
 obtain ⟨⟨cls,dd,data,sl⟩,ho,hc,n,hd⟩:=id ht
 obtain ⟨⟨cls2,dd2,data2,sl2⟩,ho2,hc2,n2,hd2⟩:=id hb
 simp only at hc hd hc2 hd2
 subst hc hd hc2 hd2
 exact concat_meets ⟨_,ho,rfl⟩ ⟨_,ho2,rfl⟩ noFill_tuple_add seq_tuple_add PySem.F.slot_tuple_add PySem.F.entry_tuple_add (PySem.F.args_tuple_add_2 _ _)
     (tuple_addW0 a b _ _ n n2 dd dd2 sl sl2 (by simp)) ⟨ho,ho2,⟨.ref b,H,I,rfl,q⟩⟩
end
end L2
namespace HT
open PySem PyProof.Rows
section
variable {prog:Program}{w:World}{A:Around}{E:Value→Shared→Prop}{s:Shared}
theorem getItem_tuple_whole{t sl:Addr}{items:Array Value}{vl vu:Value}{lo hi:Option Int}{Q:Value→Shared→Prop}(ht:IsTup s.heap t items)(hs:s.heap.IsSliceOf sl vl vu .none)(pl:IsPart vl lo)(pu:IsPart vu hi)
   (hw:sIx items.size 0 lo=0∧sIx items.size items.size hi=items.size) (h:Q (.ref t) s):wpAny (model prog w) A (getItem (.ref t) (.ref sl)) Q E s:=by
 obtain ⟨os,hos,hcs,hds⟩:=id hs
 have hTs:s.TypeIs (.ref sl) "slice" := ⟨os,hos,hcs⟩
 unfold getItem
 try with_reducible refine wpAny_holding ?_
 first|refine wpAny_bind (wpAny_pure ?_)|skip
 refine wpAny_bind (wpAny_sequenceKey ht.typeIs (by decide) ?_)
 refine wpAny_bind (wpAny_callSpecial?_slot (name:=Ω "__getitem__") ht.typeIs PyProof.Rows.slot_tuple_getitem
   (wpAny_call_entry PyProof.Rows.slot_tuple_getitem ht.typeIs entry_tuple_getitem ?_ (args_tuple_getitem _ _)))
 show wpAny _ _ (Builtin.Tuple.tupleItemsOf (.ref t) >>= _) _ _ s
 refine wpAny_bind (tupleItemsOf_ ht ?_)
 refine wpAny_bind (wpAny_typeOf hTs ?_)
 rw [if_pos (by decide)]
 refine wpAny_bind (sliceApplied_gen hs pl pu ?_)
 have hyes:(((sIx items.size 0 lo:Nat):Int)==0&&(1:Int)==1&&(sIx items.size items.size hi - sIx items.size 0 lo)==items.size)=true:=by
   rw [hw.1,hw.2];simp
 show wpAny _ _ (if (((sIx items.size 0 lo:Nat):Int)==0&&(1:Int)==1&&(sIx items.size items.size hi - sIx items.size 0 lo)==items.size)=true then _ else _) _ _ s
 rw [if_pos hyes]
 unfold Builtin.Tuple.tupleIsExact
 refine wpAny_bind (wpAny_bind (wpAny_typeOf ht.typeIs (wpAny_pure ?_)))
 rw [if_pos (by decide)]
 exact wpAny_bind (wpAny_rule (wpAny_pure ⟨_,rfl,wpAny_pure h⟩))
end
end HT
namespace L2
open PySem PySem.Spec PyProof.Rows
section
variable {X:Cx}
noncomputable def rSlW(K:PySem.W.Frag):V→Option Int→Option Int→Hp→VK→Prop:=fun x lo hi H Q=>∃ a xs,x=.ref a∧SqT K H a xs ∧
 (HT.sIx xs.length 0 lo=0∧HT.sIx xs.length xs.length hi=xs.length)∧Q (.ref a) H
theorem sl_whole:SlR X (rSlW X.K):=by
 intro pins s σ H x v vl vu lo hi sl Q I rx hs pl pu h
 obtain ⟨a,xs,rfl,hx,hw,q⟩:=h
 cases rx
 obtain ⟨its,r,ht,hz⟩:=I.tuple hx
 have hlen:its.toArray.size=xs.length:=by rw [Ωf];exact r.length.symm
 refine ⟨"tuple",_,PyProof.Rows.slot_tuple_getitem.lookup,ht.typeIs,?_⟩
 exact HT.getItem_tuple_whole ht hs pl pu (by rw [hlen];exact hw) ⟨.ref a,H,I,rfl,q⟩
end
end L2
end
section
set_option tactic.hygienic false
namespace L2
namespace Mx
open PySem PyProof.Rows
theorem nm:(toString "max" ++ toString ".loop" : String) = "max.loop" := by decide
section
variable {prog:Program}{w:World}{A:Around}{Z:Result→Shared→Prop}{J:Addr}{fo wo:List Addr}{m:Nat}{P:Nat→Value→Prop}{S:Nat→Heap→Prop}
theorem loop(W:Walks prog w A.in1 J fo wo m P S)(bt:Nat→Nat→Bool)(hb:CmpOf prog w A.in1 .Gt P bt)(C:Addr)(hC:C ∉ fo)(kw:List (Str×Value)):∀ (d j:Nat) (s:Shared) (u:Value) (c:Nat),
   m - (j+1)=d→j+1≤m→S (j+1) s.heap→P (argBest bt j) u→s.heap.get? C=some {cls:=.type "list",dict:=none,data:=.seq #[u,u] c,slots:=#[]} →
   (∀ v hp tk,P (argBest bt (m - 1)) v→(∀ b o,b ∉ wo→b≠C→s.heap.get? b=some o→hp.get? b=some o)→Z (.ok (.ret v)) {s with heap:=hp,toks:=tk}) →
   codeAny (model prog w) A (.builtin "max.loop" ⟨[.ref J,.none,.ref C],kw⟩) Z s:=by
 have hCw:C ∉ wo:=fun z=>hC (W.sub _ z)
 intro d
 induction d with
 | zero =>
   intro j s u c e1 e2 st pu hc hz
   have em:j+1=m:=by omega
   refine codeAny_builtin PySem.F.entry_max_loop ?_
   rw [Around.under_plainId PySem.F.plain_max_loop _]
   show wpAny (model prog w) A.in1 (seqItems? (Value.ref C) >>= _) _ _ s
   refine wpAny_bind (wpAny_seqItems hc rfl ?_)
   show wpAny (model prog w) A.in1 (tryCatch (pyNext (Value.ref J)) _ >>= _) _ _ s
   refine wpAny_bind (wpAny_tryCatch (W.done s _ _ (em ▸ st) fun hp tk kp=>?_))
   have hc1:=kp C _ hCw hc
   show wpAny (model prog w) A.in1 (updateSeq C (fun _=>#[]) >>= _) _ _ _
   exact wpAny_bind (wpAny_updateSeq hc1 rfl (wpAny_bind (wpAny_letGo (wpAny_pure (hz u _ tk (by rw [← em];exact pu) fun b o b1 b2 e=>(Heap.get?_update_other _ _ (Ne.symm b2)).trans (kp b o b1 e))))))
 | succ d ih =>
   intro j s u c e1 e2 st pu hc hz
   have lt:j+1<m:=by omega
   refine codeAny_builtin PySem.F.entry_max_loop ?_
   rw [Around.under_plainId PySem.F.plain_max_loop _]
   show wpAny (model prog w) A.in1 (seqItems? (Value.ref C) >>= _) _ _ s
   refine wpAny_bind (wpAny_seqItems hc rfl ?_)
   show wpAny (model prog w) A.in1 (tryCatch (pyNext (Value.ref J)) _ >>= _) _ _ s
   refine wpAny_bind (wpAny_tryCatch (W.item (j+1) s _ _ lt st fun v hp tk pv st1 kp=>?_))
   have hc1:=kp C _ hCw hc
   show wpAny (model prog w) A.in1 (tryCatch (holding [v,v] (richCompare CmpOp.Gt v u >>= _)) _ >>= _) _ _ _
   refine wpAny_bind (wpAny_tryCatch (wpAny_holding (wpAny_bind (hb (j+1) (argBest bt j) v u _ _ _ pv pu (wpAny_bind (wpAny_holding (wpAny_truthy_bool (wpAny_bind (wpAny_letGo (wpAny_pure ?_))))))))))
   cases q:bt (j+1) (argBest bt j) with
   | true =>
     simp only [if_true]
     refine wpAny_bind (wpAny_updateSeq hc1 rfl (wpAny_bind (wpAny_letGo ?_)))
     rw [nm]
     refine wpAny_pure ⟨plainId_quiet PySem.F.plain_max_loop _,ih (j+1) _ v _ (by omega) lt (W.frame _ _ _ st1 fun b b1 o e=>?_) (by simp only [argBest,q,if_true];exact pv) (Heap.get?_update_self _ hc1 rfl) fun v2 hp2 tk2 pv2 kp2=>?_⟩
     · exact (Heap.get?_update_other _ _ (fun z:C=b=>hC (by rw [z];exact b1))).trans e
     · exact hz v2 hp2 tk2 pv2 fun b o b1 b2 e=>kp2 b o b1 b2 ((Heap.get?_update_other _ _ (Ne.symm b2)).trans (kp b o b1 e))
   | false =>
     simp only [ΩG,if_false]
     refine wpAny_bind (wpAny_letGo ?_)
     rw [nm]
     exact wpAny_pure ⟨plainId_quiet PySem.F.plain_max_loop _,ih (j+1) _ u c (by omega) lt st1 (by simp only [argBest,q,ΩG,if_false];exact pu) hc1 fun v2 hp2 tk2 pv2 kp2=>hz v2 hp2 tk2 pv2 fun b o b1 b2 e=>kp2 b o b1 b2 (kp b o b1 e)⟩
theorem first(W:Walks prog w A.in1 J fo wo m P S)(bt:Nat→Nat→Bool)(hb:CmpOf prog w A.in1 .Gt P bt)(C:Addr)(hC:C ∉ fo)(dn:Str)(dv:Value){s:Shared}{c:Nat}(st:S 0 s.heap)
   (hc:s.heap.get? C=some {cls:=.type "list",dict:=none,data:=.seq #[] c,slots:=#[]})
   (hz:∀ v hp tk,(m=0→v=dv)→(0<m→P (argBest bt (m - 1)) v)→(∀ b o,b ∉ wo→b≠C→s.heap.get? b=some o→hp.get? b=some o)→Z (.ok (.ret v)) {s with heap:=hp,toks:=tk}) :
   codeAny (model prog w) A (.builtin "max.loop" ⟨[.ref J,.none,.ref C],[(dn,dv)]⟩) Z s:=by
 have hCw:C ∉ wo:=fun z=>hC (W.sub _ z)
 refine codeAny_builtin PySem.F.entry_max_loop ?_
 rw [Around.under_plainId PySem.F.plain_max_loop _]
 show wpAny (model prog w) A.in1 (seqItems? (Value.ref C) >>= _) _ _ s
 refine wpAny_bind (wpAny_seqItems hc rfl ?_)
 show wpAny (model prog w) A.in1 (tryCatch (pyNext (Value.ref J)) _ >>= _) _ _ s
 by_cases hm:0<m
 · refine wpAny_bind (wpAny_tryCatch (W.item 0 s _ _ hm st fun v hp tk pv st1 kp=>?_))
   have hc1:=kp C _ hCw hc
   show wpAny (model prog w) A.in1 (updateSeq C (fun _=>#[v,v]) >>= _) _ _ _
   refine wpAny_bind (wpAny_updateSeq hc1 rfl ?_)
   rw [nm]
   refine wpAny_pure ⟨plainId_quiet PySem.F.plain_max_loop _,loop W bt hb C hC _ _ 0 _ v _ rfl hm (W.frame _ _ _ st1 fun b b1 o e=>?_) pv (Heap.get?_update_self _ hc1 rfl) fun v2 hp2 tk2 pv2 kp2=>?_⟩
   · exact (Heap.get?_update_other _ _ (fun z:C=b=>hC (by rw [z];exact b1))).trans e
   · exact hz v2 hp2 tk2 (fun z=>by omega) (fun _=>pv2) fun b o b1 b2 e=>kp2 b o b1 b2 ((Heap.get?_update_other _ _ (Ne.symm b2)).trans (kp b o b1 e))
 · have h0:m=0:=by omega
   refine wpAny_bind (wpAny_tryCatch (W.done s _ _ (h0 ▸ st) fun hp tk kp=>?_))
   exact wpAny_bind (wpAny_rule (wpAny_pure (hz dv hp tk (fun _=>rfl) (fun z=>absurd z hm) fun b o b1 _ e=>kp b o b1 e)))
end
section
variable {prog:Program}{w:World}{A:Around}{E:Value→Shared→Prop}{s:Shared}
theorem args (a d:Value):argsOk "max" ⟨[a],[("default",d)]⟩:=by unfold argsOk;kernel_rfl
theorem call{x dv:Value}{Q:Value→Shared→Prop}
   (h:wpAny (model prog w) A.in1 (pyIter x) (fun it s2=>∃ J fo wo m P S bt,it=.ref J∧Walks prog w A.in1 J fo wo m P S∧S 0 s2.heap∧(∀ b∈fo,b<s2.heap.objs.size)∧CmpOf prog w A.in1 .Gt P bt ∧
     ∀ v hp tk,(m=0→v=dv)→(0<m→P (argBest bt (m - 1)) v)→(∀ b o,b ∉ wo→s2.heap.get? b=some o→hp.get? b=some o)→Q v {s2 with heap:=hp,toks:=tk}) E s) :
   wpAny (model prog w) A (PySem.call (.builtin "max") [x] [("default",dv)]) Q E s:=by
 refine wpAny_call (codeAny_call_builtin PySem.F.plain_max PySem.F.entry_max ?_)
 simp only [checkBuiltinCall,PySem.F.kind_max]
 have go:wpAny (model prog w) A.in1 (Builtin.«max» ⟨[x],[("default",dv)]⟩) (fun fin s'=>match fin with
     | .done f=>(match (Except.ok f:Result) with|.ok (.ret v)=>Q v s'|.ok _=>False|.error e=>E e s')
     | .again c'=>c'.quiet=true∧codeAny (model prog w) A c' (fun r s'=>match r with|.ok (.ret v)=>Q v s'|.ok _=>False|.error e=>E e s') s') E s:=by
   show wpAny (model prog w) A.in1 (Builtin.Builtins.bindParams "max" ["key", "default"] 0 ⟨[],[("default",dv)]⟩ >>= _) _ _ s
   refine wpAny_bind (wpAny_of_eq (show Builtin.Builtins.bindParams "max" ["key", "default"] 0 ⟨[],[("default",dv)]⟩=pure [none,some dv] from rfl) (wpAny_bind (wpAny_pure (wpAny_bind (wpAny_mono h (fun it s2 q=>?_) fun _ _ e=>e)))))
   obtain ⟨J,fo,wo,m,P,S,bt,rfl,W,st,hfo,hb,hQ⟩:=q
   refine wpAny_bind (wpAny_newObj_type ?_)
   have hC:s2.heap.objs.size ∉ fo:=fun z=>Nat.lt_irrefl _ (hfo _ z)
   rw [nm]
   exact wpAny_pure ⟨plainId_quiet PySem.F.plain_max_loop _,first W bt hb s2.heap.objs.size hC _ dv (W.frame _ _ _ st fun b _ o e=>Ωd _ e) (Ωj _ rfl) fun v hp tk a1 a2 kp=>hQ v hp tk a1 a2 fun b o b1 e=>kp b o b1 (Ωu (Heap.lt_size e)) (Ωd _ e)⟩
 cases hs:Manifest.signature? "max" with
 | none=>exact wpAny_pure go
 | some sig =>
   have ha:=args x dv
   simp only [argsOk,hs] at ha
   have h2:Bind.checkArgs "max" sig ⟨[x],[("default",dv)]⟩=pure ():=ha
   show wpAny _ A.in1 (Bind.checkArgs "max" sig ⟨[x],[("default",dv)]⟩) _ _ s
   rw [h2]
   exact wpAny_pure go
end
end Mx
end L2
namespace L2
open PySem PySem.Spec PyProof.Rows
noncomputable def maxZ:List Int→Int→Int
 | [],d=>d
 | x::r,_=>r.foldl (fun m y=>if y > m then y else m) x
theorem best_take(ns:List Int):∀ k,k<ns.length→(argBest (fun i j=>decide (ns.getD i 0 > ns.getD j 0)) k)<ns.length∧ns.getD (argBest (fun i j=>decide (ns.getD i 0 > ns.getD j 0)) k) 0=maxZ (ns.take (k+1)) 0
 | 0,h=>by
   cases ns with
   | nil=>simp at h
   | cons x r=>exact ⟨by simp [argBest],by simp [argBest,maxZ]⟩
 | k+1,h=>by
   obtain ⟨h1,h2⟩:=best_take ns k (by omega)
   have e:maxZ (ns.take (k+1+1)) 0=if ns.getD (k+1) 0 > maxZ (ns.take (k+1)) 0 then ns.getD (k+1) 0 else maxZ (ns.take (k+1)) 0:=by
     cases ns with
     | nil=>simp at h
     | cons x r =>
       have hk:k<r.length:=by simpa using h
       show ((r.take (k+1)).foldl _ x)=_
       rw [List.take_succ_eq_append_getElem hk,List.foldl_append]
       simp only [List.foldl_cons,List.foldl_nil]
       have:(x::r).getD (k+1) 0=r[k]:=by simp [List.getD_eq_getElem?_getD,Ωg hk]
       rw [this]
       rfl
   rw [e,← h2]
   have ea:argBest (fun i j=>decide (ns.getD i 0 > ns.getD j 0)) (k+1)=if decide (ns.getD (k+1) 0 > ns.getD (argBest (fun i j=>decide (ns.getD i 0 > ns.getD j 0)) k) 0)=true then k+1 else argBest (fun i j=>decide (ns.getD i 0 > ns.getD j 0)) k:=rfl
   rw [ea]
   by_cases q:ns.getD (k+1) 0 > ns.getD (argBest (fun i j=>decide (ns.getD i 0 > ns.getD j 0)) k) 0
   · rw [if_pos (decide_eq_true q),if_pos q]
     exact ⟨h,rfl⟩
   · rw [if_neg (by simpa using q),if_neg q]
     exact ⟨h1,rfl⟩
section
variable {X:Cx}
theorem maxd_val(hc:X.calm=true){pins:List (Addr×Obj)}{s:Shared}{σ:L2.St}{H:Hp}{a:Addr}{ns:List Int}{d:Int}{t:Tok}{Q:VK}(I:Inv X pins σ H s)(hx:SqL X.K H a (ns.map V.int))(q:Q (.int (maxZ ns d)) H) :
   wpAny (model X.prog X.w) X.A (PySem.call (.builtin "max") [.ref a] [("default",.int d t)]) (EP X pins σ Q) X.xe s:=by
 obtain ⟨its,rv,pl,hz⟩:=I.list hx
 have hlt:a<s.heap.objs.size:=by obtain ⟨_,_,e,_⟩:=pl;exact Heap.lt_size e
 have hl:its.length=ns.length:=by have:=rv.length;rw [List.length_map] at this;exact this.symm
 have val:∀ {i:Nat}{v:Value},its.toArray[i]? = some v→i<ns.length∧∃ t,v=.int (ns.getD i 0) t:=fun {i v} hv=>by
   have hv':its[i]? = some v:=by simpa using hv
   have hi:i<ns.length:=by rw [← hl];exact (Ωb.mp hv').1
   have hb:(ns.map V.int)[i]? = some (.int ns[i]):=by rw [Ωn,Ωg hi]<;>rfl
   obtain ⟨u',e',r'⟩:=rv.get hb
   rw [hv'] at e'
   cases e'
   obtain ⟨t,rfl⟩:=r'
   exact ⟨hi,t,by simp [List.getD_eq_getElem?_getD,Ωg hi]⟩
 refine Mx.call (wpAny_pyIter_list pl.isList ?_)
 refine ⟨s.heap.objs.size,_,_,_,_,_,fun i j=>decide (ns.getD i 0 > ns.getD j 0),rfl,Walks.list (A:=X.A.in1) (show X.A.in1.handled=none from I.ok.hd hc) s.heap.objs.size a (Ωu hlt) its.toArray,⟨⟨_,Ωj _ rfl,rfl,rfl⟩,pl.isList.push _⟩,?_,?_,fun v hp tk a1 a2 kp=>?_⟩
 · intro b hb
   have hp1:b<s.heap.objs.size+1:=by
     simp at hb
     rcases hb with rfl|rfl
     · exact ΩH _
     · exact Nat.lt_succ_of_lt hlt
   simpa [Heap.push] using hp1
 · exact CmpOf.ints_gt (fun i=>ns.getD i 0) fun i v hv=>(val hv).2
 · refine ⟨.int (maxZ ns d),H,I.kept fun b o e=>kp b o (fun z=>?_) (Ωd _ e),?_,q⟩
   · have:b=s.heap.objs.size:=by simpa using z
     subst this
     exact absurd (Heap.lt_size e) (Nat.lt_irrefl _)
   · have hsz:its.toArray.size=ns.length:=by rw [Ωf,hl]
     by_cases h0:ns=[]
     · subst h0
       have:=a1 (by rw [hsz];rfl)
       subst this
       exact ⟨t,rfl⟩
     · have hp0:0<ns.length:=List.length_pos_iff.mpr h0
       obtain ⟨_,t3,ev⟩:=val (a2 (by rw [hsz];exact hp0))
       refine ⟨t3,?_⟩
       rw [ev,hsz,(best_take ns (ns.length - 1) (by omega)).2,List.take_of_length_le (by omega)]
       cases ns with
       | nil=>exact absurd rfl h0
       | cons x r=>rfl
end
end L2
namespace L2
open PySem PySem.Spec PyProof.Rows
section
variable {X:Cx}
noncomputable def tMaxd(K:PySem.W.Frag)(ta tb:TE):TE:=fun σ H Q=>ta σ H fun v H1=>tb σ H1 fun u H2=>∃ a ns d,v=.ref a∧u=.int d∧SqL K H2 a (ns.map V.int)∧Q (.int (maxZ ns d)) H2
theorem pe_maxd {x y:Expr}{ta tb:TE}{p kp pos:Pos} (hg:Gl X "max") (hm:X.mg "max" = none) (hc:X.calm=true) (ha:PE X x ta) (hb:PE X y tb) (he:starEach [x] X.env=[(false,eval x X.env)]) :
   PE X (.Call (.Name "max" p) [x] [⟨some "default",y,kp⟩] pos) (tMaxd X.K ta tb):=by
 intro pins s σ H Q I h
 refine wpAny_Call_Name_kw (ld_blt I hg hm boot_max ?_)
 refine PyProof.Rows.callWith_kw ?_ (by rw [he];rfl) (by rw [he];rfl)
 rw [he]
 refine Calls.spliced_cons (thn (ha pins s σ H _ I h) fun v s1 ⟨vv,H1,I1,r1,q1⟩=>Calls.spliced_nil ?_)
 refine kws_cons (thn (hb pins s1 σ H1 _ I1 q1) fun u s2 ⟨uu,H2,I2,r2,q2⟩=>kws_nil ?_)
 obtain ⟨a,ns,d,rfl,rfl,hq,q⟩:=q2
 cases r1
 obtain ⟨t,rfl⟩:=r2
 exact maxd_val hc I2 hq q
end
end L2
end
section
namespace L2
namespace Mx
open PySem PyProof.Rows
section
variable {prog:Program}{w:World}{A:Around}{Z:Result→Shared→Prop}{J:Addr}{fo wo:List Addr}{m:Nat}{P:Nat→Value→Prop}{S:Nat→Heap→Prop}
end
section
variable {prog:Program}{w:World}{A:Around}{E:Value→Shared→Prop}{s:Shared}
end
end Mx
open PySem PySem.Spec PyProof.Rows
section
variable {X:Cx}
end
end L2
end
section
namespace L2
open PySem PySem.Spec PyProof PyProof.Rows PySem.AutoSeq1
set_option maxRecDepth 8000 in
theorem extend_tup(l:Addr)(items:Array Value)(n:Nat)(b:Addr)(items2:Array Value)(n2:Nat)(od:Option Addr)(sl:Array (Option Value))(hs0:¬(!items.isEmpty&&Builtin.List.listTooLong (items.size+items2.size))=true)(hs1:items.size≤sizeLine)(hs2:items.size+items2.size≤sizeLine+1) :
   Meets (Builtin.«list.extend» ⟨[.ref l,.ref b],[]⟩) (fun _ R s=>s.heap.get? l=some {cls:=.type "list",dict:=none,data:=.seq items n,slots:=#[]}∧s.heap.get? b=some {cls:=.type "tuple",dict:=od,data:=.seq items2 n2,slots:=sl}∧R (.ok (.ret Value.none)) {s with heap:=s.heap.update l (Obj.mapSeq fun x=>x++items2),toks:=s.toks}) :=
 .of_wp fun prog w A R s h=>by
   obtain ⟨hp,g,d,tk,os⟩:=s;obtain ⟨hl,hb,h⟩:=h;have f1:=idx_int;have f2:=AutoSeq1.sub_tuple_tuple;have f3:=AutoSeq1.sub_list_list;have f4:=AutoSeq1.sub_tuple_list;have f5:=AutoSeq1.sub_list_tuple;
   have hz':(items++items2).size≤sizeLine+1:=by rw [Array.size_append];exact hs2
   wp_walk using (wpAny_updateSeq hl rfl (hz:=hs1) (_hz':=hz')),wpAny_loadPart' hl,wpAny_loadPart' hb;exact ⟨_,rfl,h⟩
section
variable {X:Cx}
noncomputable def rExtendT(K:PySem.W.Frag):V→List V→Hp→VK→Prop:=fun x vs H Q=>∃ l b xs zs,x=.ref l∧vs=[.ref b]∧H l=some (.lst xs)∧SqT K H b zs∧xs.length+zs.length≤sizeLine∧Q .non (upd H l (.lst (xs++zs)))
theorem mt_extendT:MtM X "list.extend" (rExtendT X.K):=by
 intro pins s σ H x vs v us Q I rx rv h
 obtain ⟨l,b,xs,zs,rfl,rfl,hH,hB,hz,q⟩:=h
 cases rx
 obtain ⟨u,rfl,ru⟩:=rv.one
 cases ru
 obtain ⟨z,its,n,r,hl,e⟩:=I.lstM hH
 obtain ⟨its2,r2,⟨o,e2,oc,n2,od⟩,z2⟩:=I.tuple hB
 obtain ⟨cls,dc,dat,sl⟩:=o
 simp only at oc od
 subst oc
 subst od
 have hl2:=r2.length
 have hsz:its.toArray.size+its2.toArray.size≤sizeLine:=by rw [Ωf,Ωf];omega
 have hlong:¬ (!its.toArray.isEmpty&&Builtin.List.listTooLong (its.toArray.size+its2.toArray.size))=true:=by
   rw [notLongL hsz,Bool.and_false]
   exact Ωw
 refine call_meets F.slot_list_extend ⟨_,e,rfl⟩ F.entry_list_extend (F.args_list_extend_2 _ _)
   (extend_tup l its.toArray n b its2.toArray n2 dc sl hlong (by rw [Ωf];omega) (by omega)) ⟨e,e2,?_⟩
 refine ⟨.non,_,I.lset (its':=its++its2) hH e (by simp) (r.append r2) ?_,rfl,q⟩
 rw [ΩA]
 omega
end
end L2
end
section
namespace L2
open PySem PySem.Spec PyProof.Rows
noncomputable def Itvl(K:PySem.W.Frag)(a:Addr)(n:Nat):It :=
 ⟨fun i H=>∃ xs x,SqL K H a xs∧xs.length=n∧xs.reverse[i]? = some x,fun i H x H'=>H'=H∧∀ xs,SqL K H a xs→xs.reverse[i]? = some x,fun i H=>∃ xs,SqL K H a xs∧xs.length=n∧n=i⟩
theorem turn_revL{P:Program}{w:World}{K:PySem.W.Frag}{tg:Expr}(a it:Addr)(n:Nat):Turn P w K tg (Itvl K a n) [it] it (fun i h=>i≤n∧h.IsRevIter it a ((n:Int) - 1 - i)) where
 mem:=by simp
 obj:=fun i h st b hb=>by
   have e:b=it:=by simpa using hb
   subst e
   obtain ⟨_,o,e,c,d⟩:=st
   exact ⟨o,e,fun v z=>by rw [d] at z;cases z⟩
 keep:=fun i h h' st k=>⟨st.1,st.2.at fun o e=>k it (by simp) o e⟩
 item:=by
   intro X hP hw hK hc i pins s σ H E I hf st hg
   subst hP hw hK
   obtain ⟨hin,st⟩:=st
   obtain ⟨xs,x,hq,hxn,hx⟩:=hg
   obtain ⟨its,rv,p,hz⟩:=I.list hq
   have hl:=rv.length
   have hi:i<xs.length:=by
     have:=(Ωb.mp hx).1
     simpa using this
   have hx':xs[n - 1 - i]? = some x:=by
     rw [List.getElem?_reverse hi] at hx
     rw [← hxn]
     exact hx
   obtain ⟨u,hu,ru⟩:=rv.get hx'
   obtain ⟨f0,f1,f2,f3,f4,f5⟩:=hf it (by simp)
   have e1:(n:Int) - 1 - (i:Nat)=((n - 1 - i:Nat):Int):=by omega
   rw [e1] at st
   refine wpAny_pyNext_rev_item st p.isList (x:=u) (by simpa using hu) fun h' st' sb=>?_
   have I1:Inv X pins σ H {s with heap:=h'}:=I.turned (t':=s.toks) (fun b o hb e=>(sb.2 b hb).trans e) f0 f1 f3 f4 f5
   obtain ⟨o,e,c,d⟩:=id st'
   have e2:((n - 1 - i:Nat):Int) - 1=(n:Int) - 1 - ((i+1:Nat):Int):=by omega
   exact ⟨u,rfl,go_of (s:={s with heap:=h'}) e c d (by decide) ⟨x,H,I1,ru,⟨rfl,fun ys hy=>by rw [I.list_inj hy hq];exact hx⟩,⟨by omega,by rw [← e2];exact st'⟩,fun b hb=>(hf b hb).1⟩⟩
 done:=by
   intro X hP hw hK hc i pins s σ H E I hf st hg
   subst hP hw hK
   obtain ⟨xs,hq,hxn,hx⟩:=hg
   obtain ⟨f0,f1,f2,f3,f4,f5⟩:=hf it (by simp)
   have st1:=st.2
   rw [show (n:Int) - 1 - (i:Nat)=-1 by omega] at st1
   exact wpAny_pyNext_rev_end (I.ok.hd hc) st1 fun h' eb=>⟨rfl,I.turned (t':=s.toks) (fun b o hb e=>eb b o hb e) f0 f1 f3 f4 f5⟩
 self:=fun _ _ _ _ _ st h=>wpAny_pyIter_revIter st.2 h
noncomputable def iRev2(K:PySem.W.Frag)(ta:TA):TI:=fun σ H R=>ta σ H fun vs H1=>∃ a xs,vs=[.ref a]∧((SqT K H1 a xs∧R (Itv K a xs.length) H1)∨(SqL K H1 a xs∧R (Itvl K a xs.length) H1))
theorem pi_rev2 {X:Cx}{tg l:Expr}{ta:TA}{p pos:Pos} (hg:Gl X "reversed") (hm:X.mg "reversed" = none) (ha:PA X [l] ta) (hs:starEach [l] X.env=[(false,eval l X.env)]:=by rfl) :
   PI X tg (.Call (.Name "reversed" p) [l] [] pos) (iRev2 X.K ta):=by
 intro pins s σ H R I h
 refine Call_ (ld_blt I hg hm boot_reversed (PyProof.Rows.callWith_type1 (thn (ha pos pins s σ H _ I h) fun us s1 ⟨vs,H1,I1,r1,q1⟩=>?_) hs rfl))
 obtain ⟨a,xs,rfl,q⟩:=q1
 obtain ⟨u,rfl,ru⟩:=vals1 r1
 obtain rfl:u=Value.ref a:=ru
 rcases q with ⟨hq,q⟩|⟨hq,q⟩
 · obtain ⟨its,rv,pl,hz⟩:=I1.tuple hq
   have hl:=rv.length
   refine Rv.call pl (by simp;omega) ?_
   have e1:((its.toArray.size:Nat):Int) - 1=(xs.length:Int) - 1 - ((0:Nat):Int):=by simp;omega
   have st:Rv.Is (s1.heap.push (Rv.obj a (((its.toArray.size:Nat):Int) - 1))) s1.heap.objs.size a ((xs.length:Int) - 1 - ((0:Nat):Int)):=⟨_,Ωj _ rfl,rfl,by rw [← e1];rfl⟩
   refine Rv.iter_self st ?_
   refine ⟨s1.heap.objs.size,[s1.heap.objs.size],_,_,H1,rfl,I1.kept (t':=s1.toks+1+1) fun b o e=>Ωd _ e,turn_rev a _ xs.length,⟨Nat.zero_le _,st⟩,fun b hb=>?_,q⟩
   have e:b=s1.heap.objs.size:=by simpa using hb
   subst e
   exact I1.fpOk (Ωq _) (I1.hok.fresh (Ωq _))
 · obtain ⟨its,rv,pl,hz⟩:=I1.list hq
   have hl:=rv.length
   refine call_reversed_list pl.isList ?_
   have e1:((its.toArray.size:Nat):Int) - 1=(xs.length:Int) - 1 - ((0:Nat):Int):=by simp;omega
   have st:(s1.heap.push (revObj a (((its.toArray.size:Nat):Int) - 1))).IsRevIter s1.heap.objs.size a ((xs.length:Int) - 1 - ((0:Nat):Int)):=⟨_,Ωj _ rfl,rfl,by rw [← e1];rfl⟩
   refine wpAny_pyIter_revIter st ?_
   refine ⟨s1.heap.objs.size,[s1.heap.objs.size],_,_,H1,rfl,I1.kept (t':=s1.toks) fun b o e=>Ωd _ e,turn_revL a _ xs.length,⟨Nat.zero_le _,st⟩,fun b hb=>?_,q⟩
   have e:b=s1.heap.objs.size:=by simpa using hb
   subst e
   exact I1.fpOk (Ωq _) (I1.hok.fresh (Ωq _))
end L2
end
section
set_option tactic.hygienic false
namespace L2
open PySem PySem.Spec PyProof.Rows
namespace Rv
section
variable {prog:Program}{w:World}{A:Around}{E:Value→Shared→Prop}{s:Shared}
end
end Rv
end L2
end
section
namespace L2
open PySem PySem.Spec PyProof.Rows
namespace Tx
noncomputable def place(x:Str):List Str→Option Nat
 | []=>none
 | y::r=>if y=x then some 0 else (place x r).map (·+1)
section
variable {prog:Program}{w:World}{A:Around}{E:Value→Shared→Prop}{s:Shared}
end
end Tx
end L2
namespace L2
open PySem PySem.Spec PyProof.Rows
noncomputable def tupsBare (K:PySem.W.Frag):Bool:=K.all fun p=>!decide (p.2.cls=.type "tuple") || p.2.dict.isNone
end L2
end
section
namespace L2
open PySem PySem.Spec PyProof.Rows
open PySem.AutoSeq1 (wpAny_loadPart')
namespace En1
section
variable {prog:Program}{w:World}{A:Around}{E:Value→Shared→Prop}{s:Shared}
theorem tn_item{J T:Addr}{k:Nat}{us:Array Value}{y:Value}{Q:Value→Shared→Prop}(st:s.heap.IsTupleIter J T k)(tt:s.heap.IsTuple T us)(hy:us[k]? = some y)
   (q:∀ h1,h1.IsTupleIter J T (k+1)→Heap.SameBut J s.heap h1→Q y {s with heap:=h1}):wpAny (model prog w) A (Builtin.SmallTypes.nextOf (.ref J)) Q E s:=by
 obtain ⟨ob,g1,g2,g3⟩:=id st
 obtain ⟨ot,g4,_,m,g5⟩:=tt
 unfold Builtin.SmallTypes.nextOf
 refine wpAny_bind (wpAny_callSpecial?_slot (name:=Ω "__next__") st.typeIs F.slot_tuple_iterator_next (wpAny_call_entry F.slot_tuple_iterator_next st.typeIs F.entry_tuple_iterator_next ?g (F.args_tuple_iterator_next_1 _)))
 case g =>
   show wpAny _ _ (field (.ref J) 0 >>= _) _ _ s
   refine wpAny_bind (wpAny_field g1 g3 (x:=.ref T) rfl ?_)
   show wpAny _ _ (if (Value.ref T==Value.none)=true then _ else _) _ _ s
   rw [if_neg (show ¬ ((Value.ref T==Value.none)=true) from Ωw)]
   show wpAny _ _ (field (.ref J) 1 >>= _) _ _ s
   refine wpAny_bind (wpAny_field g1 g3 (x:=.int k 0) rfl ?_)
   show wpAny _ _ (seqItems? (.ref T) >>= _) _ _ s
   refine wpAny_bind (wpAny_seqItems g4 g5 ?_)
   simp only [Int.toNat_natCast,hy]
   refine wpAny_bind (wpAny_setField g1 g3 (by simp) (wpAny_pure ⟨y,rfl,wpAny_pure (q _ ?_ (Heap.SameBut.update ..))⟩))
   exact ⟨_,Heap.get?_update_self _ g1 (Obj.isFreed_of_fields (Obj.data_mapFields g3 _)),(Obj.cls_mapFields ..).trans g2,by rw [Obj.data_mapFields g3];simp [rawInt]⟩
theorem tn_end{J T:Addr}{k:Nat}{us:Array Value}{Q:Value→Shared→Prop}(calm:A.handled=none)(st:s.heap.IsTupleIter J T k)(tt:s.heap.IsTuple T us)(hy:us[k]? = none)
   (q:∀ h1 x,Heap.ExtBut J s.heap h1→(∃ ob,h1.get? x=some ob∧ob.cls=.type "StopIteration")→E (.ref x) {s with heap:=h1}):wpAny (model prog w) A (Builtin.SmallTypes.nextOf (.ref J)) Q E s:=by
 obtain ⟨ob,g1,g2,g3⟩:=id st
 obtain ⟨ot,g4,_,m,g5⟩:=tt
 unfold Builtin.SmallTypes.nextOf
 refine wpAny_bind (wpAny_callSpecial?_slot (name:=Ω "__next__") st.typeIs F.slot_tuple_iterator_next (wpAny_call_entry F.slot_tuple_iterator_next st.typeIs F.entry_tuple_iterator_next ?g (F.args_tuple_iterator_next_1 _)))
 case g =>
   show wpAny _ _ (field (.ref J) 0 >>= _) _ _ s
   refine wpAny_bind (wpAny_field g1 g3 (x:=.ref T) rfl ?_)
   show wpAny _ _ (if (Value.ref T==Value.none)=true then _ else _) _ _ s
   rw [if_neg (show ¬ ((Value.ref T==Value.none)=true) from Ωw)]
   show wpAny _ _ (field (.ref J) 1 >>= _) _ _ s
   refine wpAny_bind (wpAny_field g1 g3 (x:=.int k 0) rfl ?_)
   show wpAny _ _ (seqItems? (.ref T) >>= _) _ _ s
   refine wpAny_bind (wpAny_seqItems g4 g5 ?_)
   simp only [Int.toNat_natCast,hy]
   refine wpAny_bind (wpAny_rule (wpAny_bind (wpAny_setField g1 g3 (by simp) ?_)))
   show wpAny _ _ (newExc (.type "StopIteration") [] >>= _) _ _ _
   refine wpAny_bind ?_
   simp only [newExc,newTuple]
   refine wpAny_bind (wpAny_newObj_type ?_ (by size_fits))
   refine wpAny_bind (m:=firstArgMember _ _) (wpAny_of_eq (a:=Value.none) (by first|rfl|(simp only [firstArgMember];rfl)) ?_)
   refine wpAny_newObj_type ?_ (by size_fits)
   simp only [raiseNew]
   refine wpAny_bind (wpAny_handled ?_)
   first|rw [show A.in1.handled=none from calm]|rw [calm]
   exact wpAny_bind (wpAny_pure (wpAny_throw (q _ _ (((Heap.SameBut.update ..).extBut.push _).push _) ⟨_,Ωj _ rfl,rfl⟩)))
theorem dr(calm:A.handled=none)(J T:Addr)(ne:T≠J)(us:Array Value):Draws prog w A J [J,T] (us.size+1) (fun k y=>∃ j,k=j+1∧us[j]? = some y) (fun k h=>∃ j,k=j+1∧h.IsTupleIter J T j∧h.IsTuple T us) where
 live:=fun _ _ z=>let ⟨_,_,⟨ob,g,_⟩,_⟩:=z;⟨ob,g⟩
 frame:=fun _ _ _ z kp=>by
   obtain ⟨j,e,⟨o1,a1,b1⟩,o2,a2,b2⟩:=z
   exact ⟨j,e,⟨o1,kp J (by simp) _ a1,b1⟩,o2,kp T (by simp) _ a2,b2⟩
 item:=fun k s Q E lt z q=>by
   obtain ⟨j,rfl,a,b⟩:=z
   have lj:j<us.size:=by omega
   refine tn_item a b (y:=us[j]) (by simp [lj]) fun h1 a1 sb=>?_
   exact q _ h1 s.toks ⟨j,rfl,by simp [lj]⟩ ⟨j+1,rfl,a1,b.extBut sb.extBut ne⟩ sb
 done:=fun s Q E z q=>by
   obtain ⟨j,e,a,b⟩:=z
   have:j=us.size:=by omega
   subst this
   exact tn_end calm a b (by simp) q
end
end En1
end L2
end
section
namespace L2
open PySem PySem.Spec PyProof.Rows
open PySem.AutoSeq1 (wpAny_loadPart')
namespace En1
theorem ct (a v:Value):checkTypeCall "enumerate" ⟨[a],[("start",v)]⟩=pure ():=by kernel_rfl
theorem cb (a v:Value):checkBuiltinCall "enumerate.__new__" ⟨[.type "enumerate",a],[("start",v)]⟩=pure ():=by kernel_rfl
theorem ao (o a v:Value):argsOk "object.__init__" ⟨[o,a],[("start",v)]⟩:=by unfold argsOk;kernel_rfl
theorem ini {o a v:Value}:Meets (Builtin.«object.__init__» ⟨[o,a],[("start",v)]⟩) (fun _ R s=>s.TypeIs o "enumerate" ∧ R (.ok (.ret .none)) s):=by
 refine Meets.of_wp fun prog w A R s z=>?_
 obtain ⟨ty,q⟩:=z
 have hl:=F.called_enumerate.init.lookup
 have hm:=F.called_enumerate.made
 have hne:(some "enumerate.__new__" != some "object.__new__")=true:=by decide
 repeat (any_goals (first|assumption|wp_step))
 exact ⟨_,rfl,q⟩
theorem nw(T:Addr)(us:Array Value)(n:Nat)(dc:Option Addr)(sl:Array (Option Value))(t:Tok) :
   Meets (Builtin.«enumerate.__new__» ⟨[.type "enumerate",.ref T],[("start",.int 1 t)]⟩) (fun _ R s=>s.heap.get? T=some {cls:=.type "tuple",dict:=dc,data:=.seq us n,slots:=sl} ∧
     R (.ok (.ret (.ref (s.heap.push {cls:=.type "tuple_iterator",data:=.fields #[.ref T,.int 0 0]}).objs.size)))
       {s with heap:=(s.heap.push {cls:=.type "tuple_iterator",data:=.fields #[.ref T,.int 0 0]}).push {cls:=.type "enumerate",data:=.fields #[.none,.bool false,.ref s.heap.objs.size,rawInt 1,.none,.none]}}) :=
 .of_wp fun prog w A R s z=>by
   obtain ⟨hp,g,d,tk,os⟩:=s
   obtain ⟨e,q⟩:=z
   have hsub:=sub_enumerate
   have tt:Heap.IsTuple (Shared.heap ⟨hp,g,d,tk,os⟩) T us:=⟨_,e,rfl,n,rfl⟩
   wp_walk using wpAny_loadPart' e
   refine wpAny_stack_any fun st=>wpAny_pure ?_
   split
   · rename_i c _ _ _ _ _
     cases (c==Value.type "enumerate")
     · wp_walk using wpAny_loadPart' e,wpAny_pyIter_tuple tt
       exact ⟨_,rfl,q⟩
     · wp_walk using wpAny_loadPart' e,wpAny_pyIter_tuple tt
       exact ⟨_,rfl,q⟩
   · wp_walk using wpAny_loadPart' e,wpAny_pyIter_tuple tt
     exact ⟨_,rfl,q⟩
end En1
end L2
end
section
namespace L2
open PySem PySem.Spec PyProof.Rows
namespace En1
section
variable {prog:Program}{w:World}{A:Around}{E:Value→Shared→Prop}{s:Shared}
theorem mk{T:Addr}{us:Array Value}{t:Tok}{Q:Value→Shared→Prop}(tt:s.heap.IsTuple T us)
   (q:∀ h1,IsEnum h1 (s.heap.objs.size+1) s.heap.objs.size 1 .none→h1.IsTupleIter s.heap.objs.size T 0→(∀ b o,s.heap.get? b=some o→h1.get? b=some o)→Q (.ref (s.heap.objs.size+1)) {s with heap:=h1}) :
   wpAny (model prog w) A (call (.type "enumerate") [.ref T] [("start",.int 1 t)]) Q E s:=by
 obtain ⟨⟨c,dc,dt,sl⟩,e,hc,n,hd⟩:=tt
 obtain rfl:c=.type "tuple" := hc
 obtain rfl:dt=.seq us n:=hd
 have ft:=F.called_enumerate
 obtain ⟨c,tl,hmro⟩:=ft.mro
 have hmade:=ft.made
 have hsub:=ft.sub
 have hct:=ct (.ref T) (.int 1 t)
 refine wpAny_call (codeAny_of_tree ?_)
 show wpAny _ _ (callAny (.type "enumerate") _) _ _ _
 refine wpAny_pure ⟨Code.quiet_builtin _ (by decide +kernel),codeAny_builtin F.entry_type_call ?_⟩
 rw [Around.under_plain (weight_type_call_type "enumerate" [.ref T] [("start",.int 1 t)]) (units_type_call_type "enumerate" [.ref T] [("start",.int 1 t)])]
 have h1:=ft.notType
 have h2:=ft.canCreate
 repeat (any_goals (first|assumption|wp_step))
 refine codeAny_mono (codeAny_call_builtin ft.plain F.entry_enumerate_new (wpAny_of_eq (cb (.ref T) (.int 1 t)) (nw T us n dc sl t prog w A.in1 (wants (fun obj s1=>s1.TypeIs obj "enumerate" ∧ Q obj s1) E) s ⟨e,?_⟩))) fun r s1 hr=>?_
 · have hz:(s.heap.push {cls:=.type "tuple_iterator",data:=.fields #[.ref T,.int 0 0]}).objs.size=s.heap.objs.size+1:=Heap.size_push ..
   show _∧_
   rw [hz]
   have he:IsEnum ((s.heap.push {cls:=.type "tuple_iterator",data:=.fields #[.ref T,.int 0 0]}).push {cls:=.type "enumerate",data:=.fields #[.none,.bool false,.ref s.heap.objs.size,rawInt 1,.none,.none]}) (s.heap.objs.size+1) s.heap.objs.size 1 .none:=by
     have:=Ωj (s.heap.push {cls:=.type "tuple_iterator",data:=.fields #[.ref T,.int 0 0]}) (o:={cls:=.type "enumerate",data:=.fields #[.none,.bool false,.ref s.heap.objs.size,rawInt 1,.none,.none]}) rfl
     rw [hz] at this
     exact this
   exact ⟨⟨_,he,rfl⟩,q _ he ⟨_,Ωd _ (Ωj _ rfl),rfl,rfl⟩ fun b o x=>Ωd _ (Ωd _ x)⟩
 cases r with
 | error e=>exact hr
 | ok fl =>
   cases fl with
   | ret obj =>
     obtain ⟨hT,hq⟩:=hr
     have hli:=ft.init.lookup
     have hbi:=ft.init.bind obj
     repeat (any_goals (first|assumption|wp_step))
     refine codeAny_mono (codeAny_call_builtin ft.init.plain F.entry_object_init (ft.init.check _ _ _ _ _ _ _ _ hT (ao obj (.ref T) (.int 1 t)) (ini prog w A.in1 (wants (fun r s2=>r=.none∧Q obj s2) E) s1 ⟨hT,rfl,hq⟩))) fun r2 s2 hr2=>?_
     cases r2 with
     | error e=>exact hr2
     | ok fl2 =>
       cases fl2 with
       | ret r =>
         obtain ⟨rfl,hq⟩:=hr2
         repeat (any_goals (first|assumption|wp_step))
       | _=>exact hr2.elim
   | _=>exact hr.elim
end
end En1
end L2
end
section
namespace L2
open PySem PySem.Spec PyProof.Rows
noncomputable def It1(K:PySem.W.Frag)(a:Addr):It :=
 ⟨fun i H=>∃ xs x,SqT K H a xs∧xs[i]? = some x,fun i H v H'=>∃ p,v=.ref p∧H p=none∧∃ x,(∀ xs,SqT K H a xs→xs[i]? = some x)∧H'=upd H p (.tup [.int (i+1:Nat),x]),fun i H=>∃ xs,SqT K H a xs∧xs.length=i⟩
theorem turn_en1{P:Program}{w:World}{K:PySem.W.Frag}{es:List Expr}{kk:Nat}{tp:Pos}(a it e:Addr)(hei:e≠it)(hae:a≠e)(hai:a≠it) :
   Turn P w K (.Tuple es kk tp) (It1 K a) [e,it] e (fun i h=>(∃ old,IsEnum h e it ((i+1:Nat):Int) old)∧h.IsTupleIter it a i) where
 mem:=by simp
 obj:=fun i h st b hb=>by
   obtain ⟨⟨old,he⟩,o,e1,c,d⟩:=st
   rcases Ωr.mp hb with rfl|hb
   · exact ⟨_,he,fun v z=>by cases z⟩
   · have e2:b=it:=by simpa using hb
     subst e2
     exact ⟨o,e1,fun v z=>by rw [d] at z;cases z⟩
 keep:=fun i h h' st k=>by
   obtain ⟨⟨old,he⟩,st⟩:=st
   exact ⟨⟨old,k e (by simp) _ he⟩,st.at fun o z=>k it (by simp) o z⟩
 item:=by
   intro X hP hw hK hc i pins s σ H E I hf st hg
   subst hP hw hK
   obtain ⟨xs,x,hq,hx⟩:=hg
   obtain ⟨its,rv,p,hz⟩:=I.tuple hq
   have p:s.heap.IsTuple a its.toArray:=p
   have hl:=rv.length
   have hi:i<xs.length:=(Ωb.mp hx).1
   have D:=En1.dr (prog:=X.prog) (w:=X.w) (A:=X.A.in1) (I.ok.hd hc) it a hai its.toArray
   have W:=WalksT.enumerateD (A:=X.A) D e hei (by simp [hei,Ne.symm hae]) (by simp)
   obtain ⟨⟨old,he⟩,hit⟩:=st
   refine wpAny_pyNext_enum_itemD D he ⟨i,rfl,hit,p⟩ (by simp;omega) hei (by simp [hei,Ne.symm hae]) fun y h1 tk hy ho hst hT hsz hk=>?_
   obtain ⟨j,ej,hy⟩:=hy
   obtain rfl:i=j:=by omega
   have e1:e<s.heap.objs.size:=Heap.lt_size he
   have e2:it<s.heap.objs.size:=by obtain ⟨_,z,_⟩:=hit;exact Heap.lt_size z
   have hT1:s.heap.objs.size≠e:=Nat.ne_of_gt e1
   have hT2:s.heap.objs.size≠it:=Nat.ne_of_gt e2
   refine ⟨_,rfl,W.go _ _ _ (i+1) s.heap.objs.size {s with heap:=h1,toks:=tk+1} _ _ ⟨⟨_,ho⟩,hst,hT1,hT2⟩ fun h2 st2 kk2=>?_⟩
   have hy':its[i]? = some y:=by simpa using hy
   obtain ⟨u,hu,ru⟩:=rv.get hx
   rw [hy'] at hu
   cases hu
   have hTw:s.heap.objs.size ∉ [e,it]:=by simp [hT1,hT2]
   have tup2:IsTupN h2 s.heap.objs.size #[.int ((i+1:Nat):Int) tk,y]:=⟨_,kk2 _ _ hTw hT,rfl,rfl,_,rfl⟩
   have I2:Inv X pins σ (upd H s.heap.objs.size (.tup [.int ((i+1:Nat):Int),x])) {s with heap:=h2,toks:=tk+1}:=I.turnT hf (fun b o hb q=>kk2 b o hb (hk b o (fun z=>hb (by simp [z])) (fun z=>hb (by simp [z])) q)) (Ωq _) (us:=[.int ((i+1:Nat):Int) tk,y]) tup2 (.cons ⟨tk,rfl⟩ (.cons ru .nil)) (by show 2≤sizeLine;decide)
   obtain ⟨s3,j,ej2,s4,s5⟩:=st2
   obtain rfl:j=i+1:=by omega
   refine ⟨.ref s.heap.objs.size,_,I2,rfl,⟨_,rfl,I.hok.fresh (Ωq _),x,fun ys hy=>by rw [I.tuple_inj hy hq];exact hx,rfl⟩,⟨s3,s4⟩,fun b hb=>?_⟩
   have neb:b≠s.heap.objs.size:=fun z=>hTw (by rw [← z];exact hb)
   rw [upd_ne neb]
   exact (hf b hb).1
 done:=by
   intro X hP hw hK hc i pins s σ H E I hf st hg
   subst hP hw hK
   obtain ⟨xs,hq,hx⟩:=hg
   obtain ⟨its,rv,p,hz⟩:=I.tuple hq
   have p:s.heap.IsTuple a its.toArray:=p
   have hl:=rv.length
   have D:=En1.dr (prog:=X.prog) (w:=X.w) (A:=X.A.in1) (I.ok.hd hc) it a hai its.toArray
   obtain ⟨⟨old,he⟩,hit⟩:=st
   refine wpAny_pyNext_enum_endD D he ⟨i,by simp;omega,hit,p⟩ fun h1 ex=>⟨rfl,I.turnL (t':=s.toks) hf fun b o hb q=>ex b o (fun z=>hb (by simp [z])) q⟩
 self:=fun A i s Q E st h=>by
   obtain ⟨⟨old,he⟩,_⟩:=st
   exact wpAny_pyIter_enum he h
section
variable {M:Model}{A:Around}{E:Value→Shared→Prop}{s:Shared}{env:Env}
theorem callT_kw{pos:Pos}{T:String}{e:Expr}{kws:List Keyword}{Q:Value→Shared→Prop}(he:starEach [e] env=[(false,eval e env)])
   (h:wpAny M A (spliced (backTo pos (starEach [e] env))) (fun vs s1=>wpAny M A (evalAll ((backToKw pos (keywordEach kws env)).map (·.2)))
     (fun kvs s2=>wpAny M A (call (.type T) vs (((backToKw pos (keywordEach kws env)).filterMap (·.1)).zip kvs)) Q E s2) E s1) E s)
   (hall:(backToKw pos (keywordEach kws env)).all (·.1.isSome)=true:=by rfl) (hkw:(backToKw pos (keywordEach kws env)).any (·.1.isNone)=false:=by rfl) :
   wpAny M A (callWith pos (.type T) [] (backTo pos (starEach [e] env)) (backToKw pos (keywordEach kws env))) Q E s:=by
 have hp:(backTo pos (starEach [e] env)).any (·.1)=false:=by rw [he];rfl
 have g:wpAny M A (evalArgs (.type T) true (backTo pos (starEach [e] env)) (backToKw pos (keywordEach kws env))) (fun a s1=>wpAny M A (call (.type T) ([]++a.pos) a.kw) Q E s1) E s:=by
   rw [he] at h ⊢
   exact evalArgs_kwB hall h
 unfold callWith
 refine wpAny_bind (wpAny_holding (wpAny_mono g (fun a s1 h1=>wpAny_bind (wpAny_standAt ?_)) fun _ _ z=>z))
 simp only [hp,hkw,Bool.or_false]
 exact wpAny_bind (wpAny_pure (wpAny_bind (wpAny_mono h1 (fun r s2 hr=>wpAny_bind (wpAny_holding (wpAny_point (wpAny_pure hr)))) fun _ _ z=>z)))
end
noncomputable def iEn1(K:PySem.W.Frag)(tl tk:TE):TI:=fun σ H R=>tl σ H fun v H1=>tk σ H1 fun u H2=>∃ a,v=.ref a∧u=.int 1∧(∃ xs,SqT K H2 a xs)∧R (It1 K a) H2
theorem pi_en1 {X:Cx}{es:List Expr}{kk:Nat}{tp:Pos}{l y:Expr}{tl tk:TE}{p kp pos:Pos} (hg:Gl X "enumerate") (hm:X.mg "enumerate" = none) (hl:PE X l tl) (hy:PE X y tk) (he:starEach [l] X.env=[(false,eval l X.env)]) :
   PI X (.Tuple es kk tp) (.Call (.Name "enumerate" p) [l] [⟨some "start",y,kp⟩] pos) (iEn1 X.K tl tk):=by
 intro pins s σ H R I h
 refine wpAny_Call_Name_kw (ld_blt I hg hm boot_enumerate ?_)
 refine callT_kw he ?_
 rw [he]
 refine Calls.spliced_cons (thn (hl pins s σ H _ I h) fun v s1 ⟨vv,H1,I1,r1,q1⟩=>Calls.spliced_nil ?_)
 refine kws_cons (thn (hy pins s1 σ H1 _ I1 q1) fun u s2 ⟨uu,H2,I2,r2,q2⟩=>kws_nil ?_)
 obtain ⟨a,rfl,rfl,⟨xs,hq⟩,q⟩:=q2
 cases r1
 obtain ⟨t,rfl⟩:=r2
 obtain ⟨its,rv,pt,hz⟩:=I2.tuple hq
 have pt:s2.heap.IsTuple a its.toArray:=pt
 have hlt:a<s2.heap.objs.size:=by obtain ⟨_,z,_⟩:=pt;exact Heap.lt_size z
 refine En1.mk pt fun h1 he hi kk=>?_
 refine wpAny_pyIter_enum he ?_
 refine ⟨s2.heap.objs.size+1,[s2.heap.objs.size+1,s2.heap.objs.size],_,_,H2,rfl,I2.kept (t':=s2.toks) kk,turn_en1 a s2.heap.objs.size (s2.heap.objs.size+1) (Nat.succ_ne_self _) (Ωu (Nat.lt_succ_of_lt hlt)) (Ωu hlt),⟨⟨_,he⟩,hi⟩,fun b hb=>?_,q⟩
 rcases Ωr.mp hb with rfl|hb
 · exact I2.fpOk (Nat.le_succ _) (I2.hok.fresh (Nat.le_succ _))
 · have e:b=s2.heap.objs.size:=by simpa using hb
   subst e
   exact I2.fpOk (Ωq _) (I2.hok.fresh (Ωq _))
end L2
end
section
namespace L2
open PySem PySem.Spec PyProof.Rows
section
variable {X:Cx}{pins:List (Addr×Obj)}{σ:St}{H:Hp}{s:Shared}
theorem Inv.freeze{a:Addr}{o:Obj}{kvs:List (Key×V)}(I:Inv X pins σ H s)(e:H a=some (.dK kvs))(ho:s.heap.get? a=some o):Inv X pins σ (upd H a (.frz o (.dK kvs))) s:=by
 have ne:∀ b,(∀ kvs,H b≠some (.dK kvs))→b≠a:=fun b q z=>q kvs (by rw [z];exact e)
 refine I.un (t':=s.toks) (h':=s.heap) ⟨fun b u q n _ _=>q,fun b u q n _ _=>⟨u.slots,q⟩,fun b u q n _=>?_,fun b u q _=>⟨u,q⟩,fun b xs q=>?_,fun b u v q=>?_,fun b ps q=>⟨#[],?_⟩⟩ ?_
 · rw [upd_ne (ne b fun k z=>by rw [n] at z;cases z)];exact n
 · rw [upd_ne (ne b fun k z=>by rw [q] at z;cases z)];exact q
 · rw [upd_ne (ne b fun k z=>by rw [q] at z;cases z)];exact q
 · rw [upd_ne (ne b fun k z=>by rw [q] at z;cases z),q];simp
 · have old:=I.hok a _ e
   exact I.hok.write (x:=a) (e:=a) (by rw [e];trivial) (.inl rfl) (fun b u _ q=>q) ⟨o,ho⟩ ⟨ho,old⟩
end
theorem key_rel{k:Key}{u:Value}(h:keyIs k u=true):RelV (kV k) u:=by
 rcases keyIs_shape h with ⟨i,t,rfl,rfl⟩|⟨x,t,rfl,rfl⟩
 · exact ⟨t,rfl⟩
 · exact ⟨t,rfl⟩
theorem kv_keys:∀ {kvs:List (Key×V)}{vs:List (Key×Value)},KV kvs vs→kvs.map (·.1)=vs.map (·.1)
 | _,_,.nil=>rfl
 | _,_,.cons h t=>by rw [Ωp,Ωp,kv_keys t,h.1]
noncomputable def Itd(a:Addr)(o:Obj)(kvs:List (Key×V)):It :=
 ⟨fun i H=>H a=some (.frz o (.dK kvs))∧i<kvs.length,fun i H x H'=>H'=H∧∃ k v,kvs[i]? = some (k,v)∧x=kV k,fun i H=>H a=some (.frz o (.dK kvs))∧kvs.length≤i⟩
theorem turn_dk{P:Program}{w:World}{K:PySem.W.Frag}{tg:Expr}(a it:Addr)(o:Obj)(kvs:List (Key×V))(es:Array DictEntry)(ep:Nat)(hd:o.data=.dict es ep):Turn P w K tg (Itd a o kvs) [it] it (fun i h=>h.IsKeyIter it a i kvs.length ep) where
 mem:=by simp
 obj:=fun i h st b hb=>by
   have e:b=it:=by simpa using hb
   subst e
   obtain ⟨o,e,c,d⟩:=st
   exact ⟨o,e,fun v z=>by rw [d] at z;cases z⟩
 keep:=fun i h h' st k=>st.at fun o e=>k it (by simp) o e
 item:=by
   intro X hP hw hK hc i pins s σ H E I hf st hg
   subst hP hw hK
   obtain ⟨ea,hi⟩:=hg
   obtain ⟨g1,hz,hsm,vs,rv,o2,es2,ep2,g2,x1,x2,x3,x4,x5⟩:=I.hok a _ ea
   rw [g1] at g2
   cases g2
   rw [hd] at x2
   cases x2
   have hl:=rv.length
   have hi2:i<vs.length:=by omega
   obtain ⟨f0,f1,f2,f3,f4,f5⟩:=hf it (by simp)
   have hkv:(kvs[i]'hi).1=(vs[i]'hi2).1:=by
     have q:=congrArg (fun l=>l[i]?) (kv_keys rv)
     simp only [Ωn,Ωg hi,Ωg hi2,Option.map_some] at q
     exact Option.some.inj q
   refine wpAny_pyNext_dict_item (knd:=mixKind X.prog X.w) (kvs:=vs) (k:=(vs[i]'hi2).1) (v:=(vs[i]'hi2).2) (by rw [← hl];exact st) ⟨o,es,g1,x1,hd,x3,x4,x5⟩ (by simp [hi2]) fun key h' hkey hit' hs'=>?_
   have I1:Inv X pins σ H {s with heap:=h'}:=I.turned (t':=s.toks) (fun b o hb e=>(hs'.2 b hb).trans e) f0 f1 f3 f4 f5
   obtain ⟨oi,e,c,d⟩:=id hit'
   exact ⟨key,rfl,go_of (s:={s with heap:=h'}) e c d (by decide) ⟨kV (kvs[i]'hi).1,H,I1,by rw [hkv];exact key_rel hkey,⟨rfl,(kvs[i]'hi).1,(kvs[i]'hi).2,by simp [hi],rfl⟩,by rw [hl];exact hit',fun b hb=>(hf b hb).1⟩⟩
 done:=by
   intro X hP hw hK hc i pins s σ H E I hf st hg
   subst hP hw hK
   obtain ⟨ea,hi⟩:=hg
   obtain ⟨g1,hz,hsm,vs,rv,o2,es2,ep2,g2,x1,x2,x3,x4,x5⟩:=I.hok a _ ea
   rw [g1] at g2
   cases g2
   rw [hd] at x2
   cases x2
   have hl:=rv.length
   obtain ⟨f0,f1,f2,f3,f4,f5⟩:=hf it (by simp)
   exact wpAny_pyNext_dict_end (knd:=mixKind X.prog X.w) (kvs:=vs) (I.ok.hd hc) (by rw [← hl];exact st) ⟨o,es,g1,x1,hd,x3,x4,x5⟩ (by simp;omega) fun h' eb=>⟨rfl,I.turned (t':=s.toks) (fun b o hb e=>eb b o hb e) f0 f1 f3 f4 f5⟩
 self:=fun _ _ _ _ _ st h=>wpAny_pyIter_keyiter st h
noncomputable def iDk(tl:TE):TI:=fun σ H R=>tl σ H fun x H1=>∃ a kvs,x=.ref a∧((H1 a=some (.dK kvs)∧∀ o,R (Itd a o kvs) (upd H1 a (.frz o (.dK kvs))))∨∃ o,H1 a=some (.frz o (.dK kvs))∧R (Itd a o kvs) H1)
theorem pi_dk{X:Cx}{tg l:Expr}{tl:TE}(hl:PE X l tl):PI X tg l (iDk tl):=by
 intro pins s σ H R I h
 refine thn (hl pins s σ H _ I h) fun v s1 ⟨x,H1,I1,r1,q1⟩=>?_
 obtain ⟨a,kvs,rfl,q⟩:=q1
 cases r1
 have main:∀ (o:Obj) (H2:Hp),Inv X pins σ H2 s1→H2 a=some (.frz o (.dK kvs))→R (Itd a o kvs) H2→wpAny (model X.prog X.w) X.A (pyIter (.ref a)) (PIE X pins σ tg R) X.xe s1:=by
   intro o H2 I2 ea hR
   obtain ⟨g1,hz,hsm,vs,rv,o2,es,ep,g2,x1,x2,x3,x4,x5⟩:=I2.hok a _ ea
   rw [g1] at g2
   cases g2
   refine wpAny_pyIter_dict (knd:=mixKind X.prog X.w) hsm ⟨o,es,g1,x1,x2,x3,x4,x5⟩ ?_
   refine ⟨s1.heap.objs.size,[s1.heap.objs.size],_,_,H2,rfl,I2.kept (t':=s1.toks) fun b o e=>Ωd _ e,turn_dk a _ o kvs es ep x2,⟨_,Ωj _ rfl,rfl,by rw [rv.length];rfl⟩,fun b hb=>?_,hR⟩
   have e:b=s1.heap.objs.size:=by simpa using hb
   subst e
   exact I2.fpOk (Ωq _) (I2.hok.fresh (Ωq _))
 rcases q with ⟨ea,hR⟩|⟨o,ea,hR⟩
 · obtain ⟨hz,hsm,vs,rv,o,es,ep,g2,r⟩:=I1.hok a _ ea
   exact main o _ (I1.freeze ea g2) upd_same (hR o)
 · exact main o _ I1 ea hR
end L2
end
section
set_option tactic.hygienic false
namespace IV
open PySem PySem.Spec PyProof.Rows L2
inductive D where
 | non|bl (b:Bool)|int (i:Int)|str (x:Str)|tup (xs:List D)|ref (i:Nat)|ty (n:String)
 | ro (xs:List D)|kd (x:Str)
inductive DO where
 | lst (xs:List D)|dic (kvs:List (Key×D))|ins (C:Str) (fs:List (Str×D))
 | fdic (kvs:List (Key×D))
noncomputable abbrev Hd:=List DO
inductive R(α:Type) where
 | bad|ok (a:α) (h:Hd)|exc (c:Str) (h:Hd)
noncomputable def R.bind{α β:Type}(r:R α)(k:α→Hd→R β):R β:=match r with
 | .bad=>.bad
 | .ok a h=>k a h
 | .exc c h=>.exc c h
theorem R.bind_ok{α β:Type}{a:α}{h:Hd}{k:α→Hd→R β}:(R.ok a h).bind k=k a h:=rfl
theorem R.bind_bad{α β:Type}{k:α→Hd→R β}:(R.bad:R α).bind k=.bad:=rfl
noncomputable def R.ofO{α:Type}(o:Option α)(h:Hd):R α:=match o with
 | some a=>.ok a h
 | none=>.bad
theorem R.ofO_some{α:Type}{a:α}{h:Hd}:R.ofO (some a) h=.ok a h:=rfl
noncomputable abbrev Ev:=List (Option D)
inductive Bf where
 | len|isi|int|tup|lst|sum|all|srt|mx
 deriving DecidableEq
inductive Mf where
 | app|ext|pop|rev|clr
 deriving DecidableEq
mutual
inductive Ex where
 | var (i:Nat)|cst (d:D)|glo (x:Str)
 | bin (op:Operator) (a b:Ex)|cmp (op:CmpOp) (a b:Ex)|cmp2 (op op':CmpOp) (a b c:Ex)
 | neg (a:Ex)|nt (a:Ex)|ands (es:Exs)|ors (es:Exs)|ite (c:Tx) (a b:Ex)
 | tupl (es:Exs)|lstl (es:Exs)|ix (a i:Ex)|sl (a:Ex) (lo hi:Option Ex)
 | blt (f:Bf) (es:Exs)|call (f:Str) (es:Exs)|meth (m:Mf) (o:Ex) (es:Exs)
 | comp (NC:List Str) (js:List (Option Nat)) (it:Ix) (g:Tg) (c:Option Tx) (e:Ex)
 | sorts (e:Ex)|dictl (ps:Exs)|maxd (e d:Ex)
 | att (Cs:List Str) (o:Ex) (f:Str)|mk (C:Str) (es:Exs)|mcl (C m:Str) (o:Ex) (es:Exs)|any
 | trev (e:Ex)|tix (o e:Ex)
inductive Exs where
 | nil|cons (e:Ex) (es:Exs)
inductive Ix where
 | pl (e:Ex)|rng (e:Ex)|rng2 (a b:Ex)|enu (e:Ex)|rev (e:Ex)
 | en1 (e:Ex)|dk (e:Ex)
inductive Tg where
 | nm (i:Nat)|two (i j:Nat)|many (is:List Nat)
inductive Tx where
 | ex (e:Ex)|ands (ts:Txs)|ors (ts:Txs)|nt (a:Tx)
inductive Txs where
 | one (t:Tx)|cons (t:Tx) (ts:Txs)
end
mutual
inductive Sx where
 | ret (e:Ex)|set (g:Tg) (e:Ex)|put (o i e:Ex)|aug (i:Nat) (op:Operator) (e:Ex)|drp (e:Ex)
 | iff (c:Tx) (a b:Sxs)|whl (c:Tx) (b:Sxs)|forr (g:Tg) (it:Ix) (b:Sxs)|pas|brk|cnt
 | seta (Cs:List Str) (o:Ex) (f:Str) (e:Ex)|auga (Cs:List Str) (o:Ex) (f:Str) (e:Ex)|any
inductive Sxs where
 | nil|cons (s:Sx) (r:Sxs)
end
noncomputable instance:DecidableEq D:=fun a b=>Classical.propDecidable (a=b)
noncomputable instance:DecidableEq DO:=fun a b=>Classical.propDecidable (a=b)
mutual
noncomputable def D.py(rd:Nat→Option PyData):D→Option PyData
 | .non=>some .none
 | .bl b=>some (.bool b)
 | .int i=>some (.int i)
 | .str x=>some (.str x)
 | .tup xs=>(D.pys rd xs).map .tuple
 | .ro xs=>(D.pys rd xs).map .list
 | .ref i=>rd i
 | _=>none
noncomputable def D.pys(rd:Nat→Option PyData):List D→Option (List PyData)
 | []=>some []
 | x::xs=>(D.py rd x).bind fun d=>(D.pys rd xs).map fun ds=>d::ds
end
noncomputable def rdPy(h:Hd):Nat→Nat→Option PyData
 | 0,_=>none
 | n+1,i=>match h[i]? with
   | some (.lst xs)=>(D.pys (rdPy h n) xs).map .list
   | _=>none
noncomputable def pyOf(h:Hd)(d:D):Option PyData:=D.py (rdPy h 4) d
noncomputable def newO(o:DO)(h:Hd):R D:=.ok (.ref h.length) (h++[o])
noncomputable def lstOf(d:D)(h:Hd):Option (List D):=match d with
 | .ref i=>match h[i]? with
   | some (.lst xs)=>some xs
   | _=>none
 | .ro xs=>some xs
 | _=>none
noncomputable def dicOf(GD:Str→Option (List (Key×D)))(d:D)(h:Hd):Option (List (Key×D)):=match d with
 | .ref i=>match h[i]? with
   | some (.dic kvs)=>some kvs
   | some (.fdic kvs)=>some kvs
   | _=>none
 | .kd x=>GD x
 | _=>none
noncomputable def keyOf:D→Option Key
 | .int i=>some (.inl i)
 | .str x=>some (.inr x)
 | _=>none
noncomputable def valD(kvs:List (Key×D))(k:Key):Option D:=(kvs.find? fun p=>decide (p.1=k)).map (·.2)
noncomputable def putD(kvs:List (Key×D))(k:Key)(v:D):List (Key×D) :=
 if (kvs.any fun kv=>decide (kv.1=k))=true then kvs.map (fun kv=>if kv.1=k then (kv.1,v) else kv) else kvs++[(k,v)]
noncomputable def cutD(xs:List D)(lo hi:Option Int):List D:=(xs.drop (HT.sIx xs.length 0 lo)).take (HT.sIx xs.length xs.length hi - HT.sIx xs.length 0 lo)
noncomputable def D.flat:D→Bool
 | .int _|.str _|.bl _|.non=>true
 | _=>false
noncomputable def eqF:D→D→Bool
 | .int i,.int j=>i==j
 | .str i,.str j=>i==j
 | .non,.non=>true
 | .bl i,.bl j=>i==j
 | .int i,.bl j=>i==(if j then 1 else 0)
 | .bl i,.int j=>(if i then 1 else 0)==j
 | _,_=>false
noncomputable def truD(GD:Str→Option (List (Key×D)))(d:D)(h:Hd):Option Bool:=match d with
 | .non=>some false
 | .bl b=>some b
 | .int i=>some (i != 0)
 | .str x=>if x.length≤sizeLine then some (!(x.length==0)) else none
 | .tup xs=>some (!xs.isEmpty)
 | .ref i=>match h[i]? with
   | some (.lst xs)=>some (!xs.isEmpty)
   | some (.dic xs)=>some (!xs.isEmpty)
   | _=>none
 | .ro xs=>some (!xs.isEmpty)
 | _=>none
noncomputable def int2(x y:D)(k:Int→Int→R D):R D:=match x with
 | .int i=>match y with
   | .int j=>k i j
   | _=>.bad
 | _=>.bad
noncomputable def addB(x y:D)(h:Hd):R D:=match x with
 | .int i=>match y with
   | .int j=>.ok (.int (i+j)) h
   | _=>.bad
 | .str i=>match y with
   | .str j=>if i.length+j.length≤sizeLine then .ok (.str (i++j)) h else .bad
   | _=>.bad
 | .tup xs=>match y with
   | .tup ys=>if xs.length+ys.length≤sizeLine then .ok (.tup (xs++ys)) h else .bad
   | _=>.bad
 | .ref i=>match y with
   | .ref j=>match h[i]? with
     | some (.lst xs)=>match h[j]? with
       | some (.lst ys)=>if xs.length+ys.length≤sizeLine then newO (.lst (xs++ys)) h else .bad
       | _=>.bad
     | _=>.bad
   | _=>.bad
 | _=>.bad
noncomputable def mulB(x y:D)(h:Hd):R D:=match x with
 | .str z=>match y with
   | .int n=>if 0≤n∧n≤1000∧z.length≤1000 then .ok (.str (repS z n.toNat)) h else .bad
   | _=>.bad
 | x=>int2 x y fun i j=>if i.natAbs<2 ^ 2000∧j.natAbs<2 ^ 2000 then .ok (.int (i * j)) h else .bad
noncomputable def opB(op:Operator)(x y:D)(h:Hd):R D:=match op with
 | .Add=>addB x y h
 | .Sub=>int2 x y fun i j=>.ok (.int (i - j)) h
 | .Mult=>mulB x y h
 | .Mod=>int2 x y fun i j=>if 0<j then .ok (.int (i % j)) h else .bad
 | .FloorDiv=>int2 x y fun i j=>if 0<j∧j<1073741824 then .ok (.int (i / j)) h else .bad
 | .Pow=>int2 x y fun i j=>if 0≤j∧j≤1000000∧i.natAbs<2 ^ 64 then .ok (.int (i ^ j.toNat)) h else .bad
 | _=>.bad
noncomputable def opEq(neg:Bool)(x y:D)(h:Hd):R D:=match pyOf h x,pyOf h y with
 | some a,some b=>if min a.depth b.depth≤1100 then .ok (.bl (if neg then !PyData.eqv a b else PyData.eqv a b)) h else .bad
 | _,_=>.bad
noncomputable def seqOf(d:D)(h:Hd):Option (List D):=match d with
 | .tup xs=>some xs
 | d=>lstOf d h
noncomputable def opIn'(GD:Str→Option (List (Key×D)))(neg:Bool)(x y:D)(h:Hd):R D:=match seqOf y h with
 | some xs=>if x.flat&&xs.all D.flat then .ok (.bl (if neg then !xs.any (fun z=>eqF z x) else xs.any fun z=>eqF z x)) h else .bad
 | none=>match dicOf GD y h,keyOf x with
   | some kvs,some k=>.ok (.bl (if neg then !(valD kvs k).isSome else (valD kvs k).isSome)) h
   | _,_=>.bad
noncomputable def opI2(f:Int→Int→Bool)(x y:D)(h:Hd):R D:=match x,y with
 | .int i,.int j=>.ok (.bl (f i j)) h
 | _,_=>.bad
noncomputable def opN(neg:Bool)(x y:D)(h:Hd):R D:=match y with
 | .non=>.ok (.bl (if neg then !decide (x=.non) else decide (x=.non))) h
 | _=>.bad
noncomputable def opC(GD:Str→Option (List (Key×D)))(op:CmpOp)(x y:D)(h:Hd):R D:=match op with
 | .Eq=>opEq false x y h
 | .NotEq=>opEq true x y h
 | .Lt=>opI2 (fun i j=>decide (i<j)) x y h
 | .LtE=>opI2 (fun i j=>decide (i≤j)) x y h
 | .Gt=>opI2 (fun i j=>decide (j<i)) x y h
 | .GtE=>opI2 (fun i j=>decide (j≤i)) x y h
 | .In=>opIn' GD false x y h
 | .NotIn=>opIn' GD true x y h
 | .Is=>opN false x y h
 | .IsNot=>opN true x y h
noncomputable def opIx(GD:Str→Option (List (Key×D)))(x y:D)(h:Hd):R D:=match y with
 | .int i=>match seqOf x h with
   | some xs=>R.ofO (atI xs i) h
   | none=>match x with
     | .str z=>if z.length≤sizeLine then R.ofO ((atI z.cps.toList i).map fun c=>.str ⟨#[c]⟩) h else .bad
     | _=>match dicOf GD x h with
       | some kvs=>R.ofO (valD kvs (.inl i)) h
       | none=>.bad
 | .str z=>match dicOf GD x h with
   | some kvs=>R.ofO (valD kvs (.inr z)) h
   | none=>.bad
 | _=>.bad
noncomputable def opSl(x:D)(l u:Option Int)(h:Hd):R D:=match x with
 | .tup xs=>.ok (.tup (cutD xs l u)) h
 | .str y=>if y.length≤sizeLine then .ok (.str (StrLaws.sliceText y l u)) h else .bad
 | d=>match lstOf d h with
   | some xs=>newO (.lst (cutD xs l u)) h
   | none=>.bad
noncomputable def tyOf(d:D)(h:Hd):Option String:=match d with
 | .int _=>some "int"
 | .str _=>some "str"
 | .bl _=>some "bool"
 | .non=>some "NoneType"
 | .tup _=>some "tuple"
 | d=>(lstOf d h).map fun _ => "list"
noncomputable def isKind (t T:String):Option Bool:=if T∈["int", "str", "bool", "tuple", "list"]∧t∈["int", "str", "bool", "tuple", "list", "NoneType"] then some (t==T || (t == "bool" && T == "int")) else none
noncomputable def intsOf:List D→Option (List Int)
 | []=>some []
 | .int i::r=>(intsOf r).map fun z=>i::z
 | _=>none
noncomputable def blsOf:List D→Option (List Bool)
 | []=>some []
 | .bl i::r=>(blsOf r).map fun z=>i::z
 | _=>none
noncomputable def strsOf:List D→Option (List Str)
 | []=>some []
 | .str i::r=>(strsOf r).map fun z=>i::z
 | _=>none
noncomputable def keyStrs:List (Key×D)→Option (List Str)
 | []=>some []
 | (.inr x,_)::r=>(keyStrs r).map fun z=>x::z
 | _=>none
noncomputable def putS(x:Str):List Str→List Str
 | []=>[x]
 | y::r=>if ltCps y.cps.toList x.cps.toList then y::putS x r else x::y::r
noncomputable def sortS:List Str→List Str
 | []=>[]
 | x::r=>putS x (sortS r)
noncomputable def bLen(xs:List D)(h:Hd):R D:=match xs with
 | [.str y]=>if y.length≤sizeLine then .ok (.int y.length) h else .bad
 | [d]=>R.ofO ((seqOf d h).map fun xs=>.int xs.length) h
 | _=>.bad
noncomputable def bIsi(xs:List D)(h:Hd):R D:=match xs with
 | [d,.ty T]=>R.ofO ((tyOf d h).bind fun t=>(isKind t T).map .bl) h
 | _=>.bad
noncomputable def bInt(xs:List D)(h:Hd):R D:=match xs with
 | [.int i]=>.ok (.int i) h
 | [.bl b]=>.ok (.int (if b then 1 else 0)) h
 | _=>.bad
noncomputable def bTup(xs:List D)(h:Hd):R D:=match xs with
 | [.tup xs]=>.ok (.tup xs) h
 | [d]=>R.ofO ((lstOf d h).map .tup) h
 | _=>.bad
noncomputable def bLst(xs:List D)(h:Hd):R D:=match xs with
 | [d]=>match seqOf d h with
   | some xs=>newO (.lst xs) h
   | none=>.bad
 | _=>.bad
noncomputable def bSum(xs:List D)(h:Hd):R D:=match xs with
 | [d]=>R.ofO (((lstOf d h).bind intsOf).map fun ns=>.int ns.sum) h
 | _=>.bad
noncomputable def bAll(xs:List D)(h:Hd):R D:=match xs with
 | [d]=>R.ofO (((lstOf d h).bind blsOf).map fun bs=>.bl (bs.all id)) h
 | _=>.bad
noncomputable def bSorted(GD:Str→Option (List (Key×D)))(xs:List D)(h:Hd):R D:=match xs with
 | [d]=>match (dicOf GD d h).bind keyStrs with
   | some ss=>if ss.length<64∧ss.all PyData.strOk=true then newO (.lst ((sortS ss).map .str)) h else .bad
   | none=>.bad
 | _=>.bad
noncomputable def bMaxd(x d:D)(h:Hd):R D:=match d with
 | .int d=>R.ofO (((lstOf x h).bind intsOf).map fun ns=>.int (maxZ ns d)) h
 | _=>.bad
noncomputable def bMx(xs:List D)(h:Hd):R D:=match xs with
 | [.int i,.int j]=>.ok (.int (if j > i then j else i)) h
 | [d]=>match (lstOf d h).bind intsOf with
   | some ns=>if ns≠[] then .ok (.int (maxZ ns 0)) h else .bad
   | none=>.bad
 | _=>.bad
noncomputable def bltD(GD:Str→Option (List (Key×D))):Bf→List D→Hd→R D
 | .len=>bLen
 | .isi=>bIsi
 | .int=>bInt
 | .tup=>bTup
 | .lst=>bLst
 | .sum=>bSum
 | .all=>bAll
 | .srt=>bSorted GD
 | .mx=>bMx
noncomputable def bTrev(x:D)(h:Hd):R D:=match x with
 | .tup (y::ys)=>.ok (.tup (y::ys).reverse) h
 | _=>.bad
noncomputable def isTp:D→Bool
 | .tup _=>true
 | _=>false
noncomputable def bTix(x y:D)(h:Hd):R D:=match x,y with
 | .tup xs,.str z=>match strsOf xs with
   | some ss=>R.ofO ((Tx.place z ss).map fun (j:Nat)=>.int (j:Int)) h
   | none=>.bad
 | _,_=>.bad
noncomputable def pairsD:List D→Option (List (Key×D))
 | []=>some []
 | k::v::r=>match keyOf k,pairsD r with
   | some k,some r=>some ((k,v)::r)
   | _,_=>none
 | _=>none
noncomputable def mergeD(kvs more:List (Key×D)):List (Key×D):=more.foldl (fun acc kv=>putD acc kv.1 kv.2) kvs
noncomputable def mApp(i:Nat)(ys xs:List D)(h:Hd):R D:=match xs with
 | [d]=>if ys.length<sizeLine then .ok .non (h.set i (.lst (ys++[d]))) else .bad
 | _=>.bad
noncomputable def mExt(i:Nat)(ys xs:List D)(h:Hd):R D:=match xs with
 | [.ref j]=>match h[j]? with
   | some (.lst zs)=>if ys.length+zs.length≤sizeLine then .ok .non (h.set i (.lst (ys++zs))) else .bad
   | _=>.bad
 | [.tup zs]=>if ys.length+zs.length≤sizeLine then .ok .non (h.set i (.lst (ys++zs))) else .bad
 | _=>.bad
noncomputable def mPop(i:Nat)(ys xs:List D)(h:Hd):R D:=match xs with
 | []=>match ys[ys.length - 1]? with
   | some y=>.ok y (h.set i (.lst ys.dropLast))
   | none=>.bad
 | _=>.bad
noncomputable def mRev(i:Nat)(ys xs:List D)(h:Hd):R D:=match xs with
 | []=>.ok .non (h.set i (.lst ys.reverse))
 | _=>.bad
noncomputable def mClr(i:Nat)(ys xs:List D)(h:Hd):R D:=match xs with
 | []=>.ok .non (h.set i (.lst []))
 | _=>.bad
noncomputable def mthD:Mf→Nat→List D→List D→Hd→R D
 | .app=>mApp
 | .ext=>mExt
 | .pop=>mPop
 | .rev=>mRev
 | .clr=>mClr
noncomputable def methD(m:Mf)(o:D)(xs:List D)(h:Hd):R D:=match o with
 | .ref i=>match h[i]? with
   | some (.lst ys)=>mthD m i ys xs h
   | _=>.bad
 | _=>.bad
noncomputable def isLst(o:D)(h:Hd):Bool:=match o with
 | .ref i=>match h[i]? with
   | some (.lst _)=>true
   | _=>false
 | _=>false
noncomputable def putIx(o i v:D)(h:Hd):R Unit:=match o with
 | .ref a=>match h[a]? with
   | some (.lst xs)=>match i with
     | .int k=>match ixN xs.length k with
       | some j=>.ok () (h.set a (.lst (xs.set j v)))
       | none=>.bad
     | _=>.bad
   | some (.dic kvs)=>match keyOf i with
     | some k=>if kvs.length<sizeLine then .ok () (h.set a (.dic (putD kvs k v))) else .bad
     | none=>.bad
   | _=>.bad
 | _=>.bad
structure Wk where
 src:Option (Nat×List D)
 xs:List D
noncomputable def Wk.stays(src:Option (Nat×List D))(h:Hd):Bool:=match src with
 | none=>true
 | some (i,xs)=>decide (h[i]? = some (.lst xs))
noncomputable def walkOf(d:D)(h:Hd):Option Wk:=match d with
 | .tup xs=>some ⟨none,xs⟩
 | .ro xs=>some ⟨none,xs⟩
 | .ref i=>match h[i]? with
   | some (.lst xs)=>some ⟨some (i,xs),xs⟩
   | _=>none
 | .str y=>if y.length≤sizeLine then some ⟨none,y.cps.toList.map fun c=>.str ⟨#[c]⟩⟩ else none
 | _=>none
noncomputable def walkL(d:D)(h:Hd):Option Wk:=match d with
 | .ro xs=>some ⟨none,xs⟩
 | .ref i=>match h[i]? with
   | some (.lst xs)=>some ⟨some (i,xs),xs⟩
   | _=>none
 | _=>none
noncomputable def walkT(d:D)(h:Hd):Option Wk:=match d with
 | .tup xs=>some ⟨none,xs⟩
 | .ref i=>match h[i]? with
   | some (.lst xs)=>some ⟨some (i,xs),xs⟩
   | _=>none
 | _=>none
noncomputable def upFrom(lo:Int)(n:Nat):List D:=(List.range n).map fun (k:Nat)=>.int (lo+(k:Int))
noncomputable def enumD(xs:List D):List D:=xs.mapIdx fun k x=>.tup [.int (k:Int),x]
noncomputable def enumD1(xs:List D):List D:=xs.mapIdx fun k x=>.tup [.int ((k+1:Nat):Int),x]
noncomputable def keyD:Key→D
 | .inl i=>.int i
 | .inr x=>.str x
noncomputable def frzD(x:D)(h:Hd):R Wk:=match x with
 | .ref i=>match h[i]? with
   | some (.dic kvs)=>.ok ⟨none,kvs.map fun p=>keyD p.1⟩ (h.set i (.fdic kvs))
   | some (.fdic kvs)=>.ok ⟨none,kvs.map fun p=>keyD p.1⟩ h
   | _=>.bad
 | _=>.bad
noncomputable def small62(i:Int):Bool:=decide (-(2 ^ 62)≤i)&&decide (i<2 ^ 62)
noncomputable def setAll:List Nat→List D→Ev→Ev
 | i::is,x::xs,ρ=>setAll is xs (ρ.set i (some x))
 | _,_,ρ=>ρ
noncomputable def bindT(g:Tg)(d:D)(ρ:Ev):Option Ev:=match g with
 | .nm i=>some (ρ.set i (some d))
 | .two i j=>match d with
   | .tup [a,b]=>some ((ρ.set i (some a)).set j (some b))
   | _=>none
 | .many is=>match d with
   | .tup xs=>if xs.length=is.length then some (setAll is xs ρ) else none
   | _=>none
noncomputable def captD(js:List (Option Nat))(ρ:Ev):Ev:=js.map fun o=>o.bind fun j=>(ρ[j]?).join
inductive Fl where
 | nx|bk|ct|rt (d:D)
noncomputable def forL(src:Option (Nat×List D))(g:Tg)(body:Ev→Hd→R (Fl×Ev)):List D→Ev→Hd→R (Fl×Ev)
 | [],ρ,h=>if Wk.stays src h then .ok (.nx,ρ) h else .bad
 | d::ds,ρ,h=>if Wk.stays src h then match bindT g d ρ with
     | none=>.bad
     | some ρ1=>(body ρ1 h).bind fun p h2=>match p with
       | (.nx,ρ2)=>forL src g body ds ρ2 h2
       | (.ct,ρ2)=>forL src g body ds ρ2 h2
       | (.bk,ρ2)=>.ok (.nx,ρ2) h2
       | (.rt d,ρ2)=>.ok (.rt d,ρ2) h2
   else .bad
noncomputable def whileL(test:Ev→Hd→R Bool)(body:Ev→Hd→R (Fl×Ev)):Nat→Ev→Hd→R (Fl×Ev)
 | 0,_,_=>.bad
 | n+1,ρ,h=>(test ρ h).bind fun b h1=>if b then (body ρ h1).bind fun p h2=>match p with
     | (.nx,ρ2)=>whileL test body n ρ2 h2
     | (.ct,ρ2)=>whileL test body n ρ2 h2
     | (.bk,ρ2)=>.ok (.nx,ρ2) h2
     | (.rt d,ρ2)=>.ok (.rt d,ρ2) h2
   else .ok (.nx,ρ) h1
noncomputable def R.plain{α:Type}:R α→R α
 | .exc _ _=>.bad
 | r=>r
noncomputable def compL(src:Option (Nat×List D))(g:Tg)(test:Ev→Hd→R Bool)(elt:Ev→Hd→R D):List D→Ev→List D→Hd→R (List D)
 | [],_,acc,h=>if Wk.stays src h then .ok acc h else .bad
 | d::ds,ρ,acc,h=>if Wk.stays src h∧acc.length<sizeLine then match bindT g d ρ with
     | none=>.bad
     | some ρ1=>(test ρ1 h).plain.bind fun b h1=>if b then (elt ρ1 h1).plain.bind fun x h2=>compL src g test elt ds ρ (acc++[x]) h2 else compL src g test elt ds ρ acc h1
   else .bad
noncomputable def mnm (C m:Str):Str:=C++(Ω "." ++ m)
noncomputable def insOf(d:D)(h:Hd):Option (Str×List (Str×D)):=match d with
 | .ref i=>match h[i]? with
   | some (.ins C fs)=>some (C,fs)
   | _=>none
 | _=>none
noncomputable def getA(Cs:List Str)(f:Str)(x:D)(h:Hd):R D:=match insOf x h with
 | some (C,fs)=>if C∈Cs then R.ofO (fs.lookup f) h else .bad
 | none=>.bad
noncomputable def putA(f:Str)(v:D):List (Str×D)→List (Str×D)
 | []=>[(f,v)]
 | (g,x)::r=>if g=f then (g,v)::r else (g,x)::putA f v r
noncomputable def setA(Cs:List Str)(f:Str)(x d:D)(h:Hd):R D:=match x with
 | .ref i=>match h[i]? with
   | some (.ins C fs)=>if C∈Cs∧fs.length<1000 then .ok .non (h.set i (.ins C (putA f d fs))) else .bad
   | _=>.bad
 | _=>.bad
noncomputable def newI (Cf:Str→List D→Hd→R D) (C:Str) (xs:List D) (h:Hd):R D:=(Cf (mnm C (Ω "__init__")) (.ref h.length::xs) (h++[.ins C []])).bind fun d h2=>match d with
 | .non=>.ok (.ref h.length) h2
 | _=>.bad
structure Tb where
 G:Str→Option D
 GD:Str→Option (List (Key×D))
 C:Str→List D→Hd→R D
 L:Nat
mutual
noncomputable def ev(T:Tb):Ex→Ev→Hd→R D
 | .var i,ρ,h=>R.ofO (ρ[i]?).join h
 | .cst d,_,h=>.ok d h
 | .glo x,_,h=>R.ofO (T.G x) h
 | .bin op a b,ρ,h=>(ev T a ρ h).bind fun x h1=>(ev T b ρ h1).bind fun y h2=>opB op x y h2
 | .cmp op a b,ρ,h=>(ev T a ρ h).bind fun x h1=>(ev T b ρ h1).bind fun y h2=>opC T.GD op x y h2
 | .cmp2 op op' a b c,ρ,h=>(ev T a ρ h).bind fun x h1=>(ev T b ρ h1).bind fun y h2=>(opC T.GD op x y h2).bind fun r h3=>match r with
   | .bl true=>(ev T c ρ h3).bind fun z h4=>opC T.GD op' y z h4
   | .bl false=>.ok (.bl false) h3
   | _=>.bad
 | .neg a,ρ,h=>(ev T a ρ h).bind fun x h1=>match x with
   | .int i=>.ok (.int (-i)) h1
   | _=>.bad
 | .nt a,ρ,h=>(ev T a ρ h).bind fun x h1=>match x with
   | .bl b=>.ok (.bl (!b)) h1
   | _=>.bad
 | .ands es,ρ,h=>evAnd T es ρ h
 | .ors es,ρ,h=>evOr T es ρ h
 | .ite c a b,ρ,h=>(tst T c ρ h).bind fun c h1=>if c then ev T a ρ h1 else ev T b ρ h1
 | .tupl es,ρ,h=>(evs T es ρ h).bind fun xs h1=>if xs.length≤sizeLine then .ok (.tup xs) h1 else .bad
 | .lstl es,ρ,h=>(evs T es ρ h).bind fun xs h1=>if xs.length≤sizeLine then newO (.lst xs) h1 else .bad
 | .ix a i,ρ,h=>(ev T a ρ h).bind fun x h1=>(ev T i ρ h1).bind fun y h2=>opIx T.GD x y h2
 | .sl a lo hi,ρ,h=>(ev T a ρ h).bind fun x h1=>(evo T lo ρ h1).bind fun l h2=>(evo T hi ρ h2).bind fun u h3=>opSl x l u h3
 | .blt f es,ρ,h=>(evs T es ρ h).bind fun xs h1=>bltD T.GD f xs h1
 | .call f es,ρ,h=>(evs T es ρ h).bind fun xs h1=>T.C f xs h1
 | .meth m o es,ρ,h=>(ev T o ρ h).bind fun x h1=>if isLst x h1 then (evs T es ρ h1).bind fun xs h2=>methD m x xs h2 else .bad
 | .comp _ js it g c e,ρ,h=>(evi T it ρ h).bind fun w h1=>(compL w.src g (tsto T c) (ev T e) w.xs (captD js ρ) [] h1).bind fun xs h2=>newO (.lst xs) h2
 | .sorts e,ρ,h=>(ev T e ρ h).bind fun x h1=>match (lstOf x h1).bind strsOf with
   | some ss=>if ss.length<64 then newO (.lst ((sortS ss.eraseDups).map .str)) h1 else .bad
   | none=>.bad
 | .maxd e d,ρ,h=>(ev T e ρ h).bind fun x h1=>(ev T d ρ h1).bind fun y h2=>bMaxd x y h2
 | .dictl ps,ρ,h=>(evs T ps ρ h).bind fun xs h1=>match pairsD xs with
   | some kvs=>if kvs.length≤15 then newO (.dic (mergeD [] kvs)) h1 else .bad
   | none=>.bad
 | .att Cs o f,ρ,h=>(ev T o ρ h).bind fun x h1=>getA Cs f x h1
 | .mk C es,ρ,h=>(evs T es ρ h).bind fun xs h1=>newI T.C C xs h1
 | .mcl C m o es,ρ,h=>(ev T o ρ h).bind fun x h1=>match insOf x h1 with
   | some (C',fs)=>if C'=C∧fs.lookup m=none then (evs T es ρ h1).bind fun xs h2=>T.C (mnm C m) (x::xs) h2 else .bad
   | none=>.bad
 | .any,_,_=>.bad
 | .trev e,ρ,h=>(ev T e ρ h).bind fun x h1=>bTrev x h1
 | .tix o e,ρ,h=>(ev T o ρ h).bind fun x h1=>if isTp x then (ev T e ρ h1).bind fun y h2=>bTix x y h2 else .bad
noncomputable def evs(T:Tb):Exs→Ev→Hd→R (List D)
 | .nil,_,h=>.ok [] h
 | .cons e es,ρ,h=>(ev T e ρ h).bind fun x h1=>(evs T es ρ h1).bind fun xs h2=>.ok (x::xs) h2
noncomputable def evAnd(T:Tb):Exs→Ev→Hd→R D
 | .nil,_,_=>.bad
 | .cons e es,ρ,h=>match es with
   | .nil=>ev T e ρ h
   | .cons _ _=>(ev T e ρ h).bind fun x h1=>match x with
     | .bl true=>evAnd T es ρ h1
     | .bl false=>.ok (.bl false) h1
     | _=>.bad
noncomputable def evOr(T:Tb):Exs→Ev→Hd→R D
 | .nil,_,_=>.bad
 | .cons e es,ρ,h=>match es with
   | .nil=>ev T e ρ h
   | .cons _ _=>(ev T e ρ h).bind fun x h1=>match x with
     | .bl true=>.ok (.bl true) h1
     | .bl false=>evOr T es ρ h1
     | _=>.bad
noncomputable def evo(T:Tb):Option Ex→Ev→Hd→R (Option Int)
 | none,_,h=>.ok none h
 | some e,ρ,h=>(ev T e ρ h).bind fun x h1=>match x with
   | .int i=>.ok (some i) h1
   | _=>.bad
noncomputable def tst(T:Tb):Tx→Ev→Hd→R Bool
 | .ex e,ρ,h=>(ev T e ρ h).bind fun x h1=>R.ofO (truD T.GD x h1) h1
 | .ands ts,ρ,h=>tstAnd T ts ρ h
 | .ors ts,ρ,h=>tstOr T ts ρ h
 | .nt a,ρ,h=>(tst T a ρ h).bind fun c h1=>.ok (!c) h1
noncomputable def tstAnd(T:Tb):Txs→Ev→Hd→R Bool
 | .one t,ρ,h=>tst T t ρ h
 | .cons t ts,ρ,h=>(tst T t ρ h).bind fun c h1=>if c then tstAnd T ts ρ h1 else .ok false h1
noncomputable def tstOr(T:Tb):Txs→Ev→Hd→R Bool
 | .one t,ρ,h=>tst T t ρ h
 | .cons t ts,ρ,h=>(tst T t ρ h).bind fun c h1=>if c then .ok true h1 else tstOr T ts ρ h1
noncomputable def tsto(T:Tb):Option Tx→Ev→Hd→R Bool
 | none,_,h=>.ok true h
 | some e,ρ,h=>tst T e ρ h
noncomputable def evi(T:Tb):Ix→Ev→Hd→R Wk
 | .pl e,ρ,h=>(ev T e ρ h).bind fun x h1=>R.ofO (walkOf x h1) h1
 | .rng e,ρ,h=>(ev T e ρ h).bind fun x h1=>match x with
   | .int j=>if small62 j then .ok ⟨none,upFrom 0 j.toNat⟩ h1 else .bad
   | _=>.bad
 | .rng2 a b,ρ,h=>(ev T a ρ h).bind fun x h1=>(ev T b ρ h1).bind fun y h2=>match x,y with
   | .int i,.int j=>if small62 i&&small62 j then .ok ⟨none,upFrom i (j - i).toNat⟩ h2 else .bad
   | _,_=>.bad
 | .enu e,ρ,h=>(ev T e ρ h).bind fun x h1=>R.ofO ((walkL x h1).map fun w=>⟨w.src,enumD w.xs⟩) h1
 | .rev e,ρ,h=>(ev T e ρ h).bind fun x h1=>R.ofO ((walkT x h1).map fun w=>⟨w.src,w.xs.reverse⟩) h1
 | .en1 e,ρ,h=>(ev T e ρ h).bind fun x h1=>match x with
   | .tup xs=>.ok ⟨none,enumD1 xs⟩ h1
   | _=>.bad
 | .dk e,ρ,h=>(ev T e ρ h).bind fun x h1=>frzD x h1
end
mutual
noncomputable def xs1(T:Tb):Sx→Ev→Hd→R (Fl×Ev)
 | .ret e,ρ,h=>(ev T e ρ h).bind fun x h1=>.ok (.rt x,ρ) h1
 | .set g e,ρ,h=>(ev T e ρ h).bind fun x h1=>(R.ofO (bindT g x ρ) h1).bind fun ρ1 h2=>.ok (.nx,ρ1) h2
 | .put o i e,ρ,h=>(ev T e ρ h).bind fun x h1=>(ev T o ρ h1).bind fun y h2=>(ev T i ρ h2).bind fun z h3=>(putIx y z x h3).bind fun _ h4=>.ok (.nx,ρ) h4
 | .aug i op e,ρ,h=>(R.ofO (ρ[i]?).join h).bind fun x h1=>(ev T e ρ h1).bind fun y h2=>match op,x,y with
   | .Add,.int a,.int b=>.ok (.nx,ρ.set i (some (.int (a+b)))) h2
   | _,_,_=>.bad
 | .drp e,ρ,h=>(ev T e ρ h).bind fun _ h1=>.ok (.nx,ρ) h1
 | .iff c a b,ρ,h=>(tst T c ρ h).bind fun t h1=>if t then xs2 T a ρ h1 else xs2 T b ρ h1
 | .whl c b,ρ,h=>whileL (tst T c) (xs2 T b) T.L ρ h
 | .forr g it b,ρ,h=>(evi T it ρ h).bind fun w h1=>forL w.src g (xs2 T b) w.xs ρ h1
 | .pas,ρ,h=>.ok (.nx,ρ) h
 | .brk,ρ,h=>.ok (.bk,ρ) h
 | .cnt,ρ,h=>.ok (.ct,ρ) h
 | .seta Cs o f e,ρ,h=>(ev T e ρ h).bind fun d h1=>(ev T o ρ h1).bind fun x h2=>(setA Cs f x d h2).bind fun _ h3=>.ok (.nx,ρ) h3
 | .auga Cs o f e,ρ,h=>(ev T o ρ h).bind fun x h1=>(getA Cs f x h1).bind fun v h2=>(ev T e ρ h2).bind fun y h3=>match v,y with
   | .int a,.int b=>if (insOf x h1).map (·.1)=(insOf x h3).map (·.1) then (setA Cs f x (.int (a+b)) h3).bind fun _ h4=>.ok (.nx,ρ) h4 else .bad
   | _,_=>.bad
 | .any,_,_=>.bad
noncomputable def xs2(T:Tb):Sxs→Ev→Hd→R (Fl×Ev)
 | .nil,ρ,h=>.ok (.nx,ρ) h
 | .cons s r,ρ,h=>(xs1 T s ρ h).bind fun p h1=>match p with
   | (.nx,ρ1)=>xs2 T r ρ1 h1
   | p=>.ok p h1
end
structure Fd where
 ps:List Str
 N:List Str
 body:Sxs
structure Pg where
 tb:List (Str×Fd)
 G:Str→Option D
 GD:Str→Option (List (Key×D))
 L:Nat
 ms:List (Str×Fd):=[]
noncomputable def Pg.look(P:Pg)(f:Str):Option Fd:=match P.tb.lookup f with
 | some fd=>some fd
 | none=>P.ms.lookup f
noncomputable def startD(N:List Str)(ds:List D):Ev:=ds.map some++List.replicate (N.length - ds.length) none
noncomputable def retOf:R (Fl×Ev)→R D
 | .ok (.rt d,_) h=>.ok d h
 | .ok (.nx,_) h=>.ok .non h
 | _=>.bad
noncomputable def run(P:Pg):Nat→Str→List D→Hd→R D
 | 0,_,_,_=>.bad
 | n+1,f,ds,h=>match P.look f with
   | none=>.bad
   | some fd=>if ds.length=fd.ps.length then retOf (xs2 ⟨P.G,P.GD,run P n,P.L⟩ fd.body (startD fd.N ds) h) else .bad
noncomputable def Pg.tbl(P:Pg)(n:Nat):Tb:=⟨P.G,P.GD,run P n,P.L⟩
end IV
end
section
set_option tactic.hygienic false
namespace IV
open PySem PySem.Spec PyProof.Rows L2
noncomputable def FzL(K:PySem.W.Frag)(H:Hp)(a:Addr)(xs:List V):Prop :=
 (∃ o,H a=some (.frz o (.lst xs)))∨∃ (o:Obj) (its:Array Value) (n:Nat),K.lookup a=some o∧o.cls=.type "list" ∧ o.dict=none∧o.data=.seq its n∧its.size≤sizeLine∧Vals xs its.toList
theorem FzL.sq{K:PySem.W.Frag}{H:Hp}{a:Addr}{xs:List V}(h:FzL K H a xs):SqL K H a xs:=h.elim (fun ⟨o,h⟩=>.inl (.inr ⟨o,h⟩)) .inr
structure Yx where
 K:PySem.W.Frag
 mg:Str→Option Value
mutual
inductive RD(Y:Yx)(H:Hp)(μ:List Addr):D→V→Prop
 | non:RD Y H μ .non .non
 | bl (b:Bool):RD Y H μ (.bl b) (.bl b)
 | int (i:Int):RD Y H μ (.int i) (.int i)
 | str (x:Str) (ok:PyData.strOk x=true):RD Y H μ (.str x) (.str x)
 | tup {a:Addr}{vs:List V}{ds:List D}:SqT Y.K H a vs→RDs Y H μ ds vs→RD Y H μ (.tup ds) (.ref a)
 | ref {i:Nat}{a:Addr}:μ[i]? = some a→RD Y H μ (.ref i) (.ref a)
 | ty (n:String):RD Y H μ (.ty n) (.ty n)
 | ro {a:Addr}{vs:List V}{ds:List D}:FzL Y.K H a vs→RDs Y H μ ds vs→RD Y H μ (.ro ds) (.ref a)
 | kd {x:Str}{a:Addr}:Y.mg x=some (.ref a)→RD Y H μ (.kd x) (.ref a)
inductive RDs(Y:Yx)(H:Hp)(μ:List Addr):List D→List V→Prop
 | nil:RDs Y H μ [] []
 | cons {d:D}{v:V}{ds:List D}{vs:List V}:RD Y H μ d v→RDs Y H μ ds vs→RDs Y H μ (d::ds) (v::vs)
end
inductive RKs(Y:Yx)(H:Hp)(μ:List Addr){κ:Type}:List (κ×D)→List (κ×V)→Prop
 | nil:RKs Y H μ [] []
 | cons {k:κ}{d:D}{v:V}{ds:List (κ×D)}{vs:List (κ×V)}:RD Y H μ d v→RKs Y H μ ds vs→RKs Y H μ ((k,d)::ds) ((k,v)::vs)
noncomputable def RO(Y:Yx)(H:Hp)(μ:List Addr)(a:Addr):DO→Prop
 | .lst ds=>∃ vs,H a=some (.lst vs)∧RDs Y H μ ds vs
 | .dic kvs=>∃ kvs',H a=some (.dK kvs')∧RKs Y H μ kvs kvs'
 | .ins C fs=>∃ Ca dx fs',H a=some (.ins Ca dx fs')∧Y.mg C=some (.ref Ca)∧RKs Y H μ fs fs'
 | .fdic kvs=>∃ o kvs',H a=some (.frz o (.dK kvs'))∧RKs Y H μ kvs kvs'
noncomputable def KeysOk(kvs:List (Key×D)):Prop:=∀ p∈kvs,∀ x,p.1=.inr x→PyData.strOk x=true
noncomputable def DOk:DO→Prop
 | .dic kvs=>KeysOk kvs
 | .fdic kvs=>KeysOk kvs
 | _=>True
structure RH(Y:Yx)(H:Hp)(μ:List Addr)(h:Hd):Prop where
 len:h.length=μ.length
 nd:μ.Nodup
 ob:∀ (i:Nat) (o:DO) (a:Addr),h[i]? = some o→μ[i]? = some a→RO Y H μ a o
 ks:∀ (i:Nat) (o:DO),h[i]? = some o→DOk o
structure Gr(H:Hp)(μ:List Addr)(H':Hp)(μ':List Addr):Prop where
 pre:∀ (i:Nat) (a:Addr),μ[i]? = some a→μ'[i]? = some a
 new:∀ a∈μ',a∈μ∨H a=none
 keep:∀ b o,b ∉ μ→H b=some o→H' b=some o
 fz:∀ b o u,H b=some (.frz o u)→H' b=some (.frz o u)
theorem Gr.refl{H:Hp}{μ:List Addr}:Gr H μ H μ:=⟨fun _ _ h=>h,fun _ h=>.inl h,fun _ _ _ h=>h,fun _ _ _ h=>h⟩
theorem Gr.trans{H H1 H2:Hp}{μ μ1 μ2:List Addr}(a:Gr H μ H1 μ1)(b:Gr H1 μ1 H2 μ2):Gr H μ H2 μ2:=by
 refine ⟨fun i x h=>b.pre i x (a.pre i x h),fun x hx=>?_,fun x o hx h=>?_,fun x o u h=>b.fz x o u (a.fz x o u h)⟩
 · rcases b.new x hx with h|h
   · exact a.new x h
   · by_cases hm:x∈μ
     · exact .inl hm
     · cases q:H x with
       | none=>exact .inr rfl
       | some o=>rw [a.keep x o hm q] at h;cases h
 · refine b.keep x o (fun hm=>?_) (a.keep x o hx h)
   rcases a.new x hm with z|z
   · exact hx z
   · rw [h] at z;cases z
noncomputable def Mu:Option HO→Prop
 | some (.lst _)|some (.dK _)|some (.ins _ _ _)|some (.frz _ (.dK _))=>True
 | _=>False
theorem RO.mut{Y:Yx}{H:Hp}{μ:List Addr}{a:Addr}{o:DO}(h:RO Y H μ a o):Mu (H a):=by
 cases o with
 | lst ds=>obtain ⟨vs,e,_⟩:=h;rw [e];trivial
 | dic ds=>obtain ⟨vs,e,_⟩:=h;rw [e];trivial
 | ins C ds=>obtain ⟨_,_,_,e,_⟩:=h;rw [e];trivial
 | fdic ds=>obtain ⟨_,_,e,_⟩:=h;rw [e];trivial
theorem RH.mem{Y:Yx}{H:Hp}{μ:List Addr}{h:Hd}(r:RH Y H μ h){a:Addr}(ha:a∈μ):∃ (i:Nat) (o:DO),μ[i]? = some a∧h[i]? = some o∧RO Y H μ a o:=by
 obtain ⟨i,hi⟩:=List.mem_iff_getElem?.mp ha
 have hl:i<h.length:=by
   rw [r.len]
   exact (Ωb.mp hi).1
 exact ⟨i,h[i],hi,Ωg hl,r.ob i _ a (Ωg hl) hi⟩
theorem RH.mut{Y:Yx}{H:Hp}{μ:List Addr}{h:Hd}(r:RH Y H μ h){a:Addr}(ha:a∈μ):Mu (H a):=let ⟨_,_,_,_,q⟩:=r.mem ha;q.mut
theorem Gr.rdT{Y:Yx}{H H':Hp}{μ μ':List Addr}{h:Hd}(r:RH Y H μ h)(g:Gr H μ H' μ'){a:Addr}{xs:List V}(t:SqT Y.K H a xs):SqT Y.K H' a xs:=by
 rcases t with t|t
 · rcases t with t|⟨o,t⟩
   · exact .inl (.inl (g.keep a _ (fun hm=>by have:=r.mut hm;rw [t] at this;exact this) t))
   · exact .inl (.inr ⟨o,g.fz a _ _ t⟩)
 · exact .inr t
theorem Gr.rdF{Y:Yx}{H H':Hp}{μ μ':List Addr}{h:Hd}(r:RH Y H μ h)(g:Gr H μ H' μ'){a:Addr}{xs:List V}(t:FzL Y.K H a xs):FzL Y.K H' a xs:=by
 rcases t with ⟨o,t⟩|t
 · exact .inl ⟨o,g.fz a _ _ t⟩
 · exact .inr t
section
variable {Y:Yx}{H H':Hp}{μ μ':List Addr}{h:Hd}
mutual
theorem RD.mono(r:RH Y H μ h)(g:Gr H μ H' μ'):∀ {d:D}{v:V},RD Y H μ d v→RD Y H' μ' d v
 | _,_,.non=>.non
 | _,_,.bl b=>.bl b
 | _,_,.int i=>.int i
 | _,_,.str x ok=>.str x ok
 | _,_,.tup t s=>.tup (g.rdT r t) (RDs.mono r g s)
 | _,_,.ref e=>.ref (g.pre _ _ e)
 | _,_,.ty n=>.ty n
 | _,_,.ro t s=>.ro (g.rdF r t) (RDs.mono r g s)
 | _,_,.kd e=>.kd e
theorem RDs.mono(r:RH Y H μ h)(g:Gr H μ H' μ'):∀ {d:List D}{v:List V},RDs Y H μ d v→RDs Y H' μ' d v
 | _,_,.nil=>.nil
 | _,_,.cons a s=>.cons (RD.mono r g a) (RDs.mono r g s)
end
theorem RKs.mono{κ:Type}(r:RH Y H μ h)(g:Gr H μ H' μ'):∀ {d:List (κ×D)}{v:List (κ×V)},RKs Y H μ d v→RKs Y H' μ' d v
 | _,_,.nil=>.nil
 | _,_,.cons a s=>.cons (a.mono r g) (RKs.mono r g s)
theorem RDs.length:∀ {d:List D}{v:List V},RDs Y H μ d v→d.length=v.length
 | _,_,.nil=>rfl
 | _,_,.cons a s=>by rw [Ωs,Ωs,s.length]
theorem RKs.length{κ:Type}:∀ {d:List (κ×D)}{v:List (κ×V)},RKs Y H μ d v→d.length=v.length
 | _,_,.nil=>rfl
 | _,_,.cons a s=>by rw [Ωs,Ωs,s.length]
theorem RDs.get:∀ {ds:List D}{vs:List V},RDs Y H μ ds vs→∀ {i:Nat}{d:D},ds[i]? = some d→∃ v,vs[i]? = some v∧RD Y H μ d v
 | _,_,.nil,i,d,e=>by simp at e
 | _,_,.cons a s,0,d,e=>by cases e;exact ⟨_,rfl,a⟩
 | _,_,.cons a s,i+1,d,e=>by
   obtain ⟨v,h1,h2⟩:=RDs.get s (i:=i) (d:=d) (by simpa using e)
   exact ⟨v,by simpa using h1,h2⟩
theorem RDs.append:∀ {ds es:List D}{vs ws:List V},RDs Y H μ ds vs→RDs Y H μ es ws→RDs Y H μ (ds++es) (vs++ws)
 | _,_,_,_,.nil,s=>s
 | _,_,_,_,.cons a r,s=>.cons a (r.append s)
theorem RDs.take:∀ {ds:List D}{vs:List V} (n:Nat),RDs Y H μ ds vs→RDs Y H μ (ds.take n) (vs.take n)
 | _,_,0,_=>.nil
 | _,_,_+1,.nil=>.nil
 | _,_,n+1,.cons a s=>.cons a (s.take n)
theorem RDs.drop:∀ {ds:List D}{vs:List V} (n:Nat),RDs Y H μ ds vs→RDs Y H μ (ds.drop n) (vs.drop n)
 | _,_,0,s=>s
 | _,_,_+1,.nil=>.nil
 | _,_,n+1,.cons a s=>s.drop n
theorem RDs.reverse{ds:List D}{vs:List V}(s:RDs Y H μ ds vs):RDs Y H μ ds.reverse vs.reverse:=by
 have gen:∀ {ds es:List D}{vs ws:List V},RDs Y H μ ds vs→RDs Y H μ es ws→RDs Y H μ (ds.reverseAux es) (vs.reverseAux ws):=by
   intro ds
   induction ds with
   | nil=>intro es vs ws a b;cases a;exact b
   | cons d ds ih =>
     intro es vs ws a b
     cases a with
     | cons a s =>
       have z:=ih s (RDs.cons a b)
       exact z
 exact gen s .nil
theorem RDs.dropLast{ds:List D}{vs:List V}(s:RDs Y H μ ds vs):RDs Y H μ ds.dropLast vs.dropLast:=by
 rw [List.dropLast_eq_take,List.dropLast_eq_take,s.length]
 exact s.take _
theorem RDs.set{d:D}{v:V}(r:RD Y H μ d v):∀ {ds:List D}{vs:List V} (i:Nat),RDs Y H μ ds vs→RDs Y H μ (ds.set i d) (vs.set i v)
 | _,_,_,.nil=>.nil
 | _,_,0,.cons _ s=>.cons r s
 | _,_,i+1,.cons a s=>.cons a (RDs.set r i s)
theorem RDs.cut{ds:List D}{vs:List V}(s:RDs Y H μ ds vs)(lo hi:Option Int):RDs Y H μ (cutD ds lo hi) (cutV vs lo hi):=by
 unfold cutD cutV
 rw [s.length]
 exact (s.drop _).take _
theorem RDs.isEmpty{ds:List D}{vs:List V}(s:RDs Y H μ ds vs):ds.isEmpty=vs.isEmpty:=by cases s<;>rfl
theorem RDs.atI{ds:List D}{vs:List V}(s:RDs Y H μ ds vs){i:Int}{d:D}(e:L2.atI ds i=some d):∃ v,L2.atI vs i=some v∧RD Y H μ d v:=by
 unfold L2.atI at e ⊢
 rw [s.length] at e
 cases q:ixN vs.length i with
 | none=>rw [q] at e;cases e
 | some j =>
   rw [q] at e
   exact s.get (i:=j) e
theorem RKs.val{κ:Type}[DecidableEq κ]:∀ {ds:List (κ×D)}{vs:List (κ×V)},RKs Y H μ ds vs→∀ (k:κ),((ds.find? fun p=>decide (p.1=k))=none∧(vs.find? fun p=>decide (p.1=k))=none)∨∃ d v,(ds.find? fun p=>decide (p.1=k))=some (k,d)∧(vs.find? fun p=>decide (p.1=k))=some (k,v)∧RD Y H μ d v
 | _,_,.nil,k=>.inl ⟨rfl,rfl⟩
 | _,_,.cons (k:=k') (d:=d) (v:=v) a s,k=>by
   by_cases e:k'=k
   · subst e
     exact .inr ⟨d,v,by simp,by simp,a⟩
   · rcases s.val k with ⟨h1,h2⟩|⟨d,v,h1,h2,h3⟩
     · exact .inl ⟨by simp [e,h1],by simp [e,h2]⟩
     · exact .inr ⟨d,v,by simp [e,h1],by simp [e,h2],h3⟩
end
theorem ix_inj{α:Type}{l:List α}(hl:l.Nodup){i j:Nat}{x:α}(a:l[i]? = some x)(b:l[j]? = some x):i=j:=by
 obtain ⟨h1,e1⟩:=Ωb.mp a
 obtain ⟨h2,e2⟩:=Ωb.mp b
 exact (List.getElem_inj hl).mp (e1.trans e2.symm)
section
variable {Y:Yx}{H:Hp}{μ:List Addr}{h:Hd}
theorem Gr.lay{p:Addr}{o:HO}(hp:H p=none):Gr H μ (upd H p o) (μ++[p]):=by
 refine ⟨fun i a e=>?_,fun a ha=>?_,fun b u hb e=>?_,fun b u v e=>by rw [upd_ne (fun z=>by rw [z,hp] at e;cases e)];exact e⟩
 · rw [Ωe (Ωb.mp e).1];exact e
 · rcases ΩD.mp ha with z|z
   · exact .inl z
   · rw [Ωx.mp z];exact .inr hp
 · rw [upd_ne (fun z=>by rw [z,hp] at e;cases e)];exact e
theorem Gr.lay0{p:Addr}{o:HO}(hp:H p=none):Gr H μ (upd H p o) μ :=
 ⟨fun _ _ e=>e,fun a ha=>.inl ha,fun b u hb e=>by rw [upd_ne (fun z=>by rw [z,hp] at e;cases e)];exact e,fun b u v e=>by rw [upd_ne (fun z=>by rw [z,hp] at e;cases e)];exact e⟩
noncomputable def NF:Option HO→Prop
 | some (.frz _ _)=>False
 | _=>True
theorem Gr.write{p:Addr}{o:HO}(hp:p∈μ)(nf:NF (H p)):Gr H μ (upd H p o) μ :=
 ⟨fun _ _ e=>e,fun a ha=>.inl ha,fun b u hb e=>by rw [upd_ne (show b≠p from fun z=>hb (by rw [z];exact hp))];exact e,fun b u v e=>by rw [upd_ne (fun z=>by rw [z] at e;rw [e] at nf;exact nf)];exact e⟩
theorem RO.mono{H':Hp}{μ':List Addr}(r:RH Y H μ h)(g:Gr H μ H' μ'){a:Addr}{o:DO}(q:RO Y H μ a o)(e:H' a=H a):RO Y H' μ' a o:=by
 cases o with
 | lst ds=>obtain ⟨vs,z,s⟩:=q;exact ⟨vs,e.trans z,s.mono r g⟩
 | dic ds=>obtain ⟨vs,z,s⟩:=q;exact ⟨vs,e.trans z,s.mono r g⟩
 | ins C ds=>obtain ⟨a1,a2,a3,z,m,s⟩:=q;exact ⟨a1,a2,a3,e.trans z,m,s.mono r g⟩
 | fdic ds=>obtain ⟨o,vs,z,s⟩:=q;exact ⟨o,vs,e.trans z,s.mono r g⟩
theorem RH.keep{H':Hp}(r:RH Y H μ h)(g:Gr H μ H' μ)(k:∀ a∈μ,H' a=H a):RH Y H' μ h :=
 ⟨r.len,r.nd,fun i o a e1 e2=>(r.ob i o a e1 e2).mono r g (k a (Ωk e2)),r.ks⟩
theorem ks_app{o:DO}(k:∀ (i:Nat) (o:DO),h[i]? = some o→DOk o)(dk:DOk o):∀ (i:Nat) (o':DO),(h++[o])[i]? = some o'→DOk o':=by
 intro i o' e1
 by_cases hi:i<h.length
 · rw [Ωe hi] at e1
   exact k i o' e1
 · have hi':i=h.length:=by
     have:=(Ωb.mp e1).1
     simp at this
     omega
   subst hi'
   rw [Ωm (Ωq _)] at e1
   simp at e1
   subst e1
   exact dk
theorem RH.lay{p:Addr}{u:HO}{o:DO}(r:RH Y H μ h)(hp:H p=none)(n:RO Y (upd H p u) (μ++[p]) p o)(dk:DOk o:=by trivial):RH Y (upd H p u) (μ++[p]) (h++[o]):=by
 have np:p ∉ μ:=fun z=>by have:=r.mut z;rw [hp] at this;exact this
 refine ⟨by simp [r.len],?_,fun i o' a e1 e2=>?_,ks_app r.ks dk⟩
 · rw [List.nodup_append]
   refine ⟨r.nd,by simp,fun a ha b hb=>?_⟩
   rw [Ωx.mp hb]
   intro z
   exact np (z ▸ ha)
 · by_cases hi:i<h.length
   · rw [Ωe hi] at e1
     rw [Ωe (by rw [← r.len];exact hi)] at e2
     exact (r.ob i o' a e1 e2).mono r (Gr.lay hp) (upd_ne fun z=>np (z ▸ Ωk e2))
   · have hi':i=h.length:=by
       have:=(Ωb.mp e1).1
       simp at this
       omega
     subst hi'
     rw [Ωm (Ωq _)] at e1
     rw [Ωm (by rw [r.len];exact Ωq _)] at e2
     simp [r.len] at e1 e2
     subst e1
     subst e2
     exact n
theorem RH.lay0{p:Addr}{u:HO}(r:RH Y H μ h)(hp:H p=none):RH Y (upd H p u) μ h:=by
 have np:p ∉ μ:=fun z=>by have:=r.mut z;rw [hp] at this;exact this
 exact r.keep (Gr.lay0 hp) fun a ha=>upd_ne fun z=>np (z ▸ ha)
theorem RH.write{p:Addr}{i:Nat}{u:HO}{o:DO}(r:RH Y H μ h)(hp:μ[i]? = some p)(n:RO Y (upd H p u) μ p o)(nf:NF (H p))(dk:DOk o:=by trivial):RH Y (upd H p u) μ (h.set i o):=by
 have hm:p∈μ:=Ωk hp
 refine ⟨by simp [r.len],r.nd,fun j o' a e1 e2=>?_,fun j o' e1=>?_⟩
 rotate_right
 · by_cases hj:j=i
   · subst hj
     have hl:j<h.length:=by rw [r.len];exact (Ωb.mp hp).1
     rw [Ωl hl] at e1
     cases e1
     exact dk
   · rw [Ωc (Ne.symm hj)] at e1
     exact r.ks j o' e1
 by_cases hj:j=i
 · subst hj
   rw [hp] at e2
   cases e2
   have hl:j<h.length:=by rw [r.len];exact (Ωb.mp hp).1
   rw [Ωl hl] at e1
   cases e1
   exact n
 · rw [Ωc (Ne.symm hj)] at e1
   refine (r.ob j o' a e1 e2).mono r (Gr.write hm nf) (upd_ne fun z=>hj ?_)
   subst z
   exact ix_inj r.nd e2 hp
end
end IV
end
section
set_option tactic.hygienic false
namespace IV
open PySem PySem.Spec PyProof.Rows L2
noncomputable def Fin{α β:Type}(Y:Yx)(rel:Hp→List Addr→α→β→Prop)(H:Hp)(μ:List Addr)(r:R α)(Q:β→Hp→Prop)(E:XK):Prop:=match r with
 | .bad=>False
 | .ok a h'=>∀ b H' μ',Gr H μ H' μ'→RH Y H' μ' h'→rel H' μ' a b→Q b H'
 | .exc c h'=>∀ H' μ' C,Gr H μ H' μ'→RH Y H' μ' h'→Y.mg c=some (.ref C)→E (.ref C) none H'
section
variable {Y:Yx}{α β α' β':Type}{rel:Hp→List Addr→α→β→Prop}{rel':Hp→List Addr→α'→β'→Prop}{H H1:Hp}{μ μ1:List Addr}{E:XK}
theorem Fin.mono{r:R α}{Q:β→Hp→Prop}(g:Gr H μ H1 μ1)(f:Fin Y rel H μ r Q E):Fin Y rel H1 μ1 r Q E:=by
 cases r with
 | bad=>exact f
 | ok a h=>exact fun b H' μ' g'=>f b H' μ' (g.trans g')
 | exc c h=>exact fun H' μ' C g'=>f H' μ' C (g.trans g')
theorem Fin.bind{r:R α}{k:α→Hd→R α'}{Q:β'→Hp→Prop}{Q1:β→Hp→Prop}(f:Fin Y rel' H μ (r.bind k) Q E)
   (hk:∀ a h1 b H1 μ1,r=.ok a h1→Gr H μ H1 μ1→RH Y H1 μ1 h1→rel H1 μ1 a b→Fin Y rel' H1 μ1 (k a h1) Q E→Q1 b H1):Fin Y rel H μ r Q1 E:=by
 cases r with
 | bad=>exact f
 | ok a h=>exact fun b H' μ' g' rh rl=>hk a h b H' μ' rfl g' rh rl (Fin.mono g' f)
 | exc c h=>exact f
theorem Fin.ok{a:α}{b:β}{h:Hd}{Q:β→Hp→Prop}(f:Fin Y rel H μ (.ok a h) Q E)(rh:RH Y H μ h)(r:rel H μ a b):Q b H:=f b H μ Gr.refl rh r
theorem Fin.at{a:α}{b:β}{h:Hd}{Q:β→Hp→Prop}(f:Fin Y rel H μ (.ok a h) Q E)(g:Gr H μ H1 μ1)(rh:RH Y H1 μ1 h)(r:rel H1 μ1 a b):Q b H1:=f b H1 μ1 g rh r
theorem Fin.ofO{o:Option α}{h:Hd}{Q:β→Hp→Prop}(f:Fin Y rel H μ (R.ofO o h) Q E):∃ a,o=some a∧Fin Y rel H μ (.ok a h) Q E:=by
 cases o with
 | none=>exact f.elim
 | some a=>exact ⟨a,rfl,f⟩
theorem Fin.iff{c:Prop}[Decidable c]{r:R α}{Q:β→Hp→Prop}(f:Fin Y rel H μ (if c then r else .bad) Q E):c∧Fin Y rel H μ r Q E:=by
 by_cases h:c
 · rw [if_pos h] at f;exact ⟨h,f⟩
 · rw [if_neg h] at f;exact f.elim
theorem Fin.new{o:DO}{u:HO}{h:Hd}{Q:VK}{p:Addr}(f:Fin Y (RD Y) H μ (newO o h) Q E)(rh:RH Y H μ h)(hp:H p=none)(n:RO Y (upd H p u) (μ++[p]) p o)(dk:DOk o:=by trivial):Q (.ref p) (upd H p u) :=
 f.at (Gr.lay hp) (rh.lay hp n dk) (.ref (by rw [rh.len];simp))
theorem Fin.tup{ds:List D}{vs:List V}{h:Hd}{Q:VK}{p:Addr}(f:Fin Y (RD Y) H μ (.ok (.tup ds) h) Q E)(rh:RH Y H μ h)(hp:H p=none)(r:RDs Y H μ ds vs):Q (.ref p) (upd H p (.tup vs)) :=
 f.at (Gr.lay0 hp) (rh.lay0 hp) (.tup (.inl (.inl upd_same)) (r.mono rh (Gr.lay0 hp)))
theorem Fin.wrote{a:α}{b:β}{o:DO}{u:HO}{h:Hd}{Q:β→Hp→Prop}{i:Nat}{p:Addr}(f:Fin Y rel H μ (.ok a (h.set i o)) Q E)(rh:RH Y H μ h)(hp:μ[i]? = some p)(n:RO Y (upd H p u) μ p o)(r:rel (upd H p u) μ a b)(nf:NF (H p))(dk:DOk o:=by trivial):Q b (upd H p u) :=
 f.at (Gr.write (Ωk hp) nf) (rh.write hp n nf dk) r
end
section
variable {Y:Yx}{H:Hp}{μ:List Addr}{h:Hd}
theorem RD.lst{i:Nat}{xs:List D}{v:V}(rh:RH Y H μ h)(r:RD Y H μ (.ref i) v)(e:h[i]? = some (.lst xs)):∃ a vs,v=.ref a∧μ[i]? = some a∧H a=some (.lst vs)∧RDs Y H μ xs vs:=by
 cases r with
 | ref q =>
   obtain ⟨vs,h1,h2⟩:=rh.ob i _ _ e q
   exact ⟨_,vs,rfl,q,h1,h2⟩
theorem RD.dic{i:Nat}{xs:List (Key×D)}{v:V}(rh:RH Y H μ h)(r:RD Y H μ (.ref i) v)(e:h[i]? = some (.dic xs)):∃ a vs,v=.ref a∧μ[i]? = some a∧H a=some (.dK vs)∧RKs Y H μ xs vs:=by
 cases r with
 | ref q =>
   obtain ⟨vs,h1,h2⟩:=rh.ob i _ _ e q
   exact ⟨_,vs,rfl,q,h1,h2⟩
theorem RD.lstOf{d:D}{xs:List D}{v:V}(rh:RH Y H μ h)(r:RD Y H μ d v)(e:lstOf d h=some xs):∃ a vs,v=.ref a∧SqL Y.K H a vs∧RDs Y H μ xs vs:=by
 cases d with
 | ref i =>
   unfold IV.lstOf at e
   simp only at e
   split at e
   · cases e
     rename_i q
     obtain ⟨a,vs,h1,h2,h3,h4⟩:=r.lst rh q
     exact ⟨a,vs,h1,.of h3,h4⟩
   · cases e
 | ro ys =>
   cases e
   cases r with
   | ro q s=>exact ⟨_,_,rfl,q.sq,s⟩
 | _=>cases e
theorem RD.seqOf{d:D}{xs:List D}{v:V}(rh:RH Y H μ h)(r:RD Y H μ d v)(e:seqOf d h=some xs):∃ a vs,v=.ref a∧(SqL Y.K H a vs∨SqT Y.K H a vs)∧RDs Y H μ xs vs:=by
 by_cases ht:∃ ys,d=.tup ys
 · obtain ⟨ys,rfl⟩:=ht
   cases e
   cases r with
   | tup q s=>exact ⟨_,_,rfl,.inr q,s⟩
 · have e':IV.lstOf d h=some xs:=by
     cases d with
     | tup ys=>exact absurd ⟨ys,rfl⟩ ht
     | _=>exact e
   obtain ⟨a,vs,h1,h2,h3⟩:=r.lstOf rh e'
   exact ⟨a,vs,h1,.inl h2,h3⟩
theorem RD.int_inv{i:Int}{v:V}(r:RD Y H μ (.int i) v):v=.int i:=by cases r;rfl
theorem RD.str_inv{i:Str}{v:V}(r:RD Y H μ (.str i) v):v=.str i∧PyData.strOk i=true:=by cases r with|str x ok=>exact ⟨rfl,ok⟩
theorem RD.tup_inv{ds:List D}{v:V}(r:RD Y H μ (.tup ds) v):∃ a vs,v=.ref a∧SqT Y.K H a vs∧RDs Y H μ ds vs:=by cases r with|tup q s=>exact ⟨_,_,rfl,q,s⟩
theorem ok_append{x y:Str}(hx:PyData.strOk x=true)(hy:PyData.strOk y=true):PyData.strOk (x++y)=true:=by
 show (x.cps++y.cps).all _=true
 rw [Array.all_append]
 unfold PyData.strOk at hx hy
 rw [hx,hy];rfl
theorem ok_rep{x:Str}(hx:PyData.strOk x=true)(n:Nat):PyData.strOk (repS x n)=true:=by
 have gen:∀ (n:Nat) (a:Array Nat),a.all (·<0x110000)=true→((List.replicate n x.cps).foldl (·++·) a).all (·<0x110000)=true:=by
   intro n
   induction n with
   | zero=>intro a h;exact h
   | succ n ih =>
     intro a h
     rw [List.replicate_succ,List.foldl_cons]
     refine ih _ ?_
     rw [Array.all_append,h]
     exact hx
 exact gen n #[] (by simp)
theorem ok_mem{x:Str}(hx:PyData.strOk x=true){c:Nat}(h:c∈x.cps.toList):PyData.strOk ⟨#[c]⟩=true:=by
 unfold PyData.strOk at hx ⊢
 rw [Array.all_eq_true'] at hx
 have:=hx c (by simpa using h)
 simpa using this
theorem mem_atI{α:Type}{xs:List α}{i:Int}{x:α}(h:atI xs i=some x):x∈xs:=by
 unfold atI at h
 cases q:ixN xs.length i with
 | none=>rw [q] at h;cases h
 | some j =>
   rw [q] at h
   exact Ωk (i:=j) h
end
section
variable {X:Cx}{Y:Yx}{E:XK}
noncomputable def rB(Y:Yx)(E:XK)(f:D→D→Hd→R D):R2:=fun x y H Q=>∃ dx dy h μ,RH Y H μ h∧RD Y H μ dx x∧RD Y H μ dy y∧Fin Y (RD Y) H μ (f dx dy h) Q E
theorem Fin.int2{x y:D}{k:Int→Int→R D}{Q:VK}(f:Fin Y (RD Y) H μ (int2 x y k) Q E):∃ i j,x=.int i∧y=.int j∧Fin Y (RD Y) H μ (k i j) Q E:=by
 cases x with
 | int i =>
   cases y with
   | int j=>exact ⟨i,j,rfl,rfl,f⟩
   | _=>exact f.elim
 | _=>exact f.elim
theorem opB_ok(hY:Y.K=X.K)(op:Operator):OpR X (binaryOp op) (rB Y E (opB op)):=by
 intro pins s σ H x y v u Q I rx ry hh
 obtain ⟨dx,dy,h,μ,rh,r1,r2,f⟩:=hh
 cases op with
 | Add =>
   have f:Fin Y (RD Y) H μ (addB dx dy h) Q E:=f
   cases dx with
   | int i =>
     cases dy with
     | int j =>
       cases r1;cases r2
       exact op_add pins s σ H _ _ v u Q I rx ry ⟨_,_,rfl,rfl,f.ok rh (.int _)⟩
     | _=>exact f.elim
   | str i =>
     cases dy with
     | str j =>
       obtain ⟨hz,f⟩:=Fin.iff f
       cases r1 with|str _ o1 =>
       cases r2 with|str _ o2 =>
       exact op_add_str pins s σ H _ _ v u Q I rx ry ⟨_,_,rfl,rfl,hz,f.ok rh (.str _ (ok_append o1 o2))⟩
     | _=>exact f.elim
   | tup xs =>
     cases dy with
     | tup ys =>
       obtain ⟨hz,f⟩:=Fin.iff f
       obtain ⟨a,vs,rfl,t1,s1⟩:=r1.tup_inv
       obtain ⟨b,ws,rfl,t2,s2⟩:=r2.tup_inv
       rw [s1.length,s2.length] at hz
       by_cases h0:vs=[]
       · subst h0
         cases s1
         exact op_cat0 pins s σ H _ _ v u Q I rx ry ⟨a,b,ws,rfl,rfl,hY ▸ t1,hY ▸ t2,f.ok rh (.tup t2 s2)⟩
       · refine op_catT pins s σ H _ _ v u Q I rx ry ⟨a,b,vs,ws,rfl,rfl,hY ▸ t1,hY ▸ t2,h0,hz,fun e=>?_,fun e p hp=>f.tup rh hp (s1.append s2)⟩
         subst e
         cases s2
         rw [List.append_nil] at f
         exact f.ok rh (.tup t1 s1)
     | _=>exact f.elim
   | ref i =>
     cases dy with
     | ref j =>
       unfold addB at f
       simp only at f
       split at f
       · rename_i e1
         split at f
         · rename_i e2
           obtain ⟨hz,f⟩:=f.iff
           obtain ⟨a,vs,rfl,_,h1,s1⟩:=r1.lst rh e1
           obtain ⟨b,ws,rfl,_,h2,s2⟩:=r2.lst rh e2
           rw [s1.length,s2.length] at hz
           exact op_cat pins s σ H _ _ v u Q I rx ry ⟨a,b,vs,ws,rfl,rfl,h1,h2,hz,fun p hp=>f.new rh hp ⟨_,upd_same,(s1.append s2).mono rh (Gr.lay hp)⟩⟩
         · exact f.elim
       · exact f.elim
     | _=>exact f.elim
   | _=>exact f.elim
 | Sub =>
   obtain ⟨i,j,rfl,rfl,f⟩:=Fin.int2 f
   cases r1;cases r2
   exact op_sub pins s σ H _ _ v u Q I rx ry ⟨_,_,rfl,rfl,f.ok rh (.int _)⟩
 | Mult =>
   have f:Fin Y (RD Y) H μ (mulB dx dy h) Q E:=f
   cases dx with
   | str z =>
     cases dy with
     | int n =>
       obtain ⟨hz,f⟩:=Fin.iff f
       cases r1 with|str _ o1 =>
       cases r2
       exact op_mulS pins s σ H _ _ v u Q I rx ry ⟨_,_,rfl,rfl,hz.1,hz.2.1,hz.2.2,f.ok rh (.str _ (ok_rep o1 _))⟩
     | _=>exact f.elim
   | int i =>
     obtain ⟨i,j,e1,rfl,f⟩:=Fin.int2 (show Fin Y (RD Y) H μ (IV.int2 (.int i) dy fun i j=>if i.natAbs<2 ^ 2000∧j.natAbs<2 ^ 2000 then .ok (.int (i * j)) h else .bad) Q E from f)
     cases e1
     obtain ⟨hz,f⟩:=f.iff
     cases r1;cases r2
     exact op_mulBig pins s σ H _ _ v u Q I rx ry ⟨_,_,rfl,rfl,hz,f.ok rh (.int _)⟩
   | _=>exact f.elim
 | Mod =>
   obtain ⟨i,j,rfl,rfl,f⟩:=Fin.int2 f
   obtain ⟨hz,f⟩:=f.iff
   cases r1;cases r2
   exact op_mod pins s σ H _ _ v u Q I rx ry ⟨_,_,rfl,rfl,hz,f.ok rh (.int _)⟩
 | FloorDiv =>
   obtain ⟨i,j,rfl,rfl,f⟩:=Fin.int2 f
   obtain ⟨hz,f⟩:=f.iff
   cases r1;cases r2
   exact op_fdiv pins s σ H _ _ v u Q I rx ry ⟨_,_,rfl,rfl,hz,f.ok rh (.int _)⟩
 | Pow =>
   obtain ⟨i,j,rfl,rfl,f⟩:=Fin.int2 f
   obtain ⟨hz,f⟩:=f.iff
   cases r1;cases r2
   exact op_pow pins s σ H _ _ v u Q I rx ry ⟨_,_,rfl,rfl,hz,f.ok rh (.int _)⟩
 | _=>exact f.elim
end
end IV
end
section
namespace IV
open PySem PySem.Spec PyProof.Rows L2
structure Gk(X:Cx)(Y:Yx)(T:Tb):Prop where
 K:Y.K=X.K
 mg:Y.mg=X.mg
 gd:∀ x kvs,T.GD x=some kvs→∃ a kvs',X.mg x=some (.ref a)∧DkK X.prog X.w X.K a kvs'∧∀ H μ,RKs Y H μ kvs kvs'
 g:∀ x d,T.G x=some d→∃ v u,X.mg x=some u∧RelV v u∧∀ H μ,RD Y H μ d v
 bare:tupsBare X.K=true
section
variable {X:Cx}{Y:Yx}{E:XK}{T:Tb}{H:Hp}{μ:List Addr}{h:Hd}
theorem RD.dicOf(G:Gk X Y T)(rh:RH Y H μ h){d:D}{v:V}{kvs:List (Key×D)}(r:RD Y H μ d v)(e:dicOf T.GD d h=some kvs):∃ a kvs',v=.ref a∧Dk X.prog X.w X.K H a kvs'∧RKs Y H μ kvs kvs':=by
 cases d with
 | ref i =>
   unfold IV.dicOf at e
   simp only at e
   split at e
   · cases e
     rename_i q
     obtain ⟨a,vs,h1,_,h3,h4⟩:=r.dic rh q
     exact ⟨a,vs,h1,.inl (.inl h3),h4⟩
   · cases e
     rename_i q
     cases r with
     | ref qm =>
       obtain ⟨o,vs,h1,h2⟩:=rh.ob i _ _ q qm
       exact ⟨_,vs,rfl,.inl (.inr ⟨o,h1⟩),h2⟩
   · cases e
 | kd x =>
   obtain ⟨a,kvs',h1,h2,h3⟩:=G.gd x kvs e
   cases r with
   | kd q =>
     rw [G.mg,h1] at q
     cases q
     exact ⟨a,kvs',rfl,.inr h2,h3 H μ⟩
 | _=>cases e
theorem key_ok{d:D}{v:V}{k:Key}(r:RD Y H μ d v)(e:keyOf d=some k):∀ x,k=.inr x→PyData.strOk x=true:=by
 cases d with
 | int i=>cases e;intro x z;cases z
 | str i =>
   cases e
   intro x z
   cases z
   cases r with
   | str _ ok=>exact ok
 | _=>cases e
theorem keysOk_put{kvs:List (Key×D)}{k:Key}{c:D}(h:KeysOk kvs)(hk:∀ x,k=.inr x→PyData.strOk x=true):KeysOk (putD kvs k c):=by
 intro p hp x e
 unfold putD at hp
 split at hp
 · obtain ⟨q,hq,rfl⟩:=List.mem_map.mp hp
   refine h q hq x ?_
   split at e<;>exact e
 · rcases ΩD.mp hp with hp|hp
   · exact h p hp x e
   · rw [Ωx.mp hp] at e
     exact hk x e
theorem keyOf_rel{d:D}{v:V}{k:Key}(r:RD Y H μ d v)(e:keyOf d=some k):v=kV k:=by
 cases d with
 | int i=>cases e;cases r;rfl
 | str i=>cases e;cases r;rfl
 | _=>cases e
theorem RKs.valV_rel{ds:List (Key×D)}{vs:List (Key×V)}(s:RKs Y H μ ds vs)(k:Key):(valD ds k=none∧valV vs k=none)∨∃ d v,valD ds k=some d∧valV vs k=some v∧RD Y H μ d v:=by
 unfold valD valV
 rcases s.val k with ⟨h1,h2⟩|⟨d,v,h1,h2,h3⟩
 · exact .inl ⟨by rw [h1];rfl,by rw [h2];rfl⟩
 · exact .inr ⟨d,v,by rw [h1];rfl,by rw [h2];rfl,h3⟩
theorem RKs.any_rel(k:Key):∀ {ds:List (Key×D)}{vs:List (Key×V)},RKs Y H μ ds vs→(ds.any fun kv=>decide (kv.1=k))=(vs.any fun kv=>decide (kv.1=k))
 | _,_,.nil=>rfl
 | _,_,.cons a s=>by rw [List.any_cons,List.any_cons,s.any_rel k]
theorem RKs.map_rel(k:Key){d:D}{v:V}(r:RD Y H μ d v):∀ {ds:List (Key×D)}{vs:List (Key×V)},RKs Y H μ ds vs→RKs Y H μ (ds.map fun kv=>if kv.1=k then (kv.1,d) else kv) (vs.map fun kv=>if kv.1=k then (kv.1,v) else kv)
 | _,_,.nil=>.nil
 | _,_,.cons (k:=k') a s=>by
   rw [Ωp,Ωp]
   by_cases e:k'=k
   · rw [if_pos e,if_pos e];exact .cons r (s.map_rel k r)
   · rw [if_neg e,if_neg e];exact .cons a (s.map_rel k r)
theorem RKs.append{κ:Type}:∀ {ds es:List (κ×D)}{vs ws:List (κ×V)},RKs Y H μ ds vs→RKs Y H μ es ws→RKs Y H μ (ds++es) (vs++ws)
 | _,_,_,_,.nil,s=>s
 | _,_,_,_,.cons a r,s=>.cons a (r.append s)
theorem RKs.put{ds:List (Key×D)}{vs:List (Key×V)}(s:RKs Y H μ ds vs)(k:Key){d:D}{v:V}(r:RD Y H μ d v):RKs Y H μ (putD ds k d) (putK vs k v):=by
 unfold putD putK
 rw [s.any_rel k]
 split
 · exact s.map_rel k r
 · exact s.append (.cons r .nil)
mutual
theorem RD.dp(rh:RH Y H μ h)(rd:Nat→Option PyData)(hr:∀ i p a,rd i=some p→μ[i]? = some a→Dp Y.K H (.ref a) p):∀ {d:D}{v:V}{p:PyData},RD Y H μ d v→D.py rd d=some p→Dp Y.K H v p
 | _,_,_,.non,e=>by cases e;exact .non
 | _,_,_,.bl b,e=>by cases e;exact .bl b
 | _,_,_,.int i,e=>by cases e;exact .int i
 | _,_,_,.str x ok,e=>by cases e;exact .str x ok
 | _,_,_,.tup t s,e=>by
   rw [D.py] at e
   obtain ⟨ps,e1,rfl⟩:=Ωo.mp e
   exact .tup t (RDs.dps rh rd hr s e1)
 | _,_,_,.ref q,e=>hr _ _ _ e q
 | _,_,_,.ty n,e=>by cases e
 | _,_,_,.ro t s,e=>by
   rw [D.py] at e
   obtain ⟨ps,e1,rfl⟩:=Ωo.mp e
   exact .lst t.sq (RDs.dps rh rd hr s e1)
 | _,_,_,.kd q,e=>by cases e
theorem RDs.dps(rh:RH Y H μ h)(rd:Nat→Option PyData)(hr:∀ i p a,rd i=some p→μ[i]? = some a→Dp Y.K H (.ref a) p):∀ {d:List D}{v:List V}{p:List PyData},RDs Y H μ d v→D.pys rd d=some p→Dps Y.K H v p
 | _,_,_,.nil,e=>by cases e;exact .nil
 | _,_,_,.cons a s,e=>by
   rw [D.pys] at e
   obtain ⟨q,e1,e2⟩:=Option.bind_eq_some_iff.mp e
   obtain ⟨qs,e3,rfl⟩:=Ωo.mp e2
   exact .cons (RD.dp rh rd hr a e1) (RDs.dps rh rd hr s e3)
end
theorem rdPy_ok(rh:RH Y H μ h):∀ (n i:Nat) (p:PyData) (a:Addr),rdPy h n i=some p→μ[i]? = some a→Dp Y.K H (.ref a) p
 | 0,i,p,a,e,q=>by cases e
 | n+1,i,p,a,e,q=>by
   rw [rdPy] at e
   split at e
   · rename_i xs he
     obtain ⟨ps,e1,rfl⟩:=Ωo.mp e
     obtain ⟨vs,z,s⟩:=rh.ob i _ a he q
     exact .lst (.of z) (RDs.dps rh _ (rdPy_ok rh n) s e1)
   · cases e
theorem pyOf_ok(rh:RH Y H μ h){d:D}{v:V}{p:PyData}(r:RD Y H μ d v)(e:pyOf h d=some p):Dp Y.K H v p:=r.dp rh _ (rdPy_ok rh 4) e
theorem flat_rel{d:D}{v:V}(r:RD Y H μ d v)(f:d.flat=true):flatV v=true:=by cases r<;>first|rfl|cases f
theorem flats_rel:∀ {ds:List D}{vs:List V},RDs Y H μ ds vs→ds.all D.flat=true→vs.all flatV=true
 | _,_,.nil,_=>rfl
 | _,_,.cons a s,f=>by
   rw [List.all_cons,Ωa] at f
   rw [List.all_cons,flat_rel a f.1,flats_rel s f.2];rfl
theorem eq_rel{d e:D}{v w:V}(r:RD Y H μ d v)(q:RD Y H μ e w)(f:d.flat=true)(g:e.flat=true):eqF d e=eqV v w:=by
 cases r<;>cases q<;>first|rfl|exact absurd f (by simp [D.flat])|exact absurd g (by simp [D.flat])
theorem any_rel{e:D}{w:V}(q:RD Y H μ e w)(g:e.flat=true):∀ {ds:List D}{vs:List V},RDs Y H μ ds vs→ds.all D.flat=true→(ds.any fun z=>eqF z e)=vs.any fun y=>eqV y w
 | _,_,.nil,_=>rfl
 | _,_,.cons a s,f=>by
   rw [List.all_cons,Ωa] at f
   rw [List.any_cons,List.any_cons,eq_rel a q f.1 g,any_rel q g s f.2]
theorem opEq_ok{k:Nat}(hr:Room k X.A)(h60:60≤k)(hY:Y.K=X.K):OpR X (compareOp .Eq) (rB Y E (opEq false)):=by
 intro pins s σ H x y v u Q I rx ry hh
 obtain ⟨dx,dy,h,μ,rh,r1,r2,f⟩:=hh
 unfold opEq at f
 split at f
 · rename_i e1 e2
   obtain ⟨hz,f⟩:=f.iff
   have d1:=pyOf_ok rh r1 e1
   have d2:=pyOf_ok rh r2 e2
   rw [hY] at d1 d2
   obtain ⟨as,q1⟩:=I.reads d1 rx
   obtain ⟨bs,q2⟩:=I.reads d2 ry
   have:=hr.un
   exact SeqAt.compareEq_reads q1 q2 d1.lay d2.lay (by omega) ⟨.bl _,H,I,rfl,f.ok rh (.bl _)⟩
 · exact f.elim
theorem opNe_ok{k:Nat}(hr:Room k X.A)(h60:60≤k)(hY:Y.K=X.K):OpR X (compareOp .NotEq) (rB Y E (opEq true)):=by
 intro pins s σ H x y v u Q I rx ry hh
 obtain ⟨dx,dy,h,μ,rh,r1,r2,f⟩:=hh
 unfold opEq at f
 split at f
 · rename_i e1 e2
   obtain ⟨hz,f⟩:=f.iff
   have d1:=pyOf_ok rh r1 e1
   have d2:=pyOf_ok rh r2 e2
   rw [hY] at d1 d2
   obtain ⟨as,q1⟩:=I.reads d1 rx
   obtain ⟨bs,q2⟩:=I.reads d2 ry
   have:=hr.un
   exact SeqAt.compareNe_reads q1 q2 d1.lay d2.lay (by omega) ⟨.bl _,H,I,rfl,f.ok rh (.bl _)⟩
 · exact f.elim
theorem opI2_ok{op:CmpOp}{g:Int→Int→Bool}(ho:OpR X (compareOp op) (rI0 fun i j=>.bl (g i j))):OpR X (compareOp op) (rB Y E (opI2 g)):=by
 intro pins s σ H x y v u Q I rx ry hh
 obtain ⟨dx,dy,h,μ,rh,r1,r2,f⟩:=hh
 unfold opI2 at f
 split at f
 · cases r1;cases r2
   exact ho pins s σ H _ _ v u Q I rx ry ⟨_,_,rfl,rfl,f.ok rh (.bl _)⟩
 · exact f.elim
theorem non_rel{d:D}{v:V}(r:RD Y H μ d v):decide (d=.non)=decide (v=.non):=by
 cases r<;>simp
theorem opIs_ok:OpR X (compareOp .Is) (rB Y E (opN false)):=by
 intro pins s σ H x y v u Q I rx ry hh
 obtain ⟨dx,dy,h,μ,rh,r1,r2,f⟩:=hh
 unfold opN at f
 split at f
 · cases r2
   have z:=non_rel r1
   simp only [ΩG,if_false,z] at f
   exact op_isN pins s σ H _ _ v u Q I rx ry ⟨rfl,f.ok rh (.bl _)⟩
 · exact f.elim
theorem opIsnt_ok:OpR X (compareOp .IsNot) (rB Y E (opN true)):=by
 intro pins s σ H x y v u Q I rx ry hh
 obtain ⟨dx,dy,h,μ,rh,r1,r2,f⟩:=hh
 unfold opN at f
 split at f
 · cases r2
   have z:=non_rel r1
   simp only [if_true,z] at f
   exact op_notN pins s σ H _ _ v u Q I rx ry ⟨rfl,f.ok rh (.bl _)⟩
 · exact f.elim
theorem opIn_ok(G:Gk X Y T):OpR X (compareOp .In) (rB Y E (opIn' T.GD false)):=by
 intro pins s σ H x y v u Q I rx ry hh
 obtain ⟨dx,dy,h,μ,rh,r1,r2,f⟩:=hh
 unfold opIn' at f
 split at f
 · rename_i xs e1
   obtain ⟨hz,f⟩:=f.iff
   rw [Ωa] at hz
   obtain ⟨a,vs,rfl,hs,rs⟩:=r2.seqOf rh e1
   have q:=f.ok rh (.bl _)
   simp only [ΩG,if_false,any_rel r1 hz.1 rs hz.2] at q
   exact op_in_seq pins s σ H _ _ v u Q I rx ry ⟨a,vs,rfl,G.K ▸ hs,flat_rel r1 hz.1,flats_rel rs hz.2,q⟩
 · split at f
   · rename_i kvs k e1 e2
     obtain ⟨a,kvs',rfl,hd,rk⟩:=r2.dicOf G rh e1
     have q:=f.ok rh (.bl _)
     have z:(valD kvs k).isSome=(valV kvs' k).isSome:=by
       rcases rk.valV_rel k with ⟨h1,h2⟩|⟨d,v,h1,h2,_⟩<;>rw [h1,h2]<;>rfl
     rw [z] at q
     exact op_inD pins s σ H _ _ v u Q I rx ry ⟨a,kvs',k,rfl,keyOf_rel r1 e2,hd,q⟩
   · exact f.elim
theorem opNotIn_ok(G:Gk X Y T):OpR X (compareOp .NotIn) (rB Y E (opIn' T.GD true)):=by
 intro pins s σ H x y v u Q I rx ry hh
 obtain ⟨dx,dy,h,μ,rh,r1,r2,f⟩:=hh
 unfold opIn' at f
 split at f
 · rename_i xs e1
   obtain ⟨hz,f⟩:=f.iff
   rw [Ωa] at hz
   obtain ⟨a,vs,rfl,hs,rs⟩:=r2.seqOf rh e1
   have q:=f.ok rh (.bl _)
   simp only [if_true,any_rel r1 hz.1 rs hz.2] at q
   exact op_notIn_seq pins s σ H _ _ v u Q I rx ry ⟨a,vs,rfl,G.K ▸ hs,flat_rel r1 hz.1,flats_rel rs hz.2,q⟩
 · split at f
   · rename_i kvs k e1 e2
     obtain ⟨a,kvs',rfl,hd,rk⟩:=r2.dicOf G rh e1
     have q:=f.ok rh (.bl _)
     have z:(valD kvs k).isSome=(valV kvs' k).isSome:=by
       rcases rk.valV_rel k with ⟨h1,h2⟩|⟨d,v,h1,h2,_⟩<;>rw [h1,h2]<;>rfl
     rw [z] at q
     exact op_notInD pins s σ H _ _ v u Q I rx ry ⟨a,kvs',k,rfl,keyOf_rel r1 e2,hd,q⟩
   · exact f.elim
theorem opC_ok{k:Nat}(hr:Room k X.A)(h60:60≤k)(G:Gk X Y T)(op:CmpOp):OpR X (compareOp op) (rB Y E (opC T.GD op)):=by
 cases op with
 | Eq=>exact opEq_ok hr h60 G.K
 | NotEq=>exact opNe_ok hr h60 G.K
 | Lt=>exact opI2_ok op_lt
 | LtE=>exact opI2_ok op_le
 | Gt=>exact opI2_ok op_gt
 | GtE=>exact opI2_ok op_ge
 | Is=>exact opIs_ok
 | IsNot=>exact opIsnt_ok
 | In=>exact opIn_ok G
 | NotIn=>exact opNotIn_ok G
theorem opIx_ok(G:Gk X Y T):IxR X (rB Y E (opIx T.GD)):=by
 intro value slice pins s σ H x y v u Q I rx ry hh hs
 obtain ⟨dx,dy,h,μ,rh,r1,r2,f⟩:=hh
 have dict:∀ (kvs:List (Key×D)) (k:Key),dicOf T.GD dx h=some kvs→y=kV k→Fin Y (RD Y) H μ (R.ofO (valD kvs k) h) Q E→wpAny (model X.prog X.w) X.A (subscriptTail value slice v u) (EP X pins σ Q) X.xe s:=by
   intro kvs k e1 ey f
   obtain ⟨d,e2,f⟩:=f.ofO
   obtain ⟨a,kvs',rfl,hd,rk⟩:=r1.dicOf G rh e1
   rcases rk.valV_rel k with ⟨h1,h2⟩|⟨d',w,h1,h2,h3⟩
   · rw [h1] at e2;cases e2
   · rw [h1] at e2;cases e2
     exact ix_dict value slice pins s σ H _ _ v u Q I rx ry ⟨a,kvs',k,w,rfl,ey,hd,h2,f.ok rh h3⟩ hs
 unfold opIx at f
 split at f
 · rename_i i
   cases r2
   split at f
   · rename_i xs e1
     obtain ⟨d,e2,f⟩:=f.ofO
     obtain ⟨a,vs,rfl,hq,rs⟩:=r1.seqOf rh e1
     obtain ⟨w,e3,rw'⟩:=rs.atI e2
     rcases hq with hq|hq
     · exact ix_list value slice pins s σ H _ _ v u Q I rx ry ⟨a,vs,i,w,rfl,rfl,G.K ▸ hq,e3,f.ok rh rw'⟩ hs
     · exact ix_tup value slice pins s σ H _ _ v u Q I rx ry ⟨a,vs,i,w,rfl,rfl,G.K ▸ hq,e3,f.ok rh rw'⟩ hs
   · split at f
     · obtain ⟨hz,f⟩:=f.iff
       obtain ⟨d,e2,f⟩:=f.ofO
       obtain ⟨c,e3,rfl⟩:=Ωo.mp e2
       obtain ⟨rfl,ok⟩:=r1.str_inv
       exact ix_str value slice pins s σ H _ _ v u Q I rx ry ⟨_,i,c,rfl,rfl,hz,e3,f.ok rh (.str _ (ok_mem ok (mem_atI e3)))⟩ hs
     · split at f
       · rename_i kvs e1
         exact dict kvs (.inl i) e1 rfl f
       · exact f.elim
 · rename_i z
   obtain ⟨rfl,ok⟩:=r2.str_inv
   split at f
   · rename_i kvs e1
     exact dict kvs (.inr z) e1 rfl f
   · exact f.elim
 · exact f.elim
theorem ok_sub{x y:Str}(hx:PyData.strOk x=true)(h:∀ c∈y.cps.toList,c∈x.cps.toList):PyData.strOk y=true:=by
 unfold PyData.strOk at hx ⊢
 rw [Array.all_eq_true'] at hx ⊢
 intro c hc
 exact hx c (by simpa using h c (by simpa using hc))
theorem truD_ok{d:D}{v:V}{b:Bool}(hY:Y.K=X.K)(rh:RH Y H μ h)(r:RD Y H μ d v)(e:truD T.GD d h=some b):TruV X.K v H b:=by
 cases d with
 | non=>cases r;cases e;rfl
 | bl c=>cases r;cases e;rfl
 | int c=>cases r;cases e;rfl
 | str c =>
   cases r
   unfold truD at e
   simp only at e
   split at e
   · rename_i hz
     cases e
     refine ⟨hz,?_⟩
     by_cases h0:c.length=0
     · simp [h0]
     · have h1:((c.length:Int) != 0)=true:=by
         simp
         omega
       rw [h1]
       simp [h0]
   · cases e
 | tup xs =>
   obtain ⟨a,vs,rfl,t,s⟩:=r.tup_inv
   cases e
   exact .inr (.inl ⟨vs,hY ▸ t,by rw [s.isEmpty]⟩)
 | ref i =>
   unfold truD at e
   simp only at e
   split at e
   · rename_i q
     cases e
     obtain ⟨a,vs,rfl,_,h3,s⟩:=r.lst rh q
     exact .inl ⟨vs,.of h3,by rw [s.isEmpty]⟩
   · rename_i q
     cases e
     obtain ⟨a,vs,rfl,_,h3,s⟩:=r.dic rh q
     exact .inr (.inr ⟨vs,h3,by cases s<;>rfl⟩)
   · cases e
 | ro xs =>
   cases e
   cases r with
   | ro q s=>exact .inl ⟨_,hY ▸ q.sq,by rw [s.isEmpty]⟩
 | ty n=>cases e
 | kd x=>cases e
end
end IV
end
section
namespace IV
open PySem PySem.Spec PyProof.Rows L2
section
variable {X:Cx}{Y:Yx}{E:XK}{T:Tb}{H:Hp}{μ:List Addr}{h:Hd}
noncomputable def rS(Y:Yx)(E:XK):V→Option Int→Option Int→Hp→VK→Prop:=fun x l u H Q=>∃ d h μ,RH Y H μ h∧RD Y H μ d x∧Fin Y (RD Y) H μ (opSl d l u h) Q E
theorem slText_sub(y:Str)(l u:Option Int):∀ c∈(StrLaws.sliceText y l u).cps.toList,c∈y.cps.toList:=by
 intro c hc
 unfold StrLaws.sliceText at hc
 split at hc
 · exact hc
 · simp only [List.mem_filterMap] at hc
   obtain ⟨i,_,hi⟩:=hc
   have:=Array.mem_of_getElem? hi
   simpa using this
theorem cut_whole{xs:List D}{lo hi:Option Int}(h:HT.sIx xs.length 0 lo=0∧HT.sIx xs.length xs.length hi=xs.length):cutD xs lo hi=xs:=by
 unfold cutD
 rw [h.1,h.2]
 simp
theorem opSl_ok(hY:Y.K=X.K):SlR X (rS Y E):=by
 intro pins s σ H x v vl vu lo hi sl Q I rx hs pl pu hh
 obtain ⟨d,h,μ,rh,r,f⟩:=hh
 unfold opSl at f
 split at f
 · rename_i xs
   obtain ⟨a,vs,rfl,t,rs⟩:=r.tup_inv
   by_cases hw:HT.sIx vs.length 0 lo=0∧HT.sIx vs.length vs.length hi=vs.length
   · rw [cut_whole (by rw [rs.length];exact hw)] at f
     exact sl_whole pins s σ H _ v vl vu lo hi sl Q I rx hs pl pu ⟨a,vs,rfl,hY ▸ t,hw,f.ok rh (.tup t rs)⟩
   · exact sl_tup pins s σ H _ v vl vu lo hi sl Q I rx hs pl pu ⟨a,vs,rfl,hY ▸ t,hw,fun p hp=>f.tup rh hp (rs.cut lo hi)⟩
 · obtain ⟨hz,f⟩:=f.iff
   obtain ⟨rfl,ok⟩:=r.str_inv
   exact sl_str pins s σ H _ v vl vu lo hi sl Q I rx hs pl pu ⟨_,rfl,hz,f.ok rh (.str _ (ok_sub ok (slText_sub _ _ _)))⟩
 · split at f
   · rename_i xs e1
     obtain ⟨a,vs,rfl,hl,rs⟩:=r.lstOf rh e1
     exact sl_list pins s σ H _ v vl vu lo hi sl Q I rx hs pl pu ⟨a,vs,rfl,hY ▸ hl,fun p hp=>f.new rh hp ⟨_,upd_same,(rs.cut lo hi).mono rh (Gr.lay hp)⟩⟩
   · exact f.elim
noncomputable def rF(Y:Yx)(E:XK)(f:List D→Hd→R D):List V→Hp→VK→Prop:=fun xs H Q=>∃ ds h μ,RH Y H μ h∧RDs Y H μ ds xs∧Fin Y (RD Y) H μ (f ds h) Q E
theorem RDs.one{d:D}{xs:List V}(r:RDs Y H μ [d] xs):∃ x,xs=[x]∧RD Y H μ d x:=by
 cases r with
 | cons a s=>cases s;exact ⟨_,rfl,a⟩
theorem RDs.two{d e:D}{xs:List V}(r:RDs Y H μ [d,e] xs):∃ x y,xs=[x,y]∧RD Y H μ d x∧RD Y H μ e y:=by
 cases r with
 | cons a s=>obtain ⟨y,rfl,b⟩:=s.one;exact ⟨_,_,rfl,a,b⟩
theorem blt_len (hY:Y.K=X.K):CallR X (.builtin "len") (rF Y E bLen):=by
 intro pins s σ H xs us Q I r hh
 obtain ⟨ds,h,μ,rh,rs,f⟩:=hh
 unfold bLen at f
 split at f
 · obtain ⟨hz,f⟩:=f.iff
   obtain ⟨x,rfl,rd⟩:=rs.one
   obtain ⟨rfl,ok⟩:=rd.str_inv
   exact call_len_str pins s σ H _ us Q I r ⟨_,rfl,hz,f.ok rh (.int _)⟩
 · obtain ⟨e,e1,f⟩:=f.ofO
   obtain ⟨zs,e2,rfl⟩:=Ωo.mp e1
   obtain ⟨x,rfl,rd⟩:=rs.one
   obtain ⟨a,vs,rfl,hq,rv⟩:=rd.seqOf rh e2
   refine call_len_seq pins s σ H _ us Q I r ⟨a,vs,rfl,hY ▸ hq,?_⟩
   rw [← rv.length]
   exact f.ok rh (.int _)
 · exact f.elim
theorem kind_ok{K:PySem.W.Frag}{t T:String}{b:Bool}(e:isKind t T=some b):PySem.W.kitOne K (.type t) (.type T)=some b:=by
 have all:(["int", "str", "bool", "tuple", "list"].all fun T=>["int", "str", "bool", "tuple", "list", "NoneType"].all fun t=>decide (PySem.W.kitOne [] (.type t) (.type T)=some (t==T || (t == "bool" && T == "int"))))=true:=by decide +kernel
 unfold isKind at e
 split at e
 · rename_i hm
   cases e
   rw [ΩC] at all
   have h1:=all T hm.1
   rw [ΩC] at h1
   exact kit_plain (of_decide_eq_true (h1 t hm.2))
 · cases e
theorem ty_ok{d:D}{v:V}{t:String}(hY:Y.K=X.K)(rh:RH Y H μ h)(r:RD Y H μ d v)(e:tyOf d h=some t):TyN X.K v H t:=by
 have lst:(IV.lstOf d h).map (fun _ => "list")=some t→TyN X.K v H t:=fun e=>by
   obtain ⟨xs,e1,rfl⟩:=Ωo.mp e
   obtain ⟨a,vs,rfl,hl,rs⟩:=r.lstOf rh e1
   exact .inl ⟨rfl,vs,hY ▸ hl⟩
 cases d with
 | int i=>cases e;cases r;rfl
 | str i=>cases e;cases r;rfl
 | bl i=>cases e;cases r;rfl
 | non=>cases e;cases r;rfl
 | tup xs =>
   cases e
   obtain ⟨a,vs,rfl,t,rs⟩:=r.tup_inv
   exact .inr ⟨rfl,vs,hY ▸ t⟩
 | ref i=>exact lst e
 | ro xs=>exact lst e
 | ty n=>exact lst e
 | kd x=>exact lst e
theorem blt_isi (hY:Y.K=X.K):CallR X (.builtin "isinstance") (rF Y E bIsi):=by
 intro pins s σ H xs us Q I r hh
 obtain ⟨ds,h,μ,rh,rs,f⟩:=hh
 unfold bIsi at f
 split at f
 · obtain ⟨e,e1,f⟩:=f.ofO
   obtain ⟨t,e2,e3⟩:=Option.bind_eq_some_iff.mp e1
   obtain ⟨b,e4,rfl⟩:=Ωo.mp e3
   obtain ⟨x,y,rfl,r1,r2⟩:=rs.two
   cases r2
   exact call_isi pins s σ H _ us Q I r ⟨x,t,_,b,rfl,ty_ok hY rh r1 e2,kind_ok e4,f.ok rh (.bl _)⟩
 · exact f.elim
theorem blt_tup (hY:Y.K=X.K):CallR X (.type "tuple") (rF Y E bTup):=by
 intro pins s σ H xs us Q I r hh
 obtain ⟨ds,h,μ,rh,rs,f⟩:=hh
 unfold bTup at f
 split at f
 · obtain ⟨x,rfl,r1⟩:=rs.one
   obtain ⟨a,vs,rfl,t,rv⟩:=r1.tup_inv
   exact call_tuple_of pins s σ H _ us Q I r ⟨a,vs,rfl,.inr ⟨hY ▸ t,f.ok rh (.tup t rv)⟩⟩
 · obtain ⟨e,e1,f⟩:=f.ofO
   obtain ⟨zs,e2,rfl⟩:=Ωo.mp e1
   obtain ⟨x,rfl,r1⟩:=rs.one
   obtain ⟨a,vs,rfl,hl,rv⟩:=r1.lstOf rh e2
   exact call_tuple_of pins s σ H _ us Q I r ⟨a,vs,rfl,.inl ⟨hY ▸ hl,fun p hp=>f.tup rh hp rv⟩⟩
 · exact f.elim
theorem ints_rel:∀ {ds:List D}{vs:List V}{ns:List Int},RDs Y H μ ds vs→intsOf ds=some ns→vs=ns.map V.int
 | _,_,_,.nil,e=>by cases e;rfl
 | _,_,_,.cons (d:=d) a s,e=>by
   cases d with
   | int i =>
     rw [intsOf] at e
     obtain ⟨z,e1,rfl⟩:=Ωo.mp e
     cases a
     rw [ints_rel s e1];rfl
   | _=>cases e
theorem blt_sum (hc:X.A.handled=none) (hY:Y.K=X.K):CallR X (.builtin "sum") (rF Y E bSum):=by
 intro pins s σ H xs us Q I r hh
 obtain ⟨ds,h,μ,rh,rs,f⟩:=hh
 unfold bSum at f
 split at f
 · obtain ⟨e,e1,f⟩:=f.ofO
   obtain ⟨ns,e2,rfl⟩:=Ωo.mp e1
   obtain ⟨zs,e3,e4⟩:=Option.bind_eq_some_iff.mp e2
   obtain ⟨x,rfl,r1⟩:=rs.one
   obtain ⟨a,vs,rfl,hl,rv⟩:=r1.lstOf rh e3
   rw [ints_rel rv e4] at hl
   exact call_sumL hc pins s σ H _ us Q I r ⟨a,ns,rfl,hY ▸ hl,f.ok rh (.int _)⟩
 · exact f.elim
noncomputable def rM(Y:Yx)(E:XK)(m:Mf):V→List V→Hp→VK→Prop:=fun x xs H Q=>∃ d ds h μ,RH Y H μ h∧RD Y H μ d x∧RDs Y H μ ds xs∧Fin Y (RD Y) H μ (methD m d ds h) Q E
noncomputable def mid:Mf→String
 | .app => "list.append"
 | .ext => "list.extend"
 | .pop => "list.pop"
 | .rev => "list.reverse"
 | .clr => "list.clear"
theorem meth_ok(hY:Y.K=X.K)(m:Mf):MtM X (mid m) (rM Y E m):=by
 intro pins s σ H x xs v us Q I rx rs hh
 obtain ⟨d,ds,h,μ,rh,r1,r2,f⟩:=hh
 unfold methD at f
 split at f
 · split at f
   · rename_i i ys e
     obtain ⟨a,vs,rfl,hi,hl,rv⟩:=r1.lst rh e
     cases m with
     | app =>
       unfold mthD mApp at f
       simp only at f
       split at f
       · obtain ⟨hz,f⟩:=f.iff
         obtain ⟨y,rfl,ry⟩:=r2.one
         have g:Gr H μ (upd H a (.lst (vs++[y]))) μ:=Gr.write (Ωk hi) (by rw [hl];trivial)
         exact mt_append pins s σ H _ _ v us Q I rx rs ⟨a,vs,y,rfl,rfl,hl,by rw [← rv.length];exact hz,f.wrote rh hi ⟨_,upd_same,(rv.append (.cons ry .nil)).mono rh g⟩ .non (by rw [hl];trivial)⟩
       · exact f.elim
     | ext =>
       unfold mthD mExt at f
       simp only at f
       split at f
       · split at f
         · rename_i zs e2
           obtain ⟨hz,f⟩:=f.iff
           obtain ⟨y,rfl,ry⟩:=r2.one
           obtain ⟨b,ws,rfl,hj,hl2,rw'⟩:=ry.lst rh e2
           have g:Gr H μ (upd H a (.lst (vs++ws))) μ:=Gr.write (Ωk hi) (by rw [hl];trivial)
           exact mt_extend pins s σ H _ _ v us Q I rx rs ⟨a,b,vs,ws,rfl,rfl,hl,hl2,by rw [← rv.length,← rw'.length];exact hz,f.wrote rh hi ⟨_,upd_same,(rv.append rw').mono rh g⟩ .non (by rw [hl];trivial)⟩
         · exact f.elim
       · obtain ⟨hz,f⟩:=f.iff
         obtain ⟨y,rfl,ry⟩:=r2.one
         obtain ⟨b,ws,rfl,t,rw'⟩:=ry.tup_inv
         have g:Gr H μ (upd H a (.lst (vs++ws))) μ:=Gr.write (Ωk hi) (by rw [hl];trivial)
         exact mt_extendT pins s σ H _ _ v us Q I rx rs ⟨a,b,vs,ws,rfl,rfl,hl,hY ▸ t,by rw [← rv.length,← rw'.length];exact hz,f.wrote rh hi ⟨_,upd_same,(rv.append rw').mono rh g⟩ .non (by rw [hl];trivial)⟩
       · exact f.elim
     | pop =>
       unfold mthD mPop at f
       simp only at f
       split at f
       · split at f
         · rename_i y e2
           cases r2
           rw [rv.length] at e2
           obtain ⟨w,e3,rw'⟩:=rv.get e2
           have g:Gr H μ (upd H a (.lst vs.dropLast)) μ:=Gr.write (Ωk hi) (by rw [hl];trivial)
           exact mt_pop pins s σ H _ _ v us Q I rx rs ⟨a,vs,w,rfl,rfl,hl,e3,f.wrote rh hi ⟨_,upd_same,rv.dropLast.mono rh g⟩ (rw'.mono rh g) (by rw [hl];trivial)⟩
         · exact f.elim
       · exact f.elim
     | rev =>
       unfold mthD mRev at f
       simp only at f
       split at f
       · cases r2
         have g:Gr H μ (upd H a (.lst vs.reverse)) μ:=Gr.write (Ωk hi) (by rw [hl];trivial)
         exact mt_reverse pins s σ H _ _ v us Q I rx rs ⟨a,vs,rfl,rfl,hl,f.wrote rh hi ⟨_,upd_same,rv.reverse.mono rh g⟩ .non (by rw [hl];trivial)⟩
       · exact f.elim
     | clr =>
       unfold mthD mClr at f
       simp only at f
       split at f
       · cases r2
         exact mt_clear pins s σ H _ _ v us Q I rx rs ⟨a,vs,rfl,rfl,hl,f.wrote rh hi ⟨_,upd_same,.nil⟩ .non (by rw [hl];trivial)⟩
       · exact f.elim
   · exact f.elim
 · exact f.elim
noncomputable def rP(Y:Yx)(E:XK):TSet:=fun o i v H Q=>∃ a b c h μ,RH Y H μ h∧RD Y H μ a o∧RD Y H μ b i∧RD Y H μ c v∧Fin Y (fun _ _ (_:Unit) (_:Unit)=>True) H μ (putIx a b c h) (fun _ H'=>Q H') E
theorem put_ok:PSet X (rP Y E):=by
 intro pins s σ H o i v ov iv u Q I ro ri rv hh
 obtain ⟨a,b,c,h,μ,rh,ra,rb,rc,f⟩:=hh
 unfold putIx at f
 split at f
 · split at f
   · rename_i j xs e
     split at f
     · split at f
       · rename_i j' e2
         obtain ⟨p,vs,rfl,hi,hl,rs⟩:=ra.lst rh e
         have hb:=rb.int_inv
         subst hb
         rw [rs.length] at e2
         have g:Gr H μ (upd H p (.lst (vs.set j' v))) μ:=Gr.write (Ωk hi) (by rw [hl];trivial)
         exact set_list pins s σ H _ _ v ov iv u Q I ro ri rv ⟨p,vs,_,j',rfl,rfl,hl,e2,f.wrote (b:=()) rh hi ⟨_,upd_same,(RDs.set rc j' rs).mono rh g⟩ trivial (by rw [hl];trivial)⟩
       · exact f.elim
     · exact f.elim
   · rename_i j kvs e
     split at f
     · rename_i k e2
       obtain ⟨hz,f⟩:=f.iff
       obtain ⟨p,vs,rfl,hi,hl,rs⟩:=ra.dic rh e
       have g:Gr H μ (upd H p (.dK (putK vs k v))) μ:=Gr.write (Ωk hi) (by rw [hl];trivial)
       exact set_dict pins s σ H _ _ v ov iv u Q I ro ri rv ⟨p,vs,k,rfl,keyOf_rel rb e2,hl,by rw [← rs.length];exact hz,f.wrote (b:=()) rh hi ⟨_,upd_same,(rs.put k rc).mono rh g⟩ trivial (by rw [hl];trivial) (keysOk_put (rh.ks _ _ e) (key_ok rb e2))⟩
     · exact f.elim
   · exact f.elim
 · exact f.elim
end
end IV
end
section
namespace IV
open PySem PySem.Spec PyProof.Rows L2
noncomputable def rW(K:PySem.W.Frag)(x:V)(H1:Hp)(R:It→Hp→Prop):Prop :=
 (∃ a,x=.ref a∧(∃ xs,SqL K H1 a xs)∧R (Itl K a) H1)∨(∃ a,x=.ref a∧(∃ xs,SqT K H1 a xs)∧R (Itt K a) H1)∨(∃ y,x=.str y∧R (Its y) H1)
theorem pi_any{X:Cx}{tg l:Expr}{tl:TE}(hl:PE X l tl):PI X tg l (fun σ H R=>tl σ H fun x H1=>rW X.K x H1 R):=by
 intro pins s σ H R I h
 refine thn (hl pins s σ H _ I h) fun v s1 ⟨x,H1,I1,r1,q1⟩=>?_
 have fp1:∀ b∈[s1.heap.objs.size],FpOk X pins H1 b:=fun b hb=>by
   have e:b=s1.heap.objs.size:=by simpa using hb
   subst e
   exact I1.fpOk (Ωq _) (I1.hok.fresh (Ωq _))
 rcases q1 with ⟨a,rfl,⟨xs,hq⟩,q⟩|⟨a,rfl,⟨xs,hq⟩,q⟩|⟨y,rfl,q⟩
 · cases r1
   obtain ⟨its,rv,p,hz⟩:=I1.list hq
   exact wpAny_pyIter_list p.isList ⟨s1.heap.objs.size,[s1.heap.objs.size],_,_,H1,rfl,I1.kept (t':=s1.toks) fun b o e=>Ωd _ e,turn_list a _,⟨_,Ωj _ rfl,rfl,rfl⟩,fp1,q⟩
 · cases r1
   obtain ⟨its,rv,p,hz⟩:=I1.tuple hq
   exact wpAny_pyIter_tuple (show s1.heap.IsTuple a its.toArray from p) ⟨s1.heap.objs.size,[s1.heap.objs.size],_,_,H1,rfl,I1.kept (t':=s1.toks) fun b o e=>Ωd _ e,turn_tuple a _,⟨_,Ωj _ rfl,rfl,rfl⟩,fp1,q⟩
 · obtain ⟨t,rfl⟩:=r1
   cases ha:y.cps.all (·<128)
   · exact wpAny_pyIter_wide ha ⟨s1.heap.objs.size,[s1.heap.objs.size],_,_,H1,rfl,I1.kept (t':=s1.toks) fun b o e=>Ωd _ e,turn_str (t:=t) (fun A' hA=>Walks.strWide hA _ y t) (fun _ _ _ _ _ st h=>wpAny_pyIter_striter_wide st h),⟨_,Ωj _ rfl,rfl,rfl⟩,fp1,q⟩
   · exact wpAny_pyIter_ascii ha ⟨s1.heap.objs.size,[s1.heap.objs.size],_,_,H1,rfl,I1.kept (t':=s1.toks) fun b o e=>Ωd _ e,turn_str (t:=t) (fun A' hA=>Walks.strAscii hA _ y t) (fun _ _ _ _ _ st h=>wpAny_pyIter_striter_ascii st h),⟨_,Ωj _ rfl,rfl,rfl⟩,fp1,q⟩
noncomputable def WJ(Y:Yx)(H0:Hp)(μ0:List Addr)(w:Wk)(J:It):Prop:=∀ H μ h,Gr H0 μ0 H μ→RH Y H μ h→Wk.stays w.src h=true →
 (∀ i d,w.xs[i]? = some d→J.go i H∧∀ x H',J.yld i H x H'→Gr H μ H' μ∧RH Y H' μ h∧RD Y H' μ d x)∧J.stop w.xs.length H
section
variable {X:Cx}{Y:Yx}{E:XK}{T:Tb}{H:Hp}{μ:List Addr}{h:Hd}
theorem wj_tup{a:Addr}{vs:List V}{xs:List D}(hY:Y.K=X.K)(rh:RH Y H μ h)(t:SqT Y.K H a vs)(s:RDs Y H μ xs vs):WJ Y H μ ⟨none,xs⟩ (Itt X.K a):=by
 intro H1 μ1 h1 g rh1 st
 have t1:=g.rdT rh t
 have s1:=s.mono rh g
 rw [hY] at t1
 refine ⟨fun i d e=>?_,⟨vs,t1,by rw [s.length];exact Ωq _⟩⟩
 obtain ⟨v,e1,r1⟩:=s1.get e
 refine ⟨⟨vs,v,t1,e1⟩,fun x H' ⟨eH,q⟩=>?_⟩
 subst eH
 have:=q vs t1
 rw [e1] at this
 cases this
 exact ⟨Gr.refl,rh1,r1⟩
theorem wj_ro{a:Addr}{vs:List V}{xs:List D}(hY:Y.K=X.K)(rh:RH Y H μ h)(t:FzL Y.K H a vs)(s:RDs Y H μ xs vs):WJ Y H μ ⟨none,xs⟩ (Itl X.K a):=by
 intro H1 μ1 h1 g rh1 st
 have t1:=(g.rdF rh t).sq
 have s1:=s.mono rh g
 rw [hY] at t1
 refine ⟨fun i d e=>?_,⟨vs,t1,by rw [s.length];exact Ωq _⟩⟩
 obtain ⟨v,e1,r1⟩:=s1.get e
 refine ⟨⟨vs,v,t1,e1⟩,fun x H' ⟨eH,q⟩=>?_⟩
 subst eH
 have:=q vs t1
 rw [e1] at this
 cases this
 exact ⟨Gr.refl,rh1,r1⟩
theorem stays_at{i:Nat}{xs:List D}{h:Hd}(st:Wk.stays (some (i,xs)) h=true):h[i]? = some (.lst xs):=of_decide_eq_true st
theorem wj_lst{i:Nat}{a:Addr}{xs:List D}(hi:μ[i]? = some a):WJ Y H μ ⟨some (i,xs),xs⟩ (Itl X.K a):=by
 intro H1 μ1 h1 g rh1 st
 obtain ⟨vs,hl,s1⟩:=rh1.ob i _ a (stays_at st) (g.pre i a hi)
 have t1:SqL X.K H1 a vs:=.of hl
 refine ⟨fun i d e=>?_,⟨vs,t1,by rw [s1.length];exact Ωq _⟩⟩
 obtain ⟨v,e1,r1⟩:=s1.get e
 refine ⟨⟨vs,v,t1,e1⟩,fun x H' ⟨eH,q⟩=>?_⟩
 subst eH
 have:=q vs t1
 rw [e1] at this
 cases this
 exact ⟨Gr.refl,rh1,r1⟩
theorem wj_rng{lo:Int}{n:Nat}:WJ Y H μ ⟨none,upFrom lo n⟩ (Itr lo n):=by
 intro H1 μ1 h1 g rh1 st
 have hl:(upFrom lo n).length=n:=by simp [upFrom]
 refine ⟨fun i d e=>?_,by show n≤(upFrom lo n).length;rw [hl];exact Ωq _⟩
 have hi:i<n:=by
   have:=(Ωb.mp e).1
   rw [hl] at this;exact this
 refine ⟨hi,fun x H' ⟨eH,q⟩=>?_⟩
 subst eH q
 have:d=.int (lo+i):=by
   unfold upFrom at e
   rw [Ωn,List.getElem?_range hi] at e
   exact (Option.some.inj e).symm
 subst this
 exact ⟨Gr.refl,rh1,.int _⟩
theorem wj_str{y:Str}(ok:PyData.strOk y=true):WJ Y H μ ⟨none,y.cps.toList.map fun c=>.str ⟨#[c]⟩⟩ (Its y):=by
 intro H1 μ1 h1 g rh1 st
 have hl:(y.cps.toList.map fun c=>D.str ⟨#[c]⟩).length=y.cps.size:=by simp
 refine ⟨fun i d e=>?_,hl⟩
 have hi:i<y.cps.size:=by
   have:=(Ωb.mp e).1
   rw [hl] at this;exact this
 refine ⟨hi,fun x H' ⟨eH,c,q,ex⟩=>?_⟩
 subst eH ex
 rw [Ωn,Array.getElem?_toList,q] at e
 have:=(Option.some.inj e).symm
 subst this
 exact ⟨Gr.refl,rh1,.str _ (ok_mem ok (by simpa using Array.mem_of_getElem? q))⟩
theorem enum_get{xs:List D}{i:Nat}{d:D}(e:(enumD xs)[i]? = some d):∃ x,xs[i]? = some x∧d=.tup [.int i,x]:=by
 unfold enumD at e
 rw [List.getElem?_mapIdx] at e
 obtain ⟨x,e1,e2⟩:=Ωo.mp e
 exact ⟨x,e1,e2.symm⟩
theorem wj_enum{a:Addr}{src:Option (Nat×List D)}{xs:List D}(hw:WJ Y H μ ⟨src,xs⟩ (Itl X.K a))(sq:∀ H1 μ1 h1,Gr H μ H1 μ1→RH Y H1 μ1 h1→Wk.stays src h1=true→∃ vs,SqL X.K H1 a vs∧RDs Y H1 μ1 xs vs):WJ Y H μ ⟨src,enumD xs⟩ (Ite X.K a):=by
 intro H1 μ1 h1 g rh1 st
 obtain ⟨vs,t1,s1⟩:=sq H1 μ1 h1 g rh1 st
 have hl:(enumD xs).length=xs.length:=by simp [enumD]
 refine ⟨fun i d e=>?_,⟨vs,t1,by rw [hl,s1.length]⟩⟩
 obtain ⟨x0,e0,rfl⟩:=enum_get e
 obtain ⟨v,e1,r1⟩:=s1.get e0
 refine ⟨⟨vs,v,t1,e1⟩,fun x H' ⟨p,ex,hp,y,q,eH⟩=>?_⟩
 subst ex eH
 have:=q vs t1
 rw [e1] at this
 cases this
 exact ⟨Gr.lay0 hp,rh1.lay0 hp,.tup (.inl (.inl upd_same)) (.cons (.int _) (.cons (r1.mono rh1 (Gr.lay0 hp)) .nil))⟩
theorem wj_rev{a:Addr}{vs:List V}{xs:List D}(hY:Y.K=X.K)(rh:RH Y H μ h)(t:SqT Y.K H a vs)(s:RDs Y H μ xs vs):WJ Y H μ ⟨none,xs.reverse⟩ (Itv X.K a vs.length):=by
 intro H1 μ1 h1 g rh1 st
 have t1:=g.rdT rh t
 have s1:=(s.mono rh g).reverse
 rw [hY] at t1
 refine ⟨fun i d e=>?_,⟨vs,t1,rfl,by simp [s.length]⟩⟩
 obtain ⟨v,e1,r1⟩:=s1.get e
 refine ⟨⟨vs,v,t1,rfl,e1⟩,fun x H' ⟨eH,q⟩=>?_⟩
 subst eH
 have:=q vs t1
 rw [e1] at this
 cases this
 exact ⟨Gr.refl,rh1,r1⟩
theorem wj_revL{i:Nat}{a:Addr}{xs:List D}(hi:μ[i]? = some a):WJ Y H μ ⟨some (i,xs),xs.reverse⟩ (Itvl X.K a xs.length):=by
 intro H1 μ1 h1 g rh1 st
 obtain ⟨vs,hl,s0⟩:=rh1.ob i _ a (stays_at st) (g.pre i a hi)
 have t1:SqL X.K H1 a vs:=.of hl
 have s1:=s0.reverse
 refine ⟨fun i d e=>?_,⟨vs,t1,s0.length.symm,by simp⟩⟩
 obtain ⟨v,e1,r1⟩:=s1.get e
 refine ⟨⟨vs,v,t1,s0.length.symm,e1⟩,fun x H' ⟨eH,q⟩=>?_⟩
 subst eH
 have:=q vs t1
 rw [e1] at this
 cases this
 exact ⟨Gr.refl,rh1,r1⟩
theorem wj_en1{a:Addr}{vs:List V}{xs:List D}(hY:Y.K=X.K)(rh:RH Y H μ h)(t:SqT Y.K H a vs)(s:RDs Y H μ xs vs):WJ Y H μ ⟨none,enumD1 xs⟩ (It1 X.K a):=by
 intro H1 μ1 h1 g rh1 st
 have t1:=g.rdT rh t
 have s1:=s.mono rh g
 rw [hY] at t1
 have hl:(enumD1 xs).length=xs.length:=by simp [enumD1]
 refine ⟨fun i d e=>?_,⟨vs,t1,by rw [hl,s1.length]⟩⟩
 have:∃ x0,xs[i]? = some x0∧d=.tup [.int ((i+1:Nat):Int),x0]:=by
   unfold enumD1 at e
   rw [List.getElem?_mapIdx] at e
   obtain ⟨x,e1,e2⟩:=Ωo.mp e
   exact ⟨x,e1,e2.symm⟩
 obtain ⟨x0,e0,rfl⟩:=this
 obtain ⟨v,e1,r1⟩:=s1.get e0
 refine ⟨⟨vs,v,t1,e1⟩,fun x H' ⟨p,ex,hp,y,q,eH⟩=>?_⟩
 subst ex eH
 have:=q vs t1
 rw [e1] at this
 cases this
 exact ⟨Gr.lay0 hp,rh1.lay0 hp,.tup (.inl (.inl upd_same)) (.cons (.int _) (.cons (r1.mono rh1 (Gr.lay0 hp)) .nil))⟩
theorem RKs.keys:∀ {kvs:List (Key×D)}{kvs':List (Key×V)},RKs Y H μ kvs kvs'→kvs.map (·.1)=kvs'.map (·.1)
 | _,_,.nil=>rfl
 | _,_,.cons a s=>by rw [Ωp,Ωp,s.keys]
theorem wj_dk{a:Addr}{o:Obj}{kvs:List (Key×D)}{kvs':List (Key×V)}(ea:H a=some (.frz o (.dK kvs')))(s:RKs Y H μ kvs kvs')(ok:KeysOk kvs):WJ Y H μ ⟨none,kvs.map fun p=>keyD p.1⟩ (Itd a o kvs'):=by
 intro H1 μ1 h1 g rh1 st
 have e1:=g.fz a _ _ ea
 have hl:=s.length
 refine ⟨fun i d e=>?_,⟨e1,by simp [hl]⟩⟩
 simp only [Ωn] at e
 obtain ⟨p,ep,rfl⟩:=Ωo.mp e
 have hi:i<kvs.length:=(Ωb.mp ep).1
 refine ⟨⟨e1,by omega⟩,fun x H' ⟨eH,k,v,ek,ex⟩=>?_⟩
 subst eH ex
 have hk:p.1=k:=by
   have q:=congrArg (fun l=>l[i]?) s.keys
   simp only [Ωn,ep,ek,Option.map_some] at q
   exact Option.some.inj q
 refine ⟨Gr.refl,rh1,?_⟩
 have okp:=ok p (Ωk ep)
 rw [hk] at okp ⊢
 cases k with
 | inl i=>exact .int _
 | inr x=>exact .str _ (okp x rfl)
theorem frz_ok{d:D}{x:V}{R:It→Hp→Prop}{E:XK}(rh:RH Y H μ h)(r:RD Y H μ d x)(f:Fin Y (WJ Y) H μ (frzD d h) R E) :
   ∃ a kvs,x=.ref a∧((H a=some (.dK kvs)∧∀ o,R (Itd a o kvs) (upd H a (.frz o (.dK kvs))))∨∃ o,H a=some (.frz o (.dK kvs))∧R (Itd a o kvs) H):=by
 cases d with
 | ref i =>
   unfold frzD at f
   simp only at f
   split at f
   · rename_i kvs e
     obtain ⟨a,vs,rfl,hi,hl,s⟩:=r.dic rh e
     have nf:NF (H a):=by rw [hl];trivial
     refine ⟨a,vs,rfl,.inl ⟨hl,fun o=>?_⟩⟩
     have g:Gr H μ (upd H a (.frz o (.dK vs))) μ:=Gr.write (Ωk hi) nf
     exact f.at g (rh.write hi ⟨o,vs,upd_same,s.mono rh g⟩ nf (show KeysOk kvs from rh.ks _ _ e)) (wj_dk upd_same (s.mono rh g) (show KeysOk kvs from rh.ks _ _ e))
   · rename_i kvs e
     cases r with
     | ref q =>
       obtain ⟨o,vs,h1,s⟩:=rh.ob i _ _ e q
       exact ⟨_,vs,rfl,.inr ⟨o,h1,f.ok rh (wj_dk h1 s (rh.ks _ _ e))⟩⟩
   · exact f.elim
 | _=>exact f.elim
theorem walk_ok{d:D}{x:V}{w:Wk}{R:It→Hp→Prop}(hY:Y.K=X.K)(rh:RH Y H μ h)(r:RD Y H μ d x)(e:walkOf d h=some w)(q:∀ J,WJ Y H μ w J→R J H):rW X.K x H R:=by
 cases d with
 | tup xs =>
   cases e
   obtain ⟨a,vs,rfl,t,s⟩:=r.tup_inv
   exact .inr (.inl ⟨a,rfl,⟨vs,hY ▸ t⟩,q _ (wj_tup hY rh t s)⟩)
 | ro xs =>
   cases e
   cases r with
   | ro t s=>exact .inl ⟨_,rfl,⟨_,hY ▸ t.sq⟩,q _ (wj_ro hY rh t s)⟩
 | ref i =>
   unfold walkOf at e
   simp only at e
   split at e
   · rename_i xs he
     cases e
     obtain ⟨a,vs,rfl,hi,hl,s⟩:=r.lst rh he
     exact .inl ⟨a,rfl,⟨vs,.of hl⟩,q _ (wj_lst hi)⟩
   · cases e
 | str y =>
   unfold walkOf at e
   simp only at e
   split at e
   · cases e
     obtain ⟨rfl,ok⟩:=r.str_inv
     exact .inr (.inr ⟨y,rfl,q _ (wj_str ok)⟩)
   · cases e
 | _=>cases e
end
end IV
end
section
namespace IV
open PySem PySem.Spec PyProof.Rows L2
structure Kl where
 cs:List Str
 ats:List Str
 ms:List (Str×Str)
 is:List Str
structure Gm where
 N:List Str
 sc:Scope
 fs:List Str
 top:Bool
 kl:Kl
noncomputable def glb (Γ:Gm) (x:Str):Bool:=decide (Γ.sc.names.lookup x=some .globalImplicit)&&!(x==("__debug__" : Str))
noncomputable def visb(sc:Scope)(x:Str):Bool:=decide (sc.names.lookup x=some .local) || decide (sc.names.lookup x=some .cell) || decide (sc.names.lookup x=some .free)
noncomputable def bname:Bf→Str
 | .len => "len" | .isi => "isinstance" | .int => "int" | .tup => "tuple" | .lst => "list" | .sum => "sum" | .all => "all" | .srt => "sorted" | .mx => "max"
noncomputable def bok:Bf→Bool
 | .mx=>false
 | .lst=>false
 | .int=>false
 | .all=>false
 | _=>true
noncomputable def mname:Mf→Str
 | .app => "append" | .ext => "extend" | .pop => "pop" | .rev => "reverse" | .clr => "clear"
noncomputable def tynames:List String:=["int", "str", "bool", "tuple", "list"]
noncomputable def chkC(Γ:Gm):D→Expr→Bool
 | .int i,.Constant (.int j) _ _=>decide (i=j)
 | .str x,.Constant (.str y) _ _=>decide (x=y)&&PyData.strOk y
 | .bl b,.Constant (.bool c) _ _=>decide (b=c)
 | .non,.Constant .none _ _=>true
 | .ty n,.Name x _=>decide (n∈tynames)&&decide (Str.ofString n=x)&&glb Γ x
 | _,_=>false
noncomputable def compb(NC N:List Str)(js:List (Option Nat))(sc scope:Scope):Bool :=
 decide (scope.kind=.function)&&decide (sc.kind=.function)&&(scope.names.all fun y=>decide (y.2≠.cell))&&(scope.names.all fun y=>!decide (y.2=.local) || decide (scope.names.lookup y.1=some .local)) &&
   (scope.names.all fun y=>!decide (y.2=.free) || decide (sc.names.lookup y.1=some .cell))&&decide NC.Nodup&&decide (js.length=NC.length) &&
   ((NC.zip js).all fun p=>p.2.all fun j=>decide (N[j]? = some p.1)&&decide (scope.names.lookup p.1=some .free))
theorem compb_ok{NC N:List Str}{js:List (Option Nat)}{sc scope:Scope}(h:compb NC N js sc scope=true):CompSc NC N js sc scope:=by
 unfold compb at h
 rw [Ωa,Ωa,Ωa,Ωa,Ωa,Ωa,Ωa] at h
 obtain ⟨⟨⟨⟨⟨⟨⟨a,b⟩,c⟩,d⟩,e⟩,f⟩,g⟩,i⟩:=h
 rw [ΩC] at c d e
 refine ⟨of_decide_eq_true a,of_decide_eq_true b,fun y hy=>of_decide_eq_true (c y hy),fun y hy e1=>?_,fun y hy e1=>?_,of_decide_eq_true f,of_decide_eq_true g,i⟩
 · have:=d y hy
   rw [decide_eq_true e1] at this
   simpa using this
 · have:=e y hy
   rw [decide_eq_true e1] at this
   simpa using this
noncomputable def chkGs(N:List Str)(own:Str→Bool):List Nat→List Expr→Bool
 | [],[]=>true
 | i::is,.Name x _::es=>decide (N[i]? = some x)&&own x&&chkGs N own is es
 | _,_=>false
noncomputable def chkG(N:List Str)(own:Str→Bool):Tg→Expr→Bool
 | .nm i,.Name x _=>decide (N[i]? = some x)&&own x
 | .two i j,.Tuple [.Name x _,.Name y _] _ _=>decide (N[i]? = some x)&&own x&&decide (N[j]? = some y)&&own y
 | .many is,.Tuple es _ _=>chkGs N own is es
 | _,_=>false
noncomputable def isTup:Expr→Bool
 | .Tuple _ _ _=>true
 | _=>false
noncomputable def tgk:Tg→Nat
 | .nm i=>i+1
 | .two i j=>max i j+1
 | .many is=>is.foldr max 0+1
noncomputable def ownC(sc:Scope)(x:Str):Bool:=decide (sc.names.lookup x=some .local)
noncomputable def ownD(sc:Scope)(x:Str):Bool:=decide (sc.names.lookup x=some .local) || decide (sc.names.lookup x=some .cell)
noncomputable def notSet:Expr→Bool
 | .Set _ _ _=>false
 | _=>true
noncomputable def notSlice:Expr→Bool
 | .Slice _ _ _ _=>false
 | _=>true
noncomputable def notStar:Expr→Bool
 | .Starred _ _=>false
 | _=>true
noncomputable def notCall0:Expr→Bool
 | .Call _ [] _ _=>false
 | _=>true
noncomputable def plainT:Expr→Bool
 | .BoolOp _ _ _|.UnaryOp _ _ _|.IfExp _ _ _ _|.NamedExpr _ _ _=>false
 | _=>true
mutual
noncomputable def chk(Γ:Gm):Ex→Expr→Bool
 | .var i,e=>match e with
   | .Name x _=>decide (Γ.N[i]? = some x)&&visb Γ.sc x&&!(x==("__debug__" : Str))&&!(x==("__classdict__" : Str))
   | _=>false
 | .cst d,e=>chkC Γ d e
 | .glo x,e=>match e with
   | .Name y _=>decide (x=y)&&glb Γ x
   | _=>false
 | .bin op a b,e=>match e with
   | .BinOp l op' r _=>decide (op=op')&&chk Γ a l&&chk Γ b r
   | _=>false
 | .cmp op a b,e=>match e with
   | .Compare l [op'] [r] _=>decide (op=op')&&chk Γ a l&&chk Γ b r&&notSet r
   | _=>false
 | .cmp2 _ _ _ _ _,_=>false
 | .neg a,e=>match e with
   | .UnaryOp .USub x _=>chk Γ a x
   | _=>false
 | .nt a,e=>match e with
   | .UnaryOp .Not x _=>chk Γ a x
   | _=>false
 | .ands es,e=>match e with
   | .BoolOp .And xs _=>chks Γ es xs
   | _=>false
 | .ors es,e=>match e with
   | .BoolOp .Or xs _=>chks Γ es xs
   | _=>false
 | .ite c a b,e=>match e with
   | .IfExp t x y _=>chkt Γ c t&&chk Γ a x&&chk Γ b y
   | _=>false
 | .tupl es,e=>match e with
   | .Tuple xs _ _=>chks Γ es xs
   | _=>false
 | .lstl es,e=>match e with
   | .List xs _=>chks Γ es xs
   | _=>false
 | .ix a i,e=>match e with
   | .Subscript x y _=>chk Γ a x&&chk Γ i y&&notSlice y
   | _=>false
 | .sl a lo hi,e=>match e with
   | .Subscript x (.Slice l u none _) _=>chk Γ a x&&chko Γ lo l&&chko Γ hi u
   | _=>false
 | .blt f es,e=>match e with
   | .Call (.Name x _) (y::ys) [] _=>decide (x=bname f)&&(bok f&&glb Γ x)&&chks Γ es (y::ys)
   | _=>false
 | .call f es,e=>match e with
   | .Call (.Name x _) (y::ys) [] _=>decide (x=f)&&decide (f∈Γ.fs)&&glb Γ x&&chks Γ es (y::ys)
   | _=>false
 | .meth m o es,e=>match e with
   | .Call (.Attribute x n ap) ys [] cp=>decide (n=mname m)&&chk Γ o x&&notCall0 x&&chks Γ es ys&&decide (ys.length<29)&&(ap.endLine==cp.line)
   | _=>false
 | .trev _,_=>false
 | .tix _ _,_=>false
 | .comp NC js it g c e,x=>match x with
   | .ListComp elt [⟨tg,iter,ifs,0⟩] scope _=>Γ.top&&compb NC Γ.N js Γ.sc scope&&chki Γ it tg iter&&notSet iter&&chkG NC (ownC scope) g tg&&((List.range (tgk g)).all fun j=>decide (js[j]? = some none)) &&
       chkf ⟨NC,scope,Γ.fs,false,Γ.kl⟩ c ifs&&chk ⟨NC,scope,Γ.fs,false,Γ.kl⟩ e elt
   | _=>false
 | .sorts _,_=>false
 | .maxd a d,e=>match e with
   | .Call (.Name x _) [y] [⟨some n,z,_⟩] _=>decide (x = "max")&&decide (n = "default")&&glb Γ x&&chk Γ a y&&notStar y&&chk Γ d z
   | _=>false
 | .dictl ps,e=>match e with
   | .Dict keys values _=>decide (keys.length≤15)&&chkp Γ ps keys values
   | _=>false
 | .att Cs o f,e=>match e with
   | .Attribute x n _=>decide (n=f)&&chk Γ o x&&notCall0 x&&(Cs.all fun C=>decide (C∈Γ.kl.cs))&&decide (f∈Γ.kl.ats)
   | _=>false
 | .mk C es,e=>match e with
   | .Call (.Name x _) ys [] _=>decide (x=C)&&decide (C∈Γ.kl.is)&&glb Γ x&&chks Γ es ys
   | _=>false
 | .mcl C m o es,e=>match e with
   | .Call (.Attribute x n ap) ys [] cp=>decide (n=m)&&chk Γ o x&&notCall0 x&&chks Γ es ys&&decide ((C,m)∈Γ.kl.ms)&&decide (ys.length<29)&&(ap.endLine==cp.line)
   | _=>false
 | .any,e=>match e with
   | .Compare _ _ _ _=>false
   | _=>true
noncomputable def chks(Γ:Gm):Exs→List Expr→Bool
 | .nil,es=>es.isEmpty
 | .cons e r,es=>match es with
   | x::xs=>chk Γ e x&&notStar x&&chks Γ r xs
   | []=>false
noncomputable def chkp(Γ:Gm):Exs→List (Option Expr)→List Expr→Bool
 | .nil,ks,vs=>ks.isEmpty&&vs.isEmpty
 | .cons k r,ks,vs=>match r with
   | .cons v r'=>match ks,vs with
     | some kx::ks,vx::vs=>chk Γ k kx&&chk Γ v vx&&chkp Γ r' ks vs
     | _,_=>false
   | .nil=>false
noncomputable def chko(Γ:Gm):Option Ex→Option Expr→Bool
 | none,x=>x.isNone
 | some a,x=>match x with
   | some x=>chk Γ a x
   | none=>false
noncomputable def chkf(Γ:Gm):Option Tx→List Expr→Bool
 | none,x=>x.isEmpty
 | some a,x=>match x with
   | [x]=>chkt Γ a x
   | _=>false
noncomputable def chkt(Γ:Gm):Tx→Expr→Bool
 | .ex e,x=>plainT x&&chk Γ e x
 | .ands ts,x=>match x with
   | .BoolOp .And xs _=>chkts Γ ts xs
   | _=>false
 | .ors ts,x=>match x with
   | .BoolOp .Or xs _=>chkts Γ ts xs
   | _=>false
 | .nt t,x=>match x with
   | .UnaryOp .Not y _=>chkt Γ t y
   | _=>false
noncomputable def chkts(Γ:Gm):Txs→List Expr→Bool
 | .one t,xs=>match xs with
   | [x]=>chkt Γ t x
   | _=>false
 | .cons t ts,xs=>match xs with
   | x::y::r=>chkt Γ t x&&chkts Γ ts (y::r)
   | _=>false
noncomputable def chki(Γ:Gm):Ix→Expr→Expr→Bool
 | .pl e,_,x=>chk Γ e x
 | .rng e,_,x=>match x with
   | .Call (.Name f _) [y] [] _=>decide (f = "range")&&glb Γ f&&chk Γ e y&&notStar y
   | _=>false
 | .rng2 _ _,_,_=>false
 | .enu e,tg,x=>match x with
   | .Call (.Name f _) [y] [] _=>decide (f = "enumerate")&&glb Γ f&&chk Γ e y&&notStar y&&isTup tg
   | _=>false
 | .rev e,_,x=>match x with
   | .Call (.Name f _) [y] [] _=>decide (f = "reversed")&&glb Γ f&&chk Γ e y&&notStar y
   | _=>false
 | .en1 e,tg,x=>match x with
   | .Call (.Name f _) [y] [⟨some kw,.Constant (.int 1) _ _,_⟩] _=>decide (f = "enumerate")&&decide (kw = "start")&&glb Γ f&&chk Γ e y&&notStar y&&isTup tg
   | _=>false
 | .dk e,_,x=>chk Γ e x
end
end IV
end
section
namespace IV
open PySem PySem.Spec PyProof.Rows L2
noncomputable def leS(a b:Str):Prop:=¬ b.cps.toList<a.cps.toList
theorem leS_trans{a b c:Str}(h:leS a b)(q:leS b c):leS a c:=by
 unfold leS at *
 rw [List.not_lt] at *
 exact List.le_trans h q
theorem leS_anti{a b:Str}(h:leS a b)(q:leS b a):a=b:=by
 unfold leS at *
 rw [List.not_lt] at *
 have e:=List.le_antisymm h q
 obtain ⟨⟨a⟩⟩:=a
 obtain ⟨⟨b⟩⟩:=b
 simp at e
 subst e
 rfl
theorem sorted_pair:∀ {ss:List Str},sortedS ss=true→ss.Pairwise leS:=by
 have gen:∀ (r:List Str) (p:Str),risingS p r=true→(∀ x∈r,leS p x)∧r.Pairwise leS:=by
   intro r
   induction r with
   | nil=>intro p _;exact ⟨by simp,.nil⟩
   | cons x r ih =>
     intro p h
     rw [risingS,Ωa] at h
     obtain ⟨h1,h2⟩:=ih x h.2
     have hx:leS p x:=by
       have:=h.1
       rw [ltCps_eq] at this
       unfold leS
       simpa using this
     refine ⟨fun y hy=>?_,.cons h1 h2⟩
     rcases Ωr.mp hy with rfl|hy
     · exact hx
     · exact leS_trans hx (h1 y hy)
 intro ss h
 cases ss with
 | nil=>exact .nil
 | cons x r=>obtain ⟨h1,h2⟩:=gen r x h;exact .cons h1 h2
theorem put_perm(x:Str):∀ r:List Str,(putS x r).Perm (x::r)
 | []=>.refl _
 | y::r=>by
   unfold putS
   split
   · exact ((put_perm x r).cons y).trans (.swap x y r)
   · exact .refl _
theorem sort_perm:∀ r:List Str,(sortS r).Perm r
 | []=>.refl _
 | x::r=>(put_perm x _).trans ((sort_perm r).cons x)
theorem put_pair(x:Str):∀ r:List Str,r.Pairwise leS→(putS x r).Pairwise leS
 | [],_=>.cons (by simp) .nil
 | y::r,h=>by
   cases h with
   | cons h1 h2 =>
     unfold putS
     split
     · rename_i hlt
       rw [ltCps_eq] at hlt
       have hlt:=of_decide_eq_true hlt
       refine .cons (fun z hz=>?_) (put_pair x r h2)
       rcases Ωr.mp ((put_perm x r).mem_iff.mp hz) with rfl|hz
       · unfold leS
         rw [List.not_lt]
         exact List.le_of_lt hlt
       · exact h1 z hz
     · rename_i hlt
       have hxy:leS x y:=by
         unfold leS
         rw [ltCps_eq] at hlt
         simpa using hlt
       refine .cons (fun z hz=>?_) (.cons h1 h2)
       rcases Ωr.mp hz with rfl|hz
       · exact hxy
       · exact leS_trans hxy (h1 z hz)
theorem sort_pair:∀ r:List Str,(sortS r).Pairwise leS
 | []=>.nil
 | x::r=>put_pair x _ (sort_pair r)
theorem sort_uniq{ss ss':List Str}(hp:ss'.Perm ss)(hs:sortedS ss'=true):ss'=sortS ss :=
 (hp.trans (sort_perm ss).symm).eq_of_pairwise (fun _ _ _ _ h q=>leS_anti h q) (sorted_pair hs) (sort_pair ss)
section
variable {X:Cx}{Y:Yx}{E:XK}{T:Tb}{H:Hp}{μ:List Addr}{h:Hd}
theorem keyStrs_rel:∀ {ds:List (Key×D)}{vs:List (Key×V)}{ss:List Str},RKs Y H μ ds vs→keyStrs ds=some ss→vs.map (·.1)=ss.map Sum.inr
 | _,_,_,.nil,e=>by cases e;rfl
 | _,_,_,.cons (k:=k) a s,e=>by
   cases k with
   | inl i=>cases e
   | inr x =>
     rw [keyStrs] at e
     obtain ⟨z,e1,rfl⟩:=Ωo.mp e
     rw [Ωp,Ωp,keyStrs_rel s e1]
theorem strs_rd:∀ (ss:List Str),(∀ x∈ss,PyData.strOk x=true)→RDs Y H μ (ss.map D.str) (ss.map V.str)
 | [],_=>.nil
 | x::r,h=>.cons (.str x (h x (by simp))) (strs_rd r fun y hy=>h y (by simp [hy]))
theorem blt_srt (hc:X.A.handled=none) (G:Gk X Y T):CallR X (.builtin "sorted") (rF Y E (bSorted T.GD)):=by
 intro pins s σ H xs us Q I r hh
 obtain ⟨ds,h,μ,rh,rs,f⟩:=hh
 unfold bSorted at f
 split at f
 · split at f
   · rename_i ss e2
     obtain ⟨hz,f⟩:=f.iff
     obtain ⟨kvs,e3,e4⟩:=Option.bind_eq_some_iff.mp e2
     obtain ⟨x,rfl,r1⟩:=rs.one
     obtain ⟨a,kvs',rfl,hd,rk⟩:=r1.dicOf G rh e3
     obtain ⟨hz,hok⟩:=hz
     refine call_sortedD hc pins s σ H _ us Q I r ⟨a,kvs',ss,rfl,hd,keyStrs_rel rk e4,hz,fun p ss' hp h1 h2=>?_⟩
     rw [sort_uniq h1 h2]
     refine f.new rh hp ⟨_,upd_same,strs_rd _ fun y hy=>?_⟩
     rw [ΩC] at hok
     exact hok y ((sort_perm ss).mem_iff.mp hy)
   · exact f.elim
 · exact f.elim
end
end IV
end
section
set_option tactic.hygienic false
namespace IV
open PySem PySem.Spec PyProof.Rows L2
noncomputable def RS(Y:Yx)(H:Hp)(μ:List Addr)(ρ:Ev)(σ:L2.St):Prop:=σ.length=ρ.length∧∀ (i:Nat) (d:D),ρ[i]? = some (some d)→∃ v,σ[i]? = some (some v)∧RD Y H μ d v
section
variable {Y:Yx}{H H':Hp}{μ μ':List Addr}{h:Hd}{ρ:Ev}{σ:L2.St}
theorem RS.mono(rh:RH Y H μ h)(g:Gr H μ H' μ')(r:RS Y H μ ρ σ):RS Y H' μ' ρ σ:=⟨r.1,fun i d e=>let ⟨v,h1,h2⟩:=r.2 i d e;⟨v,h1,h2.mono rh g⟩⟩
theorem RS.var(r:RS Y H μ ρ σ){i:Nat}{d:D}(e:(ρ[i]?).join=some d):∃ v,σ[i]? = some (some v)∧RD Y H μ d v:=by
 refine r.2 i d ?_
 cases q:ρ[i]? with
 | none=>rw [q] at e;cases e
 | some o=>rw [q] at e;cases o with
   | none=>cases e
   | some d'=>cases e;rfl
theorem RS.set(r:RS Y H μ ρ σ){i:Nat}{d:D}{v:V}(q:RD Y H μ d v):RS Y H μ (ρ.set i (some d)) (σ.set i (some v)):=by
 refine ⟨by simp [r.1],fun j e he=>?_⟩
 by_cases hj:i=j
 · subst hj
   have hl:i<ρ.length:=by
     have:=(Ωb.mp he).1
     simpa using this
   rw [Ωl hl] at he
   cases he
   exact ⟨v,by rw [Ωl (by rw [r.1];exact hl)],q⟩
 · rw [Ωc hj] at he
   obtain ⟨w,h1,h2⟩:=r.2 j e he
   exact ⟨w,by rw [Ωc hj];exact h1,h2⟩
theorem RS.capt(r:RS Y H μ ρ σ)(js:List (Option Nat)):RS Y H μ (captD js ρ) (capt js σ):=by
 refine ⟨by simp [captD,L2.capt],fun i d e=>?_⟩
 unfold captD at e
 unfold L2.capt
 rw [Ωn] at e ⊢
 cases q:js[i]? with
 | none=>rw [q] at e;cases e
 | some o =>
   rw [q] at e
   cases o with
   | none=>cases e
   | some j =>
     have e':(ρ[j]?).join=some d:=by simpa using e
     obtain ⟨v,h1,h2⟩:=r.var e'
     exact ⟨v,by simp [h1],h2⟩
end
section
variable (T:Tb) (Y:Yx) (E:XK)
noncomputable def semE(e:Ex):TE:=fun σ H Q=>∃ ρ h μ,RH Y H μ h∧RS Y H μ ρ σ∧Fin Y (RD Y) H μ (ev T e ρ h) Q E
noncomputable def semA(e:Exs):TA:=fun σ H Q=>∃ ρ h μ,RH Y H μ h∧RS Y H μ ρ σ∧Fin Y (RDs Y) H μ (evs T e ρ h) Q E
noncomputable def semT(e:Tx):TT:=fun σ H Q=>∃ ρ h μ,RH Y H μ h∧RS Y H μ ρ σ∧Fin Y (fun _ _ (a b:Bool)=>a=b) H μ (tst T e ρ h) Q E
noncomputable def semO(e:Option Ex):TO:=fun σ H Q=>∃ ρ h μ,RH Y H μ h∧RS Y H μ ρ σ∧Fin Y (fun _ _ (a b:Option Int)=>a=b) H μ (evo T e ρ h) Q E
noncomputable def semI(e:Ix):TI:=fun σ H Q=>∃ ρ h μ,RH Y H μ h∧RS Y H μ ρ σ∧Fin Y (WJ Y) H μ (evi T e ρ h) Q E
noncomputable def spOf(f:Str):Sp:=fun vs H Q E=>∃ ds h μ,RH Y H μ h∧RDs Y H μ ds vs∧Fin Y (RD Y) H μ (T.C f ds h) Q E
end
structure Gd(T:Tb)(Γ:Gm)(X:Cx)(Y:Yx)(E:XK)(k:Nat):Prop where
 gk:Gk X Y T
 N:X.N=Γ.N
 sc:Γ.top=true→X.env.scope=Γ.sc
 vis:∀ x,visb Γ.sc x=true→Vis X.env.scope x
 glo:∀ x,Γ.sc.names.lookup x=some .globalImplicit→Gl X x
 nd:X.N.Nodup
 calm:X.calm=true
 room:Room k X.A
 h60:60≤k
 pass:Passes (CXF X.prog X.w) X E
 defs:∀ f∈Γ.fs,∃ ps,Def X.prog X.w X.K X.mg X.base k f ps (spOf T Y f)
 blt:∀ x∈(["len", "isinstance", "int", "tuple", "list", "sum", "all", "sorted", "range", "enumerate", "reversed", "str", "bool", "max"]:List Str),X.mg x=none
 room1:Room (k+1) X.A
 cls:∀ C∈Γ.kl.cs,∃ a,X.mg C=some (.ref a)∧Cls X.K a∧∀ f∈Γ.kl.ats,NoAttr X.K a f
 mts:∀ p∈Γ.kl.ms,∃ a f fd ps,X.mg p.1=some (.ref a)∧Cls X.K a∧Meth X.K a p.2 f∧FnOk X.prog X.w X.K X.mg X.base (CXF X.prog X.w) k f fd ps (spOf T Y (mnm p.1 p.2))∧Binds X.K fd ps []
 mks:∀ C∈Γ.kl.is,∃ a f fd ps,X.mg C=some (.ref a)∧Mk X.K a f∧FnOk X.prog X.w X.K X.mg X.base (CXF X.prog X.w) k f fd ps (spOf T Y (mnm C (Ω "__init__")))∧Binds X.K fd ps []
theorem _root_.L2.PE.imp{X:Cx}{e:Expr}{t t':TE}(h:PE X e t)(i:∀ σ H Q,t' σ H Q→t σ H Q):PE X e t':=fun pins s σ H Q I q=>h pins s σ H Q I (i σ H Q q)
theorem _root_.L2.PT.imp{X:Cx}{e:Expr}{t t':TT}(h:PT X e t)(i:∀ σ H Q,t' σ H Q→t σ H Q):PT X e t':=fun pins s σ H Q I q=>h pins s σ H Q I (i σ H Q q)
theorem _root_.L2.PW.imp{X:Cx}{e:Expr}{t t':TT}(h:PW X e t)(i:∀ σ H Q,t' σ H Q→t σ H Q):PW X e t':=fun w pins s σ H Q I q=>h w pins s σ H Q I (i σ H Q q)
theorem _root_.L2.PA.imp{X:Cx}{e:List Expr}{t t':TA}(h:PA X e t)(i:∀ σ H Q,t' σ H Q→t σ H Q):PA X e t':=fun p pins s σ H Q I q=>h p pins s σ H Q I (i σ H Q q)
theorem _root_.L2.PO.imp{X:Cx}{e:Option Expr}{t t':TO}(h:PO X e t)(i:∀ σ H Q,t' σ H Q→t σ H Q):PO X e t':=fun pins s σ H Q I q=>h pins s σ H Q I (i σ H Q q)
theorem _root_.L2.PI.imp{X:Cx}{tg:Expr}{e:Expr}{t t':TI}(h:PI X tg e t)(i:∀ σ H Q,t' σ H Q→t σ H Q):PI X tg e t':=fun pins s σ H Q I q=>h pins s σ H Q I (i σ H Q q)
theorem star_cons{x:Expr}{xs:List Expr}(env:Env)(h:notStar x=true):starEach (x::xs) env=(false,eval x env)::starEach xs env:=by
 cases x<;>first|rfl|cases h
theorem set_ok{x:Expr}(env:Env)(h:notSet x=true):∀ v,foldedSetIterable x env v=pure v:=by
 cases x<;>first|(intro _;rfl)|cases h
theorem mark_ok{x:Expr}{op:CmpOp}(h:notSet x=true):behindInMarks op x=false:=by
 cases x<;>first|rfl|cases h
theorem slice_ok{x:Expr}(h:notSlice x=true):PlainIx x:=by
 cases x<;>first|(intro _ _;rfl)|cases h
theorem base_ok{x:Expr}{n:Str}{env:Env}(h:notCall0 x=true):attributeBase x n env (eval x env)=eval x env:=by
 cases x with
 | Call f as ks p =>
   cases as with
   | nil=>cases h
   | cons a as=>cases f<;>rfl
 | _=>rfl
theorem plain_ok{x:Expr}{env:Env}(h:plainT x=true)(hc:∀ l o r p,x≠.Compare l o r p):∀ whole,isTrue x env whole=(do let v ← whole;standAt x.pos;holding [v] (truthy v)):=by
 cases x<;>first|(intro _;rfl)|exact absurd rfl (hc _ _ _ _)|cases h
theorem stars_ok(Γ:Gm)(env:Env):∀ (es:Exs) (xs:List Expr),chks Γ es xs=true→∀ pos,(backTo pos (starEach xs env)).any (·.1)=false
 | .nil,xs,h,pos=>by
   rw [chks] at h
   cases xs with
   | nil=>rfl
   | cons a b=>cases h
 | .cons e r,xs,h,pos=>by
   cases xs with
   | nil=>rw [chks] at h;cases h
   | cons x xs =>
     rw [chks,Ωa,Ωa] at h
     rw [star_cons env h.1.2]
     have:=stars_ok Γ env r xs h.2 pos
     show ((false,_)::backTo pos (starEach xs env)).any (·.1)=false
     rw [List.any_cons,this];rfl
theorem stars_all(Γ:Gm)(env:Env):∀ (es:Exs) (xs:List Expr),chks Γ es xs=true→∀ pos,(backTo pos (starEach xs env)).all (fun x=>!x.1)=true
 | .nil,xs,h,pos=>by
   rw [chks] at h
   cases xs with
   | nil=>rfl
   | cons a b=>cases h
 | .cons e r,xs,h,pos=>by
   cases xs with
   | nil=>rw [chks] at h;cases h
   | cons x xs =>
     rw [chks,Ωa,Ωa] at h
     rw [star_cons env h.1.2]
     have:=stars_all Γ env r xs h.2 pos
     show ((false,_)::backTo pos (starEach xs env)).all (fun x=>!x.1)=true
     rw [List.all_cons,this];rfl
theorem Gd.gl {T:Tb}{Γ:Gm}{X:Cx}{Y:Yx}{E:XK}{k:Nat} (G:Gd T Γ X Y E k) {x:Str} (h:glb Γ x=true):Gl X x∧(x==("__debug__" : Str))=false:=by
 unfold glb at h
 rw [Ωa] at h
 exact ⟨G.glo x (of_decide_eq_true h.1),by simpa using h.2⟩
theorem lookup_map{f:Str→NameKind→NameKind}(x:Str):∀ names:List (Str×NameKind),(names.map fun p=>(p.1,f p.1 p.2)).lookup x=(names.lookup x).map (f x)
 | []=>rfl
 | (n,k)::r=>by
   rw [Ωp,ΩF,ΩF]
   by_cases e:x=n
   · subst e;simp
   · have:(x==n)=false:=by simpa using e
     simp only [this]
     exact lookup_map x r
theorem relabel_lookup(scope:Scope)(env:Env)(x:Str):(relabel scope env).names.lookup x=(scope.names.lookup x).map fun k=>if (k==NameKind.free&&env.scope.kind==.function&&env.kindOf x==some .cell) then NameKind.cell else k:=by
 have e:(relabel scope env).names=scope.names.map fun p=>(p.1,(fun (n:Str) (k:NameKind)=>if (k==NameKind.free&&env.scope.kind==.function&&env.kindOf n==some .cell) then NameKind.cell else k) p.1 p.2):=by
   unfold relabel
   simp only
   refine List.map_congr_left fun p _=>?_
   obtain ⟨n,k⟩:=p
   simp only
   split<;>rfl
 rw [e]
 exact lookup_map (f:=fun (n:Str) (k:NameKind)=>if (k==NameKind.free&&env.scope.kind==.function&&env.kindOf n==some .cell) then NameKind.cell else k) x scope.names
theorem Gd.comp{T:Tb}{Γ:Gm}{X:Cx}{Y:Yx}{E:XK}{k:Nat}(G:Gd T Γ X Y E k)(NC:List Str)(scope:Scope)(C:Addr)(s3:Shared)(H3:Hp)(fp:List Addr)(nd:NC.Nodup):Gd T ⟨NC,scope,Γ.fs,false,Γ.kl⟩ (cxComp X NC scope C s3 H3 fp) Y E0 k:=by
 refine ⟨⟨G.gk.K,G.gk.mg,G.gk.gd,G.gk.g,G.gk.bare⟩,rfl,(fun h=>by cases h),fun x hx=>?_,fun x hx=>?_,nd,rfl,G.room,G.h60,pass_none,G.defs,G.blt,G.room1,G.cls,G.mts,G.mks⟩
 · show Vis (relabel scope X.env) x
   unfold Vis
   rw [relabel_lookup]
   unfold visb at hx
   rw [Bool.or_eq_true,Bool.or_eq_true] at hx
   rcases hx with (hx|hx)|hx
   · rw [of_decide_eq_true hx];exact .inl rfl
   · rw [of_decide_eq_true hx];exact .inr (.inl rfl)
   · rw [of_decide_eq_true hx]
     by_cases q:(X.env.scope.kind==.function&&X.env.kindOf x==some .cell)=true
     · refine .inr (.inl ?_)
       have:(NameKind.free==NameKind.free&&X.env.scope.kind==.function&&X.env.kindOf x==some .cell)=true:=by simpa using q
       simp only [Option.map_some,this,if_true]
     · refine .inr (.inr ?_)
       have:¬ ((NameKind.free==NameKind.free&&X.env.scope.kind==.function&&X.env.kindOf x==some .cell)=true):=by simpa using q
       simp only [Option.map_some,this,if_false]
       rfl
 · show (relabel scope X.env).names.lookup x=some .globalImplicit
   rw [relabel_lookup,hx]
   rfl
section
variable {T:Tb}{Y:Yx}{E:XK}{σ:L2.St}{H:Hp}{Q:VK}
theorem sem2{a b:Ex}{f:D→D→Hd→R D}{ρ:Ev}{h:Hd}{μ:List Addr}(rh:RH Y H μ h)(rs:RS Y H μ ρ σ)(q:Fin Y (RD Y) H μ ((ev T a ρ h).bind fun x h1=>(ev T b ρ h1).bind fun y h2=>f x y h2) Q E) :
   semE T Y E a σ H fun x H1=>semE T Y E b σ H1 fun y H2=>rB Y E f x y H2 Q :=
 ⟨ρ,h,μ,rh,rs,q.bind fun d h1 x H1 μ1 _ g rh1 rd f1=>⟨ρ,h1,μ1,rh1,rs.mono rh g,f1.bind fun e h2 y H2 μ2 _ g2 rh2 re f2=>⟨d,e,h2,μ2,rh2,rd.mono rh1 g2,re,f2⟩⟩⟩
end
theorem blt_pe{T:Tb}{Γ:Gm}{X:Cx}{Y:Yx}{E:XK}{k:Nat}(G:Gd T Γ X Y E k)(f:Bf)(hb:bok f=true){e:Expr}{es:List Expr}{t:TA}{p pos:Pos}(hg:Gl X (bname f))(ha:PA X (e::es) t)
   (he:starEach (e::es) X.env=(false,eval e X.env)::starEach es X.env) (hpl:(backTo pos (starEach es X.env)).any (·.1)=false):PE X (.Call (.Name (bname f) p) (e::es) [] pos) (tCB (rF Y E (bltD T.GD f)) t):=by
 have hY:=G.gk.K
 cases f with
 | len=>exact pe_callB (blt_len hY) hg (G.blt _ (by decide)) (by decide +kernel) ha (by decide) (by decide) he hpl
 | isi=>exact pe_callB (blt_isi hY) hg (G.blt _ (by decide)) (by decide +kernel) ha (by decide) (by decide) he hpl
 | int=>cases hb
 | tup=>exact pe_callTy (blt_tup hY) hg (G.blt _ (by decide)) (by decide +kernel) ha (by decide) (by decide) he hpl
 | lst=>cases hb
 | sum=>exact pe_callB (blt_sum G.room.hd hY) hg (G.blt _ (by decide)) (by decide +kernel) ha (by decide) (by decide) he hpl
 | all=>cases hb
 | mx=>cases hb
 | srt=>exact pe_callB (blt_srt G.room.hd G.gk) hg (G.blt _ (by decide)) (by decide +kernel) ha (by decide) (by decide) he hpl
end IV
end
section
namespace IV
open PySem PySem.Spec PyProof.Rows L2
theorem const_ok{T:Tb}{Γ:Gm}{X:Cx}{Y:Yx}{E:XK}{k:Nat}(G:Gd T Γ X Y E k){d:D}{x:Expr}(h:chkC Γ d x=true):PE X x (semE T Y E (.cst d)):=by
 have go:∀ {v:V},(∀ H μ,RD Y H μ d v)→PE X x (tC v)→PE X x (semE T Y E (.cst d)):=fun {v} rd p=>PE.imp p fun σ H Q ⟨ρ,h,μ,rh,rs,f⟩=>Fin.ok (r:=rd H μ) (show Fin Y (RD Y) H μ (.ok d h) Q E from f) rh
 unfold chkC at h
 split at h
 · have e:=of_decide_eq_true h
   subst e
   exact go (fun _ _=>.int _) pe_int
 · rw [Ωa] at h
   have e:=of_decide_eq_true h.1
   subst e
   exact go (fun _ _=>.str _ h.2) pe_str
 · have e:=of_decide_eq_true h
   subst e
   exact go (fun _ _=>.bl _) pe_bl
 · exact go (fun _ _=>.non) pe_non
 · rename_i n x _
   rw [Ωa,Ωa] at h
   obtain ⟨⟨h1,h2⟩,h3⟩:=h
   have e:=of_decide_eq_true h2
   subst e
   obtain ⟨g1,g2⟩:=G.gl h3
   have hn:=of_decide_eq_true h1
   have all:(tynames.all fun n=>decide (bootBuiltins (Str.ofString n)=some (.type n))&&decide (Str.ofString n ≠ "__name__")&&decide (Str.ofString n∈(["len", "isinstance", "int", "tuple", "list", "sum", "all", "sorted", "range", "enumerate", "reversed", "str", "bool", "max"]:List Str)))=true:=by decide +kernel
   rw [ΩC] at all
   have a:=all n hn
   rw [Ωa,Ωa] at a
   exact go (fun _ _=>.ty _) (pe_bltn g1 (G.blt _ (of_decide_eq_true a.2)) (of_decide_eq_true a.1.1) rfl (of_decide_eq_true a.1.2) g2)
 · cases h
theorem R.bind_eq{α β:Type}{r:R α}{k:α→Hd→R β}{b:β}{h:Hd}(e:r.bind k=.ok b h):∃ a h1,r=.ok a h1∧k a h1=.ok b h:=by
 cases r with
 | bad=>cases e
 | ok a h1=>exact ⟨a,h1,rfl,e⟩
 | exc c h1=>cases e
theorem R.bind_assoc{α β γ:Type}{r:R α}{k:α→Hd→R β}{l:β→Hd→R γ}:(r.bind k).bind l=r.bind fun a h=>(k a h).bind l:=by cases r<;>rfl
theorem opC_bl{GD:Str→Option (List (Key×D))}{op:CmpOp}{x y r:D}{h h':Hd}(e:opC GD op x y h=.ok r h'):∃ b,r=.bl b:=by
 have i2:∀ {f:Int→Int→Bool},opI2 f x y h=.ok r h'→∃ b,r=.bl b:=fun e=>by
   unfold opI2 at e
   split at e
   · cases e;exact ⟨_,rfl⟩
   · cases e
 have eq:∀ {n:Bool},opEq n x y h=.ok r h'→∃ b,r=.bl b:=fun e=>by
   unfold IV.opEq at e
   split at e
   · split at e
     · cases e;exact ⟨_,rfl⟩
     · cases e
   · cases e
 have inn:∀ {n:Bool},opIn' GD n x y h=.ok r h'→∃ b,r=.bl b:=fun e=>by
   unfold opIn' at e
   split at e
   · split at e
     · cases e;exact ⟨_,rfl⟩
     · cases e
   · split at e
     · cases e;exact ⟨_,rfl⟩
     · cases e
 have n1:∀ {n:Bool},opN n x y h=.ok r h'→∃ b,r=.bl b:=fun e=>by
   unfold opN at e
   split at e
   · cases e;exact ⟨_,rfl⟩
   · cases e
 unfold opC at e
 split at e
 · exact eq e
 · exact eq e
 · exact i2 e
 · exact i2 e
 · exact i2 e
 · exact i2 e
 · exact inn e
 · exact inn e
 · exact n1 e
 · exact n1 e
theorem mslot (m:Mf):Slot "list" (mname m) (mid m)∧typeOf (.builtin (mid m))=pure (.type "method_descriptor"):=by
 cases m with
 | app=>exact ⟨PySem.F.slot_list_append,PySem.F.type_list_append⟩
 | ext=>exact ⟨PySem.F.slot_list_extend,PySem.F.type_list_extend⟩
 | pop=>exact ⟨PySem.F.slot_list_pop,PySem.F.type_list_pop⟩
 | rev=>exact ⟨PySem.F.slot_list_reverse,PySem.F.type_list_reverse⟩
 | clr=>exact ⟨PySem.F.slot_list_clear,PySem.F.type_list_clear⟩
section
variable {Y:Yx}{α β α' β':Type}{rel:Hp→List Addr→α→β→Prop}{rel':Hp→List Addr→α'→β'→Prop}{H0 H H1:Hp}{μ0 μ μ1:List Addr}{E:XK}
theorem Fin.bindB{r:R α}{k:α→Hd→R α'}{Q:β'→Hp→Prop}{Q1:β→Hp→Prop}(g0:Gr H0 μ0 H μ)(f:Fin Y rel' H0 μ0 (r.bind k) Q E)
   (hk:∀ a h1 b H1 μ1,r=.ok a h1→Gr H μ H1 μ1→RH Y H1 μ1 h1→rel H1 μ1 a b→Fin Y rel' H0 μ0 (k a h1) Q E→Q1 b H1):Fin Y rel H μ r Q1 E:=by
 cases r with
 | bad=>exact f
 | ok a h=>exact fun b H' μ' g' rh rl=>hk a h b H' μ' rfl g' rh rl f
 | exc c h=>exact fun H' μ' C g'=>f H' μ' C (g0.trans g')
theorem Fin.plain{r:R α}{k:α→Hd→R α'}{Q:β'→Hp→Prop}{Q1:β→Hp→Prop}(f:Fin Y rel' H0 μ0 (r.plain.bind k) Q E)
   (hk:∀ a h1 b H1 μ1,r=.ok a h1→Gr H μ H1 μ1→RH Y H1 μ1 h1→rel H1 μ1 a b→Fin Y rel' H0 μ0 (k a h1) Q E→Q1 b H1):Fin Y rel H μ r Q1 E0:=by
 cases r with
 | bad=>exact f
 | ok a h=>exact fun b H' μ' g' rh rl=>hk a h b H' μ' rfl g' rh rl f
 | exc c h=>exact f.elim
end
noncomputable def gMany:List Nat→TGs
 | []=>gNil
 | i::is=>gCons (gName i) (gMany is)
noncomputable def tgR(K:PySem.W.Frag):Tg→TG
 | .nm i=>gName i
 | .two i j=>gTup K 2 (gCons (gName i) (gCons (gName j) gNil))
 | .many is=>gTup K is.length (gMany is)
theorem tgs_many{k:Nat}:∀ is:List Nat,is.foldr max 0<k→TgsOk k (gMany is)
 | [],_=>tgs_nil
 | i::is,h=>by
   simp only [List.foldr_cons] at h
   exact tgs_cons (by omega) (tgs_many is (by omega))
theorem tgOk(K:PySem.W.Frag)(g:Tg):TgOk (tgk g) (tgR K g):=by
 cases g with
 | nm i=>exact tg_name (ΩH i)
 | two i j=>exact tg_tup (tgs_cons (show i<max i j+1 by omega) (tgs_cons (show j<max i j+1 by omega) tgs_nil))
 | many is=>exact tg_tup (tgs_many is (ΩH _))
theorem each_many{env:Env}{N:List Str}{own:Str→Bool}:∀ (is:List Nat) (es:List Expr),chkGs N own is es=true→(assignEach es env).length=is.length∧List.findIdx? (fun x=>x.fst) (assignEach es env)=none
 | [],[],_=>⟨rfl,rfl⟩
 | i::is,e::es,h=>by
   unfold chkGs at h
   split at h
   · rename_i h1 h2;cases h1
   · rename_i h1 h2
     cases h1;cases h2
     rw [Ωa,Ωa] at h
     obtain ⟨a,b⟩:=each_many (env:=env) is _ h.2
     constructor
     · simp [assignEach,a]
     · simp only [assignEach,List.findIdx?_cons,b]
       rfl
   · cases h
 | [],_::_,h=>by cases h
 | _::_,[],h=>by simp [chkGs] at h
theorem pgs_many{X:Cx}{N:List Str}{own:Str→Bool}(hN:X.N=N)(nd:X.N.Nodup)(ho:∀ x,own x=true→Loc X.env.scope x∧(X.fn x=true∨X.env.scope.names.lookup x=some .local)):∀ (is:List Nat) (es:List Expr),chkGs N own is es=true→PGs X es (gMany is)
 | [],[],_=>pgs_nil
 | i::is,e::es,h=>by
   unfold chkGs at h
   split at h
   · rename_i h1 h2;cases h1
   · rename_i h1 h2
     cases h1;cases h2
     rw [Ωa,Ωa] at h
     obtain ⟨o1,o2⟩:=ho _ h.1.2
     exact pgs_cons (pg_name nd (by rw [hN];exact of_decide_eq_true h.1.1) o1 o2) (pgs_many hN nd ho is _ h.2)
   · cases h
 | [],_::_,h=>by cases h
 | _::_,[],h=>by simp [chkGs] at h
theorem pg_ok{X:Cx}{N:List Str}{own:Str→Bool}{g:Tg}{tg:Expr}(hN:X.N=N)(nd:X.N.Nodup)(hc:X.calm=true)(ho:∀ x,own x=true→Loc X.env.scope x∧(X.fn x=true∨X.env.scope.names.lookup x=some .local))(h:chkG N own g tg=true):PG X tg (tgR X.K g):=by
 unfold chkG at h
 split at h
 · rw [Ωa] at h
   obtain ⟨o1,o2⟩:=ho _ h.2
   exact pg_name nd (by rw [hN];exact of_decide_eq_true h.1) o1 o2
 · rw [Ωa,Ωa,Ωa] at h
   obtain ⟨⟨⟨h1,h2⟩,h3⟩,h4⟩:=h
   obtain ⟨o1,o2⟩:=ho _ h2
   obtain ⟨p1,p2⟩:=ho _ h4
   exact pg_tup hc (pgs_cons (pg_name nd (by rw [hN];exact of_decide_eq_true h1) o1 o2) (pgs_cons (pg_name nd (by rw [hN];exact of_decide_eq_true h3) p1 p2) pgs_nil))
 · exact pg_tup (hn:=(each_many _ _ h).1) (hst:=(each_many _ _ h).2) hc (pgs_many hN nd ho _ _ h)
 · cases h
theorem many_rd{Y:Yx}{H:Hp}{μ:List Addr}{Q:L2.St→Hp→Prop}:∀ (is:List Nat) {ds:List D}{vs:List V}{ρ:Ev}{σ:L2.St},RDs Y H μ ds vs→RS Y H μ ρ σ→ds.length=is.length→(∀ σ1,RS Y H μ (setAll is ds ρ) σ1→Q σ1 H)→gMany is vs σ H Q
 | [],ds,vs,ρ,σ,r,rs,hl,q=>by
   cases r with
   | nil=>exact ⟨rfl,q _ rs⟩
   | cons a s=>simp at hl
 | i::is,ds,vs,ρ,σ,r,rs,hl,q=>by
   cases r with
   | nil=>simp at hl
   | cons a s=>exact ⟨_,_,rfl,many_rd is s (rs.set a) (by simpa using hl) q⟩
theorem bind_rd{Y:Yx}{K:PySem.W.Frag}{H:Hp}{μ:List Addr}{g:Tg}{d:D}{v:V}{ρ ρ1:Ev}{σ:L2.St}{Q:L2.St→Hp→Prop}(hY:Y.K=K)(r:RD Y H μ d v)(rs:RS Y H μ ρ σ)(e:bindT g d ρ=some ρ1)(q:∀ σ1,RS Y H μ ρ1 σ1→Q σ1 H):tgR K g v σ H Q:=by
 cases g with
 | nm i =>
   cases e
   exact q _ (rs.set r)
 | two i j =>
   unfold bindT at e
   simp only at e
   split at e
   · cases e
     obtain ⟨a,vs,rfl,t,s⟩:=r.tup_inv
     obtain ⟨x,y,rfl,r1,r2⟩:=s.two
     exact ⟨a,_,rfl,hY ▸ t,rfl,x,_,rfl,y,_,rfl,rfl,q _ ((rs.set r1).set r2)⟩
   · cases e
 | many is =>
   unfold bindT at e
   simp only at e
   split at e
   · split at e
     · rename_i hl
       cases e
       obtain ⟨a,vs,rfl,t,s⟩:=r.tup_inv
       exact ⟨a,vs,rfl,hY ▸ t,by rw [← s.length,hl],many_rd is s rs hl q⟩
     · cases e
   · cases e
section
variable {Y:Yx}{H:Hp}{μ:List Addr}{h:Hd}{Dd:Addr}{ys zs:List V}
theorem sqT_swap{K:PySem.W.Frag}(hD:H Dd=some (.lst ys)){a:Addr}{vs:List V}(t:SqT K H a vs):SqT K (upd H Dd (.lst zs)) a vs:=by
 rcases t with t|t
 · rcases t with t|⟨o,t⟩
   · exact .inl (.inl (by rw [upd_ne (fun z=>by rw [z,hD] at t;cases t)];exact t))
   · exact .inl (.inr ⟨o,by rw [upd_ne (fun z=>by rw [z,hD] at t;cases t)];exact t⟩)
 · exact .inr t
theorem fzL_swap{K:PySem.W.Frag}(hD:H Dd=some (.lst ys)){a:Addr}{vs:List V}(t:FzL K H a vs):FzL K (upd H Dd (.lst zs)) a vs:=by
 rcases t with ⟨o,t⟩|t
 · exact .inl ⟨o,by rw [upd_ne (fun z=>by rw [z,hD] at t;cases t)];exact t⟩
 · exact .inr t
mutual
theorem RD.swap(hD:H Dd=some (.lst ys)):∀ {d:D}{v:V},RD Y H μ d v→RD Y (upd H Dd (.lst zs)) μ d v
 | _,_,.non=>.non
 | _,_,.bl b=>.bl b
 | _,_,.int i=>.int i
 | _,_,.str x ok=>.str x ok
 | _,_,.tup t s=>.tup (sqT_swap hD t) (RDs.swap hD s)
 | _,_,.ref e=>.ref e
 | _,_,.ty n=>.ty n
 | _,_,.ro t s=>.ro (fzL_swap hD t) (RDs.swap hD s)
 | _,_,.kd e=>.kd e
theorem RDs.swap(hD:H Dd=some (.lst ys)):∀ {d:List D}{v:List V},RDs Y H μ d v→RDs Y (upd H Dd (.lst zs)) μ d v
 | _,_,.nil=>.nil
 | _,_,.cons a s=>.cons (RD.swap hD a) (RDs.swap hD s)
end
theorem RKs.swap{κ:Type}(hD:H Dd=some (.lst ys)):∀ {d:List (κ×D)}{v:List (κ×V)},RKs Y H μ d v→RKs Y (upd H Dd (.lst zs)) μ d v
 | _,_,.nil=>.nil
 | _,_,.cons a s=>.cons (a.swap hD) (s.swap hD)
theorem RH.swap(hD:H Dd=some (.lst ys))(hn:Dd ∉ μ)(r:RH Y H μ h):RH Y (upd H Dd (.lst zs)) μ h:=by
 refine ⟨r.len,r.nd,fun i o a e1 e2=>?_,r.ks⟩
 have ne:a≠Dd:=fun z=>hn (z ▸ Ωk e2)
 have q:=r.ob i o a e1 e2
 cases o with
 | lst ds=>obtain ⟨vs,z,s⟩:=q;exact ⟨vs,by rw [upd_ne ne];exact z,s.swap hD⟩
 | dic ds=>obtain ⟨vs,z,s⟩:=q;exact ⟨vs,by rw [upd_ne ne];exact z,s.swap hD⟩
 | ins C ds=>obtain ⟨a1,a2,a3,z,m,s⟩:=q;exact ⟨a1,a2,a3,by rw [upd_ne ne];exact z,m,s.swap hD⟩
 | fdic ds=>obtain ⟨o,vs,z,s⟩:=q;exact ⟨o,vs,by rw [upd_ne ne];exact z,s.swap hD⟩
theorem Gr.out{H':Hp}{μ':List Addr}(g:Gr H μ H' μ'){o:HO}(hD:H Dd=some o)(hn:Dd ∉ μ):H' Dd=some o∧Dd ∉ μ' :=
 ⟨g.keep _ _ hn hD,fun hm=>(g.new _ hm).elim hn fun z=>by rw [hD] at z;cases z⟩
end
section
variable {Y:Yx}{H:Hp}{μ:List Addr}{p:Addr}
mutual
theorem RD.more:∀ {d:D}{v:V},RD Y H μ d v→RD Y H (μ++[p]) d v
 | _,_,.non=>.non
 | _,_,.bl b=>.bl b
 | _,_,.int i=>.int i
 | _,_,.str x ok=>.str x ok
 | _,_,.tup t s=>.tup t (RDs.more s)
 | _,_,.ref e=>.ref (by rw [Ωe (Ωb.mp e).1];exact e)
 | _,_,.ty n=>.ty n
 | _,_,.ro t s=>.ro t (RDs.more s)
 | _,_,.kd e=>.kd e
theorem RDs.more:∀ {d:List D}{v:List V},RDs Y H μ d v→RDs Y H (μ++[p]) d v
 | _,_,.nil=>.nil
 | _,_,.cons a s=>.cons (RD.more a) (RDs.more s)
end
theorem RKs.more{κ:Type}:∀ {d:List (κ×D)}{v:List (κ×V)},RKs Y H μ d v→RKs Y H (μ++[p]) d v
 | _,_,.nil=>.nil
 | _,_,.cons a s=>.cons a.more s.more
theorem RO.more{a:Addr}{o:DO}(q:RO Y H μ a o):RO Y H (μ++[p]) a o:=by
 cases o with
 | lst ds=>obtain ⟨vs,z,s⟩:=q;exact ⟨vs,z,s.more⟩
 | dic ds=>obtain ⟨vs,z,s⟩:=q;exact ⟨vs,z,s.more⟩
 | ins C ds=>obtain ⟨a1,a2,a3,z,m,s⟩:=q;exact ⟨a1,a2,a3,z,m,s.more⟩
 | fdic ds=>obtain ⟨o,vs,z,s⟩:=q;exact ⟨o,vs,z,s.more⟩
end
theorem comp_rd{T:Tb}{Y:Yx}{E:XK}{K:PySem.W.Frag}(hY:Y.K=K){js:List (Option Nat)}{g:Tg}{c:Option Tx}{e:Ex}{tc:TT}{J:It}{w:Wk}{H1:Hp}{μ1:List Addr}{h1:Hd}{ρ:Ev}{σ:L2.St}{Q:VK}{Dd:Addr}
   (htc:∀ σ H Q,(∃ ρ h μ,RH Y H μ h∧RS Y H μ ρ σ∧Fin Y (fun _ _ (a b:Bool)=>a=b) H μ (tsto T c ρ h) Q E0)→tc σ H Q)
   (rh:RH Y H1 μ1 h1) (rs:RS Y H1 μ1 ρ σ) (wj:WJ Y H1 μ1 w J) (f:Fin Y (RD Y) H1 μ1 ((compL w.src g (tsto T c) (ev T e) w.xs (captD js ρ) [] h1).bind fun xs h2=>newO (.lst xs) h2) Q E) (hD:H1 Dd=none) :
   ∃ W:Nat→Nat→List V→Hp→Prop,(∃ m,W 0 m [] (upd H1 Dd (.lst []))) ∧
     ∀ i m ys H,W i m ys H→H Dd=some (.lst ys)→(J.stop i H∧Q (.ref Dd) H) ∨
       (J.go i H∧ys.length<sizeLine∧∀ x H',J.yld i H x H'→tgR K g x (capt js σ) H' fun σ2 H2=>tc σ2 H2 fun b H3 =>
         if b=true then semE T Y E0 e σ2 H3 fun y H4=>H4 Dd=some (.lst ys)∧∃ m',m'<m∧W (i+1) m' (ys++[y]) (upd H4 Dd (.lst (ys++[y])))
         else H3 Dd=some (.lst ys)∧∃ m',m'<m∧W (i+1) m' ys H3):=by
 have n1:Dd ∉ μ1:=fun z=>by have:=rh.mut z;rw [hD] at this;exact this
 refine ⟨fun i m ys H=>∃ acc h μ,i≤w.xs.length∧m=w.xs.length - i∧Gr H1 μ1 H μ∧RH Y H μ h∧RDs Y H μ acc ys∧Dd ∉ μ ∧
   Fin Y (RD Y) H1 μ1 ((compL w.src g (tsto T c) (ev T e) (w.xs.drop i) (captD js ρ) acc h).bind fun xs h2=>newO (.lst xs) h2) Q E,⟨w.xs.length,[],h1,μ1,Nat.zero_le _,by simp,Gr.lay0 hD,rh.lay0 hD,.nil,n1,f⟩,?_⟩
 rintro i m ys H ⟨acc,h,μ,hi,rfl,g1,rh1,ra,nD,f1⟩ hl
 by_cases hlt:i<w.xs.length
 · obtain ⟨d,hd⟩:∃ d,w.xs[i]? = some d:=⟨_,Ωg hlt⟩
   have hdrop:w.xs.drop i=d::w.xs.drop (i+1):=by
     rw [List.drop_eq_getElem_cons hlt]
     have:=Ωg hlt
     rw [hd] at this
     rw [← Option.some.inj this]
   rw [hdrop,compL] at f1
   by_cases hs:Wk.stays w.src h=true∧acc.length<sizeLine
   · rw [if_pos hs] at f1
     obtain ⟨go,yl⟩:=(wj H μ h g1 rh1 hs.1).1 i d hd
     refine .inr ⟨go,by rw [← ra.length];exact hs.2,fun x H' hy=>?_⟩
     obtain ⟨g2,rh2,rx⟩:=yl x H' hy
     obtain ⟨hl2,nD2⟩:=g2.out hl nD
     have g02:=g1.trans g2
     split at f1
     · exact f1.elim
     · rename_i ρ1 hb
       refine bind_rd hY rx ((rs.mono rh g02).capt js) hb fun σ1 rs1=>htc σ1 H' _ ⟨ρ1,h,μ,rh2,rs1,?_⟩
       rw [R.bind_assoc] at f1
       refine Fin.plain f1 fun b h3 b' H3 μ3 _ g3 rh3 eb f3=>?_
       subst eb
       obtain ⟨hl3,nD3⟩:=g3.out hl2 nD2
       have g03:=g02.trans g3
       cases b with
       | true =>
         rw [if_pos rfl] at f3 ⊢
         rw [R.bind_assoc] at f3
         refine ⟨ρ1,h3,μ3,rh3,rs1.mono rh2 g3,Fin.plain f3 fun y h4 y' H4 μ4 _ g4 rh4 ry f4=>?_⟩
         obtain ⟨hl4,nD4⟩:=g4.out hl3 nD3
         refine ⟨hl4,_,Nat.sub_lt_sub_left hlt (ΩH i),acc++[y],h4,μ4,hlt,rfl,?_,rh4.swap hl4 nD4,?_,nD4,f4⟩
         · have g04:=g03.trans g4
           exact ⟨g04.pre,g04.new,fun b o hb e=>by rw [upd_ne (fun z=>by rw [z,hD] at e;cases e)];exact g04.keep b o hb e,fun b u v e=>by rw [upd_ne (fun z=>by rw [z,hD] at e;cases e)];exact g04.fz b u v e⟩
         · exact ((((ra.mono rh1 g2).mono rh2 g3).mono rh3 g4).append (.cons ry .nil)).swap hl4
       | false =>
         rw [if_neg (by decide)] at f3 ⊢
         exact ⟨hl3,_,Nat.sub_lt_sub_left hlt (ΩH i),acc,h3,μ3,hlt,rfl,g03,rh3,(ra.mono rh1 g2).mono rh2 g3,nD3,f3⟩
   · rw [if_neg hs] at f1
     exact f1.elim
 · have he:i=w.xs.length:=by omega
   subst he
   rw [List.drop_eq_nil_of_le (Ωq _),compL] at f1
   by_cases hs:Wk.stays w.src h=true
   · rw [if_pos hs] at f1
     refine .inl ⟨(wj H μ h g1 rh1 hs).2,?_⟩
     have f2:Fin Y (RD Y) H1 μ1 (.ok (.ref h.length) (h++[.lst acc])) Q E:=f1
     have gg:Gr H μ H (μ++[Dd])→True:=fun _=>trivial
     have g3:Gr H1 μ1 H (μ++[Dd]):=by
       refine ⟨fun j a e=>?_,fun a ha=>?_,g1.keep,g1.fz⟩
       · have:=g1.pre j a e
         rw [Ωe (Ωb.mp this).1];exact this
       · rcases ΩD.mp ha with z|z
         · exact g1.new a z
         · rw [Ωx.mp z];exact .inr hD
     refine f2.at g3 ?_ (.ref (by rw [rh1.len];simp))
     have pre:∀ {d:D}{v:V},RD Y H μ d v→RD Y H (μ++[Dd]) d v:=fun r=>r.more
     refine ⟨by simp [rh1.len],?_,fun j o a e1 e2=>?_,ks_app rh1.ks trivial⟩
     · rw [List.nodup_append]
       refine ⟨rh1.nd,by simp,fun a ha b hb=>?_⟩
       rw [Ωx.mp hb]
       intro z
       exact nD (z ▸ ha)
     · by_cases hj:j<h.length
       · rw [Ωe hj] at e1
         rw [Ωe (by rw [← rh1.len];exact hj)] at e2
         exact (rh1.ob j o a e1 e2).more
       · have hj':j=h.length:=by
           have:=(Ωb.mp e1).1
           simp at this
           omega
         subst hj'
         rw [Ωm (Ωq _)] at e1
         rw [Ωm (by rw [rh1.len];exact Ωq _)] at e2
         simp [rh1.len] at e1 e2
         subst e1
         subst e2
         exact ⟨ys,hl,ra.more⟩
   · rw [if_neg hs] at f1
     exact f1.elim
end IV
end
section
namespace IV
open PySem PySem.Spec PyProof.Rows L2
section
variable {Y:Yx}{H:Hp}{μ:List Addr}{h:Hd}
theorem RKs.look{f:Str}:∀ {fs:List (Str×D)}{gs:List (Str×V)},RKs Y H μ fs gs→(∀ d,fs.lookup f=some d→∃ v,gs.lookup f=some v∧RD Y H μ d v)∧(fs.lookup f=none→gs.lookup f=none)
 | _,_,.nil=>⟨fun d e=>by simp at e,fun _=>rfl⟩
 | _,_,.cons (k:=k) (d:=d0) (v:=v0) a s=>by
   by_cases e:f=k
   · subst e
     exact ⟨fun d z=>by simp at z;subst z;exact ⟨_,by simp,a⟩,fun z=>by simp at z⟩
   · have b:(f==k)=false:=by simpa using e
     obtain ⟨q1,q2⟩:=RKs.look (f:=f) s
     refine ⟨fun d z=>?_,fun z=>?_⟩
     · rw [ΩF,b] at z ⊢
       exact q1 d z
     · rw [ΩF,b] at z ⊢
       exact q2 z
theorem RKs.putAF{f:Str}{d:D}{v:V}(r:RD Y H μ d v):∀ {fs:List (Str×D)}{gs:List (Str×V)},RKs Y H μ fs gs→RKs Y H μ (putA f d fs) (putF f v gs)
 | _,_,.nil=>.cons r .nil
 | _,_,.cons (k:=k) a s=>by
   unfold putA putF
   by_cases e:k=f
   · rw [if_pos e,if_pos e];exact .cons r s
   · rw [if_neg e,if_neg e];exact .cons a (RKs.putAF r s)
theorem ins_rd(rh:RH Y H μ h){d:D}{v:V}{C:Str}{fs:List (Str×D)}(r:RD Y H μ d v)(e:insOf d h=some (C,fs)):∃ i a Ca dx gs,d=.ref i∧v=.ref a∧μ[i]? = some a∧h[i]? = some (.ins C fs)∧H a=some (.ins Ca dx gs)∧Y.mg C=some (.ref Ca)∧RKs Y H μ fs gs:=by
 unfold insOf at e
 split at e
 · rename_i i
   split at e
   · rename_i C' fs' hi
     cases e
     cases r with
     | ref q =>
       rename_i a
       obtain ⟨Ca,dx,gs,z,m,s⟩:=rh.ob i _ a hi q
       exact ⟨i,a,Ca,dx,gs,rfl,rfl,q,hi,z,m,s⟩
   · cases e
 · cases e
theorem made_rh{C:Str}{x dx Ca:Addr}(rh:RH Y H μ h)(hx:H x=none)(hd:H dx=none)(ne:dx≠x)(m:Y.mg C=some (.ref Ca)):RH Y (upd (upd H dx (.own x)) x (.ins Ca dx [])) (μ++[x]) (h++[.ins C []])∧Gr H μ (upd (upd H dx (.own x)) x (.ins Ca dx [])) (μ++[x]):=by
 have hx':upd H dx (.own x) x=none:=by rw [upd_ne (fun z=>ne z.symm)];exact hx
 exact ⟨(rh.lay0 hd).lay hx' ⟨Ca,dx,[],upd_same,m,.nil⟩,(Gr.lay0 hd).trans (Gr.lay hx')⟩
end
theorem meth_tree{o:Expr}{name:Str}{apos pos:Pos}{args:List Expr}{env:Env}(hbase:attributeBase o name env (eval o env)=eval o env)
   (hform:methodCallForm (args.length+([]:List Keyword).length) (backTo pos (starEach args env)) (backToKw pos (keywordEach [] env))=true) (hline:(apos.endLine==pos.line)=true) :
   eval (.Call (.Attribute o name apos) args [] pos) env=(do
     let ov ← eval o env
     standAt apos.atName
     let (f,first) ← holding [ov] (getMethod ov name (do return (← importBound o env).getD true))
     callWith pos f first (backTo pos (starEach args env)) (backToKw pos (keywordEach [] env))):=by
 have hpos:methodCallPos true o env apos pos=pure pos:=by unfold methodCallPos;simp [hline]
 rw [arm_eval_Call,hbase]
 unfold methodCall
 simp only [hform,hpos]
 rfl
section
variable {T:Tb}{Γ:Gm}{X:Cx}{Y:Yx}{E:XK}{k:Nat}
theorem att_rd(G:Gd T Γ X Y E k){Cs:List Str}{f:Str}(hc:(Cs.all fun C=>decide (C∈Γ.kl.cs))=true)(hf:f∈Γ.kl.ats){H:Hp}{μ:List Addr}{h:Hd}{d:D}{x:V}{Q:VK}(rh:RH Y H μ h)(rd:RD Y H μ d x)(ff:Fin Y (RD Y) H μ (getA Cs f d h) Q E) :
   ∃ a C dx fs v,x=.ref a∧H a=some (.ins C dx fs)∧Cls X.K C∧NoAttr X.K C f∧fs.lookup f=some v∧Q v H:=by
 unfold getA at ff
 split at ff
 · rename_i C fs e
   obtain ⟨hC,ff⟩:=ff.iff
   obtain ⟨i,a,Ca,dx,gs,rfl,rfl,q,hi,z,m,s⟩:=ins_rd rh rd e
   obtain ⟨w,e1,ff⟩:=ff.ofO
   obtain ⟨v,l,rv⟩:=(s.look (f:=f)).1 w e1
   rw [ΩC] at hc
   obtain ⟨Ca',m',cl,na⟩:=G.cls C (of_decide_eq_true (hc C hC))
   rw [G.gk.mg,m'] at m
   cases m
   exact ⟨a,Ca,dx,gs,v,rfl,z,cl,na f hf,l,ff.ok rh rv⟩
 · exact ff.elim
theorem set_rd(G:Gd T Γ X Y E k){Cs:List Str}{f:Str}(hc:(Cs.all fun C=>decide (C∈Γ.kl.cs))=true)(hf:f∈Γ.kl.ats){H:Hp}{μ:List Addr}{h:Hd}{d e:D}{x y:V}{Q:VK}(rh:RH Y H μ h)(rd:RD Y H μ d x)(re:RD Y H μ e y)(ff:Fin Y (RD Y) H μ (setA Cs f d e h) Q E) :
   ∃ a C dx fs,x=.ref a∧H a=some (.ins C dx fs)∧Cls X.K C∧NoAttr X.K C f∧fs.length<1000∧Q .non (upd H a (.ins C dx (putF f y fs))):=by
 unfold setA at ff
 split at ff
 · rename_i i
   split at ff
   · rename_i C fs hi
     obtain ⟨⟨hC,hl⟩,ff⟩:=ff.iff
     obtain ⟨i',a,Ca,dx,gs,e1,rfl,q,hi',z,m,s⟩:=ins_rd rh rd (show insOf (.ref i) h=some (C,fs) by simp [insOf,hi])
     cases e1
     rw [ΩC] at hc
     obtain ⟨Ca',m',cl,na⟩:=G.cls C (of_decide_eq_true (hc C hC))
     have m0:=m
     rw [G.gk.mg,m'] at m
     cases m
     refine ⟨a,Ca,dx,gs,rfl,z,cl,na f hf,by rw [← s.length];exact hl,ff.at (Gr.write (Ωk q) (by rw [z];trivial)) (rh.write q ?_ (by rw [z];trivial)) .non⟩
     exact ⟨Ca,dx,_,upd_same,m0,(RKs.putAF re s).mono rh (Gr.write (Ωk q) (by rw [z];trivial))⟩
   · exact ff.elim
 · exact ff.elim
theorem mk_pe(G:Gd T Γ X Y E k){C:Str}{es:Exs}{ys:List Expr}{p pos:Pos}(h2:C∈Γ.kl.is)(h3:glb Γ C=true)(h4:chks Γ es ys=true)(ha:PA X ys (semA T Y E es)):PE X (.Call (.Name C p) ys [] pos) (semE T Y E (.mk C es)):=by
 obtain ⟨a,f,fd,ps,m,M,F,B⟩:=G.mks _ h2
 obtain ⟨g1,g2⟩:=G.gl h3
 have key:∀ (ds:List D) (h1:Hd) (xs:List V) (H1:Hp) (μ1:List Addr) (Q:VK),RH Y H1 μ1 h1→RDs Y H1 μ1 ds xs→Fin Y (RD Y) H1 μ1 (newI T.C C ds h1) Q E→∀ x dx,H1 x=none→H1 dx=none→dx≠x →
     spOf T Y (mnm C (Ω "__init__")) (.ref x::(xs++[])) (upd (upd H1 dx (.own x)) x (.ins a dx [])) (fun v H2=>v=.non∧Q (.ref x) H2) E:=by
   intro ds h1 xs H1 μ1 Q rh1 rds f1 x dx hx hd ne
   obtain ⟨rh2,g2⟩:=made_rh (C:=C) (Ca:=a) rh1 hx hd ne (by rw [G.gk.mg];exact m)
   have px:(μ1++[x])[h1.length]? = some x:=by rw [rh1.len];simp
   refine ⟨.ref h1.length::ds,h1++[.ins C []],μ1++[x],rh2,.cons (.ref px) (by rw [List.append_nil];exact rds.mono rh1 g2),?_⟩
   refine Fin.bind (Fin.mono g2 f1) fun d h3 v H3 μ3 _ g3 rh3 rd3 f3=>?_
   cases d with
   | non=>cases rd3;exact ⟨rfl,f3.ok rh3 (.ref (g3.pre _ _ px))⟩
   | _=>exact f3.elim
 cases ys with
 | nil =>
   cases es with
   | nil=>exact (pe_make0 M F G.room1 g1 m B .nil G.pass g2).imp fun σ H Q ⟨ρ,h,μ,rh,rs,f⟩=>key [] h [] H μ Q rh .nil f
   | cons e r=>unfold chks at h4;cases h4
 | cons y ys =>
   have st:notStar y=true:=by
     cases es with
     | nil=>unfold chks at h4;cases h4
     | cons e r=>unfold chks at h4;rw [Ωa,Ωa] at h4;exact h4.1.2
   have sp:∀ pos,(backTo pos (starEach ys X.env)).any (·.1)=false:=by
     cases es with
     | nil=>unfold chks at h4;cases h4
     | cons e r=>unfold chks at h4;rw [Ωa,Ωa] at h4;exact stars_ok Γ X.env r ys h4.2
   exact (pe_make M F G.room1 g1 m B .nil G.pass ha g2 (star_cons X.env st) (sp _)).imp fun σ H Q ⟨ρ,h,μ,rh,rs,f⟩=>⟨ρ,h,μ,rh,rs,Fin.bind f fun ds h1 xs H1 μ1 _ g rh1 rds f1=>key ds h1 xs H1 μ1 Q rh1 rds f1⟩
theorem mcl_pe(G:Gd T Γ X Y E k){C n:Str}{o:Ex}{es:Exs}{xo:Expr}{ys:List Expr}{ap cp:Pos}(h5:(C,n)∈Γ.kl.ms)(h3:notCall0 xo=true)(h4:chks Γ es ys=true)(h6:ys.length<29)(h7:(ap.endLine==cp.line)=true)(ho:PE X xo (semE T Y E o))(ha:PA X ys (semA T Y E es)) :
   PE X (.Call (.Attribute xo n ap) ys [] cp) (semE T Y E (.mcl C n o es)):=by
 obtain ⟨a,f,fd,ps,mm,c,hm,F,B⟩:=G.mts _ h5
 have hform:methodCallForm (ys.length+([]:List Keyword).length) (backTo cp (starEach ys X.env)) (backToKw cp (keywordEach [] X.env))=true:=by
   unfold methodCallForm
   rw [stars_all Γ X.env es ys h4]
   have h30:decide (ys.length+([]:List Keyword).length+(if (backToKw cp (keywordEach [] X.env)).isEmpty then 0 else 1)<30)=true:=by
     rw [decide_eq_true_eq]
     show ys.length+0+0<30
     omega
   rw [h30]
   rfl
 have ht:=meth_tree (o:=xo) (name:=n) (apos:=ap) (pos:=cp) (args:=ys) (env:=X.env) (base_ok h3) hform h7
 have key:∀ (d:D) (h1:Hd) (x:V) (H1:Hp) (μ1:List Addr) (ρ:Ev) (σ:L2.St) (Q:VK),RH Y H1 μ1 h1→RS Y H1 μ1 ρ σ→RD Y H1 μ1 d x→Fin Y (RD Y) H1 μ1 (match insOf d h1 with
       | some (C',fs)=>if C'=C∧fs.lookup n=none then (evs T es ρ h1).bind fun xs h2=>T.C (mnm C n) (d::xs) h2 else .bad
       | none=>.bad) Q E→∃ b dx fs,x=.ref b∧H1 b=some (.ins a dx fs)∧fs.lookup n=none∧semA T Y E es σ H1 fun vs H2=>spOf T Y (mnm C n) (x::(vs++[])) H2 Q E:=by
   intro d h1 x H1 μ1 ρ σ Q rh1 rs1 rd f1
   split at f1
   · rename_i C' fs e
     obtain ⟨⟨e1,e2⟩,f1⟩:=f1.iff
     subst e1
     obtain ⟨i,b,Ca,dx,gs,rfl,rfl,q,hi,z,m',s⟩:=ins_rd rh1 rd e
     rw [G.gk.mg,mm] at m'
     cases m'
     refine ⟨b,dx,gs,rfl,z,(s.look (f:=n)).2 e2,ρ,h1,μ1,rh1,rs1,f1.bind fun ds h2 vs H2 μ2 _ g2 rh2 rds f2=>⟨_,h2,μ2,rh2,.cons (rd.mono rh1 g2) (by rw [List.append_nil];exact rds),f2⟩⟩
   · exact f1.elim
 cases ys with
 | nil =>
   cases es with
   | nil =>
     refine (pe_meth0 ho c hm F G.room B .nil G.pass ht).imp fun σ H Q ⟨ρ,h,μ,rh,rs,f⟩=>⟨ρ,h,μ,rh,rs,Fin.bind f fun d h1 x H1 μ1 _ g rh1 rd f1=>?_⟩
     obtain ⟨b,dx,fs,e1,e2,e3,ρ',h',μ',rh',rs',f'⟩:=key d h1 x H1 μ1 ρ σ Q rh1 (rs.mono rh g) rd f1
     exact ⟨b,dx,fs,e1,e2,e3,f'.ok rh' .nil⟩
   | cons e r=>unfold chks at h4;cases h4
 | cons y ys =>
   have st:notStar y=true:=by
     cases es with
     | nil=>unfold chks at h4;cases h4
     | cons e r=>unfold chks at h4;rw [Ωa,Ωa] at h4;exact h4.1.2
   have sp:∀ pos,(backTo pos (starEach ys X.env)).any (·.1)=false:=by
     cases es with
     | nil=>unfold chks at h4;cases h4
     | cons e r=>unfold chks at h4;rw [Ωa,Ωa] at h4;exact stars_ok Γ X.env r ys h4.2
   exact (pe_meth ho c hm F G.room B .nil G.pass ha (star_cons X.env st) (sp _) ht).imp fun σ H Q ⟨ρ,h,μ,rh,rs,f⟩=>⟨ρ,h,μ,rh,rs,Fin.bind f fun d h1 x H1 μ1 _ g rh1 rd f1=>key d h1 x H1 μ1 ρ σ Q rh1 (rs.mono rh g) rd f1⟩
end
section
variable {X:Cx}{Y:Yx}{E:XK}{H:Hp}{μ:List Addr}{h:Hd}
end
end IV
end
section
namespace IV
open PySem PySem.Spec PyProof.Rows L2
theorem cmpT_ok{T:Tb}{Γ:Gm}{X:Cx}{Y:Yx}{E:XK}{k:Nat}(G:Gd T Γ X Y E k){op:CmpOp}{a b:Ex}{l r:Expr}{pos:Pos}(ha:PE X l (semE T Y E a))(hb:PE X r (semE T Y E b))(hm:notSet r=true):PT X (.Compare l [op] [r] pos) (semT T Y E (.ex (.cmp op a b))):=by
 refine (pt_cmpR (opC_ok (E:=E) G.room G.h60 G.gk op) ha hb (mark_ok hm)).imp fun σ H Q ⟨ρ,h,μ,rh,rs,f⟩=>sem2 (f:=opC T.GD op) rh rs ?_
 refine Fin.bind (show Fin Y _ H μ ((ev T (.cmp op a b) ρ h).bind fun x h1=>R.ofO (truD T.GD x h1) h1) Q E from f) fun d h1 x H1 μ1 er g rh1 rd f1=>?_
 obtain ⟨_,_,_,er⟩:=R.bind_eq (show (ev T a ρ h).bind _=.ok d h1 from er)
 obtain ⟨_,_,_,er⟩:=R.bind_eq er
 obtain ⟨c,rfl⟩:=opC_bl er
 cases rd
 exact ⟨c,rfl,Fin.ok (show Fin Y _ H1 μ1 (.ok c h1) Q E from f1) rh1 rfl⟩
theorem chk_cmp{Γ:Gm}{e:Ex}{l:Expr}{o:List CmpOp}{r:List Expr}{p:Pos}(h:chk Γ e (.Compare l o r p)=true):(∃ op a b,e=.cmp op a b)∨(∃ o1 o2 a b c,e=.cmp2 o1 o2 a b c):=by
 cases e with
 | cmp op a b=>exact .inl ⟨op,a,b,rfl⟩
 | cmp2 o1 o2 a b c=>exact .inr ⟨o1,o2,a,b,c,rfl⟩
 | cst d=>cases d<;>(unfold chk chkC at h;cases h)
 | _=>unfold chk at h;cases h
theorem plainT_ok{T:Tb}{Γ:Gm}{X:Cx}{Y:Yx}{E:XK}{k:Nat}(G:Gd T Γ X Y E k){e:Ex}{x:Expr}(he:PE X x (semE T Y E e))(h1:plainT x=true)(hx:∀ l o r p,x≠.Compare l o r p):PT X x (semT T Y E (.ex e)):=by
 refine (pt_truth he (plain_ok h1 hx)).imp fun σ H Q ⟨ρ,h,μ,rh,rs,f⟩=>⟨ρ,h,μ,rh,rs,Fin.bind (show Fin Y _ H μ ((ev T e ρ h).bind fun x h1=>R.ofO (truD T.GD x h1) h1) Q E from f) fun d h1 x H1 μ1 er g rh1 rd f1=>?_⟩
 obtain ⟨b,eb,f1⟩:=f1.ofO
 exact ⟨b,truD_ok G.gk.K rh1 rd eb,f1.ok rh1 rfl⟩
noncomputable def trsOf(T:Tb)(Y:Yx)(E:XK):Exs→List (TE×TE)
 | .nil=>[]
 | .cons k r=>match r with
   | .nil=>[]
   | .cons v r'=>(semE T Y E k,semE T Y E v)::trsOf T Y E r'
section
variable {Y:Yx}{H:Hp}{μ:List Addr}{h:Hd}{Dd:Addr}{ys zs:List (Key×V)}
theorem sqT_swapD{K:PySem.W.Frag}(hD:H Dd=some (.dK ys)){a:Addr}{vs:List V}(t:SqT K H a vs):SqT K (upd H Dd (.dK zs)) a vs:=by
 rcases t with t|t
 · rcases t with t|⟨o,t⟩
   · exact .inl (.inl (by rw [upd_ne (fun z=>by rw [z,hD] at t;cases t)];exact t))
   · exact .inl (.inr ⟨o,by rw [upd_ne (fun z=>by rw [z,hD] at t;cases t)];exact t⟩)
 · exact .inr t
theorem fzL_swapD{K:PySem.W.Frag}(hD:H Dd=some (.dK ys)){a:Addr}{vs:List V}(t:FzL K H a vs):FzL K (upd H Dd (.dK zs)) a vs:=by
 rcases t with ⟨o,t⟩|t
 · exact .inl ⟨o,by rw [upd_ne (fun z=>by rw [z,hD] at t;cases t)];exact t⟩
 · exact .inr t
mutual
theorem RD.swapD(hD:H Dd=some (.dK ys)):∀ {d:D}{v:V},RD Y H μ d v→RD Y (upd H Dd (.dK zs)) μ d v
 | _,_,.non=>.non
 | _,_,.bl b=>.bl b
 | _,_,.int i=>.int i
 | _,_,.str x ok=>.str x ok
 | _,_,.tup t s=>.tup (sqT_swapD hD t) (RDs.swapD hD s)
 | _,_,.ref e=>.ref e
 | _,_,.ty n=>.ty n
 | _,_,.ro t s=>.ro (fzL_swapD hD t) (RDs.swapD hD s)
 | _,_,.kd e=>.kd e
theorem RDs.swapD(hD:H Dd=some (.dK ys)):∀ {d:List D}{v:List V},RDs Y H μ d v→RDs Y (upd H Dd (.dK zs)) μ d v
 | _,_,.nil=>.nil
 | _,_,.cons a s=>.cons (RD.swapD hD a) (RDs.swapD hD s)
end
theorem RKs.swapD{κ:Type}(hD:H Dd=some (.dK ys)):∀ {d:List (κ×D)}{v:List (κ×V)},RKs Y H μ d v→RKs Y (upd H Dd (.dK zs)) μ d v
 | _,_,.nil=>.nil
 | _,_,.cons a s=>.cons (a.swapD hD) (s.swapD hD)
theorem RO.swapD{a:Addr}{o:DO}(hD:H Dd=some (.dK ys))(ne:a≠Dd)(q:RO Y H μ a o):RO Y (upd H Dd (.dK zs)) μ a o:=by
 cases o with
 | lst ds=>obtain ⟨vs,z,s⟩:=q;exact ⟨vs,by rw [upd_ne ne];exact z,s.swapD hD⟩
 | dic ds=>obtain ⟨vs,z,s⟩:=q;exact ⟨vs,by rw [upd_ne ne];exact z,s.swapD hD⟩
 | ins C ds=>obtain ⟨a1,a2,a3,z,m,s⟩:=q;exact ⟨a1,a2,a3,by rw [upd_ne ne];exact z,m,s.swapD hD⟩
 | fdic ds=>obtain ⟨o,vs,z,s⟩:=q;exact ⟨o,vs,by rw [upd_ne ne];exact z,s.swapD hD⟩
end
inductive RPs(Y:Yx)(H:Hp)(μ:List Addr):List D→List (V×V)→Prop
 | nil:RPs Y H μ [] []
 | cons {k v:D}{r:List D}{x y:V}{ps:List (V×V)}:RD Y H μ k x→RD Y H μ v y→RPs Y H μ r ps→RPs Y H μ (k::v::r) ((x,y)::ps)
theorem RPs.pairs{Y:Yx}{H:Hp}{μ:List Addr}:∀ {ds:List D}{ps:List (V×V)}{kvs:List (Key×D)},RPs Y H μ ds ps→pairsD ds=some kvs→∃ kvs':List (Key×V),ps=kvs'.map (fun kv=>(kV kv.1,kv.2))∧RKs Y H μ kvs kvs'
 | _,_,_,.nil,e=>by cases e;exact ⟨[],rfl,.nil⟩
 | _,_,_,.cons a b s,e=>by
   rw [pairsD] at e
   split at e
   · rename_i k r e1 e2
     cases e
     obtain ⟨kvs',rfl,rk⟩:=s.pairs e2
     have:=keyOf_rel a e1
     subst this
     exact ⟨(k,_)::kvs',rfl,.cons b rk⟩
   · cases e
theorem RPs.keysOk{Y:Yx}{H:Hp}{μ:List Addr}:∀ {ds:List D}{ps:List (V×V)}{kvs:List (Key×D)},RPs Y H μ ds ps→pairsD ds=some kvs→KeysOk kvs
 | _,_,_,.nil,e=>by cases e;intro p hp;cases hp
 | _,_,_,.cons a b s,e=>by
   rw [pairsD] at e
   split at e
   · rename_i k r e1 e2
     cases e
     intro p hp x z
     rcases Ωr.mp hp with rfl|hp
     · exact key_ok a e1 x z
     · exact s.keysOk e2 p hp x z
   · cases e
theorem keysOk_merge:∀ {more kvs:List (Key×D)},KeysOk more→KeysOk kvs→KeysOk (mergeD kvs more)
 | [],kvs,_,h=>h
 | (k,d)::r,kvs,hm,h=>keysOk_merge (more:=r) (kvs:=putD kvs k d) (fun p hp=>hm p (Ωh _ hp)) (keysOk_put h (fun x e=>hm (k,d) Ωi x e))
theorem RKs.merge{Y:Yx}{H:Hp}{μ:List Addr}:∀ {more:List (Key×D)}{more':List (Key×V)}{kvs:List (Key×D)}{kvs':List (Key×V)},RKs Y H μ more more'→RKs Y H μ kvs kvs'→RKs Y H μ (mergeD kvs more) (mergeK kvs' more')
 | _,_,_,_,.nil,s=>s
 | _,_,_,_,.cons (k:=k) a r,s=>by
   have z:=RKs.merge r (s.put k a)
   exact z
theorem pairs_rd{T:Tb}{Y:Yx}{E:XK}{H0:Hp}{μ0:List Addr}{Q:VK}{ρ:Ev}{σ:L2.St}:∀ (n:Nat) (ps:Exs) {K:List D→Hd→R D}{H:Hp}{μ:List Addr}{h:Hd}{Q1:List (V×V)→Hp→Prop}{Γ:Gm}{ks:List (Option Expr)}{vs:List Expr},ks.length≤n→chkp Γ ps ks vs=true →
   Gr H0 μ0 H μ→RH Y H μ h→RS Y H μ ρ σ→Fin Y (RD Y) H0 μ0 ((evs T ps ρ h).bind K) Q E →
   (∀ ds h1 qs H1 μ1,Gr H μ H1 μ1→RH Y H1 μ1 h1→RPs Y H1 μ1 ds qs→Fin Y (RD Y) H0 μ0 (K ds h1) Q E→Q1 qs H1)→tPairs (trsOf T Y E ps) σ H Q1:=by
 intro n
 induction n with
 | zero =>
   intro ps K H μ h Q1 Γ ks vs hl hc g0 rh rs f hq
   cases ps with
   | nil=>exact hq [] h [] H μ Gr.refl rh .nil f
   | cons k r =>
     cases r with
     | nil=>unfold chkp at hc;cases hc
     | cons v r' =>
       unfold chkp at hc
       simp only at hc
       split at hc
       · simp at hl
       · cases hc
 | succ n ih =>
   intro ps K H μ h Q1 Γ ks vs hl hc g0 rh rs f hq
   cases ps with
   | nil=>exact hq [] h [] H μ Gr.refl rh .nil f
   | cons k r =>
     cases r with
     | nil=>unfold chkp at hc;cases hc
     | cons v r' =>
       unfold chkp at hc
       simp only at hc
       split at hc
       · rw [Ωa] at hc
         have f1:Fin Y (RD Y) H0 μ0 ((ev T k ρ h).bind fun x h1=>(ev T v ρ h1).bind fun y h2=>(evs T r' ρ h2).bind fun xs h3=>K (x::y::xs) h3) Q E:=by
           have e:(evs T (.cons k (.cons v r')) ρ h).bind K=(ev T k ρ h).bind fun x h1=>(ev T v ρ h1).bind fun y h2=>(evs T r' ρ h2).bind fun xs h3=>K (x::y::xs) h3:=by
             show ((ev T k ρ h).bind fun x h1=>((ev T v ρ h1).bind fun y h2=>(evs T r' ρ h2).bind fun xs h3=>R.ok (y::xs) h3).bind fun xs h2=>R.ok (x::xs) h2).bind K=_
             simp only [R.bind_assoc,R.bind_ok]
           rw [← e]
           exact f
         refine ⟨ρ,h,μ,rh,rs,Fin.bindB g0 f1 fun d h1 x H1 μ1 _ g1 rh1 rd f2=>?_⟩
         refine ⟨ρ,h1,μ1,rh1,rs.mono rh g1,Fin.bindB (g0.trans g1) f2 fun e h2 y H2 μ2 _ g2 rh2 re f3=>?_⟩
         refine ih r' (by simpa using hl) hc.2 ((g0.trans g1).trans g2) rh2 ((rs.mono rh g1).mono rh1 g2) f3 fun ds h3 qs H3 μ3 g3 rh3 rp f4=>?_
         exact hq (d::e::ds) h3 ((x,y)::qs) H3 μ3 ((g1.trans g2).trans g3) rh3 (.cons ((rd.mono rh1 g2).mono rh2 g3) (re.mono rh2 g3) rp) f4
       · cases hc
theorem dict_ok{T:Tb}{Y:Yx}(ps:Exs){Γ:Gm}{X:Cx}{E:XK}{k:Nat}{ks:List (Option Expr)}{vs:List Expr}{pos:Pos}(G:Gd T Γ X Y E k)(h15:ks.length≤15)(hc:chkp Γ ps ks vs=true)(hp:PPs X pos ks vs (trsOf T Y E ps))(hall:ks.all (·.isSome)=true)(hl:ks.length=vs.length):PE X (.Dict ks vs pos) (semE T Y E (.dictl ps)):=by
 by_cases h0:ks=[]
 · subst h0
   cases vs with
   | cons a b=>cases hl
   | nil =>
     cases ps with
     | cons k r =>
       cases r with
       | nil=>unfold chkp at hc;cases hc
       | cons v r'=>unfold chkp at hc;cases hc
     | nil =>
       refine pe_dnewK.imp fun σ H Q ⟨ρ,h,μ,rh,rs,f⟩ p hp=>?_
       have f:Fin Y (RD Y) H μ (newO (.dic []) h) Q E:=f
       exact f.new rh hp ⟨[],upd_same,.nil⟩ (fun p hp=>by cases hp)
 · refine (pe_disp hp hall hl h0 h15).imp fun σ H Q ⟨ρ,h,μ,rh,rs,f⟩ p hp=>?_
   have np:p ∉ μ:=fun z=>by have:=rh.mut z;rw [hp] at this;exact this
   refine pairs_rd ks.length ps (Ωq _) hc (Gr.lay0 hp) (rh.lay0 hp) (rs.mono rh (Gr.lay0 hp)) f fun ds h1 qs H1 μ1 g1 rh1 rp f1=>?_
   obtain ⟨hl1,nD⟩:=g1.out (upd_same (H:=H)) np
   have g01:Gr H μ H1 μ1:=(Gr.lay0 hp).trans g1
   split at f1
   · rename_i kvs ek
     obtain ⟨hz,f1⟩:=f1.iff
     obtain ⟨kvs',rfl,rk⟩:=rp.pairs ek
     refine ⟨hl1,kvs',rfl,by rw [← rk.length];exact hz,?_⟩
     have f2:Fin Y (RD Y) H μ (.ok (.ref h1.length) (h1++[.dic (mergeD [] kvs)])) Q E:=f1
     have g3:Gr H μ (upd H1 p (.dK (mergeK [] kvs'))) (μ1++[p]):=by
       refine ⟨fun j a e=>?_,fun a ha=>?_,fun b o hb e=>?_,fun b u v e=>by rw [upd_ne (fun z=>by rw [z,hp] at e;cases e)];exact g01.fz b u v e⟩
       · have:=g01.pre j a e
         rw [Ωe (Ωb.mp this).1];exact this
       · rcases ΩD.mp ha with z|z
         · exact g01.new a z
         · rw [Ωx.mp z];exact .inr hp
       · rw [upd_ne (fun z=>by rw [z,hp] at e;cases e)];exact g01.keep b o hb e
     refine f2.at g3 ?_ (.ref (by rw [rh1.len];simp))
     refine ⟨by simp [rh1.len],?_,fun j o a e1 e2=>?_,ks_app rh1.ks (show KeysOk (mergeD [] kvs) from keysOk_merge (rp.keysOk ek) (fun p hp=>by cases hp))⟩
     · rw [List.nodup_append]
       refine ⟨rh1.nd,by simp,fun a ha b hb=>?_⟩
       rw [Ωx.mp hb]
       intro z
       exact nD (z ▸ ha)
     · by_cases hj:j<h1.length
       · rw [Ωe hj] at e1
         rw [Ωe (by rw [← rh1.len];exact hj)] at e2
         exact ((rh1.ob j o a e1 e2).swapD hl1 (fun z=>nD (z ▸ Ωk e2))).more
       · have hj':j=h1.length:=by
           have:=(Ωb.mp e1).1
           simp at this
           omega
         subst hj'
         rw [Ωm (Ωq _)] at e1
         rw [Ωm (by rw [rh1.len];exact Ωq _)] at e2
         simp [rh1.len] at e1 e2
         subst e1
         subst e2
         exact ⟨_,upd_same,((rk.merge .nil).swapD hl1).more⟩
   · exact f1.elim
mutual
theorem ev_ok{T:Tb}{Y:Yx}:∀ (e:Ex) {Γ:Gm}{X:Cx}{E:XK}{k:Nat}{x:Expr},Gd T Γ X Y E k→chk Γ e x=true→PE X x (semE T Y E e)
 | .var i,Γ,X,E,k,x,G,h=>by
   unfold chk at h
   split at h
   · rw [Ωa,Ωa,Ωa] at h
     obtain ⟨⟨⟨h1,h2⟩,h3⟩,h4⟩:=h
     refine (pe_var (by rw [G.N];exact of_decide_eq_true h1) (G.vis _ h2) (by simpa using h3) (by simpa using h4)).imp fun σ H Q ⟨ρ,h,μ,rh,rs,f⟩=>?_
     obtain ⟨d,e,f⟩:=Fin.ofO (show Fin Y (RD Y) H μ (R.ofO (ρ[i]?).join h) Q E from f)
     obtain ⟨v,e1,rd⟩:=rs.var e
     exact ⟨v,e1,f.ok rh rd⟩
   · cases h
 | .cst d,Γ,X,E,k,x,G,h=>const_ok G (by unfold chk at h;exact h)
 | .glo y,Γ,X,E,k,x,G,h=>by
   unfold chk at h
   split at h
   · rw [Ωa] at h
     have e:=of_decide_eq_true h.1
     subst e
     obtain ⟨g1,g2⟩:=G.gl h.2
     intro pins s σ H Q I ⟨ρ,h,μ,rh,rs,f⟩
     obtain ⟨d,e,f⟩:=Fin.ofO (show Fin Y (RD Y) H μ (R.ofO (T.G y) h) Q E from f)
     obtain ⟨v,u,hm,rv,rd⟩:=G.gk.g y d e
     exact pe_glob g1 hm rv g2 pins s σ H Q I (f.ok rh (rd H μ))
   · cases h
 | .bin op a b,Γ,X,E,k,x,G,h=>by
   unfold chk at h
   split at h
   · rw [Ωa,Ωa] at h
     have e:=of_decide_eq_true h.1.1
     subst e
     exact (pe_op (opB_ok G.gk.K op) (ev_ok a G h.1.2) (ev_ok b G h.2)).imp fun σ H Q ⟨ρ,h,μ,rh,rs,f⟩=>sem2 rh rs f
   · cases h
 | .cmp op a b,Γ,X,E,k,x,G,h=>by
   unfold chk at h
   split at h
   · rw [Ωa,Ωa,Ωa] at h
     have e:=of_decide_eq_true h.1.1.1
     subst e
     exact (pe_cmpR (opC_ok G.room G.h60 G.gk op) (ev_ok a G h.1.1.2) (ev_ok b G h.1.2) (mark_ok h.2)).imp fun σ H Q ⟨ρ,h,μ,rh,rs,f⟩=>sem2 rh rs f
   · cases h
 | .cmp2 o1 o2 a b c,Γ,X,E,k,x,G,h=>by unfold chk at h;cases h
 | .neg a,Γ,X,E,k,x,G,h=>by
   unfold chk at h
   split at h
   · refine (pe_un un_neg (ev_ok a G h)).imp fun σ H Q ⟨ρ,h,μ,rh,rs,f⟩=>⟨ρ,h,μ,rh,rs,Fin.bind f fun d h1 x H1 μ1 _ g rh1 rd f1=>?_⟩
     cases rd with
     | int i=>exact ⟨i,rfl,Fin.ok f1 rh1 (.int _)⟩
     | _=>exact f1.elim
   · cases h
 | .nt a,Γ,X,E,k,x,G,h=>by
   unfold chk at h
   split at h
   · refine (pe_not (ev_ok a G h)).imp fun σ H Q ⟨ρ,h,μ,rh,rs,f⟩=>⟨ρ,h,μ,rh,rs,Fin.bind f fun d h1 x H1 μ1 _ g rh1 rd f1=>?_⟩
     cases rd with
     | bl i=>exact ⟨i,rfl,Fin.ok f1 rh1 (.bl _)⟩
     | _=>exact f1.elim
   · cases h
 | .ands es,Γ,X,E,k,x,G,h=>by
   unfold chk at h
   split at h
   · exact and_ok es G h
   · cases h
 | .ors es,Γ,X,E,k,x,G,h=>by
   unfold chk at h
   split at h
   · exact or_ok es G h
   · cases h
 | .ite c a b,Γ,X,E,k,x,G,h=>by
   unfold chk at h
   split at h
   · rw [Ωa,Ωa] at h
     refine (pe_ifExp (tst_ok c G h.1.1) (ev_ok a G h.1.2) (ev_ok b G h.2)).imp fun σ H Q ⟨ρ,h,μ,rh,rs,f⟩=>⟨ρ,h,μ,rh,rs,Fin.bind f fun d h1 x H1 μ1 _ g rh1 rd f1=>?_⟩
     subst rd
     cases d with
     | true=>exact iteT ⟨ρ,h1,μ1,rh1,rs.mono rh g,f1⟩
     | false=>exact iteF ⟨ρ,h1,μ1,rh1,rs.mono rh g,f1⟩
   · cases h
 | .tupl es,Γ,X,E,k,x,G,h=>by
   unfold chk at h
   split at h
   · refine (pe_tup (evs_ok es G h)).imp fun σ H Q ⟨ρ,h,μ,rh,rs,f⟩=>⟨ρ,h,μ,rh,rs,Fin.bind f fun d h1 x H1 μ1 _ g rh1 rd f1=>?_⟩
     obtain ⟨hz,f1⟩:=f1.iff
     exact ⟨by rw [← rd.length];exact hz,fun p hp=>f1.tup rh1 hp rd⟩
   · cases h
 | .lstl es,Γ,X,E,k,x,G,h=>by
   unfold chk at h
   split at h
   · refine (pe_lst (evs_ok es G h)).imp fun σ H Q ⟨ρ,h,μ,rh,rs,f⟩=>⟨ρ,h,μ,rh,rs,Fin.bind f fun d h1 x H1 μ1 _ g rh1 rd f1=>?_⟩
     obtain ⟨hz,f1⟩:=f1.iff
     exact ⟨by rw [← rd.length];exact hz,fun p hp=>f1.new rh1 hp ⟨_,upd_same,rd.mono rh1 (Gr.lay hp)⟩⟩
   · cases h
 | .ix a i,Γ,X,E,k,x,G,h=>by
   unfold chk at h
   split at h
   · rw [Ωa,Ωa] at h
     exact (pe_ix (opIx_ok G.gk) (ev_ok a G h.1.1) (ev_ok i G h.1.2) (slice_ok h.2)).imp fun σ H Q ⟨ρ,h,μ,rh,rs,f⟩=>sem2 rh rs f
   · cases h
 | .sl a lo hi,Γ,X,E,k,x,G,h=>by
   unfold chk at h
   split at h
   · rw [Ωa,Ωa] at h
     refine (pe_slice (opSl_ok (E:=E) G.gk.K) (ev_ok a G h.1.1) (evo_ok lo G h.1.2) (evo_ok hi G h.2)).imp fun σ H Q ⟨ρ,h,μ,rh,rs,f⟩=>⟨ρ,h,μ,rh,rs,Fin.bind f fun d h1 x H1 μ1 _ g rh1 rd f1 =>
       ⟨ρ,h1,μ1,rh1,rs.mono rh g,Fin.bind f1 fun l h2 l' H2 μ2 _ g2 rh2 rl f2=>⟨ρ,h2,μ2,rh2,(rs.mono rh g).mono rh1 g2,Fin.bind f2 fun u h3 u' H3 μ3 _ g3 rh3 ru f3=>?_⟩⟩⟩
     subst rl ru
     exact ⟨d,h3,μ3,rh3,(rd.mono rh1 g2).mono rh2 g3,f3⟩
   · cases h
 | .blt f es,Γ,X,E,k,x,G,h=>by
   unfold chk at h
   split at h
   · rename_i y ys _
     rw [Ωa,Ωa] at h
     have e:=of_decide_eq_true h.1.1
     subst e
     have hs:=h.2
     have st:notStar y=true:=by
       cases es with
       | nil=>rw [chks] at hs;cases hs
       | cons e r=>rw [chks,Ωa,Ωa] at hs;exact hs.1.2
     have sp:∀ pos,(backTo pos (starEach ys X.env)).any (·.1)=false:=by
       cases es with
       | nil=>rw [chks] at hs;cases hs
       | cons e r=>rw [chks,Ωa,Ωa] at hs;exact stars_ok Γ X.env r ys hs.2
     exact (blt_pe G f ((Ωa _ _).mp h.1.2).1 (G.gl ((Ωa _ _).mp h.1.2).2).1 (evs_ok es G h.2) (star_cons X.env st) (sp _)).imp fun σ H Q ⟨ρ,h,μ,rh,rs,f⟩=>⟨ρ,h,μ,rh,rs,Fin.bind f fun d h1 x H1 μ1 _ g rh1 rd f1=>⟨d,h1,μ1,rh1,rd,f1⟩⟩
   · cases h
 | .call f es,Γ,X,E,k,x,G,h=>by
   unfold chk at h
   split at h
   · rename_i y ys _
     rw [Ωa,Ωa,Ωa] at h
     have e:=of_decide_eq_true h.1.1.1
     subst e
     obtain ⟨ps,hd⟩:=G.defs _ (of_decide_eq_true h.1.1.2)
     obtain ⟨g1,g2⟩:=G.gl h.1.2
     have hs:=h.2
     have st:notStar y=true:=by
       cases es with
       | nil=>rw [chks] at hs;cases hs
       | cons e r=>rw [chks,Ωa,Ωa] at hs;exact hs.1.2
     have sp:∀ pos,(backTo pos (starEach ys X.env)).any (·.1)=false:=by
       cases es with
       | nil=>rw [chks] at hs;cases hs
       | cons e r=>rw [chks,Ωa,Ωa] at hs;exact stars_ok Γ X.env r ys hs.2
     exact (pe_def hd G.room g1 G.pass (evs_ok es G h.2) g2 (star_cons X.env st) (sp _)).imp fun σ H Q ⟨ρ,h,μ,rh,rs,f⟩=>⟨ρ,h,μ,rh,rs,Fin.bind f fun d h1 x H1 μ1 _ g rh1 rd f1=>⟨d,h1,μ1,rh1,rd,f1⟩⟩
   · cases h
 | .meth m o es,Γ,X,E,k,x,G,h=>by
   unfold chk at h
   split at h
   · rename_i xo n ap ys cp
     rw [Ωa,Ωa,Ωa,Ωa,Ωa] at h
     obtain ⟨⟨⟨⟨⟨h1,h2⟩,h3⟩,h4⟩,h5⟩,h6⟩:=h
     have e:=of_decide_eq_true h1
     subst e
     obtain ⟨sl,ty⟩:=mslot m
     have tyl:∀ {H1:Hp}{μ1:List Addr}{h1:Hd}{d:D}{v:V},RH Y H1 μ1 h1→RD Y H1 μ1 d v→isLst d h1=true→tyV X.K "list" v H1:=by
       intro H1 μ1 h1 d v rh r il
       cases r with
       | ref q =>
         rename_i i a
         have:∃ xs,h1[i]? = some (.lst xs):=by
           unfold isLst at il
           simp only at il
           split at il
           · exact ⟨_,by assumption⟩
           · cases il
         obtain ⟨xs,hx⟩:=this
         obtain ⟨vs,hl,_⟩:=rh.ob i _ a hx q
         exact .inl ⟨rfl,vs,.of hl⟩
       | _=>cases il
     cases ys with
     | nil =>
       refine (pe_bm0 PySem.F.plainAttrs_list sl ty (meth_ok (Y:=Y) (E:=E) G.gk.K m) (ev_ok o G h2) (base_ok h3) h6).imp fun σ H Q ⟨ρ,h,μ,rh,rs,f⟩=>⟨ρ,h,μ,rh,rs,Fin.bind f fun d h1 x H1 μ1 _ g rh1 rd f1=>?_⟩
       obtain ⟨il,f1⟩:=f1.iff
       refine ⟨tyl rh1 rd il,?_⟩
       cases es with
       | nil=>exact ⟨d,[],h1,μ1,rh1,rd,.nil,f1⟩
       | cons e r=>unfold chks at h4;cases h4
     | cons y ys =>
       have st:notStar y=true:=by
         cases es with
         | nil=>unfold chks at h4;cases h4
         | cons e r=>unfold chks at h4;rw [Ωa,Ωa] at h4;exact h4.1.2
       have sp:∀ pos,(backTo pos (starEach ys X.env)).any (·.1)=false:=by
         cases es with
         | nil=>unfold chks at h4;cases h4
         | cons e r=>unfold chks at h4;rw [Ωa,Ωa] at h4;exact stars_ok Γ X.env r ys h4.2
       refine (pe_bm PySem.F.plainAttrs_list sl ty (meth_ok (Y:=Y) (E:=E) G.gk.K m) (ev_ok o G h2) (evs_ok es G h4) (base_ok h3) ?_ h6 (star_cons X.env st) (sp _)).imp fun σ H Q ⟨ρ,h,μ,rh,rs,f⟩=>⟨ρ,h,μ,rh,rs,Fin.bind f fun d h1 x H1 μ1 _ g rh1 rd f1=>?_⟩
       · rw [stars_all Γ X.env es (y::ys) h4]
         have:=of_decide_eq_true h5
         have h30:decide ((y::ys).length+([]:List Keyword).length+(if ([]:List Keyword).isEmpty then 0 else 1)<30)=true:=by
           rw [decide_eq_true_eq]
           simp only [List.isEmpty_nil,List.length_nil,if_true]
           omega
         rw [h30]
         rfl
       · obtain ⟨il,f1⟩:=f1.iff
         exact ⟨tyl rh1 rd il,ρ,h1,μ1,rh1,rs.mono rh g,f1.bind fun ds h2 xs H2 μ2 _ g2 rh2 rds f2=>⟨d,ds,h2,μ2,rh2,rd.mono rh1 g2,rds,f2⟩⟩
   · cases h
 | .comp NC js it g c e,Γ,X,E,k,x,G,h=>by
   unfold chk at h
   split at h
   · rename_i scope _
     rw [Ωa,Ωa,Ωa,Ωa,Ωa,Ωa,Ωa] at h
     obtain ⟨⟨⟨⟨⟨⟨⟨h0,h1⟩,h2⟩,h3⟩,h4⟩,h5⟩,h6⟩,h7⟩:=h
     have S:=compb_ok h1
     rw [← G.N,← G.sc h0] at S
     have Gc:=fun (C:Addr) (s3:Shared) (H3:Hp) (fp:List Addr)=>G.comp NC scope C s3 H3 fp S.nd
     rw [ΩC] at h5
     refine (pe_comp (g:=tgR X.K g) (tc:=fun σ H Q=>∃ ρ h μ,RH Y H μ h∧RS Y H μ ρ σ∧Fin Y (fun _ _ (a b:Bool)=>a=b) H μ (tsto T c ρ h) Q E0) (te:=semE T Y E0 e) S rfl G.calm (evi_ok it G h2) (fun C s3 H3 fp=>⟨pg_ok rfl S.nd rfl (fun x hx=>?_) h4,?_,ev_ok e (Gc C s3 H3 fp) h7⟩) (tgOk X.K g) (fun j hj=>of_decide_eq_true (h5 j (List.mem_range.mpr hj))) (set_ok X.env h3)).imp
       fun σ H Q ⟨ρ,h,μ,rh,rs,f⟩=>⟨ρ,h,μ,rh,rs,Fin.bind f fun w h1 J H1 μ1 _ g1 rh1 wj f1 D hD=>comp_rd G.gk.K (fun _ _ _ z=>z) rh1 (rs.mono rh g1) wj f1 hD⟩
     · have hl:=of_decide_eq_true hx
       have:(relabel scope X.env).names.lookup x=some .local:=by rw [relabel_lookup,hl];rfl
       exact ⟨.inl this,.inr this⟩
     · exact ifs_ok c (Gc C s3 H3 fp) h6
   · cases h
 | .sorts e,Γ,X,E,k,x,G,h=>by unfold chk at h;cases h
 | .trev e,Γ,X,E,k,x,G,h=>by unfold chk at h;cases h
 | .tix o e,Γ,X,E,k,x,G,h=>by unfold chk at h;cases h
 | .any,Γ,X,E,k,x,G,h=>fun pins s σ H Q I ⟨ρ,h,μ,rh,rs,f⟩=>f.elim
 | .att Cs o f,Γ,X,E,k,x,G,h=>by
   unfold chk at h
   split at h
   · rw [Ωa,Ωa,Ωa,Ωa] at h
     obtain ⟨⟨⟨⟨h1,h2⟩,h3⟩,h4⟩,h5⟩:=h
     have e:=of_decide_eq_true h1
     subst e
     exact (pe_fld (ev_ok o G h2) (base_ok h3)).imp fun σ H Q ⟨ρ,h,μ,rh,rs,f⟩=>⟨ρ,h,μ,rh,rs,Fin.bind f fun d h1 x H1 μ1 _ g rh1 rd f1=>att_rd G h4 (of_decide_eq_true h5) rh1 rd f1⟩
   · cases h
 | .mk C es,Γ,X,E,k,x,G,h=>by
   unfold chk at h
   split at h
   · rw [Ωa,Ωa,Ωa] at h
     obtain ⟨⟨⟨h1,h2⟩,h3⟩,h4⟩:=h
     have e:=of_decide_eq_true h1
     subst e
     exact mk_pe G (of_decide_eq_true h2) h3 h4 (evs_ok es G h4)
   · cases h
 | .mcl C m o es,Γ,X,E,k,x,G,h=>by
   unfold chk at h
   split at h
   · rw [Ωa,Ωa,Ωa,Ωa,Ωa,Ωa] at h
     obtain ⟨⟨⟨⟨⟨⟨h1,h2⟩,h3⟩,h4⟩,h5⟩,h6⟩,h7⟩:=h
     have e:=of_decide_eq_true h1
     subst e
     exact mcl_pe G (of_decide_eq_true h5) h3 h4 (of_decide_eq_true h6) h7 (ev_ok o G h2) (evs_ok es G h4)
   · cases h
 | .maxd a d,Γ,X,E,k,x,G,h=>by
   unfold chk at h
   split at h
   · rw [Ωa,Ωa,Ωa,Ωa,Ωa] at h
     obtain ⟨⟨⟨⟨⟨h1,h2⟩,h3⟩,h4⟩,h5⟩,h6⟩:=h
     have e1:=of_decide_eq_true h1
     have e2:=of_decide_eq_true h2
     subst e1 e2
     refine (pe_maxd (G.gl h3).1 (G.blt _ (by decide)) G.calm (ev_ok a G h4) (ev_ok d G h6) (star_cons X.env h5)).imp fun σ H Q ⟨ρ,h,μ,rh,rs,f⟩=>⟨ρ,h,μ,rh,rs,Fin.bind f fun x h1 v H1 μ1 _ g rh1 rx f1=>⟨ρ,h1,μ1,rh1,rs.mono rh g,Fin.bind f1 fun y h2 u H2 μ2 _ g2 rh2 ry f2=>?_⟩⟩
     cases ry with
     | int d =>
       obtain ⟨r,er,f2⟩:=Fin.ofO (show Fin Y (RD Y) H2 μ2 (R.ofO (((lstOf x h2).bind intsOf).map fun ns=>.int (maxZ ns d)) h2) Q E from f2)
       obtain ⟨ns,e2,rfl⟩:=Ωo.mp er
       obtain ⟨zs,e3,e4⟩:=Option.bind_eq_some_iff.mp e2
       obtain ⟨a,vs,rfl,hl,rv⟩:=(rx.mono rh1 g2).lstOf rh2 e3
       rw [ints_rel rv e4] at hl
       exact ⟨a,ns,d,rfl,rfl,G.gk.K ▸ hl,f2.ok rh2 (.int _)⟩
     | _=>exact f2.elim
   · cases h
 | .dictl ps,Γ,X,E,k,x,G,h=>by
   unfold chk at h
   split at h
   · rw [Ωa] at h
     obtain ⟨p1,p2,p3⟩:=pairs_ok ps G h.2
     exact dict_ok ps G (of_decide_eq_true h.1) h.2 p1 p2 p3
   · cases h
theorem evs_ok{T:Tb}{Y:Yx}:∀ (e:Exs) {Γ:Gm}{X:Cx}{E:XK}{k:Nat}{x:List Expr},Gd T Γ X Y E k→chks Γ e x=true→PA X x (semA T Y E e)
 | .nil,Γ,X,E,k,x,G,h=>by
   rw [chks] at h
   cases x with
   | nil=>exact pa_nil.imp fun σ H Q ⟨ρ,h,μ,rh,rs,f⟩=>Fin.ok (show Fin Y (RDs Y) H μ (.ok [] h) Q E from f) rh .nil
   | cons a b=>cases h
 | .cons e r,Γ,X,E,k,x,G,h=>by
   cases x with
   | nil=>rw [chks] at h;cases h
   | cons y ys =>
     rw [chks,Ωa,Ωa] at h
     exact (pa_cons (ev_ok e G h.1.1) (evs_ok r G h.2) (star_cons X.env h.1.2)).imp fun σ H Q ⟨ρ,h,μ,rh,rs,f⟩=>⟨ρ,h,μ,rh,rs,Fin.bind f fun d h1 x H1 μ1 _ g rh1 rd f1 =>
       ⟨ρ,h1,μ1,rh1,rs.mono rh g,f1.bind fun ds h2 xs H2 μ2 _ g2 rh2 rds f2=>f2.ok rh2 (.cons (rd.mono rh1 g2) rds)⟩⟩
theorem and_ok{T:Tb}{Y:Yx}:∀ (e:Exs) {Γ:Gm}{X:Cx}{E:XK}{k:Nat}{x:List Expr}{pos:Pos},Gd T Γ X Y E k→chks Γ e x=true→PE X (.BoolOp .And x pos) (semE T Y E (.ands e))
 | .nil,Γ,X,E,k,x,pos,G,h=>fun pins s σ H Q I ⟨ρ,h,μ,rh,rs,f⟩=>f.elim
 | .cons e r,Γ,X,E,k,x,pos,G,h=>by
   cases x with
   | nil=>rw [chks] at h;cases h
   | cons y ys =>
     rw [chks,Ωa,Ωa] at h
     cases r with
     | nil =>
       have h2:=h.2
       rw [chks] at h2
       cases ys with
       | nil=>exact (pe_one (ev_ok e G h.1.1)).imp fun σ H Q q=>q
       | cons a b=>cases h2
     | cons e' r' =>
       cases ys with
       | nil=>have h2:=h.2;rw [chks] at h2;cases h2
       | cons z zs =>
         refine (pe_and (ev_ok e G h.1.1) (and_ok (.cons e' r') G h.2)).imp fun σ H Q ⟨ρ,h,μ,rh,rs,f⟩=>⟨ρ,h,μ,rh,rs,Fin.bind f fun d h1 x H1 μ1 _ g rh1 rd f1=>?_⟩
         cases rd with
         | bl c =>
           refine ⟨c,rfl,?_⟩
           cases c with
           | true=>exact iteT ⟨ρ,h1,μ1,rh1,rs.mono rh g,f1⟩
           | false=>exact iteF (Fin.ok f1 rh1 (.bl _))
         | _=>exact f1.elim
theorem or_ok{T:Tb}{Y:Yx}:∀ (e:Exs) {Γ:Gm}{X:Cx}{E:XK}{k:Nat}{x:List Expr}{pos:Pos},Gd T Γ X Y E k→chks Γ e x=true→PE X (.BoolOp .Or x pos) (semE T Y E (.ors e))
 | .nil,Γ,X,E,k,x,pos,G,h=>fun pins s σ H Q I ⟨ρ,h,μ,rh,rs,f⟩=>f.elim
 | .cons e r,Γ,X,E,k,x,pos,G,h=>by
   cases x with
   | nil=>rw [chks] at h;cases h
   | cons y ys =>
     rw [chks,Ωa,Ωa] at h
     cases r with
     | nil =>
       have h2:=h.2
       rw [chks] at h2
       cases ys with
       | nil=>exact (pe_one (ev_ok e G h.1.1)).imp fun σ H Q q=>q
       | cons a b=>cases h2
     | cons e' r' =>
       cases ys with
       | nil=>have h2:=h.2;rw [chks] at h2;cases h2
       | cons z zs =>
         refine (pe_or (ev_ok e G h.1.1) (or_ok (.cons e' r') G h.2)).imp fun σ H Q ⟨ρ,h,μ,rh,rs,f⟩=>⟨ρ,h,μ,rh,rs,Fin.bind f fun d h1 x H1 μ1 _ g rh1 rd f1=>?_⟩
         cases rd with
         | bl c =>
           refine ⟨c,rfl,?_⟩
           cases c with
           | true=>exact iteT (Fin.ok f1 rh1 (.bl _))
           | false=>exact iteF ⟨ρ,h1,μ1,rh1,rs.mono rh g,f1⟩
         | _=>exact f1.elim
theorem evo_ok{T:Tb}{Y:Yx}:∀ (e:Option Ex) {Γ:Gm}{X:Cx}{E:XK}{k:Nat}{x:Option Expr},Gd T Γ X Y E k→chko Γ e x=true→PO X x (semO T Y E e)
 | none,Γ,X,E,k,x,G,h=>by
   unfold chko at h
   cases x with
   | none=>exact po_none.imp fun σ H Q ⟨ρ,h,μ,rh,rs,f⟩=>Fin.ok (show Fin Y _ H μ (.ok none h) Q E from f) rh rfl
   | some a=>cases h
 | some e,Γ,X,E,k,x,G,h=>by
   unfold chko at h
   cases x with
   | none=>cases h
   | some a =>
     refine (po_some (ev_ok e G h)).imp fun σ H Q ⟨ρ,h,μ,rh,rs,f⟩=>⟨ρ,h,μ,rh,rs,Fin.bind f fun d h1 x H1 μ1 _ g rh1 rd f1=>?_⟩
     cases rd with
     | int i=>exact ⟨i,rfl,Fin.ok f1 rh1 rfl⟩
     | _=>exact f1.elim
theorem tst_ok{T:Tb}{Y:Yx}:∀ (e:Tx) {Γ:Gm}{X:Cx}{E:XK}{k:Nat}{x:Expr},Gd T Γ X Y E k→chkt Γ e x=true→PT X x (semT T Y E e)
 | .ex e,Γ,X,E,k,x,G,h=>by
   unfold chkt at h
   rw [Ωa] at h
   have pl:=plainT_ok G (ev_ok e G h.2) h.1
   by_cases hx:∀ l o r p,x≠.Compare l o r p
   · exact pl hx
   · have h2:=h.2
     cases e with
     | cmp op a b =>
       unfold chk at h2
       split at h2
       · rw [Ωa,Ωa,Ωa] at h2
         have e:=of_decide_eq_true h2.1.1.1
         subst e
         exact cmpT_ok G (ev_ok a G h2.1.1.2) (ev_ok b G h2.1.2) h2.2
       · cases h2
     | cmp2 o1 o2 a b c=>unfold chk at h2;cases h2
     | _ =>
       refine pl fun l o r p z=>?_
       subst z
       rcases chk_cmp h2 with ⟨_,_,_,q⟩|⟨_,_,_,_,_,q⟩<;>cases q
 | .ands ts,Γ,X,E,k,x,G,h=>by
   unfold chkt at h
   split at h
   · exact (tand_ok ts G h).pt
   · cases h
 | .ors ts,Γ,X,E,k,x,G,h=>by
   unfold chkt at h
   split at h
   · exact (tor_ok ts G h).pt
   · cases h
 | .nt t,Γ,X,E,k,x,G,h=>by
   unfold chkt at h
   split at h
   · exact (pt_not (tst_ok t G h)).imp fun σ H Q ⟨ρ,h,μ,rh,rs,f⟩=>⟨ρ,h,μ,rh,rs,Fin.bind (show Fin Y _ H μ ((tst T t ρ h).bind fun c h1=>.ok (!c) h1) Q E from f) fun d h1 x H1 μ1 er g rh1 rd f1=>by
       subst rd
       exact Fin.ok f1 rh1 rfl⟩
   · cases h
theorem tand_ok{T:Tb}{Y:Yx}:∀ (e:Txs) {Γ:Gm}{X:Cx}{E:XK}{k:Nat}{x:List Expr}{pos:Pos},Gd T Γ X Y E k→chkts Γ e x=true→PW X (.BoolOp .And x pos) (semT T Y E (.ands e))
 | .one t,Γ,X,E,k,x,pos,G,h=>by
   unfold chkts at h
   split at h
   · exact (pw_and1 (tst_ok t G h)).imp fun σ H Q q=>q
   · cases h
 | .cons t ts,Γ,X,E,k,x,pos,G,h=>by
   unfold chkts at h
   split at h
   · rw [Ωa] at h
     refine (pw_and (tst_ok t G h.1) (tand_ok ts G h.2)).imp fun σ H Q ⟨ρ,h,μ,rh,rs,f⟩=>⟨ρ,h,μ,rh,rs,Fin.bind (show Fin Y _ H μ ((tst T t ρ h).bind fun c h1=>if c then tstAnd T ts ρ h1 else .ok false h1) Q E from f) fun d h1 x H1 μ1 er g rh1 rd f1=>?_⟩
     subst rd
     cases d with
     | true=>exact iteT ⟨ρ,h1,μ1,rh1,rs.mono rh g,f1⟩
     | false=>exact iteF (Fin.ok f1 rh1 rfl)
   · cases h
theorem tor_ok{T:Tb}{Y:Yx}:∀ (e:Txs) {Γ:Gm}{X:Cx}{E:XK}{k:Nat}{x:List Expr}{pos:Pos},Gd T Γ X Y E k→chkts Γ e x=true→PW X (.BoolOp .Or x pos) (semT T Y E (.ors e))
 | .one t,Γ,X,E,k,x,pos,G,h=>by
   unfold chkts at h
   split at h
   · exact (pw_or1 (tst_ok t G h)).imp fun σ H Q q=>q
   · cases h
 | .cons t ts,Γ,X,E,k,x,pos,G,h=>by
   unfold chkts at h
   split at h
   · rw [Ωa] at h
     refine (pw_or (tst_ok t G h.1) (tor_ok ts G h.2)).imp fun σ H Q ⟨ρ,h,μ,rh,rs,f⟩=>⟨ρ,h,μ,rh,rs,Fin.bind (show Fin Y _ H μ ((tst T t ρ h).bind fun c h1=>if c then .ok true h1 else tstOr T ts ρ h1) Q E from f) fun d h1 x H1 μ1 er g rh1 rd f1=>?_⟩
     subst rd
     cases d with
     | true=>exact iteT (Fin.ok f1 rh1 rfl)
     | false=>exact iteF ⟨ρ,h1,μ1,rh1,rs.mono rh g,f1⟩
   · cases h
theorem ifs_ok{T:Tb}{Y:Yx}:∀ (c:Option Tx) {Γ:Gm}{X:Cx}{E:XK}{k:Nat}{x:List Expr},Gd T Γ X Y E k→chkf Γ c x=true→PIf X x (fun σ H Q=>∃ ρ h μ,RH Y H μ h∧RS Y H μ ρ σ∧Fin Y (fun _ _ (a b:Bool)=>a=b) H μ (tsto T c ρ h) Q E)
 | none,Γ,X,E,k,x,G,h=>by
   unfold chkf at h
   cases x with
   | nil =>
     intro pins s σ H Q I ⟨ρ,h,μ,rh,rs,f⟩
     exact pif_nil pins s σ H Q I (Fin.ok (show Fin Y (fun _ _ (a b:Bool)=>a=b) H μ (.ok true h) Q E from f) rh rfl)
   | cons a b=>cases h
 | some t,Γ,X,E,k,x,G,h=>by
   unfold chkf at h
   split at h
   · exact pif_one (tst_ok t G h)
   · cases h
theorem evi_ok{T:Tb}{Y:Yx}:∀ (e:Ix) {Γ:Gm}{X:Cx}{E:XK}{k:Nat}{x tg:Expr},Gd T Γ X Y E k→chki Γ e tg x=true→PI X tg x (semI T Y E e)
 | .pl e,Γ,X,E,k,x,tg,G,h=>by
   unfold chki at h
   refine (pi_any (ev_ok e G h)).imp fun σ H Q ⟨ρ,h,μ,rh,rs,f⟩=>⟨ρ,h,μ,rh,rs,Fin.bind (show Fin Y _ H μ ((ev T e ρ h).bind fun x h1=>R.ofO (walkOf x h1) h1) Q E from f) fun d h1 x H1 μ1 er g rh1 rd f1=>?_⟩
   obtain ⟨w,ew,f1⟩:=f1.ofO
   exact walk_ok G.gk.K rh1 rd ew fun J wj=>f1.ok rh1 wj
 | .rng e,Γ,X,E,k,x,tg,G,h=>by
   unfold chki at h
   split at h
   · rw [Ωa,Ωa,Ωa] at h
     obtain ⟨⟨⟨h1,h2⟩,h3⟩,h4⟩:=h
     have e1:=of_decide_eq_true h1
     subst e1
     refine (pi_range1 (G.gl h2).1 (G.blt _ (by decide)) (pa_cons (ev_ok e G h3) pa_nil (star_cons X.env h4)) (star_cons X.env h4)).imp fun σ H Q ⟨ρ,h,μ,rh,rs,f⟩=>⟨ρ,h,μ,rh,rs,Fin.bind f fun d h1 x H1 μ1 er g rh1 rd f1=>?_⟩
     cases rd with
     | int j =>
       obtain ⟨hz,f1⟩:=Fin.iff (show Fin Y (WJ Y) H1 μ1 (if small62 j=true then .ok ⟨none,upFrom 0 j.toNat⟩ h1 else .bad) Q E from f1)
       unfold small62 at hz
       rw [Ωa] at hz
       exact ⟨j,rfl,of_decide_eq_true hz.1,of_decide_eq_true hz.2,f1.ok rh1 wj_rng⟩
     | _=>exact f1.elim
   · cases h
 | .rng2 a b,Γ,X,E,k,x,tg,G,h=>by unfold chki at h;cases h
 | .enu e,Γ,X,E,k,x,tg,G,h=>by
   unfold chki at h
   split at h
   · rw [Ωa,Ωa,Ωa,Ωa] at h
     obtain ⟨⟨⟨⟨h1,h2⟩,h3⟩,h4⟩,h5⟩:=h
     have e1:=of_decide_eq_true h1
     subst e1
     have:∃ es kk tp,tg=.Tuple es kk tp:=by
       cases tg<;>first|exact ⟨_,_,_,rfl⟩|cases h5
     obtain ⟨es,kk,tp,rfl⟩:=this
     refine (pi_enum (G.gl h2).1 (G.blt _ (by decide)) (pa_cons (ev_ok e G h3) pa_nil (star_cons X.env h4)) (star_cons X.env h4)).imp fun σ H Q ⟨ρ,h,μ,rh,rs,f⟩=>⟨ρ,h,μ,rh,rs,Fin.bind f fun d h1 x H1 μ1 er g rh1 rd f1=>?_⟩
     obtain ⟨w,ew,f1⟩:=f1.ofO
     obtain ⟨w0,ew0,rfl⟩:=Ωo.mp ew
     cases d with
     | ro xs =>
       cases ew0
       cases rd with
       | ro t s =>
         refine ⟨_,rfl,⟨_,G.gk.K ▸ t.sq⟩,f1.ok rh1 (wj_enum (wj_ro G.gk.K rh1 t s) fun H2 μ2 h2 g2 rh2 st=>⟨_,G.gk.K ▸ (g2.rdF rh1 t).sq,s.mono rh1 g2⟩)⟩
     | ref i =>
       unfold walkL at ew0
       simp only at ew0
       split at ew0
       · rename_i xs hi
         cases ew0
         obtain ⟨a,vs,rfl,hm,hl,s⟩:=rd.lst rh1 hi
         refine ⟨a,rfl,⟨vs,.of hl⟩,f1.ok rh1 (wj_enum (wj_lst hm) fun H2 μ2 h2 g2 rh2 st=>?_)⟩
         obtain ⟨vs2,hl2,s2⟩:=rh2.ob i _ a (stays_at st) (g2.pre i a hm)
         exact ⟨vs2,.of hl2,s2⟩
       · cases ew0
     | _=>cases ew0
   · cases h
 | .rev e,Γ,X,E,k,x,tg,G,h=>by
   unfold chki at h
   split at h
   · rw [Ωa,Ωa,Ωa] at h
     obtain ⟨⟨⟨h1,h2⟩,h3⟩,h4⟩:=h
     have e1:=of_decide_eq_true h1
     subst e1
     refine (pi_rev2 (G.gl h2).1 (G.blt _ (by decide)) (pa_cons (ev_ok e G h3) pa_nil (star_cons X.env h4)) (star_cons X.env h4)).imp fun σ H Q ⟨ρ,h,μ,rh,rs,f⟩=>⟨ρ,h,μ,rh,rs,Fin.bind f fun d h1 x H1 μ1 er g rh1 rd f1=>?_⟩
     obtain ⟨w,ew,f1⟩:=f1.ofO
     obtain ⟨w0,ew0,rfl⟩:=Ωo.mp ew
     cases d with
     | tup xs =>
       cases ew0
       obtain ⟨a,vs,rfl,t,s⟩:=rd.tup_inv
       exact ⟨a,vs,rfl,.inl ⟨G.gk.K ▸ t,f1.ok rh1 (wj_rev G.gk.K rh1 t s)⟩⟩
     | ref i =>
       unfold walkT at ew0
       simp only at ew0
       split at ew0
       · rename_i xs ex
         cases ew0
         obtain ⟨a,vs,rfl,hi,hl,s⟩:=rd.lst rh1 ex
         exact ⟨a,vs,rfl,.inr ⟨.of hl,by rw [← s.length];exact f1.ok rh1 (wj_revL hi)⟩⟩
       · cases ew0
     | _=>cases ew0
   · cases h
 | .en1 e,Γ,X,E,k,x,tg,G,h=>by
   unfold chki at h
   split at h
   · rw [Ωa,Ωa,Ωa,Ωa,Ωa] at h
     obtain ⟨⟨⟨⟨⟨h1,h0⟩,h2⟩,h3⟩,h4⟩,h5⟩:=h
     have e1:=of_decide_eq_true h1
     have e0:=of_decide_eq_true h0
     subst e1 e0
     have:∃ es kk tp,tg=.Tuple es kk tp:=by
       cases tg<;>first|exact ⟨_,_,_,rfl⟩|cases h5
     obtain ⟨es,kk,tp,rfl⟩:=this
     refine (pi_en1 (G.gl h2).1 (G.blt _ (by decide)) (ev_ok e G h3) pe_int (star_cons X.env h4)).imp fun σ H Q ⟨ρ,h,μ,rh,rs,f⟩=>⟨ρ,h,μ,rh,rs,Fin.bind f fun d h1 x H1 μ1 er g rh1 rd f1=>?_⟩
     cases d with
     | tup xs =>
       obtain ⟨a,vs,rfl,t,s⟩:=rd.tup_inv
       exact ⟨a,rfl,rfl,⟨vs,G.gk.K ▸ t⟩,f1.ok rh1 (wj_en1 G.gk.K rh1 t s)⟩
     | _=>exact f1.elim
   · cases h
 | .dk e,Γ,X,E,k,x,tg,G,h=>by
   unfold chki at h
   exact (pi_dk (ev_ok e G h)).imp fun σ H Q ⟨ρ,h,μ,rh,rs,f⟩=>⟨ρ,h,μ,rh,rs,Fin.bind f fun d h1 x H1 μ1 er g rh1 rd f1=>frz_ok rh1 rd f1⟩
theorem pairs_ok{T:Tb}{Y:Yx}:∀ (ps:Exs) {Γ:Gm}{X:Cx}{E:XK}{k:Nat}{ks:List (Option Expr)}{vs:List Expr}{pos:Pos},Gd T Γ X Y E k→chkp Γ ps ks vs=true→PPs X pos ks vs (trsOf T Y E ps)∧ks.all (·.isSome)=true∧ks.length=vs.length
 | .nil,Γ,X,E,k,ks,vs,pos,G,h=>by
   unfold chkp at h
   rw [Ωa] at h
   cases ks with
   | nil=>cases vs with
     | nil=>exact ⟨pps_nil,rfl,rfl⟩
     | cons a b=>cases h.2
   | cons a b=>cases h.1
 | .cons e r,Γ,X,E,k,ks,vs,pos,G,h=>by
   cases r with
   | nil=>unfold chkp at h;cases h
   | cons v r' =>
     unfold chkp at h
     simp only at h
     split at h
     · rw [Ωa,Ωa] at h
       obtain ⟨p1,p2,p3⟩:=pairs_ok r' (pos:=pos) G h.2
       refine ⟨pps_cons (ev_ok e G h.1.1) (ev_ok v G h.1.2) p1,?_,?_⟩
       · rw [List.all_cons,p2];rfl
       · rw [Ωs,Ωs,p3]
     · cases h
end
end IV
end
section
namespace IV
open PySem PySem.Spec PyProof.Rows L2
noncomputable def notComp:Expr→Bool
 | .ListComp _ _ _ _|.SetComp _ _ _ _|.DictComp _ _ _ _ _=>false
 | _=>true
noncomputable def notTup:Expr→Bool
 | .Tuple _ _ _=>false
 | _=>true
noncomputable def isNmComp:Expr→Expr→Bool
 | .Name _ _,.ListComp _ _ _ _=>true
 | _,_=>false
mutual
noncomputable def chkS(Γ:Gm):Sx→Stmt→Bool
 | .ret e,s=>match s with
   | .Return (some x) _=>chk Γ e x
   | _=>false
 | .set g e,s=>match s with
   | .Assign [tg] x _=>chkG Γ.N (ownD Γ.sc) g tg&&chk Γ e x&&((notComp x&&(!isTup tg || notTup x)) || isNmComp tg x)
   | _=>false
 | .put o i e,s=>match s with
   | .Assign [.Subscript xo xi _] x _=>chk Γ o xo&&chk Γ i xi&&chk Γ e x&&notSlice xi&&notComp x
   | _=>false
 | .aug i op e,s=>match s with
   | .AugAssign (.Name y _) op' x _=>decide (op=.Add)&&decide (op'=.Add)&&decide (Γ.N[i]? = some y)&&ownD Γ.sc y&&chk Γ e x
   | _=>false
 | .drp e,s=>match s with
   | .Expr x _=>chk Γ e x&&notComp x
   | _=>false
 | .iff c a b,s=>match s with
   | .If t xs ys _=>chkt Γ c t&&chkSs Γ a xs&&chkSs Γ b ys
   | _=>false
 | .whl c b,s=>match s with
   | .While t xs [] _=>chkt Γ c t&&chkSs Γ b xs
   | _=>false
 | .forr g it b,s=>match s with
   | .For tg x xs [] _=>chki Γ it tg x&&notSet x&&chkG Γ.N (ownD Γ.sc) g tg&&chkSs Γ b xs
   | _=>false
 | .pas,s=>match s with
   | .Pass _=>true
   | _=>false
 | .brk,s=>match s with
   | .Break _=>true
   | _=>false
 | .cnt,s=>match s with
   | .Continue _=>true
   | _=>false
 | .seta Cs o f e,s=>match s with
   | .Assign [.Attribute xo n _] x _=>decide (n=f)&&chk Γ o xo&&chk Γ e x&&notComp x&&(Cs.all fun C=>decide (C∈Γ.kl.cs))&&decide (f∈Γ.kl.ats)
   | _=>false
 | .auga Cs o f e,s=>match s with
   | .AugAssign (.Attribute xo n _) op x _=>decide (op=.Add)&&decide (n=f)&&chk Γ o xo&&chk Γ e x&&(Cs.all fun C=>decide (C∈Γ.kl.cs))&&decide (f∈Γ.kl.ats)
   | _=>false
 | .any,_=>true
noncomputable def chkSs(Γ:Gm):Sxs→List Stmt→Bool
 | .nil,ss=>ss.isEmpty
 | .cons s r,ss=>match ss with
   | x::xs=>chkS Γ s x&&chkSs Γ r xs
   | []=>false
end
noncomputable def FinS(Y:Yx)(H:Hp)(μ:List Addr)(r:R (Fl×Ev))(D:Ends)(E:XK):Prop:=match r with
 | .bad=>False
 | .ok p h'=>∀ H' μ',Gr H μ H' μ'→RH Y H' μ' h'→match p.1 with
   | .nx=>∀ σ',RS Y H' μ' p.2 σ'→D.nx σ' H'
   | .bk=>∀ σ',RS Y H' μ' p.2 σ'→D.bk σ' H'
   | .ct=>∀ σ',RS Y H' μ' p.2 σ'→D.ct σ' H'
   | .rt d=>∀ v,RD Y H' μ' d v→D.rt v H'
 | .exc c h'=>∀ H' μ' C,Gr H μ H' μ'→RH Y H' μ' h'→Y.mg c=some (.ref C)→E (.ref C) none H'
section
variable {Y:Yx}{α β:Type}{rel:Hp→List Addr→α→β→Prop}{H H1:Hp}{μ μ1:List Addr}{E:XK}{D:Ends}
theorem FinS.mono{r:R (Fl×Ev)}(g:Gr H μ H1 μ1)(f:FinS Y H μ r D E):FinS Y H1 μ1 r D E:=by
 cases r with
 | bad=>exact f
 | ok a h=>exact fun H' μ' g'=>f H' μ' (g.trans g')
 | exc c h=>exact fun H' μ' C g'=>f H' μ' C (g.trans g')
theorem FinS.bind{r:R α}{k:α→Hd→R (Fl×Ev)}{Q1:β→Hp→Prop}(f:FinS Y H μ (r.bind k) D E)
   (hk:∀ a h1 b H1 μ1,r=.ok a h1→Gr H μ H1 μ1→RH Y H1 μ1 h1→rel H1 μ1 a b→FinS Y H1 μ1 (k a h1) D E→Q1 b H1):Fin Y rel H μ r Q1 E:=by
 cases r with
 | bad=>exact f
 | ok a h=>exact fun b H' μ' g' rh rl=>hk a h b H' μ' rfl g' rh rl (FinS.mono g' f)
 | exc c h=>exact f
theorem FinS.ofO{o:Option α}{h:Hd}{k:α→Hd→R (Fl×Ev)}(f:FinS Y H μ ((R.ofO o h).bind k) D E):∃ a,o=some a∧FinS Y H μ (k a h) D E:=by
 cases o with
 | none=>exact f.elim
 | some a=>exact ⟨a,rfl,f⟩
theorem FinS.nx{ρ:Ev}{σ:L2.St}{h:Hd}(f:FinS Y H μ (.ok (.nx,ρ) h) D E)(rh:RH Y H μ h)(rs:RS Y H μ ρ σ):D.nx σ H:=f H μ Gr.refl rh σ rs
theorem FinS.part{r:R (Fl×Ev)}{k:(Fl×Ev)→Hd→R (Fl×Ev)}{D1:Ends}(f:FinS Y H μ (r.bind k) D E)
   (hk:∀ p h1 H1 μ1,r=.ok p h1→Gr H μ H1 μ1→RH Y H1 μ1 h1→FinS Y H1 μ1 (k p h1) D E→match p.1 with
     | .nx=>∀ σ',RS Y H1 μ1 p.2 σ'→D1.nx σ' H1
     | .bk=>∀ σ',RS Y H1 μ1 p.2 σ'→D1.bk σ' H1
     | .ct=>∀ σ',RS Y H1 μ1 p.2 σ'→D1.ct σ' H1
     | .rt d=>∀ v,RD Y H1 μ1 d v→D1.rt v H1):FinS Y H μ r D1 E:=by
 cases r with
 | bad=>exact f
 | ok p h=>exact fun H' μ' g' rh=>hk p h H' μ' rfl g' rh (FinS.mono g' f)
 | exc c h=>exact f
end
noncomputable def semS(T:Tb)(Y:Yx)(E:XK)(s:Sx):TS:=fun D σ H=>∃ ρ h μ,RH Y H μ h∧RS Y H μ ρ σ∧FinS Y H μ (xs1 T s ρ h) D E
noncomputable def semSs(T:Tb)(Y:Yx)(E:XK)(s:Sxs):TS:=fun D σ H=>∃ ρ h μ,RH Y H μ h∧RS Y H μ ρ σ∧FinS Y H μ (xs2 T s ρ h) D E
theorem _root_.L2.PS.imp{X:Cx}{s:Stmt}{t t':TS}(h:PS X s t)(i:∀ D σ H,t' D σ H→t D σ H):PS X s t':=fun pins s σ H D I q=>h pins s σ H D I (i D σ H q)
theorem _root_.L2.PSs.imp{X:Cx}{s:List Stmt}{t t':TS}(h:PSs X s t)(i:∀ D σ H,t' D σ H→t D σ H):PSs X s t':=fun pins s σ H D I q=>h pins s σ H D I (i D σ H q)
structure GdS(T:Tb)(Γ:Gm)(X:Cx)(Y:Yx)(E:XK)(k:Nat):Prop extends Gd T Γ X Y E k where
 top:Γ.top=true
 fnt:∀ x,X.fn x=true
 own:PassesOwn (model X.prog X.w) X.A X.env X.xe
 bk:X.env.blockKind=.function
theorem GdS.ownD{T:Tb}{Γ:Gm}{X:Cx}{Y:Yx}{E:XK}{k:Nat}(G:GdS T Γ X Y E k):∀ x,ownD Γ.sc x=true→Loc X.env.scope x∧(X.fn x=true∨X.env.scope.names.lookup x=some .local):=by
 intro x h
 refine ⟨?_,.inl (G.fnt x)⟩
 unfold IV.ownD at h
 rw [G.sc G.top]
 rw [Bool.or_eq_true] at h
 exact h.imp of_decide_eq_true of_decide_eq_true
theorem swap_no{x:Expr}{t:Option Expr}{n:Nat}{env:Env}(h:notComp x=true):swapsWith x t n env=pure false:=by
 cases x<;>first|rfl|cases h
theorem stores_no{tg x:Expr}{env:Env}(h:(!isTup tg || notTup x)=true)(hg:∀ es p,tg≠.List es p):swappedStores [tg] x env=pure none:=by
 cases tg with
 | List es p=>exact absurd rfl (hg es p)
 | Tuple es k p =>
   cases x<;>first|rfl|cases h
 | _=>rfl
theorem set_comp{T:Tb}{Γ:Gm}{X:Cx}{Y:Yx}{E:XK}{k:Nat}(G:GdS T Γ X Y E k){i:Nat}{y:Str}{py pos spos:Pos}{elt:Expr}{gs:List Comprehension}{scope:Scope}{e:Ex}
   (hi:Γ.N[i]? = some y) (ho:ownD Γ.sc y=true) (h:chk Γ e (.ListComp elt gs scope pos)=true):PS X (.Assign [.Name y py] (.ListComp elt gs scope pos) spos) (tAsg (semE T Y E e) (gName i)):=by
 obtain ⟨o1,o2⟩:=G.ownD y ho
 have hy:X.N[i]? = some y:=by rw [G.N];exact hi
 by_cases sw:swapsWith (.ListComp elt gs scope pos) (some (.Name y py)) spos.line X.env=pure true
 · cases e with
   | comp NC js it g c e =>
     unfold chk at h
     split at h
     · rename_i heq
       cases heq
       rw [Ωa,Ωa,Ωa,Ωa,Ωa,Ωa,Ωa] at h
       obtain ⟨⟨⟨⟨⟨⟨⟨h0,h1⟩,h2⟩,h3⟩,h4⟩,h5⟩,h6⟩,h7⟩:=h
       have S:=compb_ok h1
       rw [← G.N,← G.sc h0] at S
       have Gc:=fun (C:Addr) (s3:Shared) (H3:Hp) (fp:List Addr)=>G.toGd.comp NC scope C s3 H3 fp S.nd
       rw [ΩC] at h5
       refine (ps_setComp (g:=tgR X.K g) (tc:=fun σ H Q=>∃ ρ h μ,RH Y H μ h∧RS Y H μ ρ σ∧Fin Y (fun _ _ (a b:Bool)=>a=b) H μ (tsto T c ρ h) Q E0) (te:=semE T Y E0 e) G.nd hy o1 o2 S rfl G.calm (evi_ok it G.toGd h2) (fun C s3 H3 fp=>⟨pg_ok rfl S.nd rfl (fun x hx=>?_) h4,?_,ev_ok e (Gc C s3 H3 fp) h7⟩) (tgOk X.K g) (fun j hj=>of_decide_eq_true (h5 j (List.mem_range.mpr hj))) (set_ok X.env h3) sw).imp
         fun D σ H q=>?_
       · have hl:=of_decide_eq_true hx
         have:(relabel scope X.env).names.lookup x=some .local:=by rw [relabel_lookup,hl];rfl
         exact ⟨.inl this,.inr this⟩
       · exact ifs_ok c (Gc C s3 H3 fp) h6
       · obtain ⟨ρ,h,μ,rh,rs,f⟩:=q
         exact ⟨ρ,h,μ,rh,rs,Fin.bind f fun w h1 J H1 μ1 _ g1 rh1 wj f1 D hD=>comp_rd G.gk.K (fun _ _ _ z=>z) rh1 (rs.mono rh g1) wj f1 hD⟩
     · cases h
   | cst d=>cases d<;>(unfold chk chkC at h;cases h)
   | any=>exact fun pins s σ H D I ⟨ρ,h,μ,rh,rs,f⟩=>f.elim
   | _=>unfold chk at h;cases h
 · refine ps_set G.nd hy o1 (ev_ok e G.toGd h) ?_ o2
   have e1:swapsWith (.ListComp elt gs scope pos) (some (.Name y py)) spos.line X.env=pure (X.env.blockKind==.function&&X.env.kindOf y==some .local&&py.line==pos.line&&!(scope.names.any fun (n,k)=>n==y&&(k==.local || k==.cell))):=rfl
   cases q:(X.env.blockKind==.function&&X.env.kindOf y==some .local&&py.line==pos.line&&!(scope.names.any fun (n,k)=>n==y&&(k==.local || k==.cell))) with
   | true=>rw [q] at e1;exact absurd e1 sw
   | false=>rw [q] at e1;exact e1
theorem aug_rd{T:Tb}{Γ:Gm}{X:Cx}{Y:Yx}{E:XK}{k:Nat}(G:Gd T Γ X Y E k){Cs:List Str}{f:Str}{e:Ex}(hc:(Cs.all fun C=>decide (C∈Γ.kl.cs))=true)(hf:f∈Γ.kl.ats){H1:Hp}{μ1:List Addr}{h1:Hd}{d:D}{x:V}{ρ:Ev}{σ:L2.St}{D:Ends}(rh1:RH Y H1 μ1 h1)(rs1:RS Y H1 μ1 ρ σ)(rd:RD Y H1 μ1 d x)
   (f1:FinS Y H1 μ1 ((getA Cs f d h1).bind fun v h2=>(ev T e ρ h2).bind fun y h3=>match v,y with
     | .int a,.int b=>if (insOf d h1).map (·.1)=(insOf d h3).map (·.1) then (setA Cs f d (.int (a+b)) h3).bind fun _ h4=>.ok (.nx,ρ) h4 else .bad
     | _,_=>.bad) D E) :
   ∃ a C dx fs v,x=.ref a∧H1 a=some (.ins C dx fs)∧Cls X.K C∧NoAttr X.K C f∧fs.lookup f=some v ∧
     semE T Y E e σ H1 fun y H2=>rAdd v y H2 fun z H3=>∃ dx' fs',H3 a=some (.ins C dx' fs')∧fs'.length<1000∧D.nx σ (upd H3 a (.ins C dx' (putF f z fs'))):=by
 unfold getA at f1
 cases ei:insOf d h1 with
 | none=>rw [ei] at f1;exact f1.elim
 | some p =>
   obtain ⟨C,fs⟩:=p
   rw [ei] at f1
   simp only at f1
   by_cases hC:C∈Cs
   · rw [if_pos hC] at f1
     obtain ⟨w,e1,f1⟩:=f1.ofO
     obtain ⟨i,a,Ca,dx,gs,rfl,rfl,q,hi,z,m,s⟩:=ins_rd rh1 rd ei
     obtain ⟨v,l,rv⟩:=(s.look (f:=f)).1 w e1
     have hc':=hc
     rw [ΩC] at hc'
     obtain ⟨Ca',m',cl,na⟩:=G.cls C (of_decide_eq_true (hc' C hC))
     have m0:=m
     rw [G.gk.mg,m'] at m
     cases m
     refine ⟨a,Ca,dx,gs,v,rfl,z,cl,na f hf,l,ρ,h1,μ1,rh1,rs1,FinS.bind f1 fun y h3 u H3 μ3 _ g3 rh3 ry f3=>?_⟩
     cases w with
     | int p =>
       cases y with
       | int r =>
         cases rv
         cases ry
         refine ⟨p,r,rfl,rfl,?_⟩
         simp only at f3
         by_cases hk:Option.map (·.1) (some (C,fs))=(insOf (.ref i) h3).map (·.1)
         · rw [if_pos hk] at f3
           obtain ⟨a',C',dx',fs',e4,z',_,_,l',nx⟩:=set_rd (Q:=fun _ H'=>D.nx σ H') G hc hf rh3 (rd.mono rh1 g3) (.int _) (FinS.bind f3 fun _ h4 _ H4 μ4 _ g4 rh4 _ f4=>f4.nx rh4 ((rs1.mono rh1 g3).mono rh3 g4))
           cases e4
           cases e5:insOf (.ref i) h3 with
           | none=>rw [e5] at hk;cases hk
           | some p3 =>
             obtain ⟨C3,fs3⟩:=p3
             rw [e5] at hk
             cases hk
             obtain ⟨i3,a3,Ca3,dx3,gs3,e6,e7,_,_,z3,m3,_⟩:=ins_rd rh3 (rd.mono rh1 g3) e5
             cases e7
             rw [m0] at m3
             cases m3
             rw [z'] at z3
             cases z3
             exact ⟨dx',fs',z',l',nx⟩
         · rw [if_neg hk] at f3;exact f3.elim
       | _=>exact f3.elim
     | _=>exact f3.elim
   · rw [if_neg hC] at f1;exact f1.elim
mutual
theorem st_ok{T:Tb}{Y:Yx}:∀ (s:Sx) {Γ:Gm}{X:Cx}{E:XK}{k:Nat}{x:Stmt},GdS T Γ X Y E k→chkS Γ s x=true→PS X x (semS T Y E s)
 | .ret e,Γ,X,E,k,x,G,h=>by
   unfold chkS at h
   split at h
   · exact (ps_ret (ev_ok e G.toGd h)).imp fun D σ H ⟨ρ,h,μ,rh,rs,f⟩=>⟨ρ,h,μ,rh,rs,FinS.bind f fun d h1 v H1 μ1 _ g rh1 rd f1=>f1 H1 μ1 Gr.refl rh1 v rd⟩
   · cases h
 | .set g e,Γ,X,E,k,x,G,h=>by
   unfold chkS at h
   split at h
   · rename_i tg xe pos
     rw [Ωa,Ωa] at h
     obtain ⟨⟨h1,h2⟩,h3⟩:=h
     have fin:∀ {D:Ends}{σ:L2.St}{H:Hp},semS T Y E (.set g e) D σ H→tAsg (semE T Y E e) (tgR X.K g) D σ H:=fun {D σ H} ⟨ρ,h,μ,rh,rs,f⟩=>⟨ρ,h,μ,rh,rs,FinS.bind f fun d h1 v H1 μ1 _ g1 rh1 rd f1=>by
       obtain ⟨ρ1,eb,f1⟩:=f1.ofO
       exact bind_rd G.gk.K rd (rs.mono rh g1) eb fun σ1 rs1=>f1.nx rh1 rs1⟩
     rw [Bool.or_eq_true,Ωa] at h3
     have pg:=pg_ok (X:=X) G.N G.nd G.calm G.ownD h1
     rcases h3 with ⟨h3,h4⟩|h3
     · have nl:∀ es p,tg≠.List es p:=fun es p z=>by subst z;cases g<;>(unfold chkG at h1;cases h1)
       cases g with
       | nm i =>
         cases tg with
         | Name y py =>
           unfold chkG at h1
           rw [Ωa] at h1
           obtain ⟨o1,o2⟩:=G.ownD y h1.2
           exact (ps_set G.nd (by rw [G.N];exact of_decide_eq_true h1.1) o1 (ev_ok e G.toGd h2) (swap_no h3) o2).imp fun D σ H q=>fin q
         | _=>unfold chkG at h1;cases h1
       | two i j =>
         refine (ps_asg (ev_ok e G.toGd h2) pg (swap_no h3) (stores_no h4 nl) ?_).imp fun D σ H q=>fin q
         cases tg<;>first|rfl|(unfold chkG at h1;cases h1)
       | many is =>
         refine (ps_asg (ev_ok e G.toGd h2) pg (swap_no h3) (stores_no h4 nl) ?_).imp fun D σ H q=>fin q
         cases tg<;>first|rfl|(unfold chkG at h1;cases h1)
     · cases tg with
       | Name y py =>
         cases xe with
         | ListComp elt gs scope pos =>
           cases g with
           | nm i =>
             unfold chkG at h1
             rw [Ωa] at h1
             exact (set_comp G (of_decide_eq_true h1.1) h1.2 h2).imp fun D σ H q=>fin q
           | two i j=>unfold chkG at h1;cases h1
           | many is=>unfold chkG at h1;cases h1
         | _=>cases h3
       | _=>cases h3
   · cases h
 | .put o i e,Γ,X,E,k,x,G,h=>by
   unfold chkS at h
   split at h
   · rename_i xo xi p1 xe p2
     rw [Ωa,Ωa,Ωa,Ωa] at h
     obtain ⟨⟨⟨⟨h1,h2⟩,h3⟩,h4⟩,h5⟩:=h
     refine (ps_asg (pos:=p2) (ev_ok e G.toGd h3) (pg_sub (pos:=p1) (ev_ok o G.toGd h1) (ev_ok i G.toGd h2) (put_ok (Y:=Y) (E:=E)) ?_) (by unfold swapsWithSole;exact swap_no h5) (stores_no rfl (fun _ _ z=>by cases z)) rfl).imp fun D σ H ⟨ρ,h,μ,rh,rs,f⟩=>⟨ρ,h,μ,rh,rs,FinS.bind f fun d h1 v H1 μ1 _ g1 rh1 rd f1 =>
       ⟨ρ,h1,μ1,rh1,rs.mono rh g1,f1.bind fun d2 h2 v2 H2 μ2 _ g2 rh2 rd2 f2=>⟨ρ,h2,μ2,rh2,(rs.mono rh g1).mono rh1 g2,f2.bind fun d3 h3 v3 H3 μ3 _ g3 rh3 rd3 f3 =>
         ⟨d2,d3,d,h3,μ3,rh3,rd2.mono rh2 g3,rd3,(rd.mono rh1 g2).mono rh2 g3,f3.bind fun _ h4 _ H4 μ4 _ g4 rh4 _ f4=>f4.nx rh4 ((((rs.mono rh g1).mono rh1 g2).mono rh2 g3).mono rh3 g4)⟩⟩⟩⟩
     cases xi<;>first|(intro _;rfl)|cases h4
   · cases h
 | .aug i op e,Γ,X,E,k,x,G,h=>by
   unfold chkS at h
   split at h
   · rw [Ωa,Ωa,Ωa,Ωa] at h
     obtain ⟨⟨⟨⟨h1,h2⟩,h3⟩,h4⟩,h5⟩:=h
     have e1:=of_decide_eq_true h1
     have e2:=of_decide_eq_true h2
     subst e1 e2
     obtain ⟨o1,o2⟩:=G.ownD _ h4
     refine (ps_aug G.nd (by rw [G.N];exact of_decide_eq_true h3) o1 (ev_ok e G.toGd h5) ip_add o2).imp fun D σ H ⟨ρ,h,μ,rh,rs,f⟩=>?_
     obtain ⟨d,ed,f⟩:=FinS.ofO f
     obtain ⟨v,ev,rd⟩:=rs.var ed
     refine ⟨v,ev,ρ,h,μ,rh,rs,FinS.bind f fun d2 h2 v2 H2 μ2 _ g2 rh2 rd2 f2=>?_⟩
     cases rd with
     | int a =>
       cases rd2 with
       | int b=>exact ⟨a,b,rfl,rfl,FinS.nx f2 rh2 ((rs.mono rh g2).set (.int _))⟩
       | _=>exact f2.elim
     | _=>exact f2.elim
   · cases h
 | .drp e,Γ,X,E,k,x,G,h=>by
   unfold chkS at h
   split at h
   · rw [Ωa] at h
     exact (ps_expr (ev_ok e G.toGd h.1) (swap_no h.2)).imp fun D σ H ⟨ρ,h,μ,rh,rs,f⟩=>⟨ρ,h,μ,rh,rs,FinS.bind f fun d h1 v H1 μ1 _ g1 rh1 rd f1=>f1.nx rh1 (rs.mono rh g1)⟩
   · cases h
 | .iff c a b,Γ,X,E,k,x,G,h=>by
   unfold chkS at h
   split at h
   · rw [Ωa,Ωa] at h
     refine (ps_if (tst_ok c G.toGd h.1.1) (sts_ok a G h.1.2) (sts_ok b G h.2)).imp fun D σ H ⟨ρ,h,μ,rh,rs,f⟩=>⟨ρ,h,μ,rh,rs,FinS.bind f fun t h1 v H1 μ1 _ g1 rh1 rd f1=>?_⟩
     subst rd
     cases t with
     | true=>exact iteT ⟨ρ,h1,μ1,rh1,rs.mono rh g1,f1⟩
     | false=>exact iteF ⟨ρ,h1,μ1,rh1,rs.mono rh g1,f1⟩
   · cases h
 | .whl c b,Γ,X,E,k,x,G,h=>by
   unfold chkS at h
   split at h
   · rw [Ωa] at h
     refine (ps_while G.own (tst_ok c G.toGd h.1) (sts_ok b G h.2)).imp fun D σ H ⟨ρ,h,μ,rh,rs,f⟩=>?_
     refine ⟨fun m σ H=>∃ ρ h μ,RH Y H μ h∧RS Y H μ ρ σ∧FinS Y H μ (whileL (tst T c) (xs2 T b) m ρ h) D E,⟨T.L,ρ,h,μ,rh,rs,f⟩,?_⟩
     rintro m σ H ⟨ρ,h,μ,rh,rs,f⟩
     cases m with
     | zero=>exact f.elim
     | succ m =>
       refine ⟨ρ,h,μ,rh,rs,FinS.bind f fun t h1 v H1 μ1 _ g1 rh1 rd f1=>?_⟩
       subst rd
       cases t with
       | false=>exact iteF (FinS.nx f1 rh1 (rs.mono rh g1))
       | true =>
         refine iteT ⟨fun σ' H'=>∃ ρ h μ,RH Y H' μ h∧RS Y H' μ ρ σ'∧FinS Y H' μ (whileL (tst T c) (xs2 T b) m ρ h) D E,fun σ' H' q=>⟨m,ΩH m,q⟩,ρ,h1,μ1,rh1,rs.mono rh g1,?_⟩
         refine FinS.part f1 fun p h2 H2 μ2 _ g2 rh2 f2=>?_
         obtain ⟨fl,ρ2⟩:=p
         cases fl with
         | nx=>exact fun σ' rs'=>⟨ρ2,h2,μ2,rh2,rs',f2⟩
         | ct=>exact fun σ' rs'=>⟨ρ2,h2,μ2,rh2,rs',f2⟩
         | bk=>exact fun σ' rs'=>FinS.nx f2 rh2 rs'
         | rt d=>exact fun v rv=>f2 H2 μ2 Gr.refl rh2 v rv
   · cases h
 | .forr g it b,Γ,X,E,k,x,G,h=>by
   unfold chkS at h
   split at h
   · rw [Ωa,Ωa,Ωa] at h
     obtain ⟨⟨⟨h1,h2⟩,h3⟩,h4⟩:=h
     refine (ps_for G.own G.calm (evi_ok it G.toGd h1) (pg_ok (X:=X) G.N G.nd G.calm G.ownD h3) (sts_ok b G h4) (set_ok X.env h2)).imp fun D σ H ⟨ρ,h,μ,rh,rs,f⟩=>⟨ρ,h,μ,rh,rs,FinS.bind f fun w h1 J H1 μ1 _ g1 rh1 wj f1=>?_⟩
     refine ⟨fun i m σ H=>∃ ρ h μ,i≤w.xs.length∧m=w.xs.length - i∧Gr H1 μ1 H μ∧RH Y H μ h∧RS Y H μ ρ σ∧FinS Y H μ (forL w.src g (xs2 T b) (w.xs.drop i) ρ h) D E,⟨w.xs.length,ρ,h1,μ1,Nat.zero_le _,by simp,Gr.refl,rh1,rs.mono rh g1,f1⟩,?_⟩
     rintro i m σ H ⟨ρ,h,μ,hi,rfl,g0,rh,rs,f⟩
     by_cases hlt:i<w.xs.length
     · obtain ⟨d,hd⟩:∃ d,w.xs[i]? = some d:=⟨_,Ωg hlt⟩
       have hdrop:w.xs.drop i=d::w.xs.drop (i+1):=by
         rw [List.drop_eq_getElem_cons hlt]
         have:=Ωg hlt
         rw [hd] at this
         rw [← Option.some.inj this]
       rw [hdrop,forL] at f
       by_cases hs:Wk.stays w.src h=true
       · rw [if_pos hs] at f
         obtain ⟨go,yl⟩:=(wj H μ h g0 rh hs).1 i d hd
         refine .inr ⟨go,fun σ' H'=>∃ ρ h μ,i+1≤w.xs.length∧Gr H1 μ1 H' μ∧RH Y H' μ h∧RS Y H' μ ρ σ'∧FinS Y H' μ (forL w.src g (xs2 T b) (w.xs.drop (i+1)) ρ h) D E,fun σ' H' ⟨ρ,h,μ,q1,q2,q3,q4,q5⟩=>⟨_,Nat.sub_lt_sub_left hlt (ΩH i),ρ,h,μ,q1,rfl,q2,q3,q4,q5⟩,fun x H' hy=>?_⟩
         obtain ⟨g2,rh2,rx⟩:=yl x H' hy
         split at f
         · exact f.elim
         · rename_i ρ1 hb
           refine bind_rd G.gk.K rx (rs.mono rh g2) hb fun σ1 rs1=>⟨ρ1,h,μ,rh2,rs1,FinS.part (FinS.mono g2 f) fun p h3 H3 μ3 _ g3 rh3 f3=>?_⟩
           have g03:=(g0.trans g2).trans g3
           obtain ⟨fl,ρ2⟩:=p
           cases fl with
           | nx=>exact fun σ' rs'=>⟨ρ2,h3,μ3,hlt,g03,rh3,rs',f3⟩
           | ct=>exact fun σ' rs'=>⟨ρ2,h3,μ3,hlt,g03,rh3,rs',f3⟩
           | bk=>exact fun σ' rs'=>FinS.nx f3 rh3 rs'
           | rt d=>exact fun v rv=>f3 H3 μ3 Gr.refl rh3 v rv
       · rw [if_neg hs] at f
         exact f.elim
     · have he:i=w.xs.length:=by omega
       subst he
       rw [List.drop_eq_nil_of_le (Ωq _),forL] at f
       by_cases hs:Wk.stays w.src h=true
       · rw [if_pos hs] at f
         exact .inl ⟨(wj H μ h g0 rh hs).2,FinS.nx f rh rs⟩
       · rw [if_neg hs] at f
         exact f.elim
   · cases h
 | .pas,Γ,X,E,k,x,G,h=>by
   unfold chkS at h
   split at h
   · exact ps_pass.imp fun D σ H ⟨ρ,h,μ,rh,rs,f⟩=>FinS.nx f rh rs
   · cases h
 | .brk,Γ,X,E,k,x,G,h=>by
   unfold chkS at h
   split at h
   · exact ps_break.imp fun D σ H ⟨ρ,h,μ,rh,rs,f⟩=>f H μ Gr.refl rh σ rs
   · cases h
 | .cnt,Γ,X,E,k,x,G,h=>by
   unfold chkS at h
   split at h
   · exact ps_continue.imp fun D σ H ⟨ρ,h,μ,rh,rs,f⟩=>f H μ Gr.refl rh σ rs
   · cases h
 | .any,Γ,X,E,k,x,G,h=>fun pins s σ H D I ⟨ρ,h,μ,rh,rs,f⟩=>f.elim
 | .seta Cs o f e,Γ,X,E,k,x,G,h=>by
   unfold chkS at h
   split at h
   · rw [Ωa,Ωa,Ωa,Ωa,Ωa] at h
     obtain ⟨⟨⟨⟨⟨h1,h2⟩,h3⟩,h4⟩,h5⟩,h6⟩:=h
     have en:=of_decide_eq_true h1
     subst en
     exact (ps_fld (ev_ok o G.toGd h2) (ev_ok e G.toGd h3) (swap_no h4)).imp fun D σ H ⟨ρ,h,μ,rh,rs,f⟩=>⟨ρ,h,μ,rh,rs,FinS.bind f fun d h1 v H1 μ1 _ g1 rh1 rd f1=>⟨ρ,h1,μ1,rh1,rs.mono rh g1,FinS.bind f1 fun d2 h2 v2 H2 μ2 _ g2 rh2 rd2 f2 =>
       set_rd (Q:=fun _ H'=>D.nx σ H') G.toGd h5 (of_decide_eq_true h6) rh2 rd2 (rd.mono rh1 g2) (FinS.bind f2 fun _ h3 _ H3 μ3 _ g3 rh3 _ f3=>f3.nx rh3 (((rs.mono rh g1).mono rh1 g2).mono rh2 g3))⟩⟩
   · cases h
 | .auga Cs o f e,Γ,X,E,k,x,G,h=>by
   unfold chkS at h
   split at h
   · rw [Ωa,Ωa,Ωa,Ωa,Ωa] at h
     obtain ⟨⟨⟨⟨⟨h0,h1⟩,h2⟩,h3⟩,h5⟩,h6⟩:=h
     have eo:=of_decide_eq_true h0
     have en:=of_decide_eq_true h1
     subst eo
     subst en
     exact (ps_fldaug (ev_ok o G.toGd h2) (ev_ok e G.toGd h3) in_add).imp fun D σ H ⟨ρ,h,μ,rh,rs,f⟩=>⟨ρ,h,μ,rh,rs,FinS.bind f fun d h1 x H1 μ1 _ g1 rh1 rd f1=>aug_rd G.toGd h5 (of_decide_eq_true h6) rh1 (rs.mono rh g1) rd f1⟩
   · cases h
theorem sts_ok{T:Tb}{Y:Yx}:∀ (s:Sxs) {Γ:Gm}{X:Cx}{E:XK}{k:Nat}{x:List Stmt},GdS T Γ X Y E k→chkSs Γ s x=true→PSs X x (semSs T Y E s)
 | .nil,Γ,X,E,k,x,G,h=>by
   unfold chkSs at h
   cases x with
   | nil=>exact pss_nil.imp fun D σ H ⟨ρ,h,μ,rh,rs,f⟩=>FinS.nx f rh rs
   | cons a b=>cases h
 | .cons s r,Γ,X,E,k,x,G,h=>by
   unfold chkSs at h
   split at h
   · rw [Ωa] at h
     refine (pss_cons (st_ok s G h.1) (sts_ok r G h.2)).imp fun D σ H ⟨ρ,h,μ,rh,rs,f⟩=>⟨ρ,h,μ,rh,rs,FinS.part f fun p h1 H1 μ1 _ g1 rh1 f1=>?_⟩
     obtain ⟨fl,ρ1⟩:=p
     cases fl with
     | nx=>exact fun σ' rs'=>⟨ρ1,h1,μ1,rh1,rs',f1⟩
     | bk=>exact fun σ' rs'=>f1 H1 μ1 Gr.refl rh1 σ' rs'
     | ct=>exact fun σ' rs'=>f1 H1 μ1 Gr.refl rh1 σ' rs'
     | rt d=>exact fun v rv=>f1 H1 μ1 Gr.refl rh1 v rv
   · cases h
end
end IV
end
section
set_option tactic.hygienic false
namespace IV
open PySem PySem.Spec PyProof.Rows L2
structure BodyOk(K:PySem.W.Frag)(kl:Kl)(fs:List Str)(x q:Str)(fd:Fd)(st:Stmt)(f:Addr)(fdd:FuncData):Prop where
 fn:Fun K x q st f fdd
 sc:FnScope fd.N fd.ps (defScope st)
 hb:∀ (kV doc pm:Value) (an:Option Addr) (cdv ct:Value) (us:List Value),us.length=fd.ps.length→bindArgs (PySem.W.fnOf x q (defArgs st) (defBody st) (defScope st) .none kV doc pm an cdv ct) ⟨us,[]⟩=pure (fd.ps.zip us)
 ck:chkSs ⟨fd.N,defScope st,fs,true,kl⟩ fd.body (defBody st)=true
structure DefOk(K:PySem.W.Frag)(mg:Str→Option Value)(kl:Kl)(fs:List Str)(x:Str)(fd:Fd)(st:Stmt)(f:Addr)(fdd:FuncData):Prop where
 bd:BodyOk K kl fs x x fd st f fdd
 mg:mg x=some (.ref f)
structure Md(Pr:Program)(w:World)(K:PySem.W.Frag)(mg:Str→Option Value)(P:Pg)(kl:Kl):Prop where
 bare:tupsBare K=true
 gd:∀ x kvs,P.GD x=some kvs→∃ a kvs',mg x=some (.ref a)∧DkK Pr w K a kvs'∧∀ H μ,RKs ⟨K,mg⟩ H μ kvs kvs'
 g:∀ x d,P.G x=some d→∃ v u,mg x=some u∧RelV v u∧∀ H μ,RD ⟨K,mg⟩ H μ d v
 blt:∀ x∈(["len", "isinstance", "int", "tuple", "list", "sum", "all", "sorted", "range", "enumerate", "reversed", "str", "bool", "max"]:List Str),mg x=none
 defs:∀ x fd,P.tb.lookup x=some fd→∃ st f fdd,DefOk K mg kl (P.tb.map (·.1)) x fd st f fdd
 cls:∀ C∈kl.cs,∃ a,mg C=some (.ref a)∧Cls K a∧∀ f∈kl.ats,NoAttr K a f
 mts:∀ p∈kl.ms,∃ a f fdd fd st q,mg p.1=some (.ref a)∧Cls K a∧Meth K a p.2 f∧P.look (mnm p.1 p.2)=some fd∧BodyOk K kl (P.tb.map (·.1)) p.2 q fd st f fdd
 mks:∀ C∈kl.is,∃ a f fdd fd st q,mg C=some (.ref a)∧Mk K a f∧P.look (mnm C (Ω "__init__"))=some fd∧BodyOk K kl (P.tb.map (·.1)) (Ω "__init__") q fd st f fdd
theorem start_rs{Y:Yx}{H:Hp}{μ:List Addr}{N:List Str}{ds:List D}{vs:List V}(r:RDs Y H μ ds vs):RS Y H μ (startD N ds) (L2.start N vs):=by
 refine ⟨by simp [startD,L2.start,r.length],fun i d e=>?_⟩
 unfold startD at e
 unfold L2.start
 by_cases hi:i<ds.length
 · rw [Ωe (by simpa using hi),Ωn] at e
   rw [Ωe (by simpa [← r.length] using hi),Ωn]
   obtain ⟨d',e1,e2⟩:=Ωo.mp e
   cases e2
   obtain ⟨v,h1,h2⟩:=r.get e1
   exact ⟨v,by rw [h1];rfl,h2⟩
 · rw [Ωm (by simpa using hi)] at e
   have:=Ωk e
   rw [List.mem_replicate] at this
   cases this.2
theorem ret_fin{Y:Yx}{H:Hp}{μ:List Addr}{r:R (Fl×Ev)}{Q:VK}{E:XK}(f:Fin Y (RD Y) H μ (retOf r) Q E):FinS Y H μ r {nx:=fun _ H'=>Q .non H',rt:=Q} E0:=by
 cases r with
 | bad=>exact f.elim
 | exc c h=>exact f.elim
 | ok p h =>
   obtain ⟨fl,ρ⟩:=p
   cases fl with
   | nx=>exact fun H' μ' g rh σ' _=>f .non H' μ' g rh .non
   | bk=>exact f.elim
   | ct=>exact f.elim
   | rt d=>exact fun H' μ' g rh v rv=>f v H' μ' g rh rv
section
variable {Pr:Program}{w:World}{K:PySem.W.Frag}{mg:Str→Option Value}{base:Heap}{P:Pg}{kl:Kl}
theorem look_tb{x:Str}{fd:Fd}(h:P.tb.lookup x=some fd):P.look x=some fd:=by unfold Pg.look;rw [h]
theorem sp_len{n:Nat}{x:Str}{fd:Fd}(hl:P.look x=some fd){vs:List V}{H:Hp}{Q:VK}{E:XK}(h:spOf (P.tbl n) ⟨K,mg⟩ x vs H Q E):vs.length=fd.ps.length:=by
 obtain ⟨ds,h,μ,rh,rs,f⟩:=h
 cases n with
 | zero=>exact f.elim
 | succ n =>
   have f:Fin ⟨K,mg⟩ (RD ⟨K,mg⟩) H μ (run P (n+1) x ds h) Q E:=f
   rw [run,hl] at f
   obtain ⟨hz,_⟩:=f.iff
   rw [← rs.length];exact hz
structure Lev(Pr:Program)(w:World)(K:PySem.W.Frag)(mg:Str→Option Value)(base:Heap)(P:Pg)(kl:Kl)(n:Nat):Prop where
 defs:∀ y∈P.tb.map (·.1),∃ ps,Def Pr w K mg base (2 * n+61) y ps (spOf (P.tbl n) ⟨K,mg⟩ y)
 mts:∀ p∈kl.ms,∃ a f fd ps,mg p.1=some (.ref a)∧Cls K a∧Meth K a p.2 f∧FnOk Pr w K mg base (CXF Pr w) (2 * n+61) f fd ps (spOf (P.tbl n) ⟨K,mg⟩ (mnm p.1 p.2))∧Binds K fd ps []
 mks:∀ C∈kl.is,∃ a f fd ps,mg C=some (.ref a)∧Mk K a f∧FnOk Pr w K mg base (CXF Pr w) (2 * n+61) f fd ps (spOf (P.tbl n) ⟨K,mg⟩ (mnm C (Ω "__init__")))∧Binds K fd ps []
theorem def_fn(M:Md Pr w K mg P kl){x nm q:Str}{fd:Fd}{st:Stmt}{f:Addr}{fdd:FuncData}(hl:P.look x=some fd)(o:BodyOk K kl (P.tb.map (·.1)) nm q fd st f fdd) :
   ∀ n,Lev Pr w K mg base P kl n→FnOk Pr w K mg base (CXF Pr w) (2 * (n+1)+61) f fdd fd.ps (spOf (P.tbl (n+1)) ⟨K,mg⟩ x):=by
 intro n ih
 obtain ⟨oc,od,kV,doc,pm,an,cdv,ct,osl,rfl,lk,hcd⟩:=o.fn.ex
 have S:=o.sc
 rw [show 2 * (n+1)+61=(2 * n+61+1)+1 by omega]
 refine fn_of lk hcd S (fun vs H Q E h=>sp_len hl h) fun A outer s H vs Q E hr hsp=>?_
 refine body_nox (t:=semSs (P.tbl n) ⟨K,mg⟩ E0 fd.body) (sts_ok fd.body (k:=2 * n+61) (Γ:=⟨fd.N,defScope st,P.tb.map (·.1),true,kl⟩) ⟨⟨⟨rfl,rfl,M.gd,M.g,M.bare⟩,rfl,fun _=>rfl,fun y hy=>?_,fun y hy=>hy,S.nd,rfl,hr.mono (by omega),by omega,pass_none,ih.defs,M.blt,hr,M.cls,ih.mts,ih.mks⟩,rfl,fun _=>rfl,PassesOwn.never,?_⟩ o.ck) ?_
 · unfold visb at hy
   rw [Bool.or_eq_true,Bool.or_eq_true] at hy
   rcases hy with (hy|hy)|hy
   · exact .inl (of_decide_eq_true hy)
   · exact .inr (.inl (of_decide_eq_true hy))
   · exact .inr (.inr (of_decide_eq_true hy))
 · show (if (defScope st).kind.isAnnotationScope then ScopeKind.function else (defScope st).kind)=.function
   rw [S.kind];rfl
 · obtain ⟨ds,h,μ,rh,rs,f⟩:=hsp
   have f:Fin ⟨K,mg⟩ (RD ⟨K,mg⟩) H μ (run P (n+1) x ds h) Q E:=f
   rw [run,hl] at f
   obtain ⟨hz,f⟩:=f.iff
   exact ⟨startD fd.N ds,h,μ,rh,start_rs rs,ret_fin f⟩
theorem mem_lookup{α:Type}{l:List (Str×α)}{x:Str}(h:x∈l.map (·.1)):∃ a,l.lookup x=some a:=by
 induction l with
 | nil=>simp at h
 | cons p r ih =>
   rw [ΩF]
   by_cases e:x=p.1
   · have:(x==p.1)=true:=by simpa using e
     rw [this];exact ⟨_,rfl⟩
   · have:(x==p.1)=false:=by simpa using e
     rw [this]
     exact ih (by simpa [e] using h)
theorem fn_zero{x:Str}{fd:Fd}{f:Addr}{fdd:FuncData}(hl:P.look x=some fd):FnOk Pr w K mg base (CXF Pr w) (2 * 0+61) f fdd fd.ps (spOf (P.tbl 0) ⟨K,mg⟩ x) :=
 ⟨fun vs H Q E h=>sp_len hl h,fun A outer s H args us vs Q E _ _ _ _ h=>by obtain ⟨ds,h,μ,rh,rs,f⟩:=h;exact f.elim⟩
theorem all_defs(M:Md Pr w K mg P kl):∀ n,Lev Pr w K mg base P kl n:=by
 intro n
 induction n with
 | zero =>
   refine ⟨fun y hy=>?_,fun p hp=>?_,fun C hC=>?_⟩
   · obtain ⟨fd,hl⟩:=mem_lookup hy
     obtain ⟨st,f,fdd,o⟩:=M.defs y fd hl
     exact ⟨fd.ps,f,fdd,o.mg,o.bd.fn.kp,o.bd.fn.binds o.bd.hb,fn_zero (look_tb hl)⟩
   · obtain ⟨a,f,fdd,fd,st,q,m,c,me,hl,o⟩:=M.mts p hp
     exact ⟨a,f,fdd,fd.ps,m,c,me,fn_zero hl,o.fn.binds o.hb⟩
   · obtain ⟨a,f,fdd,fd,st,q,m,me,hl,o⟩:=M.mks C hC
     exact ⟨a,f,fdd,fd.ps,m,me,fn_zero hl,o.fn.binds o.hb⟩
 | succ n ih =>
   refine ⟨fun y hy=>?_,fun p hp=>?_,fun C hC=>?_⟩
   · obtain ⟨fd,hl⟩:=mem_lookup hy
     obtain ⟨st,f,fdd,o⟩:=M.defs y fd hl
     exact ⟨fd.ps,f,fdd,o.mg,o.bd.fn.kp,o.bd.fn.binds o.bd.hb,def_fn M (look_tb hl) o.bd n ih⟩
   · obtain ⟨a,f,fdd,fd,st,q,m,c,me,hl,o⟩:=M.mts p hp
     exact ⟨a,f,fdd,fd.ps,m,c,me,def_fn M hl o n ih,o.fn.binds o.hb⟩
   · obtain ⟨a,f,fdd,fd,st,q,m,me,hl,o⟩:=M.mks C hC
     exact ⟨a,f,fdd,fd.ps,m,me,def_fn M hl o n ih,o.fn.binds o.hb⟩
theorem law_fn(M:Md Pr w K mg P kl){x:Str}{a:Str}{fd:Fd}{fa:Addr}(n:Nat)(hl:P.tb.lookup x=some fd)(hps:fd.ps=[a])(hm:mg x=some (.ref fa)) :
   ∃ fdd:FuncData,(∀ (s:Shared) (v:Value),BindsTo s fdd ⟨[v],[]⟩ [(a,v)])∧∀ base:Heap,FnOk Pr w K mg base (CXF Pr w) (2 * (n+1)+61) fa fdd [a] (spOf (P.tbl (n+1)) ⟨K,mg⟩ x):=by
 obtain ⟨st,f,fdd,o⟩:=M.defs x fd hl
 have e:=hm.symm.trans o.mg
 cases e
 refine ⟨fdd,fun s v=>?_,fun base=>hps ▸ def_fn M (look_tb hl) o.bd n (all_defs M n)⟩
 obtain ⟨oc,od,kV,doc,pm,an,cdv,ct,osl,rfl,lk,hcd⟩:=o.bd.fn.ex
 have:=o.bd.hb kV doc pm an cdv ct [v] (by rw [hps];rfl)
 rw [hps] at this
 exact BindsTo.of_eq this
end
theorem us_0{α:Type}{us:List α}(h:us.length=0):us=[]:=List.length_eq_zero_iff.mp h
theorem us_s{α:Type}{us:List α}{n:Nat}(h:us.length=n+1):∃ a r,us=a::r∧r.length=n:=by
 cases us with
 | nil=>cases h
 | cons a r=>exact ⟨a,r,rfl,Nat.succ.inj h⟩
theorem us_1{α:Type}{us:List α}(h:us.length=1):∃ a0,us=[a0]:=by
 obtain ⟨a0,r,rfl,h2⟩:=us_s h
 exact ⟨a0,by rw [us_0 h2]⟩
theorem us_2{α:Type}{us:List α}(h:us.length=2):∃ a0 a1,us=[a0,a1]:=by
 obtain ⟨a0,r,rfl,h2⟩:=us_s h
 obtain ⟨a1,rfl⟩:=us_1 h2
 exact ⟨a0,a1,rfl⟩
theorem us_3{α:Type}{us:List α}(h:us.length=3):∃ a0 a1 a2,us=[a0,a1,a2]:=by
 obtain ⟨a0,r,rfl,h2⟩:=us_s h
 obtain ⟨a1,a2,rfl⟩:=us_2 h2
 exact ⟨a0,a1,a2,rfl⟩
theorem us_4{α:Type}{us:List α}(h:us.length=4):∃ a0 a1 a2 a3,us=[a0,a1,a2,a3]:=by
 obtain ⟨a0,r,rfl,h2⟩:=us_s h
 obtain ⟨a1,a2,a3,rfl⟩:=us_3 h2
 exact ⟨a0,a1,a2,a3,rfl⟩
theorem us_5{α:Type}{us:List α}(h:us.length=5):∃ a0 a1 a2 a3 a4,us=[a0,a1,a2,a3,a4]:=by
 obtain ⟨a0,r,rfl,h2⟩:=us_s h
 obtain ⟨a1,a2,a3,a4,rfl⟩:=us_4 h2
 exact ⟨a0,a1,a2,a3,a4,rfl⟩
theorem us_6{α:Type}{us:List α}(h:us.length=6):∃ a0 a1 a2 a3 a4 a5,us=[a0,a1,a2,a3,a4,a5]:=by
 obtain ⟨a0,r,rfl,h2⟩:=us_s h
 obtain ⟨a1,a2,a3,a4,a5,rfl⟩:=us_5 h2
 exact ⟨a0,a1,a2,a3,a4,a5,rfl⟩
end IV
end
section
namespace IV
open PySem PySem.Spec PyProof.Rows L2
noncomputable def All{α:Type}(p:α→Prop):List α→Prop
 | []=>True
 | a::l=>p a∧All p l
theorem All.mem{α:Type}{p:α→Prop}:∀ {l:List α},All p l→∀ a∈l,p a
 | [],_,a,h=>by simp at h
 | b::l,⟨h1,h2⟩,a,h=>by
   rcases Ωr.mp h with rfl|h
   · exact h1
   · exact All.mem h2 a h
theorem lookup_mem{α:Type}{l:List (Str×α)}{x:Str}{a:α}(h:l.lookup x=some a):(x,a)∈l:=by
 induction l with
 | nil=>cases h
 | cons p r ih =>
   rw [ΩF] at h
   by_cases e:x=p.1
   · have:(x==p.1)=true:=by simpa using e
     rw [this] at h
     cases h
     subst e
     exact Ωi
   · have:(x==p.1)=false:=by simpa using e
     rw [this] at h
     exact Ωh _ (ih h)
noncomputable def spL(K:PySem.W.Frag):Sp:=fun vs H Q _=>∃ (a:Addr) (ns:List Int),vs=[.ref a]∧SqL K H a (ns.map V.int)∧ns.length≤63∧Only H∧∀ H',Q (.bl true) H'
theorem ints_rd{Y:Yx}{H:Hp}{μ:List Addr}:∀ ns:List Int,RDs Y H μ (ns.map D.int) (ns.map V.int)
 | []=>.nil
 | n::r=>.cons (.int n) (ints_rd r)
theorem walkR {l:PySem.W.OpenLaw}{q:Program}{loose:List Str}{XP:(Str→Option Value)→Heap→Prop}{YP:World→Heap→Prop}{d:DefRec}{K:Params→PySem.W.Frag}{P:Pg}{kl:Kl}{fd:Fd} (n:Nat) (hn:l.most=some 63) (hdf:d.params.defaults=[]) (hd:d.name=Ω "law") (hr:Room (2 * (n+1)+61) callerA)
   (hY:∀ (w:World) (h:Heap),YP w h→(K w.params).In h) (hl:P.tb.lookup (Ω "law")=some fd) (hps:fd.ps=[Ω "_law_script"])
   (hrun:∀ ns:List Int,ns.length≤63→∃ h',run P (n+1) (Ω "law") [.ro (ns.map .int)] []=.ok (.bl true) h')
   (M:∀ (w:World) (mg:Str→Option Value) (h:Heap),(K w.params).In h→h.Ns mainGlobals mg→Md l.prog w (K w.params) mg P kl) :
   PySem.W.WalkO q loose XP YP l.row.toRowW d [] (fun f vs=>PySem.call f vs):=by
 refine L2.walk_of (n:=63) (k:=2 * (n+1)+61) (x := "_law_script") (CX:=fun w=>CXF l.prog w) (sp:=fun w=>spL (K w.params)) hn (by decide) hdf hr hY (fun w mg fa h KX G hmg=>?_) (fun _ _ a ns hl hO hS=>⟨a,ns,rfl,hS,hl,hO,fun _=>rfl⟩) fun _ _ _ _ _ z=>by obtain ⟨_,_,_,_,_,_,_,_,_,_,_,_,_,z⟩:=z;exact z
 rw [hd] at hmg
 obtain ⟨fdd,hb,F⟩:=law_fn (M w mg h KX G) n hl hps hmg
 refine ⟨fdd,hb,fun base _ _=>(F base).imp fun vs H Q E hsp=>?_⟩
 obtain ⟨a,ns,rfl,hS,hz,hO,hq⟩:=hsp
 obtain ⟨h',e⟩:=hrun ns hz
 refine ⟨[.ro (ns.map .int)],[],[],⟨rfl,.nil,fun i o a e=>by simp at e,fun i o e=>by simp at e⟩,.cons (.ro ?_ (ints_rd ns)) .nil,?_⟩
 · rcases hS with hS|hS
   · rcases hS with hS|hS
     · rcases hO a with z|⟨o,xs,z⟩<;>(rw [z] at hS;cases hS)
     · exact .inl hS
   · exact .inr hS
 · show Fin _ _ H [] (run P (n+1) (Ω "law") [.ro (ns.map .int)] []) Q E
   rw [e]
   exact fun b H' μ' _ _ r=>by cases r;exact hq H'
theorem sqT_K {K:PySem.W.Frag}{H:Hp}{a:Addr}{od:Option Addr}{its:Array Value}{n:Nat}{sl:Array (Option Value)}{vs:List V} (h:K.lookup a=some ⟨.type "tuple",od,.seq its n,sl⟩) (hz:its.size≤sizeLine) (r:Vals vs its.toList):SqT K H a vs :=
 .inr ⟨_,its,n,h,rfl,rfl,hz,r⟩
end IV
end
section
namespace IV
open PySem L2 PyProof.Rows
structure Chk(kl:Kl)(fs:List Str)(x q:Str)(fd:Fd)(st:Stmt):Prop where
 sc:FnScope fd.N fd.ps (defScope st)
 hb:∀ (kV doc pm:Value) (an:Option Addr) (cdv ct:Value) (us:List Value),us.length=fd.ps.length→bindArgs (PySem.W.fnOf x q (defArgs st) (defBody st) (defScope st) .none kV doc pm an cdv ct) ⟨us,[]⟩=pure (fd.ps.zip us)
 ck:chkSs ⟨fd.N,defScope st,fs,true,kl⟩ fd.body (defBody st)=true
variable {K:PySem.W.Frag}{h:Heap}{mg:Str→Option Value}{kl:Kl}{fs:List Str}{x q C:Str}{fd:Fd}{st:Stmt}{ca:Addr}{P:Pg}
theorem Chk.bd(c:Chk kl fs x q fd st){f:Addr}{fdd:FuncData}(F:Fun K x q st f fdd):BodyOk K kl fs x q fd st f fdd:=⟨F,c.sc,c.hb,c.ck⟩
noncomputable def DefG(K:PySem.W.Frag)(x:Str)(st:Stmt):Prop:=∃ f fdd,PySem.W.nsIn K mainGlobals x=some (some (.ref f))∧Fun K x x st f fdd
noncomputable def MetG(K:PySem.W.Frag)(ca:Addr)(x q:Str)(st:Stmt):Prop:=∃ f fdd,PySem.W.findIn K (.ref ca) x=some (some (.ref f))∧PySem.W.isFn K (.ref f)=true∧PySem.W.keepIn K (.ref f)=true∧Fun K x q st f fdd
theorem defg_of(X:K.In h)(G:h.Ns mainGlobals mg)(d:DefG K x st)(c:Chk kl fs x x fd st):∃ st f fdd,DefOk K mg kl fs x fd st f fdd:=by
 obtain ⟨f,fdd,a,F⟩:=d
 exact ⟨st,f,fdd,c.bd F,PySem.W.mg_of X G a⟩
theorem metg_of(X:K.In h)(G:h.Ns mainGlobals mg)(y:PySem.W.nsIn K mainGlobals C=some (some (.ref ca)))(cl:Cls K ca)(d:MetG K ca x q st)(c:Chk kl (P.tb.map (·.1)) x q fd st)(e:P.look (mnm C x)=some fd):∃ a f fdd fd st q,mg C=some (.ref a)∧Cls K a∧Meth K a x f∧P.look (mnm C x)=some fd∧BodyOk K kl (P.tb.map (·.1)) x q fd st f fdd:=by
 obtain ⟨f,fdd,u1,u2,u3,F⟩:=d
 exact ⟨ca,f,fdd,fd,st,q,PySem.W.mg_of X G y,cl,⟨u1,u2,u3⟩,e,c.bd F⟩
theorem mkg_of (X:K.In h) (G:h.Ns mainGlobals mg) (y:PySem.W.nsIn K mainGlobals C=some (some (.ref ca))) (m:PySem.W.makesIn K ca=true) (k:PySem.W.keepIn K (.ref ca)=true) (d:MetG K ca (Ω "__init__") q st) (c:Chk kl (P.tb.map (·.1)) (Ω "__init__") q fd st) (e:P.look (mnm C (Ω "__init__"))=some fd):∃ a f fdd fd st q,mg C=some (.ref a)∧Mk K a f∧P.look (mnm C (Ω "__init__"))=some fd∧BodyOk K kl (P.tb.map (·.1)) (Ω "__init__") q fd st f fdd:=by
 obtain ⟨f,fdd,u1,u2,u3,F⟩:=d
 exact ⟨ca,f,fdd,fd,st,q,PySem.W.mg_of X G y,⟨m,u1,u2,k⟩,e,c.bd F⟩
end IV
end
section
set_option tactic.hygienic false
namespace IV
open PySem L2
theorem ofString_inj{a b:String}(h:Str.ofString a=Str.ofString b):a=b:=by
 have e:∀ s:String,(Str.ofString s).cps.toList=s.toList.map Char.toNat:=fun s=>by
   show (cpsOfBytes 0 0 s.toByteArray.data.toList).toArray.toList=_
   rw [cpsOfBytes_string]
 have h1:=congrArg (fun s:Str=>s.cps.toList) h
 simp only [e] at h1
 have h2:a.toList=b.toList:=by
   have inj:∀ {x y:Char},x.toNat=y.toNat→x=y:=fun {x y} q=>by
     have:x.val=y.val:=UInt32.toNat_inj.mp q
     exact Char.ext this
   exact (List.map_inj_right fun x y q=>inj q).mp h1
 exact String.toList_inj.mp h2
@[simp] theorem ofString_eq(a b:String):(Str.ofString a=Str.ofString b)↔a=b:=⟨ofString_inj,fun h=>h ▸ rfl⟩
@[simp] theorem ofString_beq(a b:String):(Str.ofString a==Str.ofString b)=(a==b):=by
 rw [Bool.eq_iff_iff]
 simp
noncomputable def Un{γ:Type}(k:γ):Type:=Unit
noncomputable def un{γ:Type}{k:γ}:Un k:=()
noncomputable def R.bnd{α β:Type}(r:R α)(k:α→Hd→R β)(u:Un k:=un):R β:=r.bind k
@[simp] theorem bnd_ok{α β:Type}{a:α}{h:Hd}{k:α→Hd→R β}{u:Un k}:R.bnd (.ok a h) k u=k a h:=rfl
@[simp] theorem bnd_bad{α β:Type}{k:α→Hd→R β}{u:Un k}:R.bnd (R.bad:R α) k u=.bad:=rfl
section
variable {T:Tb}{ρ:Ev}{h:Hd}
@[simp] theorem bind_ok{α β:Type}{a:α}{h:Hd}{k:α→Hd→R β}:(R.ok a h).bind k=k a h:=rfl
@[simp] theorem bind_bad{α β:Type}{k:α→Hd→R β}:(R.bad:R α).bind k=.bad:=rfl
@[simp] theorem ofO_some{α:Type}{a:α}{h:Hd}:R.ofO (some a) h=.ok a h:=rfl
@[simp] theorem plainR_ok{α:Type}{a:α}{h:Hd}:(R.ok a h).plain=.ok a h:=rfl
@[simp] theorem ev_var{i}:ev T (.var i) ρ h=R.ofO (ρ[i]?).join h:=rfl
@[simp] theorem ev_cst{d}:ev T (.cst d) ρ h=.ok d h:=rfl
@[simp] theorem ev_glo{x}:ev T (.glo x) ρ h=R.ofO (T.G x) h:=rfl
@[simp] theorem ev_bin{op a b}:ev T (.bin op a b) ρ h=(ev T a ρ h).bnd fun x h1=>(ev T b ρ h1).bnd fun y h2=>opB op x y h2:=rfl
@[simp] theorem ev_cmp{op a b}:ev T (.cmp op a b) ρ h=(ev T a ρ h).bnd fun x h1=>(ev T b ρ h1).bnd fun y h2=>opC T.GD op x y h2:=rfl
@[simp] theorem ev_neg{a}:ev T (.neg a) ρ h=(ev T a ρ h).bnd fun x h1=>match x with
   | .int i=>.ok (.int (-i)) h1
   | _=>.bad:=rfl
@[simp] theorem ev_nt{a}:ev T (.nt a) ρ h=(ev T a ρ h).bnd fun x h1=>match x with
   | .bl b=>.ok (.bl (!b)) h1
   | _=>.bad:=rfl
@[simp] theorem ev_ands{es}:ev T (.ands es) ρ h=evAnd T es ρ h:=rfl
@[simp] theorem ev_ors{es}:ev T (.ors es) ρ h=evOr T es ρ h:=rfl
@[simp] theorem evAnd_one{e}:evAnd T (.cons e .nil) ρ h=ev T e ρ h:=rfl
@[simp] theorem evAnd_two{e e' r}:evAnd T (.cons e (.cons e' r)) ρ h=(ev T e ρ h).bnd fun x h1=>match x with
     | .bl true=>evAnd T (.cons e' r) ρ h1
     | .bl false=>.ok (.bl false) h1
     | _=>.bad:=rfl
@[simp] theorem evOr_one{e}:evOr T (.cons e .nil) ρ h=ev T e ρ h:=rfl
@[simp] theorem evOr_two{e e' r}:evOr T (.cons e (.cons e' r)) ρ h=(ev T e ρ h).bnd fun x h1=>match x with
     | .bl true=>.ok (.bl true) h1
     | .bl false=>evOr T (.cons e' r) ρ h1
     | _=>.bad:=rfl
@[simp] theorem ev_ite{c a b}:ev T (.ite c a b) ρ h=(tst T c ρ h).bnd fun c h1=>if c then ev T a ρ h1 else ev T b ρ h1:=rfl
@[simp] theorem ev_tupl{es}:ev T (.tupl es) ρ h=(evs T es ρ h).bnd fun xs h1=>if xs.length≤sizeLine then .ok (.tup xs) h1 else .bad:=rfl
@[simp] theorem ev_lstl{es}:ev T (.lstl es) ρ h=(evs T es ρ h).bnd fun xs h1=>if xs.length≤sizeLine then newO (.lst xs) h1 else .bad:=rfl
@[simp] theorem ev_ix{a i}:ev T (.ix a i) ρ h=(ev T a ρ h).bnd fun x h1=>(ev T i ρ h1).bnd fun y h2=>opIx T.GD x y h2:=rfl
@[simp] theorem ev_sl{a lo hi}:ev T (.sl a lo hi) ρ h=(ev T a ρ h).bnd fun x h1=>(evo T lo ρ h1).bnd fun l h2=>(evo T hi ρ h2).bnd fun u h3=>opSl x l u h3:=rfl
@[simp] theorem ev_blt{f es}:ev T (.blt f es) ρ h=(evs T es ρ h).bnd fun xs h1=>bltD T.GD f xs h1:=rfl
@[simp] theorem ev_call{f es}:ev T (.call f es) ρ h=(evs T es ρ h).bnd fun xs h1=>T.C f xs h1:=rfl
@[simp] theorem ev_meth{m o es}:ev T (.meth m o es) ρ h=(ev T o ρ h).bnd fun x h1=>if isLst x h1 then (evs T es ρ h1).bnd fun xs h2=>methD m x xs h2 else .bad:=rfl
@[simp] theorem ev_comp{NC js it g c e}:ev T (.comp NC js it g c e) ρ h=(evi T it ρ h).bnd fun w h1=>(compL w.src g (tsto T c) (ev T e) w.xs (captD js ρ) [] h1).bnd fun xs h2=>newO (.lst xs) h2:=rfl
@[simp] theorem ev_maxd{e d}:ev T (.maxd e d) ρ h=(ev T e ρ h).bnd fun x h1=>(ev T d ρ h1).bnd fun y h2=>bMaxd x y h2:=rfl
@[simp] theorem ev_dictl{ps}:ev T (.dictl ps) ρ h=(evs T ps ρ h).bnd fun xs h1=>match pairsD xs with
   | some kvs=>if kvs.length≤15 then newO (.dic (mergeD [] kvs)) h1 else .bad
   | none=>.bad:=rfl
@[simp] theorem ev_att{Cs o f}:ev T (.att Cs o f) ρ h=(ev T o ρ h).bnd fun x h1=>getA Cs f x h1:=rfl
@[simp] theorem ev_mk{C es}:ev T (.mk C es) ρ h=(evs T es ρ h).bnd fun xs h1=>newI T.C C xs h1:=rfl
@[simp] theorem ev_mcl{C m o es}:ev T (.mcl C m o es) ρ h=(ev T o ρ h).bnd fun x h1=>match insOf x h1 with
   | some (C',fs)=>if C'=C∧fs.lookup m=none then (evs T es ρ h1).bnd fun xs h2=>T.C (mnm C m) (x::xs) h2 else .bad
   | none=>.bad:=rfl
@[simp] theorem ev_trev{e}:ev T (.trev e) ρ h=(ev T e ρ h).bnd fun x h1=>bTrev x h1:=rfl
@[simp] theorem ev_tix{o e}:ev T (.tix o e) ρ h=(ev T o ρ h).bnd fun x h1=>if isTp x then (ev T e ρ h1).bnd fun y h2=>bTix x y h2 else .bad:=rfl
@[simp] theorem xs1_seta{Cs o f e}:xs1 T (.seta Cs o f e) ρ h=(ev T e ρ h).bnd fun d h1=>(ev T o ρ h1).bnd fun x h2=>(setA Cs f x d h2).bnd fun _ h3=>.ok (.nx,ρ) h3:=rfl
@[simp] theorem xs1_auga{Cs o f e}:xs1 T (.auga Cs o f e) ρ h=(ev T o ρ h).bnd fun x h1=>(getA Cs f x h1).bnd fun v h2=>(ev T e ρ h2).bnd fun y h3=>match v,y with
   | .int a,.int b=>if (insOf x h1).map (·.1)=(insOf x h3).map (·.1) then (setA Cs f x (.int (a+b)) h3).bnd fun _ h4=>.ok (.nx,ρ) h4 else .bad
   | _,_=>.bad:=rfl
@[simp] theorem evs_nil:evs T .nil ρ h=.ok [] h:=rfl
@[simp] theorem evs_cons{e es}:evs T (.cons e es) ρ h=(ev T e ρ h).bnd fun x h1=>(evs T es ρ h1).bnd fun xs h2=>.ok (x::xs) h2:=rfl
@[simp] theorem evo_none:evo T none ρ h=.ok none h:=rfl
@[simp] theorem evo_some{e}:evo T (some e) ρ h=(ev T e ρ h).bnd fun x h1=>match x with
   | .int i=>.ok (some i) h1
   | _=>.bad:=rfl
@[simp] theorem tst_ex{e}:tst T (.ex e) ρ h=(ev T e ρ h).bnd fun x h1=>R.ofO (truD T.GD x h1) h1:=rfl
@[simp] theorem tst_ands{ts}:tst T (.ands ts) ρ h=tstAnd T ts ρ h:=rfl
@[simp] theorem tst_ors{ts}:tst T (.ors ts) ρ h=tstOr T ts ρ h:=rfl
@[simp] theorem tst_nt{a}:tst T (.nt a) ρ h=(tst T a ρ h).bnd fun c h1=>.ok (!c) h1:=rfl
@[simp] theorem tstAnd_one{t}:tstAnd T (.one t) ρ h=tst T t ρ h:=rfl
@[simp] theorem tstAnd_cons{t ts}:tstAnd T (.cons t ts) ρ h=(tst T t ρ h).bnd fun c h1=>if c then tstAnd T ts ρ h1 else .ok false h1:=rfl
@[simp] theorem tstOr_one{t}:tstOr T (.one t) ρ h=tst T t ρ h:=rfl
@[simp] theorem tstOr_cons{t ts}:tstOr T (.cons t ts) ρ h=(tst T t ρ h).bnd fun c h1=>if c then .ok true h1 else tstOr T ts ρ h1:=rfl
@[simp] theorem tsto_none:tsto T none ρ h=.ok true h:=rfl
@[simp] theorem tsto_some{t}:tsto T (some t) ρ h=tst T t ρ h:=rfl
@[simp] theorem evi_pl{e}:evi T (.pl e) ρ h=(ev T e ρ h).bnd fun x h1=>R.ofO (walkOf x h1) h1:=rfl
@[simp] theorem evi_rng{e}:evi T (.rng e) ρ h=(ev T e ρ h).bnd fun x h1=>match x with
   | .int j=>if small62 j then .ok ⟨none,upFrom 0 j.toNat⟩ h1 else .bad
   | _=>.bad:=rfl
@[simp] theorem evi_enu{e}:evi T (.enu e) ρ h=(ev T e ρ h).bnd fun x h1=>R.ofO ((walkL x h1).map fun w=>⟨w.src,enumD w.xs⟩) h1:=rfl
@[simp] theorem evi_rev{e}:evi T (.rev e) ρ h=(ev T e ρ h).bnd fun x h1=>R.ofO ((walkT x h1).map fun w=>⟨w.src,w.xs.reverse⟩) h1:=rfl
@[simp] theorem evi_en1{e}:evi T (.en1 e) ρ h=(ev T e ρ h).bnd fun x h1=>match x with
   | .tup xs=>.ok ⟨none,enumD1 xs⟩ h1
   | _=>.bad:=rfl
@[simp] theorem evi_dk{e}:evi T (.dk e) ρ h=(ev T e ρ h).bnd fun x h1=>frzD x h1:=rfl
@[simp] theorem xs1_ret{e}:xs1 T (.ret e) ρ h=(ev T e ρ h).bnd fun x h1=>.ok (.rt x,ρ) h1:=rfl
@[simp] theorem xs1_set{g e}:xs1 T (.set g e) ρ h=(ev T e ρ h).bnd fun x h1=>(R.ofO (bindT g x ρ) h1).bnd fun ρ1 h2=>.ok (.nx,ρ1) h2:=rfl
@[simp] theorem xs1_put{o i e}:xs1 T (.put o i e) ρ h=(ev T e ρ h).bnd fun x h1=>(ev T o ρ h1).bnd fun y h2=>(ev T i ρ h2).bnd fun z h3=>(putIx y z x h3).bnd fun _ h4=>.ok (.nx,ρ) h4:=rfl
@[simp] theorem xs1_drp{e}:xs1 T (.drp e) ρ h=(ev T e ρ h).bnd fun _ h1=>.ok (.nx,ρ) h1:=rfl
@[simp] theorem xs1_iff{c a b}:xs1 T (.iff c a b) ρ h=(tst T c ρ h).bnd fun t h1=>if t then xs2 T a ρ h1 else xs2 T b ρ h1:=rfl
@[simp] theorem xs1_whl{c b}:xs1 T (.whl c b) ρ h=whileL (tst T c) (xs2 T b) T.L ρ h:=rfl
@[simp] theorem xs1_forr{g it b}:xs1 T (.forr g it b) ρ h=(evi T it ρ h).bnd fun w h1=>forL w.src g (xs2 T b) w.xs ρ h1:=rfl
@[simp] theorem xs2_nil:xs2 T .nil ρ h=.ok (.nx,ρ) h:=rfl
@[simp] theorem xs2_cons{s r}:xs2 T (.cons s r) ρ h=(xs1 T s ρ h).bnd fun p h1=>match p with
   | (.nx,ρ1)=>xs2 T r ρ1 h1
   | p=>.ok p h1:=rfl
theorem xs2_nx{s:Sx}{r:Sxs}{ρ1:Ev}{h1:Hd}(e:xs1 T s ρ h=.ok (.nx,ρ1) h1):xs2 T (.cons s r) ρ h=xs2 T r ρ1 h1:=by rw [xs2_cons,e];rfl
theorem xs2_rt{s:Sx}{r:Sxs}{ρ1:Ev}{h1:Hd}{d:D}(e:xs1 T s ρ h=.ok (.rt d,ρ1) h1):xs2 T (.cons s r) ρ h=.ok (.rt d,ρ1) h1:=by rw [xs2_cons,e];rfl
@[simp] theorem bind_nm{i d}:bindT (.nm i) d ρ=some (ρ.set i (some d)):=rfl
@[simp] theorem bind_two{i j a b}:bindT (.two i j) (.tup [a,b]) ρ=some ((ρ.set i (some a)).set j (some b)):=rfl
@[simp] theorem ret_rt{d:D}:retOf (.ok (.rt d,ρ) h)=.ok d h:=rfl
@[simp] theorem ret_nx:retOf (.ok (.nx,ρ) h)=.ok .non h:=rfl
end
@[simp] theorem seqOf_tup{xs:List D}{h:Hd}:seqOf (.tup xs) h=some xs:=rfl
@[simp] theorem opI2_int{f:Int→Int→Bool}{i j:Int}{h:Hd}:opI2 f (.int i) (.int j) h=.ok (.bl (f i j)) h:=rfl
section
variable {GD:Str→Option (List (Key×D))}{h:Hd}
@[simp] theorem opC_eq{x y}:opC GD .Eq x y h=opEq false x y h:=rfl
@[simp] theorem opC_ne{x y}:opC GD .NotEq x y h=opEq true x y h:=rfl
@[simp] theorem opC_lt{i j}:opC GD .Lt (.int i) (.int j) h=.ok (.bl (decide (i<j))) h:=rfl
@[simp] theorem opC_le{i j}:opC GD .LtE (.int i) (.int j) h=.ok (.bl (decide (i≤j))) h:=rfl
@[simp] theorem opC_gt{i j}:opC GD .Gt (.int i) (.int j) h=.ok (.bl (decide (j<i))) h:=rfl
@[simp] theorem opC_ge{i j}:opC GD .GtE (.int i) (.int j) h=.ok (.bl (decide (j≤i))) h:=rfl
@[simp] theorem opC_is{x}:opC GD .Is x .non h=.ok (.bl (decide (x=.non))) h:=rfl
@[simp] theorem opC_isnt{x}:opC GD .IsNot x .non h=.ok (.bl (!decide (x=.non))) h:=rfl
@[simp] theorem opC_in_kd{s n}:opC GD .In (.str s) (.kd n) h=match GD n with
   | some kvs=>.ok (.bl (valD kvs (.inr s)).isSome) h
   | none=>.bad:=by
 show opIn' GD false (.str s) (.kd n) h=_
 unfold opIn'
 simp only [seqOf,lstOf,dicOf,keyOf]
 cases GD n<;>rfl
@[simp] theorem opC_notin_kd{s n}:opC GD .NotIn (.str s) (.kd n) h=match GD n with
   | some kvs=>.ok (.bl (!(valD kvs (.inr s)).isSome)) h
   | none=>.bad:=by
 show opIn' GD true (.str s) (.kd n) h=_
 unfold opIn'
 simp only [seqOf,lstOf,dicOf,keyOf]
 cases GD n<;>rfl
theorem words_flat(ss:List Str):(ss.map D.str).all D.flat=true:=by
 rw [ΩC]
 intro x hx
 obtain ⟨s,_,rfl⟩:=List.mem_map.mp hx
 rfl
theorem any_words(ss:List Str)(x:Str):((ss.map D.str).any fun z=>eqF z (.str x))=decide (x∈ss):=by
 induction ss with
 | nil=>rfl
 | cons s r ih =>
   rw [Ωp,List.any_cons,ih]
   show ((s==x) || decide (x∈r))=_
   by_cases e:s=x
   · subst e;simp
   · have:(s==x)=false:=by simpa using e
     rw [this]
     have e':¬ x=s:=fun q=>e q.symm
     simp [e']
theorem opC_in_words{ss:List Str}{x:Str}:opC GD .In (.str x) (.tup (ss.map .str)) h=.ok (.bl (decide (x∈ss))) h:=by
 show opIn' GD false (.str x) (.tup (ss.map .str)) h=_
 unfold opIn'
 rw [seqOf_tup]
 simp only [words_flat,any_words]
 rfl
theorem opC_notin_words{ss:List Str}{x:Str}:opC GD .NotIn (.str x) (.tup (ss.map .str)) h=.ok (.bl (!decide (x∈ss))) h:=by
 show opIn' GD true (.str x) (.tup (ss.map .str)) h=_
 unfold opIn'
 rw [seqOf_tup]
 simp only [words_flat,any_words]
 rfl
@[simp] theorem opIx_tup{xs i}:opIx GD (.tup xs) (.int i) h=R.ofO (atI xs i) h:=rfl
@[simp] theorem opIx_ro{xs i}:opIx GD (.ro xs) (.int i) h=R.ofO (atI xs i) h:=rfl
@[simp] theorem opIx_kd{n s}:opIx GD (.kd n) (.str s) h=match GD n with
   | some kvs=>R.ofO (valD kvs (.inr s)) h
   | none=>.bad:=rfl
theorem opIx_lst{i k xs}(e:h[i]? = some (.lst xs)):opIx GD (.ref i) (.int k) h=R.ofO (atI xs k) h:=by
 unfold opIx
 simp only [seqOf,lstOf,e]
@[simp] theorem atI_0{α:Type}{x:α}{l:List α}:atI (x::l) 0=some x:=by simp [atI,ixN]
theorem atI_nat{α:Type}{l:List α}{k:Nat}:atI l (k:Int)=l[k]? := by
 unfold atI ixN
 by_cases hk:k<l.length
 · simp [hk]
 · simp [hk]
@[simp] theorem atI_1{α:Type}{x y:α}{l:List α}:atI (x::y::l) 1=some y:=atI_nat (k:=1)
@[simp] theorem atI_2{α:Type}{x y z:α}{l:List α}:atI (x::y::z::l) 2=some z:=atI_nat (k:=2)
@[simp] theorem atI_3{α:Type}{x y z w:α}{l:List α}:atI (x::y::z::w::l) 3=some w:=atI_nat (k:=3)
theorem atI_last{α:Type}{l:List α}{x:α}:atI (l++[x]) (-1)=some x:=by
 unfold atI ixN
 rw [if_neg (by decide),if_pos (by simp;omega)]
 have:(-1+((l++[x]).length:Int)).toNat=l.length:=by simp;omega
 simp only [Option.bind_some,this]
 simp
@[simp] theorem opSl_tup{xs l u}:opSl (.tup xs) l u h=.ok (.tup (cutD xs l u)) h:=rfl
@[simp] theorem cut_from1{x:D}{l:List D}:cutD (x::l) (some 1) none=l:=by
 simp [cutD,HT.sIx]
@[simp] theorem truD_bl{b}:truD GD (.bl b) h=some b:=rfl
@[simp] theorem truD_int{i}:truD GD (.int i) h=some (i != 0):=rfl
@[simp] theorem truD_tup{xs}:truD GD (.tup xs) h=some (!xs.isEmpty):=rfl
@[simp] theorem truD_non:truD GD .non h=some false:=rfl
@[simp] theorem opB_add{i j}:opB .Add (.int i) (.int j) h=.ok (.int (i+j)) h:=rfl
@[simp] theorem opB_sub{i j}:opB .Sub (.int i) (.int j) h=.ok (.int (i - j)) h:=rfl
theorem opB_mod{i j:Int}(hj:0<j):opB .Mod (.int i) (.int j) h=.ok (.int (i % j)) h:=if_pos hj
theorem opB_div{i j:Int}(hj:0<j∧j<1073741824):opB .FloorDiv (.int i) (.int j) h=.ok (.int (i / j)) h:=if_pos hj
theorem opB_mul{i j:Int}(hj:i.natAbs<2 ^ 2000∧j.natAbs<2 ^ 2000):opB .Mult (.int i) (.int j) h=.ok (.int (i * j)) h:=if_pos hj
theorem opB_tup{xs ys:List D}(hl:xs.length+ys.length≤sizeLine):opB .Add (.tup xs) (.tup ys) h=.ok (.tup (xs++ys)) h:=if_pos hl
@[simp] theorem opEq_str{n:Bool}{x y:Str}:opEq n (.str x) (.str y) h=.ok (.bl (if n then !decide (x=y) else decide (x=y))) h:=by
 have e:PyData.eqv (.str x) (.str y)=decide (x=y):=by
   show (x==y)=_
   rw [Bool.beq_eq_decide_eq]
 have q:opEq n (.str x) (.str y) h=if min (PyData.str x).depth (PyData.str y).depth≤1100 then .ok (.bl (if n then !PyData.eqv (.str x) (.str y) else PyData.eqv (.str x) (.str y))) h else .bad:=rfl
 rw [q,if_pos (by simp [PyData.depth]),e]
@[simp] theorem opEq_int{n:Bool}{x y:Int}:opEq n (.int x) (.int y) h=.ok (.bl (if n then !decide (x=y) else decide (x=y))) h:=by
 have e:PyData.eqv (.int x) (.int y)=decide (x=y):=by
   show (x==y)=_
   rw [Bool.beq_eq_decide_eq]
 have q:opEq n (.int x) (.int y) h=if min (PyData.int x).depth (PyData.int y).depth≤1100 then .ok (.bl (if n then !PyData.eqv (.int x) (.int y) else PyData.eqv (.int x) (.int y))) h else .bad:=rfl
 rw [q,if_pos (by simp [PyData.depth]),e]
end
@[simp] theorem short_tup{xs:List D}(h:xs.length≤1000):xs.length≤sizeLine:=ΩE h (by decide)
theorem run_def{P:Pg}{n:Nat}{f:Str}{fd:Fd}{ds:List D}{h:Hd}(e:P.tb.lookup f=some fd)(hl:ds.length=fd.ps.length):run P (n+1) f ds h=retOf (xs2 ⟨P.G,P.GD,run P n,P.L⟩ fd.body (startD fd.N ds) h):=by
 rw [run,show P.look f=some fd by unfold Pg.look;rw [e]]
 simp only
 rw [if_pos hl]
theorem run_mt{P:Pg}{n:Nat}{f:Str}{fd:Fd}{ds:List D}{h:Hd}(hn:P.tb.lookup f=none)(e:P.ms.lookup f=some fd)(hl:ds.length=fd.ps.length):run P (n+1) f ds h=retOf (xs2 ⟨P.G,P.GD,run P n,P.L⟩ fd.body (startD fd.N ds) h):=by
 rw [run,show P.look f=some fd by unfold Pg.look;rw [hn];exact e]
 simp only
 rw [if_pos hl]
end IV
namespace IV
open PySem L2
section
variable {h:Hd}{x y z w:DO}{r:List DO}
@[simp] theorem at_0:(h++x::r)[h.length]? = some x:=by simp
@[simp] theorem at_1:(h++x::y::r)[h.length+1]? = some y:=by simp
@[simp] theorem at_2:(h++x::y::z::r)[h.length+2]? = some z:=by simp
@[simp] theorem at_3:(h++x::y::z::w::r)[h.length+3]? = some w:=by simp
@[simp] theorem put_0{o:DO}:(h++x::r).set h.length o=h++o::r:=by simp
@[simp] theorem put_1{o:DO}:(h++x::y::r).set (h.length+1) o=h++x::o::r:=by simp
@[simp] theorem put_2{o:DO}:(h++x::y::z::r).set (h.length+2) o=h++x::y::o::r:=by simp
end
@[simp] theorem newO_eq{o:DO}{h:Hd}:newO o h=.ok (.ref h.length) (h++[o]):=rfl
section
variable {h:Hd}
theorem meth_app{i:Nat}{ys:List D}{d:D}(e:h[i]? = some (.lst ys))(hz:ys.length<sizeLine):methD .app (.ref i) [d] h=.ok .non (h.set i (.lst (ys++[d]))):=by
 simp only [methD,e,mthD,mApp]
 rw [if_pos hz]
theorem meth_pop{i:Nat}{ys:List D}{d:D}(e:h[i]? = some (.lst (ys++[d]))):methD .pop (.ref i) [] h=.ok d (h.set i (.lst ys)):=by
 simp only [methD,e,mthD,mPop]
 simp
theorem isLst_ref{i:Nat}{ys:List D}(e:h[i]? = some (.lst ys)):isLst (.ref i) h=true:=by simp [isLst,e]
theorem tru_lst{GD:Str→Option (List (Key×D))}{i:Nat}{ys:List D}(e:h[i]? = some (.lst ys)):truD GD (.ref i) h=some (!ys.isEmpty):=by simp [truD,e]
@[simp] theorem forL_nil{g:Tg}{body:Ev→Hd→R (Fl×Ev)}{ρ:Ev}:forL none g body [] ρ h=.ok (.nx,ρ) h:=rfl
theorem forL_cons{g:Tg}{body:Ev→Hd→R (Fl×Ev)}{d:D}{ds:List D}{ρ:Ev}:forL none g body (d::ds) ρ h=match bindT g d ρ with
     | none=>.bad
     | some ρ1=>(body ρ1 h).bnd fun p h2=>match p with
       | (.nx,ρ2)=>forL none g body ds ρ2 h2
       | (.ct,ρ2)=>forL none g body ds ρ2 h2
       | (.bk,ρ2)=>.ok (.nx,ρ2) h2
       | (.rt d,ρ2)=>.ok (.rt d,ρ2) h2:=rfl
theorem compL_cons{src:Option (Nat×List D)}{g:Tg}{test:Ev→Hd→R Bool}{elt:Ev→Hd→R D}{d:D}{ds:List D}{ρ:Ev}{acc:List D}:compL src g test elt (d::ds) ρ acc h=if Wk.stays src h∧acc.length<sizeLine then match bindT g d ρ with
     | none=>.bad
     | some ρ1=>(test ρ1 h).plain.bnd fun b h1=>if b then (elt ρ1 h1).plain.bnd fun x h2=>compL src g test elt ds ρ (acc++[x]) h2 else compL src g test elt ds ρ acc h1
   else .bad:=rfl
theorem whileL_succ{test:Ev→Hd→R Bool}{body:Ev→Hd→R (Fl×Ev)}{n:Nat}{ρ:Ev}:whileL test body (n+1) ρ h=(test ρ h).bnd fun b h1=>if b then (body ρ h1).bnd fun p h2=>match p with
     | (.nx,ρ2)=>whileL test body n ρ2 h2
     | (.ct,ρ2)=>whileL test body n ρ2 h2
     | (.bk,ρ2)=>.ok (.nx,ρ2) h2
     | (.rt d,ρ2)=>.ok (.rt d,ρ2) h2
   else .ok (.nx,ρ) h1:=rfl
end
inductive Wd where
 | add|sub|mul|lt
 deriving DecidableEq
noncomputable def Wd.s:Wd→Str
 | .add=>Ω "+"
 | .sub=>Ω "-"
 | .mul=>Ω "*"
 | .lt=>Ω "<"
inductive T where
 | num (n:Int)|name (x:Str)|fn (x:Str) (e:T)|rcc (f x:Str) (e:T)|call (f a:T)|iff (c t e:T)|op (w:Wd) (a b:T)
noncomputable def T.d:T→D
 | .num n=>.tup [.str (Ω "num"),.int n]
 | .name x=>.tup [.str (Ω "name"),.str x]
 | .fn x e=>.tup [.str (Ω "fn"),.str x,e.d]
 | .rcc f x e=>.tup [.str (Ω "rec"),.str f,.str x,e.d]
 | .call f a=>.tup [.str (Ω "call"),f.d,a.d]
 | .iff c t e=>.tup [.str (Ω "if"),c.d,t.d,e.d]
 | .op w a b=>.tup [.str w.s,a.d,b.d]
noncomputable def T.parts:T→List T
 | .num _|.name _=>[]
 | .fn _ e|.rcc _ _ e=>[e]
 | .call f a=>[f,a]
 | .iff c t e=>[c,t,e]
 | .op _ a b=>[a,b]
noncomputable def T.places:T→List T
 | .num n=>[.num n]
 | .name x=>[.name x]
 | .fn x e=>.fn x e::e.places
 | .rcc f x e=>.rcc f x e::e.places
 | .call f a=>.call f a::(f.places++a.places)
 | .iff c t e=>.iff c t e::(c.places++(t.places++e.places))
 | .op w a b=>.op w a b::(a.places++b.places)
noncomputable def T.size(t:T):Nat:=t.places.length
theorem T.places_parts(t:T):t.places=t::t.parts.flatMap T.places:=by
 cases t<;>simp [T.places,T.parts]
end IV
end
section
namespace IV
open PySem L2
section
variable {U:Tb}{ρ:Ev}{h h1:Hd}{f:Str}{as:List D}{r:R D}
noncomputable abbrev Tb.say(U:Tb)(r:R D):Tb:=⟨U.G,U.GD,fun _ _ _=>r,U.L⟩
theorem by_call{s:Sx}{y:R (Fl×Ev)}(e:U.C f as h1=r)(q:xs1 U s ρ h=xs1 (U.say (U.C f as h1)) s ρ h)(z:xs1 (U.say r) s ρ h=y):xs1 U s ρ h=y:=by rw [q,e,z]
theorem by_callE{s:Ex}{y:R D}(e:U.C f as h1=r)(q:ev U s ρ h=ev (U.say (U.C f as h1)) s ρ h)(z:ev (U.say r) s ρ h=y):ev U s ρ h=y:=by rw [q,e,z]
theorem iff_t{c:Tx}{a b:Sxs}(e:tst U c ρ h=.ok true h1):xs1 U (.iff c a b) ρ h=xs2 U a ρ h1:=by rw [xs1_iff,e];rfl
theorem iff_f{c:Tx}{a b:Sxs}(e:tst U c ρ h=.ok false h1):xs1 U (.iff c a b) ρ h=xs2 U b ρ h1:=by rw [xs1_iff,e];rfl
theorem ret_e{e:Ex}{d:D}(q:ev U e ρ h=.ok d h1):xs1 U (.ret e) ρ h=.ok (.rt d,ρ) h1:=by rw [xs1_ret,q];rfl
theorem set_e{i:Nat}{e:Ex}{d:D}(q:ev U e ρ h=.ok d h1):xs1 U (.set (.nm i) e) ρ h=.ok (.nx,ρ.set i (some d)) h1:=by rw [xs1_set,q];rfl
theorem forr_i{g:Tg}{it:Ix}{b:Sxs}{w:Wk}(q:evi U it ρ h=.ok w h1):xs1 U (.forr g it b) ρ h=forL w.src g (xs2 U b) w.xs ρ h1:=by rw [xs1_forr,q];rfl
theorem ev_bin2{op:Operator}{a b:Ex}{x y:D}{h2:Hd}(p:ev U a ρ h=.ok x h1)(q:ev U b ρ h1=.ok y h2):ev U (.bin op a b) ρ h=opB op x y h2:=by rw [ev_bin,p];simp only [bnd_ok,q]
theorem ev_cmp2'{op:CmpOp}{a b:Ex}{x y:D}{h2:Hd}(p:ev U a ρ h=.ok x h1)(q:ev U b ρ h1=.ok y h2):ev U (.cmp op a b) ρ h=opC U.GD op x y h2:=by rw [ev_cmp,p];simp only [bnd_ok,q]
theorem ex_b{e:Ex}{b:Bool}(q:ev U e ρ h=.ok (.bl b) h1):tst U (.ex e) ρ h=.ok b h1:=by rw [tst_ex,q];rfl
theorem ok_b{b c:Bool}{y:R Bool}(q:y=.ok b h1)(e:b=c):y=.ok c h1:=e ▸ q
end
end IV
end
section
namespace IV
open PySem L2
mutual
noncomputable def D.pure:D→Bool
 | .non|.bl _|.int _|.str _=>true
 | .tup xs=>D.pures xs
 | _=>false
noncomputable def D.pures:List D→Bool
 | []=>true
 | x::xs=>D.pure x&&D.pures xs
end
mutual
noncomputable def D.dp:D→Nat
 | .tup xs=>D.dps xs+1
 | _=>0
noncomputable def D.dps:List D→Nat
 | []=>0
 | x::xs=>max (D.dp x) (D.dps xs)
end
mutual
theorem py_same{rd:Nat→Option PyData}:∀ d:D,d.pure=true→∃ p,D.py rd d=some p∧p.depth≤d.dp∧PyData.eqv p p=true
 | .non,_=>⟨.none,rfl,Ωq _,rfl⟩
 | .bl b,_=>⟨.bool b,rfl,Ωq _,by simp [PyData.eqv]⟩
 | .int b,_=>⟨.int b,rfl,Ωq _,by simp [PyData.eqv]⟩
 | .str b,_=>⟨.str b,rfl,Ωq _,by simp [PyData.eqv]⟩
 | .tup xs,h=>by
   obtain ⟨ps,e1,e2,e3⟩:=pys_same (rd:=rd) xs (by simpa [D.pure] using h)
   refine ⟨.tuple ps,by simp [D.py,e1],?_,?_⟩
   · simp only [PyData.depth,D.dp];omega
   · simpa [PyData.eqv] using e3
 | .ref _,h=>by cases h
 | .ty _,h=>by cases h
 | .ro _,h=>by cases h
 | .kd _,h=>by cases h
theorem pys_same{rd:Nat→Option PyData}:∀ ds:List D,D.pures ds=true→∃ ps,D.pys rd ds=some ps∧PyData.depthAll ps≤D.dps ds∧PyData.eqvAll ps ps=true
 | [],_=>⟨[],rfl,Ωq _,by simp [PyData.eqvAll]⟩
 | x::xs,h=>by
   rw [D.pures,Ωa] at h
   obtain ⟨p,a1,a2,a3⟩:=py_same (rd:=rd) x h.1
   obtain ⟨ps,b1,b2,b3⟩:=pys_same (rd:=rd) xs h.2
   refine ⟨p::ps,by simp [D.pys,a1,b1],?_,?_⟩
   · simp only [PyData.depthAll,D.dps];omega
   · simp [PyData.eqvAll,a3,b3]
end
theorem opEq_same{n:Bool}{d:D}{h:Hd}(hp:d.pure=true)(hd:d.dp≤1100):opEq n d d h=.ok (.bl (!n)) h:=by
 obtain ⟨p,e1,e2,e3⟩:=py_same (rd:=rdPy h 4) d hp
 unfold opEq
 rw [show pyOf h d=some p from e1]
 simp only
 rw [if_pos (by omega),e3]
 cases n<;>rfl
end IV
end
section
set_option tactic.hygienic false
namespace Gn
open PySem L2 IV
noncomputable def b_parts_of:Sxs:=(.cons (.iff (.ex (.cmp .NotIn (.ix (.var 0) (.cst (.int 0))) (.glo (Ω "FORMS")))) (.cons (.ret (.tupl .nil)) .nil) .nil) (.cons (.ret (.sl (.var 0) (some (.bin .Add (.cst (.int 1)) (.ix (.ix (.glo (Ω "FORMS")) (.ix (.var 0) (.cst (.int 0)))) (.cst (.int 0))))) none)) .nil))
noncomputable def f_parts_of:Fd:=⟨[(Ω "E")],[(Ω "E")],b_parts_of⟩
noncomputable def b_places:Sxs:=(.cons (.set (.nm 1) (.lstl .nil)) (.cons (.set (.nm 2) (.lstl (.cons (.var 0) .nil))) (.cons (.whl (.ex (.var 2)) (.cons (.set (.nm 3) (.meth .pop (.var 2) .nil)) (.cons (.drp (.meth .app (.var 1) (.cons (.var 3) .nil))) (.cons (.forr (.nm 4) (.rev (.call (Ω "parts_of") (.cons (.var 3) .nil))) (.cons (.drp (.meth .app (.var 2) (.cons (.var 4) .nil))) .nil)) .nil)))) (.cons (.ret (.var 1)) .nil))))
noncomputable def f_places:Fd:=⟨[(Ω "E")],[(Ω "E"),(Ω "found"),(Ω "waiting"),(Ω "place"),(Ω "part")],b_places⟩
noncomputable def b_law_cell_at:Sxs:=(.cons (.iff (.ex (.cmp .Lt (.var 1) (.blt .len (.cons (.var 0) .nil)))) (.cons (.ret (.ix (.var 0) (.var 1))) .nil) .nil) (.cons (.ret (.cst (.int 0))) .nil))
noncomputable def f_law_cell_at:Fd:=⟨[(Ω "_law_script"),(Ω "_law_k")],[(Ω "_law_script"),(Ω "_law_k")],b_law_cell_at⟩
noncomputable def b_law_mixed:Sxs:=(.cons (.set (.nm 2) (.bin .Add (.bin .Pow (.cst (.int 10)) (.cst (.int 30))) (.cst (.int 57)))) (.cons (.set (.nm 3) (.bin .Mult (.bin .Mod (.var 0) (.var 2)) (.cst (.int 271828182845904523536028747135)))) (.cons (.set (.nm 3) (.bin .Add (.var 3) (.bin .Mult (.bin .Mult (.var 1) (.var 1)) (.cst (.int 314159265358979323846264338327))))) (.cons (.ret (.bin .Mod (.bin .Add (.var 3) (.cst (.int 577215664901532860606512090082))) (.var 2))) .nil))))
noncomputable def f_law_mixed:Fd:=⟨[(Ω "_law_cell"),(Ω "_law_k")],[(Ω "_law_cell"),(Ω "_law_k"),(Ω "_law_big"),(Ω "_law_number_here")],b_law_mixed⟩
noncomputable def b_law_next:Sxs:=(.cons (.set (.nm 1) (.ix (.var 0) (.cst (.int 1)))) (.cons (.put (.var 0) (.cst (.int 1)) (.bin .Add (.var 1) (.cst (.int 1)))) (.cons (.iff (.ex (.cmp .Lt (.var 1) (.blt .len (.cons (.ix (.var 0) (.cst (.int 0))) .nil)))) (.cons (.ret (.ix (.ix (.var 0) (.cst (.int 0))) (.var 1))) .nil) .nil) (.cons (.ret (.call (Ω "_law_mixed") (.cons (.var 1) (.cons (.cst (.int 7)) .nil)))) .nil))))
noncomputable def f_law_next:Fd:=⟨[(Ω "_law_state")],[(Ω "_law_state"),(Ω "_law_at")],b_law_next⟩
noncomputable def b_law_names:Sxs:=(.cons (.set (.nm 1) (.cst (.str (Ω "abcdefghijklmnopqrstuvwxyz")))) (.cons (.set (.nm 2) (.bin .Add (.cst (.int 1)) (.bin .Mod (.var 0) (.cst (.int 8))))) (.cons (.set (.nm 3) (.bin .Mod (.bin .FloorDiv (.var 0) (.cst (.int 8))) (.var 2))) (.cons (.set (.nm 4) (.bin .FloorDiv (.var 0) (.cst (.int 64)))) (.cons (.set (.nm 5) (.cst (.str (Ω "")))) (.cons (.forr (.nm 6) (.rng (.cst (.int 8))) (.cons (.set (.nm 5) (.bin .Add (.var 5) (.ix (.var 1) (.bin .Mod (.var 4) (.cst (.int 26)))))) (.cons (.set (.nm 4) (.bin .FloorDiv (.var 4) (.cst (.int 26)))) .nil))) (.cons (.set (.nm 7) (.lstl .nil)) (.cons (.forr (.nm 6) (.rng (.cst (.int 5))) (.cons (.set (.nm 8) (.ix (.var 1) (.bin .Mod (.bin .Add (.var 4) (.bin .Mult (.cst (.int 5)) (.var 6))) (.cst (.int 26))))) (.cons (.set (.nm 9) (.bin .Add (.bin .Add (.sl (.var 5) none (some (.var 3))) (.var 8)) (.sl (.var 5) (some (.bin .Add (.var 3) (.cst (.int 1)))) (some (.var 2))))) (.cons (.iff (.ex (.cmp .Eq (.bin .Mod (.bin .FloorDiv (.var 4) (.cst (.int 26))) (.cst (.int 4))) (.cst (.int 1)))) (.cons (.set (.nm 9) (.sl (.var 5) none (some (.bin .Sub (.cst (.int 8)) (.var 6))))) .nil) .nil) (.cons (.iff (.ex (.cmp .In (.var 9) (.tupl (.cons (.cst (.str (Ω "fn"))) (.cons (.cst (.str (Ω "rec"))) (.cons (.cst (.str (Ω "call"))) (.cons (.cst (.str (Ω "if"))) .nil))))))) (.cons (.set (.nm 9) (.bin .Mult (.cst (.str (Ω "q"))) (.blt .len (.cons (.var 9) .nil)))) .nil) .nil) (.cons (.drp (.meth .app (.var 7) (.cons (.var 9) .nil))) .nil)))))) (.cons (.ret (.var 7)) .nil)))))))))
noncomputable def f_law_names:Fd:=⟨[(Ω "_law_number_here")],[(Ω "_law_number_here"),(Ω "_law_letters"),(Ω "_law_long"),(Ω "_law_place"),(Ω "_law_rest"),(Ω "_law_base"),(Ω "_law_k"),(Ω "_law_found"),(Ω "_law_sign"),(Ω "_law_word")],b_law_names⟩
noncomputable def b_law_there:Sxs:=(.cons (.set (.nm 2) (.dictl .nil)) (.cons (.forr (.two 3 4) (.pl (.var 0)) (.cons (.put (.var 2) (.var 3) (.var 4)) .nil)) (.cons (.ret (.comp [(Ω "_law_name"),(Ω "_law_wish"),(Ω "_law_known")] [none,some 1,some 2] (.pl (.blt .srt (.cons (.var 2) .nil))) (.nm 0) (some (.ex (.cmp .Eq (.ix (.var 2) (.var 0)) (.var 1)))) (.var 0))) .nil)))
noncomputable def f_law_there:Fd:=⟨[(Ω "_law_scope"),(Ω "_law_wish")],[(Ω "_law_scope"),(Ω "_law_wish"),(Ω "_law_known"),(Ω "_law_name"),(Ω "_law_held")],b_law_there⟩
noncomputable def b_law_plain:Sxs:=(.cons (.iff (.ex (.cmp .Eq (.var 0) (.cst (.str (Ω "n"))))) (.cons (.ret (.tupl (.cons (.cst (.str (Ω "num"))) (.cons (.ix (.lstl (.cons (.cst (.int 0)) (.cons (.cst (.int 1)) (.cons (.cst (.int 2)) (.cons (.bin .Mod (.bin .FloorDiv (.var 1) (.cst (.int 7))) (.cst (.int 1000000))) .nil))))) (.bin .Mod (.var 1) (.cst (.int 4)))) .nil)))) .nil) .nil) (.cons (.iff (.ex (.cmp .Eq (.var 0) (.cst (.str (Ω "f"))))) (.cons (.ret (.tupl (.cons (.cst (.str (Ω "fn"))) (.cons (.cst (.str (Ω "w"))) (.cons (.tupl (.cons (.cst (.str (Ω "-"))) (.cons (.tupl (.cons (.cst (.str (Ω "name"))) (.cons (.cst (.str (Ω "w"))) .nil))) (.cons (.tupl (.cons (.cst (.str (Ω "num"))) (.cons (.bin .Mod (.var 1) (.cst (.int 3))) .nil))) .nil)))) .nil))))) .nil) .nil) (.cons (.ret (.tupl (.cons (.cst (.str (Ω "fn"))) (.cons (.cst (.str (Ω "w"))) (.cons (.tupl (.cons (.cst (.str (Ω "call"))) (.cons (.tupl (.cons (.cst (.str (Ω "name"))) (.cons (.cst (.str (Ω "w"))) .nil))) (.cons (.tupl (.cons (.cst (.str (Ω "num"))) (.cons (.bin .Mod (.var 1) (.cst (.int 5))) .nil))) .nil)))) .nil))))) .nil)))
noncomputable def f_law_plain:Fd:=⟨[(Ω "_law_wish"),(Ω "_law_number_here")],[(Ω "_law_wish"),(Ω "_law_number_here")],b_law_plain⟩
noncomputable def b_law_function_1:Sx:=(.set (.nm 6) (.ix (.var 4) (.bin .Mod (.var 1) (.cst (.int 5)))))
noncomputable def b_law_function_2:Sx:=(.iff (.ex (.cmp .Eq (.var 0) (.cst (.str (Ω "g"))))) (.cons (.ret (.tupl (.cons (.cst (.str (Ω "fn"))) (.cons (.var 6) (.cons (.call (Ω "_law_any") (.cons (.cst (.str (Ω "n"))) (.cons (.bin .Add (.var 2) (.lstl (.cons (.tupl (.cons (.var 6) (.cons (.cst (.str (Ω "f"))) .nil))) .nil))) (.cons (.var 3) (.cons (.var 4) (.cons (.var 5) .nil)))))) .nil))))) .nil) .nil)
noncomputable def b_law_function_3:Sx:=(.iff (.ex (.cmp .Eq (.bin .Mod (.bin .FloorDiv (.var 1) (.cst (.int 5))) (.cst (.int 3))) (.cst (.int 0)))) (.cons (.ret (.tupl (.cons (.cst (.str (Ω "fn"))) (.cons (.var 6) (.cons (.call (Ω "_law_any") (.cons (.cst (.str (Ω "n"))) (.cons (.bin .Add (.var 2) (.lstl (.cons (.tupl (.cons (.var 6) (.cons (.cst (.str (Ω "n"))) .nil))) .nil))) (.cons (.var 3) (.cons (.var 4) (.cons (.var 5) .nil)))))) .nil))))) .nil) .nil)
noncomputable def b_law_function_4:Sx:=(.set (.nm 7) (.ix (.var 4) (.bin .Mod (.bin .Add (.bin .Add (.bin .Mod (.var 1) (.cst (.int 5))) (.cst (.int 1))) (.bin .Mod (.bin .FloorDiv (.var 1) (.cst (.int 15))) (.cst (.int 4)))) (.cst (.int 5)))))
noncomputable def b_law_function_5:Sx:=(.set (.nm 8) (.bin .Add (.var 2) (.lstl (.cons (.tupl (.cons (.var 7) (.cons (.cst (.str (Ω "f"))) .nil))) (.cons (.tupl (.cons (.var 6) (.cons (.cst (.str (Ω "n"))) .nil))) .nil)))))
noncomputable def b_law_function_6:Sx:=(.set (.nm 9) (.tupl (.cons (.cst (.str (Ω "call"))) (.cons (.tupl (.cons (.cst (.str (Ω "name"))) (.cons (.var 7) .nil))) (.cons (.tupl (.cons (.cst (.str (Ω "-"))) (.cons (.tupl (.cons (.cst (.str (Ω "name"))) (.cons (.var 6) .nil))) (.cons (.tupl (.cons (.cst (.str (Ω "num"))) (.cons (.cst (.int 1)) .nil))) .nil)))) .nil)))))
noncomputable def b_law_function_7:Sx:=(.iff (.ex (.cmp .Eq (.bin .Mod (.bin .FloorDiv (.var 1) (.cst (.int 60))) (.cst (.int 3))) (.cst (.int 0)))) (.cons (.set (.nm 9) (.call (Ω "_law_any") (.cons (.cst (.str (Ω "n"))) (.cons (.var 8) (.cons (.var 3) (.cons (.var 4) (.cons (.var 5) .nil))))))) .nil) (.cons (.iff (.ex (.cmp .Eq (.bin .Mod (.bin .FloorDiv (.var 1) (.cst (.int 60))) (.cst (.int 3))) (.cst (.int 1)))) (.cons (.set (.nm 9) (.tupl (.cons (.ix (.lstl (.cons (.cst (.str (Ω "+"))) (.cons (.cst (.str (Ω "*"))) .nil))) (.bin .Mod (.bin .FloorDiv (.var 1) (.cst (.int 180))) (.cst (.int 2)))) (.cons (.call (Ω "_law_any") (.cons (.cst (.str (Ω "n"))) (.cons (.var 8) (.cons (.var 3) (.cons (.var 4) (.cons (.bin .Sub (.var 5) (.cst (.int 1))) .nil)))))) (.cons (.var 9) .nil))))) .nil) .nil) .nil))
noncomputable def b_law_function_8:Sx:=(.ret (.tupl (.cons (.cst (.str (Ω "rec"))) (.cons (.var 7) (.cons (.var 6) (.cons (.tupl (.cons (.cst (.str (Ω "if"))) (.cons (.tupl (.cons (.cst (.str (Ω "name"))) (.cons (.var 6) .nil))) (.cons (.var 9) (.cons (.call (Ω "_law_any") (.cons (.cst (.str (Ω "n"))) (.cons (.var 8) (.cons (.var 3) (.cons (.var 4) (.cons (.bin .Sub (.var 5) (.cst (.int 1))) .nil)))))) .nil))))) .nil))))))
noncomputable def b_law_function:Sxs:=(.cons b_law_function_1 (.cons b_law_function_2 (.cons b_law_function_3 (.cons b_law_function_4 (.cons b_law_function_5 (.cons b_law_function_6 (.cons b_law_function_7 (.cons b_law_function_8 .nil))))))))
noncomputable def f_law_function:Fd:=⟨[(Ω "_law_wish"),(Ω "_law_rest"),(Ω "_law_scope"),(Ω "_law_state"),(Ω "_law_names_here"),(Ω "_law_room")],[(Ω "_law_wish"),(Ω "_law_rest"),(Ω "_law_scope"),(Ω "_law_state"),(Ω "_law_names_here"),(Ω "_law_room"),(Ω "_law_x"),(Ω "_law_f"),(Ω "_law_inner"),(Ω "_law_again")],b_law_function⟩
noncomputable def b_law_number_1:Sx:=(.set (.nm 5) (.bin .Mod (.var 0) (.cst (.int 6))))
noncomputable def b_law_number_2:Sx:=(.iff (.ex (.cmp .Eq (.var 5) (.cst (.int 0)))) (.cons (.ret (.call (Ω "_law_plain") (.cons (.cst (.str (Ω "n"))) (.cons (.bin .FloorDiv (.var 0) (.cst (.int 6))) .nil)))) .nil) .nil)
noncomputable def b_law_number_3:Sx:=(.iff (.ex (.cmp .Lt (.var 5) (.cst (.int 3)))) (.cons (.set (.nm 6) (.call (Ω "_law_any") (.cons (.cst (.str (Ω "n"))) (.cons (.var 1) (.cons (.var 2) (.cons (.var 3) (.cons (.var 4) .nil))))))) (.cons (.ret (.tupl (.cons (.ix (.lstl (.cons (.cst (.str (Ω "+"))) (.cons (.cst (.str (Ω "-"))) (.cons (.cst (.str (Ω "*"))) (.cons (.cst (.str (Ω "<"))) .nil))))) (.bin .Mod (.bin .FloorDiv (.var 0) (.cst (.int 6))) (.cst (.int 4)))) (.cons (.var 6) (.cons (.call (Ω "_law_any") (.cons (.cst (.str (Ω "n"))) (.cons (.var 1) (.cons (.var 2) (.cons (.var 3) (.cons (.var 4) .nil)))))) .nil))))) .nil)) .nil)
noncomputable def b_law_number_4:Sx:=(.set (.nm 7) (.ix (.lstl (.cons (.cst (.str (Ω "f"))) (.cons (.cst (.str (Ω "f"))) (.cons (.cst (.str (Ω "g"))) .nil)))) (.bin .Sub (.var 5) (.cst (.int 3)))))
noncomputable def b_law_number_5:Sx:=(.set (.nm 8) (.call (Ω "_law_any") (.cons (.var 7) (.cons (.var 1) (.cons (.var 2) (.cons (.var 3) (.cons (.var 4) .nil)))))))
noncomputable def b_law_number_6:Sx:=(.ret (.tupl (.cons (.cst (.str (Ω "call"))) (.cons (.var 8) (.cons (.call (Ω "_law_any") (.cons (.ix (.dictl (.cons (.cst (.str (Ω "f"))) (.cons (.cst (.str (Ω "n"))) (.cons (.cst (.str (Ω "g"))) (.cons (.cst (.str (Ω "f"))) .nil))))) (.var 7)) (.cons (.var 1) (.cons (.var 2) (.cons (.var 3) (.cons (.var 4) .nil)))))) .nil)))))
noncomputable def b_law_number:Sxs:=(.cons b_law_number_1 (.cons b_law_number_2 (.cons b_law_number_3 (.cons b_law_number_4 (.cons b_law_number_5 (.cons b_law_number_6 .nil))))))
noncomputable def f_law_number:Fd:=⟨[(Ω "_law_rest"),(Ω "_law_scope"),(Ω "_law_state"),(Ω "_law_names_here"),(Ω "_law_room")],[(Ω "_law_rest"),(Ω "_law_scope"),(Ω "_law_state"),(Ω "_law_names_here"),(Ω "_law_room"),(Ω "_law_way"),(Ω "_law_one"),(Ω "_law_wish"),(Ω "_law_fun")],b_law_number⟩
noncomputable def b_law_any_1:Sx:=(.put (.var 2) (.cst (.int 2)) (.bin .Sub (.ix (.var 2) (.cst (.int 2))) (.cst (.int 1))))
noncomputable def b_law_any_2:Sx:=(.set (.nm 5) (.call (Ω "_law_next") (.cons (.var 2) .nil)))
noncomputable def b_law_any_3:Sx:=(.iff (.ex (.cmp .Eq (.bin .Mod (.var 5) (.cst (.int 29))) (.cst (.int 0)))) (.cons (.set (.nm 0) (.ix (.lstl (.cons (.cst (.str (Ω "n"))) (.cons (.cst (.str (Ω "f"))) (.cons (.cst (.str (Ω "g"))) .nil)))) (.bin .Mod (.bin .FloorDiv (.var 5) (.cst (.int 29))) (.cst (.int 3))))) .nil) .nil)
noncomputable def b_law_any_4:Sx:=(.set (.nm 6) (.bin .FloorDiv (.var 5) (.cst (.int 87))))
noncomputable def b_law_any_5:Sx:=(.set (.nm 7) (.call (Ω "_law_there") (.cons (.var 1) (.cons (.var 0) .nil))))
noncomputable def b_law_any_6:Sx:=(.iff (.ands (.cons (.ex (.cmp .NotEq (.var 7) (.lstl .nil))) (.one (.ex (.cmp .Eq (.bin .Mod (.var 6) (.cst (.int 3))) (.cst (.int 0))))))) (.cons (.ret (.tupl (.cons (.cst (.str (Ω "name"))) (.cons (.ix (.var 7) (.bin .Mod (.bin .FloorDiv (.var 6) (.cst (.int 3))) (.blt .len (.cons (.var 7) .nil)))) .nil)))) .nil) .nil)
noncomputable def b_law_any_7:Sx:=(.iff (.ors (.cons (.ex (.cmp .Lt (.var 4) (.cst (.int 1)))) (.one (.ex (.cmp .Lt (.ix (.var 2) (.cst (.int 2))) (.cst (.int 0))))))) (.cons (.ret (.call (Ω "_law_plain") (.cons (.var 0) (.cons (.bin .FloorDiv (.var 6) (.cst (.int 3))) .nil)))) .nil) .nil)
noncomputable def b_law_any_8:Sx:=(.set (.nm 6) (.bin .FloorDiv (.var 6) (.cst (.int 30))))
noncomputable def b_law_any_9:Sx:=(.iff (.ex (.cmp .Eq (.bin .Mod (.var 6) (.cst (.int 8))) (.cst (.int 0)))) (.cons (.set (.nm 8) (.call (Ω "_law_any") (.cons (.cst (.str (Ω "n"))) (.cons (.var 1) (.cons (.var 2) (.cons (.var 3) (.cons (.bin .Sub (.var 4) (.cst (.int 1))) .nil))))))) (.cons (.set (.nm 9) (.call (Ω "_law_any") (.cons (.var 0) (.cons (.var 1) (.cons (.var 2) (.cons (.var 3) (.cons (.bin .Sub (.var 4) (.cst (.int 1))) .nil))))))) (.cons (.ret (.tupl (.cons (.cst (.str (Ω "if"))) (.cons (.var 8) (.cons (.var 9) (.cons (.call (Ω "_law_any") (.cons (.var 0) (.cons (.var 1) (.cons (.var 2) (.cons (.var 3) (.cons (.bin .Sub (.var 4) (.cst (.int 1))) .nil)))))) .nil)))))) .nil))) .nil)
noncomputable def b_law_any_10:Sx:=(.iff (.ex (.cmp .Eq (.var 0) (.cst (.str (Ω "n"))))) (.cons (.ret (.call (Ω "_law_number") (.cons (.bin .FloorDiv (.var 6) (.cst (.int 8))) (.cons (.var 1) (.cons (.var 2) (.cons (.var 3) (.cons (.bin .Sub (.var 4) (.cst (.int 1))) .nil))))))) .nil) .nil)
noncomputable def b_law_any_11:Sx:=(.ret (.call (Ω "_law_function") (.cons (.var 0) (.cons (.bin .FloorDiv (.var 6) (.cst (.int 8))) (.cons (.var 1) (.cons (.var 2) (.cons (.var 3) (.cons (.bin .Sub (.var 4) (.cst (.int 1))) .nil))))))))
noncomputable def b_law_any:Sxs:=(.cons b_law_any_1 (.cons b_law_any_2 (.cons b_law_any_3 (.cons b_law_any_4 (.cons b_law_any_5 (.cons b_law_any_6 (.cons b_law_any_7 (.cons b_law_any_8 (.cons b_law_any_9 (.cons b_law_any_10 (.cons b_law_any_11 .nil)))))))))))
noncomputable def f_law_any:Fd:=⟨[(Ω "_law_wish"),(Ω "_law_scope"),(Ω "_law_state"),(Ω "_law_names_here"),(Ω "_law_room")],[(Ω "_law_wish"),(Ω "_law_scope"),(Ω "_law_state"),(Ω "_law_names_here"),(Ω "_law_room"),(Ω "_law_number_here"),(Ω "_law_rest"),(Ω "_law_there_here"),(Ω "_law_asked_of"),(Ω "_law_first")],b_law_any⟩
noncomputable def b_law_width:Sxs:=(.cons (.ret (.bin .Add (.cst (.int 1)) (.blt .sum (.cons (.comp [(Ω "_law_part")] [none] (.pl (.var 0)) (.nm 0) (some (.ex (.blt .isi (.cons (.var 0) (.cons (.cst (.ty "tuple")) .nil))))) (.call (Ω "_law_width") (.cons (.var 0) .nil))) .nil)))) .nil)
noncomputable def f_law_width:Fd:=⟨[(Ω "_law_told")],[(Ω "_law_told")],b_law_width⟩
noncomputable def b_law_deep:Sxs:=(.cons (.ret (.maxd (.comp [(Ω "_law_part")] [none] (.pl (.var 0)) (.nm 0) (some (.ex (.blt .isi (.cons (.var 0) (.cons (.cst (.ty "tuple")) .nil))))) (.bin .Add (.cst (.int 1)) (.call (Ω "_law_deep") (.cons (.var 0) .nil)))) (.cst (.int 0)))) .nil)
noncomputable def f_law_deep:Fd:=⟨[(Ω "_law_told")],[(Ω "_law_told")],b_law_deep⟩
noncomputable def b_law_program_1:Sx:=(.set (.nm 2) (.comp [(Ω "_law_k"),(Ω "_law_cell")] [none,none] (.enu (.sl (.var 0) (some (.var 1)) none)) (.two 0 1) none (.call (Ω "_law_mixed") (.cons (.var 1) (.cons (.bin .Add (.var 0) (.cst (.int 2))) .nil)))))
noncomputable def b_law_program_2:Sx:=(.set (.nm 3) (.lstl (.cons (.var 2) (.cons (.cst (.int 0)) (.cons (.cst (.int 26)) .nil)))))
noncomputable def b_law_program_3:Sx:=(.set (.nm 4) (.call (Ω "_law_names") (.cons (.call (Ω "_law_next") (.cons (.var 3) .nil)) .nil)))
noncomputable def b_law_program_4:Sx:=(.set (.nm 5) (.call (Ω "_law_any") (.cons (.cst (.str (Ω "n"))) (.cons (.lstl .nil) (.cons (.var 3) (.cons (.var 4) (.cons (.cst (.int 7)) .nil)))))))
noncomputable def b_law_program_5:Sx:=(.forr (.nm 6) (.rng (.cst (.int 2))) (.cons (.iff (.ex (.cmp .Lt (.call (Ω "_law_width") (.cons (.var 5) .nil)) (.cst (.int 50)))) (.cons (.put (.var 3) (.cst (.int 2)) (.cst (.int 12))) (.cons (.set (.nm 5) (.tupl (.cons (.cst (.str (Ω "+"))) (.cons (.var 5) (.cons (.call (Ω "_law_any") (.cons (.cst (.str (Ω "n"))) (.cons (.lstl .nil) (.cons (.var 3) (.cons (.var 4) (.cons (.cst (.int 6)) .nil)))))) .nil))))) .nil)) .nil) .nil))
noncomputable def b_law_program_6:Sx:=(.iff (.ors (.cons (.ex (.cmp .Gt (.call (Ω "_law_width") (.cons (.var 5) .nil)) (.cst (.int 100)))) (.one (.ex (.cmp .Gt (.call (Ω "_law_deep") (.cons (.var 5) .nil)) (.cst (.int 20))))))) (.cons (.set (.nm 5) (.call (Ω "_law_plain") (.cons (.cst (.str (Ω "n"))) (.cons (.call (Ω "_law_next") (.cons (.var 3) .nil)) .nil)))) .nil) .nil)
noncomputable def b_law_program_7:Sx:=(.ret (.var 5))
noncomputable def b_law_program:Sxs:=(.cons b_law_program_1 (.cons b_law_program_2 (.cons b_law_program_3 (.cons b_law_program_4 (.cons b_law_program_5 (.cons b_law_program_6 (.cons b_law_program_7 .nil)))))))
noncomputable def f_law_program:Fd:=⟨[(Ω "_law_script"),(Ω "_law_start")],[(Ω "_law_script"),(Ω "_law_start"),(Ω "_law_cells"),(Ω "_law_state"),(Ω "_law_names_here"),(Ω "_law_told"),(Ω "_law_k")],b_law_program⟩
noncomputable def forms:List (Key×D):=[(.inr (Ω "fn"),.tup [.int 1,.int 1]),(.inr (Ω "rec"),.tup [.int 2,.int 1]),(.inr (Ω "call"),.tup [.int 0,.int 2]),(.inr (Ω "if"),.tup [.int 0,.int 3]),(.inr (Ω "+"),.tup [.int 0,.int 2]),(.inr (Ω "-"),.tup [.int 0,.int 2]),(.inr (Ω "*"),.tup [.int 0,.int 2]),(.inr (Ω "<"),.tup [.int 0,.int 2])]
structure Tre(P:Pg):Prop where
 parts:P.tb.lookup (Ω "parts_of")=some f_parts_of
 places:P.tb.lookup (Ω "places")=some f_places
 g:P.G (Ω "FORMS")=some (.kd (Ω "FORMS"))
 gd:P.GD (Ω "FORMS")=some forms
 big:1000000≤P.L
theorem r_parts {P:Pg} (H:Tre P) (n:Nat) (t:T) (h:Hd):run P (n+1) (Ω "parts_of") [t.d] h=.ok (.tup (t.parts.map T.d)) h:=by
 rw [run_def H.parts (by cases t<;>rfl)]
 have g:=H.g
 have gd:=H.gd
 generalize P.G=PG at g
 generalize P.GD=PD at gd
 cases t with
 | op w a b=>cases w<;>simp [T.d,Wd.s,T.parts,f_parts_of,b_parts_of,startD,g,gd,forms,valD,cutD,HT.sIx]
 | _=>simp [T.d,T.parts,f_parts_of,b_parts_of,startD,g,gd,forms,valD,cutD,HT.sIx]
theorem l_places_in{U:Tb}{h:Hd}{F:List D}{E:D}(p:Option D):∀ (ps:List D) (W:List D) (q:Option D),W.length+ps.length≤1000000→∃ q',
   forL none (.nm 4) (xs2 U (.cons (.drp (.meth .app (.var 2) (.cons (.var 4) .nil))) .nil)) ps [some E,some (.ref h.length),some (.ref (h.length+1)),p,q] (h++[.lst F,.lst W])
     = .ok (.nx,[some E,some (.ref h.length),some (.ref (h.length+1)),p,q']) (h++[.lst F,.lst (W++ps)])
 | [],W,q,hz=>⟨q,by simp⟩
 | d::ds,W,q,hz=>by
   obtain ⟨q',e⟩:=l_places_in (U:=U) (h:=h) (F:=F) (E:=E) p ds (W++[d]) (some d) (by simp at hz ⊢;omega)
   refine ⟨q',?_⟩
   have hz2:W.length<sizeLine:=by simp at hz;rw [sizeLine_eq];omega
   rw [forL_cons]
   simp [isLst,methD,mthD,mApp,hz2,e]
theorem places_pos(t:T):1≤t.places.length:=by rw [T.places_parts];simp
theorem len_le_places:∀ W:List T,W.length≤(W.flatMap T.places).length
 | []=>by simp
 | t::W=>by
   have:=places_pos t
   have:=len_le_places W
   rw [List.flatMap_cons,ΩA,Ωs]
   omega
theorem l_places{P:Pg}(H:Tre P){h:Hd}{E:D}(n:Nat):∀ (fuel:Nat) (W:List T) (F:List D) (p q:Option D),(W.flatMap T.places).length<fuel→F.length+(W.flatMap T.places).length≤900000→∃ p' q',
   whileL (tst ⟨P.G,P.GD,run P (n+1),P.L⟩ (.ex (.var 2))) (xs2 ⟨P.G,P.GD,run P (n+1),P.L⟩ (.cons (.set (.nm 3) (.meth .pop (.var 2) .nil)) (.cons (.drp (.meth .app (.var 1) (.cons (.var 3) .nil))) (.cons (.forr (.nm 4) (.rev (.call (Ω "parts_of") (.cons (.var 3) .nil))) (.cons (.drp (.meth .app (.var 2) (.cons (.var 4) .nil))) .nil)) .nil))))
     fuel [some E,some (.ref h.length),some (.ref (h.length+1)),p,q] (h++[.lst F,.lst (W.map T.d).reverse])
     = .ok (.nx,[some E,some (.ref h.length),some (.ref (h.length+1)),p',q']) (h++[.lst (F++(W.flatMap T.places).map T.d),.lst []])
 | 0,W,F,p,q,h1,h2=>by omega
 | fuel+1,[],F,p,q,h1,h2=>⟨p,q,by rw [whileL_succ];simp [truD]⟩
 | fuel+1,t::W,F,p,q,h1,h2=>by
   have e0:((t::W).flatMap T.places)=t::((t.parts++W).flatMap T.places):=by
     rw [List.flatMap_cons,T.places_parts t,List.flatMap_append]
     simp
   rw [e0] at h1 h2 ⊢
   have hp:t.parts.length≤3:=by cases t<;>simp [T.parts]
   simp only [Ωs] at h1 h2
   have h3:=len_le_places (t.parts++W)
   rw [ΩA] at h3
   obtain ⟨q1,e1⟩:=l_places_in (U:=⟨P.G,P.GD,run P (n+1),P.L⟩) (h:=h) (F:=F++[t.d]) (E:=E) (some t.d) (t.parts.map T.d).reverse (W.map T.d).reverse q (by simp;omega)
   obtain ⟨p',q',e2⟩:=l_places H (h:=h) (E:=E) n fuel (t.parts++W) (F++[t.d]) (some t.d) q1 (by omega) (by rw [ΩA,List.length_singleton];omega)
   refine ⟨p',q',?_⟩
   have hz2:F.length<sizeLine:=by rw [sizeLine_eq];omega
   rw [whileL_succ]
   simp [truD,isLst,methD,mthD,mApp,mPop,hz2,r_parts H,walkT,e1]
   simpa using e2
theorem r_places {P:Pg} (H:Tre P) (n:Nat) (t:T) (h:Hd) (hz:t.size≤800000):run P (n+2) (Ω "places") [t.d] h=.ok (.ref h.length) (h++[.lst (t.places.map T.d),.lst []]):=by
 rw [run_def H.places (by rfl)]
 obtain ⟨p',q',e⟩:=l_places H (h:=h) (E:=t.d) n P.L [t] [] none none (by have:=H.big;unfold T.size at hz;simp;omega) (by unfold T.size at hz;simp;omega)
 simp at e
 simp [f_places,b_places,startD,sizeLine_eq,e]
end Gn
end
section
set_option tactic.hygienic false
set_option exponentiation.threshold 3000
namespace Gn
open PySem L2 IV
noncomputable def Up(i:Nat)(h h':Hd):Prop:=h.length≤h'.length∧∀ m,m<h.length→m≠i→h'[m]? = h[m]?
theorem Up.refl{i:Nat}{h:Hd}:Up i h h:=⟨Ωq _,fun _ _ _=>rfl⟩
theorem Up.trans{i:Nat}{a b c:Hd}(x:Up i a b)(y:Up i b c):Up i a c :=
 ⟨ΩE x.1 y.1,fun m h1 h2=>(y.2 m (Ωt h1 x.1) h2).trans (x.2 m h1 h2)⟩
theorem Up.set{i:Nat}{h:Hd}{o:DO}:Up i h (h.set i o):=⟨by simp,fun m _ h2=>by rw [Ωc (Ne.symm h2)]⟩
theorem Up.app{i:Nat}{h g:Hd}:Up i h (h++g):=⟨by simp,fun m h1 _=>Ωe h1⟩
theorem lt_of_at{h:Hd}{i:Nat}{o:DO}(e:h[i]? = some o):i<h.length:=(Ωb.mp e).1
theorem Up.at{i m:Nat}{h h':Hd}{o:DO}(u:Up i h h')(e:h[m]? = some o)(ne:m≠i):h'[m]? = some o:=(u.2 m (lt_of_at e) ne).trans e
noncomputable def Alk(P:Pg)(f:Str)(fd:Fd):Prop:=∃ ps N,ps.length=fd.ps.length∧N.length=fd.N.length∧P.tb.lookup f=some ⟨ps,N,fd.body⟩
theorem Alk.same{P:Pg}{f:Str}{fd:Fd}(e:P.tb.lookup f=some fd):Alk P f fd:=⟨fd.ps,fd.N,rfl,rfl,e⟩
theorem run_alk{P:Pg}{n:Nat}{f:Str}{fd:Fd}{ds:List D}{h:Hd}(e:Alk P f fd)(hl:ds.length=fd.ps.length):run P (n+1) f ds h=retOf (xs2 ⟨P.G,P.GD,run P n,P.L⟩ fd.body (startD fd.N ds) h):=by
 obtain ⟨ps,N,h1,h2,e⟩:=e
 rw [run_def e (hl.trans h1.symm)]
 unfold startD
 rw [h2]
structure Mkr(P:Pg):Prop where
 cell:P.tb.lookup (Ω "_law_cell_at")=some f_law_cell_at
 mixed:P.tb.lookup (Ω "_law_mixed")=some f_law_mixed
 next:P.tb.lookup (Ω "_law_next")=some f_law_next
 names:P.tb.lookup (Ω "_law_names")=some f_law_names
 there:P.tb.lookup (Ω "_law_there")=some f_law_there
 plain:P.tb.lookup (Ω "_law_plain")=some f_law_plain
 function:Alk P (Ω "_law_function") f_law_function
 number:Alk P (Ω "_law_number") f_law_number
 any:Alk P (Ω "_law_any") f_law_any
 width:P.tb.lookup (Ω "_law_width")=some f_law_width
 deep:P.tb.lookup (Ω "_law_deep")=some f_law_deep
 program:P.tb.lookup (Ω "_law_program")=some f_law_program
noncomputable def big:Int:=1000000000000000000000000000057
noncomputable def mixed(c k:Int):Int:=(c % big * 271828182845904523536028747135+k * k * 314159265358979323846264338327+577215664901532860606512090082) % big
theorem small_abs{i:Int}(h:-(2 ^ 128)<i)(h2:i<2 ^ 128):i.natAbs<2 ^ 2000:=by
 have:i.natAbs<2 ^ 128:=by omega
 exact Ωt this (Nat.pow_le_pow_right (by decide) (by decide))
theorem sq_bounds{k:Int}(hk:-(2 ^ 60)<k∧k<2 ^ 60):0≤k * k∧k * k<2 ^ 120:=by
 have a:k.natAbs<2 ^ 60:=by omega
 have b:k.natAbs * k.natAbs<2 ^ 60 * 2 ^ 60:=Nat.mul_lt_mul'' a a
 have c2:((k.natAbs * k.natAbs:Nat):Int)=k * k:=Int.natAbs_mul_self
 rw [← c2]
 constructor
 · omega
 · have:((k.natAbs * k.natAbs:Nat):Int)<((2 ^ 60 * 2 ^ 60:Nat):Int):=Int.ofNat_lt.mpr b
   exact this
theorem r_mixed {P:Pg} (H:Mkr P) (n:Nat) (c k:Int) (h:Hd) (hk:-(2 ^ 60)<k∧k<2 ^ 60):run P (n+1) (Ω "_law_mixed") [.int c,.int k] h=.ok (.int (mixed c k)) h:=by
 rw [run_def H.mixed rfl]
 have hp:opB .Pow (.int 10) (.int 30) h=.ok (.int 1000000000000000000000000000000) h:=by
   show (if (0:Int)≤30∧(30:Int)≤1000000∧(10:Int).natAbs<2 ^ 64 then R.ok (D.int (10 ^ (30:Int).toNat)) h else R.bad)=_
   rw [if_pos (by decide)]
   rfl
 have h1:0≤c % 1000000000000000000000000000057∧c % 1000000000000000000000000000057<1000000000000000000000000000057:=⟨Int.emod_nonneg _ (by decide),Int.emod_lt_of_pos _ (by decide)⟩
 have hkk:=sq_bounds hk
 have e1:opB .Mod (.int c) (.int 1000000000000000000000000000057) h=.ok (.int (c % 1000000000000000000000000000057)) h:=opB_mod (by decide)
 have e2:opB .Mult (.int (c % 1000000000000000000000000000057)) (.int 271828182845904523536028747135) h=.ok (.int (c % 1000000000000000000000000000057 * 271828182845904523536028747135)) h:=opB_mul ⟨small_abs (by omega) (by omega),small_abs (by decide) (by decide)⟩
 have e3:opB .Mult (.int k) (.int k) h=.ok (.int (k * k)) h:=opB_mul ⟨small_abs (by omega) (by omega),small_abs (by omega) (by omega)⟩
 have e4:opB .Mult (.int (k * k)) (.int 314159265358979323846264338327) h=.ok (.int (k * k * 314159265358979323846264338327)) h:=opB_mul ⟨small_abs (by omega) (by omega),small_abs (by decide) (by decide)⟩
 have e5:opB .Mod (.int (c % 1000000000000000000000000000057 * 271828182845904523536028747135+k * k * 314159265358979323846264338327+577215664901532860606512090082)) (.int 1000000000000000000000000000057) h=.ok (.int (mixed c k)) h:=opB_mod (by decide)
 simp [f_law_mixed,b_law_mixed,startD,hp,e1,e2,e3,e4,e5]
noncomputable def St3(h:Hd)(i j:Nat)(cs:List Int)(at' b:Int):Prop:=h[i]? = some (.lst [.ref j,.int at',.int b])∧h[j]? = some (.lst (cs.map .int))∧i≠j
theorem r_next {P:Pg} (H:Mkr P) (n:Nat) {h:Hd}{i j:Nat}{cs:List Int}{a b:Int} (st:St3 h i j cs a b) (ha:0≤a∧a<2 ^ 50):∃ v,run P (n+2) (Ω "_law_next") [.ref i] h=.ok (.int v) (h.set i (.lst [.ref j,.int (a+1),.int b]))∧(v∈cs∨v=mixed a 7):=by
 obtain ⟨h1,h2,ne⟩:=st
 rw [run_def H.next rfl]
 have i1:=lt_of_at h1
 have i2:(h.set i (.lst [.ref j,.int (a+1),.int b]))[i]? = some (.lst [.ref j,.int (a+1),.int b]):=by rw [Ωl i1]
 have i3:(h.set i (.lst [.ref j,.int (a+1),.int b]))[j]? = some (.lst (cs.map .int)):=by rw [Ωc ne];exact h2
 have hput:putIx (.ref i) (.int 1) (.int (a+1)) h=.ok () (h.set i (.lst [.ref j,.int (a+1),.int b])):=by
   simp only [putIx,h1]
   rfl
 have hlen:bltD P.GD .len [.ref j] (h.set i (.lst [.ref j,.int (a+1),.int b]))=.ok (.int cs.length) (h.set i (.lst [.ref j,.int (a+1),.int b])):=by
   simp only [bltD,bLen,seqOf,lstOf,i3]
   simp
 by_cases hc:a<cs.length
 · obtain ⟨k,rfl⟩:∃ k:Nat,a=k:=⟨a.toNat,by omega⟩
   have hk:k<cs.length:=by omega
   refine ⟨cs[k],?_,.inl (List.getElem_mem hk)⟩
   have hat:atI (cs.map D.int) (k:Int)=some (.int cs[k]):=by rw [IV.atI_nat,Ωn,Ωg hk];rfl
   simp [f_law_next,b_law_next,startD,opIx_lst h1,hput,opIx_lst i2,hlen,hk,opIx_lst i3,hat]
 · refine ⟨mixed a 7,?_,.inr rfl⟩
   simp [f_law_next,b_law_next,startD,opIx_lst h1,hput,opIx_lst i2,hlen,hc,r_mixed H n a 7 _ (by decide)]
noncomputable def Cl:List Str→T→Prop
 | _,.num n=>0≤n∧n<1000000
 | sc,.name x=>x∈sc
 | sc,.fn x e=>Cl (x::sc) e
 | sc,.rcc f x e=>Cl (x::f::sc) e∧f≠x
 | sc,.call f a=>Cl sc f∧Cl sc a
 | sc,.iff c t e=>Cl sc c∧Cl sc t∧Cl sc e
 | sc,.op _ a b=>Cl sc a∧Cl sc b
noncomputable def dep:T→Nat
 | .num _|.name _=>0
 | .fn _ e|.rcc _ _ e=>dep e+1
 | .call f a=>max (dep f) (dep a)+1
 | .iff c t e=>max (dep c) (max (dep t) (dep e))+1
 | .op _ a b=>max (dep a) (dep b)+1
theorem at4{a b c d:Int}(k:Int)(h0:0≤k)(h4:k<4):∃ v,atI [D.int a,.int b,.int c,.int d] k=some (.int v)∧(v=a∨v=b∨v=c∨v=d):=by
 have:k=0∨k=1∨k=2∨k=3:=by omega
 rcases this with rfl|rfl|rfl|rfl
 · exact ⟨a,by simp,.inl rfl⟩
 · exact ⟨b,by simp,.inr (.inl rfl)⟩
 · exact ⟨c,by simp,.inr (.inr (.inl rfl))⟩
 · exact ⟨d,by simp,.inr (.inr (.inr rfl))⟩
theorem r_plain {P:Pg} (H:Mkr P) (n:Nat) (w:Str) (v:Int) (h:Hd) (sc:List Str):∃ t g,run P (n+1) (Ω "_law_plain") [.str w,.int v] h=.ok (T.d t) (h++g)∧Cl sc t∧dep t≤2∧t.size≤4:=by
 rw [run_def H.plain rfl]
 have m4:opB .Mod (.int v) (.int 4)=fun h=>.ok (.int (v % 4)) h:=by funext h;exact opB_mod (by decide)
 have m3:opB .Mod (.int v) (.int 3)=fun h=>.ok (.int (v % 3)) h:=by funext h;exact opB_mod (by decide)
 have m5:opB .Mod (.int v) (.int 5)=fun h=>.ok (.int (v % 5)) h:=by funext h;exact opB_mod (by decide)
 have d7:opB .FloorDiv (.int v) (.int 7)=fun h=>.ok (.int (v / 7)) h:=by funext h;exact opB_div (by decide)
 have mm:opB .Mod (.int (v / 7)) (.int 1000000)=fun h=>.ok (.int (v / 7 % 1000000)) h:=by funext h;exact opB_mod (by decide)
 by_cases w1:w=Ω "n"
 · obtain ⟨u,e,hu⟩:=at4 (a:=0) (b:=1) (c:=2) (d:=v / 7 % 1000000) (v % 4) (by omega) (by omega)
   refine ⟨.num u,[.lst [.int 0,.int 1,.int 2,.int (v / 7 % 1000000)]],?_,by show 0≤u∧u<1000000;omega,by show 0≤2;omega,by show 1≤4;omega⟩
   have ix:opIx P.GD (.ref h.length) (.int (v % 4)) (h++[.lst [.int 0,.int 1,.int 2,.int (v / 7 % 1000000)]])=R.ofO (atI [.int 0,.int 1,.int 2,.int (v / 7 % 1000000)] (v % 4)) _:=opIx_lst at_0
   simp [f_law_plain,b_law_plain,startD,w1,m4,d7,mm,sizeLine_eq,ix,e,T.d]
 · by_cases w2:w=Ω "f"
   · refine ⟨.fn (Ω "w") (.op .sub (.name (Ω "w")) (.num (v % 3))),[],?_,?_,by simp only [dep];omega,by show 4≤4;omega⟩
     · simp [f_law_plain,b_law_plain,startD,w2,m3,sizeLine_eq,T.d,Wd.s]
     · exact ⟨Ωi,by show 0≤v % 3∧v % 3<1000000;omega⟩
   · refine ⟨.fn (Ω "w") (.call (.name (Ω "w")) (.num (v % 5))),[],?_,?_,by simp only [dep];omega,by show 4≤4;omega⟩
     · simp [f_law_plain,b_law_plain,startD,w1,w2,m5,sizeLine_eq,T.d]
     · exact ⟨Ωi,by show 0≤v % 5∧v % 5<1000000;omega⟩
noncomputable def letters:Str:=Ω "abcdefghijklmnopqrstuvwxyz"
theorem letters_len:letters.length=26:=by decide +kernel
theorem letters_ok:PyData.strOk letters=true:=by decide +kernel
noncomputable def Wl(n:Nat)(x:Str):Prop:=PyData.strOk x=true∧x.length≤n
noncomputable def ltr(k:Int):Nat:=letters.cps.toList.getD k.toNat 0
noncomputable def lt1(k:Int):Str:=⟨#[ltr k]⟩
theorem letter{GD:Str→Option (List (Key×D))}{h:Hd}(k:Int)(h0:0≤k)(h1:k<26):opIx GD (.str letters) (.int k) h=.ok (.str (lt1 k)) h∧Wl 1 (lt1 k):=by
 obtain ⟨m,rfl⟩:∃ m:Nat,k=m:=⟨k.toNat,by omega⟩
 have hl:letters.cps.toList.length=26:=by decide +kernel
 have hm:m<letters.cps.toList.length:=by omega
 have el:ltr m=letters.cps.toList[m]:=by
   show letters.cps.toList.getD (m:Int).toNat 0=_
   rw [Int.toNat_natCast,List.getD_eq_getElem?_getD,Ωg hm]
   rfl
 have e:atI letters.cps.toList (m:Int)=some letters.cps.toList[m]:=by rw [IV.atI_nat,Ωg hm]
 unfold lt1
 rw [el]
 refine ⟨?_,ok_mem letters_ok (List.getElem_mem hm),by show (#[letters.cps.toList[m]]:Array Nat).size≤1;simp⟩
 have q:opIx GD (.str letters) (.int (m:Int)) h=if letters.length≤sizeLine then R.ofO ((atI letters.cps.toList (m:Int)).map fun c=>.str ⟨#[c]⟩) h else .bad:=rfl
 rw [q,if_pos (by rw [letters_len,sizeLine_eq];decide),e]
 rfl
theorem len_cat{x y:Str}:(x++y).length=x.length+y.length:=by
 show (x.cps++y.cps).size=_
 rw [Array.size_append];rfl
theorem cat_str{x y:Str}{a b:Nat}{h:Hd}(hx:Wl a x)(hy:Wl b y)(hz:a+b≤1000):opB .Add (.str x) (.str y) h=.ok (.str (x++y)) h∧Wl (a+b) (x++y):=by
 have hl:(x++y).length=x.length+y.length:=len_cat
 refine ⟨if_pos (by rw [sizeLine_eq];have:=hx.2;have:=hy.2;omega),ok_append hx.1 hy.1,by rw [hl];have:=hx.2;have:=hy.2;omega⟩
theorem l_base{U:Tb}{h:Hd}{a l p f sg wd:Option D}:∀ (ks:List Int) (r:Int) (x:Str) (m:Nat) (k:Option D),Wl m x→x.length=m→m+ks.length≤100→∃ r' x' k',Wl (m+ks.length) x'∧x'.length=m+ks.length ∧
   forL none (.nm 6) (xs2 U (.cons (.set (.nm 5) (.bin .Add (.var 5) (.ix (.var 1) (.bin .Mod (.var 4) (.cst (.int 26)))))) (.cons (.set (.nm 4) (.bin .FloorDiv (.var 4) (.cst (.int 26)))) .nil))) (ks.map D.int) [a,some (.str letters),l,p,some (.int r),some (.str x),k,f,sg,wd] h
     = .ok (.nx,[a,some (.str letters),l,p,some (.int r'),some (.str x'),k',f,sg,wd]) h
 | [],r,x,m,k,hx,hn,hm=>⟨r,x,k,hx,hn,rfl⟩
 | c::cs,r,x,m,k,hx,hn,hm=>by
   obtain ⟨e1,hy⟩:=letter (GD:=U.GD) (h:=h) (r % 26) (by omega) (by omega)
   obtain ⟨e2,hxy⟩:=cat_str (h:=h) hx hy (by simp at hm;omega)
   obtain ⟨r',x',k',h1,h2,e3⟩:=l_base (U:=U) (h:=h) (a:=a) (l:=l) (p:=p) (f:=f) (sg:=sg) (wd:=wd) cs (r / 26) (x++lt1 (r % 26)) (m+1) (some (.int c)) hxy (by rw [len_cat,hn];rfl) (by simp at hm ⊢;omega)
   have hcl:m+(c::cs).length=m+1+cs.length:=by rw [Ωs];omega
   refine ⟨r',x',k',by rw [hcl];exact h1,by rw [hcl];exact h2,?_⟩
   have e4:opB .Mod (.int r) (.int 26) h=.ok (.int (r % 26)) h:=opB_mod (by decide)
   have e5:opB .FloorDiv (.int r) (.int 26) h=.ok (.int (r / 26)) h:=opB_div (by decide)
   rw [Ωp,forL_cons]
   simp [e4,e1,e2,e5,e3]
theorem sl_len(x:Str)(l u:Option Int):(StrLaws.sliceText x l u).length≤x.length:=by
 unfold StrLaws.sliceText
 split
 · exact Ωq _
 · show ((Builtin.Str.strSliceIndices l u 1 x.length).filterMap (x.cps[·]?)).toArray.size≤_
   rw [Ωf]
   refine ΩE (List.length_filterMap_le _ _) ?_
   unfold Builtin.Str.strSliceIndices
   refine PySem.sliceRange_length_le _ _ _ _ (fun _=>?_) (fun z=>absurd (by decide) z)
   cases l<;>cases u<;>simp<;>omega
theorem sl_str'{x:Str}{m:Nat}{h:Hd}(hx:Wl m x)(hm:m≤1000)(l u:Option Int):opSl (.str x) l u h=.ok (.str (StrLaws.sliceText x l u)) h∧Wl m (StrLaws.sliceText x l u):=by
 refine ⟨if_pos (by rw [sizeLine_eq];have:=hx.2;omega),ok_sub hx.1 (slText_sub _ _ _),?_⟩
 have:=hx.2
 have q:(StrLaws.sliceText x l u).length≤x.length:=sl_len x l u
 omega
theorem in4 {GD:Str→Option (List (Key×D))}{h:Hd}{x:Str}:opC GD .In (.str x) (.tup [.str (Ω "fn"),.str (Ω "rec"),.str (Ω "call"),.str (Ω "if")]) h=.ok (.bl (decide (x∈[Ω "fn",Ω "rec",Ω "call",Ω "if"]))) h :=
 opC_in_words (ss:=[Ω "fn",Ω "rec",Ω "call",Ω "if"])
theorem len_str{GD:Str→Option (List (Key×D))}{h:Hd}{x:Str}{m:Nat}(hx:Wl m x)(hm:m≤1000):bltD GD .len [.str x] h=.ok (.int x.length) h:=by
 show (if x.length≤sizeLine then _ else _)=_
 exact if_pos (by rw [sizeLine_eq];have:=hx.2;omega)
theorem rep_q {x:Str}{h:Hd}{m:Nat} (hx:Wl m x) (hm:m≤1000):opB .Mult (.str (Ω "q")) (.int x.length) h=.ok (.str (repS (Ω "q") x.length)) h∧Wl m (repS (Ω "q") x.length):=by
 have hq:(Ω "q").length=1:=by decide +kernel
 have:=hx.2
 refine ⟨if_pos ⟨by omega,by omega,by rw [hq];decide⟩,ok_rep (by decide +kernel) _,?_⟩
 rw [repS_len,hq]
 omega
noncomputable def nmW(b:Str)(l p r c:Int):Str:=if r / 26 % 4=1 then StrLaws.sliceText b none (some (8 - c)) else StrLaws.sliceText b none (some p)++lt1 ((r+5 * c) % 26)++StrLaws.sliceText b (some (p+1)) (some l)
noncomputable def nmQ (w:Str):Str:=if w∈[Ω "fn",Ω "rec",Ω "call",Ω "if"] then repS (Ω "q") w.length else w
noncomputable def nm(b:Str)(l p r c:Int):Str:=nmQ (nmW b l p r c)
theorem nmW_ok{b:Str}(hb:Wl 8 b)(l p r c:Int):Wl 20 (nmW b l p r c):=by
 unfold nmW
 split
 · have q:=(sl_str' (h:=[]) hb (by decide) none (some (8 - c))).2
   exact ⟨q.1,by have:=q.2;omega⟩
 · have q1:=(sl_str' (h:=[]) hb (by decide) none (some p)).2
   have q2:=(letter (GD:=fun _=>none) (h:=[]) ((r+5 * c) % 26) (by omega) (by omega)).2
   have q3:=(sl_str' (h:=[]) hb (by decide) (some (p+1)) (some l)).2
   have q:=(cat_str (h:=[]) (cat_str (h:=[]) q1 q2 (by decide)).2 q3 (by decide)).2
   exact ⟨q.1,by have:=q.2;omega⟩
theorem nm_ok{b:Str}(hb:Wl 8 b)(l p r c:Int):Wl 20 (nm b l p r c):=by
 unfold nm nmQ
 split
 · exact (rep_q (h:=[]) (nmW_ok hb l p r c) (by decide)).2
 · exact nmW_ok hb l p r c
theorem l_names{U:Tb}{h:Hd}{a:Option D}{l p r:Int}{b:Str}(hb:Wl 8 b):∀ (ks:List Int) (fo:List Str) (k sg wd:Option D),fo.length+ks.length≤100→(∀ c∈ks,0≤c∧c<100)→∃ k' sg' wd',
   forL none (.nm 6) (xs2 U (.cons (.set (.nm 8) (.ix (.var 1) (.bin .Mod (.bin .Add (.var 4) (.bin .Mult (.cst (.int 5)) (.var 6))) (.cst (.int 26))))) (.cons (.set (.nm 9) (.bin .Add (.bin .Add (.sl (.var 5) none (some (.var 3))) (.var 8)) (.sl (.var 5) (some (.bin .Add (.var 3) (.cst (.int 1)))) (some (.var 2))))) (.cons (.iff (.ex (.cmp .Eq (.bin .Mod (.bin .FloorDiv (.var 4) (.cst (.int 26))) (.cst (.int 4))) (.cst (.int 1)))) (.cons (.set (.nm 9) (.sl (.var 5) none (some (.bin .Sub (.cst (.int 8)) (.var 6))))) .nil) .nil) (.cons (.iff (.ex (.cmp .In (.var 9) (.tupl (.cons (.cst (.str (Ω "fn"))) (.cons (.cst (.str (Ω "rec"))) (.cons (.cst (.str (Ω "call"))) (.cons (.cst (.str (Ω "if"))) .nil))))))) (.cons (.set (.nm 9) (.bin .Mult (.cst (.str (Ω "q"))) (.blt .len (.cons (.var 9) .nil)))) .nil) .nil) (.cons (.drp (.meth .app (.var 7) (.cons (.var 9) .nil))) .nil))))))
     (ks.map D.int) [a,some (.str letters),some (.int l),some (.int p),some (.int r),some (.str b),k,some (.ref h.length),sg,wd] (h++[.lst (fo.map .str)])
     = .ok (.nx,[a,some (.str letters),some (.int l),some (.int p),some (.int r),some (.str b),k',some (.ref h.length),sg',wd']) (h++[.lst ((fo++ks.map (nm b l p r)).map .str)])
 | [],fo,k,sg,wd,h2,h3=>⟨k,sg,wd,by simp⟩
 | c::cs,fo,k,sg,wd,h2,h3=>by
   have hc:=h3 c (by simp)
   obtain ⟨e1,hy⟩:=letter (GD:=U.GD) (h:=h++[.lst (fo.map .str)]) ((r+5 * c) % 26) (by omega) (by omega)
   have m5:opB .Mult (.int 5) (.int c) (h++[.lst (fo.map .str)])=.ok (.int (5 * c)) (h++[.lst (fo.map .str)]):=opB_mul ⟨small_abs (by decide) (by decide),small_abs (by omega) (by omega)⟩
   have m26:opB .Mod (.int (r+5 * c)) (.int 26) (h++[.lst (fo.map .str)])=.ok (.int ((r+5 * c) % 26)) (h++[.lst (fo.map .str)]):=opB_mod (by decide)
   obtain ⟨f1,w1⟩:=sl_str' (h:=h++[.lst (fo.map .str)]) hb (by decide) none (some p)
   obtain ⟨f2,w2⟩:=sl_str' (h:=h++[.lst (fo.map .str)]) hb (by decide) (some (p+1)) (some l)
   obtain ⟨f3,w3⟩:=sl_str' (h:=h++[.lst (fo.map .str)]) hb (by decide) none (some (8 - c))
   obtain ⟨c1,v1⟩:=cat_str (h:=h++[.lst (fo.map .str)]) w1 hy (by decide)
   obtain ⟨c2,v2⟩:=cat_str (h:=h++[.lst (fo.map .str)]) v1 w2 (by decide)
   have d26:opB .FloorDiv (.int r) (.int 26) (h++[.lst (fo.map .str)])=.ok (.int (r / 26)) (h++[.lst (fo.map .str)]):=opB_div (by decide)
   have m4:opB .Mod (.int (r / 26)) (.int 4) (h++[.lst (fo.map .str)])=.ok (.int (r / 26 % 4)) (h++[.lst (fo.map .str)]):=opB_mod (by decide)
   have hz:fo.length<16777216:=by simp at h2;omega
   generalize hy':lt1 ((r+5 * c) % 26)=y at *
   have fin:∀ (wd1:Str),Wl 20 wd1→(xs2 U (.cons (.iff (.ex (.cmp .In (.var 9) (.tupl (.cons (.cst (.str (Ω "fn"))) (.cons (.cst (.str (Ω "rec"))) (.cons (.cst (.str (Ω "call"))) (.cons (.cst (.str (Ω "if"))) .nil))))))) (.cons (.set (.nm 9) (.bin .Mult (.cst (.str (Ω "q"))) (.blt .len (.cons (.var 9) .nil)))) .nil) .nil) (.cons (.drp (.meth .app (.var 7) (.cons (.var 9) .nil))) .nil))
       [a,some (.str letters),some (.int l),some (.int p),some (.int r),some (.str b),some (.int c),some (.ref h.length),some (.str y),some (.str wd1)] (h++[.lst (fo.map .str)]))
       = .ok (.nx,[a,some (.str letters),some (.int l),some (.int p),some (.int r),some (.str b),some (.int c),some (.ref h.length),some (.str y),some (.str (nmQ wd1))]) (h++[.lst (fo.map .str++[.str (nmQ wd1)])]):=by
     intro wd1 hw
     unfold nmQ
     obtain ⟨eq,wq⟩:=rep_q (h:=h++[.lst (fo.map .str)]) hw (by decide)
     by_cases hin:wd1∈[Ω "fn",Ω "rec",Ω "call",Ω "if"]
     · rw [if_pos hin]
       have i4:=in4 (GD:=U.GD) (h:=h++[.lst (fo.map .str)]) (x:=wd1)
       rw [decide_eq_true hin] at i4
       simp only [xs2_cons,xs1_iff,tst_ex,ev_cmp,ev_var,ev_tupl,evs_cons,evs_nil,ev_cst,ΩK,ΩJ,Option.join_some,ofO_some,bnd_ok,bind_ok]
       rw [if_pos (by rw [sizeLine_eq];decide)]
       simp only [bnd_ok,bind_ok,i4,truD_bl,ofO_some,if_true]
       simp [len_str hw,eq,isLst,methD,mthD,mApp,sizeLine_eq,hz]
     · rw [if_neg hin]
       have i4:=in4 (GD:=U.GD) (h:=h++[.lst (fo.map .str)]) (x:=wd1)
       rw [decide_eq_false hin] at i4
       simp only [xs2_cons,xs1_iff,tst_ex,ev_cmp,ev_var,ev_tupl,evs_cons,evs_nil,ev_cst,ΩK,ΩJ,Option.join_some,ofO_some,bnd_ok,bind_ok]
       rw [if_pos (by rw [sizeLine_eq];decide)]
       simp only [bnd_ok,bind_ok,i4,truD_bl,ofO_some]
       simp [isLst,methD,mthD,mApp,sizeLine_eq,hz]
   have go:xs2 U (.cons (.set (.nm 8) (.ix (.var 1) (.bin .Mod (.bin .Add (.var 4) (.bin .Mult (.cst (.int 5)) (.var 6))) (.cst (.int 26))))) (.cons (.set (.nm 9) (.bin .Add (.bin .Add (.sl (.var 5) none (some (.var 3))) (.var 8)) (.sl (.var 5) (some (.bin .Add (.var 3) (.cst (.int 1)))) (some (.var 2))))) (.cons (.iff (.ex (.cmp .Eq (.bin .Mod (.bin .FloorDiv (.var 4) (.cst (.int 26))) (.cst (.int 4))) (.cst (.int 1)))) (.cons (.set (.nm 9) (.sl (.var 5) none (some (.bin .Sub (.cst (.int 8)) (.var 6))))) .nil) .nil) (.cons (.iff (.ex (.cmp .In (.var 9) (.tupl (.cons (.cst (.str (Ω "fn"))) (.cons (.cst (.str (Ω "rec"))) (.cons (.cst (.str (Ω "call"))) (.cons (.cst (.str (Ω "if"))) .nil))))))) (.cons (.set (.nm 9) (.bin .Mult (.cst (.str (Ω "q"))) (.blt .len (.cons (.var 9) .nil)))) .nil) .nil) (.cons (.drp (.meth .app (.var 7) (.cons (.var 9) .nil))) .nil)))))
       [a,some (.str letters),some (.int l),some (.int p),some (.int r),some (.str b),some (.int c),some (.ref h.length),sg,wd] (h++[.lst (fo.map .str)])
       = .ok (.nx,[a,some (.str letters),some (.int l),some (.int p),some (.int r),some (.str b),some (.int c),some (.ref h.length),some (.str y),some (.str (nm b l p r c))]) (h++[.lst (fo.map .str++[.str (nm b l p r c)])]):=by
     unfold nm nmW
     rw [hy']
     by_cases hr:r / 26 % 4=1
     · have q2:=fin _ ⟨w3.1,by have:=w3.2;omega⟩
       rw [if_pos hr,← q2]
       simp [m5,m26,e1,f1,c1,f2,c2,d26,m4,hr,f3]
     · have q2:=fin _ ⟨v2.1,by have:=v2.2;omega⟩
       rw [if_neg hr,← q2]
       simp [m5,m26,e1,f1,c1,f2,c2,d26,m4,hr]
   obtain ⟨k',sg',wd',e3⟩:=l_names (U:=U) (h:=h) (a:=a) (l:=l) (p:=p) (r:=r) hb cs (fo++[nm b l p r c]) (some (.int c)) (some (.str y)) (some (.str (nm b l p r c))) (by simp at h2 ⊢;omega) (fun z hz=>h3 z (by simp [hz]))
   refine ⟨k',sg',wd',?_⟩
   rw [Ωp,forL_cons]
   simp only [bind_nm,List.set_cons_succ,List.set_cons_zero]
   rw [go]
   simp only [bnd_ok,bind_ok]
   have:(fo++[nm b l p r c]).map D.str=fo.map .str++[.str (nm b l p r c)]:=by simp
   rw [← this,e3]
   simp
theorem kw_list{b:List Nat}{x y:Nat}(ne:x≠y):∀ (a:List Nat),a++x::b∈[[102,110],[114,101,99],[99,97,108,108],[105,102]]→a++y::b ∉ [[102,110],[114,101,99],[99,97,108,108],[105,102]]∧a++y::b≠List.replicate (a++x::b).length 113
 | [],h=>by
   simp only [ΩB,Ωr,List.cons.injEq,List.not_mem_nil,or_false] at h
   rcases h with ⟨rfl,rfl⟩|⟨rfl,rfl⟩|⟨rfl,rfl⟩|⟨rfl,rfl⟩<;>simp [List.replicate]<;>omega
 | [p],h=>by
   simp only [List.cons_append,ΩB,Ωr,List.cons.injEq,List.not_mem_nil,or_false] at h
   rcases h with ⟨rfl,rfl,rfl⟩|⟨rfl,rfl,rfl⟩|⟨rfl,rfl,rfl⟩|⟨rfl,rfl,rfl⟩<;>simp [List.replicate]<;>omega
 | [p,q],h=>by
   simp [List.cons_append,ΩB] at h
   rcases h with ⟨rfl,rfl,rfl,rfl⟩|⟨rfl,rfl,rfl,rfl⟩<;>simp [List.replicate]<;>omega
 | [p,q,r],h=>by
   simp [List.cons_append,ΩB] at h
   obtain ⟨rfl,rfl,rfl,rfl,rfl⟩:=h
   simp [List.replicate];omega
 | p::q::r::s::a,h=>by simp at h
theorem kws_list {w:Str}:w∈[Ω "fn",Ω "rec",Ω "call",Ω "if"]↔w.cps.toList∈[[102,110],[114,101,99],[99,97,108,108],[105,102]]:=by
 have e:[[102,110],[114,101,99],[99,97,108,108],[105,102]]=[Ω "fn",Ω "rec",Ω "call",Ω "if"].map (·.cps.toList):=by decide +kernel
 rw [e]
 refine ⟨fun h=>List.mem_map_of_mem h,fun h=>?_⟩
 obtain ⟨v,hv,q⟩:=List.mem_map.mp h
 have:v=w:=by
   obtain ⟨⟨v⟩⟩:=v
   obtain ⟨⟨w⟩⟩:=w
   cases q;rfl
 exact this ▸ hv
theorem rep_list:∀ n,(repS (Ω "q") n).cps.toList=List.replicate n 113
 | n=>by
   have:∀ (n:Nat) (a:Array Nat),((List.replicate n (Ω "q").cps).foldl (·++·) a).toList=a.toList++List.replicate n 113:=by
     intro n
     induction n with
     | zero=>intro a;simp
     | succ n ih=>intro a;rw [List.replicate_succ,List.foldl_cons,ih,Array.toList_append,Ωz,List.replicate_succ];rfl
   have q:=this n #[]
   simpa [repS] using q
theorem nq{a b:List Nat}{x y:Nat}{v w:Str}(hv:v.cps.toList=a++x::b)(hw:w.cps.toList=a++y::b)(ne:x≠y):nmQ v≠nmQ w:=by
 have hl:v.length=(a++x::b).length∧w.length=(a++y::b).length:=by rw [← hv,← hw];exact ⟨by simp [Str.length],by simp [Str.length]⟩
 unfold nmQ
 intro e
 have e':=congrArg (·.cps.toList) e
 simp only [kws_list] at e'
 split at e'
 · rename_i kv
   rw [hv] at kv
   obtain ⟨k1,k2⟩:=kw_list ne a kv
   rw [if_neg (by rw [hw];exact k1),rep_list,hw,hl.1] at e'
   exact k2 e'.symm
 · split at e'
   · rename_i kw
     rw [hw] at kw
     obtain ⟨k1,k2⟩:=kw_list (Ne.symm ne) a kw
     rw [rep_list,hv,hl.2] at e'
     exact k2 e'
   · rw [hv,hw] at e'
     have:=List.append_cancel_left e'
     exact ne (List.cons.inj this).1
theorem nmQ_len(w:Str):(nmQ w).length=w.length:=by
 unfold nmQ
 split
 · rw [repS_len,show (Ω "q").length=1 by decide +kernel,Nat.mul_one]
 · rfl
theorem ltr_inj:∀ i j:Fin 26,ltr (i.val:Int)=ltr (j.val:Int)→i=j:=by decide +kernel
theorem nm_ne{b:Str}{l p r:Int}(hb:b.length=8){c d:Int}(hc:0≤c∧c<5)(hd:0≤d∧d<5)(ne:c≠d):nm b l p r c≠nm b l p r d:=by
 unfold nm nmW
 split
 · intro e
   have e':=congrArg Str.length e
   have len:∀ z:Int,0≤z∧z<5→(StrLaws.sliceText b none (some (8 - z))).length=(8 - z).toNat:=fun z hz=>by
     have h8:b.cps.toList.length=8:=by simpa [Str.length] using hb
     rw [StrLaws.sliceText_to ⟨by omega,by omega⟩]
     show (List.take (8 - z - 0).toNat (List.drop 0 b.cps.toList)).toArray.size=_
     rw [Ωf,List.length_take,List.drop_zero,h8]
     omega
   rw [nmQ_len,nmQ_len,len c hc,len d hd] at e'
   omega
 · refine nq (a:=(StrLaws.sliceText b none (some p)).cps.toList) (b:=(StrLaws.sliceText b (some (p+1)) (some l)).cps.toList) (x:=ltr ((r+5 * c) % 26)) (y:=ltr ((r+5 * d) % 26)) ?_ ?_ ?_
   · show (_++#[ltr ((r+5 * c) % 26)]++_:Array Nat).toList=_
     simp
   · show (_++#[ltr ((r+5 * d) % 26)]++_:Array Nat).toList=_
     simp
   · intro e
     have q:=ltr_inj ⟨((r+5 * c) % 26).toNat,by omega⟩ ⟨((r+5 * d) % 26).toNat,by omega⟩ (by
       show ltr (((r+5 * c) % 26).toNat:Int)=ltr (((r+5 * d) % 26).toNat:Int)
       rw [Int.toNat_of_nonneg (by omega),Int.toNat_of_nonneg (by omega)];exact e)
     have q:=Fin.mk.inj q
     omega
theorem nm_nodup{b:Str}{l p r:Int}(hb:b.length=8):(([0,1,2,3,4]:List Int).map (nm b l p r)).Nodup:=by
 refine List.pairwise_map.mpr (List.Pairwise.imp_of_mem (R:=fun x y=>x≠y) (fun {x y} hx hy ne=>nm_ne hb ?_ ?_ ne) (by decide))
 · simp at hx;omega
 · simp at hy;omega
theorem r_names {P:Pg} (H:Mkr P) (n:Nat) (v:Int) (h:Hd):∃ ns:List Str,ns.length=5∧(∀ x∈ns,Wl 20 x)∧ns.Nodup∧run P (n+1) (Ω "_law_names") [.int v] h=.ok (.ref h.length) (h++[.lst (ns.map .str)]):=by
 rw [run_def H.names rfl]
 have u8:upFrom 0 8=[0,1,2,3,4,5,6,7].map D.int:=by rfl
 have u5:upFrom 0 5=[0,1,2,3,4].map D.int:=by rfl
 have m8:opB .Mod (.int v) (.int 8) h=.ok (.int (v % 8)) h:=opB_mod (by decide)
 have d8:opB .FloorDiv (.int v) (.int 8) h=.ok (.int (v / 8)) h:=opB_div (by decide)
 have mp:opB .Mod (.int (v / 8)) (.int (1+v % 8)) h=.ok (.int (v / 8 % (1+v % 8))) h:=opB_mod (by omega)
 have d64:opB .FloorDiv (.int v) (.int 64) h=.ok (.int (v / 64)) h:=opB_div (by decide)
 obtain ⟨r',b,k',hb,hb8,e1⟩:=l_base (U:=⟨P.G,P.GD,run P n,P.L⟩) (h:=h) (a:=some (.int v)) (l:=some (.int (1+v % 8))) (p:=some (.int (v / 8 % (1+v % 8)))) (f:=none) (sg:=none) (wd:=none) [0,1,2,3,4,5,6,7] (v / 64) (Ω "") 0 none ⟨by decide +kernel,by decide +kernel⟩ (by decide +kernel) (by decide)
 obtain ⟨k2,sg',wd',e2⟩:=l_names (U:=⟨P.G,P.GD,run P n,P.L⟩) (h:=h) (a:=some (.int v)) (l:=1+v % 8) (p:=v / 8 % (1+v % 8)) (r:=r') hb [0,1,2,3,4] [] k' none none (by decide) (by decide)
 refine ⟨[0,1,2,3,4].map (nm b (1+v % 8) (v / 8 % (1+v % 8)) r'),rfl,fun x hx=>?_,nm_nodup hb8,?_⟩
 · obtain ⟨c,_,rfl⟩:=List.mem_map.mp hx
   exact nm_ok hb _ _ _ _
 generalize nm b (1+v % 8) (v / 8 % (1+v % 8)) r'=F at e2 ⊢
 simp only [Ωy,ΩB] at e2
 have s8:small62 8=true:=by decide
 have s5:small62 5=true:=by decide
 unfold letters at e1 e2
 rw [← u8] at e1
 rw [← u5] at e2
 try simp at e1
 try simp at e2
 simp [f_law_names,b_law_names,startD,m8,d8,mp,d64,s8,s5,e1,e2,sizeLine_eq]
end Gn
end
section
set_option tactic.hygienic false
namespace Gn
open PySem L2 IV
noncomputable abbrev Scp:=List (Str×Str)
noncomputable def pairOf(p:Str×Str):D:=.tup [.str p.1,.str p.2]
noncomputable def ScAt(h:Hd)(k:Nat)(sc:Scp):Prop:=h[k]? = some (.lst (sc.map pairOf))
structure KnOk(sc:Scp)(kn:List (Key×D)):Prop where
 key:∀ p∈kn,∃ x,p.1=Sum.inr x∧x∈sc.map (·.1)
 val:∀ p∈kn,∃ s,p.2=D.str s
theorem putD_mem{kn:List (Key×D)}{k:Key}{v:D}{p:Key×D}(h:p∈putD kn k v):p∈kn∨p=(k,v):=by
 unfold putD at h
 split at h
 · obtain ⟨q,hq,e⟩:=List.mem_map.mp h
   split at e
   · rename_i ek
     right
     rw [← e,ek]
   · left
     rw [← e];exact hq
 · rcases ΩD.mp h with z|z
   · exact .inl z
   · exact .inr (Ωx.mp z)
theorem putD_len{kn:List (Key×D)}{k:Key}{v:D}:(putD kn k v).length≤kn.length+1:=by
 unfold putD
 split<;>simp
theorem put_dic{h:Hd}{kn:List (Key×D)}{x:Str}{v:D}(hz:kn.length<1000):putIx (.ref h.length) (.str x) v (h++[.dic kn])=.ok () (h++[.dic (putD kn (.inr x) v)]):=by
 simp only [putIx,at_0,keyOf]
 rw [if_pos (by rw [sizeLine_eq];omega)]
 simp
theorem l_there{U:Tb}{h:Hd}{k:Nat}{sc0:Scp}{w:Option D}(hs:ScAt h k sc0):∀ (sc:Scp) (kn:List (Key×D)) (a b:Option D),(∀ p∈sc,p∈sc0)→KnOk sc0 kn→kn.length+sc.length≤500→∃ kn' a' b',KnOk sc0 kn'∧kn'.length≤kn.length+sc.length ∧
   forL (some (k,sc0.map pairOf)) (.two 3 4) (xs2 U (.cons (.put (.var 2) (.var 3) (.var 4)) .nil)) (sc.map pairOf) [some (.ref k),w,some (.ref h.length),a,b] (h++[.dic kn])
     = .ok (.nx,[some (.ref k),w,some (.ref h.length),a',b']) (h++[.dic kn'])
 | [],kn,a,b,h1,h2,h3=>by
   refine ⟨kn,a,b,h2,by simp,?_⟩
   have:(h++[DO.dic kn])[k]? = some (.lst (sc0.map pairOf)):=by rw [Ωe (lt_of_at hs)];exact hs
   simp [forL,Wk.stays,this]
 | (x,s)::sc,kn,a,b,h1,h2,h3=>by
   simp only [Ωs] at h3
   have st:(h++[DO.dic kn])[k]? = some (.lst (sc0.map pairOf)):=by rw [Ωe (lt_of_at hs)];exact hs
   have hk:KnOk sc0 (putD kn (.inr x) (.str s)):=by
     refine ⟨fun p hp=>?_,fun p hp=>?_⟩
     · rcases putD_mem hp with z|rfl
       · exact h2.key p z
       · exact ⟨x,rfl,List.mem_map.mpr ⟨(x,s),h1 _ (by simp),rfl⟩⟩
     · rcases putD_mem hp with z|rfl
       · exact h2.val p z
       · exact ⟨s,rfl⟩
   have pl:=putD_len (kn:=kn) (k:=.inr x) (v:=.str s)
   obtain ⟨kn',a',b',q1,q2,e⟩:=l_there (U:=U) (w:=w) hs sc (putD kn (.inr x) (.str s)) (some (.str x)) (some (.str s)) (fun p hp=>h1 p (by simp [hp])) hk (by omega)
   refine ⟨kn',a',b',q1,by simp only [Ωs];omega,?_⟩
   rw [Ωp,forL]
   simp only [Wk.stays,st,decide_true,if_true]
   have e2:=put_dic (h:=h) (kn:=kn) (x:=x) (v:=.str s) (by omega)
   simp [pairOf,e2]
   simpa [pairOf] using e
theorem find_key{kn:List (Key×D)}{x:Str}(hx:Sum.inr x∈kn.map (·.1)):∃ v,valD kn (.inr x)=some v∧(Sum.inr x,v)∈kn:=by
 induction kn with
 | nil=>simp at hx
 | cons p r ih =>
   unfold valD
   by_cases e:p.1=Sum.inr x
   · refine ⟨p.2,?_,?_⟩
     · simp [List.find?_cons,e]
     · rw [← e];exact Ωi
   · obtain ⟨v,h1,h2⟩:=ih (by simpa [Ne.symm e] using hx)
     refine ⟨v,?_,Ωh _ h2⟩
     simpa [List.find?_cons,e,valD] using h1
theorem keys_of{sc:Scp}:∀ {kn:List (Key×D)},(∀ p∈kn,∃ x,p.1=Sum.inr x∧x∈sc.map (·.1))→∃ ss,keyStrs kn=some ss∧ss.length=kn.length∧(∀ x∈ss,x∈sc.map (·.1)∧Sum.inr x∈kn.map (·.1))
 | [],_=>⟨[],rfl,rfl,by simp⟩
 | (k,v)::r,h=>by
   obtain ⟨x,e,hx⟩:=h (k,v) (by simp)
   cases e
   obtain ⟨ss,e1,e2,e3⟩:=keys_of (kn:=r) fun p hp=>h p (by simp [hp])
   refine ⟨x::ss,by rw [keyStrs,e1];rfl,by simp [e2],fun y hy=>?_⟩
   rcases Ωr.mp hy with rfl|hy
   · exact ⟨hx,by simp⟩
   · exact ⟨(e3 y hy).1,by simp [(e3 y hy).2]⟩
theorem l_comp{U:Tb}{h:Hd}{kn:List (Key×D)}{w:Str}{so:List Str}(hv:∀ p∈kn,∃ s,p.2=D.str s):∀ (xs:List Str) (acc:List Str),(∀ x∈xs,Sum.inr x∈kn.map (·.1))→acc.length+xs.length≤1000→∃ ys,(∀ y∈ys,y∈xs) ∧
   compL (some (h.length+1,so.map D.str)) (.nm 0) (tsto U (some (.ex (.cmp .Eq (.ix (.var 2) (.var 0)) (.var 1))))) (ev U (.var 0)) (xs.map D.str) [none,some (.str w),some (.ref h.length)] (acc.map .str) (h++[.dic kn,.lst (so.map .str)])
     = .ok ((acc++ys).map .str) (h++[.dic kn,.lst (so.map .str)])
 | [],acc,h1,h2=>⟨[],by simp,by simp [compL,Wk.stays]⟩
 | x::xs,acc,h1,h2=>by
   simp only [Ωs] at h2
   obtain ⟨v,e1,hm⟩:=find_key (h1 x (by simp))
   obtain ⟨s,rfl⟩:∃ s,v=D.str s:=hv _ hm
   have ix:opIx U.GD (.ref h.length) (.str x) (h++[.dic kn,.lst (so.map .str)])=.ok (.str s) (h++[.dic kn,.lst (so.map .str)]):=by
     simp [opIx,dicOf,e1]
   have hz:acc.length<sizeLine:=by rw [sizeLine_eq];omega
   by_cases hw:s=w
   · obtain ⟨ys,q1,q2⟩:=l_comp (U:=U) (h:=h) (w:=w) (so:=so) hv xs (acc++[x]) (fun y hy=>h1 y (by simp [hy])) (by simp;omega)
     refine ⟨x::ys,fun y hy=>?_,?_⟩
     · rcases Ωr.mp hy with rfl|hy
       · simp
       · simp [q1 y hy]
     · rw [Ωp,compL_cons]
       simp at q2
       simp [Wk.stays,hz,ix,hw,q2]
   · obtain ⟨ys,q1,q2⟩:=l_comp (U:=U) (h:=h) (w:=w) (so:=so) hv xs acc (fun y hy=>h1 y (by simp [hy])) (by omega)
     refine ⟨ys,fun y hy=>by simp [q1 y hy],?_⟩
     rw [Ωp,compL_cons]
     simp at q2
     simp [Wk.stays,hz,ix,hw,q2]
theorem r_there{P:Pg}(H:Mkr P)(n:Nat){h:Hd}{k:Nat}{sc:Scp}(w:Str)(hs:ScAt h k sc)(hl:sc.length≤60)(hok:∀ p∈sc,PyData.strOk p.1=true):∃ (ys:List Str) (g:Hd),(∀ y∈ys,y∈sc.map (·.1))∧g.length=2 ∧
   run P (n+1) (Ω "_law_there") [.ref k,.str w] h=.ok (.ref (h.length+2)) (h++g++[.lst (ys.map .str)]):=by
 rw [run_def H.there rfl]
 obtain ⟨kn,a',b',hk,hkl,e1⟩:=l_there (U:=⟨P.G,P.GD,run P n,P.L⟩) (w:=some (.str w)) hs sc [] none none (fun _ hp=>hp) ⟨by simp,by simp⟩ (by simp;omega)
 obtain ⟨ss,e2,e3,e4⟩:=keys_of hk.key
 have all:ss.all PyData.strOk=true:=by
   rw [ΩC]
   intro x hx
   obtain ⟨p,hp,rfl⟩:=List.mem_map.mp (e4 x hx).1
   exact hok p hp
 have perm:=sort_perm ss
 obtain ⟨ys,q1,q2⟩:=l_comp (U:=⟨P.G,P.GD,run P n,P.L⟩) (h:=h) (kn:=kn) (w:=w) (so:=sortS ss) hk.val (sortS ss) [] (fun x hx=>(e4 x (perm.mem_iff.mp hx)).2) (by rw [perm.length_eq];simp at hkl ⊢;omega)
 refine ⟨ys,[.dic kn,.lst ((sortS ss).map .str)],fun y hy=>(e4 y (perm.mem_iff.mp (q1 y hy))).1,rfl,?_⟩
 have hsrt:bltD P.GD .srt [.ref h.length] (h++[.dic kn])=.ok (.ref (h.length+1)) (h++[.dic kn,.lst ((sortS ss).map .str)]):=by
   show bSorted P.GD [.ref h.length] (h++[.dic kn])=_
   simp only [bSorted,dicOf,at_0,Option.bind_some,e2]
   rw [if_pos ⟨by simp at hkl;omega,all⟩]
   simp
 have hw1:walkOf (.ref k) (h++[DO.dic []])=some ⟨some (k,sc.map pairOf),sc.map pairOf⟩:=by
   have:(h++[DO.dic []])[k]? = some (.lst (sc.map pairOf)):=by rw [Ωe (lt_of_at hs)];exact hs
   simp [walkOf,this]
 have hw2:walkOf (.ref (h.length+1)) (h++[DO.dic kn,.lst ((sortS ss).map .str)])=some ⟨some (h.length+1,(sortS ss).map .str),(sortS ss).map .str⟩:=by
   simp [walkOf]
 simp at q2 e1
 simp [f_law_there,b_law_there,startD,pairsD,mergeD,hw1,e1,hsrt,hw2,captD,q2]
end Gn
end
section
namespace Gn
open PySem L2 IV
structure Ctx(cs:List Int)(ns:List Str)(h:Hd)(i j m k:Nat)(sc:Scp)(a b:Int):Prop where
 st:St3 h i j cs a b
 nm:h[m]? = some (.lst (ns.map .str))
 n5:ns.length=5
 nok:∀ x∈ns,Wl 20 x
 nd:ns.Nodup
 sca:ScAt h k sc
 sco:∀ p∈sc,Wl 20 p.1
 im:i≠m
 ik:i≠k
 ab:0≤a
variable {P:Pg}{cs:List Int}{ns:List Str}{h h':Hd}{i j m k:Nat}{sc:Scp}{a b a' b':Int}
theorem Ctx.up(c:Ctx cs ns h i j m k sc a b)(u:Up i h h')(st:St3 h' i j cs a' b')(ab:0≤a'):Ctx cs ns h' i j m k sc a' b' :=
 ⟨st,u.at c.nm (Ne.symm c.im),c.n5,c.nok,c.nd,u.at c.sca (Ne.symm c.ik),c.sco,c.im,c.ik,ab⟩
theorem St3.app{g:Hd}(s:St3 h i j cs a b):St3 (h++g) i j cs a b :=
 ⟨by rw [Ωe (lt_of_at s.1)];exact s.1,by rw [Ωe (lt_of_at s.2.1)];exact s.2.1,s.2.2⟩
theorem Ctx.app{g:Hd}(c:Ctx cs ns h i j m k sc a b):Ctx cs ns (h++g) i j m k sc a b:=c.up Up.app c.st.app c.ab
theorem Ctx.name(c:Ctx cs ns h i j m k sc a b){GD:Str→Option (List (Key×D))}(v:Int)(h0:0≤v)(h5:v<5):∃ x,opIx GD (.ref m) (.int v) h=.ok (.str x) h∧Wl 20 x∧ns[v.toNat]? = some x:=by
 obtain ⟨q,rfl⟩:∃ q:Nat,v=q:=⟨v.toNat,by omega⟩
 have hq:q<ns.length:=by have:=c.n5;omega
 refine ⟨ns[q],?_,c.nok _ (List.getElem_mem hq),Ωg hq⟩
 rw [opIx_lst c.nm,IV.atI_nat,Ωn,Ωg hq]
 rfl
noncomputable def A(r:Nat):Int:=4 ^ (r+1)
theorem A_pos(r:Nat):0<A r:=Int.pow_pos (by decide)
theorem A_succ(r:Nat):A (r+1)=4 * A r:=by unfold A;rw [Int.pow_succ];omega
inductive Made(cs:List Int)(h:Hd)(i j:Nat)(sc:Scp)(a mx:Int)(dm:Nat)(r:R D):Prop
 | mk (t:T) (h':Hd) (a' b':Int) (e:r=.ok (T.d t) h') (u:Up i h h') (s:St3 h' i j cs a' b') (l1:a≤a') (l2:a'≤a+mx) (c:Cl (sc.map (·.1)) t) (p:dep t≤dm)
noncomputable def AnyAt(P:Pg)(r n0:Nat):Prop:=∀ (n:Nat) (cs:List Int) (ns:List Str) (h:Hd) (i j m k:Nat) (sc:Scp) (a b:Int) (w:Str) (room:Int),room≤r→Ctx cs ns h i j m k sc a b→sc.length+2 * r≤50→a+A r<2 ^ 50 →
 Made cs h i j sc a (A r) (3 * r+3) (run P (n+n0) (Ω "_law_any") [.str w,.ref k,.ref i,.ref m,.int room] h)
theorem any_head(H:Mkr P)(n:Nat)(c:Ctx cs ns h i j m k sc a b)(w:Str)(room:Int)(hl:sc.length≤50)(ha:a<2 ^ 50)(T1 T2 T3:Option D):∃ (v:Int) (w':Str) (ys:List Str) (h':Hd) (l:Nat),
   xs2 ⟨P.G,P.GD,run P (n+2),P.L⟩ (.cons b_law_any_1 (.cons b_law_any_2 (.cons b_law_any_3 (.cons b_law_any_4 (.cons b_law_any_5 .nil))))) [some (.str w),some (.ref k),some (.ref i),some (.ref m),some (.int room),T1,T2,T3,none,none] h
     = .ok (.nx,[some (.str w'),some (.ref k),some (.ref i),some (.ref m),some (.int room),some (.int v),some (.int (v / 87)),some (.ref l),none,none]) h'∧Up i h h'∧Ctx cs ns h' i j m k sc (a+1) (b - 1)∧h'[l]? = some (.lst (ys.map .str))∧(∀ y∈ys,y∈sc.map (·.1)):=by
 have i1:=c.st.1
 have lt:=lt_of_at i1
 have p1:putIx (.ref i) (.int 2) (.int (b - 1)) h=.ok () (h.set i (.lst [.ref j,.int a,.int (b - 1)])):=by
   simp only [putIx,i1]
   rfl
 have s1:St3 (h.set i (.lst [.ref j,.int a,.int (b - 1)])) i j cs a (b - 1):=⟨by rw [Ωl lt],by rw [Ωc c.st.2.2];exact c.st.2.1,c.st.2.2⟩
 have c1:=c.up Up.set s1 c.ab
 obtain ⟨v,e2,_⟩:=r_next H n s1 ⟨c.ab,ha⟩
 have lt1:i<(h.set i (.lst [.ref j,.int a,.int (b - 1)])).length:=by simpa using lt
 have s2:St3 ((h.set i (.lst [.ref j,.int a,.int (b - 1)])).set i (.lst [.ref j,.int (a+1),.int (b - 1)])) i j cs (a+1) (b - 1):=⟨by rw [Ωl lt1],by rw [Ωc c.st.2.2];exact s1.2.1,c.st.2.2⟩
 have c2:=c1.up Up.set s2 (by have:=c.ab;omega)
 generalize hh2:(h.set i (.lst [.ref j,.int a,.int (b - 1)])).set i (.lst [.ref j,.int (a+1),.int (b - 1)])=h2 at e2 s2 c2
 have u2:Up i h h2:=hh2 ▸ Up.set.trans Up.set
 have m29:∀ h,opB .Mod (.int v) (.int 29) h=.ok (.int (v % 29)) h:=fun h=>opB_mod (by decide)
 have d29:∀ h,opB .FloorDiv (.int v) (.int 29) h=.ok (.int (v / 29)) h:=fun h=>opB_div (by decide)
 have m3:∀ h,opB .Mod (.int (v / 29)) (.int 3) h=.ok (.int (v / 29 % 3)) h:=fun h=>opB_mod (by decide)
 have d87:∀ h,opB .FloorDiv (.int v) (.int 87) h=.ok (.int (v / 87)) h:=fun h=>opB_div (by decide)
 have hix:opIx P.GD (.ref i) (.int 2) h=.ok (.int b) h:=by rw [opIx_lst i1];simp
 have step3:∃ (w':Str) (h3:Hd),xs1 ⟨P.G,P.GD,run P (n+2),P.L⟩ b_law_any_3 [some (.str w),some (.ref k),some (.ref i),some (.ref m),some (.int room),some (.int v),T2,T3,none,none] h2
     = .ok (.nx,[some (.str w'),some (.ref k),some (.ref i),some (.ref m),some (.int room),some (.int v),T2,T3,none,none]) h3∧Up i h2 h3∧Ctx cs ns h3 i j m k sc (a+1) (b - 1):=by
   by_cases hv:v % 29=0
   · have q:v / 29 % 3=0∨v / 29 % 3=1∨v / 29 % 3=2:=by omega
     have ix:∀ z:Int,opIx P.GD (.ref h2.length) (.int z) (h2++[.lst [.str (Ω "n"),.str (Ω "f"),.str (Ω "g")]])=R.ofO (atI [.str (Ω "n"),.str (Ω "f"),.str (Ω "g")] z) _:=fun z=>opIx_lst at_0
     rcases q with q|q|q
     · exact ⟨Ω "n",h2++[.lst [.str (Ω "n"),.str (Ω "f"),.str (Ω "g")]],by simp [b_law_any_3,m29,hv,d29,m3,sizeLine_eq,ix,q],Up.app,c2.app⟩
     · exact ⟨Ω "f",h2++[.lst [.str (Ω "n"),.str (Ω "f"),.str (Ω "g")]],by simp [b_law_any_3,m29,hv,d29,m3,sizeLine_eq,ix,q],Up.app,c2.app⟩
     · exact ⟨Ω "g",h2++[.lst [.str (Ω "n"),.str (Ω "f"),.str (Ω "g")]],by simp [b_law_any_3,m29,hv,d29,m3,sizeLine_eq,ix,q],Up.app,c2.app⟩
   · exact ⟨w,h2,by simp [b_law_any_3,m29,hv],Up.refl,c2⟩
 obtain ⟨w',h3,e3,u3,c3⟩:=step3
 obtain ⟨ys,g,hy,hg,e5⟩:=r_there H (n+1) w' c3.sca (by omega) (fun p hp=>(c3.sco p hp).1)
 refine ⟨v,w',ys,h3++g++[.lst (ys.map .str)],h3.length+2,?_,(u2.trans u3).trans (Up.app.trans Up.app),c3.app.app,?_,hy⟩
 · have x1:xs1 ⟨P.G,P.GD,run P (n+2),P.L⟩ b_law_any_1 [some (.str w),some (.ref k),some (.ref i),some (.ref m),some (.int room),T1,T2,T3,none,none] h=.ok (.nx,[some (.str w),some (.ref k),some (.ref i),some (.ref m),some (.int room),T1,T2,T3,none,none]) (h.set i (.lst [.ref j,.int a,.int (b - 1)])):=by
     simp [b_law_any_1,hix,p1]
   have x2:xs1 ⟨P.G,P.GD,run P (n+2),P.L⟩ b_law_any_2 [some (.str w),some (.ref k),some (.ref i),some (.ref m),some (.int room),T1,T2,T3,none,none] (h.set i (.lst [.ref j,.int a,.int (b - 1)]))=.ok (.nx,[some (.str w),some (.ref k),some (.ref i),some (.ref m),some (.int room),some (.int v),T2,T3,none,none]) h2:=by
     simp [b_law_any_2,e2]
   have x4:∀ q,xs1 ⟨P.G,P.GD,run P (n+2),P.L⟩ b_law_any_4 [some (.str w'),some (.ref k),some (.ref i),some (.ref m),some (.int room),some (.int v),q,T3,none,none] h3=.ok (.nx,[some (.str w'),some (.ref k),some (.ref i),some (.ref m),some (.int room),some (.int v),some (.int (v / 87)),T3,none,none]) h3:=by
     intro q;simp [b_law_any_4,d87]
   have x5:xs1 ⟨P.G,P.GD,run P (n+2),P.L⟩ b_law_any_5 [some (.str w'),some (.ref k),some (.ref i),some (.ref m),some (.int room),some (.int v),some (.int (v / 87)),T3,none,none] h3=.ok (.nx,[some (.str w'),some (.ref k),some (.ref i),some (.ref m),some (.int room),some (.int v),some (.int (v / 87)),some (.ref (h3.length+2)),none,none]) (h3++g++[.lst (ys.map .str)]):=by
     simp only [b_law_any_5,xs1_set,ev_call,evs_cons,evs_nil,ev_var,ΩK,ΩJ,Option.join_some,ofO_some,bnd_ok,bind_ok,e5]
     rfl
   simp only [xs2_cons,x1,bnd_ok,bind_ok,x2,e3,x4,x5,xs2_nil]
 · have:h3.length+2=(h3++g).length:=by simp [hg]
   rw [this]
   simp
end Gn
end
section
set_option tactic.hygienic false
namespace Gn
open PySem L2 IV
variable {P:Pg}{cs:List Int}{ns:List Str}{h h':Hd}{i j m k:Nat}{sc:Scp}{a b a' b':Int}
theorem Cl.mono{sc sc':List Str}:∀ {t:T},(∀ x∈sc,x∈sc')→Cl sc t→Cl sc' t
 | .num n,_,c=>c
 | .name x,s,c=>s x c
 | .fn x e,s,c=>Cl.mono (t:=e) (fun y hy=>by
     rcases Ωr.mp hy with z|z
     · rw [z];exact Ωi
     · exact Ωh _ (s y z)) c
 | .rcc f x e,s,c=>⟨Cl.mono (t:=e) (fun y hy=>by
     rcases Ωr.mp hy with z|z
     · rw [z];exact Ωi
     · rcases Ωr.mp z with q|q
       · rw [q];exact Ωh _ Ωi
       · exact Ωh _ (Ωh _ (s y q))) c.1,c.2⟩
 | .call f e,s,c=>⟨Cl.mono s c.1,Cl.mono s c.2⟩
 | .iff p q r,s,c=>⟨Cl.mono s c.1,Cl.mono s c.2.1,Cl.mono s c.2.2⟩
 | .op w p q,s,c=>⟨Cl.mono s c.1,Cl.mono s c.2⟩
noncomputable def wdOf(z:Int):Wd:=if z=0 then .add else if z=1 then .sub else if z=2 then .mul else .lt
theorem wd4 (z:Int) (h0:0≤z) (h4:z<4):atI [D.str (Ω "+"),.str (Ω "-"),.str (Ω "*"),.str (Ω "<")] z=some (.str (wdOf z).s):=by
 have:z=0∨z=1∨z=2∨z=3:=by omega
 rcases this with rfl|rfl|rfl|rfl<;>simp [wdOf,Wd.s]
theorem num_ok(H:Mkr P){r n0:Nat}(ih:AnyAt P r n0)(hn:1≤n0)(n:Nat)(c:Ctx cs ns h i j m k sc a b)(rest:Int)(room:Int)(hr:room≤r)(hl:sc.length+2 * r≤50)(ha:a+2 * A r<2 ^ 50) :
   Made cs h i j sc a (2 * A r) (3 * r+4) (run P (n+n0+1) (Ω "_law_number") [.int rest,.ref k,.ref i,.ref m,.int room] h):=by
 have Ap:=A_pos r
 rw [run_alk H.number rfl]
 have m6:∀ h,opB .Mod (.int rest) (.int 6) h=.ok (.int (rest % 6)) h:=fun h=>opB_mod (by decide)
 have d6:∀ h,opB .FloorDiv (.int rest) (.int 6) h=.ok (.int (rest / 6)) h:=fun h=>opB_div (by decide)
 have m4:∀ h,opB .Mod (.int (rest / 6)) (.int 4) h=.ok (.int (rest / 6 % 4)) h:=fun h=>opB_mod (by decide)
 obtain ⟨n1,e1⟩:∃ n1,n+n0=n1+1:=⟨n+n0 - 1,by omega⟩
 by_cases h0:rest % 6=0
 · obtain ⟨t,g,e2,ct,pt⟩:=r_plain H n1 (Ω "n") (rest / 6) h (sc.map (·.1))
   refine ⟨t,h++g,a,b,?_,Up.app,c.st.app,by omega,by omega,ct,by omega⟩
   rw [← e1] at e2
   simp [f_law_number,b_law_number,b_law_number_1,b_law_number_2,startD,m6,h0,d6,e2]
 · by_cases h3:rest % 6<3
   · obtain ⟨t1,g1,a1,b1,e2,u1,s1,l1,l2,c1,p1⟩:=ih n cs ns h i j m k sc a b (Ω "n") room hr c hl (by omega)
     have cc:=c.up u1 s1 (by have:=c.ab;omega)
     have hx:∀ z:Int,opIx P.GD (.ref g1.length) (.int z) (g1++[.lst [.str (Ω "+"),.str (Ω "-"),.str (Ω "*"),.str (Ω "<")]])=R.ofO (atI [.str (Ω "+"),.str (Ω "-"),.str (Ω "*"),.str (Ω "<")] z) _:=fun z=>opIx_lst at_0
     obtain ⟨t2,g2,a2,b2,e3,u2,s2,l3,l4,c2,p2⟩:=ih n cs ns (g1++[.lst [.str (Ω "+"),.str (Ω "-"),.str (Ω "*"),.str (Ω "<")]]) i j m k sc a1 b1 (Ω "n") room hr cc.app hl (by omega)
     refine ⟨.op (wdOf (rest / 6 % 4)) t1 t2,g2,a2,b2,?_,u1.trans (Up.app.trans u2),s2,by omega,by omega,⟨c1,c2⟩,by simp only [dep];omega⟩
     have w4:=wd4 (rest / 6 % 4) (by omega) (by omega)
     simp [f_law_number,b_law_number,b_law_number_1,b_law_number_2,b_law_number_3,startD,m6,h0,h3,e2,d6,m4,sizeLine_eq,hx,w4,e3,T.d]
   · have hx:∀ z:Int,opIx P.GD (.ref h.length) (.int z) (h++[.lst [.str (Ω "f"),.str (Ω "f"),.str (Ω "g")]])=R.ofO (atI [.str (Ω "f"),.str (Ω "f"),.str (Ω "g")] z) _:=fun z=>opIx_lst at_0
     have w3:∃ ws,(ws=Ω "f" ∨ ws=Ω "g")∧atI [D.str (Ω "f"),.str (Ω "f"),.str (Ω "g")] (rest % 6 - 3)=some (.str ws):=by
       have:rest % 6 - 3=0∨rest % 6 - 3=1∨rest % 6 - 3=2:=by omega
       rcases this with q|q|q<;>rw [q]<;>simp
     obtain ⟨ws,hws,w3⟩:=w3
     obtain ⟨t1,g1,a1,b1,e2,u1,s1,l1,l2,c1,p1⟩:=ih n cs ns (h++[.lst [.str (Ω "f"),.str (Ω "f"),.str (Ω "g")]]) i j m k sc a b ws room hr c.app hl (by omega)
     have cc:=c.app.up u1 s1 (by have:=c.ab;omega)
     have dd:∃ ws',opIx P.GD (.ref g1.length) (.str ws) (g1++[.dic [(.inr (Ω "f"),.str (Ω "n")),(.inr (Ω "g"),.str (Ω "f"))]])=.ok (.str ws') (g1++[.dic [(.inr (Ω "f"),.str (Ω "n")),(.inr (Ω "g"),.str (Ω "f"))]]):=by
       rcases hws with rfl|rfl
       · exact ⟨Ω "n",by simp [opIx,dicOf,valD]⟩
       · exact ⟨Ω "f",by simp [opIx,dicOf,valD]⟩
     obtain ⟨ws',dd⟩:=dd
     obtain ⟨t2,g2,a2,b2,e3,u2,s2,l3,l4,c2,p2⟩:=ih n cs ns (g1++[.dic [(.inr (Ω "f"),.str (Ω "n")),(.inr (Ω "g"),.str (Ω "f"))]]) i j m k sc a1 b1 ws' room hr cc.app hl (by omega)
     refine ⟨.call t1 t2,g2,a2,b2,?_,Up.app.trans (u1.trans (Up.app.trans u2)),s2,by omega,by omega,⟨c1,c2⟩,by simp only [dep];omega⟩
     simp [f_law_number,b_law_number,b_law_number_1,b_law_number_2,b_law_number_3,b_law_number_4,b_law_number_5,b_law_number_6,startD,m6,h0,h3,sizeLine_eq,hx,w3,e2,pairsD,keyOf,mergeD,putD,dd,e3,T.d]
end Gn
end
section
set_option tactic.hygienic false
namespace Gn
open PySem L2 IV
variable {P:Pg}{cs:List Int}{ns:List Str}{h h':Hd}{i j m k:Nat}{sc:Scp}{a b a' b':Int}
theorem Ctx.wider(c:Ctx cs ns h i j m k sc a b)(more:Scp)(hm:∀ p∈more,Wl 20 p.1):Ctx cs ns (h++[.lst (more.map pairOf),.lst ((sc++more).map pairOf)]) i j m (h.length+1) (sc++more) a b:=by
 have c1:=c.app (g:=[.lst (more.map pairOf),.lst ((sc++more).map pairOf)])
 refine ⟨c1.st,c1.nm,c1.n5,c1.nok,c1.nd,by unfold ScAt;simp,fun p hp=>?_,c1.im,?_,c1.ab⟩
 · rcases ΩD.mp hp with z|z
   · exact c.sco p z
   · exact hm p z
 · have:=lt_of_at c.st.1
   omega
theorem cat_lst(c:Ctx cs ns h i j m k sc a b)(more:Scp)(hz:sc.length+more.length≤100):opB .Add (.ref k) (.ref h.length) (h++[.lst (more.map pairOf)])=.ok (.ref (h.length+1)) (h++[.lst (more.map pairOf),.lst ((sc++more).map pairOf)]):=by
 have hk:(h++[DO.lst (more.map pairOf)])[k]? = some (.lst (sc.map pairOf)):=by rw [Ωe (lt_of_at c.sca)];exact c.sca
 simp only [opB,addB,hk,at_0]
 rw [if_pos (by simp;rw [sizeLine_eq];omega)]
 simp
theorem sub1{sc:Scp}{x s:Str}:∀ y∈(sc++[(x,s)]).map (·.1),y∈x::sc.map (·.1):=fun y hy=>by
 rw [List.map_append] at hy
 rcases ΩD.mp hy with z|z
 · exact Ωh _ z
 · have:y=x:=by simpa using z
   rw [this];exact Ωi
theorem unlike{ns:List Str}(n5:ns.length=5)(nd:ns.Nodup){x f:Str}{rest:Int}(ax:ns[(rest % 5).toNat]? = some x)(af:ns[((rest % 5+1+rest / 15 % 4) % 5).toNat]? = some f):f≠x:=fun e=>by
 have q:=(List.getElem?_inj (i:=(rest % 5).toNat) (j:=((rest % 5+1+rest / 15 % 4) % 5).toNat) (by rw [n5];omega) nd).mp (by rw [ax,af,e])
 omega
noncomputable def fe(w:Str)(rest:Int)(k i m:Nat)(room:Int)(a b c d:Option D):Ev:=[some (.str w),some (.int rest),some (.ref k),some (.ref i),some (.ref m),some (.int room),a,b,c,d]
theorem fun_ok(H:Mkr P){r n0:Nat}(ih:AnyAt P r n0)(n:Nat)(c:Ctx cs ns h i j m k sc a b)(w:Str)(rest:Int)(room:Int)(hr:room≤r)(hl:sc.length+2+2 * r≤50)(ha:a+2 * A r<2 ^ 50) :
   Made cs h i j sc a (2 * A r) (3 * r+6) (run P (n+n0+1) (Ω "_law_function") [.str w,.int rest,.ref k,.ref i,.ref m,.int room] h):=by
 have Ap:=A_pos r
 have hab:=c.ab
 rw [run_alk H.function rfl]
 have md:∀ (y z:Int) (h:Hd),0<z→opB .Mod (.int y) (.int z) h=.ok (.int (y % z)) h:=fun y z h q=>opB_mod q
 have dv:∀ (y z:Int) (h:Hd),0<z∧z<1073741824→opB .FloorDiv (.int y) (.int z) h=.ok (.int (y / z)) h:=fun y z h q=>opB_div q
 obtain ⟨x,ex,wx,ax⟩:=c.name (GD:=P.GD) (rest % 5) (by clear ih ha hab hl hr;omega) (by clear ih ha hab hl hr;omega)
 show Made cs h i j sc a (2 * A r) (3 * r+6) (retOf (xs2 (P.tbl (n+n0)) (.cons b_law_function_1 (.cons b_law_function_2 (.cons b_law_function_3 (.cons b_law_function_4 (.cons b_law_function_5 (.cons b_law_function_6 (.cons b_law_function_7 (.cons b_law_function_8 .nil)))))))) (fe w rest k i m room none none none none) h))
 have x1:xs1 (P.tbl (n+n0)) b_law_function_1 (fe w rest k i m room none none none none) h=.ok (.nx,fe w rest k i m room (some (.str x)) none none none) h:=by
   simp [b_law_function_1,fe,Pg.tbl,md,ex]
 rw [xs2_nx x1]
 by_cases hg:w=Ω "g"
 · have hc:=cat_lst c [(x,Ω "f")] (by simp;omega)
   obtain ⟨t1,g1,a1,b1,e1,u1,s1,l1,l2,c1,p1⟩:=ih n cs ns _ i j m (h.length+1) (sc++[(x,Ω "f")]) a b (Ω "n") room hr (c.wider [(x,Ω "f")] (by simp [wx])) (by simp;omega) (by omega)
   refine ⟨.fn x t1,g1,a1,b1,?_,Up.app.trans u1,s1,l1,by omega,Cl.mono (t:=t1) sub1 c1,by simp only [dep];omega⟩
   simp [pairOf] at hc e1
   have e:xs1 (P.tbl (n+n0)) b_law_function_2 (fe w rest k i m room (some (.str x)) none none none) h=.ok (.rt (T.fn x t1).d,fe w rest k i m room (some (.str x)) none none none) g1:=by
     simp [b_law_function_2,fe,Pg.tbl,hg,sizeLine_eq,hc,e1,T.d]
   rw [xs2_rt e]
   rfl
 have x2:xs1 (P.tbl (n+n0)) b_law_function_2 (fe w rest k i m room (some (.str x)) none none none) h=.ok (.nx,fe w rest k i m room (some (.str x)) none none none) h:=by
   simp [b_law_function_2,fe,hg]
 rw [xs2_nx x2]
 by_cases h3:rest / 5 % 3=0
 · have hc:=cat_lst c [(x,Ω "n")] (by simp;omega)
   obtain ⟨t1,g1,a1,b1,e1,u1,s1,l1,l2,c1,p1⟩:=ih n cs ns _ i j m (h.length+1) (sc++[(x,Ω "n")]) a b (Ω "n") room hr (c.wider [(x,Ω "n")] (by simp [wx])) (by simp;omega) (by omega)
   refine ⟨.fn x t1,g1,a1,b1,?_,Up.app.trans u1,s1,l1,by omega,Cl.mono (t:=t1) sub1 c1,by simp only [dep];omega⟩
   simp [pairOf] at hc e1
   have e:xs1 (P.tbl (n+n0)) b_law_function_3 (fe w rest k i m room (some (.str x)) none none none) h=.ok (.rt (T.fn x t1).d,fe w rest k i m room (some (.str x)) none none none) g1:=by
     simp [b_law_function_3,fe,Pg.tbl,md,dv,h3,sizeLine_eq,hc,e1,T.d]
   rw [xs2_rt e]
   rfl
 have x3:xs1 (P.tbl (n+n0)) b_law_function_3 (fe w rest k i m room (some (.str x)) none none none) h=.ok (.nx,fe w rest k i m room (some (.str x)) none none none) h:=by
   simp [b_law_function_3,fe,md,dv,h3]
 obtain ⟨f,ef,wf,af⟩:=c.name (GD:=P.GD) ((rest % 5+1+rest / 15 % 4) % 5) (by clear ih ha hab hl hr;omega) (by clear ih ha hab hl hr;omega)
 have nfx:f≠x:=unlike c.n5 c.nd ax af
 have x4:xs1 (P.tbl (n+n0)) b_law_function_4 (fe w rest k i m room (some (.str x)) none none none) h=.ok (.nx,fe w rest k i m room (some (.str x)) (some (.str f)) none none) h:=by
   simp [b_law_function_4,fe,Pg.tbl,md,dv,ef]
 have hc:=cat_lst c [(f,Ω "f"),(x,Ω "n")] (by simp;omega)
 have cw:=c.wider [(f,Ω "f"),(x,Ω "n")] (by simp [wx,wf])
 have sub:∀ y∈(sc++[(f,Ω "f"),(x,Ω "n")]).map (·.1),y∈x::f::sc.map (·.1):=fun y hy=>by simp at hy ⊢;rcases hy with z|z|z<;>simp [z]
 generalize hh1:(h++[DO.lst ([(f,Ω "f"),(x,Ω "n")].map pairOf),.lst ((sc++[(f,Ω "f"),(x,Ω "n")]).map pairOf)])=h1 at hc cw
 have ug:Up i h h1:=by rw [← hh1];exact Up.app
 have hl1:h1.length=h.length+2:=by rw [← hh1];simp
 have x5:xs1 (P.tbl (n+n0)) b_law_function_5 (fe w rest k i m room (some (.str x)) (some (.str f)) none none) h=.ok (.nx,fe w rest k i m room (some (.str x)) (some (.str f)) (some (.ref (h.length+1))) none) h1:=by
   simp [pairOf] at hc
   simp [b_law_function_5,fe,sizeLine_eq,hc]
 have x6:xs1 (P.tbl (n+n0)) b_law_function_6 (fe w rest k i m room (some (.str x)) (some (.str f)) (some (.ref (h.length+1))) none) h1=.ok (.nx,fe w rest k i m room (some (.str x)) (some (.str f)) (some (.ref (h.length+1))) (some (T.call (.name f) (.op .sub (.name x) (.num 1))).d)) h1:=by
   exact rfl
 rw [xs2_nx x3,xs2_nx x4,xs2_nx x5,xs2_nx x6]
 generalize hsc:sc++[(f,Ω "f"),(x,Ω "n")]=sc1 at cw sub hh1
 have hsl:sc1.length=sc.length+2:=by rw [← hsc];simp
 clear x1 x2 x3 x4 x5 x6 hc hh1 hsc ex ef
 have last:∀ (t1:T) (g1:Hd) (a1 b1:Int),Up i h1 g1→St3 g1 i j cs a1 b1→a≤a1→a1≤a+A r→Cl (x::f::sc.map (·.1)) t1→dep t1≤3 * r+4 →
     xs1 (P.tbl (n+n0)) b_law_function_7 (fe w rest k i m room (some (.str x)) (some (.str f)) (some (.ref (h.length+1))) (some (T.call (.name f) (.op .sub (.name x) (.num 1))).d)) h1=.ok (.nx,fe w rest k i m room (some (.str x)) (some (.str f)) (some (.ref (h.length+1))) (some t1.d)) g1 →
     Made cs h i j sc a (2 * A r) (3 * r+6) (retOf (xs2 (P.tbl (n+n0)) (.cons b_law_function_7 (.cons b_law_function_8 .nil)) (fe w rest k i m room (some (.str x)) (some (.str f)) (some (.ref (h.length+1))) (some (T.call (.name f) (.op .sub (.name x) (.num 1))).d)) h1)):=by
   intro t1 g1 a1 b1 u1 s1 l1 l2 c1 p1 x7
   rw [xs2_nx x7]
   obtain ⟨t2,g2,a2,b2,e2,u2,s2,l3,l4,c2,p2⟩:=ih n cs ns g1 i j m (h.length+1) sc1 a1 b1 (Ω "n") (room - 1) (by clear ha;omega) (cw.up u1 s1 (by clear hl ha hr;omega)) (by clear ha hr;omega) (by clear hl hr;omega)
   refine ⟨.rcc f x (.iff (.name x) t1 t2),g2,a2,b2,?_,ug.trans (u1.trans u2),s2,Int.le_trans l1 l3,by clear hl hr ha;omega,⟨⟨Ωi,c1,Cl.mono sub c2⟩,nfx⟩,by simp only [dep];clear hl hr ha;omega⟩
   have e:xs1 (P.tbl (n+n0)) b_law_function_8 (fe w rest k i m room (some (.str x)) (some (.str f)) (some (.ref (h.length+1))) (some t1.d)) g1=.ok (.rt (T.rcc f x (.iff (.name x) t1 t2)).d,fe w rest k i m room (some (.str x)) (some (.str f)) (some (.ref (h.length+1))) (some t1.d)) g2:=by
     simp [b_law_function_8,fe,Pg.tbl,sizeLine_eq,e2,T.d]
   rw [xs2_rt e]
   rfl
 by_cases q0:rest / 60 % 3=0
 · obtain ⟨t1,g1,a1,b1,e1,u1,s1,l1,l2,c1,p1⟩:=ih n cs ns h1 i j m (h.length+1) sc1 a b (Ω "n") room hr cw (by clear ha hr;omega) (by clear hl hr;omega)
   refine last t1 g1 a1 b1 u1 s1 l1 l2 (Cl.mono sub c1) (by omega) ?_
   simp [b_law_function_7,fe,Pg.tbl,md,dv,q0,e1]
 · by_cases q1:rest / 60 % 3=1
   · have w2:∃ wd:Wd,atI [D.str (Ω "+"),.str (Ω "*")] (rest / 180 % 2)=some (.str wd.s):=by
       have:rest / 180 % 2=0∨rest / 180 % 2=1:=by clear ih ha hl hr q0 q1;omega
       rcases this with z|z<;>rw [z]
       · exact ⟨.add,by simp [Wd.s]⟩
       · exact ⟨.mul,by simp [Wd.s]⟩
     obtain ⟨wd,w2⟩:=w2
     have hx:∀ z:Int,opIx P.GD (.ref h1.length) (.int z) (h1++[.lst [.str (Ω "+"),.str (Ω "*")]])=R.ofO (atI [.str (Ω "+"),.str (Ω "*")] z) _:=fun z=>opIx_lst (by simp)
     obtain ⟨t1,g1,a1,b1,e1,u1,s1,l1,l2,c1,p1⟩:=ih n cs ns _ i j m (h.length+1) sc1 a b (Ω "n") (room - 1) (by clear ha;omega) (cw.app (g:=[.lst [.str (Ω "+"),.str (Ω "*")]])) (by clear ha hr;omega) (by clear hl hr;omega)
     refine last (.op wd t1 (.call (.name f) (.op .sub (.name x) (.num 1)))) g1 a1 b1 (Up.app.trans u1) s1 l1 l2 ⟨Cl.mono sub c1,Ωh _ Ωi,Ωi,by show (0:Int)≤1∧(1:Int)<1000000;decide⟩ (by simp only [dep];clear hl hr ha;omega) ?_
     simp [b_law_function_7,fe,Pg.tbl,md,dv,q0,q1,hx,w2,e1,T.d,sizeLine_eq]
   · refine last (.call (.name f) (.op .sub (.name x) (.num 1))) h1 a b Up.refl cw.st (Int.le_refl _) (by omega) ⟨Ωh _ Ωi,Ωi,by show (0:Int)≤1∧(1:Int)<1000000;decide⟩ (by simp only [dep];omega) ?_
     simp [b_law_function_7,fe,md,dv,q0,q1]
end Gn
end
section
set_option tactic.hygienic false
namespace Gn
open PySem L2 IV
variable {P:Pg}{cs:List Int}{ns:List Str}{h h':Hd}{i j m k:Nat}{sc:Scp}{a b a' b':Int}
theorem py_strs(rd:Nat→Option PyData):∀ ys:List Str,D.pys rd (ys.map D.str)=some (ys.map PyData.str)
 | []=>rfl
 | y::ys=>by rw [Ωp,D.pys,py_strs rd ys];rfl
theorem ne_nil{l:Nat}{ys:List Str}(e:h[l]? = some (.lst (ys.map .str))):opEq true (.ref l) (.ref h.length) (h++[.lst []])=.ok (.bl (!ys.isEmpty)) (h++[.lst []]):=by
 have e1:(h++[DO.lst []])[l]? = some (.lst (ys.map .str)):=by rw [Ωe (lt_of_at e)];exact e
 have p1:pyOf (h++[.lst []]) (.ref l)=some (.list (ys.map .str)):=by
   show rdPy (h++[.lst []]) 4 l=_
   rw [rdPy,e1]
   simp [py_strs]
 have p2:pyOf (h++[DO.lst []]) (.ref h.length)=some (.list []):=by
   show rdPy (h++[.lst []]) 4 h.length=_
   rw [rdPy,at_0]
   rfl
 unfold IV.opEq
 rw [p1,p2]
 simp only
 have d0:min (PyData.list (ys.map .str)).depth (PyData.list []).depth≤1100:=by
   have:(PyData.list []).depth≤1:=by decide +kernel
   omega
 rw [if_pos d0]
 cases ys with
 | nil=>rfl
 | cons y r=>rfl
theorem xs2_one{U:Tb}{R:Sxs}{ρ':Ev}{h':Hd}{s:Sx}{A B:Sxs}{ρ:Ev}{h:Hd}(e:xs2 U (.cons s A) ρ h=.ok (.nx,ρ') h')(q:∀ ρ1 h1,xs2 U A ρ1 h1=.ok (.nx,ρ') h'→xs2 U B ρ1 h1=xs2 U R ρ' h'):xs2 U (.cons s B) ρ h=xs2 U R ρ' h':=by
 rw [xs2_cons] at e ⊢
 cases r1:xs1 U s ρ h with
 | bad=>rw [r1] at e;cases e
 | exc c h1=>rw [r1] at e;cases e
 | ok p h1 =>
   rw [r1] at e
   obtain ⟨fl,ρ1⟩:=p
   cases fl with
   | nx=>exact q ρ1 h1 e
   | bk=>cases e
   | ct=>cases e
   | rt d=>cases e
theorem xs2_5{U:Tb}{s1 s2 s3 s4 s5:Sx}{ρ ρ':Ev}{h h':Hd}(R:Sxs)(e:xs2 U (.cons s1 (.cons s2 (.cons s3 (.cons s4 (.cons s5 .nil))))) ρ h=.ok (.nx,ρ') h'):xs2 U (.cons s1 (.cons s2 (.cons s3 (.cons s4 (.cons s5 R))))) ρ h=xs2 U R ρ' h' :=
 xs2_one e fun _ _ e=>xs2_one e fun _ _ e=>xs2_one e fun _ _ e=>xs2_one e fun _ _ e=>xs2_one e fun _ _ e=>by cases e;rfl
theorem any_gen(H:Mkr P)(n1:Nat)(c:Ctx cs ns h i j m k sc a b)(w:Str)(room:Int)(mx:Int)(dm:Nat)(hdm:2≤dm)(hl:sc.length≤50)(ha:a<2 ^ 50)(hmx:1≤mx)
   (rc:1≤room→∃ r n0 n',room - 1≤(r:Nat)∧AnyAt P r n0∧n1+2=n'+n0+1∧1≤n0∧sc.length+2+2 * r≤50∧1+3 * A r≤mx∧a+mx<2 ^ 50∧3 * r+6≤dm) :
   Made cs h i j sc a mx dm (run P (n1+3) (Ω "_law_any") [.str w,.ref k,.ref i,.ref m,.int room] h):=by
 have hab:=c.ab
 rw [run_alk H.any rfl]
 obtain ⟨v,w',ys,h5,l,e5,u5,c5,hy,hys⟩:=any_head H n1 c w room hl ha none none none
 have m3:∀ h,opB .Mod (.int (v / 87)) (.int 3) h=.ok (.int (v / 87 % 3)) h:=fun h=>opB_mod (by decide)
 have d3:∀ h,opB .FloorDiv (.int (v / 87)) (.int 3) h=.ok (.int (v / 87 / 3)) h:=fun h=>opB_div (by decide)
 have d30:∀ h,opB .FloorDiv (.int (v / 87)) (.int 30) h=.ok (.int (v / 87 / 30)) h:=fun h=>opB_div (by decide)
 have m8:∀ h,opB .Mod (.int (v / 87 / 30)) (.int 8) h=.ok (.int (v / 87 / 30 % 8)) h:=fun h=>opB_mod (by decide)
 have d8:∀ h,opB .FloorDiv (.int (v / 87 / 30)) (.int 8) h=.ok (.int (v / 87 / 30 / 8)) h:=fun h=>opB_div (by decide)
 have st:startD f_law_any.N [.str w,.ref k,.ref i,.ref m,.int room]=[some (.str w),some (.ref k),some (.ref i),some (.ref m),some (.int room),none,none,none,none,none]:=rfl
 rw [st,show f_law_any.body=.cons b_law_any_1 (.cons b_law_any_2 (.cons b_law_any_3 (.cons b_law_any_4 (.cons b_law_any_5 (.cons b_law_any_6 (.cons b_law_any_7 (.cons b_law_any_8 (.cons b_law_any_9 (.cons b_law_any_10 (.cons b_law_any_11 .nil)))))))))) from rfl,xs2_5 _ e5]
 have nn:=ne_nil hy
 by_cases hn:ys.isEmpty=false∧v / 87 % 3=0
 ·
   have hp:0<ys.length:=by
     cases ys with
     | nil=>simp at hn
     | cons y r=>simp
   have ix:opB .Mod (.int (v / 87 / 3)) (.int ys.length) (h5++[.lst []])=.ok (.int (v / 87 / 3 % ys.length)) (h5++[.lst []]):=opB_mod (by omega)
   have hb:(0:Int)≤v / 87 / 3 % ys.length∧v / 87 / 3 % ys.length<ys.length:=⟨Int.emod_nonneg _ (by omega),Int.emod_lt_of_pos _ (by omega)⟩
   obtain ⟨q,hq⟩:∃ q:Nat,v / 87 / 3 % ys.length=q:=⟨(v / 87 / 3 % ys.length).toNat,by omega⟩
   have hql:q<ys.length:=by omega
   have hl5:(h5++[DO.lst []])[l]? = some (.lst (ys.map .str)):=by rw [Ωe (lt_of_at hy)];exact hy
   have len:bltD P.GD .len [.ref l] (h5++[.lst []])=.ok (.int ys.length) (h5++[.lst []]):=by
     simp only [bltD,bLen,seqOf,lstOf,hl5]
     simp
   have at5:opIx P.GD (.ref l) (.int (q:Int)) (h5++[.lst []])=.ok (.str ys[q]) (h5++[.lst []]):=by
     rw [opIx_lst hl5,IV.atI_nat,Ωn,Ωg hql]
     rfl
   refine ⟨.name ys[q],h5++[.lst []],a+1,b - 1,?_,u5.trans Up.app,c5.st.app,by omega,by omega,hys _ (List.getElem_mem hql),Nat.zero_le _⟩
   have x6:xs1 ⟨P.G,P.GD,run P (n1+2),P.L⟩ b_law_any_6 [some (.str w'),some (.ref k),some (.ref i),some (.ref m),some (.int room),some (.int v),some (.int (v / 87)),some (.ref l),none,none] h5=.ok (.rt (T.name ys[q]).d,[some (.str w'),some (.ref k),some (.ref i),some (.ref m),some (.int room),some (.int v),some (.int (v / 87)),some (.ref l),none,none]) (h5++[.lst []]):=by simp [b_law_any_6,sizeLine_eq,nn,hn.1,m3,hn.2,d3,len,ix,hq,at5,T.d]
   rw [xs2_rt x6]
   rfl
 · have x6:xs1 ⟨P.G,P.GD,run P (n1+2),P.L⟩ b_law_any_6 [some (.str w'),some (.ref k),some (.ref i),some (.ref m),some (.int room),some (.int v),some (.int (v / 87)),some (.ref l),none,none] h5
       = .ok (.nx,[some (.str w'),some (.ref k),some (.ref i),some (.ref m),some (.int room),some (.int v),some (.int (v / 87)),some (.ref l),none,none]) (h5++[.lst []]):=by
     cases q:ys.isEmpty with
     | true =>
       rw [q] at nn
       simp [b_law_any_6,sizeLine_eq,nn]
     | false =>
       rw [q] at nn
       have h3:¬ v / 87 % 3=0:=fun z=>hn ⟨q,z⟩
       simp [b_law_any_6,sizeLine_eq,nn,m3,h3]
   have c6:=c5.app (g:=[.lst []])
   have u6:=u5.trans (Up.app (i:=i) (g:=[.lst []]))
   generalize hh6:h5++[.lst []]=h6 at x6 c6 u6
   rw [xs2_nx x6]
   have ix2:opIx P.GD (.ref i) (.int 2) h6=.ok (.int (b - 1)) h6:=by rw [opIx_lst c6.st.1];simp
   obtain ⟨t,g,ep,ct,pt⟩:=r_plain H (n1+1) w' (v / 87 / 3) h6 (sc.map (·.1))
   by_cases hr:room<1
   · refine ⟨t,h6++g,a+1,b - 1,?_,u6.trans Up.app,c6.st.app,by omega,by omega,ct,by omega⟩
     have x7:xs1 ⟨P.G,P.GD,run P (n1+2),P.L⟩ b_law_any_7 [some (.str w'),some (.ref k),some (.ref i),some (.ref m),some (.int room),some (.int v),some (.int (v / 87)),some (.ref l),none,none] h6=.ok (.rt t.d,[some (.str w'),some (.ref k),some (.ref i),some (.ref m),some (.int room),some (.int v),some (.int (v / 87)),some (.ref l),none,none]) (h6++g):=by simp [b_law_any_7,hr,d3,ep]
     rw [xs2_rt x7]
     rfl
   · by_cases hb:b - 1<0
     · refine ⟨t,h6++g,a+1,b - 1,?_,u6.trans Up.app,c6.st.app,by omega,by omega,ct,by omega⟩
       have x7:xs1 ⟨P.G,P.GD,run P (n1+2),P.L⟩ b_law_any_7 [some (.str w'),some (.ref k),some (.ref i),some (.ref m),some (.int room),some (.int v),some (.int (v / 87)),some (.ref l),none,none] h6=.ok (.rt t.d,[some (.str w'),some (.ref k),some (.ref i),some (.ref m),some (.int room),some (.int v),some (.int (v / 87)),some (.ref l),none,none]) (h6++g):=by simp [b_law_any_7,hr,ix2,hb,d3,ep]
       rw [xs2_rt x7]
       rfl
     · obtain ⟨r,n0,n',q1,ih,q2,q3,q4,q5,q6,q7⟩:=rc (by omega)
       have Ap:=A_pos r
       have x7:xs1 ⟨P.G,P.GD,run P (n1+2),P.L⟩ b_law_any_7 [some (.str w'),some (.ref k),some (.ref i),some (.ref m),some (.int room),some (.int v),some (.int (v / 87)),some (.ref l),none,none] h6
           = .ok (.nx,[some (.str w'),some (.ref k),some (.ref i),some (.ref m),some (.int room),some (.int v),some (.int (v / 87)),some (.ref l),none,none]) h6:=by
         simp [b_law_any_7,hr,ix2,hb]
       have x8:xs1 ⟨P.G,P.GD,run P (n1+2),P.L⟩ b_law_any_8 [some (.str w'),some (.ref k),some (.ref i),some (.ref m),some (.int room),some (.int v),some (.int (v / 87)),some (.ref l),none,none] h6
           = .ok (.nx,[some (.str w'),some (.ref k),some (.ref i),some (.ref m),some (.int room),some (.int v),some (.int (v / 87 / 30)),some (.ref l),none,none]) h6:=by
         exact rfl
       rw [xs2_nx x7,xs2_nx x8]
       by_cases h8:v / 87 / 30 % 8=0
       · obtain ⟨t1,g1,a1,b1,e1,u1,s1,l1,l2,c1,p1⟩:=ih (n'+1) cs ns h6 i j m k sc (a+1) (b - 1) (Ω "n") (room - 1) q1 c6 (by omega) (by omega)
         have cc1:=c6.up u1 s1 (by omega)
         obtain ⟨t2,g2,a2,b2,e2,u2,s2,l3,l4,c2,p2⟩:=ih (n'+1) cs ns g1 i j m k sc a1 b1 w' (room - 1) q1 cc1 (by omega) (by omega)
         have cc2:=cc1.up u2 s2 (by omega)
         obtain ⟨t3,g3,a3,b3,e3,u3,s3,l5,l6,c3,p3⟩:=ih (n'+1) cs ns g2 i j m k sc a2 b2 w' (room - 1) q1 cc2 (by omega) (by omega)
         rw [show n'+1+n0=n1+2 by omega] at e1 e2 e3
         refine ⟨.iff t1 t2 t3,g3,a3,b3,?_,u6.trans (u1.trans (u2.trans u3)),s3,by omega,by omega,⟨c1,c2,c3⟩,by simp only [dep];omega⟩
         have x9:xs1 ⟨P.G,P.GD,run P (n1+2),P.L⟩ b_law_any_9 [some (.str w'),some (.ref k),some (.ref i),some (.ref m),some (.int room),some (.int v),some (.int (v / 87 / 30)),some (.ref l),none,none] h6=.ok (.rt (T.iff t1 t2 t3).d,[some (.str w'),some (.ref k),some (.ref i),some (.ref m),some (.int room),some (.int v),some (.int (v / 87 / 30)),some (.ref l),some t1.d,some t2.d]) g3:=by simp [b_law_any_9,m8,h8,e1,e2,e3,sizeLine_eq,T.d]
         rw [xs2_rt x9]
         rfl
       · have x9:xs1 ⟨P.G,P.GD,run P (n1+2),P.L⟩ b_law_any_9 [some (.str w'),some (.ref k),some (.ref i),some (.ref m),some (.int room),some (.int v),some (.int (v / 87 / 30)),some (.ref l),none,none] h6=.ok (.nx,[some (.str w'),some (.ref k),some (.ref i),some (.ref m),some (.int room),some (.int v),some (.int (v / 87 / 30)),some (.ref l),none,none]) h6:=by simp [b_law_any_9,m8,h8]
         rw [xs2_nx x9]
         by_cases hw:w'=Ω "n"
         · obtain ⟨t1,g1,a1,b1,e1,u1,s1,l1,l2,c1,p1⟩:=num_ok H ih q3 n' c6 (v / 87 / 30 / 8) (room - 1) q1 (by omega) (by omega)
           rw [← q2] at e1
           refine ⟨t1,g1,a1,b1,?_,u6.trans u1,s1,by omega,by omega,c1,by omega⟩
           have x10:xs1 ⟨P.G,P.GD,run P (n1+2),P.L⟩ b_law_any_10 [some (.str w'),some (.ref k),some (.ref i),some (.ref m),some (.int room),some (.int v),some (.int (v / 87 / 30)),some (.ref l),none,none] h6=.ok (.rt t1.d,[some (.str w'),some (.ref k),some (.ref i),some (.ref m),some (.int room),some (.int v),some (.int (v / 87 / 30)),some (.ref l),none,none]) g1:=by simp [b_law_any_10,hw,d8,e1]
           rw [xs2_rt x10]
           rfl
         · obtain ⟨t1,g1,a1,b1,e1,u1,s1,l1,l2,c1,p1⟩:=fun_ok H ih n' c6 w' (v / 87 / 30 / 8) (room - 1) q1 (by omega) (by omega)
           rw [← q2] at e1
           refine ⟨t1,g1,a1,b1,?_,u6.trans u1,s1,by omega,by omega,c1,by omega⟩
           have x10:xs1 ⟨P.G,P.GD,run P (n1+2),P.L⟩ b_law_any_10 [some (.str w'),some (.ref k),some (.ref i),some (.ref m),some (.int room),some (.int v),some (.int (v / 87 / 30)),some (.ref l),none,none] h6=.ok (.nx,[some (.str w'),some (.ref k),some (.ref i),some (.ref m),some (.int room),some (.int v),some (.int (v / 87 / 30)),some (.ref l),none,none]) h6:=by simp [b_law_any_10,hw]
           have x11:xs1 ⟨P.G,P.GD,run P (n1+2),P.L⟩ b_law_any_11 [some (.str w'),some (.ref k),some (.ref i),some (.ref m),some (.int room),some (.int v),some (.int (v / 87 / 30)),some (.ref l),none,none] h6=.ok (.rt t1.d,[some (.str w'),some (.ref k),some (.ref i),some (.ref m),some (.int room),some (.int v),some (.int (v / 87 / 30)),some (.ref l),none,none]) g1:=by simp [b_law_any_11,d8,e1]
           rw [xs2_nx x10,xs2_rt x11]
           rfl
theorem any_ok(H:Mkr P):∀ r:Nat,AnyAt P r (2 * r+3)
 | 0=>fun n cs ns h i j m k sc a b w room hr c hl ha=>by
   have:=any_gen H n c w room (A 0) 3 (by decide) (by omega) (by have:=A_pos 0;omega) (by decide) (fun z=>by omega)
   exact this
 | r+1=>fun n cs ns h i j m k sc a b w room hr c hl ha=>by
   have Ap:=A_pos r
   have As:=A_succ r
   have:=any_gen H (n+2 * r+2) c w room (A (r+1)) (3 * (r+1)+3) (by omega) (by omega) (by omega) (by omega) (fun _=>⟨r,2 * r+3,n,by omega,any_ok H r,by omega,by omega,by omega,by omega,by omega,by omega⟩)
   rw [show n+(2 * (r+1)+3)=n+2 * r+2+3 by omega]
   exact this
end Gn
end
section
namespace Gn
open PySem L2 IV
noncomputable def front:T→List D
 | .num n=>[.str (Ω "num"),.int n]
 | .name x=>[.str (Ω "name"),.str x]
 | .fn x _=>[.str (Ω "fn"),.str x]
 | .rcc f x _=>[.str (Ω "rec"),.str f,.str x]
 | .call _ _=>[.str (Ω "call")]
 | .iff _ _ _=>[.str (Ω "if")]
 | .op w _ _=>[.str w.s]
theorem d_eq(t:T):t.d=.tup (front t++t.parts.map T.d):=by cases t<;>rfl
noncomputable def isFlat:D→Bool
 | .str _|.int _=>true
 | _=>false
theorem front_flat(t:T):∀ d∈front t,isFlat d=true:=by cases t<;>simp [front,isFlat]
theorem isi_flat {GD:Str→Option (List (Key×D))}{d:D}{h:Hd} (hf:isFlat d=true):bltD GD .isi [d,.ty "tuple"] h=.ok (.bl false) h:=by
 cases d with
 | str x=>rfl
 | int x=>rfl
 | _=>cases hf
theorem isi_tup {GD:Str→Option (List (Key×D))}{xs:List D}{h:Hd}:bltD GD .isi [.tup xs,.ty "tuple"] h=.ok (.bl true) h:=rfl
noncomputable abbrev isT:Tx:=.ex (.blt .isi (.cons (.var 0) (.cons (.cst (.ty "tuple")) .nil)))
theorem comp_front{U:Tb}{e:Ex}{h:Hd}{acc rest:List D}:∀ ds:List D,(∀ d∈ds,isFlat d=true)→acc.length<sizeLine→compL none (.nm 0) (tsto U (some isT)) (ev U e) (ds++rest) [none] acc h=compL none (.nm 0) (tsto U (some isT)) (ev U e) rest [none] acc h
 | [],_,_=>rfl
 | d::ds,hd,hz=>by
   have:=isi_flat (GD:=U.GD) (h:=h) (hd d (by simp))
   rw [List.cons_append,compL_cons]
   simp [Wk.stays,hz,this]
   exact comp_front ds (fun x hx=>hd x (by simp [hx])) hz
theorem comp_parts{U:Tb}{e:Ex}{f:T→Int}:∀ (ts:List T) (acc:List D) (h:Hd),(∀ t∈ts,∀ h,∃ g,ev U e [some t.d] h=.ok (.int (f t)) (h++g))→acc.length+ts.length≤1000→∃ g,compL none (.nm 0) (tsto U (some isT)) (ev U e) (ts.map T.d) [none] acc h=.ok (acc++ts.map fun t=>.int (f t)) (h++g)
 | [],acc,h,_,_=>⟨[],by simp [compL,Wk.stays]⟩
 | t::ts,acc,h,ht,hz=>by
   simp only [Ωs] at hz
   obtain ⟨g1,e1⟩:=ht t (by simp) h
   obtain ⟨g2,e2⟩:=comp_parts (U:=U) (e:=e) (f:=f) ts (acc++[.int (f t)]) (h++g1) (fun x hx=>ht x (by simp [hx])) (by simp;omega)
   refine ⟨g1++g2,?_⟩
   have hz2:acc.length<sizeLine:=by rw [sizeLine_eq];omega
   have it:bltD U.GD .isi [t.d,.ty "tuple"] h=.ok (.bl true) h:=by rw [d_eq];exact isi_tup
   rw [Ωp,compL_cons]
   simp [Wk.stays,hz2,it,e1,e2]
theorem comp_all{U:Tb}{e:Ex}{f:T→Int}(t:T)(h:Hd)(ht:∀ s∈t.parts,∀ h,∃ g,ev U e [some s.d] h=.ok (.int (f s)) (h++g)):∃ g,compL none (.nm 0) (tsto U (some isT)) (ev U e) (front t++t.parts.map T.d) [none] [] h=.ok (t.parts.map fun s=>.int (f s)) (h++g):=by
 obtain ⟨g,e1⟩:=comp_parts (f:=f) t.parts [] h ht (by cases t<;>simp [T.parts])
 refine ⟨g,?_⟩
 rw [comp_front _ (front_flat t) (by rw [sizeLine_eq];simp),e1]
 simp
theorem ints_map(f:T→Int):∀ ts:List T,intsOf (ts.map fun s=>D.int (f s))=some (ts.map f)
 | []=>rfl
 | t::ts=>by rw [Ωp,intsOf,ints_map f ts];rfl
variable {P:Pg}
theorem size_eq(t:T):(t.size:Int)=1+(t.parts.map fun s=>(s.size:Int)).sum:=by
 unfold T.size
 rw [T.places_parts]
 have:∀ ts:List T,((ts.flatMap T.places).length:Int)=(ts.map fun s=>(s.places.length:Int)).sum:=by
   intro ts
   induction ts with
   | nil=>rfl
   | cons t ts ih=>rw [List.flatMap_cons,ΩA,Ωp,ΩI,← ih];omega
 rw [Ωs,← this]
 omega
theorem dep_part{t s:T}(hs:s∈t.parts):dep s<dep t:=by
 cases t<;>simp [T.parts] at hs<;>simp only [dep]
 · subst hs;omega
 · subst hs;omega
 · rcases hs with rfl|rfl<;>omega
 · rcases hs with rfl|rfl|rfl<;>omega
 · rcases hs with rfl|rfl<;>omega
theorem r_width (H:Mkr P):∀ (d n:Nat) (t:T) (h:Hd),dep t≤d→∃ g,run P (n+d+1) (Ω "_law_width") [t.d] h=.ok (.int t.size) (h++g):=by
 intro d
 induction d with
 | zero =>
   intro n t h hd
   rw [run_def H.width rfl]
   obtain ⟨g,e⟩:=comp_all (U:=⟨P.G,P.GD,run P (n+0),P.L⟩) (e:=.call (Ω "_law_width") (.cons (.var 0) .nil)) (f:=fun s=>(s.size:Int)) t h (fun s hs=>by have:=dep_part hs;omega)
   refine ⟨g++[.lst (t.parts.map fun s=>.int s.size)],?_⟩
   rw [size_eq,d_eq]
   have sm:bltD P.GD .sum [.ref (h++g).length] (h++g++[.lst (t.parts.map fun s=>D.int s.size)])=.ok (.int (t.parts.map fun s=>(s.size:Int)).sum) (h++g++[.lst (t.parts.map fun s=>D.int s.size)]):=by
     simp only [bltD,bSum,lstOf,at_0,Option.bind_some,ints_map]
     rfl
   simp at sm e
   simp [f_law_width,b_law_width,startD,walkOf,captD,e,sm]
 | succ d ih =>
   intro n t h hd
   rw [run_def H.width rfl]
   obtain ⟨g,e⟩:=comp_all (U:=⟨P.G,P.GD,run P (n+(d+1)),P.L⟩) (e:=.call (Ω "_law_width") (.cons (.var 0) .nil)) (f:=fun s=>(s.size:Int)) t h (fun s hs h1=>by
     have:=dep_part hs
     obtain ⟨g,e⟩:=ih n s h1 (by omega)
     refine ⟨g,?_⟩
     have e':run P (n+(d+1)) (Ω "_law_width") [s.d] h1=.ok (.int s.size) (h1++g):=e
     simp [e'])
   refine ⟨g++[.lst (t.parts.map fun s=>.int s.size)],?_⟩
   rw [size_eq,d_eq]
   have sm:bltD P.GD .sum [.ref (h++g).length] (h++g++[.lst (t.parts.map fun s=>D.int s.size)])=.ok (.int (t.parts.map fun s=>(s.size:Int)).sum) (h++g++[.lst (t.parts.map fun s=>D.int s.size)]):=by
     simp only [bltD,bSum,lstOf,at_0,Option.bind_some,ints_map]
     rfl
   simp at sm e
   simp [f_law_width,b_law_width,startD,walkOf,captD,e,sm]
end Gn
end
section
namespace Gn
open PySem L2 IV
variable {P:Pg}
theorem max2(x y:Nat):(if (1+(y:Int)) > 1+x then 1+(y:Int) else 1+x)=((max x y+1:Nat):Int):=by
 split<;>omega
theorem dep_eq(t:T):maxZ (t.parts.map fun s=>1+(dep s:Int)) 0=dep t:=by
 cases t with
 | num n=>rfl
 | name x=>rfl
 | fn x e=>simp [T.parts,maxZ,dep];omega
 | rcc f x e=>simp [T.parts,maxZ,dep];omega
 | call f a=>simp only [T.parts,maxZ,dep,Ωp,Ωy,List.foldl_cons,List.foldl_nil];rw [max2]
 | op w f a=>simp only [T.parts,maxZ,dep,Ωp,Ωy,List.foldl_cons,List.foldl_nil];rw [max2]
 | iff c t e =>
   simp only [T.parts,maxZ,dep,Ωp,Ωy,List.foldl_cons,List.foldl_nil]
   rw [max2]
   split<;>omega
theorem r_deep (H:Mkr P):∀ (d n:Nat) (t:T) (h:Hd),dep t≤d→∃ g,run P (n+d+1) (Ω "_law_deep") [t.d] h=.ok (.int (dep t)) (h++g):=by
 have fin:∀ (t:T) (h g:Hd),bMaxd (.ref (h++g).length) (.int 0) (h++g++[.lst (t.parts.map fun s=>D.int (1+(dep s:Int)))])=.ok (.int (dep t)) (h++g++[.lst (t.parts.map fun s=>D.int (1+(dep s:Int)))]):=by
   intro t h g
   have q:intsOf (t.parts.map fun s=>D.int (1+(dep s:Int)))=some (t.parts.map fun s=>1+(dep s:Int)):=ints_map (fun s=>1+(dep s:Int)) t.parts
   simp only [bMaxd,lstOf,at_0,Option.bind_some,q,Option.map_some,dep_eq,ofO_some]
 intro d
 induction d with
 | zero =>
   intro n t h hd
   rw [run_def H.deep rfl]
   obtain ⟨g,e⟩:=comp_all (U:=⟨P.G,P.GD,run P (n+0),P.L⟩) (e:=.bin .Add (.cst (.int 1)) (.call (Ω "_law_deep") (.cons (.var 0) .nil))) (f:=fun s=>1+(dep s:Int)) t h (fun s hs=>by have:=dep_part hs;omega)
   refine ⟨g++[.lst (t.parts.map fun s=>.int (1+(dep s:Int)))],?_⟩
   have sm:=fin t h g
   rw [d_eq]
   simp at sm e
   simp [f_law_deep,b_law_deep,startD,walkOf,captD,e,sm]
 | succ d ih =>
   intro n t h hd
   rw [run_def H.deep rfl]
   obtain ⟨g,e⟩:=comp_all (U:=⟨P.G,P.GD,run P (n+(d+1)),P.L⟩) (e:=.bin .Add (.cst (.int 1)) (.call (Ω "_law_deep") (.cons (.var 0) .nil))) (f:=fun s=>1+(dep s:Int)) t h (fun s hs h1=>by
     have:=dep_part hs
     obtain ⟨g,e⟩:=ih n s h1 (by omega)
     refine ⟨g,?_⟩
     have e':run P (n+(d+1)) (Ω "_law_deep") [s.d] h1=.ok (.int (dep s)) (h1++g):=e
     simp [e'])
   refine ⟨g++[.lst (t.parts.map fun s=>.int (1+(dep s:Int)))],?_⟩
   have sm:=fin t h g
   rw [d_eq]
   simp at sm e
   simp [f_law_deep,b_law_deep,startD,walkOf,captD,e,sm]
theorem comp_mixed(H:Mkr P){n:Nat}{h:Hd}{k:Nat}{xs0:List D}(hk:h[k]? = some (.lst xs0)):∀ (xs:List Int) (j:Nat) (acc:List Int),acc.length+xs.length≤1000→j+xs.length≤1000→∃ cs:List Int,cs.length=acc.length+xs.length ∧
   compL (some (k,xs0)) (.two 0 1) (tsto ⟨P.G,P.GD,run P (n+1),P.L⟩ none) (ev ⟨P.G,P.GD,run P (n+1),P.L⟩ (.call (Ω "_law_mixed") (.cons (.var 1) (.cons (.bin .Add (.var 0) (.cst (.int 2))) .nil)))) (xs.mapIdx fun q x=>D.tup [.int ((q+j:Nat):Int),.int x]) [none,none] (acc.map .int) h
     = .ok (cs.map .int) h
 | [],j,acc,_,_=>⟨acc,by simp,by simp [compL,Wk.stays,hk]⟩
 | x::xs,j,acc,h1,h2=>by
   simp only [Ωs] at h1 h2
   obtain ⟨cs,q1,q2⟩:=comp_mixed H hk xs (j+1) (acc++[mixed x ((j:Int)+2)]) (by simp;omega) (by omega)
   refine ⟨cs,by simp at q1;simp;omega,?_⟩
   have e1:=r_mixed H n x ((j:Int)+2) h ⟨by omega,by omega⟩
   have hz:acc.length<sizeLine:=by rw [sizeLine_eq];omega
   have ei:(fun (q:Nat) (x:Int)=>D.tup [.int ((q+1+j:Nat):Int),.int x])=fun q x=>D.tup [.int ((q+(j+1):Nat):Int),.int x]:=by
     funext q x
     rw [show q+1+j=q+(j+1) by omega]
   rw [List.mapIdx_cons,compL_cons]
   simp only [Wk.stays,hk,decide_true,true_and,List.length_map,hz,if_true,bind_two,List.set_cons_zero,List.set_cons_succ,tsto_none,plainR_ok,bnd_ok,bind_ok,ev_call,evs_cons,evs_nil,ev_var,ΩK,ΩJ,Option.join_some,ofO_some,ev_bin,ev_cst,opB_add,Nat.zero_add,e1]
   rw [ei]
   have:=q2
   rw [List.map_append] at this
   exact this
end Gn
end
section
set_option tactic.hygienic false
namespace Gn
open PySem L2 IV
variable {P:Pg}{cs:List Int}{ns:List Str}{h h':Hd}{i j m:Nat}{a b:Int}
theorem any_at(H:Mkr P)(r N:Nat)(hN:2 * r+3≤N){k:Nat}{sc:Scp}(c:Ctx cs ns h i j m k sc a b)(w:Str)(room:Int)(hr:room≤r)(hl:sc.length+2 * r≤50)(ha:a+A r<2 ^ 50) :
   Made cs h i j sc a (A r) (3 * r+3) (run P N (Ω "_law_any") [.str w,.ref k,.ref i,.ref m,.int room] h):=by
 have:=any_ok H r (N - (2 * r+3)) cs ns h i j m k sc a b w room hr c hl ha
 rw [show N - (2 * r+3)+(2 * r+3)=N by omega] at this
 exact this
theorem width_at (H:Mkr P) (N:Nat) (t:T) (h:Hd) (hd:dep t<N):∃ g,run P N (Ω "_law_width") [t.d] h=.ok (.int t.size) (h++g):=by
 obtain ⟨g,e⟩:=r_width H (dep t) (N - dep t - 1) t h (Ωq _)
 rw [show N - dep t - 1+dep t+1=N by omega] at e
 exact ⟨g,e⟩
theorem deep_at (H:Mkr P) (N:Nat) (t:T) (h:Hd) (hd:dep t<N):∃ g,run P N (Ω "_law_deep") [t.d] h=.ok (.int (dep t)) (h++g):=by
 obtain ⟨g,e⟩:=r_deep H (dep t) (N - dep t - 1) t h (Ωq _)
 rw [show N - dep t - 1+dep t+1=N by omega] at e
 exact ⟨g,e⟩
theorem Ctx.bare{k:Nat}{sc:Scp}(c:Ctx cs ns h i j m k sc a b):Ctx cs ns (h++[.lst []]) i j m h.length [] a b:=by
 have c1:=c.app (g:=[.lst []])
 refine ⟨c1.st,c1.nm,c1.n5,c1.nok,c1.nd,by unfold ScAt;simp,by simp,c1.im,?_,c1.ab⟩
 have:=lt_of_at c.st.1
 omega
theorem turn(H:Mkr P){N:Nat}(hN:40≤N){k:Nat}{sc:Scp}(c:Ctx cs ns h i j m k sc a b){t:T}(ct:Cl [] t)(hd:dep t≤30)(ha:a<2 ^ 45)(S st ce kk:Option D):∃ t' h' a' b',Cl [] t'∧dep t'≤max (dep t) 21+1∧Up i h h'∧Ctx cs ns h' i j m k sc a' b'∧a≤a'∧a'≤a+A 6 ∧
   xs2 ⟨P.G,P.GD,run P N,P.L⟩ (.cons (.iff (.ex (.cmp .Lt (.call (Ω "_law_width") (.cons (.var 5) .nil)) (.cst (.int 50)))) (.cons (.put (.var 3) (.cst (.int 2)) (.cst (.int 12))) (.cons (.set (.nm 5) (.tupl (.cons (.cst (.str (Ω "+"))) (.cons (.var 5) (.cons (.call (Ω "_law_any") (.cons (.cst (.str (Ω "n"))) (.cons (.lstl .nil) (.cons (.var 3) (.cons (.var 4) (.cons (.cst (.int 6)) .nil)))))) .nil))))) .nil)) .nil) .nil)
     [S,st,ce,some (.ref i),some (.ref m),some t.d,kk] h=.ok (.nx,[S,st,ce,some (.ref i),some (.ref m),some t'.d,kk]) h':=by
 have A6:A 6=16384:=by decide
 have hab:=c.ab
 obtain ⟨g,ew⟩:=width_at H N t h (by omega)
 have c1:=c.app (g:=g)
 by_cases hw:(t.size:Int)<50
 · have i1:=c1.st.1
   have p1:putIx (.ref i) (.int 2) (.int 12) (h++g)=.ok () ((h++g).set i (.lst [.ref j,.int a,.int 12])):=by
     simp only [putIx,i1]
     rfl
   have s1:St3 ((h++g).set i (.lst [.ref j,.int a,.int 12])) i j cs a 12:=⟨by rw [Ωl (lt_of_at i1)],by rw [Ωc c1.st.2.2];exact c1.st.2.1,c1.st.2.2⟩
   have u1:Up i h ((h++g).set i (.lst [.ref j,.int a,.int 12])):=Up.app.trans Up.set
   have c2:=c1.up (Up.set (o:=.lst [.ref j,.int a,.int 12])) s1 hab
   generalize (h++g).set i (.lst [.ref j,.int a,.int 12])=h2 at p1 s1 u1 c2
   obtain ⟨t1,h3,a1,b1,e1,u3,s3,l1,l2,c3,p3⟩:=any_at H 6 N (by omega) c2.bare (Ω "n") 6 (by decide) (by simp) (by rw [A6];omega)
   have u4:=u1.trans ((Up.app (i:=i) (g:=[.lst []])).trans u3)
   refine ⟨.op .add t t1,h3,a1,b1,⟨ct,c3⟩,by simp only [dep];omega,u4,c.up u4 s3 (by omega),l1,l2,?_⟩
   simp [ew,hw,p1,sizeLine_eq,e1,T.d,Wd.s]
 · refine ⟨t,h++g,a,b,ct,by omega,Up.app,c1,by omega,by rw [A6];omega,?_⟩
   simp [ew,hw]
theorem r_program (H:Mkr P) {N:Nat} (hN:40≤N) (zs:List Int) (st:Int) (h:Hd) (hz:zs.length≤100):∃ t h',run P (N+1) (Ω "_law_program") [.ro (zs.map .int),.int st] h=.ok (T.d t) h'∧Cl [] t∧t.size≤100∧dep t≤20∧h.length≤h'.length∧∀ q,q<h.length→h'[q]? = h[q]? := by
 have A7:A 7=65536:=by decide
 have A6:A 6=16384:=by decide
 rw [run_def H.program rfl]
 obtain ⟨ys,hys⟩:∃ ys:List Int,cutD (zs.map D.int) (some st) none=ys.map .int:=⟨(zs.drop (HT.sIx zs.length 0 (some st))).take (HT.sIx zs.length zs.length none - HT.sIx zs.length 0 (some st)),by simp [cutD,List.map_drop,List.map_take]⟩
 have hyl:ys.length≤100:=by
   have:(cutD (zs.map D.int) (some st) none).length≤(zs.map D.int).length:=by
     unfold cutD
     rw [List.length_take,List.length_drop]
     omega
   rw [hys] at this
   simp at this
   omega
 obtain ⟨N2,hN2⟩:∃ N2,N=N2+1:=⟨N - 1,by omega⟩
 obtain ⟨cs,hcl,ec⟩:=comp_mixed H (n:=N2) (h:=h++[.lst (ys.map .int)]) (k:=h.length) (xs0:=ys.map .int) (by simp) ys 0 [] (by simp;omega) (by omega)
 have en:enumD (ys.map D.int)=ys.mapIdx fun q x=>D.tup [.int ((q+0:Nat):Int),.int x]:=by
   unfold enumD
   apply List.ext_getElem?
   intro q
   simp [List.getElem?_mapIdx]
   cases ys[q]?<;>rfl
 have osl:opSl (.ro (zs.map D.int)) (some st) none h=.ok (.ref h.length) (h++[.lst (ys.map .int)]):=by
   show newO (.lst (cutD (zs.map D.int) (some st) none)) h=_
   rw [hys]
   rfl
 have x1:xs1 ⟨P.G,P.GD,run P N,P.L⟩ b_law_program_1 [some (.ro (zs.map .int)),some (.int st),none,none,none,none,none] h=.ok (.nx,[some (.ro (zs.map .int)),some (.int st),some (.ref (h.length+1)),none,none,none,none]) (h++[.lst (ys.map .int),.lst (cs.map .int)]):=by
   rw [hN2]
   simp only [Ωy] at ec
   have wl:walkL (.ref h.length) (h++[DO.lst (ys.map .int)])=some ⟨some (h.length,ys.map .int),ys.map .int⟩:=by simp [walkL]
   simp only [b_law_program_1,xs1_set,ev_comp,evi_enu,ev_sl,ev_var,ΩJ,ΩK,Option.join_some,ofO_some,bnd_ok,bind_ok,evo_some,evo_none,osl,wl,Option.map_some,captD,Ωp,Ωy,Option.bind_none,en,ec]
   simp
 have x2:xs1 ⟨P.G,P.GD,run P N,P.L⟩ b_law_program_2 [some (.ro (zs.map .int)),some (.int st),some (.ref (h.length+1)),none,none,none,none] (h++[.lst (ys.map .int),.lst (cs.map .int)])=.ok (.nx,[some (.ro (zs.map .int)),some (.int st),some (.ref (h.length+1)),some (.ref (h.length+2)),none,none,none]) (h++[.lst (ys.map .int),.lst (cs.map .int),.lst [.ref (h.length+1),.int 0,.int 26]]):=by
   simp [b_law_program_2,sizeLine_eq]
 have st2:St3 (h++[.lst (ys.map .int),.lst (cs.map .int),.lst [.ref (h.length+1),.int 0,.int 26]]) (h.length+2) (h.length+1) cs 0 26:=⟨by simp,by simp,by omega⟩
 obtain ⟨N3,hN3⟩:∃ N3,N=N3+2:=⟨N - 2,by omega⟩
 obtain ⟨v,e3,_⟩:=r_next H N3 st2 (by decide)
 rw [← hN3] at e3
 obtain ⟨ns,n5,nok,nnd,e4⟩:=r_names H N2 v (h++[.lst (ys.map .int),.lst (cs.map .int),.lst [.ref (h.length+1),.int 1,.int 26]])
 rw [← hN2] at e4
 have sset:(h++[DO.lst (ys.map .int),.lst (cs.map .int),.lst [.ref (h.length+1),.int 0,.int 26]]).set (h.length+2) (.lst [.ref (h.length+1),.int (0+1),.int 26])=h++[.lst (ys.map .int),.lst (cs.map .int),.lst [.ref (h.length+1),.int 1,.int 26]]:=by simp
 rw [sset] at e3
 have x3:xs1 ⟨P.G,P.GD,run P N,P.L⟩ b_law_program_3 [some (.ro (zs.map .int)),some (.int st),some (.ref (h.length+1)),some (.ref (h.length+2)),none,none,none] (h++[.lst (ys.map .int),.lst (cs.map .int),.lst [.ref (h.length+1),.int 0,.int 26]])=.ok (.nx,[some (.ro (zs.map .int)),some (.int st),some (.ref (h.length+1)),some (.ref (h.length+2)),some (.ref (h.length+3)),none,none]) (h++[.lst (ys.map .int),.lst (cs.map .int),.lst [.ref (h.length+1),.int 1,.int 26],.lst (ns.map .str)]):=by
   simp only [b_law_program_3,xs1_set,ev_call,evs_cons,evs_nil,ev_var,ΩJ,ΩK,Option.join_some,ofO_some,bnd_ok,bind_ok,e3,e4]
   simp
 have c4:Ctx cs ns (h++[.lst (ys.map .int),.lst (cs.map .int),.lst [.ref (h.length+1),.int 1,.int 26],.lst (ns.map .str)]++[.lst []]) (h.length+2) (h.length+1) (h.length+3) (h.length+4) [] 1 26 :=
   ⟨⟨by simp,by simp,by omega⟩,by simp,n5,nok,nnd,by unfold ScAt;simp,by simp,by omega,by omega,by decide⟩
 obtain ⟨t4,h4,a4,b4,e5,u4,s4,l1,l2,ct4,d4⟩:=any_at H 7 N (by omega) c4 (Ω "n") 7 (by decide) (by decide) (by rw [A7];decide)
 have c5:=c4.up u4 s4 (by omega)
 have x4:xs1 ⟨P.G,P.GD,run P N,P.L⟩ b_law_program_4 [some (.ro (zs.map .int)),some (.int st),some (.ref (h.length+1)),some (.ref (h.length+2)),some (.ref (h.length+3)),none,none] (h++[.lst (ys.map .int),.lst (cs.map .int),.lst [.ref (h.length+1),.int 1,.int 26],.lst (ns.map .str)])=.ok (.nx,[some (.ro (zs.map .int)),some (.int st),some (.ref (h.length+1)),some (.ref (h.length+2)),some (.ref (h.length+3)),some t4.d,none]) h4:=by
   simp at e5
   simp [b_law_program_4,sizeLine_eq,e5]
 obtain ⟨t5,h5,a5,b5,ct5,d5,u5,c6,l3,l4,e6⟩:=turn H hN c5 ct4 (by omega) (by rw [A7] at l2;omega) (some (.ro (zs.map .int))) (some (.int st)) (some (.ref (h.length+1))) (some (.int 0))
 obtain ⟨t6,h6,a6,b6,ct6,d6,u6,c7,l5,l6,e7⟩:=turn H hN c6 ct5 (by omega) (by rw [A7] at l2;rw [A6] at l4;omega) (some (.ro (zs.map .int))) (some (.int st)) (some (.ref (h.length+1))) (some (.int 1))
 have x5:xs1 ⟨P.G,P.GD,run P N,P.L⟩ b_law_program_5 [some (.ro (zs.map .int)),some (.int st),some (.ref (h.length+1)),some (.ref (h.length+2)),some (.ref (h.length+3)),some t4.d,none] h4=.ok (.nx,[some (.ro (zs.map .int)),some (.int st),some (.ref (h.length+1)),some (.ref (h.length+2)),some (.ref (h.length+3)),some t6.d,some (.int 1)]) h6:=by
   have s2:small62 2=true:=by decide
   have up2:upFrom 0 2=[.int 0,.int 1]:=by rfl
   simp only [b_law_program_5,xs1_forr,evi_rng,ev_cst,bnd_ok,bind_ok,s2,if_true,show (2:Int).toNat=2 from rfl,up2,forL_cons,bind_nm,List.set_cons_succ,List.set_cons_zero,e6,e7,forL_nil]
 obtain ⟨g1,ew⟩:=width_at H N t6 h6 (by omega)
 have old:∀ (hh:Hd),Up (h.length+2) (h++[.lst (ys.map .int),.lst (cs.map .int),.lst [.ref (h.length+1),.int 1,.int 26],.lst (ns.map .str)]++[.lst []]) hh→h.length≤hh.length∧∀ q,q<h.length→hh[q]? = h[q]? := by
   intro hh u
   refine ⟨ΩE (by simp) u.1,fun q hq=>?_⟩
   rw [u.2 q (by simp;omega) (by omega),Ωz,Ωe hq]
 have uu:=(u4.trans u5).trans u6
 have whole:∀ (tf:T) (hf:Hd),xs1 ⟨P.G,P.GD,run P N,P.L⟩ b_law_program_6 [some (.ro (zs.map .int)),some (.int st),some (.ref (h.length+1)),some (.ref (h.length+2)),some (.ref (h.length+3)),some t6.d,some (.int 1)] h6=.ok (.nx,[some (.ro (zs.map .int)),some (.int st),some (.ref (h.length+1)),some (.ref (h.length+2)),some (.ref (h.length+3)),some tf.d,some (.int 1)]) hf →
     retOf (xs2 ⟨P.G,P.GD,run P N,P.L⟩ f_law_program.body (startD f_law_program.N [.ro (zs.map .int),.int st]) h)=.ok tf.d hf:=by
   intro tf hf e
   show retOf (xs2 ⟨P.G,P.GD,run P N,P.L⟩ (.cons b_law_program_1 (.cons b_law_program_2 (.cons b_law_program_3 (.cons b_law_program_4 (.cons b_law_program_5 (.cons b_law_program_6 (.cons b_law_program_7 .nil))))))) [some (.ro (zs.map .int)),some (.int st),none,none,none,none,none] h)=_
   rw [xs2_cons,x1]
   simp only [bnd_ok,bind_ok]
   rw [xs2_cons,x2]
   simp only [bnd_ok,bind_ok]
   rw [xs2_cons,x3]
   simp only [bnd_ok,bind_ok]
   rw [xs2_cons,x4]
   simp only [bnd_ok,bind_ok]
   rw [xs2_cons,x5]
   simp only [bnd_ok,bind_ok]
   rw [xs2_cons,e]
   exact rfl
 have pl:∀ g2:Hd,∃ tp hp,run P N (Ω "_law_next") [.ref (h.length+2)] (h6++g2)=.ok (.int tp) (hp)∧Up (h.length+2) h6 hp:=by
   intro g2
   obtain ⟨v2,e8,_⟩:=r_next H N3 (c7.app (g:=g2)).st ⟨c7.ab,by rw [A7] at l2;rw [A6] at l4 l6;omega⟩
   rw [← hN3] at e8
   exact ⟨v2,_,e8,Up.app.trans Up.set⟩
 by_cases hw:(100:Int)<t6.size
 · obtain ⟨v2,hp,e8,u8⟩:=pl g1
   obtain ⟨tp,gp,e9,ctp,dtp⟩:=r_plain H N2 (Ω "n") v2 hp []
   rw [← hN2] at e9
   obtain ⟨o1,o2⟩:=old _ (uu.trans (u8.trans (Up.app (g:=gp))))
   refine ⟨tp,hp++gp,whole tp _ ?_,ctp,?_,by omega,o1,o2⟩
   · simp [b_law_program_6,ew,hw,e8,e9]
   · omega
 · obtain ⟨g2,ed⟩:=deep_at H N t6 (h6++g1) (by omega)
   by_cases hd:(20:Int)<dep t6
   · obtain ⟨v2,hp,e8,u8⟩:=pl (g1++g2)
     obtain ⟨tp,gp,e9,ctp,dtp⟩:=r_plain H N2 (Ω "n") v2 hp []
     rw [← hN2] at e9
     obtain ⟨o1,o2⟩:=old _ (uu.trans (u8.trans (Up.app (g:=gp))))
     refine ⟨tp,hp++gp,whole tp _ ?_,ctp,?_,by omega,o1,o2⟩
     · simp at ed e8
       simp [b_law_program_6,ew,hw,ed,hd,e8,e9]
     · omega
   · obtain ⟨o1,o2⟩:=old _ (uu.trans (Up.app (g:=g1++g2)))
     refine ⟨t6,h6++(g1++g2),whole t6 _ ?_,ct6,by omega,by omega,o1,o2⟩
     simp at ed
     simp [b_law_program_6,ew,hw,ed,hd]
end Gn
end
section
namespace Rw
open PySem L2 IV Gn
variable {P:Pg}{h:Hd}
noncomputable def wk(w:Wd)(a b:Int):Int:=match w with
 | .lt=>if a<b then 1 else 0
 | .add=>(a+b) % 1000000
 | .sub=>(a - b) % 1000000
 | .mul=>a * b % 1000000
end Rw
end
section
namespace Rw
open PySem L2 IV Gn
variable {P:Pg}{h:Hd}
end Rw
end
section
namespace Rw
open PySem L2 IV Gn
variable {P:Pg}{h:Hd}
end Rw
end
section
namespace Rw
open PySem L2 IV Gn
theorem T.pure_d:∀ t:T,t.d.pure=true
 | .num _=>rfl
 | .name _=>rfl
 | .fn _ e=>by simp [T.d,D.pure,D.pures,T.pure_d e]
 | .rcc _ _ e=>by simp [T.d,D.pure,D.pures,T.pure_d e]
 | .call f a=>by simp [T.d,D.pure,D.pures,T.pure_d f,T.pure_d a]
 | .iff c t e=>by simp [T.d,D.pure,D.pures,T.pure_d c,T.pure_d t,T.pure_d e]
 | .op _ f a=>by simp [T.d,D.pure,D.pures,T.pure_d f,T.pure_d a]
theorem T.dp_d:∀ t:T,t.d.dp=dep t+1
 | .num _=>rfl
 | .name _=>rfl
 | .fn _ e=>by simp [T.d,D.dp,D.dps,T.dp_d e,dep]
 | .rcc _ _ e=>by simp [T.d,D.dp,D.dps,T.dp_d e,dep]
 | .call f a=>by simp [T.d,D.dp,D.dps,T.dp_d f,T.dp_d a,dep]
 | .iff c t e=>by simp [T.d,D.dp,D.dps,T.dp_d c,T.dp_d t,T.dp_d e,dep]
 | .op _ f a=>by simp [T.d,D.dp,D.dps,T.dp_d f,T.dp_d a,dep]
theorem wk_ok(w:Wd)(a b:Int):0≤wk w a b∧wk w a b<1000000:=by
 cases w<;>simp only [wk]
 · omega
 · omega
 · exact ⟨Int.emod_nonneg _ (by decide),Int.emod_lt_of_pos _ (by decide)⟩
 · split<;>omega
end Rw
end
section
namespace Tm
open PySem L2 IV
noncomputable def b_bound_names:Sxs:=(.cons (.iff (.ex (.cmp .NotIn (.ix (.var 0) (.cst (.int 0))) (.glo (Ω "FORMS")))) (.cons (.ret (.tupl .nil)) .nil) .nil) (.cons (.ret (.sl (.var 0) (some (.cst (.int 1))) (some (.bin .Add (.cst (.int 1)) (.ix (.ix (.glo (Ω "FORMS")) (.ix (.var 0) (.cst (.int 0)))) (.cst (.int 0))))))) .nil))
noncomputable def f_bound_names:Fd:=⟨[(Ω "E")],[(Ω "E")],b_bound_names⟩
noncomputable def b_front_of:Sxs:=(.cons (.iff (.ex (.cmp .NotIn (.ix (.var 0) (.cst (.int 0))) (.glo (Ω "FORMS")))) (.cons (.ret (.var 0)) .nil) .nil) (.cons (.ret (.sl (.var 0) none (some (.bin .Add (.cst (.int 1)) (.ix (.ix (.glo (Ω "FORMS")) (.ix (.var 0) (.cst (.int 0)))) (.cst (.int 0))))))) .nil))
noncomputable def f_front_of:Fd:=⟨[(Ω "E")],[(Ω "E")],b_front_of⟩
noncomputable def b_count_parts:Sxs:=(.cons (.iff (.ex (.cmp .NotIn (.ix (.var 0) (.cst (.int 0))) (.glo (Ω "FORMS")))) (.cons (.ret (.cst (.int 0))) .nil) .nil) (.cons (.ret (.ix (.ix (.glo (Ω "FORMS")) (.ix (.var 0) (.cst (.int 0)))) (.cst (.int 1)))) .nil))
noncomputable def f_count_parts:Fd:=⟨[(Ω "front")],[(Ω "front")],b_count_parts⟩
noncomputable def b_built:Sxs:=(.cons (.set (.nm 1) (.lstl .nil)) (.cons (.forr (.nm 2) (.rev (.var 0)) (.cons (.set (.nm 3) (.comp [(Ω "k"),(Ω "done")] [none,some 1] (.rng (.call (Ω "count_parts") (.cons (.var 2) .nil))) (.nm 0) none (.meth .pop (.var 1) .nil))) (.cons (.drp (.meth .app (.var 1) (.cons (.bin .Add (.var 2) (.blt .tup (.cons (.var 3) .nil))) .nil))) .nil))) (.cons (.ret (.ix (.var 1) (.cst (.int 0)))) .nil)))
noncomputable def f_built:Fd:=⟨[(Ω "fronts")],[(Ω "fronts"),(Ω "done"),(Ω "front"),(Ω "parts")],b_built⟩
noncomputable def b_is_wide:Sxs:=(.cons (.ret (.cmp .Gt (.blt .len (.cons (.call (Ω "places") (.cons (.var 0) .nil)) .nil)) (.glo (Ω "WIDEST")))) .nil)
noncomputable def f_is_wide:Fd:=⟨[(Ω "E")],[(Ω "E")],b_is_wide⟩
noncomputable def b_bound_to:Sxs:=(.cons (.forr (.two 2 3) (.pl (.var 1)) (.cons (.iff (.ex (.cmp .Eq (.var 2) (.var 0))) (.cons (.ret (.var 3)) .nil) .nil) .nil)) (.cons (.ret (.cst .non)) .nil))
noncomputable def f_bound_to:Fd:=⟨[(Ω "name"),(Ω "around")],[(Ω "name"),(Ω "around"),(Ω "known"),(Ω "thing")],b_bound_to⟩
noncomputable def b_opened:Sxs:=(.cons (.iff (.ex (.cmp .Eq (.ix (.var 0) (.cst (.int 0))) (.cst (.str (Ω "clo"))))) (.cons (.ret (.sl (.var 0) (some (.cst (.int 1))) none)) .nil) .nil) (.cons (.ret (.tupl (.cons (.var 0) (.cons (.tupl .nil) .nil)))) .nil))
noncomputable def f_opened:Fd:=⟨[(Ω "thing")],[(Ω "thing")],b_opened⟩
noncomputable def b_meant_by:Sxs:=(.cons (.iff (.ex (.cmp .NotEq (.ix (.var 0) (.cst (.int 0))) (.cst (.str (Ω "name"))))) (.cons (.ret (.cst .non)) .nil) .nil) (.cons (.ret (.call (Ω "bound_to") (.cons (.ix (.var 0) (.cst (.int 1))) (.cons (.var 1) .nil)))) .nil))
noncomputable def f_meant_by:Fd:=⟨[(Ω "place"),(Ω "around")],[(Ω "place"),(Ω "around")],b_meant_by⟩
noncomputable def b_within:Sxs:=(.cons (.ret (.bin .Add (.blt .tup (.cons (.comp [(Ω "name")] [none] (.pl (.call (Ω "bound_names") (.cons (.var 0) .nil))) (.nm 0) none (.tupl (.cons (.var 0) (.cons (.cst .non) .nil)))) .nil)) (.var 1))) .nil)
noncomputable def f_within:Fd:=⟨[(Ω "place"),(Ω "around")],[(Ω "place"),(Ω "around")],b_within⟩
noncomputable def b_is_value:Sxs:=(.cons (.ret (.cmp .In (.ix (.var 0) (.cst (.int 0))) (.glo (Ω "VALUES")))) .nil)
noncomputable def f_is_value:Fd:=⟨[(Ω "E")],[(Ω "E")],b_is_value⟩
noncomputable def b_put_in_1:Sx:=(.set (.nm 2) (.blt .tup (.cons (.comp [(Ω "name"),(Ω "filling")] [none,some 1] (.dk (.var 1)) (.nm 0) none (.tupl (.cons (.var 0) (.cons (.tupl (.cons (.cst (.str (Ω "clo"))) (.cons (.ix (.var 1) (.var 0)) (.cons (.tupl .nil) .nil)))) .nil)))) .nil)))
noncomputable def b_put_in_2:Sx:=(.ret (.mcl (Ω "Pen") (Ω "filled") (.mk (Ω "Pen") (.cons (.cst .non) .nil)) (.cons (.var 0) (.cons (.var 2) .nil))))
noncomputable def b_put_in:Sxs:=(.cons b_put_in_1 (.cons b_put_in_2 .nil))
noncomputable def f_put_in:Fd:=⟨[(Ω "E"),(Ω "filling")],[(Ω "E"),(Ω "filling"),(Ω "around")],b_put_in⟩
noncomputable def b_parts_first:Sxs:=(.cons (.iff (.ex (.cmp .Eq (.ix (.var 0) (.cst (.int 0))) (.cst (.str (Ω "if"))))) (.cons (.ret (.sl (.var 0) (some (.cst (.int 1))) (some (.cst (.int 2))))) .nil) .nil) (.cons (.ret (.call (Ω "parts_of") (.cons (.var 0) .nil))) .nil))
noncomputable def f_parts_first:Fd:=⟨[(Ω "E")],[(Ω "E")],b_parts_first⟩
noncomputable def b_first_open:Sxs:=(.cons (.forr (.two 1 2) (.en1 (.call (Ω "parts_first") (.cons (.var 0) .nil))) (.cons (.iff (.nt (.ex (.call (Ω "is_value") (.cons (.var 2) .nil)))) (.cons (.ret (.var 1)) .nil) .nil) .nil)) (.cons (.ret (.cst .non)) .nil))
noncomputable def f_first_open:Fd:=⟨[(Ω "E")],[(Ω "E"),(Ω "k"),(Ω "part")],b_first_open⟩
noncomputable def b_way_down:Sxs:=(.cons (.set (.nm 1) (.lstl (.cons (.tupl (.cons (.var 0) (.cons (.call (Ω "first_open") (.cons (.var 0) .nil)) .nil))) .nil))) (.cons (.whl (.ex (.cmp .IsNot (.ix (.ix (.var 1) (.neg (.cst (.int 1)))) (.cst (.int 1))) (.cst .non))) (.cons (.set (.nm 2) (.ix (.ix (.ix (.var 1) (.neg (.cst (.int 1)))) (.cst (.int 0))) (.ix (.ix (.var 1) (.neg (.cst (.int 1)))) (.cst (.int 1))))) (.cons (.drp (.meth .app (.var 1) (.cons (.tupl (.cons (.var 2) (.cons (.call (Ω "first_open") (.cons (.var 2) .nil)) .nil))) .nil))) .nil))) (.cons (.ret (.var 1)) .nil)))
noncomputable def f_way_down:Fd:=⟨[(Ω "E")],[(Ω "E"),(Ω "way"),(Ω "inner")],b_way_down⟩
noncomputable def b_called:Sxs:=(.cons (.iff (.ex (.cmp .Eq (.ix (.var 0) (.cst (.int 0))) (.cst (.str (Ω "fn"))))) (.cons (.ret (.call (Ω "put_in") (.cons (.ix (.var 0) (.cst (.int 2))) (.cons (.dictl (.cons (.ix (.var 0) (.cst (.int 1))) (.cons (.var 1) .nil))) .nil)))) .nil) .nil) (.cons (.iff (.ex (.cmp .Eq (.ix (.var 0) (.cst (.int 0))) (.cst (.str (Ω "rec"))))) (.cons (.ret (.call (Ω "put_in") (.cons (.ix (.var 0) (.cst (.int 3))) (.cons (.dictl (.cons (.ix (.var 0) (.cst (.int 1))) (.cons (.var 0) (.cons (.ix (.var 0) (.cst (.int 2))) (.cons (.var 1) .nil))))) .nil)))) .nil) .nil) (.cons (.ret (.cst .non)) .nil)))
noncomputable def f_called:Fd:=⟨[(Ω "F"),(Ω "A")],[(Ω "F"),(Ω "A")],b_called⟩
noncomputable def b_chosen:Sxs:=(.cons (.iff (.ex (.cmp .NotEq (.ix (.var 0) (.cst (.int 0))) (.cst (.str (Ω "num"))))) (.cons (.ret (.cst .non)) .nil) .nil) (.cons (.ret (.ite (.ex (.cmp .Eq (.ix (.var 0) (.cst (.int 1))) (.cst (.int 0)))) (.var 2) (.var 1))) .nil))
noncomputable def f_chosen:Fd:=⟨[(Ω "C"),(Ω "T"),(Ω "E")],[(Ω "C"),(Ω "T"),(Ω "E")],b_chosen⟩
noncomputable def b_worked_1:Sx:=(.iff (.ors (.cons (.ex (.cmp .NotEq (.ix (.var 1) (.cst (.int 0))) (.cst (.str (Ω "num"))))) (.one (.ex (.cmp .NotEq (.ix (.var 2) (.cst (.int 0))) (.cst (.str (Ω "num")))))))) (.cons (.ret (.cst .non)) .nil) .nil)
noncomputable def b_worked_2:Sx:=(.iff (.ex (.cmp .Eq (.var 0) (.cst (.str (Ω "<"))))) (.cons (.ret (.tupl (.cons (.cst (.str (Ω "num"))) (.cons (.ite (.ex (.cmp .Lt (.ix (.var 1) (.cst (.int 1))) (.ix (.var 2) (.cst (.int 1))))) (.cst (.int 1)) (.cst (.int 0))) .nil)))) .nil) .nil)
noncomputable def b_worked_3:Sx:=(.iff (.ex (.cmp .Eq (.var 0) (.cst (.str (Ω "+"))))) (.cons (.ret (.tupl (.cons (.cst (.str (Ω "num"))) (.cons (.bin .Mod (.bin .Add (.ix (.var 1) (.cst (.int 1))) (.ix (.var 2) (.cst (.int 1)))) (.glo (Ω "BEYOND"))) .nil)))) .nil) .nil)
noncomputable def b_worked_4:Sx:=(.iff (.ex (.cmp .Eq (.var 0) (.cst (.str (Ω "-"))))) (.cons (.ret (.tupl (.cons (.cst (.str (Ω "num"))) (.cons (.bin .Mod (.bin .Sub (.ix (.var 1) (.cst (.int 1))) (.ix (.var 2) (.cst (.int 1)))) (.glo (Ω "BEYOND"))) .nil)))) .nil) .nil)
noncomputable def b_worked_5:Sx:=(.ret (.tupl (.cons (.cst (.str (Ω "num"))) (.cons (.bin .Mod (.bin .Mult (.ix (.var 1) (.cst (.int 1))) (.ix (.var 2) (.cst (.int 1)))) (.glo (Ω "BEYOND"))) .nil))))
noncomputable def b_worked:Sxs:=(.cons b_worked_1 (.cons b_worked_2 (.cons b_worked_3 (.cons b_worked_4 (.cons b_worked_5 .nil)))))
noncomputable def f_worked:Fd:=⟨[(Ω "word"),(Ω "first"),(Ω "second")],[(Ω "word"),(Ω "first"),(Ω "second")],b_worked⟩
noncomputable def b_become_1:Sx:=(.iff (.ex (.cmp .Eq (.ix (.var 0) (.cst (.int 0))) (.cst (.str (Ω "call"))))) (.cons (.ret (.call (Ω "called") (.cons (.ix (.var 0) (.cst (.int 1))) (.cons (.ix (.var 0) (.cst (.int 2))) .nil)))) .nil) .nil)
noncomputable def b_become_2:Sx:=(.iff (.ex (.cmp .Eq (.ix (.var 0) (.cst (.int 0))) (.cst (.str (Ω "if"))))) (.cons (.ret (.call (Ω "chosen") (.cons (.ix (.var 0) (.cst (.int 1))) (.cons (.ix (.var 0) (.cst (.int 2))) (.cons (.ix (.var 0) (.cst (.int 3))) .nil))))) .nil) .nil)
noncomputable def b_become_3:Sx:=(.ret (.call (Ω "worked") (.cons (.ix (.var 0) (.cst (.int 0))) (.cons (.ix (.var 0) (.cst (.int 1))) (.cons (.ix (.var 0) (.cst (.int 2))) .nil)))))
noncomputable def b_become:Sxs:=(.cons b_become_1 (.cons b_become_2 (.cons b_become_3 .nil)))
noncomputable def f_become:Fd:=⟨[(Ω "E")],[(Ω "E")],b_become⟩
noncomputable def b_put_back:Sxs:=(.cons (.set (.nm 2) (.var 1)) (.cons (.forr (.two 3 4) (.rev (.var 0)) (.cons (.set (.nm 2) (.bin .Add (.bin .Add (.sl (.var 3) none (some (.var 4))) (.tupl (.cons (.var 2) .nil))) (.sl (.var 3) (some (.bin .Add (.var 4) (.cst (.int 1)))) none))) .nil)) (.cons (.ret (.var 2)) .nil)))
noncomputable def f_put_back:Fd:=⟨[(Ω "way"),(Ω "E")],[(Ω "way"),(Ω "E"),(Ω "whole"),(Ω "place"),(Ω "inner")],b_put_back⟩
noncomputable def b_stepped_1:Sx:=(.iff (.ex (.call (Ω "is_value") (.cons (.var 0) .nil))) (.cons (.ret (.tupl (.cons (.cst (.str (Ω "value"))) .nil))) .nil) .nil)
noncomputable def b_stepped_2:Sx:=(.set (.nm 1) (.call (Ω "way_down") (.cons (.var 0) .nil)))
noncomputable def b_stepped_3:Sx:=(.set (.nm 2) (.call (Ω "become") (.cons (.ix (.ix (.var 1) (.neg (.cst (.int 1)))) (.cst (.int 0))) .nil)))
noncomputable def b_stepped_4:Sx:=(.iff (.ex (.cmp .Is (.var 2) (.cst .non))) (.cons (.ret (.tupl (.cons (.cst (.str (Ω "stuck"))) .nil))) .nil) .nil)
noncomputable def b_stepped_5:Sx:=(.ret (.tupl (.cons (.cst (.str (Ω "loud"))) (.cons (.call (Ω "put_back") (.cons (.sl (.var 1) none (some (.neg (.cst (.int 1))))) (.cons (.var 2) .nil))) .nil))))
noncomputable def b_stepped:Sxs:=(.cons b_stepped_1 (.cons b_stepped_2 (.cons b_stepped_3 (.cons b_stepped_4 (.cons b_stepped_5 .nil)))))
noncomputable def f_stepped:Fd:=⟨[(Ω "E")],[(Ω "E"),(Ω "way"),(Ω "F")],b_stepped⟩
noncomputable def b_row_of_1:Sx:=(.set (.nm 2) (.lstl (.cons (.var 0) .nil)))
noncomputable def b_row_of_2:Sx:=(.set (.nm 3) (.call (Ω "stepped") (.cons (.var 0) .nil)))
noncomputable def b_row_of_3:Sx:=(.whl (.ex (.cmp .Eq (.ix (.var 3) (.cst (.int 0))) (.cst (.str (Ω "loud"))))) (.cons (.iff (.ex (.cmp .Gt (.blt .len (.cons (.var 2) .nil)) (.var 1))) (.cons (.ret (.tupl (.cons (.var 2) (.cons (.cst (.str (Ω "open"))) .nil)))) .nil) .nil) (.cons (.iff (.ex (.call (Ω "is_wide") (.cons (.ix (.var 3) (.cst (.int 1))) .nil))) (.cons (.ret (.tupl (.cons (.var 2) (.cons (.cst (.str (Ω "wide"))) .nil)))) .nil) .nil) (.cons (.drp (.meth .app (.var 2) (.cons (.ix (.var 3) (.cst (.int 1))) .nil))) (.cons (.set (.nm 3) (.call (Ω "stepped") (.cons (.ix (.var 3) (.cst (.int 1))) .nil))) .nil)))))
noncomputable def b_row_of_4:Sx:=(.ret (.tupl (.cons (.var 2) (.cons (.ix (.var 3) (.cst (.int 0))) .nil))))
noncomputable def b_row_of:Sxs:=(.cons b_row_of_1 (.cons b_row_of_2 (.cons b_row_of_3 (.cons b_row_of_4 .nil))))
noncomputable def f_row_of:Fd:=⟨[(Ω "E"),(Ω "most")],[(Ω "E"),(Ω "most"),(Ω "row"),(Ω "step")],b_row_of⟩
noncomputable def b_Pen___init__:Sxs:=(.cons (.seta [(Ω "Pen")] (.var 0) (Ω "most") (.var 1)) (.cons (.seta [(Ω "Pen")] (.var 0) (Ω "used") (.cst (.int 0))) .nil))
noncomputable def f_Pen___init__:Fd:=⟨[(Ω "self"),(Ω "most")],[(Ω "self"),(Ω "most")],b_Pen___init__⟩
noncomputable def b_Pen_take_place:Sxs:=(.cons (.iff (.ex (.cmp .Eq (.att [(Ω "Pen")] (.var 0) (Ω "used")) (.att [(Ω "Pen")] (.var 0) (Ω "most")))) (.cons .any .nil) .nil) (.cons (.auga [(Ω "Pen")] (.var 0) (Ω "used") (.cst (.int 1))) .nil))
noncomputable def f_Pen_take_place:Fd:=⟨[(Ω "self")],[(Ω "self")],b_Pen_take_place⟩
noncomputable def b_Pen_filled:Sxs:=(.cons (.set (.nm 3) (.lstl .nil)) (.cons (.set (.nm 4) (.lstl (.cons (.tupl (.cons (.var 1) (.cons (.var 2) .nil))) .nil))) (.cons (.whl (.ex (.var 4)) (.cons (.set (.nm 5) (.meth .pop (.var 4) .nil)) (.cons (.set (.nm 6) (.call (Ω "meant_by") (.cons (.ix (.var 5) (.cst (.int 0))) (.cons (.ix (.var 5) (.cst (.int 1))) .nil)))) (.cons (.iff (.ex (.cmp .Is (.var 6) (.cst .non))) (.cons (.drp (.mcl (Ω "Pen") (Ω "take_place") (.var 0) .nil)) (.cons (.drp (.meth .app (.var 3) (.cons (.call (Ω "front_of") (.cons (.ix (.var 5) (.cst (.int 0))) .nil)) .nil))) (.cons (.set (.nm 7) (.call (Ω "within") (.cons (.ix (.var 5) (.cst (.int 0))) (.cons (.ix (.var 5) (.cst (.int 1))) .nil)))) (.cons (.drp (.meth .ext (.var 4) (.cons (.comp [(Ω "part"),(Ω "inner")] [none,some 7] (.rev (.call (Ω "parts_of") (.cons (.ix (.var 5) (.cst (.int 0))) .nil))) (.nm 0) none (.tupl (.cons (.var 0) (.cons (.var 1) .nil)))) .nil))) .nil)))) (.cons (.drp (.meth .app (.var 4) (.cons (.call (Ω "opened") (.cons (.var 6) .nil)) .nil))) .nil)) .nil)))) (.cons (.ret (.call (Ω "built") (.cons (.var 3) .nil))) .nil))))
noncomputable def f_Pen_filled:Fd:=⟨[(Ω "self"),(Ω "E"),(Ω "around")],[(Ω "self"),(Ω "E"),(Ω "around"),(Ω "fronts"),(Ω "waiting"),(Ω "pair"),(Ω "thing"),(Ω "inner")],b_Pen_filled⟩
structure Trm(P:Pg):Prop extends Gn.Tre P where
 bound_names:P.tb.lookup (Ω "bound_names")=some f_bound_names
 front_of:P.tb.lookup (Ω "front_of")=some f_front_of
 count_parts:P.tb.lookup (Ω "count_parts")=some f_count_parts
 built:P.tb.lookup (Ω "built")=some f_built
 bound_to:P.tb.lookup (Ω "bound_to")=some f_bound_to
 opened:P.tb.lookup (Ω "opened")=some f_opened
 meant_by:P.tb.lookup (Ω "meant_by")=some f_meant_by
 within:P.tb.lookup (Ω "within")=some f_within
 is_value:P.tb.lookup (Ω "is_value")=some f_is_value
 put_in:P.tb.lookup (Ω "put_in")=some f_put_in
 parts_first:P.tb.lookup (Ω "parts_first")=some f_parts_first
 first_open:P.tb.lookup (Ω "first_open")=some f_first_open
 way_down:P.tb.lookup (Ω "way_down")=some f_way_down
 called:P.tb.lookup (Ω "called")=some f_called
 chosen:P.tb.lookup (Ω "chosen")=some f_chosen
 worked:P.tb.lookup (Ω "worked")=some f_worked
 become:P.tb.lookup (Ω "become")=some f_become
 put_back:P.tb.lookup (Ω "put_back")=some f_put_back
 stepped:P.tb.lookup (Ω "stepped")=some f_stepped
 n_Pen___init__:P.tb.lookup (mnm (Ω "Pen") (Ω "__init__"))=none
 Pen___init__:P.ms.lookup (mnm (Ω "Pen") (Ω "__init__"))=some f_Pen___init__
 n_Pen_take_place:P.tb.lookup (mnm (Ω "Pen") (Ω "take_place"))=none
 Pen_take_place:P.ms.lookup (mnm (Ω "Pen") (Ω "take_place"))=some f_Pen_take_place
 n_Pen_filled:P.tb.lookup (mnm (Ω "Pen") (Ω "filled"))=none
 Pen_filled:P.ms.lookup (mnm (Ω "Pen") (Ω "filled"))=some f_Pen_filled
 gv:P.G (Ω "VALUES")=some (.tup [.str (Ω "num"),.str (Ω "fn"),.str (Ω "rec")])
 gb:P.G (Ω "BEYOND")=some (.int 1000000)
structure Trw(P:Pg):Prop extends Trm P where
 is_wide:P.tb.lookup (Ω "is_wide")=some f_is_wide
 row_of:P.tb.lookup (Ω "row_of")=some f_row_of
 gw:P.G (Ω "WIDEST")=some (.int 120)
end Tm
end
section
namespace Tm
open PySem L2 IV
variable {P:Pg}{h:Hd}
section
variable {w:Wd}
@[simp] theorem wd_num:(w.s=Ω "num")↔False:=by cases w<;>simp [Wd.s]
@[simp] theorem wd_name:(w.s=Ω "name")↔False:=by cases w<;>simp [Wd.s]
@[simp] theorem wd_call:(w.s=Ω "call")↔False:=by cases w<;>simp [Wd.s]
@[simp] theorem wd_if:(w.s=Ω "if")↔False:=by cases w<;>simp [Wd.s]
@[simp] theorem wd_fn:(w.s=Ω "fn")↔False:=by cases w<;>simp [Wd.s]
@[simp] theorem wd_rec:(w.s=Ω "rec")↔False:=by cases w<;>simp [Wd.s]
@[simp] theorem wd_forms:valD Gn.forms (.inr w.s)=some (.tup [.int 0,.int 2]):=by cases w<;>rfl
end
noncomputable def bnd:T→List Str
 | .fn x _=>[x]
 | .rcc f x _=>[f,x]
 | _=>[]
noncomputable def fr:T→List D
 | .num n=>[.str (Ω "num"),.int n]
 | .name x=>[.str (Ω "name"),.str x]
 | .fn x _=>[.str (Ω "fn"),.str x]
 | .rcc f x _=>[.str (Ω "rec"),.str f,.str x]
 | .call _ _=>[.str (Ω "call")]
 | .iff _ _ _=>[.str (Ω "if")]
 | .op w _ _=>[.str w.s]
theorem d_fr(t:T):t.d=.tup (fr t++t.parts.map T.d):=by cases t<;>rfl
theorem r_bound (H:Trm P) (n:Nat) (t:T) (h:Hd):run P (n+1) (Ω "bound_names") [t.d] h=.ok (.tup ((bnd t).map .str)) h:=by
 rw [run_def H.bound_names (by cases t<;>rfl)]
 have g:=H.g
 have gd:=H.gd
 generalize P.G=PG at g
 generalize P.GD=PD at gd
 cases t with
 | op w a b=>simp [T.d,bnd,f_bound_names,b_bound_names,startD,g,gd,cutD,HT.sIx]
 | _=>simp [T.d,bnd,f_bound_names,b_bound_names,startD,g,gd,Gn.forms,valD,cutD,HT.sIx]
theorem r_front (H:Trm P) (n:Nat) (t:T) (h:Hd):run P (n+1) (Ω "front_of") [t.d] h=.ok (.tup (fr t)) h:=by
 rw [run_def H.front_of (by cases t<;>rfl)]
 have g:=H.g
 have gd:=H.gd
 generalize P.G=PG at g
 generalize P.GD=PD at gd
 cases t with
 | op w a b=>simp [T.d,fr,f_front_of,b_front_of,startD,g,gd,cutD,HT.sIx]
 | _=>simp [T.d,fr,f_front_of,b_front_of,startD,g,gd,Gn.forms,valD,cutD,HT.sIx]
theorem r_count (H:Trm P) (n:Nat) (t:T) (h:Hd):run P (n+1) (Ω "count_parts") [.tup (fr t)] h=.ok (.int t.parts.length) h:=by
 rw [run_def H.count_parts (by rfl)]
 have g:=H.g
 have gd:=H.gd
 generalize P.G=PG at g
 generalize P.GD=PD at gd
 cases t with
 | op w a b=>simp [fr,T.parts,f_count_parts,b_count_parts,startD,g,gd]
 | _=>simp [fr,T.parts,f_count_parts,b_count_parts,startD,g,gd,Gn.forms,valD]
noncomputable abbrev Ar:=List (Str×Option T)
noncomputable def thd (V:T):D:=.tup [.str (Ω "clo"),V.d,.tup []]
noncomputable def ard(p:Str×Option T):D:=.tup [.str p.1,match p.2 with|some V=>thd V|none=>.non]
noncomputable def get:Ar→Str→Option T
 | [],_=>none
 | (y,v)::r,x=>if y=x then v else get r x
noncomputable def oD:Option T→D
 | some V=>thd V
 | none=>.non
noncomputable def lp_to:Sxs:=(.cons (.iff (.ex (.cmp .Eq (.var 2) (.var 0))) (.cons (.ret (.var 3)) .nil) .nil) .nil)
theorem l_to{U:Tb}{x:Str}{o:D}:∀ (ar:Ar) (a b:Option D),(∃ ρ,forL none (.two 2 3) (xs2 U lp_to) (ar.map ard) [some (.str x),some o,a,b] h=.ok (.rt (oD (get ar x)),ρ) h)∨(get ar x=none∧∃ ρ,forL none (.two 2 3) (xs2 U lp_to) (ar.map ard) [some (.str x),some o,a,b] h=.ok (.nx,ρ) h)
 | [],a,b=>.inr ⟨rfl,_,rfl⟩
 | (y,v)::r,a,b=>by
   by_cases e:y=x
   · refine .inl ⟨[some (.str x),some o,some (.str x),some (oD v)],?_⟩
     rw [Ωp,forL_cons]
     cases v<;>simp [ard,lp_to,get,e,oD]
   · have ih:=l_to (U:=U) (x:=x) (o:=o) r (some (.str y)) (some (match v with|some V=>thd V|none=>.non))
     rw [Ωp,forL_cons]
     simp only [get,if_neg e]
     rcases ih with ⟨ρ,q⟩|⟨q0,ρ,q⟩
     · refine .inl ⟨ρ,?_⟩
       cases v<;>(simp only at q;simp [ard,lp_to,e] at q ⊢;exact q)
     · refine .inr ⟨q0,ρ,?_⟩
       cases v<;>(simp only at q;simp [ard,lp_to,e] at q ⊢;exact q)
theorem r_to (H:Trm P) (n:Nat) (x:Str) (ar:Ar):run P (n+1) (Ω "bound_to") [.str x,.tup (ar.map ard)] h=.ok (oD (get ar x)) h:=by
 rw [run_def H.bound_to (by rfl)]
 rcases l_to (U:=⟨P.G,P.GD,run P n,P.L⟩) (h:=h) (x:=x) (o:=.tup (ar.map ard)) ar none none with ⟨ρ,q⟩|⟨q0,ρ,q⟩
 · unfold lp_to at q
   simp [f_bound_to,b_bound_to,startD,walkOf,q]
 · unfold lp_to at q
   simp [f_bound_to,b_bound_to,startD,walkOf,q,q0,oD]
noncomputable def mean(ar:Ar):T→Option T
 | .name x=>get ar x
 | _=>none
theorem r_meant (H:Trm P) (n:Nat) (t:T) (ar:Ar):run P (n+2) (Ω "meant_by") [t.d,.tup (ar.map ard)] h=.ok (oD (mean ar t)) h:=by
 rw [run_def H.meant_by (by cases t<;>rfl)]
 cases t with
 | name x =>
   have e:=r_to H n (h:=h) x ar
   simp [f_meant_by,b_meant_by,startD,T.d,mean,e]
 | op w a b=>simp [f_meant_by,b_meant_by,startD,T.d,mean,oD]
 | _=>simp [f_meant_by,b_meant_by,startD,T.d,mean,oD]
noncomputable def inn(t:T)(ar:Ar):Ar:=(bnd t).map (fun x=>(x,none))++ar
theorem c_within{U:Tb}:∀ (xs:List Str) (acc:List D),acc.length+xs.length≤1000→compL none (.nm 0) (tsto U none) (ev U (.tupl (.cons (.var 0) (.cons (.cst .non) .nil)))) (xs.map .str) [none] acc h=.ok (acc++(xs.map fun x=>D.tup [.str x,.non])) h
 | [],acc,_=>by simp [compL,Wk.stays]
 | x::xs,acc,hz=>by
   have ih:=c_within (U:=U) xs (acc++[.tup [.str x,.non]]) (by simp at hz ⊢;omega)
   have hl:acc.length<16777216:=by simp at hz;omega
   rw [Ωp,compL_cons]
   simp [Wk.stays,hl,sizeLine_eq]
   simpa using ih
theorem r_within (H:Trm P) (n:Nat) (t:T) (ar:Ar) (hz:ar.length≤100000):run P (n+2) (Ω "within") [t.d,.tup (ar.map ard)] h=.ok (.tup ((inn t ar).map ard)) (h++[.lst ((bnd t).map fun x=>.tup [.str x,.non])]):=by
 rw [run_def H.within (by cases t<;>rfl)]
 have e:=r_bound H n t h
 have hb:(bnd t).length≤2:=by cases t<;>simp [bnd]
 have c:=c_within (U:=⟨P.G,P.GD,run P (n+1),P.L⟩) (h:=h) (bnd t) [] (by simp;omega)
 have cat:∀ h',opB .Add (.tup ((bnd t).map fun x=>D.tup [.str x,.non])) (.tup (ar.map ard)) h'=.ok (.tup ((inn t ar).map ard)) h':=by
   intro h'
   rw [opB_tup (by rw [sizeLine_eq];simp;omega)]
   simp [inn,ard,Function.comp_def]
 simp at c
 simp [f_within,b_within,startD,e,walkOf,captD,c,bltD,bTup,lstOf,cat]
theorem r_opened (H:Trm P) (n:Nat) (V:T):run P (n+1) (Ω "opened") [thd V] h=.ok (.tup [V.d,.tup []]) h:=by
 rw [run_def H.opened (by rfl)]
 simp [f_opened,b_opened,startD,thd]
end Tm
end
section
namespace Tm
open PySem L2 IV
variable {P:Pg}
noncomputable def sub:Ar→T→T
 | _,.num n=>.num n
 | ar,.name x=>(get ar x).getD (.name x)
 | ar,.fn x e=>.fn x (sub ((x,none)::ar) e)
 | ar,.rcc f x e=>.rcc f x (sub ((f,none)::(x,none)::ar) e)
 | ar,.call f a=>.call (sub ar f) (sub ar a)
 | ar,.iff c t e=>.iff (sub ar c) (sub ar t) (sub ar e)
 | ar,.op w a b=>.op w (sub ar a) (sub ar b)
noncomputable def mu:Ar→T→Nat
 | _,.num _=>1
 | ar,.name x=>match get ar x with
   | some V=>V.size+1
   | none=>1
 | ar,.fn x e=>1+mu ((x,none)::ar) e
 | ar,.rcc f x e=>1+mu ((f,none)::(x,none)::ar) e
 | ar,.call f a=>1+(mu ar f+mu ar a)
 | ar,.iff c t e=>1+(mu ar c+(mu ar t+mu ar e))
 | ar,.op _ a b=>1+(mu ar a+mu ar b)
noncomputable def NN(ar:Ar):Prop:=∀ x,get ar x=none
theorem NN.cons{ar:Ar}(h:NN ar)(y:Str):NN ((y,none)::ar):=fun x=>by
 unfold get
 split
 · rfl
 · exact h x
theorem sub_nn:∀ (t:T) {ar:Ar},NN ar→sub ar t=t
 | .num _,_,_=>rfl
 | .name x,_,h=>by rw [sub,h x];rfl
 | .fn x e,_,h=>by rw [sub,sub_nn e (h.cons x)]
 | .rcc f x e,_,h=>by rw [sub,sub_nn e ((h.cons x).cons f)]
 | .call f a,_,h=>by rw [sub,sub_nn f h,sub_nn a h]
 | .iff c t e,_,h=>by rw [sub,sub_nn c h,sub_nn t h,sub_nn e h]
 | .op w a b,_,h=>by rw [sub,sub_nn a h,sub_nn b h]
theorem size_cons(t:T):t.size=1+(t.parts.map T.size).sum:=by
 unfold T.size
 rw [T.places_parts]
 simp only [Ωs,List.length_flatMap]
 omega
theorem size_pos(t:T):1≤t.size:=by rw [size_cons];omega
theorem mu_nn:∀ (t:T) {ar:Ar},NN ar→mu ar t=t.size
 | .num _,_,_=>rfl
 | .name x,_,h=>by rw [mu,h x];rfl
 | .fn x e,_,h=>by rw [mu,mu_nn e (h.cons x),size_cons (.fn x e)];simp [T.parts]
 | .rcc f x e,_,h=>by rw [mu,mu_nn e ((h.cons x).cons f),size_cons (.rcc f x e)];simp [T.parts]
 | .call f a,_,h=>by rw [mu,mu_nn f h,mu_nn a h,size_cons (.call f a)];simp [T.parts]
 | .iff c t e,_,h=>by rw [mu,mu_nn c h,mu_nn t h,mu_nn e h,size_cons (.iff c t e)];simp [T.parts]
 | .op w a b,_,h=>by rw [mu,mu_nn a h,mu_nn b h,size_cons (.op w a b)];simp [T.parts]
theorem sub_parts(t:T)(ar:Ar)(h:mean ar t=none):(sub ar t).parts=t.parts.map (sub (inn t ar))∧fr (sub ar t)=fr t:=by
 cases t with
 | name x=>rw [sub,show get ar x=none from h];exact ⟨rfl,rfl⟩
 | _=>exact ⟨rfl,rfl⟩
theorem mu_parts(t:T)(ar:Ar)(h:mean ar t=none):mu ar t=1+(t.parts.map (mu (inn t ar))).sum:=by
 cases t with
 | name x=>rw [mu,show get ar x=none from h];rfl
 | _=>simp [mu,T.parts,inn,bnd]
theorem mean_name{t:T}{ar:Ar}{V:T}(h:mean ar t=some V):sub ar t=V∧mu ar t=V.size+1:=by
 cases t with
 | name x =>
   have e:get ar x=some V:=h
   exact ⟨by rw [sub,e];rfl,by rw [mu,e]⟩
 | _=>cases h
theorem mu_le:∀ (t:T) (ar:Ar),mu ar t≤2 * (sub ar t).size
 | .num _,_=>by simp [mu,sub,T.size,T.places]
 | .name x,ar=>by
   cases e:get ar x with
   | none=>simp [mu,sub,e,T.size,T.places]
   | some V=>have:=size_pos V;simp [mu,sub,e];omega
 | .fn x e,ar=>by have:=mu_le e ((x,none)::ar);rw [sub,mu,size_cons];simp [T.parts];omega
 | .rcc f x e,ar=>by have:=mu_le e ((f,none)::(x,none)::ar);rw [sub,mu,size_cons];simp [T.parts];omega
 | .call f a,ar=>by have:=mu_le f ar;have:=mu_le a ar;rw [sub,mu,size_cons];simp [T.parts];omega
 | .iff c t e,ar=>by have:=mu_le c ar;have:=mu_le t ar;have:=mu_le e ar;rw [sub,mu,size_cons];simp [T.parts];omega
 | .op w a b,ar=>by have:=mu_le a ar;have:=mu_le b ar;rw [sub,mu,size_cons];simp [T.parts];omega
noncomputable def tf(t:T):D:=.tup (fr t)
theorem lt_at{h:Hd}{i:Nat}{o:DO}(e:h[i]? = some o):i<h.length:=(Ωb.mp e).1
theorem keep{h:Hd}{i:Nat}{o:DO}{g:Hd}(e:h[i]? = some o):(h++g)[i]? = some o:=by
 rw [Ωe (lt_at e)]
 exact e
structure B(h0 h:Hd)(fk dk:Nat)(fs ds:List D):Prop where
 f:h[fk]? = some (.lst fs)
 d:h[dk]? = some (.lst ds)
 ne:dk≠fk
 o1:h0.length≤dk
 ol:h0.length≤h.length
 old:∀ i,i<h0.length→h[i]? = h0[i]?
theorem B.set{h0 h:Hd}{fk dk:Nat}{fs ds:List D}(b:B h0 h fk dk fs ds)(es:List D):B h0 (h.set dk (.lst es)) fk dk fs es :=
 ⟨by rw [Ωc b.ne];exact b.f,by rw [Ωl (lt_at b.d)],b.ne,b.o1,by simpa using b.ol,fun i hi=>by rw [Ωc (by have:=b.o1;omega)];exact b.old i hi⟩
theorem B.app{h0 h g:Hd}{fk dk:Nat}{fs ds:List D}(b:B h0 h fk dk fs ds):B h0 (h++g) fk dk fs ds :=
 ⟨keep b.f,keep b.d,b.ne,b.o1,by have:=b.ol;simp;omega,fun i hi=>by rw [Ωe (by have:=b.ol;omega)];exact b.old i hi⟩
theorem c_pop{U:Tb}{h0:Hd}{fk dk:Nat}{fs:List D}:∀ (ks xs D0 acc:List D) (h:Hd),ks.length=xs.length→acc.length+xs.length≤1000→B h0 h fk dk fs (D0++xs.reverse)→∃ h',
   compL none (.nm 0) (tsto U none) (ev U (.meth .pop (.var 1) .nil)) ks [none,some (.ref dk)] acc h=.ok (acc++xs) h'∧B h0 h' fk dk fs D0
 | [],[],D0,acc,h,_,_,b=>⟨h,by simp [compL,Wk.stays],by simpa using b⟩
 | [],_::_,_,_,_,e,_,_=>by cases e
 | _::_,[],_,_,_,e,_,_=>by cases e
 | k::ks,x::xs,D0,acc,h,e,hz,b=>by
   have b1:B h0 h fk dk fs ((D0++xs.reverse)++[x]):=by simpa using b
   obtain ⟨h',q,b2⟩:=c_pop (U:=U) ks xs D0 (acc++[x]) _ (by simpa using e) (by simp at hz ⊢;omega) (b1.set (D0++xs.reverse))
   refine ⟨h',?_,b2⟩
   have pp:=meth_pop b1.d
   have il:=isLst_ref b1.d
   have hl:acc.length<16777216:=by simp at hz;omega
   rw [compL_cons]
   simp [Wk.stays,hl,sizeLine_eq,il,pp]
   simpa using q
noncomputable def lp_built:Sxs:=(.cons (.set (.nm 3) (.comp [(Ω "k"),(Ω "done")] [none,some 1] (.rng (.call (Ω "count_parts") (.cons (.var 2) .nil))) (.nm 0) none (.meth .pop (.var 1) .nil))) (.cons (.drp (.meth .app (.var 1) (.cons (.bin .Add (.var 2) (.blt .tup (.cons (.var 3) .nil))) .nil))) .nil))
theorem t_built(H:Trm P)(n:Nat){h0 h:Hd}{fk dk:Nat}{fs D0:List D}(t:T)(b:B h0 h fk dk fs (D0++(t.parts.map T.d).reverse))(hz:D0.length≤1000000)(o0 o3:Option D):∃ h' o3',
   xs2 (P.tbl (n+1)) lp_built [o0,some (.ref dk),some (tf t),o3] h=.ok (.nx,[o0,some (.ref dk),some (tf t),o3']) h'∧B h0 h' fk dk fs (D0++[t.d]):=by
 have hp:t.parts.length≤3:=by cases t<;>simp [T.parts]
 have hf:(fr t).length≤3:=by cases t<;>simp [fr]
 have ec:=r_count H n t h
 obtain ⟨h1,q1,b1⟩:=c_pop (U:=P.tbl (n+1)) (upFrom 0 t.parts.length) (t.parts.map T.d) D0 [] h (by simp [upFrom]) (by simp;omega) b
 have s62:small62 (t.parts.length:Int)=true:=by simp [small62];omega
 have b2:=(b1.app (g:=[.lst (t.parts.map T.d)])).set (D0++[t.d])
 refine ⟨_,some (.ref h1.length),?_,b2⟩
 have k1:(h1++[DO.lst (t.parts.map T.d)])[dk]? = some (.lst D0):=keep b1.d
 have x1:xs1 (P.tbl (n+1)) (.set (.nm 3) (.comp [(Ω "k"),(Ω "done")] [none,some 1] (.rng (.call (Ω "count_parts") (.cons (.var 2) .nil))) (.nm 0) none (.meth .pop (.var 1) .nil))) [o0,some (.ref dk),some (tf t),o3] h=.ok (.nx,[o0,some (.ref dk),some (tf t),some (.ref h1.length)]) (h1++[.lst (t.parts.map T.d)]):=by
   have ei:evi (P.tbl (n+1)) (.rng (.call (Ω "count_parts") (.cons (.var 2) .nil))) [o0,some (.ref dk),some (tf t),o3] h=.ok ⟨none,upFrom 0 t.parts.length⟩ h:=by
     have e1:ev (P.tbl (n+1)) (.call (Ω "count_parts") (.cons (.var 2) .nil)) [o0,some (.ref dk),some (tf t),o3] h=.ok (.int t.parts.length) h:=ec
     rw [evi_rng,e1,bnd_ok]
     exact (if_pos s62).trans (by rw [Int.toNat_natCast])
   rw [xs1_set,ev_comp,ei,bnd_ok]
   simp only [captD,Ωp,Ωy,Option.bind_none,Option.bind_some]
   rw [show ([o0,some (D.ref dk),some (tf t),o3][1]?).join=some (.ref dk) from rfl,q1]
   rfl
 have x2:xs1 (P.tbl (n+1)) (.drp (.meth .app (.var 1) (.cons (.bin .Add (.var 2) (.blt .tup (.cons (.var 3) .nil))) .nil))) [o0,some (.ref dk),some (tf t),some (.ref h1.length)] (h1++[.lst (t.parts.map T.d)])=.ok (.nx,[o0,some (.ref dk),some (tf t),some (.ref h1.length)]) (List.set (h1++[.lst (t.parts.map T.d)]) dk (.lst (D0++[t.d]))):=by
   have ap:=meth_app (d:=t.d) k1 (by rw [sizeLine_eq];omega)
   have il:=isLst_ref k1
   have ad:∀ h',opB .Add (tf t) (.tup (t.parts.map T.d)) h'=.ok t.d h':=fun h'=>by rw [d_fr];exact opB_tup (by rw [sizeLine_eq];simp;omega)
   simp [il,bltD,bTup,lstOf,ad,ap]
 rw [lp_built,xs2_nx x1,xs2_nx x2]
 rfl
end Tm
end
section
namespace Tm
open PySem L2 IV
variable {P:Pg}
theorem forL_src{j:Nat}{L:List D}{g:Tg}{body:Ev→Hd→R (Fl×Ev)}{d:D}{ds:List D}{ρ ρ1 ρ2:Ev}{h h2:Hd}(e:h[j]? = some (.lst L))(b:bindT g d ρ=some ρ1)(q:body ρ1 h=.ok (.nx,ρ2) h2):forL (some (j,L)) g body (d::ds) ρ h=forL (some (j,L)) g body ds ρ2 h2:=by
 have:Wk.stays (some (j,L)) h=true:=by simp [Wk.stays,e]
 rw [forL,if_pos this,b]
 simp only
 rw [q]
 rfl
theorem forL_end{j:Nat}{L:List D}{g:Tg}{body:Ev→Hd→R (Fl×Ev)}{ρ:Ev}{h:Hd}(e:h[j]? = some (.lst L)):forL (some (j,L)) g body [] ρ h=.ok (.nx,ρ) h:=by
 have:Wk.stays (some (j,L)) h=true:=by simp [Wk.stays,e]
 rw [forL,if_pos this]
noncomputable def wb(P:Pg)(n fk dk:Nat)(fs:List D)(o0:Option D)(rest:List D)(o2 o3:Option D)(h:Hd):R (Fl×Ev):=forL (some (fk,fs)) (.nm 2) (xs2 (P.tbl (n+1)) lp_built) rest [o0,some (.ref dk),o2,o3] h
noncomputable def Bt(P:Pg)(n:Nat)(h0:Hd)(fk dk:Nat)(fs:List D)(o0:Option D)(xs D0 D1:List D):Prop:=∀ (rest:List D) (h:Hd) (o2 o3:Option D),B h0 h fk dk fs D0→∃ h' o2' o3',wb P n fk dk fs o0 (xs++rest) o2 o3 h=wb P n fk dk fs o0 rest o2' o3' h'∧B h0 h' fk dk fs D1
section
variable {n:Nat}{h0:Hd}{fk dk:Nat}{fs:List D}{o0:Option D}{xs ys D0 D1 D2:List D}
theorem Bt.trans(a:Bt P n h0 fk dk fs o0 xs D0 D1)(b:Bt P n h0 fk dk fs o0 ys D1 D2):Bt P n h0 fk dk fs o0 (xs++ys) D0 D2:=fun rest h o2 o3 q=>by
 obtain ⟨h1,o21,o31,e1,q1⟩:=a (ys++rest) h o2 o3 q
 obtain ⟨h2,o22,o32,e2,q2⟩:=b rest h1 o21 o31 q1
 exact ⟨h2,o22,o32,by rw [Ωz,e1,e2],q2⟩
theorem Bt.front(H:Trm P)(t:T)(hz:D0.length≤1000000):Bt P n h0 fk dk fs o0 [tf t] (D0++(t.parts.map T.d).reverse) (D0++[t.d]):=fun rest h o2 o3 b=>by
 obtain ⟨h',o3',e,b'⟩:=t_built H n t b hz o0 o3
 exact ⟨h',some (tf t),o3',forL_src b.f rfl e,b'⟩
end
theorem p_tree(H:Trm P){n:Nat}{h0:Hd}{fk dk:Nat}{fs:List D}{o0:Option D}:∀ (t:T) (D0:List D),D0.length+t.size≤1000000→Bt P n h0 fk dk fs o0 (t.places.map tf).reverse D0 (D0++[t.d])
 | .num m,D0,hz=>by simpa [T.places,T.parts] using Bt.front (P:=P) (n:=n) (h0:=h0) (fk:=fk) (dk:=dk) (fs:=fs) (o0:=o0) (D0:=D0) H (.num m) (by omega)
 | .name m,D0,hz=>by simpa [T.places,T.parts] using Bt.front (P:=P) (n:=n) (h0:=h0) (fk:=fk) (dk:=dk) (fs:=fs) (o0:=o0) (D0:=D0) H (.name m) (by omega)
 | .fn x e,D0,hz=>by
   rw [size_cons] at hz
   simp only [T.parts,Ωp,Ωy,ΩI,List.sum_nil] at hz
   have a:=(p_tree H (n:=n) (h0:=h0) (fk:=fk) (dk:=dk) (fs:=fs) (o0:=o0) e D0 (by omega)).trans (Bt.front H (.fn x e) (by omega))
   simpa [T.places,T.parts] using a
 | .rcc f x e,D0,hz=>by
   rw [size_cons] at hz
   simp only [T.parts,Ωp,Ωy,ΩI,List.sum_nil] at hz
   have a:=(p_tree H (n:=n) (h0:=h0) (fk:=fk) (dk:=dk) (fs:=fs) (o0:=o0) e D0 (by omega)).trans (Bt.front H (.rcc f x e) (by omega))
   simpa [T.places,T.parts] using a
 | .call f a,D0,hz=>by
   rw [size_cons] at hz
   simp only [T.parts,Ωp,Ωy,ΩI,List.sum_nil] at hz
   have s1:=size_pos f
   have q:=(p_tree H (n:=n) (h0:=h0) (fk:=fk) (dk:=dk) (fs:=fs) (o0:=o0) a D0 (by omega)).trans (p_tree H f (D0++[a.d]) (by simp;omega))
   have r:=Bt.front (P:=P) (n:=n) (h0:=h0) (fk:=fk) (dk:=dk) (fs:=fs) (o0:=o0) (D0:=D0) H (.call f a) (by omega)
   simp only [T.parts,Ωp,Ωy,List.reverse_cons,List.reverse_nil,ΩB] at r
   rw [← Ωz] at r
   simpa [T.places] using q.trans r
 | .op w f a,D0,hz=>by
   rw [size_cons] at hz
   simp only [T.parts,Ωp,Ωy,ΩI,List.sum_nil] at hz
   have s1:=size_pos f
   have q:=(p_tree H (n:=n) (h0:=h0) (fk:=fk) (dk:=dk) (fs:=fs) (o0:=o0) a D0 (by omega)).trans (p_tree H f (D0++[a.d]) (by simp;omega))
   have r:=Bt.front (P:=P) (n:=n) (h0:=h0) (fk:=fk) (dk:=dk) (fs:=fs) (o0:=o0) (D0:=D0) H (.op w f a) (by omega)
   simp only [T.parts,Ωp,Ωy,List.reverse_cons,List.reverse_nil,ΩB] at r
   rw [← Ωz] at r
   simpa [T.places] using q.trans r
 | .iff c t e,D0,hz=>by
   rw [size_cons] at hz
   simp only [T.parts,Ωp,Ωy,ΩI,List.sum_nil] at hz
   have s1:=size_pos c
   have s2:=size_pos t
   have q:=((p_tree H (n:=n) (h0:=h0) (fk:=fk) (dk:=dk) (fs:=fs) (o0:=o0) e D0 (by omega)).trans (p_tree H t (D0++[e.d]) (by simp;omega))).trans (p_tree H c (D0++[e.d]++[t.d]) (by simp;omega))
   have r:=Bt.front (P:=P) (n:=n) (h0:=h0) (fk:=fk) (dk:=dk) (fs:=fs) (o0:=o0) (D0:=D0) H (.iff c t e) (by omega)
   simp only [T.parts,Ωp,Ωy,List.reverse_cons,List.reverse_nil,ΩB] at r
   rw [← Ωz,← Ωz] at r
   simpa [T.places] using q.trans r
theorem r_built (H:Trm P) (n:Nat) (t:T) {h:Hd}{fk:Nat} (hf:h[fk]? = some (.lst (t.places.map tf))) (hz:t.size≤500000):∃ g,run P (n+2) (Ω "built") [.ref fk] h=.ok t.d (h++g):=by
 rw [run_def H.built (by rfl)]
 have b0:B h (h++[.lst []]) fk h.length (t.places.map tf) []:=⟨keep hf,by simp,by have:=lt_at hf;omega,Ωq _,by simp,fun i hi=>Ωe hi⟩
 obtain ⟨h1,o2,o3,e1,b1⟩:=p_tree H (n:=n) (o0:=some (.ref fk)) t [] (by simp;omega) [] _ none none b0
 have e2:wb P n fk h.length (t.places.map tf) (some (.ref fk)) [] o2 o3 h1=.ok (.nx,[some (.ref fk),some (.ref h.length),o2,o3]) h1:=forL_end b1.f
 rw [e2,List.append_nil] at e1
 have ex:∃ g,h1=h++g:=⟨h1.drop h.length,by
   apply List.ext_getElem?
   intro i
   rcases Nat.lt_or_ge i h.length with q|q
   · rw [b1.old i q,Ωe q]
   · rw [Ωm q,List.getElem?_drop]
     congr 1
     omega⟩
 obtain ⟨g,rfl⟩:=ex
 refine ⟨g,?_⟩
 have x0:=opIx_lst (GD:=P.GD) (k:=0) b1.d
 have hw:walkT (.ref fk) (h++[.lst []])=some ⟨some (fk,t.places.map tf),t.places.map tf⟩:=by simp [walkT,b0.f]
 unfold wb lp_built at e1
 simp only [Pg.tbl] at e1
 simp only [ΩB] at x0
 simp [f_built,b_built,startD,sizeLine_eq,hw,e1,x0]
end Tm
end
section
namespace Tm
open PySem L2 IV
variable {P:Pg}
noncomputable def penD (mo:D) (u:Int):DO:=.ins (Ω "Pen") [(Ω "most",mo),(Ω "used",.int u)]
noncomputable def Lim(mo:D)(z:Int):Prop:=mo=.non∨∃ m:Int,mo=.int m∧z≤m
theorem Lim.le{mo:D}{y z:Int}(l:Lim mo z)(h:y≤z):Lim mo y:=by
 rcases l with e|⟨m,e,q⟩
 · exact .inl e
 · exact .inr ⟨m,e,by omega⟩
theorem r_pen (H:Trm P) (n:Nat) (mo:D) (h:Hd):newI (run P (n+1)) (Ω "Pen") [mo] h=.ok (.ref h.length) (h++[penD mo 0]):=by
 unfold newI
 rw [run_mt H.n_Pen___init__ H.Pen___init__ (by rfl)]
 simp [f_Pen___init__,b_Pen___init__,startD,setA,putA,sizeLine_eq,penD]
theorem int_non{u:Int}{h:Hd}:IV.opEq false (D.int u) D.non h=.ok (D.bl false) h:=by
 have e:PyData.eqv (.int u) .none=false:=by simp [PyData.eqv]
 show (if min (PyData.int u).depth PyData.none.depth≤1100 then R.ok (D.bl (if false then !PyData.eqv (.int u) .none else PyData.eqv (.int u) .none)) h else .bad)=_
 rw [if_pos (by simp [PyData.depth]),e]
 rfl
theorem r_take (H:Trm P) (n:Nat) {h:Hd}{pk:Nat}{mo:D}{u:Int} (lm:Lim mo (u+1)) (hp:h[pk]? = some (penD mo u)):run P (n+1) (mnm (Ω "Pen") (Ω "take_place")) [.ref pk] h=.ok .non (h.set pk (penD mo (u+1))):=by
 rw [run_mt H.n_Pen_take_place H.Pen_take_place (by rfl)]
 have ne:IV.opEq false (D.int u) mo h=.ok (D.bl false) h:=by
   rcases lm with rfl|⟨m,rfl,q⟩
   · exact int_non
   · have:¬ u=m:=by omega
     simp [this]
 unfold penD at hp ⊢
 simp [f_Pen_take_place,b_Pen_take_place,startD,getA,insOf,hp,List.lookup,ne,setA,putA]
noncomputable def pr(p:T×Ar):D:=.tup [p.1.d,.tup (p.2.map ard)]
structure Fi(mo:D)(h0 h:Hd)(pk fk wk:Nat)(u:Int)(F:List D)(W:List D):Prop where
 p:h[pk]? = some (penD mo u)
 f:h[fk]? = some (.lst F)
 w:h[wk]? = some (.lst W)
 ne:fk≠wk
 o2:h0.length≤fk
 o3:h0.length≤wk
 ol:h0.length≤h.length
 old:∀ i,i<h0.length→i≠pk→h[i]? = h0[i]?
section
variable {mo:D}{h0 h g:Hd}{pk fk wk:Nat}{u:Int}{F W:List D}
theorem Fi.app(q:Fi mo h0 h pk fk wk u F W):Fi mo h0 (h++g) pk fk wk u F W:=⟨keep q.p,keep q.f,keep q.w,q.ne,q.o2,q.o3,by have:=q.ol;simp;omega,fun i hi hn=>by rw [Ωe (by have:=q.ol;omega)];exact q.old i hi hn⟩
theorem ne_ins{i j:Nat}{l:List D}(a:h[i]? = some (penD mo u))(b:h[j]? = some (.lst l)):i≠j:=fun z=>by
 rw [z,b] at a
 cases a
theorem Fi.setP(q:Fi mo h0 h pk fk wk u F W)(v:Int):Fi mo h0 (h.set pk (penD mo v)) pk fk wk v F W :=
 ⟨by rw [Ωl (lt_at q.p)],by rw [Ωc (ne_ins q.p q.f)];exact q.f,by rw [Ωc (ne_ins q.p q.w)];exact q.w,q.ne,q.o2,q.o3,by simpa using q.ol,fun i hi hn=>by rw [Ωc (Ne.symm hn)];exact q.old i hi hn⟩
theorem Fi.setF(q:Fi mo h0 h pk fk wk u F W)(G:List D):Fi mo h0 (h.set fk (.lst G)) pk fk wk u G W :=
 ⟨by rw [Ωc (ne_ins q.p q.f).symm];exact q.p,by rw [Ωl (lt_at q.f)],by rw [Ωc q.ne];exact q.w,q.ne,q.o2,q.o3,by simpa using q.ol,fun i hi hn=>by rw [Ωc (by have:=q.o2;omega)];exact q.old i hi hn⟩
theorem Fi.setW(q:Fi mo h0 h pk fk wk u F W)(G:List D):Fi mo h0 (h.set wk (.lst G)) pk fk wk u F G :=
 ⟨by rw [Ωc (ne_ins q.p q.w).symm];exact q.p,by rw [Ωc q.ne.symm];exact q.f,by rw [Ωl (lt_at q.w)],q.ne,q.o2,q.o3,by simpa using q.ol,fun i hi hn=>by rw [Ωc (by have:=q.o3;omega)];exact q.old i hi hn⟩
end
noncomputable def fl1:Sx:=(.set (.nm 5) (.meth .pop (.var 4) .nil))
noncomputable def fl2:Sx:=(.set (.nm 6) (.call (Ω "meant_by") (.cons (.ix (.var 5) (.cst (.int 0))) (.cons (.ix (.var 5) (.cst (.int 1))) .nil))))
noncomputable def fa1:Sx:=(.drp (.mcl (Ω "Pen") (Ω "take_place") (.var 0) .nil))
noncomputable def fa2:Sx:=(.drp (.meth .app (.var 3) (.cons (.call (Ω "front_of") (.cons (.ix (.var 5) (.cst (.int 0))) .nil)) .nil)))
noncomputable def fa3:Sx:=(.set (.nm 7) (.call (Ω "within") (.cons (.ix (.var 5) (.cst (.int 0))) (.cons (.ix (.var 5) (.cst (.int 1))) .nil))))
noncomputable def fa4:Sx:=(.drp (.meth .ext (.var 4) (.cons (.comp [(Ω "part"),(Ω "inner")] [none,some 7] (.rev (.call (Ω "parts_of") (.cons (.ix (.var 5) (.cst (.int 0))) .nil))) (.nm 0) none (.tupl (.cons (.var 0) (.cons (.var 1) .nil)))) .nil)))
noncomputable def fb1:Sx:=(.drp (.meth .app (.var 4) (.cons (.call (Ω "opened") (.cons (.var 6) .nil)) .nil)))
noncomputable def fl3:Sx:=(.iff (.ex (.cmp .Is (.var 6) (.cst .non))) (.cons fa1 (.cons fa2 (.cons fa3 (.cons fa4 .nil)))) (.cons fb1 .nil))
noncomputable def lp_fill:Sxs:=.cons fl1 (.cons fl2 (.cons fl3 .nil))
theorem fill_is:b_Pen_filled=.cons (.set (.nm 3) (.lstl .nil)) (.cons (.set (.nm 4) (.lstl (.cons (.tupl (.cons (.var 1) (.cons (.var 2) .nil))) .nil))) (.cons (.whl (.ex (.var 4)) lp_fill) (.cons (.ret (.call (Ω "built") (.cons (.var 3) .nil))) .nil))):=rfl
theorem c_pair{U:Tb}{h:Hd}{a:D}:∀ (ds acc:List D),acc.length+ds.length≤1000→compL none (.nm 0) (tsto U none) (ev U (.tupl (.cons (.var 0) (.cons (.var 1) .nil)))) ds [none,some a] acc h=.ok (acc++ds.map fun d=>D.tup [d,a]) h
 | [],acc,_=>by simp [compL,Wk.stays]
 | x::xs,acc,hz=>by
   have ih:=c_pair (U:=U) (h:=h) (a:=a) xs (acc++[.tup [x,a]]) (by simp at hz ⊢;omega)
   have hl:acc.length<16777216:=by simp at hz;omega
   rw [compL_cons]
   simp [Wk.stays,hl,sizeLine_eq]
   simpa using ih
theorem t_fill(H:Trm P)(n:Nat){mo:D}{h0 h:Hd}{pk fk wk:Nat}{u:Int}{F W:List D}(t:T)(ar:Ar)(lm:Lim mo (u+1))(q:Fi mo h0 h pk fk wk u F (W++[pr (t,ar)]))(hF:F.length≤1000000)(hW:W.length≤1000000)(ha:ar.length≤90000)(o1 o2 o5 o6 o7:Option D):∃ h' o5' o6' o7' u' F' W',
   xs2 (P.tbl (n+2)) lp_fill [some (.ref pk),o1,o2,some (.ref fk),some (.ref wk),o5,o6,o7] h=.ok (.nx,[some (.ref pk),o1,o2,some (.ref fk),some (.ref wk),o5',o6',o7']) h'∧Fi mo h0 h' pk fk wk u' F' W' ∧
     ((mean ar t=none∧u'=u+1∧F'=F++[tf t]∧W'=W++(t.parts.reverse.map fun s=>pr (s,inn t ar)))∨∃ V,mean ar t=some V∧u'=u∧F'=F∧W'=W++[pr (V,[])]):=by
 have q1:=q.setW W
 have pp:=meth_pop (h:=h) q.w
 have il:=isLst_ref q.w
 have x1:xs1 (P.tbl (n+2)) fl1 [some (.ref pk),o1,o2,some (.ref fk),some (.ref wk),o5,o6,o7] h=.ok (.nx,[some (.ref pk),o1,o2,some (.ref fk),some (.ref wk),some (pr (t,ar)),o6,o7]) (h.set wk (.lst W)):=by
   simp [fl1,il,pp]
 generalize h.set wk (.lst W)=h1 at *
 have em:=r_meant H n (h:=h1) t ar
 have x2:xs1 (P.tbl (n+2)) fl2 [some (.ref pk),o1,o2,some (.ref fk),some (.ref wk),some (pr (t,ar)),o6,o7] h1=.ok (.nx,[some (.ref pk),o1,o2,some (.ref fk),some (.ref wk),some (pr (t,ar)),some (oD (mean ar t)),o7]) h1:=by
   simp [fl2,pr,Pg.tbl,em]
 cases hm:mean ar t with
 | none =>
   rw [hm] at x2
   have e1:=r_take H (n+1) lm q1.p
   have q2:=q1.setP (u+1)
   have pen:=q1.p
   have y1:xs1 (P.tbl (n+2)) fa1 [some (.ref pk),o1,o2,some (.ref fk),some (.ref wk),some (pr (t,ar)),some .non,o7] h1=.ok (.nx,[some (.ref pk),o1,o2,some (.ref fk),some (.ref wk),some (pr (t,ar)),some .non,o7]) (h1.set pk (penD mo (u+1))):=by
     unfold penD at pen
     simp [fa1,insOf,pen,List.lookup,Pg.tbl,e1]
   generalize h1.set pk (penD mo (u+1))=h2 at *
   have ef:=r_front H (n+1) t h2
   have q3:=q2.setF (F++[tf t])
   have ap:=meth_app (d:=tf t) q2.f (by rw [sizeLine_eq];omega)
   have il2:=isLst_ref q2.f
   have y2:xs1 (P.tbl (n+2)) fa2 [some (.ref pk),o1,o2,some (.ref fk),some (.ref wk),some (pr (t,ar)),some .non,o7] h2=.ok (.nx,[some (.ref pk),o1,o2,some (.ref fk),some (.ref wk),some (pr (t,ar)),some .non,o7]) (h2.set fk (.lst (F++[tf t]))):=by
     unfold tf at ap ⊢
     simp [fa2,il2,pr,Pg.tbl,ef,ap]
   generalize h2.set fk (.lst (F++[tf t]))=h3 at *
   have ew:=r_within H n (h:=h3) t ar (by omega)
   have q4:=q3.app (g:=[.lst ((bnd t).map fun x=>.tup [.str x,.non])])
   have y3:xs1 (P.tbl (n+2)) fa3 [some (.ref pk),o1,o2,some (.ref fk),some (.ref wk),some (pr (t,ar)),some .non,o7] h3=.ok (.nx,[some (.ref pk),o1,o2,some (.ref fk),some (.ref wk),some (pr (t,ar)),some .non,some (.tup ((inn t ar).map ard))]) (h3++[.lst ((bnd t).map fun x=>.tup [.str x,.non])]):=by
     simp [fa3,pr,Pg.tbl,ew]
   generalize h3++[DO.lst ((bnd t).map fun x=>.tup [.str x,.non])]=h4 at *
   have ep:=Gn.r_parts H.toTre (n+1) t h4
   have hp:t.parts.length≤3:=by cases t<;>simp [T.parts]
   have ec:=c_pair (U:=P.tbl (n+2)) (h:=h4) (a:=.tup ((inn t ar).map ard)) (t.parts.map T.d).reverse [] (by simp;omega)
   have q5:=q4.app (g:=[.lst ((t.parts.map T.d).reverse.map fun d=>D.tup [d,.tup ((inn t ar).map ard)])])
   have q6:=q5.setW (W++(t.parts.map T.d).reverse.map fun d=>D.tup [d,.tup ((inn t ar).map ard)])
   have kw:=q5.w
   have il4:=isLst_ref q4.w
   have y4:xs1 (P.tbl (n+2)) fa4 [some (.ref pk),o1,o2,some (.ref fk),some (.ref wk),some (pr (t,ar)),some .non,some (.tup ((inn t ar).map ard))] h4=.ok (.nx,[some (.ref pk),o1,o2,some (.ref fk),some (.ref wk),some (pr (t,ar)),some .non,some (.tup ((inn t ar).map ard))]) (List.set (h4++[.lst ((t.parts.map T.d).reverse.map fun d=>D.tup [d,.tup ((inn t ar).map ard)])]) wk (.lst (W++(t.parts.map T.d).reverse.map fun d=>D.tup [d,.tup ((inn t ar).map ard)]))):=by
     have ex:methD .ext (.ref wk) [.ref h4.length] (h4++[.lst ((t.parts.map T.d).reverse.map fun d=>D.tup [d,.tup ((inn t ar).map ard)])])=.ok .non (List.set (h4++[.lst ((t.parts.map T.d).reverse.map fun d=>D.tup [d,.tup ((inn t ar).map ard)])]) wk (.lst (W++(t.parts.map T.d).reverse.map fun d=>D.tup [d,.tup ((inn t ar).map ard)]))):=by
       simp only [methD,kw,mthD,mExt,at_0]
       rw [if_pos (by rw [sizeLine_eq];simp;omega)]
     generalize (t.parts.map T.d)=pd at *
     generalize (D.tup ((inn t ar).map ard))=ia at *
     simp only [ΩB] at ec
     simp only [Pg.tbl] at ec
     simp only [List.map_reverse] at ex
     simp [fa4,il4,pr,Pg.tbl,ep,walkT,captD,ec,ex]
   have y5:xs1 (P.tbl (n+2)) fl3 [some (.ref pk),o1,o2,some (.ref fk),some (.ref wk),some (pr (t,ar)),some .non,o7] h1=.ok (.nx,[some (.ref pk),o1,o2,some (.ref fk),some (.ref wk),some (pr (t,ar)),some .non,some (.tup ((inn t ar).map ard))]) (List.set (h4++[.lst ((t.parts.map T.d).reverse.map fun d=>D.tup [d,.tup ((inn t ar).map ard)])]) wk (.lst (W++(t.parts.map T.d).reverse.map fun d=>D.tup [d,.tup ((inn t ar).map ard)]))):=by
     have z:xs1 (P.tbl (n+2)) fl3 [some (.ref pk),o1,o2,some (.ref fk),some (.ref wk),some (pr (t,ar)),some .non,o7] h1=xs2 (P.tbl (n+2)) (.cons fa1 (.cons fa2 (.cons fa3 (.cons fa4 .nil)))) [some (.ref pk),o1,o2,some (.ref fk),some (.ref wk),some (pr (t,ar)),some .non,o7] h1:=by
       rw [fl3,xs1_iff]
       simp [-xs2_cons]
     rw [z,xs2_nx y1,xs2_nx y2,xs2_nx y3,xs2_nx y4]
     rfl
   refine ⟨_,some (pr (t,ar)),some .non,some (.tup ((inn t ar).map ard)),u+1,F++[tf t],_,?_,q6,.inl ⟨rfl,rfl,rfl,?_⟩⟩
   · rw [lp_fill,xs2_nx x1]
     have x2':xs1 (P.tbl (n+2)) fl2 [some (.ref pk),o1,o2,some (.ref fk),some (.ref wk),some (pr (t,ar)),o6,o7] h1=.ok (.nx,[some (.ref pk),o1,o2,some (.ref fk),some (.ref wk),some (pr (t,ar)),some .non,o7]) h1:=x2
     rw [xs2_nx x2',xs2_nx y5]
     rfl
   · simp [pr,List.map_reverse,Function.comp_def]
 | some V =>
   rw [hm] at x2
   have eo:=r_opened H (n+1) (h:=h1) V
   have q2:=q1.setW (W++[pr (V,[])])
   have ap:=meth_app (d:=pr (V,[])) q1.w (by rw [sizeLine_eq];omega)
   have il1:=isLst_ref q1.w
   have y5:xs1 (P.tbl (n+2)) fl3 [some (.ref pk),o1,o2,some (.ref fk),some (.ref wk),some (pr (t,ar)),some (thd V),o7] h1=.ok (.nx,[some (.ref pk),o1,o2,some (.ref fk),some (.ref wk),some (pr (t,ar)),some (thd V),o7]) (h1.set wk (.lst (W++[pr (V,[])]))):=by
     have nn:thd V≠.non:=by simp [thd]
     generalize thd V=tv at *
     generalize pr (t,ar)=pp' at *
     simp [pr] at ap ⊢
     simp [fl3,fb1,nn,il1,Pg.tbl,eo,ap]
   refine ⟨_,some (pr (t,ar)),some (thd V),o7,u,F,W++[pr (V,[])],?_,q2,.inr ⟨V,rfl,rfl,rfl,rfl⟩⟩
   rw [lp_fill,xs2_nx x1]
   have x2':xs1 (P.tbl (n+2)) fl2 [some (.ref pk),o1,o2,some (.ref fk),some (.ref wk),some (pr (t,ar)),o6,o7] h1=.ok (.nx,[some (.ref pk),o1,o2,some (.ref fk),some (.ref wk),some (pr (t,ar)),some (thd V),o7]) h1:=x2
   rw [xs2_nx x2',xs2_nx y5]
   rfl
end Tm
end
section
namespace Tm
open PySem L2 IV
variable {P:Pg}
noncomputable def tot(W:List (T×Ar)):Nat:=(W.map fun p=>(sub p.2 p.1).size).sum
noncomputable def tmu(W:List (T×Ar)):Nat:=(W.map fun p=>mu p.2 p.1).sum
noncomputable def Wok(p:T×Ar):Prop:=p.2.length+2 * p.1.size≤90000∧∀ x V,get p.2 x=some V→2 * V.size≤90000
theorem get_app_none:∀ (xs:List Str) (ar:Ar) {x:Str}{V:T},get (xs.map (fun y=>(y,none))++ar) x=some V→get ar x=some V
 | [],ar,x,V,e=>e
 | y::xs,ar,x,V,e=>by
   rw [Ωp,List.cons_append,get] at e
   split at e
   · cases e
   · exact get_app_none xs ar e
theorem part_le{t s:T}(hs:s∈t.parts):s.size+1≤t.size:=by
 rw [size_cons t]
 have:∀ l:List T,s∈l→s.size≤(l.map T.size).sum:=by
   intro l
   induction l with
   | nil=>intro z;cases z
   | cons a r ih =>
     intro z
     rw [Ωp,ΩI]
     rcases Ωr.mp z with rfl|z
     · omega
     · have:=ih z;omega
 have:=this _ hs
 omega
theorem Wok.part{t s:T}{ar:Ar}(w:Wok (t,ar))(hs:s∈t.parts):Wok (s,inn t ar):=by
 have h1:=part_le hs
 have hb:(bnd t).length≤2:=by cases t<;>simp [bnd]
 have h2:=w.1
 simp only at h2
 refine ⟨?_,fun x V e=>w.2 x V (get_app_none _ _ e)⟩
 have:(inn t ar).length=(bnd t).length+ar.length:=by simp [inn]
 simp only
 omega
theorem mu_pos(t:T)(ar:Ar):1≤mu ar t:=by
 cases t<;>simp [mu]
 split<;>omega
theorem len_mu:∀ W:List (T×Ar),W.length≤tmu W
 | []=>Ωq _
 | p::W=>by
   have:=len_mu W
   have:=mu_pos p.1 p.2
   simp [tmu] at *
   omega
theorem tot_app(A B:List (T×Ar)):tot (A++B)=tot A+tot B:=by simp [tot]
theorem tmu_app(A B:List (T×Ar)):tmu (A++B)=tmu A+tmu B:=by simp [tmu]
theorem tot_parts(t:T)(ar:Ar)(h:mean ar t=none):(sub ar t).size=1+tot (t.parts.reverse.map fun s=>(s,inn t ar)):=by
 rw [size_cons,(sub_parts t ar h).1,List.map_map]
 simp [tot,Function.comp_def,List.map_reverse]
theorem tmu_parts(t:T)(ar:Ar)(h:mean ar t=none):mu ar t=1+tmu (t.parts.reverse.map fun s=>(s,inn t ar)):=by
 rw [mu_parts t ar h]
 simp [tmu,Function.comp_def,List.map_reverse]
noncomputable def com(W:List (T×Ar)):List D:=(W.reverse.flatMap fun p=>(sub p.2 p.1).places).map tf
theorem com_top(W:List (T×Ar))(t:T)(ar:Ar):com (W++[(t,ar)])=(sub ar t).places.map tf++com W:=by simp [com]
theorem com_parts(W:List (T×Ar))(t:T)(ar:Ar)(h:mean ar t=none):com (W++[(t,ar)])=tf t::com (W++t.parts.reverse.map fun s=>(s,inn t ar)):=by
 obtain ⟨h1,h2⟩:=sub_parts t ar h
 rw [com_top,T.places_parts,Ωp,show tf (sub ar t)=tf t by unfold tf;rw [h2],h1]
 simp [com,List.flatMap_append,List.map_reverse,List.flatMap_map]
theorem com_name(W:List (T×Ar))(t V:T)(ar:Ar)(h:mean ar t=some V):com (W++[(t,ar)])=com (W++[(V,[])]):=by
 rw [com_top,com_top,(mean_name h).1,sub_nn V (fun x=>rfl)]
theorem l_fill(H:Trm P)(n:Nat){mo:D}{h0:Hd}{pk fk wk:Nat}{o1 o2:Option D}:∀ (fuel:Nat) (W:List (T×Ar)) (F:List D) (u:Int) (h:Hd) (o5 o6 o7:Option D),Lim mo (u+(tot W:Int))→tmu W<fuel→F.length+tot W≤500000→tmu W≤1000000→(∀ p∈W,Wok p)→Fi mo h0 h pk fk wk u F (W.map pr)→∃ h' o5' o6' o7',
   whileL (tst (P.tbl (n+2)) (.ex (.var 4))) (xs2 (P.tbl (n+2)) lp_fill) fuel [some (.ref pk),o1,o2,some (.ref fk),some (.ref wk),o5,o6,o7] h=.ok (.nx,[some (.ref pk),o1,o2,some (.ref fk),some (.ref wk),o5',o6',o7']) h'∧Fi mo h0 h' pk fk wk (u+(tot W:Int)) (F++com W) []
 | 0,W,F,u,h,o5,o6,o7,lm,hf,_,_,_,_=>by omega
 | fuel+1,W,F,u,h,o5,o6,o7,lm,hf,hz,hm,ok,q=>by
   rcases List.eq_nil_or_concat W with rfl|⟨V,p,rfl⟩
   · refine ⟨h,o5,o6,o7,?_,by simpa [com,tot] using q⟩
     have tr:truD P.GD (.ref wk) h=some false:=by rw [tru_lst q.w];rfl
     rw [whileL_succ]
     simp [Pg.tbl,tr]
   · obtain ⟨t,ar⟩:=p
     rw [List.concat_eq_append] at lm hf hz hm ok q ⊢
     have q':Fi mo h0 h pk fk wk u F (V.map pr++[pr (t,ar)]):=by simpa using q
     have hW:=ok (t,ar) (by simp)
     have okV:∀ p∈V,Wok p:=fun p hp=>ok p (by simp [hp])
     rw [tmu_app] at hf hm
     rw [tot_app] at lm hz
     have lv:=len_mu V
     have sp:=size_pos (sub ar t)
     have e1:tot [(t,ar)]=(sub ar t).size:=by simp [tot]
     have e2:tmu [(t,ar)]=mu ar t:=by simp [tmu]
     rw [e1] at lm hz
     rw [e2] at hf hm
     obtain ⟨h1,o51,o61,o71,u1,F1,W1,x,q1,c⟩:=t_fill H n t ar (lm.le (by omega)) q' (by omega) (by rw [List.length_map];omega) (by have:=hW.1;simp only at this;omega) o1 o2 o5 o6 o7
     have tr:truD P.GD (.ref wk) h=some true:=by rw [tru_lst q.w];simp
     have step:∀ (r:R (Fl×Ev)),whileL (tst (P.tbl (n+2)) (.ex (.var 4))) (xs2 (P.tbl (n+2)) lp_fill) fuel [some (.ref pk),o1,o2,some (.ref fk),some (.ref wk),o51,o61,o71] h1=r→whileL (tst (P.tbl (n+2)) (.ex (.var 4))) (xs2 (P.tbl (n+2)) lp_fill) (fuel+1) [some (.ref pk),o1,o2,some (.ref fk),some (.ref wk),o5,o6,o7] h=r:=by
       intro r e
       have te:tst (P.tbl (n+2)) (.ex (.var 4)) [some (.ref pk),o1,o2,some (.ref fk),some (.ref wk),o5,o6,o7] h=.ok true h:=by
         simp [Pg.tbl,tr]
       rw [whileL_succ,te,bnd_ok,if_pos rfl,x,bnd_ok]
       exact e
     rcases c with ⟨hm0,rfl,rfl,rfl⟩|⟨X,hm0,rfl,rfl,rfl⟩
     · have t1:=tot_parts t ar hm0
       have t2:=tmu_parts t ar hm0
       obtain ⟨h2,o52,o62,o72,e,q2⟩:=l_fill H n (o1:=o1) (o2:=o2) fuel (V++t.parts.reverse.map fun s=>(s,inn t ar)) (F++[tf t]) (u+1) h1 o51 o61 o71 (lm.le (by rw [tot_app];omega)) (by rw [tmu_app];omega) (by rw [tot_app,ΩA];simp only [Ωs,List.length_nil];omega) (by rw [tmu_app];omega) (fun p hp=>by
         rcases ΩD.mp hp with hp|hp
         · exact okV p hp
         · obtain ⟨s,hs,rfl⟩:=List.mem_map.mp hp
           exact hW.part (by simpa using hs)) (by simpa [List.map_map,Function.comp_def] using q1)
       refine ⟨h2,o52,o62,o72,step _ e,?_⟩
       rw [com_parts V t ar hm0,show u+((tot (V++[(t,ar)]):Nat):Int)=u+1+((tot (V++t.parts.reverse.map fun s=>(s,inn t ar)):Nat):Int) by rw [tot_app,tot_app,e1,t1];omega]
       simpa using q2
     · obtain ⟨s1,s2⟩:=mean_name hm0
       have nn:NN []:=fun x=>rfl
       have mX:mu [] X=X.size:=mu_nn X nn
       have sX:sub [] X=X:=sub_nn X nn
       have eX:tot [(X,[])]=X.size:=by simp [tot,sX]
       rw [s1] at lm
       obtain ⟨h2,o52,o62,o72,e,q2⟩:=l_fill H n (o1:=o1) (o2:=o2) fuel (V++[(X,[])]) F1 u1 h1 o51 o61 o71 (lm.le (by rw [tot_app,eX];omega)) (by rw [tmu_app];simp [tmu,mX] at *;omega) (by rw [tot_app];simp [tot,sX];rw [s1] at hz;simp [tot] at hz;omega) (by rw [tmu_app];simp [tmu,mX] at *;omega) (fun p hp=>by
         rcases ΩD.mp hp with hp|hp
         · exact okV p hp
         · rw [Ωx.mp hp]
           refine ⟨?_,fun x V e=>by cases e⟩
           cases t with
           | name y=>have:=hW.2 y X hm0;simp only [List.length_nil];omega
           | _=>cases hm0) (by simpa using q1)
       refine ⟨h2,o52,o62,o72,step _ e,?_⟩
       rw [com_name V t X ar hm0,show tot (V++[(t,ar)])=tot (V++[(X,[])]) by rw [tot_app,tot_app,e1,eX,s1]]
       exact q2
end Tm
end
section
namespace Tm
open PySem L2 IV
variable {P:Pg}
theorem grown{h0 h:Hd}(hl:h0.length≤h.length)(old:∀ i,i<h0.length→h[i]? = h0[i]?):∃ g,h=h0++g:=⟨h.drop h0.length,by
 apply List.ext_getElem?
 intro i
 rcases Nat.lt_or_ge i h0.length with q|q
 · rw [old i q,Ωe q]
 · rw [Ωm q,List.getElem?_drop]
   congr 1
   omega⟩
noncomputable def Aft(h0 h:Hd)(pk:Nat)(mo:D)(u:Int):Prop:=h[pk]? = some (penD mo u)∧h0.length≤h.length∧∀ i,i<h0.length→i≠pk→h[i]? = h0[i]?
theorem r_filled(H:Trm P)(n:Nat)(t:T)(ar:Ar){mo:D}{h0 h:Hd}{pk:Nat}{u:Int}(a:Aft h0 h pk mo u)(lm:Lim mo (u+((sub ar t).size:Int)))(hw:Wok (t,ar))(hz:(sub ar t).size≤400000) :
   ∃ h',run P (n+3) (mnm (Ω "Pen") (Ω "filled")) [.ref pk,t.d,.tup (ar.map ard)] h=.ok (sub ar t).d h'∧Aft h0 h' pk mo (u+((sub ar t).size:Int)):=by
 obtain ⟨hp,hl,old⟩:=a
 rw [run_mt H.n_Pen_filled H.Pen_filled (by rfl)]
 have q0:Fi mo h0 (h++[.lst [],.lst ([(t,ar)].map pr)]) pk h.length (h.length+1) u [] ([(t,ar)].map pr):=⟨keep hp,by simp,by simp,by omega,hl,by omega,by simp;omega,fun i hi hn=>by rw [Ωe (by omega)];exact old i hi hn⟩
 have e1:tot [(t,ar)]=(sub ar t).size:=by simp [tot]
 have e2:tmu [(t,ar)]=mu ar t:=by simp [tmu]
 have ml:=mu_le t ar
 have big:=H.big
 obtain ⟨h1,o5,o6,o7,x,q1⟩:=l_fill H n (o1:=some t.d) (o2:=some (.tup (ar.map ard))) P.L [(t,ar)] [] u _ none none none (by rw [e1];exact lm) (by rw [e2];omega) (by rw [e1];simp;omega) (by rw [e2];omega) (fun p hp=>by rw [Ωx.mp hp];exact hw) q0
 have qf:=q1.f
 have ec:com [(t,ar)]=(sub ar t).places.map tf:=by simp [com]
 rw [ec,ΩB] at qf
 obtain ⟨g2,e3⟩:=r_built H n (sub ar t) qf (by omega)
 have q2:=q1.app (g:=g2)
 refine ⟨h1++g2,?_,by rw [← e1];exact q2.p,q2.ol,q2.old⟩
 have x1:xs1 (P.tbl (n+2)) (.set (.nm 3) (.lstl .nil)) [some (.ref pk),some t.d,some (.tup (ar.map ard)),none,none,none,none,none] h=.ok (.nx,[some (.ref pk),some t.d,some (.tup (ar.map ard)),some (.ref h.length),none,none,none,none]) (h++[.lst []]):=by simp [sizeLine_eq]
 have x2:xs1 (P.tbl (n+2)) (.set (.nm 4) (.lstl (.cons (.tupl (.cons (.var 1) (.cons (.var 2) .nil))) .nil))) [some (.ref pk),some t.d,some (.tup (ar.map ard)),some (.ref h.length),none,none,none,none] (h++[.lst []])=.ok (.nx,[some (.ref pk),some t.d,some (.tup (ar.map ard)),some (.ref h.length),some (.ref (h.length+1)),none,none,none]) (h++[.lst [],.lst ([(t,ar)].map pr)]):=by simp [sizeLine_eq,pr]
 have x3:xs1 (P.tbl (n+2)) (.whl (.ex (.var 4)) lp_fill) [some (.ref pk),some t.d,some (.tup (ar.map ard)),some (.ref h.length),some (.ref (h.length+1)),none,none,none] (h++[.lst [],.lst ([(t,ar)].map pr)])=.ok (.nx,[some (.ref pk),some t.d,some (.tup (ar.map ard)),some (.ref h.length),some (.ref (h.length+1)),o5,o6,o7]) h1:=x
 have x4:xs1 (P.tbl (n+2)) (.ret (.call (Ω "built") (.cons (.var 3) .nil))) [some (.ref pk),some t.d,some (.tup (ar.map ard)),some (.ref h.length),some (.ref (h.length+1)),o5,o6,o7] h1=.ok (.rt (sub ar t).d,[some (.ref pk),some t.d,some (.tup (ar.map ard)),some (.ref h.length),some (.ref (h.length+1)),o5,o6,o7]) (h1++g2):=by simp [Pg.tbl,e3]
 show retOf (xs2 (P.tbl (n+2)) b_Pen_filled [some (.ref pk),some t.d,some (.tup (ar.map ard)),none,none,none,none,none] h)=_
 rw [fill_is,xs2_nx x1,xs2_nx x2,xs2_nx x3,xs2_rt x4]
 rfl
noncomputable abbrev Fil:=List (Str×T)
noncomputable def Fil.ar(f:Fil):Ar:=f.map fun p=>(p.1,some p.2)
noncomputable def Fil.kv(f:Fil):List (Key×D):=f.map fun p=>(.inr p.1,p.2.d)
theorem val_mem:∀ {f:Fil}{x:Str}{V:T},(f.map (·.1)).Nodup→(x,V)∈f→valD f.kv (.inr x)=some V.d
 | (y,W)::r,x,V,nd,hm=>by
   rw [Ωp,List.nodup_cons] at nd
   unfold valD Fil.kv
   rw [Ωp,List.find?_cons]
   rcases Ωr.mp hm with e|hm
   · cases e
     simp
   · have ne:y≠x:=fun z=>nd.1 (by rw [z];exact List.mem_map.mpr ⟨(x,V),hm,rfl⟩)
     have:¬ (Sum.inr y:Key)=Sum.inr x:=fun z=>ne (Sum.inr.inj z)
     simp only [this,decide_false]
     exact val_mem nd.2 hm
noncomputable def fe1:Ex:=(.tupl (.cons (.var 0) (.cons (.tupl (.cons (.cst (.str (Ω "clo"))) (.cons (.ix (.var 1) (.var 0)) (.cons (.tupl .nil) .nil)))) .nil)))
theorem c_fil{U:Tb}{h:Hd}{dk:Nat}{f:Fil}(nd:(f.map (·.1)).Nodup)(hd:h[dk]? = some (.fdic f.kv)):∀ (r:Fil) (acc:List D),(∀ p∈r,p∈f)→acc.length+r.length≤1000 →
   compL none (.nm 0) (tsto U none) (ev U fe1) (r.map fun p=>D.str p.1) [none,some (.ref dk)] acc h=.ok (acc++r.ar.map ard) h
 | [],acc,_,_=>by simp [compL,Wk.stays,Fil.ar]
 | (x,V)::r,acc,hm,hz=>by
   have ih:=c_fil (U:=U) nd hd r (acc++[ard (x,some V)]) (fun p hp=>hm p (Ωh _ hp)) (by simp at hz ⊢;omega)
   have hl:acc.length<16777216:=by simp at hz;omega
   have hv:=val_mem nd (hm (x,V) Ωi)
   have ix:opIx U.GD (.ref dk) (.str x) h=.ok V.d h:=by simp [opIx,dicOf,hd,hv]
   have ee:ev U fe1 [some (.str x),some (.ref dk)] h=.ok (ard (x,some V)) h:=by simp [fe1,ix,sizeLine_eq,ard,thd]
   rw [Ωp,compL_cons]
   simp [Wk.stays,hl,sizeLine_eq,ee]
   simpa [Fil.ar] using ih
theorem r_put(H:Trm P)(n:Nat)(t:T)(f:Fil){h0 h:Hd}{dk:Nat}(nd:(f.map (·.1)).Nodup)(hf:f.length≤100)(hd:h[dk]? = some (.dic f.kv))(ho:h0.length≤dk)(hl:h0.length≤h.length)(old:∀ i,i<h0.length→h[i]? = h0[i]?)(hw:Wok (t,f.ar))(hz:(sub f.ar t).size≤400000) :
   ∃ g,run P (n+4) (Ω "put_in") [t.d,.ref dk] h=.ok (sub f.ar t).d (h0++g):=by
 rw [run_def H.put_in (by rfl)]
 have hdl:=lt_at hd
 generalize hh1:h.set dk (.fdic f.kv)=h1
 have d1:h1[dk]? = some (.fdic f.kv):=by rw [← hh1,Ωl hdl]
 have l1:h1.length=h.length:=by rw [← hh1];simp
 have old1:∀ i,i<h0.length→h1[i]? = h0[i]? := fun i hi=>by rw [← hh1,Ωc (by omega)];exact old i hi
 have ec:=c_fil (U:=P.tbl (n+3)) nd d1 f [] (fun p hp=>hp) (by simp;omega)
 have ks:(f.kv.map fun p=>keyD p.1)=f.map fun p=>D.str p.1:=by simp [Fil.kv,keyD,Function.comp_def]
 have x1:xs1 (P.tbl (n+3)) b_put_in_1 [some t.d,some (.ref dk),none] h=.ok (.nx,[some t.d,some (.ref dk),some (.tup (f.ar.map ard))]) (h1++[.lst (f.ar.map ard)]):=by
   have ei:evi (P.tbl (n+3)) (.dk (.var 1)) [some t.d,some (.ref dk),none] h=.ok ⟨none,f.map fun p=>D.str p.1⟩ h1:=by
     simp [frzD,hd,hh1,ks]
   have ev1:ev (P.tbl (n+3)) (.comp [(Ω "name"),(Ω "filling")] [none,some 1] (.dk (.var 1)) (.nm 0) none fe1) [some t.d,some (.ref dk),none] h=.ok (.ref h1.length) (h1++[.lst (f.ar.map ard)]):=by
     rw [ev_comp,ei,bnd_ok]
     simp only [captD,Ωp,Ωy,Option.bind_none,Option.bind_some]
     rw [show ([some t.d,some (D.ref dk),none][1]?).join=some (.ref dk) from rfl,ec]
     rfl
   unfold fe1 at ev1
   simp [-ev_comp,b_put_in_1,ev1,bltD,bTup,lstOf]
 generalize hh2:h1++[DO.lst (f.ar.map ard)]=h2 at x1
 have l2:h2.length=h.length+1:=by rw [← hh2];simp [l1]
 have old2:∀ i,i<h0.length→(h2++[penD .non 0])[i]? = h0[i]? := fun i hi=>by
   rw [Ωe (by omega),← hh2,Ωe (by omega)]
   exact old1 i hi
 have ep:=r_pen H (n+2) .non h2
 obtain ⟨h3,e,a3⟩:=r_filled H n t f.ar (mo:=.non) (h0:=h0) (h:=h2++[penD .non 0]) (pk:=h2.length) (u:=0) ⟨by simp,by simp;omega,fun i hi _=>old2 i hi⟩ (.inl rfl) hw hz
 obtain ⟨g,rfl⟩:=grown a3.2.1 (fun i hi=>a3.2.2 i hi (by omega))
 refine ⟨g,?_⟩
 have io:insOf (.ref h2.length) (h2++[penD .non 0])=some (Ω "Pen",[(Ω "most",.non),(Ω "used",.int 0)]):=by simp [insOf,penD]
 have x2:xs1 (P.tbl (n+3)) b_put_in_2 [some t.d,some (.ref dk),some (.tup (f.ar.map ard))] h2=.ok (.rt (sub f.ar t).d,[some t.d,some (.ref dk),some (.tup (f.ar.map ard))]) (h0++g):=by
   simp [b_put_in_2,Pg.tbl,ep,io,List.lookup,e]
 show retOf (xs2 (P.tbl (n+3)) (.cons b_put_in_1 (.cons b_put_in_2 .nil)) [some t.d,some (.ref dk),none] h)=_
 rw [xs2_nx x1,xs2_rt x2]
 rfl
end Tm
end
section
namespace Tm
open PySem L2 IV
variable {P:Pg}{h:Hd}
noncomputable def isV:T→Bool
 | .num _|.fn _ _|.rcc _ _ _=>true
 | _=>false
noncomputable def pf:T→List T
 | .iff c _ _=>[c]
 | t=>t.parts
noncomputable def fst1:Nat→List T→Option Nat
 | _,[]=>none
 | k,t::r=>if isV t then fst1 (k+1) r else some k
noncomputable def fo(t:T):Option Nat:=fst1 1 (pf t)
noncomputable def oN:Option Nat→D
 | some k=>.int (k:Int)
 | none=>.non
theorem in_vals {GD:Str→Option (List (Key×D))}{x:Str}:opC GD .In (.str x) (.tup [.str (Ω "num"),.str (Ω "fn"),.str (Ω "rec")]) h=.ok (.bl (decide (x=Ω "num" ∨ x=Ω "fn" ∨ x=Ω "rec"))) h:=by
 have:=@opC_in_words GD h [Ω "num",Ω "fn",Ω "rec"] x
 simpa using this
theorem r_isv (H:Trm P) (n:Nat) (t:T):run P (n+1) (Ω "is_value") [t.d] h=.ok (.bl (isV t)) h:=by
 rw [run_def H.is_value (by cases t<;>rfl)]
 have g:=H.gv
 generalize P.G=PG at g
 cases t<;>simp [T.d,isV,f_is_value,b_is_value,startD,g,in_vals]
theorem r_pf (H:Trm P) (n:Nat) (t:T):run P (n+2) (Ω "parts_first") [t.d] h=.ok (.tup ((pf t).map T.d)) h:=by
 rw [run_def H.parts_first (by cases t<;>rfl)]
 have ep:=Gn.r_parts H.toTre n t h
 cases t with
 | iff c a b=>simp [T.d,pf,f_parts_first,b_parts_first,startD,cutD,HT.sIx]
 | op w a b=>simp [T.d] at ep;simp [T.d,pf,f_parts_first,b_parts_first,startD,ep]
 | _=>simp [T.d] at ep;simp [T.d,pf,f_parts_first,b_parts_first,startD,ep]
noncomputable def lp_fo:Sxs:=(.cons (.iff (.nt (.ex (.call (Ω "is_value") (.cons (.var 2) .nil)))) (.cons (.ret (.var 1)) .nil) .nil) .nil)
noncomputable def cnt(k:Nat):List T→List D
 | []=>[]
 | t::r=>.tup [.int ((k+1:Nat):Int),t.d]::cnt (k+1) r
theorem cnt_enum:∀ (ts:List T) (k:Nat),((ts.map T.d).mapIdx fun i x=>D.tup [.int ((k+i+1:Nat):Int),x])=cnt k ts
 | [],_=>rfl
 | t::r,k=>by
   rw [Ωp,List.mapIdx_cons,cnt,← cnt_enum r (k+1)]
   congr 1
   · congr 1
     funext i x
     congr 4
     omega
theorem l_fo(H:Trm P)(n:Nat){E:D}:∀ (ts:List T) (k:Nat) (a b:Option D),(∃ ρ,forL none (.two 1 2) (xs2 (P.tbl (n+1)) lp_fo) (cnt k ts) [some E,a,b] h=.ok (.rt (oN (fst1 (k+1) ts)),ρ) h)∨(fst1 (k+1) ts=none∧∃ ρ,forL none (.two 1 2) (xs2 (P.tbl (n+1)) lp_fo) (cnt k ts) [some E,a,b] h=.ok (.nx,ρ) h)
 | [],k,a,b=>.inr ⟨rfl,_,rfl⟩
 | t::r,k,a,b=>by
   have ev:=r_isv H n (h:=h) t
   rw [cnt,forL_cons]
   cases hv:isV t with
   | false =>
     rw [hv] at ev
     refine .inl ⟨[some E,some (.int ((k+1:Nat):Int)),some t.d],?_⟩
     simp [lp_fo,Pg.tbl,ev,fst1,hv,oN]
   | true =>
     rw [hv] at ev
     have x:xs2 (P.tbl (n+1)) lp_fo [some E,some (.int ((k+1:Nat):Int)),some t.d] h=.ok (.nx,[some E,some (.int ((k+1:Nat):Int)),some t.d]) h:=by simp [lp_fo,Pg.tbl,ev]
     have ih:=l_fo H n (E:=E) r (k+1) (some (.int ((k+1:Nat):Int))) (some t.d)
     simp only [bind_two,List.set_cons_zero,List.set_cons_succ,x,bnd_ok,fst1,hv,if_true]
     exact ih
theorem r_fo (H:Trm P) (n:Nat) (t:T):run P (n+3) (Ω "first_open") [t.d] h=.ok (oN (fo t)) h:=by
 rw [run_def H.first_open (by cases t<;>rfl)]
 have ep:=r_pf H n (h:=h) t
 have ei:evi (P.tbl (n+2)) (.en1 (.call (Ω "parts_first") (.cons (.var 0) .nil))) [some t.d,none,none] h=.ok ⟨none,cnt 0 (pf t)⟩ h:=by
   have e1:ev (P.tbl (n+2)) (.call (Ω "parts_first") (.cons (.var 0) .nil)) [some t.d,none,none] h=.ok (.tup ((pf t).map T.d)) h:=ep
   rw [evi_en1,e1,bnd_ok]
   have:=cnt_enum (pf t) 0
   simp only [Nat.zero_add] at this
   simp only [enumD1,this]
 show retOf (xs2 (P.tbl (n+2)) (.cons (.forr (.two 1 2) (.en1 (.call (Ω "parts_first") (.cons (.var 0) .nil))) lp_fo) (.cons (.ret (.cst .non)) .nil)) [some t.d,none,none] h)=_
 rcases l_fo H (n+1) (E:=t.d) (h:=h) (pf t) 0 none none with ⟨ρ,q⟩|⟨q0,ρ,q⟩
 · have x:xs1 (P.tbl (n+2)) (.forr (.two 1 2) (.en1 (.call (Ω "parts_first") (.cons (.var 0) .nil))) lp_fo) [some t.d,none,none] h=.ok (.rt (oN (fo t)),ρ) h:=by
     rw [xs1_forr,ei,bnd_ok]
     exact q
   rw [xs2_rt x]
   rfl
 · have x:xs1 (P.tbl (n+2)) (.forr (.two 1 2) (.en1 (.call (Ω "parts_first") (.cons (.var 0) .nil))) lp_fo) [some t.d,none,none] h=.ok (.nx,ρ) h:=by
     rw [xs1_forr,ei,bnd_ok]
     exact q
   rw [xs2_nx x]
   have:fo t=none:=q0
   rw [this]
   rfl
noncomputable def pth:T→List (T×Nat)
 | .call f a=>if isV f then (if isV a then [] else (.call f a,2)::pth a) else (.call f a,1)::pth f
 | .op w f a=>if isV f then (if isV a then [] else (.op w f a,2)::pth a) else (.op w f a,1)::pth f
 | .iff c t e=>if isV c then [] else (.iff c t e,1)::pth c
 | _=>[]
noncomputable def bot:T→T
 | .call f a=>if isV f then (if isV a then .call f a else bot a) else bot f
 | .op w f a=>if isV f then (if isV a then .op w f a else bot a) else bot f
 | .iff c t e=>if isV c then .iff c t e else bot c
 | t=>t
noncomputable def wayD(t:T):List D:=(pth t).map (fun p=>D.tup [p.1.d,.int (p.2:Int)])++[.tup [(bot t).d,.non]]
theorem way_one(t:T)(nv:isV t=false)(nn:∀ x,t≠.name x):(fo t=none∧pth t=[]∧bot t=t)∨∃ k s,fo t=some k∧pth t=(t,k)::pth s∧bot t=bot s∧isV s=false∧s∈t.parts∧(∀ GD,opIx GD t.d (.int (k:Int)) h=.ok s.d h):=by
 cases t with
 | num _=>cases nv
 | fn _ _=>cases nv
 | rcc _ _ _=>cases nv
 | name x=>exact absurd rfl (nn x)
 | call f a =>
   cases hf:isV f with
   | false=>exact .inr ⟨1,f,by simp [fo,pf,T.parts,fst1,hf],by simp [pth,hf],by simp [bot,hf],hf,by simp [T.parts],fun GD=>by simp [T.d]⟩
   | true =>
     cases ha:isV a with
     | false=>exact .inr ⟨2,a,by simp [fo,pf,T.parts,fst1,hf,ha],by simp [pth,hf,ha],by simp [bot,hf,ha],ha,by simp [T.parts],fun GD=>by simp [T.d]⟩
     | true=>exact .inl ⟨by simp [fo,pf,T.parts,fst1,hf,ha],by simp [pth,hf,ha],by simp [bot,hf,ha]⟩
 | op w f a =>
   cases hf:isV f with
   | false=>exact .inr ⟨1,f,by simp [fo,pf,T.parts,fst1,hf],by simp [pth,hf],by simp [bot,hf],hf,by simp [T.parts],fun GD=>by simp [T.d]⟩
   | true =>
     cases ha:isV a with
     | false=>exact .inr ⟨2,a,by simp [fo,pf,T.parts,fst1,hf,ha],by simp [pth,hf,ha],by simp [bot,hf,ha],ha,by simp [T.parts],fun GD=>by simp [T.d]⟩
     | true=>exact .inl ⟨by simp [fo,pf,T.parts,fst1,hf,ha],by simp [pth,hf,ha],by simp [bot,hf,ha]⟩
 | iff c a b =>
   cases hf:isV c with
   | false=>exact .inr ⟨1,c,by simp [fo,pf,fst1,hf],by simp [pth,hf],by simp [bot,hf],hf,by simp [T.parts],fun GD=>by simp [T.d]⟩
   | true=>exact .inl ⟨by simp [fo,pf,fst1,hf],by simp [pth,hf],by simp [bot,hf]⟩
end Tm
end
section
namespace Tm
open PySem L2 IV
variable {P:Pg}{h:Hd}
theorem last1{l:List D}{a:D}:atI (l++[a]) (-1)=some a:=atI_last
theorem cut_m1{l:List D}{a:D}:cutD (l++[a]) none (some (-1))=l:=by
 have e:HT.sIx (l++[a]).length (l++[a]).length (some (-1))=l.length:=by simp [HT.sIx];omega
 have e0:HT.sIx (l++[a]).length 0 none=0:=by simp [HT.sIx]
 unfold cutD
 rw [e,e0]
 simp
theorem cl_part{t s:T}(c:Gn.Cl [] t)(nv:isV t=false)(hs:s∈t.parts):Gn.Cl [] s:=by
 cases t with
 | num _=>cases nv
 | fn _ _=>cases nv
 | rcc _ _ _=>cases nv
 | name _=>cases hs
 | call f a=>simp [T.parts] at hs;rcases hs with rfl|rfl;exact c.1;exact c.2
 | op w f a=>simp [T.parts] at hs;rcases hs with rfl|rfl;exact c.1;exact c.2
 | iff f a b=>simp [T.parts] at hs;rcases hs with rfl|rfl|rfl;exact c.1;exact c.2.1;exact c.2.2
theorem cl_nn{t:T}(c:Gn.Cl [] t):∀ x,t≠.name x:=fun x e=>by subst e;cases c
noncomputable def wd(t:T):D:=.tup [t.d,oN (fo t)]
noncomputable def wc:Tx:=(.ex (.cmp .IsNot (.ix (.ix (.var 1) (.neg (.cst (.int 1)))) (.cst (.int 1))) (.cst .non)))
noncomputable def lp_way:Sxs:=(.cons (.set (.nm 2) (.ix (.ix (.ix (.var 1) (.neg (.cst (.int 1)))) (.cst (.int 0))) (.ix (.ix (.var 1) (.neg (.cst (.int 1)))) (.cst (.int 1))))) (.cons (.drp (.meth .app (.var 1) (.cons (.tupl (.cons (.var 2) (.cons (.call (Ω "first_open") (.cons (.var 2) .nil)) .nil))) .nil))) .nil))
theorem l_way(H:Trm P)(n:Nat){E:D}:∀ (fuel:Nat) (t:T) (A:List D) (o2:Option D),t.size≤fuel→A.length+t.size≤1000000→Gn.Cl [] t→isV t=false→∃ o2',
   whileL (tst (P.tbl (n+3)) wc) (xs2 (P.tbl (n+3)) lp_way) fuel [some E,some (.ref h.length),o2] (h++[.lst (A++[wd t])])=.ok (.nx,[some E,some (.ref h.length),o2']) (h++[.lst (A++wayD t)])
 | 0,t,A,o2,hf,_,_,_=>by have:=size_pos t;omega
 | fuel+1,t,A,o2,hf,hz,c,nv=>by
   have ix:∀ (B:List D) (b:D),opIx P.GD (.ref h.length) (.int (-1)) (h++[.lst (B++[b])])=.ok b (h++[.lst (B++[b])]):=fun B b=>by rw [opIx_lst (xs:=B++[b]) (by simp),last1];rfl
   rcases way_one (h:=h++[.lst (A++[wd t])]) t nv (cl_nn c) with ⟨h1,h2,h3⟩|⟨k,s,h1,h2,h3,h4,h5,h6⟩
   · refine ⟨o2,?_⟩
     have i1:=ix A (wd t)
     rw [whileL_succ]
     simp only [wd,h1,oN] at i1 ⊢
     have te:tst (P.tbl (n+3)) wc [some E,some (.ref h.length),o2] (h++[.lst (A++[.tup [t.d,.non]])])=.ok false (h++[.lst (A++[.tup [t.d,.non]])]):=by simp [wc,Pg.tbl,i1]
     rw [te,bnd_ok,if_neg (by decide)]
     simp [wayD,h2,h3]
   · have sl:=part_le h5
     obtain ⟨o2',e⟩:=l_way H n (E:=E) fuel s (A++[wd t]) (some s.d) (by omega) (by simp;omega) (cl_part c nv h5) h4
     refine ⟨o2',?_⟩
     have i1:=ix A (wd t)
     have i2:=h6 P.GD
     have ef:=r_fo H n (h:=h++[.lst (A++[wd t])]) s
     have te:tst (P.tbl (n+3)) wc [some E,some (.ref h.length),o2] (h++[.lst (A++[wd t])])=.ok true (h++[.lst (A++[wd t])]):=by
       unfold wd at i1 ⊢
       simp only [h1,oN] at i1 ⊢
       simp [wc,Pg.tbl,i1]
     have x1:xs1 (P.tbl (n+3)) (.set (.nm 2) (.ix (.ix (.ix (.var 1) (.neg (.cst (.int 1)))) (.cst (.int 0))) (.ix (.ix (.var 1) (.neg (.cst (.int 1)))) (.cst (.int 1))))) [some E,some (.ref h.length),o2] (h++[.lst (A++[wd t])])=.ok (.nx,[some E,some (.ref h.length),some s.d]) (h++[.lst (A++[wd t])]):=by
       unfold wd at i1 i2 ⊢
       simp only [h1,oN] at i1 i2 ⊢
       simp [Pg.tbl,i1,i2]
     have ap:=meth_app (h:=h++[.lst (A++[wd t])]) (i:=h.length) (ys:=A++[wd t]) (d:=wd s) (by simp) (by rw [sizeLine_eq];simp;omega)
     have il:isLst (.ref h.length) (h++[.lst (A++[wd t])])=true:=by simp [isLst]
     have x2:xs1 (P.tbl (n+3)) (.drp (.meth .app (.var 1) (.cons (.tupl (.cons (.var 2) (.cons (.call (Ω "first_open") (.cons (.var 2) .nil)) .nil))) .nil))) [some E,some (.ref h.length),some s.d] (h++[.lst (A++[wd t])])=.ok (.nx,[some E,some (.ref h.length),some s.d]) (h++[.lst (A++[wd t]++[wd s])]):=by
       rw [put_0] at ap
       generalize hh:h++[DO.lst (A++[wd t])]=h1 at *
       unfold wd at ap ⊢
       simp [Pg.tbl,il,ef,sizeLine_eq,ap]
     rw [whileL_succ,te,bnd_ok,if_pos rfl,lp_way,xs2_nx x1,xs2_nx x2]
     show whileL (tst (P.tbl (n+3)) wc) (xs2 (P.tbl (n+3)) lp_way) fuel [some E,some (.ref h.length),some s.d] (h++[.lst (A++[wd t]++[wd s])])=_
     rw [e]
     simp [wayD,h2,h3,wd,h1,oN]
theorem r_way (H:Trm P) (n:Nat) (t:T) (c:Gn.Cl [] t) (nv:isV t=false) (hz:t.size≤100000):run P (n+4) (Ω "way_down") [t.d] h=.ok (.ref h.length) (h++[.lst (wayD t)]):=by
 rw [run_def H.way_down (by rfl)]
 have ef:=r_fo H n (h:=h) t
 have big:=H.big
 obtain ⟨o2,e⟩:=l_way H n (h:=h) (E:=t.d) P.L t [] none (by omega) (by simp;omega) c nv
 have x1:xs1 (P.tbl (n+3)) (.set (.nm 1) (.lstl (.cons (.tupl (.cons (.var 0) (.cons (.call (Ω "first_open") (.cons (.var 0) .nil)) .nil))) .nil))) [some t.d,none,none] h=.ok (.nx,[some t.d,some (.ref h.length),none]) (h++[.lst ([]++[wd t])]):=by
   simp [Pg.tbl,ef,sizeLine_eq,wd]
 have x2:xs1 (P.tbl (n+3)) (.whl wc lp_way) [some t.d,some (.ref h.length),none] (h++[.lst ([]++[wd t])])=.ok (.nx,[some t.d,some (.ref h.length),o2]) (h++[.lst ([]++wayD t)]):=e
 have x3:xs1 (P.tbl (n+3)) (.ret (.var 1)) [some t.d,some (.ref h.length),o2] (h++[.lst ([]++wayD t)])=.ok (.rt (.ref h.length),[some t.d,some (.ref h.length),o2]) (h++[.lst ([]++wayD t)]):=by simp
 show retOf (xs2 (P.tbl (n+3)) (.cons (.set (.nm 1) (.lstl (.cons (.tupl (.cons (.var 0) (.cons (.call (Ω "first_open") (.cons (.var 0) .nil)) .nil))) .nil))) (.cons (.whl wc lp_way) (.cons (.ret (.var 1)) .nil))) [some t.d,none,none] h)=_
 rw [xs2_nx x1,xs2_nx x2,xs2_rt x3]
 rfl
noncomputable def plug1:T→Nat→T→T
 | .call _ a,1,u=>.call u a
 | .call f _,2,u=>.call f u
 | .op w _ a,1,u=>.op w u a
 | .op w f _,2,u=>.op w f u
 | .iff _ t e,1,u=>.iff u t e
 | s,_,_=>s
noncomputable def plug:List (T×Nat)→T→T
 | [],u=>u
 | (s,k)::r,u=>plug1 s k (plug r u)
noncomputable def Vp:T×Nat→Prop
 | (.call _ _,1)|(.call _ _,2)|(.op _ _ _,1)|(.op _ _ _,2)|(.iff _ _ _,1)=>True
 | _=>False
theorem pth_ok:∀ t:T,∀ p∈pth t,Vp p
 | .num _,p,hp=>by cases hp
 | .name _,p,hp=>by cases hp
 | .fn _ _,p,hp=>by cases hp
 | .rcc _ _ _,p,hp=>by cases hp
 | .call f a,p,hp=>by
   simp only [pth] at hp
   split at hp
   · split at hp
     · cases hp
     · rcases Ωr.mp hp with rfl|hp
       · trivial
       · exact pth_ok a p hp
   · rcases Ωr.mp hp with rfl|hp
     · trivial
     · exact pth_ok f p hp
 | .op w f a,p,hp=>by
   simp only [pth] at hp
   split at hp
   · split at hp
     · cases hp
     · rcases Ωr.mp hp with rfl|hp
       · trivial
       · exact pth_ok a p hp
   · rcases Ωr.mp hp with rfl|hp
     · trivial
     · exact pth_ok f p hp
 | .iff c t e,p,hp=>by
   simp only [pth] at hp
   split at hp
   · cases hp
   · rcases Ωr.mp hp with rfl|hp
     · trivial
     · exact pth_ok c p hp
noncomputable def pd(p:T×Nat):D:=.tup [p.1.d,.int (p.2:Int)]
noncomputable def lb1:Sx:=(.set (.nm 2) (.bin .Add (.bin .Add (.sl (.var 3) none (some (.var 4))) (.tupl (.cons (.var 2) .nil))) (.sl (.var 3) (some (.bin .Add (.var 4) (.cst (.int 1)))) none)))
noncomputable def lp_back:Sxs:=(.cons lb1 .nil)
theorem t_back{U:Tb}{a b:D}(p:T×Nat)(v:Vp p)(u:T):xs2 U lp_back [some a,some b,some u.d,some p.1.d,some (.int (p.2:Int))] h=.ok (.nx,[some a,some b,some (plug1 p.1 p.2 u).d,some p.1.d,some (.int (p.2:Int))]) h:=by
 have o:∀ (xs ys:List D),xs.length+ys.length≤10→opB .Add (.tup xs) (.tup ys) h=.ok (.tup (xs++ys)) h:=fun xs ys q=>opB_tup (by rw [sizeLine_eq];omega)
 obtain ⟨s,k⟩:=p
 have go:∀ r,xs1 U lb1 [some a,some b,some u.d,some s.d,some (.int (k:Int))] h=.ok (.nx,[some a,some b,some r,some s.d,some (.int (k:Int))]) h→xs2 U lp_back [some a,some b,some u.d,some s.d,some (.int (k:Int))] h=.ok (.nx,[some a,some b,some r,some s.d,some (.int (k:Int))]) h:=fun r e=>by
   rw [lp_back,xs2_nx e]
   rfl
 unfold Vp at v
 split at v
 · rename_i e;cases e;exact go _ (by simp [lb1,T.d,plug1,cutD,HT.sIx,o,sizeLine_eq])
 · rename_i e;cases e;exact go _ (by simp [lb1,T.d,plug1,cutD,HT.sIx,o,sizeLine_eq])
 · rename_i e;cases e;exact go _ (by simp [lb1,T.d,plug1,cutD,HT.sIx,o,sizeLine_eq])
 · rename_i e;cases e;exact go _ (by simp [lb1,T.d,plug1,cutD,HT.sIx,o,sizeLine_eq])
 · rename_i e;cases e;exact go _ (by simp [lb1,T.d,plug1,cutD,HT.sIx,o,sizeLine_eq])
 · cases v
theorem l_back{U:Tb}{a b:D}{wk:Nat}{L:List D}(hw:h[wk]? = some (.lst L)):∀ (ps:List (T×Nat)) (rest:List D) (u:T) (o3 o4:Option D),(∀ p∈ps,Vp p)→∃ o3' o4',
   forL (some (wk,L)) (.two 3 4) (xs2 U lp_back) ((ps.map pd).reverse++rest) [some a,some b,some u.d,o3,o4] h=forL (some (wk,L)) (.two 3 4) (xs2 U lp_back) rest [some a,some b,some (plug ps u).d,o3',o4'] h
 | [],rest,u,o3,o4,_=>⟨o3,o4,rfl⟩
 | p::ps,rest,u,o3,o4,v=>by
   obtain ⟨o31,o41,e⟩:=l_back (U:=U) (a:=a) (b:=b) hw ps (pd p::rest) u o3 o4 (fun q hq=>v q (Ωh _ hq))
   refine ⟨some p.1.d,some (.int (p.2:Int)),?_⟩
   rw [Ωp,List.reverse_cons,Ωz,List.cons_append,ΩB,e]
   exact forL_src hw rfl (t_back p (v p Ωi) (plug ps u))
theorem r_back (H:Trm P) (n:Nat) {wk:Nat} (ps:List (T×Nat)) (u:T) (hw:h[wk]? = some (.lst (ps.map pd))) (v:∀ p∈ps,Vp p):run P (n+1) (Ω "put_back") [.ref wk,u.d] h=.ok (plug ps u).d h:=by
 rw [run_def H.put_back (by rfl)]
 obtain ⟨o3,o4,e⟩:=l_back (U:=P.tbl n) (a:=.ref wk) (b:=u.d) hw ps [] u none none v
 rw [List.append_nil,forL_end hw] at e
 have hwk:walkT (.ref wk) h=some ⟨some (wk,ps.map pd),ps.map pd⟩:=by simp [walkT,hw]
 have x1:xs1 (P.tbl n) (.set (.nm 2) (.var 1)) [some (.ref wk),some u.d,none,none,none] h=.ok (.nx,[some (.ref wk),some u.d,some u.d,none,none]) h:=by simp
 have x2:xs1 (P.tbl n) (.forr (.two 3 4) (.rev (.var 0)) lp_back) [some (.ref wk),some u.d,some u.d,none,none] h=.ok (.nx,[some (.ref wk),some u.d,some (plug ps u).d,o3,o4]) h:=by
   have ei:evi (P.tbl n) (.rev (.var 0)) [some (.ref wk),some u.d,some u.d,none,none] h=.ok ⟨some (wk,ps.map pd),(ps.map pd).reverse⟩ h:=by simp [hwk]
   rw [xs1_forr,ei,bnd_ok]
   exact e
 have x3:xs1 (P.tbl n) (.ret (.var 2)) [some (.ref wk),some u.d,some (plug ps u).d,o3,o4] h=.ok (.rt (plug ps u).d,[some (.ref wk),some u.d,some (plug ps u).d,o3,o4]) h:=by simp
 show retOf (xs2 (P.tbl n) (.cons (.set (.nm 2) (.var 1)) (.cons (.forr (.two 3 4) (.rev (.var 0)) lp_back) (.cons (.ret (.var 2)) .nil))) [some (.ref wk),some u.d,none,none,none] h)=_
 rw [xs2_nx x1,xs2_nx x2,xs2_rt x3]
 rfl
end Tm
end
section
namespace Tm
open PySem L2 IV
variable {P:Pg}{h:Hd}
noncomputable def filOf(f:Str)(F:T)(x:Str)(A:T):Fil:=if f=x then [(x,A)] else [(f,F),(x,A)]
noncomputable def bec:T→Option T
 | .call F A=>match F with
   | .fn x e=>some (sub (Fil.ar [(x,A)]) e)
   | .rcc f x e=>some (sub (Fil.ar (filOf f (.rcc f x e) x A)) e)
   | _=>none
 | .iff c t e=>match c with
   | .num z=>some (if z=0 then e else t)
   | _=>none
 | .op w a b=>match a,b with
   | .num a,.num b=>some (.num (_root_.Rw.wk w a b))
   | _,_=>none
 | _=>none
noncomputable def next(t:T):Option T:=(bec (bot t)).map (plug (pth t))
noncomputable def oT:Option T→D
 | some t=>t.d
 | none=>.non
theorem sub_le{M:Nat}(hM:1≤M):∀ (t:T) (ar:Ar),(∀ x V,get ar x=some V→V.size≤M)→(sub ar t).size≤t.size * M
 | .num _,_,_=>by simp [sub,T.size,T.places];omega
 | .name x,ar,hv=>by
   cases e:get ar x with
   | none=>simp [sub,e,T.size,T.places];omega
   | some V=>have:=hv x V e;simp [sub,e];simp [T.size,T.places] at *;omega
 | .fn x e,ar,hv=>by
   have ih:=sub_le hM e ((x,none)::ar) (fun y V q=>hv y V (get_app_none [x] ar q))
   rw [sub,size_cons,size_cons (.fn x e)]
   simp [T.parts,Nat.add_mul] at ih ⊢
   omega
 | .rcc f x e,ar,hv=>by
   have ih:=sub_le hM e ((f,none)::(x,none)::ar) (fun y V q=>hv y V (get_app_none [f,x] ar q))
   rw [sub,size_cons,size_cons (.rcc f x e)]
   simp [T.parts,Nat.add_mul] at ih ⊢
   omega
 | .call f a,ar,hv=>by
   have i1:=sub_le hM f ar hv
   have i2:=sub_le hM a ar hv
   rw [sub,size_cons,size_cons (.call f a)]
   simp [T.parts,Nat.add_mul] at i1 i2 ⊢
   omega
 | .op w f a,ar,hv=>by
   have i1:=sub_le hM f ar hv
   have i2:=sub_le hM a ar hv
   rw [sub,size_cons,size_cons (.op w f a)]
   simp [T.parts,Nat.add_mul] at i1 i2 ⊢
   omega
 | .iff c t e,ar,hv=>by
   have i1:=sub_le hM c ar hv
   have i2:=sub_le hM t ar hv
   have i3:=sub_le hM e ar hv
   rw [sub,size_cons,size_cons (.iff c t e)]
   simp [T.parts,Nat.add_mul] at i1 i2 i3 ⊢
   omega
theorem get_ar:∀ (f:Fil) {x:Str}{V:T},get f.ar x=some V→(x,V)∈f
 | [],x,V,e=>by cases e
 | (y,W)::r,x,V,e=>by
   rw [Fil.ar,Ωp,get] at e
   split at e
   · rename_i q
     cases e
     rw [← q]
     exact Ωi
   · exact Ωh _ (get_ar r e)
theorem fil_ok{t:T}{f:Fil}(ht:t.size≤300)(hf:f.length≤2)(hs:∀ p∈f,p.2.size≤300):Wok (t,f.ar)∧(sub f.ar t).size≤400000∧(sub f.ar t).size≤t.size * 300:=by
 have hv:∀ x V,get f.ar x=some V→V.size≤300:=fun x V e=>hs (x,V) (get_ar f e)
 have:=sub_le (M:=300) (by omega) t f.ar hv
 refine ⟨⟨?_,fun x V e=>by have:=hv x V e;omega⟩,by omega,this⟩
 have:f.ar.length=f.length:=by simp [Fil.ar]
 simp only
 omega
theorem r_called (H:Trm P) (n:Nat) (F A:T) (hv:isV F=true) (hF:F.size≤300) (hA:A.size≤300):∃ g,run P (n+5) (Ω "called") [F.d,A.d] h=.ok (oT (bec (.call F A))) (h++g):=by
 rw [run_def H.called (by cases F<;>rfl)]
 have gr:∀ (f:Fil),∃ k,k=h.length∧(h++[DO.dic f.kv])[k]? = some (.dic f.kv):=fun f=>⟨_,rfl,by simp⟩
 cases F with
 | num z=>exact ⟨[],by simp [f_called,b_called,startD,T.d,bec,oT]⟩
 | fn x e =>
   have he:e.size≤300:=by rw [size_cons] at hF;simp [T.parts] at hF;omega
   obtain ⟨w1,w2,_⟩:=fil_ok (t:=e) (f:=[(x,A)]) he (by simp) (by simp;omega)
   obtain ⟨g,q⟩:=r_put H n e [(x,A)] (h0:=h) (h:=h++[.dic (Fil.kv [(x,A)])]) (dk:=h.length) (by simp) (by simp) (by simp) (Ωq _) (by simp) (fun i hi=>Ωe hi) w1 w2
   refine ⟨g,?_⟩
   simp [Fil.kv] at q
   simp [f_called,b_called,startD,T.d,bec,oT,pairsD,keyOf,mergeD,putD,q]
 | rcc f x e =>
   have he:e.size≤300:=by rw [size_cons] at hF;simp [T.parts] at hF;omega
   have hlen:(filOf f (.rcc f x e) x A).length≤2:=by unfold filOf;split<;>simp
   have hnd:((filOf f (.rcc f x e) x A).map (·.1)).Nodup:=by
     unfold filOf
     split
     · simp
     · simpa using (by assumption)
   obtain ⟨w1,w2,_⟩:=fil_ok (t:=e) (f:=filOf f (.rcc f x e) x A) he hlen (by
     unfold filOf
     split
     · simp;omega
     · simp;exact ⟨hF,hA⟩)
   obtain ⟨g,q⟩:=r_put H n e (filOf f (.rcc f x e) x A) (h0:=h) (h:=h++[.dic (Fil.kv (filOf f (.rcc f x e) x A))]) (dk:=h.length) hnd (by omega) (by simp) (Ωq _) (by simp) (fun i hi=>Ωe hi) w1 w2
   refine ⟨g,?_⟩
   have mg:mergeD [] [(Sum.inr f,(T.rcc f x e).d),(Sum.inr x,A.d)]=Fil.kv (filOf f (.rcc f x e) x A):=by
     unfold filOf
     by_cases z:f=x
     · subst z;simp [mergeD,putD,Fil.kv]
     · have:¬ (Sum.inr f:Key)=Sum.inr x:=fun q=>z (Sum.inr.inj q)
       simp [mergeD,putD,Fil.kv,z]
   generalize Fil.kv (filOf f (.rcc f x e) x A)=kv at *
   simp only [T.d] at q mg ⊢
   simp [f_called,b_called,startD,bec,oT,pairsD,keyOf,mg,q]
 | _=>cases hv
theorem r_chosen (H:Trm P) (n:Nat) (c a b:T) (hv:isV c=true):run P (n+1) (Ω "chosen") [c.d,a.d,b.d] h=.ok (oT (bec (.iff c a b))) h:=by
 rw [run_def H.chosen (by rfl)]
 cases c with
 | num z=>by_cases e:z=0<;>simp [f_chosen,b_chosen,startD,T.d,bec,oT,e]
 | fn x e=>simp [f_chosen,b_chosen,startD,T.d,bec,oT]
 | rcc f x e=>simp [f_chosen,b_chosen,startD,T.d,bec,oT]
 | _=>cases hv
theorem r_worked (H:Trm P) (n:Nat) (w:Wd) (a b:T) (va:isV a=true) (vb:isV b=true) (ca:Gn.Cl [] a) (cb:Gn.Cl [] b):run P (n+1) (Ω "worked") [.str w.s,a.d,b.d] h=.ok (oT (bec (.op w a b))) h:=by
 rw [run_def H.worked (by rfl)]
 have no:∀ (ρ:Ev),xs1 (P.tbl n) b_worked_1 ρ h=.ok (.rt .non,ρ) h→retOf (xs2 (P.tbl n) (.cons b_worked_1 (.cons b_worked_2 (.cons b_worked_3 (.cons b_worked_4 (.cons b_worked_5 .nil))))) ρ h)=.ok .non h:=fun ρ e=>by rw [xs2_rt e];rfl
 cases a with
 | num x =>
   cases b with
   | num y =>
     have m1:∀ z:Int,opB .Mod (.int z) (.int 1000000) h=.ok (.int (z % 1000000)) h:=fun z=>opB_mod (by decide)
     have m2:opB .Mult (.int x) (.int y) h=.ok (.int (x * y)) h:=opB_mul ⟨Gn.small_abs (by have:=ca.1;have:=ca.2;omega) (by have:=ca.1;have:=ca.2;omega),Gn.small_abs (by have:=cb.1;have:=cb.2;omega) (by have:=cb.1;have:=cb.2;omega)⟩
     have gb:=H.gb
     generalize P.G=PG at gb
     cases w with
     | lt=>by_cases e:x<y<;>simp [f_worked,b_worked,b_worked_1,b_worked_2,startD,T.d,Wd.s,bec,oT,_root_.Rw.wk,e,sizeLine_eq]
     | _=>simp [f_worked,b_worked,b_worked_1,b_worked_2,b_worked_3,b_worked_4,b_worked_5,startD,T.d,Wd.s,bec,oT,_root_.Rw.wk,sizeLine_eq,gb,m1,m2]
   | fn _ _=>exact no [some (.str w.s),some (T.num x).d,some (T.fn _ _).d] (by simp [b_worked_1,T.d])
   | rcc _ _ _=>exact no [some (.str w.s),some (T.num x).d,some (T.rcc _ _ _).d] (by simp [b_worked_1,T.d])
   | _=>cases vb
 | fn _ _=>exact no [some (.str w.s),some (T.fn _ _).d,some b.d] (by simp [b_worked_1,T.d])
 | rcc _ _ _=>exact no [some (.str w.s),some (T.rcc _ _ _).d,some b.d] (by simp [b_worked_1,T.d])
 | _=>cases va
noncomputable def Red:T→Prop
 | .call f a=>isV f=true∧isV a=true
 | .op _ f a=>isV f=true∧isV a=true
 | .iff c _ _=>isV c=true
 | _=>False
theorem bot_red:∀ t:T,isV t=false→Gn.Cl [] t→Red (bot t)∧Gn.Cl [] (bot t)∧(bot t).size≤t.size
 | .num _,nv,_=>by cases nv
 | .name x,_,c=>by cases c
 | .fn _ _,nv,_=>by cases nv
 | .rcc _ _ _,nv,_=>by cases nv
 | .call f a,_,c=>by
   have z:(T.call f a).size=1+(f.size+a.size):=by rw [size_cons];simp [T.parts]
   simp only [bot]
   split
   · split
     · exact ⟨⟨by assumption,by assumption⟩,c,Ωq _⟩
     · rename_i q;have ih:=bot_red a (by simpa using q) c.2;exact ⟨ih.1,ih.2.1,by omega⟩
   · rename_i q;have ih:=bot_red f (by simpa using q) c.1;exact ⟨ih.1,ih.2.1,by omega⟩
 | .op w f a,_,c=>by
   have z:(T.op w f a).size=1+(f.size+a.size):=by rw [size_cons];simp [T.parts]
   simp only [bot]
   split
   · split
     · exact ⟨⟨by assumption,by assumption⟩,c,Ωq _⟩
     · rename_i q;have ih:=bot_red a (by simpa using q) c.2;exact ⟨ih.1,ih.2.1,by omega⟩
   · rename_i q;have ih:=bot_red f (by simpa using q) c.1;exact ⟨ih.1,ih.2.1,by omega⟩
 | .iff f a b,_,c=>by
   have z:(T.iff f a b).size=1+(f.size+(a.size+b.size)):=by rw [size_cons];simp [T.parts]
   simp only [bot]
   split
   · exact ⟨by assumption,c,Ωq _⟩
   · rename_i q;have ih:=bot_red f (by simpa using q) c.1;exact ⟨ih.1,ih.2.1,by omega⟩
theorem r_become (H:Trm P) (n:Nat) (t:T) (r:Red t) (c:Gn.Cl [] t) (hz:t.size≤300):∃ g,run P (n+6) (Ω "become") [t.d] h=.ok (oT (bec t)) (h++g):=by
 rw [run_def H.become (by rfl)]
 cases t with
 | call F A =>
   have z:(T.call F A).size=1+(F.size+A.size):=by rw [size_cons];simp [T.parts]
   obtain ⟨g,e⟩:=r_called H n (h:=h) F A r.1 (by omega) (by omega)
   exact ⟨g,by simp [f_become,b_become,b_become_1,startD,T.d,e]⟩
 | iff a b d =>
   have e:=r_chosen H (n+4) (h:=h) a b d r
   exact ⟨[],by simp [f_become,b_become,b_become_1,b_become_2,startD,T.d,e]⟩
 | op w a b =>
   have e:=r_worked H (n+4) (h:=h) w a b r.1 r.2 c.1 c.2
   exact ⟨[],by simp [f_become,b_become,b_become_1,b_become_2,b_become_3,startD,T.d,e]⟩
 | _=>cases r
noncomputable def ans (t:T):D:=if isV t then .tup [.str (Ω "value")] else match next t with
 | some u=>.tup [.str (Ω "loud"),u.d]
 | none=>.tup [.str (Ω "stuck")]
theorem r_stepped (H:Trm P) (n:Nat) (t:T) (c:Gn.Cl [] t) (hz:t.size≤300):∃ g,run P (n+7) (Ω "stepped") [t.d] h=.ok (ans t) (h++g):=by
 rw [run_def H.stepped (by rfl)]
 have ev:=r_isv H (n+5) (h:=h) t
 show ∃ g,retOf (xs2 (P.tbl (n+6)) (.cons b_stepped_1 (.cons b_stepped_2 (.cons b_stepped_3 (.cons b_stepped_4 (.cons b_stepped_5 .nil))))) [some t.d,none,none] h)=_
 cases nv:isV t with
 | true =>
   rw [nv] at ev
   refine ⟨[],?_⟩
   have x1:xs1 (P.tbl (n+6)) b_stepped_1 [some t.d,none,none] h=.ok (.rt (.tup [.str (Ω "value")]),[some t.d,none,none]) h:=by simp [b_stepped_1,Pg.tbl,ev,sizeLine_eq]
   rw [xs2_rt x1,List.append_nil,ans,nv]
   rfl
 | false =>
   rw [nv] at ev
   have x1:xs1 (P.tbl (n+6)) b_stepped_1 [some t.d,none,none] h=.ok (.nx,[some t.d,none,none]) h:=by simp [b_stepped_1,Pg.tbl,ev]
   have ew:=r_way H (n+2) (h:=h) t c nv (by omega)
   have x2:xs1 (P.tbl (n+6)) b_stepped_2 [some t.d,none,none] h=.ok (.nx,[some t.d,some (.ref h.length),none]) (h++[.lst (wayD t)]):=by simp [b_stepped_2,Pg.tbl,ew]
   obtain ⟨r1,r2,r3⟩:=bot_red t nv c
   obtain ⟨g,eb⟩:=r_become H n (h:=h++[.lst (wayD t)]) (bot t) r1 r2 (by omega)
   have ix:opIx P.GD (.ref h.length) (.int (-1)) (h++[.lst (wayD t)])=.ok (.tup [(bot t).d,.non]) (h++[.lst (wayD t)]):=by rw [opIx_lst (xs:=wayD t) (by simp),wayD,last1];rfl
   have x3:xs1 (P.tbl (n+6)) b_stepped_3 [some t.d,some (.ref h.length),none] (h++[.lst (wayD t)])=.ok (.nx,[some t.d,some (.ref h.length),some (oT (bec (bot t)))]) (h++[.lst (wayD t)]++g):=by
     simp [b_stepped_3,Pg.tbl,ix,eb]
   rw [xs2_nx x1,xs2_nx x2,xs2_nx x3]
   have kw:(h++[DO.lst (wayD t)]++g)[h.length]? = some (.lst (wayD t)):=by simp
   cases hb:bec (bot t) with
   | none =>
     refine ⟨[.lst (wayD t)]++g,?_⟩
     have x4:xs1 (P.tbl (n+6)) b_stepped_4 [some t.d,some (.ref h.length),some (oT none)] (h++[.lst (wayD t)]++g)=.ok (.rt (.tup [.str (Ω "stuck")]),[some t.d,some (.ref h.length),some (oT none)]) (h++[.lst (wayD t)]++g):=by simp [b_stepped_4,oT,sizeLine_eq]
     rw [xs2_rt x4,ans,nv,next,hb,← Ωz]
     rfl
   | some u =>
     generalize hh:h++[DO.lst (wayD t)]++g=h1 at *
     have nn:u.d≠.non:=by cases u<;>simp [T.d]
     have x4:xs1 (P.tbl (n+6)) b_stepped_4 [some t.d,some (.ref h.length),some (oT (some u))] h1=.ok (.nx,[some t.d,some (.ref h.length),some (oT (some u))]) h1:=by simp [b_stepped_4,oT,nn]
     have ep:=r_back H (n+5) (h:=h1++[.lst ((pth t).map pd)]) (wk:=h1.length) (pth t) u (by simp) (pth_ok t)
     have sl:opSl (.ref h.length) none (some (-1)) h1=.ok (.ref h1.length) (h1++[.lst ((pth t).map pd)]):=by
       have:cutD (wayD t) none (some (-1))=(pth t).map pd:=by rw [wayD,cut_m1];rfl
       simp [opSl,lstOf,kw,this]
     refine ⟨[.lst (wayD t)]++g++[.lst ((pth t).map pd)],?_⟩
     have x5:xs1 (P.tbl (n+6)) b_stepped_5 [some t.d,some (.ref h.length),some (oT (some u))] h1=.ok (.rt (.tup [.str (Ω "loud"),(plug (pth t) u).d]),[some t.d,some (.ref h.length),some (oT (some u))]) (h1++[.lst ((pth t).map pd)]):=by
       simp [b_stepped_5,Pg.tbl,sl,oT,ep,sizeLine_eq]
     rw [xs2_nx x4,xs2_rt x5,ans,nv,next,hb,← Ωz,← Ωz,hh]
     rfl
end Tm
end
section
namespace Tm
open PySem L2 IV
variable {P:Pg}{h:Hd}
noncomputable def Kp(ar:Ar)(sc sc':List Str):Prop:=∀ x∈sc,(∃ V,get ar x=some V∧Gn.Cl [] V)∨(get ar x=none∧x∈sc')
theorem Kp.bind{ar:Ar}{sc sc':List Str}(k:Kp ar sc sc')(y:Str):Kp ((y,none)::ar) (y::sc) (y::sc'):=fun x hx=>by
 unfold get
 by_cases e:y=x
 · rw [if_pos e]
   exact .inr ⟨rfl,by rw [e];exact Ωi⟩
 · rw [if_neg e]
   rcases Ωr.mp hx with z|z
   · exact absurd z.symm e
   · rcases k x z with q|q
     · exact .inl q
     · exact .inr ⟨q.1,Ωh _ q.2⟩
theorem Kp.two{ar:Ar}{sc sc':List Str}(k:Kp ar sc sc')(f x:Str):Kp ((f,none)::(x,none)::ar) (x::f::sc) (x::f::sc'):=fun z hz=>by
 have q:=(k.bind x).bind f z (by simp at hz ⊢;rcases hz with h|h|h<;>simp [h])
 rcases q with q|q
 · exact .inl q
 · exact .inr ⟨q.1,by have:=q.2;simp at this ⊢;rcases this with h|h|h<;>simp [h]⟩
theorem cl_sub:∀ (t:T) {ar:Ar}{sc sc':List Str},Kp ar sc sc'→Gn.Cl sc t→Gn.Cl sc' (sub ar t)
 | .num _,_,_,_,_,c=>c
 | .name x,ar,sc,sc',k,c=>by
   rcases k x c with ⟨V,e,cv⟩|⟨e,m⟩
   · rw [sub,e]
     exact Gn.Cl.mono (fun y hy=>by cases hy) cv
   · rw [sub,e]
     exact m
 | .fn x e,_,_,_,k,c=>cl_sub e (k.bind x) c
 | .rcc f x e,_,_,_,k,c=>⟨cl_sub e (k.two f x) c.1,c.2⟩
 | .call f a,_,_,_,k,c=>⟨cl_sub f k c.1,cl_sub a k c.2⟩
 | .iff f a b,_,_,_,k,c=>⟨cl_sub f k c.1,cl_sub a k c.2.1,cl_sub b k c.2.2⟩
 | .op _ f a,_,_,_,k,c=>⟨cl_sub f k c.1,cl_sub a k c.2⟩
theorem dep_sub{M:Nat}:∀ (t:T) (ar:Ar),(∀ x V,get ar x=some V→Gn.dep V≤M)→Gn.dep (sub ar t)≤Gn.dep t+M
 | .num _,_,_=>by simp [sub,Gn.dep]
 | .name x,ar,hv=>by
   cases e:get ar x with
   | none=>simp [sub,e,Gn.dep]
   | some V=>have:=hv x V e;simp [sub,e];omega
 | .fn x e,ar,hv=>by have:=dep_sub e ((x,none)::ar) (fun y V q=>hv y V (get_app_none [x] ar q));simp only [sub,Gn.dep];omega
 | .rcc f x e,ar,hv=>by have:=dep_sub e ((f,none)::(x,none)::ar) (fun y V q=>hv y V (get_app_none [f,x] ar q));simp only [sub,Gn.dep];omega
 | .call f a,ar,hv=>by have:=dep_sub f ar hv;have:=dep_sub a ar hv;simp only [sub,Gn.dep];omega
 | .op w f a,ar,hv=>by have:=dep_sub f ar hv;have:=dep_sub a ar hv;simp only [sub,Gn.dep];omega
 | .iff c t e,ar,hv=>by have:=dep_sub c ar hv;have:=dep_sub t ar hv;have:=dep_sub e ar hv;simp only [sub,Gn.dep];omega
theorem dep_lt:∀ t:T,Gn.dep t<t.size
 | .num _=>by simp [Gn.dep,T.size,T.places]
 | .name _=>by simp [Gn.dep,T.size,T.places]
 | .fn x e=>by have:=dep_lt e;rw [size_cons];simp [Gn.dep,T.parts];omega
 | .rcc f x e=>by have:=dep_lt e;rw [size_cons];simp [Gn.dep,T.parts];omega
 | .call f a=>by have:=dep_lt f;have:=dep_lt a;rw [size_cons];simp [Gn.dep,T.parts];omega
 | .op w f a=>by have:=dep_lt f;have:=dep_lt a;rw [size_cons];simp [Gn.dep,T.parts];omega
 | .iff c t e=>by have:=dep_lt c;have:=dep_lt t;have:=dep_lt e;rw [size_cons];simp [Gn.dep,T.parts];omega
theorem fil_cl{f:Fil}(hc:∀ p∈f,Gn.Cl [] p.2)(sc:List Str)(hk:∀ x∈sc,x∈f.map (·.1)):Kp f.ar sc []:=fun x hx=>by
 have:∀ (f:Fil),(∀ p∈f,Gn.Cl [] p.2)→x∈f.map (·.1)→∃ V,get f.ar x=some V∧Gn.Cl [] V:=by
   intro f
   induction f with
   | nil=>intro _ z;cases z
   | cons p r ih =>
     intro hc z
     rw [Fil.ar,Ωp,get]
     by_cases e:p.1=x
     · rw [if_pos e]
       exact ⟨p.2,rfl,hc p Ωi⟩
     · rw [if_neg e]
       rw [Ωp] at z
       rcases Ωr.mp z with q|q
       · exact absurd q.symm e
       · exact ih (fun p hp=>hc p (Ωh _ hp)) q
 exact .inl (this f hc (hk x hx))
theorem bec_ok(t u:T)(r:Red t)(c:Gn.Cl [] t)(hz:t.size≤300)(e:bec t=some u):Gn.Cl [] u∧u.size≤t.size * 300∧Gn.dep u≤2 * Gn.dep t:=by
 cases t with
 | call F A =>
   have z:(T.call F A).size=1+(F.size+A.size):=by rw [size_cons];simp [T.parts]
   cases F with
   | fn x b =>
     cases e
     have zb:(T.fn x b).size=1+b.size:=by rw [size_cons];simp [T.parts]
     have fo:=fil_ok (t:=b) (f:=[(x,A)]) (by omega) (by simp) (by simp;omega)
     have dd:=dep_sub (M:=Gn.dep A) b (Fil.ar [(x,A)]) (fun y V q=>by have:=get_ar [(x,A)] q;simp at this;rw [this.2];exact Ωq _)
     refine ⟨cl_sub b (fil_cl (by simp;exact c.2) [x] (by simp)) c.1,?_,?_⟩
     · have:=fo.2.2
       have:b.size * 300≤(T.call (.fn x b) A).size * 300:=Nat.mul_le_mul_right _ (by omega)
       omega
     · simp only [Gn.dep]
       omega
   | rcc f x b =>
     cases e
     have zb:(T.rcc f x b).size=1+b.size:=by rw [size_cons];simp [T.parts]
     have mem:∀ p∈filOf f (.rcc f x b) x A,p.2=.rcc f x b∨p.2=A:=by
       intro p hp
       unfold filOf at hp
       split at hp
       · simp at hp;rw [hp];exact .inr rfl
       · simp at hp;rcases hp with rfl|rfl
         · exact .inl rfl
         · exact .inr rfl
     have fo:=fil_ok (t:=b) (f:=filOf f (.rcc f x b) x A) (by omega) (by unfold filOf;split<;>simp) (fun p hp=>by rcases mem p hp with q|q<;>rw [q]<;>omega)
     have dd:=dep_sub (M:=max (Gn.dep (.rcc f x b)) (Gn.dep A)) b (Fil.ar (filOf f (.rcc f x b) x A)) (fun y V q=>by
       rcases mem _ (get_ar _ q) with z|z
       · simp only at z;rw [z];omega
       · simp only at z;rw [z];omega)
     refine ⟨cl_sub b (fil_cl (fun p hp=>by rcases mem p hp with q|q<;>rw [q];exact c.1;exact c.2) [x,f] (by unfold filOf;split<;>simp_all)) c.1.1,?_,?_⟩
     · have:=fo.2.2
       have:b.size * 300≤(T.call (.rcc f x b) A).size * 300:=Nat.mul_le_mul_right _ (by omega)
       omega
     · simp only [Gn.dep] at dd ⊢
       omega
   | _=>cases e
 | iff a b d =>
   have z:(T.iff a b d).size=1+(a.size+(b.size+d.size)):=by rw [size_cons];simp [T.parts]
   cases a with
   | num m =>
     simp only [bec,Option.some.injEq] at e
     subst e
     split
     · exact ⟨c.2.2,by omega,by simp only [Gn.dep];omega⟩
     · exact ⟨c.2.1,by omega,by simp only [Gn.dep];omega⟩
   | _=>cases e
 | op w a b =>
   cases a with
   | num x =>
     cases b with
     | num y =>
       cases e
       have:=_root_.Rw.wk_ok w x y
       exact ⟨this,by simp [T.size,T.places],by simp [Gn.dep]⟩
     | _=>cases e
   | _=>cases e
 | _=>cases r
theorem plug_ok:∀ (t:T) (u:T),Gn.Cl [] t→Gn.Cl [] u→Gn.Cl [] (plug (pth t) u)∧(plug (pth t) u).size≤t.size+u.size∧Gn.dep (plug (pth t) u)≤max (Gn.dep t) ((pth t).length+Gn.dep u)∧(pth t).length+Gn.dep (bot t)≤Gn.dep t
 | .num _,u,_,cu=>⟨cu,by simp [pth,plug],by simp [pth,plug];omega,by simp [pth,bot,Gn.dep]⟩
 | .name _,u,_,cu=>⟨cu,by simp [pth,plug],by simp [pth,plug];omega,by simp [pth,bot,Gn.dep]⟩
 | .fn _ _,u,_,cu=>⟨cu,by simp [pth,plug],by simp [pth,plug];omega,by simp [pth,bot]⟩
 | .rcc _ _ _,u,_,cu=>⟨cu,by simp [pth,plug],by simp [pth,plug];omega,by simp [pth,bot]⟩
 | .call f a,u,c,cu=>by
   have z:(T.call f a).size=1+(f.size+a.size):=by rw [size_cons];simp [T.parts]
   have i1:=plug_ok f u c.1 cu
   have i2:=plug_ok a u c.2 cu
   cases hf:isV f with
   | false =>
     have z2:(T.call (plug (pth f) u) a).size=1+((plug (pth f) u).size+a.size):=by rw [size_cons];simp [T.parts]
     simp only [pth,hf,plug,plug1,bot,ΩG,if_false,Ωs]
     exact ⟨⟨i1.1,c.2⟩,by omega,by simp only [Gn.dep];omega,by simp only [Gn.dep];omega⟩
   | true =>
     cases ha:isV a with
     | false =>
       have z2:(T.call f (plug (pth a) u)).size=1+(f.size+(plug (pth a) u).size):=by rw [size_cons];simp [T.parts]
       simp only [pth,hf,ha,plug,plug1,bot,ΩG,if_false,if_true,Ωs]
       exact ⟨⟨c.1,i2.1⟩,by omega,by simp only [Gn.dep];omega,by simp only [Gn.dep];omega⟩
     | true =>
       simp only [pth,hf,ha,plug,bot,if_true,List.length_nil]
       exact ⟨cu,by omega,by omega,by omega⟩
 | .op w f a,u,c,cu=>by
   have z:(T.op w f a).size=1+(f.size+a.size):=by rw [size_cons];simp [T.parts]
   have i1:=plug_ok f u c.1 cu
   have i2:=plug_ok a u c.2 cu
   cases hf:isV f with
   | false =>
     have z2:(T.op w (plug (pth f) u) a).size=1+((plug (pth f) u).size+a.size):=by rw [size_cons];simp [T.parts]
     simp only [pth,hf,plug,plug1,bot,ΩG,if_false,Ωs]
     exact ⟨⟨i1.1,c.2⟩,by omega,by simp only [Gn.dep];omega,by simp only [Gn.dep];omega⟩
   | true =>
     cases ha:isV a with
     | false =>
       have z2:(T.op w f (plug (pth a) u)).size=1+(f.size+(plug (pth a) u).size):=by rw [size_cons];simp [T.parts]
       simp only [pth,hf,ha,plug,plug1,bot,ΩG,if_false,if_true,Ωs]
       exact ⟨⟨c.1,i2.1⟩,by omega,by simp only [Gn.dep];omega,by simp only [Gn.dep];omega⟩
     | true =>
       simp only [pth,hf,ha,plug,bot,if_true,List.length_nil]
       exact ⟨cu,by omega,by omega,by omega⟩
 | .iff f a b,u,c,cu=>by
   have z:(T.iff f a b).size=1+(f.size+(a.size+b.size)):=by rw [size_cons];simp [T.parts]
   have i1:=plug_ok f u c.1 cu
   cases hf:isV f with
   | false =>
     have z2:(T.iff (plug (pth f) u) a b).size=1+((plug (pth f) u).size+(a.size+b.size)):=by rw [size_cons];simp [T.parts]
     simp only [pth,hf,plug,plug1,bot,ΩG,if_false,Ωs]
     exact ⟨⟨i1.1,c.2.1,c.2.2⟩,by omega,by simp only [Gn.dep];omega,by simp only [Gn.dep];omega⟩
   | true =>
     simp only [pth,hf,plug,bot,if_true,List.length_nil]
     exact ⟨cu,by omega,by omega,by omega⟩
theorem next_ok{t u:T}(nv:isV t=false)(c:Gn.Cl [] t)(hz:t.size≤120)(e:next t=some u):Gn.Cl [] u∧u.size≤40000∧Gn.dep u≤240:=by
 obtain ⟨v,e1,rfl⟩:=Ωo.mp e
 obtain ⟨r1,r2,r3⟩:=bot_red t nv c
 obtain ⟨b1,b2,b3⟩:=bec_ok (bot t) v r1 r2 (by omega) e1
 obtain ⟨p1,p2,p3,p4⟩:=plug_ok t v c b1
 have dl:=dep_lt t
 have:(bot t).size * 300≤120 * 300:=Nat.mul_le_mul_right _ (by omega)
 exact ⟨p1,by omega,by omega⟩
end Tm
end
section
namespace Tm
open PySem L2 IV
variable {P:Pg}
noncomputable def row:Nat→T→List T×Str
 | 0,t=>([t],if isV t then Ω "value" else match next t with
   | none=>Ω "stuck"
   | some _=>Ω "open")
 | m+1,t=>if isV t then ([t],Ω "value") else match next t with
   | none=>([t],Ω "stuck")
   | some u=>if 120<u.size then ([t],Ω "wide") else (t::(row m u).1,(row m u).2)
theorem r_wide (H:Trw P) (n:Nat) (t:T) (hz:t.size≤800000) (h:Hd):run P (n+3) (Ω "is_wide") [t.d] h=.ok (.bl (decide (120<t.size))) (h++[.lst (t.places.map T.d),.lst []]):=by
 rw [run_def H.is_wide (by rfl)]
 have e:=Gn.r_places H.toTrm.toTre n t h hz
 have gw:=H.gw
 generalize P.G=PG at gw
 have l:(h++[DO.lst (t.places.map T.d),.lst []])[h.length]? = some (.lst (t.places.map T.d)):=by simp
 have c:decide ((120:Int)<(t.places.length:Int))=decide (120<t.size):=by
   rw [Bool.eq_iff_iff]
   simp only [decide_eq_true_eq]
   unfold T.size
   omega
 simp [f_is_wide,b_is_wide,startD,e,gw,bltD,bLen,seqOf,lstOf,c]
noncomputable def rw1:Sx:=(.iff (.ex (.cmp .Gt (.blt .len (.cons (.var 2) .nil)) (.var 1))) (.cons (.ret (.tupl (.cons (.var 2) (.cons (.cst (.str (Ω "open"))) .nil)))) .nil) .nil)
noncomputable def rw2:Sx:=(.iff (.ex (.call (Ω "is_wide") (.cons (.ix (.var 3) (.cst (.int 1))) .nil))) (.cons (.ret (.tupl (.cons (.var 2) (.cons (.cst (.str (Ω "wide"))) .nil)))) .nil) .nil)
noncomputable def rw3:Sx:=(.drp (.meth .app (.var 2) (.cons (.ix (.var 3) (.cst (.int 1))) .nil)))
noncomputable def rw4:Sx:=(.set (.nm 3) (.call (Ω "stepped") (.cons (.ix (.var 3) (.cst (.int 1))) .nil)))
noncomputable def lp_row:Sxs:=.cons rw1 (.cons rw2 (.cons rw3 (.cons rw4 .nil)))
noncomputable def rwc:Tx:=(.ex (.cmp .Eq (.ix (.var 3) (.cst (.int 0))) (.cst (.str (Ω "loud")))))
theorem row_is:b_row_of=.cons (.set (.nm 2) (.lstl (.cons (.var 0) .nil))) (.cons (.set (.nm 3) (.call (Ω "stepped") (.cons (.var 0) .nil))) (.cons (.whl rwc lp_row) (.cons (.ret (.tupl (.cons (.var 2) (.cons (.ix (.var 3) (.cst (.int 0))) .nil)))) .nil))):=rfl
theorem l_row(H:Trw P)(n:Nat){h:Hd}{E:D}(M:Nat)(hM:M≤1000):∀ (m:Nat) (t:T) (A:List T) (g:Hd) (fuel:Nat),A.length+m=M→m<fuel→Gn.Cl [] t→t.size≤120→∃ g' f ρ,
   whileL (tst (P.tbl (n+7)) rwc) (xs2 (P.tbl (n+7)) lp_row) fuel [some E,some (.int (M:Int)),some (.ref h.length),some (ans t)] (h++.lst ((A++[t]).map T.d)::g)=.ok (f,ρ) (h++.lst ((A++(row m t).1).map T.d)::g') ∧
     (f=.rt (.tup [.ref h.length,.str (row m t).2])∨(f=.nx∧ρ=[some E,some (.int (M:Int)),some (.ref h.length),some (.tup [.str (row m t).2])]))
 | m,t,A,g,0,_,hf,_,_=>by omega
 | m,t,A,g,fuel+1,hA,hf,c,hz=>by
   have stop:∀ w:String,w ≠ "loud" → ans t=.tup [.str (Str.ofString w)]→row m t=([t],Str.ofString w)→∃ g' f ρ,whileL (tst (P.tbl (n+7)) rwc) (xs2 (P.tbl (n+7)) lp_row) (fuel+1) [some E,some (.int (M:Int)),some (.ref h.length),some (ans t)] (h++.lst ((A++[t]).map T.d)::g)=.ok (f,ρ) (h++.lst ((A++(row m t).1).map T.d)::g') ∧
       (f=.rt (.tup [.ref h.length,.str (row m t).2])∨(f=.nx∧ρ=[some E,some (.int (M:Int)),some (.ref h.length),some (.tup [.str (row m t).2])])):=by
     intro w hw e1 e2
     refine ⟨g,.nx,_,?_,.inr ⟨rfl,rfl⟩⟩
     rw [e1,e2,whileL_succ]
     have te:tst (P.tbl (n+7)) rwc [some E,some (.int (M:Int)),some (.ref h.length),some (.tup [.str (Str.ofString w)])] (h++.lst ((A++[t]).map T.d)::g)=.ok false (h++.lst ((A++[t]).map T.d)::g):=by simp [rwc,hw]
     rw [te,bnd_ok,if_neg (by decide)]
   cases nv:isV t with
   | true=>exact stop "value" (by decide) (by simp [ans,nv]) (by cases m<;>simp [row,nv])
   | false =>
     cases hn:next t with
     | none=>exact stop "stuck" (by decide) (by simp [ans,nv,hn]) (by cases m<;>simp [row,nv,hn])
     | some u =>
       have ea:ans t=.tup [.str (Ω "loud"),u.d]:=by simp [ans,nv,hn]
       obtain ⟨cu,su,du⟩:=next_ok nv c hz hn
       have kl:∀ (x:DO) (g:Hd),(h++x::g)[h.length]? = some x:=fun x g=>by simp
       have te:∀ h',tst (P.tbl (n+7)) rwc [some E,some (.int (M:Int)),some (.ref h.length),some (.tup [.str (Ω "loud"),u.d])] h'=.ok true h':=fun h'=>by simp [rwc]
       rw [ea,whileL_succ,te,bnd_ok,if_pos rfl]
       have len:∀ h',h'[h.length]? = some (.lst ((A++[t]).map T.d))→bltD P.GD .len [.ref h.length] h'=.ok (.int ((A.length:Int)+1)) h':=fun h' q=>by simp [bltD,bLen,seqOf,lstOf,q]
       cases m with
       | zero =>
         have x1:xs1 (P.tbl (n+7)) rw1 [some E,some (.int (M:Int)),some (.ref h.length),some (.tup [.str (Ω "loud"),u.d])] (h++.lst ((A++[t]).map T.d)::g)=.ok (.rt (.tup [.ref h.length,.str (Ω "open")]),[some E,some (.int (M:Int)),some (.ref h.length),some (.tup [.str (Ω "loud"),u.d])]) (h++.lst ((A++[t]).map T.d)::g):=by
           have q:=len _ (kl (.lst ((A++[t]).map T.d)) g)
           have cc:(M:Int)<(A.length:Int)+1:=by omega
           generalize (A++[t]).map T.d=ad at q ⊢
           simp [rw1,Pg.tbl,q,cc,sizeLine_eq]
         refine ⟨g,.rt (.tup [.ref h.length,.str (Ω "open")]),[some E,some (.int (M:Int)),some (.ref h.length),some (.tup [.str (Ω "loud"),u.d])],?_,.inl (by simp [row,nv,hn])⟩
         rw [lp_row,xs2_rt x1,bnd_ok]
         simp [row]
       | succ m =>
         have x1:xs1 (P.tbl (n+7)) rw1 [some E,some (.int (M:Int)),some (.ref h.length),some (.tup [.str (Ω "loud"),u.d])] (h++.lst ((A++[t]).map T.d)::g)=.ok (.nx,[some E,some (.int (M:Int)),some (.ref h.length),some (.tup [.str (Ω "loud"),u.d])]) (h++.lst ((A++[t]).map T.d)::g):=by
           have q:=len _ (kl (.lst ((A++[t]).map T.d)) g)
           have cc:¬ (M:Int)<(A.length:Int)+1:=by omega
           generalize (A++[t]).map T.d=ad at q ⊢
           simp [rw1,Pg.tbl,q,cc]
         have ew:=r_wide H (n+4) u (by omega) (h++.lst ((A++[t]).map T.d)::g)
         have asc:∀ (x:DO) (g g2:Hd),h++x::g++g2=h++x::(g++g2):=fun x g g2=>by simp
         rw [asc] at ew
         by_cases hw:120<u.size
         · have x2:xs1 (P.tbl (n+7)) rw2 [some E,some (.int (M:Int)),some (.ref h.length),some (.tup [.str (Ω "loud"),u.d])] (h++.lst ((A++[t]).map T.d)::g)=.ok (.rt (.tup [.ref h.length,.str (Ω "wide")]),[some E,some (.int (M:Int)),some (.ref h.length),some (.tup [.str (Ω "loud"),u.d])]) (h++.lst ((A++[t]).map T.d)::(g++[.lst (u.places.map T.d),.lst []])):=by
             generalize (A++[t]).map T.d=ad at *
             simp [rw2,Pg.tbl,ew,hw,sizeLine_eq]
           refine ⟨g++[.lst (u.places.map T.d),.lst []],.rt (.tup [.ref h.length,.str (Ω "wide")]),[some E,some (.int (M:Int)),some (.ref h.length),some (.tup [.str (Ω "loud"),u.d])],?_,.inl (by simp [row,nv,hn,hw])⟩
           rw [lp_row,xs2_nx x1,xs2_rt x2,bnd_ok]
           simp [row,nv,hn,hw]
         · have x2:xs1 (P.tbl (n+7)) rw2 [some E,some (.int (M:Int)),some (.ref h.length),some (.tup [.str (Ω "loud"),u.d])] (h++.lst ((A++[t]).map T.d)::g)=.ok (.nx,[some E,some (.int (M:Int)),some (.ref h.length),some (.tup [.str (Ω "loud"),u.d])]) (h++.lst ((A++[t]).map T.d)::(g++[.lst (u.places.map T.d),.lst []])):=by
             generalize (A++[t]).map T.d=ad at *
             simp [rw2,Pg.tbl,ew,hw]
           have ap:=meth_app (d:=u.d) (kl (.lst ((A++[t]).map T.d)) (g++[.lst (u.places.map T.d),.lst []])) (by rw [sizeLine_eq];simp;omega)
           have il:=isLst_ref (kl (.lst ((A++[t]).map T.d)) (g++[.lst (u.places.map T.d),.lst []]))
           rw [put_0] at ap
           have x3:xs1 (P.tbl (n+7)) rw3 [some E,some (.int (M:Int)),some (.ref h.length),some (.tup [.str (Ω "loud"),u.d])] (h++.lst ((A++[t]).map T.d)::(g++[.lst (u.places.map T.d),.lst []]))=.ok (.nx,[some E,some (.int (M:Int)),some (.ref h.length),some (.tup [.str (Ω "loud"),u.d])]) (h++.lst ((A++[t]++[u]).map T.d)::(g++[.lst (u.places.map T.d),.lst []])):=by
             rw [List.map_append (l₁:=A++[t]) (l₂:=[u])]
             generalize (A++[t]).map T.d=ad at *
             generalize g++[.lst (u.places.map T.d),.lst []]=g1 at *
             simp [rw3,il,ap]
           obtain ⟨g2,es⟩:=r_stepped H.toTrm n (h:=h++.lst ((A++[t]++[u]).map T.d)::(g++[.lst (u.places.map T.d),.lst []])) u cu (by omega)
           rw [asc] at es
           have x4:xs1 (P.tbl (n+7)) rw4 [some E,some (.int (M:Int)),some (.ref h.length),some (.tup [.str (Ω "loud"),u.d])] (h++.lst ((A++[t]++[u]).map T.d)::(g++[.lst (u.places.map T.d),.lst []]))=.ok (.nx,[some E,some (.int (M:Int)),some (.ref h.length),some (ans u)]) (h++.lst ((A++[t]++[u]).map T.d)::(g++[.lst (u.places.map T.d),.lst []]++g2)):=by
             generalize (A++[t]++[u]).map T.d=ad at *
             generalize g++[.lst (u.places.map T.d),.lst []]=g1 at *
             simp [rw4,Pg.tbl,es]
           obtain ⟨g',f,ρ,e,q⟩:=l_row H n (h:=h) (E:=E) M hM m u (A++[t]) (g++[.lst (u.places.map T.d),.lst []]++g2) fuel (by simp;omega) (by omega) cu (by omega)
           have er:row (m+1) t=(t::(row m u).1,(row m u).2):=by simp [row,nv,hn,hw]
           refine ⟨g',f,ρ,?_,by rw [er];exact q⟩
           rw [lp_row,xs2_nx x1,xs2_nx x2,xs2_nx x3,xs2_nx x4,er]
           have e2:A++t::(row m u).1=A++[t]++(row m u).1:=by simp
           rw [e2]
           exact e
theorem r_row (H:Trw P) (n:Nat) (t:T) (M:Nat) (hM:M≤1000) (c:Gn.Cl [] t) (hz:t.size≤120) (h:Hd):∃ g,run P (n+8) (Ω "row_of") [t.d,.int (M:Int)] h=.ok (.tup [.ref h.length,.str (row M t).2]) (h++.lst ((row M t).1.map T.d)::g):=by
 rw [run_def H.row_of (by rfl)]
 obtain ⟨g1,es⟩:=r_stepped H.toTrm n (h:=h++[.lst [t.d]]) t c (by omega)
 have big:=H.big
 obtain ⟨g',f,ρ,e,q⟩:=l_row H n (h:=h) (E:=t.d) M hM M t [] g1 P.L (by simp) (by omega) c hz
 refine ⟨g',?_⟩
 have x1:xs1 (P.tbl (n+7)) (.set (.nm 2) (.lstl (.cons (.var 0) .nil))) [some t.d,some (.int (M:Int)),none,none] h=.ok (.nx,[some t.d,some (.int (M:Int)),some (.ref h.length),none]) (h++[.lst [t.d]]):=by simp [sizeLine_eq]
 have x2:xs1 (P.tbl (n+7)) (.set (.nm 3) (.call (Ω "stepped") (.cons (.var 0) .nil))) [some t.d,some (.int (M:Int)),some (.ref h.length),none] (h++[.lst [t.d]])=.ok (.nx,[some t.d,some (.int (M:Int)),some (.ref h.length),some (ans t)]) (h++.lst (([]++[t]).map T.d)::g1):=by
   have:h++[DO.lst [t.d]]++g1=h++.lst (([]++[t]).map T.d)::g1:=by simp
   rw [this] at es
   simp [Pg.tbl]
   simp at es
   simp [es]
 have x3:xs1 (P.tbl (n+7)) (.whl rwc lp_row) [some t.d,some (.int (M:Int)),some (.ref h.length),some (ans t)] (h++.lst (([]++[t]).map T.d)::g1)=.ok (f,ρ) (h++.lst (([]++(row M t).1).map T.d)::g'):=e
 simp only [ΩB] at x2 x3
 show retOf (xs2 (P.tbl (n+7)) b_row_of [some t.d,some (.int (M:Int)),none,none] h)=_
 rw [row_is,xs2_nx x1,xs2_nx x2]
 rcases q with rfl|⟨rfl,rfl⟩
 · rw [xs2_rt x3]
   rfl
 · have x4:xs1 (P.tbl (n+7)) (.ret (.tupl (.cons (.var 2) (.cons (.ix (.var 3) (.cst (.int 0))) .nil)))) [some t.d,some (.int (M:Int)),some (.ref h.length),some (.tup [.str (row M t).2])] (h++.lst ((row M t).1.map T.d)::g')=.ok (.rt (.tup [.ref h.length,.str (row M t).2]),[some t.d,some (.int (M:Int)),some (.ref h.length),some (.tup [.str (row M t).2])]) (h++.lst ((row M t).1.map T.d)::g'):=by simp [sizeLine_eq]
   rw [xs2_nx x3,xs2_rt x4]
   rfl
end Tm
end
section
namespace Pn
open PySem L2 IV
noncomputable def b_thing_of:Sxs:=(.cons (.iff (.ex (.cmp .Eq (.ix (.var 0) (.cst (.int 0))) (.cst (.str (Ω "num"))))) (.cons (.ret (.var 0)) .nil) .nil) (.cons (.iff (.ex (.cmp .Eq (.ix (.var 0) (.cst (.int 0))) (.cst (.str (Ω "name"))))) (.cons (.ret (.call (Ω "bound_to") (.cons (.ix (.var 0) (.cst (.int 1))) (.cons (.var 1) .nil)))) .nil) .nil) (.cons (.ret (.tupl (.cons (.cst (.str (Ω "clo"))) (.cons (.var 0) (.cons (.var 1) .nil))))) .nil)))
noncomputable def f_thing_of:Fd:=⟨[(Ω "E"),(Ω "around")],[(Ω "E"),(Ω "around")],b_thing_of⟩
noncomputable def b_law_1:Sx:=(.set (.nm 1) (.call (Ω "_law_program") (.cons (.var 0) (.cons (.cst (.int 1)) .nil))))
noncomputable def b_law_2:Sx:=(.set (.nm 2) (.bin .Mod (.call (Ω "_law_mixed") (.cons (.call (Ω "_law_cell_at") (.cons (.var 0) (.cons (.cst (.int 0)) .nil))) (.cons (.cst (.int 1)) .nil))) (.cst (.int 25))))
noncomputable def b_law_3:Sx:=(.set (.two 3 4) (.call (Ω "row_of") (.cons (.var 1) (.cons (.var 2) .nil))))
noncomputable def b_law_4:Sx:=(.forr (.nm 5) (.pl (.var 3)) (.cons (.iff (.nt (.ex (.call (Ω "_law_holds") (.cons (.var 5) .nil)))) (.cons (.ret (.cst (.bl false))) .nil) .nil) .nil))
noncomputable def b_law_5:Sx:=(.ret (.cst (.bl true)))
noncomputable def b_law:Sxs:=(.cons b_law_1 (.cons b_law_2 (.cons b_law_3 (.cons b_law_4 (.cons b_law_5 .nil)))))
noncomputable def f_law:Fd:=⟨[(Ω "_law_script")],[(Ω "_law_script"),(Ω "_law_program_here"),(Ω "_law_most"),(Ω "_law_terms"),(Ω "_law_word_of"),(Ω "_law_told")],b_law⟩
noncomputable def b_Pen_joined:Sxs:=(.cons (.drp (.mcl (Ω "Pen") (Ω "take_place") (.var 0) .nil)) (.cons (.ret (.bin .Add (.var 1) (.var 2))) .nil))
noncomputable def f_Pen_joined:Fd:=⟨[(Ω "self"),(Ω "front"),(Ω "parts")],[(Ω "self"),(Ω "front"),(Ω "parts")],b_Pen_joined⟩
noncomputable def b_Pen_told:Sxs:=(.cons (.set (.nm 2) (.call (Ω "opened") (.cons (.var 1) .nil))) (.cons (.ret (.mcl (Ω "Pen") (Ω "filled") (.var 0) (.cons (.ix (.var 2) (.cst (.int 0))) (.cons (.ix (.var 2) (.cst (.int 1))) .nil)))) .nil))
noncomputable def f_Pen_told:Fd:=⟨[(Ω "self"),(Ω "thing")],[(Ω "self"),(Ω "thing"),(Ω "pair")],b_Pen_told⟩
structure Pen(P:Pg):Prop where
 t:Tm.Trw P
 m:Gn.Mkr P
 thing_of:P.tb.lookup (Ω "thing_of")=some f_thing_of
 law:P.tb.lookup (Ω "law")=some f_law
 n_Pen_joined:P.tb.lookup (mnm (Ω "Pen") (Ω "joined"))=none
 Pen_joined:P.ms.lookup (mnm (Ω "Pen") (Ω "joined"))=some f_Pen_joined
 n_Pen_told:P.tb.lookup (mnm (Ω "Pen") (Ω "told"))=none
 Pen_told:P.ms.lookup (mnm (Ω "Pen") (Ω "told"))=some f_Pen_told
 go:P.G (Ω "AT_ONCE")=some (.tup [.str (Ω "num"),.str (Ω "name"),.str (Ω "fn"),.str (Ω "rec")])
end Pn
end
section
namespace Pn
open PySem L2 IV Tm
variable {P:Pg}
theorem ev_pen {U:Tb}{ρ:Ev}{h h1:Hd}{m:Str}{o:Ex}{es:Exs}{pk:Nat}{mo:D}{u:Int}{xs:List D} (eo:ev U o ρ h=.ok (.ref pk) h) (hp:h[pk]? = some (penD mo u)) (hm:List.lookup m [(Ω "most",mo),(Ω "used",.int u)]=none) (ea:evs U es ρ h=.ok xs h1):ev U (.mcl (Ω "Pen") m o es) ρ h=U.C (mnm (Ω "Pen") m) (.ref pk::xs) h1:=by
 have io:insOf (.ref pk) h=some (Ω "Pen",[(Ω "most",mo),(Ω "used",.int u)]):=by simp [insOf,hp,penD]
 rw [ev_mcl,eo,bnd_ok]
 simp only [io,hm,and_self,if_true,ea,bnd_ok]
theorem Aft.pen{h0 h:Hd}{pk:Nat}{mo:D}{u:Int}(a:Aft h0 h pk mo u)(v:Int):Aft h0 (h.set pk (penD mo v)) pk mo v :=
 ⟨by rw [Ωl (lt_at a.1)],by simpa using a.2.1,fun i hi hn=>by rw [Ωc (Ne.symm hn)];exact a.2.2 i hi hn⟩
theorem Aft.grown{h0 h:Hd}{pk:Nat}{mo:D}{u:Int}(a:Aft h0 h pk mo u)(ho:h0.length≤pk):∃ g,h=h0++g:=Tm.grown a.2.1 (fun i hi=>a.2.2 i hi (by omega))
section
variable {h0 h:Hd}{pk:Nat}{mo:D}{u:Int}
theorem r_fill0 (H:Pen P) (n:Nat) (t:T) (a:Aft h0 h pk mo u) (lm:Lim mo (u+(t.size:Int))) (hz:t.size≤1000):∃ h',run P (n+3) (mnm (Ω "Pen") (Ω "filled")) [.ref pk,t.d,.tup []] h=.ok t.d h'∧Aft h0 h' pk mo (u+(t.size:Int)):=by
 have e:=sub_nn t (ar:=[]) (fun x=>rfl)
 have q:=r_filled H.t.toTrm n t [] a (by rw [e];exact lm) ⟨by simp only [List.length_nil];omega,fun x V z=>by cases z⟩ (by rw [e];omega)
 rw [e] at q
 exact q
theorem r_joined (H:Pen P) (n:Nat) (fs ps:List D) (a:Aft h0 h pk mo u) (lm:Lim mo (u+1)) (hz:fs.length+ps.length≤1000):run P (n+2) (mnm (Ω "Pen") (Ω "joined")) [.ref pk,.tup fs,.tup ps] h=.ok (.tup (fs++ps)) (h.set pk (penD mo (u+1))):=by
 rw [run_mt H.n_Pen_joined H.Pen_joined (by rfl)]
 have e:=r_take H.t.toTrm n lm a.1
 have x1:xs1 (P.tbl (n+1)) (.drp (.mcl (Ω "Pen") (Ω "take_place") (.var 0) .nil)) [some (.ref pk),some (.tup fs),some (.tup ps)] h=.ok (.nx,[some (.ref pk),some (.tup fs),some (.tup ps)]) (h.set pk (penD mo (u+1))):=by
   rw [xs1_drp,ev_pen rfl a.1 rfl rfl]
   show R.bnd (run P (n+1) (mnm (Ω "Pen") (Ω "take_place")) [.ref pk] h) _=_
   rw [e]
   rfl
 have x2:∀ h,xs1 (P.tbl (n+1)) (.ret (.bin .Add (.var 1) (.var 2))) [some (.ref pk),some (.tup fs),some (.tup ps)] h=.ok (.rt (.tup (fs++ps)),[some (.ref pk),some (.tup fs),some (.tup ps)]) h:=fun h=>ret_e ((ev_bin2 rfl rfl).trans (opB_tup (by rw [sizeLine_eq];omega)))
 show retOf (xs2 (P.tbl (n+1)) b_Pen_joined [some (.ref pk),some (.tup fs),some (.tup ps)] h)=_
 rw [b_Pen_joined,xs2_nx x1,xs2_rt (x2 _)]
 rfl
theorem ev_fill (H:Pen P) (n:Nat) (t:T) {ρ:Ev}{o a b:Ex} (eo:ev (P.tbl (n+3)) o ρ h=.ok (.ref pk) h) (ea:ev (P.tbl (n+3)) a ρ h=.ok t.d h) (eb:ev (P.tbl (n+3)) b ρ h=.ok (.tup []) h) (f:Aft h0 h pk mo u) (lm:Lim mo (u+(t.size:Int))) (hz:t.size≤1000):∃ h',ev (P.tbl (n+3)) (.mcl (Ω "Pen") (Ω "filled") o (.cons a (.cons b .nil))) ρ h=.ok t.d h'∧Aft h0 h' pk mo (u+(t.size:Int)):=by
 obtain ⟨h',e,f'⟩:=r_fill0 H n t f lm hz
 refine ⟨h',(ev_pen eo f.1 rfl ?_).trans e,f'⟩
 simp only [evs_cons,evs_nil,ea,eb,bnd_ok]
theorem tup2{U:Tb}{ρ:Ev}{a b:Ex}{x y:D}{h1 h2:Hd}(p:ev U a ρ h=.ok x h1)(q:ev U b ρ h1=.ok y h2):ev U (.tupl (.cons a (.cons b .nil))) ρ h=.ok (.tup [x,y]) h2:=by
 simp only [ev_tupl,evs_cons,evs_nil,p,q,bnd_ok]
 rfl
theorem tup3{U:Tb}{ρ:Ev}{a b c:Ex}{x y z:D}{h1 h2 h3:Hd}(p:ev U a ρ h=.ok x h1)(q:ev U b ρ h1=.ok y h2)(r:ev U c ρ h2=.ok z h3):ev U (.tupl (.cons a (.cons b (.cons c .nil)))) ρ h=.ok (.tup [x,y,z]) h3:=by
 simp only [ev_tupl,evs_cons,evs_nil,p,q,r,bnd_ok]
 rfl
end
section
variable {U:Tb}{ρ:Ev}{h h1 h2 h3:Hd}
theorem or2_f{a b:Tx}(p:tst U a ρ h=.ok false h1)(q:tst U b ρ h1=.ok false h2):tst U (.ors (.cons a (.one b))) ρ h=.ok false h2:=by
 rw [tst_ors,tstOr_cons,p]
 exact q
theorem or3_f{a b c:Tx}(p:tst U a ρ h=.ok false h1)(q:tst U b ρ h1=.ok false h2)(r:tst U c ρ h2=.ok false h3):tst U (.ors (.cons a (.cons b (.one c)))) ρ h=.ok false h3:=by
 rw [tst_ors,tstOr_cons,p]
 show tstOr U (.cons b (.one c)) ρ h1=_
 rw [tstOr_cons,q]
 exact r
theorem ne_f{a b:Ex}{x:D}(p:ev U a ρ h=.ok x h1)(q:ev U b ρ h1=.ok x h2)(s:IV.opEq true x x h2=.ok (.bl (!true)) h2):tst U (.ex (.cmp .NotEq a b)) ρ h=.ok false h2:=ex_b (b:=false) ((ev_cmp2' p q).trans s)
theorem eq_t{a b:Ex}{x:D}(p:ev U a ρ h=.ok x h1)(q:ev U b ρ h1=.ok x h2)(s:IV.opEq false x x h2=.ok (.bl (!false)) h2):ev U (.cmp .Eq a b) ρ h=.ok (.bl true) h2:=(ev_cmp2' p q).trans s
theorem and2_t{a b:Ex}(p:ev U a ρ h=.ok (.bl true) h1)(q:ev U b ρ h1=.ok (.bl true) h2):ev U (.ands (.cons a (.cons b .nil))) ρ h=.ok (.bl true) h2:=by
 rw [ev_ands,evAnd_two,p]
 exact q
end
theorem at_once {GD:Str→Option (List (Key×D))}{h:Hd}{x:Str}:opC GD .In (.str x) (.tup [.str (Ω "num"),.str (Ω "name"),.str (Ω "fn"),.str (Ω "rec")]) h=.ok (.bl (decide (x∈[Ω "num",Ω "name",Ω "fn",Ω "rec"]))) h :=
 opC_in_words (ss:=[Ω "num",Ω "name",Ω "fn",Ω "rec"])
noncomputable def thg:T→D
 | .num z=>T.d (.num z)
 | t=>thd t
theorem r_open (H:Pen P) (n:Nat) (t:T) (h:Hd):run P (n+1) (Ω "opened") [thg t] h=.ok (.tup [t.d,.tup []]) h:=by
 cases t with
 | num z =>
   rw [run_def H.t.opened (by rfl)]
   exact rfl
 | _=>exact r_opened H.t.toTrm n _
theorem r_thing (H:Pen P) (n:Nat) (t:T) (v:isV t=true) (h:Hd):run P (n+1) (Ω "thing_of") [t.d,.tup []] h=.ok (thg t) h:=by
 rw [run_def H.thing_of (by rfl)]
 cases t with
 | num z=>exact rfl
 | fn x e=>exact rfl
 | rcc f x e=>exact rfl
 | _=>cases v
theorem r_told (H:Pen P) (n:Nat) (t:T) {h0 h:Hd}{pk:Nat}{mo:D}{u:Int} (a:Aft h0 h pk mo u) (lm:Lim mo (u+(t.size:Int))) (hz:t.size≤1000):∃ h',run P (n+4) (mnm (Ω "Pen") (Ω "told")) [.ref pk,thg t] h=.ok t.d h'∧Aft h0 h' pk mo (u+(t.size:Int)):=by
 obtain ⟨h',e,a'⟩:=r_fill0 H n t a lm hz
 refine ⟨h',?_,a'⟩
 rw [run_mt H.n_Pen_told H.Pen_told (by rfl)]
 have x1:xs1 (P.tbl (n+3)) (.set (.nm 2) (.call (Ω "opened") (.cons (.var 1) .nil))) [some (.ref pk),some (thg t),none] h=.ok (.nx,[some (.ref pk),some (thg t),some (.tup [t.d,.tup []])]) h:=by_call (r_open H (n+2) t h) rfl rfl
 have x2:xs1 (P.tbl (n+3)) (.ret (.mcl (Ω "Pen") (Ω "filled") (.var 0) (.cons (.ix (.var 2) (.cst (.int 0))) (.cons (.ix (.var 2) (.cst (.int 1))) .nil)))) [some (.ref pk),some (thg t),some (.tup [t.d,.tup []])] h=.ok (.rt t.d,[some (.ref pk),some (thg t),some (.tup [t.d,.tup []])]) h':=ret_e ((ev_pen rfl a.1 rfl rfl).trans e)
 show retOf (xs2 (P.tbl (n+3)) b_Pen_told [some (.ref pk),some (thg t),none] h)=_
 rw [b_Pen_told,xs2_nx x1,xs2_rt x2]
 rfl
theorem row_cl:∀ (m:Nat) (t:T),Gn.Cl [] t→t.size≤120→(∀ s∈(row m t).1,Gn.Cl [] s∧s.size≤120)∧(row m t).1.length≤m+1
 | 0,t,c,hz=>⟨fun s hs=>by rw [Ωx.mp hs];exact ⟨c,hz⟩,by simp [row]⟩
 | m+1,t,c,hz=>by
   have one:(∀ s∈[t],Gn.Cl [] s∧s.size≤120)∧[t].length≤m+1+1:=⟨fun s hs=>by rw [Ωx.mp hs];exact ⟨c,hz⟩,by simp⟩
   rw [row]
   split
   · exact one
   · rename_i nv
     cases hn:next t with
     | none=>exact one
     | some u =>
       simp only
       split
       · exact one
       · obtain ⟨cu,_,_⟩:=next_ok (by simpa using nv) c hz hn
         obtain ⟨i1,i2⟩:=row_cl m u cu (by omega)
         refine ⟨fun s hs=>?_,by simp only [Ωs];omega⟩
         rcases Ωr.mp hs with rfl|hs
         · exact ⟨c,hz⟩
         · exact i1 s hs
theorem r_cell (H:Pen P) (n:Nat) (zs:List Int) {h:Hd}:∃ v,run P (n+1) (Ω "_law_cell_at") [.ro (zs.map .int),.int 0] h=.ok (.int v) h:=by
 rw [run_def H.m.cell rfl]
 cases zs with
 | nil=>exact ⟨0,by simp [Gn.f_law_cell_at,Gn.b_law_cell_at,startD,bltD,bLen,seqOf,lstOf]⟩
 | cons z zs =>
   refine ⟨z,?_⟩
   have:(0:Int)<(zs.length:Int)+1:=by omega
   simp [Gn.f_law_cell_at,Gn.b_law_cell_at,startD,bltD,bLen,seqOf,lstOf,this]
noncomputable def lp_law:Sxs:=(.cons (.iff (.nt (.ex (.call (Ω "_law_holds") (.cons (.var 5) .nil)))) (.cons (.ret (.cst (.bl false))) .nil) .nil) .nil)
theorem l_law {k:Nat}{all:List T} (hh:∀ t,Gn.Cl [] t→t.size≤120→∀ h,∃ g,run P 250 (Ω "_law_holds") [t.d] h=.ok (.bl true) (h++g)) {o0 o1 o2 o3 o4:Option D}:∀ (ts:List T) (h:Hd) (o5:Option D),(∀ t∈ts,Gn.Cl [] t∧t.size≤120)→h[k]? = some (.lst (all.map T.d)) →
   ∃ g o5',forL (some (k,all.map T.d)) (.nm 5) (xs2 (P.tbl 250) lp_law) (ts.map T.d) [o0,o1,o2,o3,o4,o5] h=.ok (.nx,[o0,o1,o2,o3,o4,o5']) (h++g)
 | [],h,o5,_,hk=>⟨[],o5,by rw [List.append_nil];exact forL_end hk⟩
 | t::ts,h,o5,ht,hk=>by
   obtain ⟨ct,st⟩:=ht t (by simp)
   obtain ⟨g1,e1⟩:=hh t ct st h
   obtain ⟨g2,o5',e2⟩:=l_law hh ts (h++g1) (some t.d) (fun x hx=>ht x (by simp [hx])) (keep hk)
   refine ⟨g1++g2,o5',?_⟩
   have x:xs2 (P.tbl 250) lp_law [o0,o1,o2,o3,o4,some t.d] h=.ok (.nx,[o0,o1,o2,o3,o4,some t.d]) (h++g1):=xs2_nx (by_call (h1:=h) e1 rfl rfl)
   rw [Ωp,forL_src hk rfl x,e2,Ωz]
theorem r_law (H:Pen P) (hh:∀ t,Gn.Cl [] t→t.size≤120→∀ h,∃ g,run P 250 (Ω "_law_holds") [t.d] h=.ok (.bl true) (h++g)) (zs:List Int) (hz:zs.length≤63):∃ h',run P (250+1) (Ω "law") [.ro (zs.map .int)] []=.ok (.bl true) h':=by
 obtain ⟨t,h1,e1,ct,st,dt,_,_⟩:=Gn.r_program H.m (N:=249) (by omega) zs 1 [] (by omega)
 obtain ⟨v,e2⟩:=r_cell H 249 (h:=h1) zs
 have e3:=Gn.r_mixed H.m 249 v 1 h1 (by decide)
 have m1:∀ z h,opB .Mod (.int z) (.int 25) h=.ok (.int (z % 25)) h:=fun z h=>opB_mod (by decide)
 obtain ⟨M,hM⟩:∃ M:Nat,Gn.mixed v 1 % 25=(M:Int):=⟨(Gn.mixed v 1 % 25).toNat,by have:=Int.emod_nonneg (Gn.mixed v 1) (b:=25) (by decide);omega⟩
 have hM2:M≤25:=by have:=Int.emod_lt_of_pos (Gn.mixed v 1) (b:=25) (by decide);omega
 obtain ⟨g1,e4⟩:=r_row H.t 242 t M (by omega) ct (by omega) h1
 obtain ⟨rc,rl⟩:=row_cl M t ct (by omega)
 generalize (row M t).2=w at *
 generalize (row M t).1=ts at *
 generalize hh2:h1++DO.lst (ts.map T.d)::g1=h2 at *
 have k2:h2[h1.length]? = some (.lst (ts.map T.d)):=by rw [← hh2];simp
 generalize h1.length=rk at *
 have x1:xs1 (P.tbl 250) b_law_1 [some (.ro (zs.map .int)),none,none,none,none,none] []=.ok (.nx,[some (.ro (zs.map .int)),some t.d,none,none,none,none]) h1:=by
   generalize D.ro (zs.map .int)=ro at *
   exact by_call e1 rfl rfl
 have x2:xs1 (P.tbl 250) b_law_2 [some (.ro (zs.map .int)),some t.d,none,none,none,none] h1=.ok (.nx,[some (.ro (zs.map .int)),some t.d,some (.int (M:Int)),none,none,none]) h1:=by
   generalize D.ro (zs.map .int)=ro at *
   simp [b_law_2,Pg.tbl,e2,e3,m1,hM]
 generalize D.ro (zs.map .int)=ro at *
 have x3:xs1 (P.tbl 250) b_law_3 [some ro,some t.d,some (.int (M:Int)),none,none,none] h1=.ok (.nx,[some ro,some t.d,some (.int (M:Int)),some (.ref rk),some (.str w),none]) h2:=by_call e4 rfl rfl
 obtain ⟨g3,o5,e5⟩:=l_law hh (k:=rk) (all:=ts) (o0:=some ro) (o1:=some t.d) (o2:=some (.int (M:Int))) (o3:=some (.ref rk)) (o4:=some (.str w)) ts h2 none rc k2
 have x4:xs1 (P.tbl 250) b_law_4 [some ro,some t.d,some (.int (M:Int)),some (.ref rk),some (.str w),none] h2=.ok (.nx,[some ro,some t.d,some (.int (M:Int)),some (.ref rk),some (.str w),o5]) (h2++g3):=by
   have ei:evi (P.tbl 250) (.pl (.var 3)) [some ro,some t.d,some (.int (M:Int)),some (.ref rk),some (.str w),none] h2=.ok ⟨some (rk,ts.map T.d),ts.map T.d⟩ h2:=by
     rw [evi_pl]
     show R.ofO (walkOf (.ref rk) h2) h2=_
     simp [walkOf,k2]
   exact (forr_i ei).trans e5
 rw [run_def H.law (by rfl)]
 exact ⟨_,by
   show retOf (xs2 (P.tbl 250) (.cons b_law_1 (.cons b_law_2 (.cons b_law_3 (.cons b_law_4 (.cons b_law_5 .nil))))) [some ro,none,none,none,none,none] [])=.ok (.bl true) (h2++g3)
   rw [xs2_nx x1,xs2_nx x2,xs2_nx x3,xs2_nx x4]
   rfl⟩
end Pn
end
section
namespace K31L
open PySem L2 IV
noncomputable def b_dump_begun:Sxs:=(.cons (.ret (.tupl (.cons (.tupl .nil) (.cons (.tupl .nil) (.cons (.tupl (.cons (.var 0) .nil)) (.cons (.tupl .nil) .nil)))))) .nil)
noncomputable def f_dump_begun:Fd:=⟨[(Ω "E")],[(Ω "E")],b_dump_begun⟩
noncomputable def b_taken_apart:Sxs:=(.cons (.iff (.ex (.cmp .Eq (.ix (.var 0) (.cst (.int 0))) (.cst (.str (Ω "call"))))) (.cons (.ret (.tupl (.cons (.ix (.var 0) (.cst (.int 1))) (.cons (.ix (.var 0) (.cst (.int 2))) (.cons (.tupl (.cons (.cst (.str (Ω "apply"))) .nil)) .nil))))) .nil) .nil) (.cons (.iff (.ex (.cmp .Eq (.ix (.var 0) (.cst (.int 0))) (.cst (.str (Ω "if"))))) (.cons (.ret (.tupl (.cons (.ix (.var 0) (.cst (.int 1))) (.cons (.tupl (.cons (.cst (.str (Ω "choose"))) (.cons (.ix (.var 0) (.cst (.int 2))) (.cons (.ix (.var 0) (.cst (.int 3))) .nil)))) .nil)))) .nil) .nil) (.cons (.ret (.tupl (.cons (.ix (.var 0) (.cst (.int 1))) (.cons (.ix (.var 0) (.cst (.int 2))) (.cons (.tupl (.cons (.cst (.str (Ω "work"))) (.cons (.ix (.var 0) (.cst (.int 0))) .nil))) .nil))))) .nil)))
noncomputable def f_taken_apart:Fd:=⟨[(Ω "E")],[(Ω "E")],b_taken_apart⟩
noncomputable def b_quiet_state_1:Sx:=(.set (.nm 1) (.ix (.ix (.var 0) (.cst (.int 2))) (.cst (.int 0))))
noncomputable def b_quiet_state_2:Sx:=(.set (.nm 2) (.sl (.ix (.var 0) (.cst (.int 2))) (some (.cst (.int 1))) none))
noncomputable def b_quiet_state_3:Sx:=(.iff (.ex (.cmp .In (.ix (.var 1) (.cst (.int 0))) (.glo (Ω "AT_ONCE")))) (.cons (.ret (.tupl (.cons (.bin .Add (.ix (.var 0) (.cst (.int 0))) (.tupl (.cons (.call (Ω "thing_of") (.cons (.var 1) (.cons (.ix (.var 0) (.cst (.int 1))) .nil))) .nil))) (.cons (.ix (.var 0) (.cst (.int 1))) (.cons (.var 2) (.cons (.ix (.var 0) (.cst (.int 3))) .nil)))))) .nil) .nil)
noncomputable def b_quiet_state_4:Sx:=(.ret (.tupl (.cons (.ix (.var 0) (.cst (.int 0))) (.cons (.ix (.var 0) (.cst (.int 1))) (.cons (.bin .Add (.call (Ω "taken_apart") (.cons (.var 1) .nil)) (.var 2)) (.cons (.ix (.var 0) (.cst (.int 3))) .nil))))))
noncomputable def b_quiet_state:Sxs:=(.cons b_quiet_state_1 (.cons b_quiet_state_2 (.cons b_quiet_state_3 (.cons b_quiet_state_4 .nil))))
noncomputable def f_quiet_state:Fd:=⟨[(Ω "state")],[(Ω "state"),(Ω "E"),(Ω "todo")],b_quiet_state⟩
noncomputable def b_dump_step_1:Sx:=(.set (.nm 1) (.ix (.var 0) (.cst (.int 2))))
noncomputable def b_dump_step_2:Sx:=(.iff (.nt (.ex (.var 1))) (.cons (.ret (.call (Ω "taken_off") (.cons (.ix (.var 0) (.cst (.int 0))) (.cons (.ix (.var 0) (.cst (.int 3))) .nil)))) .nil) .nil)
noncomputable def b_dump_step_3:Sx:=(.iff (.ex (.cmp .In (.ix (.ix (.var 1) (.cst (.int 0))) (.cst (.int 0))) (.glo (Ω "ORDERS")))) (.cons (.ret (.call (Ω "loud_step") (.cons (.ix (.var 1) (.cst (.int 0))) (.cons (.ix (.var 0) (.cst (.int 0))) (.cons (.ix (.var 0) (.cst (.int 1))) (.cons (.sl (.var 1) (some (.cst (.int 1))) none) (.cons (.ix (.var 0) (.cst (.int 3))) .nil))))))) .nil) .nil)
noncomputable def b_dump_step_4:Sx:=(.ret (.tupl (.cons (.cst (.str (Ω "quiet"))) (.cons (.call (Ω "quiet_state") (.cons (.var 0) .nil)) .nil))))
noncomputable def b_dump_step:Sxs:=(.cons b_dump_step_1 (.cons b_dump_step_2 (.cons b_dump_step_3 (.cons b_dump_step_4 .nil))))
noncomputable def f_dump_step:Fd:=⟨[(Ω "state")],[(Ω "state"),(Ω "todo")],b_dump_step⟩
noncomputable def b_do_order_1:Sx:=(.set (.nm 4) (.meth .pop (.var 2) .nil))
noncomputable def b_do_order_2:Sx:=(.iff (.ex (.cmp .Eq (.ix (.var 1) (.cst (.int 0))) (.cst (.str (Ω "choose"))))) (.cons (.drp (.meth .app (.var 2) (.cons (.mcl (Ω "Pen") (Ω "joined") (.var 0) (.cons (.tupl (.cons (.cst (.str (Ω "if"))) .nil)) (.cons (.tupl (.cons (.var 4) (.cons (.mcl (Ω "Pen") (Ω "filled") (.var 0) (.cons (.ix (.var 1) (.cst (.int 1))) (.cons (.var 3) .nil))) (.cons (.mcl (Ω "Pen") (Ω "filled") (.var 0) (.cons (.ix (.var 1) (.cst (.int 2))) (.cons (.var 3) .nil))) .nil)))) .nil))) .nil))) .nil) (.cons (.iff (.ex (.cmp .Eq (.ix (.var 1) (.cst (.int 0))) (.cst (.str (Ω "apply"))))) (.cons (.drp (.meth .app (.var 2) (.cons (.mcl (Ω "Pen") (Ω "joined") (.var 0) (.cons (.tupl (.cons (.cst (.str (Ω "call"))) .nil)) (.cons (.tupl (.cons (.meth .pop (.var 2) .nil) (.cons (.var 4) .nil))) .nil))) .nil))) .nil) (.cons (.drp (.meth .app (.var 2) (.cons (.mcl (Ω "Pen") (Ω "joined") (.var 0) (.cons (.tupl (.cons (.ix (.var 1) (.cst (.int 1))) .nil)) (.cons (.tupl (.cons (.meth .pop (.var 2) .nil) (.cons (.var 4) .nil))) .nil))) .nil))) .nil)) .nil))
noncomputable def b_do_order:Sxs:=(.cons b_do_order_1 (.cons b_do_order_2 .nil))
noncomputable def f_do_order:Fd:=⟨[(Ω "pen"),(Ω "order"),(Ω "done"),(Ω "around")],[(Ω "pen"),(Ω "order"),(Ω "done"),(Ω "around"),(Ω "last")],b_do_order⟩
noncomputable def b_level_read_1:Sx:=(.set (.nm 3) (.bin .Add (.comp [(Ω "thing"),(Ω "pen")] [none,some 0] (.pl (.ix (.var 1) (.cst (.int 0)))) (.nm 0) none (.mcl (Ω "Pen") (Ω "told") (.var 1) (.cons (.var 0) .nil))) (.var 2)))
noncomputable def b_level_read_2:Sx:=(.forr (.nm 4) (.pl (.ix (.var 1) (.cst (.int 2)))) (.cons (.iff (.ex (.cmp .In (.ix (.var 4) (.cst (.int 0))) (.glo (Ω "ORDERS")))) (.cons (.drp (.call (Ω "do_order") (.cons (.var 0) (.cons (.var 4) (.cons (.var 3) (.cons (.ix (.var 1) (.cst (.int 1))) .nil)))))) .nil) (.cons (.drp (.meth .app (.var 3) (.cons (.mcl (Ω "Pen") (Ω "filled") (.var 0) (.cons (.var 4) (.cons (.ix (.var 1) (.cst (.int 1))) .nil))) .nil))) .nil)) .nil))
noncomputable def b_level_read_3:Sx:=(.ret (.var 3))
noncomputable def b_level_read:Sxs:=(.cons b_level_read_1 (.cons b_level_read_2 (.cons b_level_read_3 .nil)))
noncomputable def f_level_read:Fd:=⟨[(Ω "pen"),(Ω "level"),(Ω "above")],[(Ω "pen"),(Ω "level"),(Ω "above"),(Ω "done"),(Ω "item")],b_level_read⟩
noncomputable def b_dump_read_1:Sx:=(.set (.nm 1) (.mk (Ω "Pen") (.cons (.glo (Ω "WIDEST")) .nil)))
noncomputable def b_dump_read_2:Sx:=(.set (.nm 2) (.call (Ω "level_read") (.cons (.var 1) (.cons (.var 0) (.cons (.lstl .nil) .nil)))))
noncomputable def b_dump_read_3:Sx:=(.forr (.nm 3) (.pl (.ix (.var 0) (.cst (.int 3)))) (.cons (.set (.nm 2) (.call (Ω "level_read") (.cons (.var 1) (.cons (.var 3) (.cons (.var 2) .nil))))) .nil))
noncomputable def b_dump_read_4:Sx:=(.ret (.ix (.var 2) (.cst (.int 0))))
noncomputable def b_dump_read:Sxs:=(.cons b_dump_read_1 (.cons b_dump_read_2 (.cons b_dump_read_3 (.cons b_dump_read_4 .nil))))
noncomputable def f_dump_read:Fd:=⟨[(Ω "state")],[(Ω "state"),(Ω "pen"),(Ω "done"),(Ω "level")],b_dump_read⟩
noncomputable def b_measure_of:Sxs:=(.cons (.ret (.bin .Mult (.cst (.int 2)) (.blt .sum (.cons (.comp [(Ω "item")] [none] (.pl (.var 0)) (.nm 0) (some (.ex (.cmp .NotIn (.ix (.var 0) (.cst (.int 0))) (.glo (Ω "ORDERS"))))) (.blt .len (.cons (.call (Ω "places") (.cons (.var 0) .nil)) .nil))) .nil)))) .nil)
noncomputable def f_measure_of:Fd:=⟨[(Ω "todo")],[(Ω "todo")],b_measure_of⟩
noncomputable def b_dump_left_1:Sx:=(.ret (.bin .Add (.call (Ω "measure_of") (.cons (.ix (.var 0) (.cst (.int 2))) .nil)) (.blt .sum (.cons (.comp [(Ω "level")] [none] (.pl (.ix (.var 0) (.cst (.int 3)))) (.nm 0) none (.bin .Add (.call (Ω "measure_of") (.cons (.ix (.var 0) (.cst (.int 2))) .nil)) (.cst (.int 1)))) .nil))))
noncomputable def b_dump_left:Sxs:=(.cons b_dump_left_1 .nil)
noncomputable def f_dump_left:Fd:=⟨[(Ω "state")],[(Ω "state")],b_dump_left⟩
noncomputable def b_law_first:Sxs:=(.cons (.set (.nm 1) (.ix (.var 0) (.cst (.int 0)))) (.cons (.iff (.ex (.cmp .Eq (.var 1) (.cst (.str (Ω "num"))))) (.cons (.ret (.tupl (.cons (.tupl (.cons (.var 0) .nil)) (.cons (.tupl .nil) (.cons (.tupl .nil) (.cons (.tupl .nil) .nil)))))) .nil) .nil) (.cons (.iff (.ors (.cons (.ex (.cmp .Eq (.var 1) (.cst (.str (Ω "fn"))))) (.one (.ex (.cmp .Eq (.var 1) (.cst (.str (Ω "rec")))))))) (.cons (.ret (.tupl (.cons (.tupl (.cons (.tupl (.cons (.cst (.str (Ω "clo"))) (.cons (.var 0) (.cons (.tupl .nil) .nil)))) .nil)) (.cons (.tupl .nil) (.cons (.tupl .nil) (.cons (.tupl .nil) .nil)))))) .nil) .nil) (.cons (.iff (.ex (.cmp .Eq (.var 1) (.cst (.str (Ω "call"))))) (.cons (.ret (.tupl (.cons (.tupl .nil) (.cons (.tupl .nil) (.cons (.tupl (.cons (.ix (.var 0) (.cst (.int 1))) (.cons (.ix (.var 0) (.cst (.int 2))) (.cons (.tupl (.cons (.cst (.str (Ω "apply"))) .nil)) .nil)))) (.cons (.tupl .nil) .nil)))))) .nil) .nil) (.cons (.iff (.ex (.cmp .Eq (.var 1) (.cst (.str (Ω "if"))))) (.cons (.ret (.tupl (.cons (.tupl .nil) (.cons (.tupl .nil) (.cons (.tupl (.cons (.ix (.var 0) (.cst (.int 1))) (.cons (.tupl (.cons (.cst (.str (Ω "choose"))) (.cons (.ix (.var 0) (.cst (.int 2))) (.cons (.ix (.var 0) (.cst (.int 3))) .nil)))) .nil))) (.cons (.tupl .nil) .nil)))))) .nil) .nil) (.cons (.ret (.tupl (.cons (.tupl .nil) (.cons (.tupl .nil) (.cons (.tupl (.cons (.ix (.var 0) (.cst (.int 1))) (.cons (.ix (.var 0) (.cst (.int 2))) (.cons (.tupl (.cons (.cst (.str (Ω "work"))) (.cons (.var 1) .nil))) .nil)))) (.cons (.tupl .nil) .nil)))))) .nil))))))
noncomputable def f_law_first:Fd:=⟨[(Ω "_law_told")],[(Ω "_law_told"),(Ω "_law_word")],b_law_first⟩
noncomputable def b_law_holds_1:Sx:=(.set (.nm 1) (.call (Ω "dump_begun") (.cons (.var 0) .nil)))
noncomputable def b_law_holds_2:Sx:=(.set (.nm 2) (.call (Ω "dump_left") (.cons (.var 1) .nil)))
noncomputable def b_law_holds_3:Sx:=(.iff (.ors (.cons (.ex (.cmp .NotEq (.var 1) (.tupl (.cons (.tupl .nil) (.cons (.tupl .nil) (.cons (.tupl (.cons (.var 0) .nil)) (.cons (.tupl .nil) .nil))))))) (.one (.ex (.cmp .NotEq (.call (Ω "dump_read") (.cons (.var 1) .nil)) (.var 0)))))) (.cons (.ret (.cst (.bl false))) .nil) .nil)
noncomputable def b_law_holds_4:Sx:=(.iff (.ors (.cons (.nt (.ex (.blt .isi (.cons (.var 2) (.cons (.cst (.ty "int")) .nil))))) (.cons (.ex (.blt .isi (.cons (.var 2) (.cons (.cst (.ty "bool")) .nil)))) (.one (.ex (.cmp .NotEq (.var 2) (.bin .Mult (.cst (.int 2)) (.call (Ω "_law_width") (.cons (.var 0) .nil))))))))) (.cons (.ret (.cst (.bl false))) .nil) .nil)
noncomputable def b_law_holds_5:Sx:=(.set (.nm 3) (.call (Ω "dump_step") (.cons (.var 1) .nil)))
noncomputable def b_law_holds_6:Sx:=(.iff (.ors (.cons (.ex (.cmp .NotEq (.var 3) (.tupl (.cons (.cst (.str (Ω "quiet"))) (.cons (.call (Ω "_law_first") (.cons (.var 0) .nil)) .nil))))) (.one (.ex (.cmp .NotEq (.call (Ω "dump_read") (.cons (.ix (.var 3) (.cst (.int 1))) .nil)) (.var 0)))))) (.cons (.ret (.cst (.bl false))) .nil) .nil)
noncomputable def b_law_holds_7:Sx:=(.ret (.ands (.cons (.cmp .Eq (.call (Ω "dump_begun") (.cons (.var 0) .nil)) (.var 1)) (.cons (.cmp .Eq (.call (Ω "dump_step") (.cons (.var 1) .nil)) (.var 3)) .nil))))
noncomputable def b_law_holds:Sxs:=(.cons b_law_holds_1 (.cons b_law_holds_2 (.cons b_law_holds_3 (.cons b_law_holds_4 (.cons b_law_holds_5 (.cons b_law_holds_6 (.cons b_law_holds_7 .nil)))))))
noncomputable def f_law_holds:Fd:=⟨[(Ω "_law_told")],[(Ω "_law_told"),(Ω "_law_state"),(Ω "_law_left"),(Ω "_law_answer")],b_law_holds⟩
structure Lw(P:Pg):Prop extends Pn.Pen P where
 dump_begun:P.tb.lookup (Ω "dump_begun")=some f_dump_begun
 taken_apart:P.tb.lookup (Ω "taken_apart")=some f_taken_apart
 quiet_state:P.tb.lookup (Ω "quiet_state")=some f_quiet_state
 dump_step:P.tb.lookup (Ω "dump_step")=some f_dump_step
 do_order:P.tb.lookup (Ω "do_order")=some f_do_order
 level_read:P.tb.lookup (Ω "level_read")=some f_level_read
 dump_read:P.tb.lookup (Ω "dump_read")=some f_dump_read
 measure_of:P.tb.lookup (Ω "measure_of")=some f_measure_of
 dump_left:P.tb.lookup (Ω "dump_left")=some f_dump_left
 law_first:P.tb.lookup (Ω "_law_first")=some f_law_first
 law_holds:P.tb.lookup (Ω "_law_holds")=some f_law_holds
 gor:P.G (Ω "ORDERS")=some (.tup [.str (Ω "apply"),.str (Ω "work"),.str (Ω "choose")])
end K31L
end
section
namespace K31L
open PySem L2 IV Tm Pn
variable {P:Pg}
noncomputable def st0(t:T):D:=.tup [.tup [],.tup [],.tup [t.d],.tup []]
noncomputable def ap:T→List D
 | .call f a=>[f.d,a.d,.tup [.str (Ω "apply")]]
 | .iff c a b=>[c.d,.tup [.str (Ω "choose"),a.d,b.d]]
 | .op w a b=>[a.d,b.d,.tup [.str (Ω "work"),.str w.s]]
 | _=>[]
noncomputable def fst(t:T):D:=if isV t then .tup [.tup [thg t],.tup [],.tup [],.tup []] else .tup [.tup [],.tup [],.tup (ap t),.tup []]
theorem r_begun (H:Lw P) (n:Nat) (t:T) (h:Hd):run P (n+1) (Ω "dump_begun") [t.d] h=.ok (st0 t) h:=by
 rw [run_def H.dump_begun (by rfl)]
 exact rfl
theorem r_first (H:Lw P) (n:Nat) (t:T) (c:Gn.Cl [] t) (h:Hd):run P (n+1) (Ω "_law_first") [t.d] h=.ok (fst t) h:=by
 rw [run_def H.law_first (by rfl)]
 cases t with
 | name x=>cases c
 | op w a b=>cases w<;>exact rfl
 | _=>exact rfl
theorem r_apart (H:Lw P) (n:Nat) (t:T) (v:isV t=false) (c:Gn.Cl [] t) (h:Hd):run P (n+1) (Ω "taken_apart") [t.d] h=.ok (.tup (ap t)) h:=by
 rw [run_def H.taken_apart (by rfl)]
 cases t with
 | num z=>cases v
 | name x=>cases c
 | fn x e=>cases v
 | rcc f x e=>cases v
 | op w a b=>cases w<;>exact rfl
 | _=>exact rfl
noncomputable def hw:T→Str
 | .num _=>Ω "num"
 | .name _=>Ω "name"
 | .fn _ _=>Ω "fn"
 | .rcc _ _ _=>Ω "rec"
 | .call _ _=>Ω "call"
 | .iff _ _ _=>Ω "if"
 | .op w _ _=>w.s
theorem d_hw(t:T):∃ ds,t.d=.tup (.str (hw t)::ds):=by cases t<;>exact ⟨_,rfl⟩
theorem ix0{GD:Str→Option (List (Key×D))}(t:T)(h:Hd):opIx GD t.d (.int 0) h=.ok (.str (hw t)) h:=by
 obtain ⟨ds,e⟩:=d_hw t
 rw [e]
 simp
theorem ords {GD:Str→Option (List (Key×D))}{h:Hd}{x:Str}:opC GD .In (.str x) (.tup [.str (Ω "apply"),.str (Ω "work"),.str (Ω "choose")]) h=.ok (.bl (decide (x∈[Ω "apply",Ω "work",Ω "choose"]))) h :=
 opC_in_words (ss:=[Ω "apply",Ω "work",Ω "choose"])
theorem nords {GD:Str→Option (List (Key×D))}{h:Hd}{x:Str}:opC GD .NotIn (.str x) (.tup [.str (Ω "apply"),.str (Ω "work"),.str (Ω "choose")]) h=.ok (.bl (!decide (x∈[Ω "apply",Ω "work",Ω "choose"]))) h :=
 opC_notin_words (ss:=[Ω "apply",Ω "work",Ω "choose"])
theorem hw_no (t:T):decide (hw t∈[Ω "apply",Ω "work",Ω "choose"])=false:=by
 cases t with
 | op w a b=>cases w<;>rfl
 | _=>rfl
theorem hw_v (t:T) (c:Gn.Cl [] t):decide (hw t∈[Ω "num",Ω "name",Ω "fn",Ω "rec"])=isV t:=by
 cases t with
 | name x=>cases c
 | op w a b=>cases w<;>rfl
 | _=>rfl
theorem tst_ord (H:Lw P) (n:Nat) {ρ:Ev}{e:Ex}{h:Hd}{x:Str} (q:ev (P.tbl n) e ρ h=.ok (.str x) h):tst (P.tbl n) (.ex (.cmp .In e (.glo (Ω "ORDERS")))) ρ h=.ok (decide (x∈[Ω "apply",Ω "work",Ω "choose"])) h:=by
 have g:ev (P.tbl n) (.glo (Ω "ORDERS")) ρ h=.ok (.tup [.str (Ω "apply"),.str (Ω "work"),.str (Ω "choose")]) h:=by
   show R.ofO (P.G (Ω "ORDERS")) h=_
   rw [H.gor]
   rfl
 exact ex_b ((ev_cmp2' q g).trans ords)
theorem tup4{U:Tb}{ρ:Ev}{a b c d:Ex}{x y z w:D}{h h1 h2 h3 h4:Hd}(p:ev U a ρ h=.ok x h1)(q:ev U b ρ h1=.ok y h2)(r:ev U c ρ h2=.ok z h3)(s:ev U d ρ h3=.ok w h4):ev U (.tupl (.cons a (.cons b (.cons c (.cons d .nil))))) ρ h=.ok (.tup [x,y,z,w]) h4:=by
 simp only [ev_tupl,evs_cons,evs_nil,p,q,r,s,bnd_ok]
 rfl
theorem r_quiet (H:Lw P) (n:Nat) (t:T) (c:Gn.Cl [] t) (h:Hd):run P (n+2) (Ω "quiet_state") [st0 t] h=.ok (fst t) h:=by
 rw [run_def H.quiet_state (by rfl)]
 show retOf (xs2 (P.tbl (n+1)) (.cons b_quiet_state_1 (.cons b_quiet_state_2 (.cons b_quiet_state_3 (.cons b_quiet_state_4 .nil)))) [some (st0 t),none,none] h)=_
 have x1:xs1 (P.tbl (n+1)) b_quiet_state_1 [some (st0 t),none,none] h=.ok (.nx,[some (st0 t),some t.d,none]) h:=rfl
 have x2:xs1 (P.tbl (n+1)) b_quiet_state_2 [some (st0 t),some t.d,none] h=.ok (.nx,[some (st0 t),some t.d,some (.tup [])]) h:=rfl
 have te:tst (P.tbl (n+1)) (.ex (.cmp .In (.ix (.var 1) (.cst (.int 0))) (.glo (Ω "AT_ONCE")))) [some (st0 t),some t.d,some (.tup [])] h=.ok (isV t) h:=by
   have g:ev (P.tbl (n+1)) (.glo (Ω "AT_ONCE")) [some (st0 t),some t.d,some (.tup [])] h=.ok (.tup [.str (Ω "num"),.str (Ω "name"),.str (Ω "fn"),.str (Ω "rec")]) h:=by
     show R.ofO (P.G (Ω "AT_ONCE")) h=_
     rw [H.go]
     rfl
   have q:ev (P.tbl (n+1)) (.ix (.var 1) (.cst (.int 0))) [some (st0 t),some t.d,some (.tup [])] h=.ok (.str (hw t)) h:=ix0 t h
   exact ok_b (ex_b ((ev_cmp2' q g).trans at_once)) (hw_v t c)
 rw [xs2_nx x1,xs2_nx x2]
 cases v:isV t with
 | true =>
   rw [v] at te
   have x3:xs1 (P.tbl (n+1)) b_quiet_state_3 [some (st0 t),some t.d,some (.tup [])] h=.ok (.rt (.tup [.tup [thg t],.tup [],.tup [],.tup []]),[some (st0 t),some t.d,some (.tup [])]) h:=(iff_t te).trans (xs2_rt (ret_e (by_callE (r_thing H.toPen n t v h) rfl rfl)))
   rw [xs2_rt x3,fst,if_pos v]
   rfl
 | false =>
   rw [v] at te
   have x3:xs1 (P.tbl (n+1)) b_quiet_state_3 [some (st0 t),some t.d,some (.tup [])] h=.ok (.nx,[some (st0 t),some t.d,some (.tup [])]) h:=(iff_f te).trans rfl
   have e4:∀ l:List D,l.length≤10→run P (n+1) (Ω "taken_apart") [t.d] h=.ok (.tup l) h→xs1 (P.tbl (n+1)) b_quiet_state_4 [some (st0 t),some t.d,some (.tup [])] h=.ok (.rt (.tup [.tup [],.tup [],.tup l,.tup []]),[some (st0 t),some t.d,some (.tup [])]) h:=fun l hl e=>by
     have ez:=opB_tup (h:=h) (xs:=l) (ys:=[]) (by rw [sizeLine_eq];simp;omega)
     rw [List.append_nil] at ez
     have eb:ev (P.tbl (n+1)) (.bin .Add (.call (Ω "taken_apart") (.cons (.var 1) .nil)) (.var 2)) [some (st0 t),some t.d,some (.tup [])] h=.ok (.tup l) h:=(ev_bin2 (by_callE e rfl rfl) rfl).trans ez
     exact ret_e (tup4 (h1:=h) (h2:=h) (h4:=h) rfl rfl eb rfl)
   rw [xs2_nx x3,xs2_rt (e4 _ (by cases t<;>simp [ap]) (r_apart H n t v c h)),fst,if_neg (by rw [v];decide)]
   rfl
theorem r_step (H:Lw P) (n:Nat) (t:T) (c:Gn.Cl [] t) (h:Hd):run P (n+3) (Ω "dump_step") [st0 t] h=.ok (.tup [.str (Ω "quiet"),fst t]) h:=by
 rw [run_def H.dump_step (by rfl)]
 have e:=r_quiet H n t c h
 generalize fst t=d at *
 show retOf (xs2 (P.tbl (n+2)) (.cons b_dump_step_1 (.cons b_dump_step_2 (.cons b_dump_step_3 (.cons b_dump_step_4 .nil)))) [some (st0 t),none] h)=_
 have x1:xs1 (P.tbl (n+2)) b_dump_step_1 [some (st0 t),none] h=.ok (.nx,[some (st0 t),some (.tup [t.d])]) h:=rfl
 have x2:xs1 (P.tbl (n+2)) b_dump_step_2 [some (st0 t),some (.tup [t.d])] h=.ok (.nx,[some (st0 t),some (.tup [t.d])]) h:=rfl
 have te:=tst_ord H (n+2) (ρ:=[some (st0 t),some (.tup [t.d])]) (e:=.ix (.ix (.var 1) (.cst (.int 0))) (.cst (.int 0))) (ix0 (GD:=P.GD) t h)
 rw [hw_no t] at te
 have x3:xs1 (P.tbl (n+2)) b_dump_step_3 [some (st0 t),some (.tup [t.d])] h=.ok (.nx,[some (st0 t),some (.tup [t.d])]) h:=(iff_f te).trans rfl
 have x4:xs1 (P.tbl (n+2)) b_dump_step_4 [some (st0 t),some (.tup [t.d])] h=.ok (.rt (.tup [.str (Ω "quiet"),d]),[some (st0 t),some (.tup [t.d])]) h:=by_call e rfl rfl
 rw [xs2_nx x1,xs2_nx x2,xs2_nx x3,xs2_rt x4]
 rfl
end K31L
end
section
namespace K31L
open PySem L2 IV Tm Pn
variable {P:Pg}
noncomputable def pm(t:T):Hd:=[.lst (t.places.map T.d),.lst [],.lst [.int (t.size:Int)]]
noncomputable def me1:Ex:=.comp [Ω "item"] [none] (.pl (.var 0)) (.nm 0) (some (.ex (.cmp .NotIn (.ix (.var 0) (.cst (.int 0))) (.glo (Ω "ORDERS"))))) (.blt .len (.cons (.call (Ω "places") (.cons (.var 0) .nil)) .nil))
theorem measure_is:b_measure_of=.cons (.ret (.bin .Mult (.cst (.int 2)) (.blt .sum (.cons me1 .nil)))) .nil:=rfl
theorem r_measure (H:Lw P) (n:Nat) (t:T) (hz:t.size≤120) (h:Hd):run P (n+3) (Ω "measure_of") [.tup [t.d]] h=.ok (.int (2 * (t.size:Int))) (h++pm t):=by
 rw [run_def H.measure_of (by rfl)]
 have e:=Gn.r_places H.t.toTrm.toTre n t h (by omega)
 have nt:tst (P.tbl (n+2)) (.ex (.cmp .NotIn (.ix (.var 0) (.cst (.int 0))) (.glo (Ω "ORDERS")))) [some t.d] h=.ok true h:=by
   have g:ev (P.tbl (n+2)) (.glo (Ω "ORDERS")) [some t.d] h=.ok (.tup [.str (Ω "apply"),.str (Ω "work"),.str (Ω "choose")]) h:=by
     show R.ofO (P.G (Ω "ORDERS")) h=_
     rw [H.gor]
     rfl
   have q:ev (P.tbl (n+2)) (.ix (.var 0) (.cst (.int 0))) [some t.d] h=.ok (.str (hw t)) h:=ix0 t h
   exact ok_b (ex_b ((ev_cmp2' q g).trans nords)) (by rw [hw_no];rfl)
 have el:ev (P.tbl (n+2)) (.blt .len (.cons (.call (Ω "places") (.cons (.var 0) .nil)) .nil)) [some t.d] h=.ok (.int (t.size:Int)) (h++[.lst (t.places.map T.d),.lst []]):=by
   have ec:ev (P.tbl (n+2)) (.call (Ω "places") (.cons (.var 0) .nil)) [some t.d] h=.ok (.ref h.length) (h++[.lst (t.places.map T.d),.lst []]):=e
   have ln:bltD P.GD .len [.ref h.length] (h++[.lst (t.places.map T.d),.lst []])=.ok (.int (t.size:Int)) (h++[.lst (t.places.map T.d),.lst []]):=by simp [bltD,bLen,seqOf,lstOf,T.size]
   simp only [ev_blt,evs_cons,evs_nil,ec,bnd_ok]
   exact ln
 have em:ev (P.tbl (n+2)) me1 [some (.tup [t.d])] h=.ok (.ref (h.length+2)) (h++pm t):=by
   have cl:compL none (.nm 0) (tsto (P.tbl (n+2)) (some (.ex (.cmp .NotIn (.ix (.var 0) (.cst (.int 0))) (.glo (Ω "ORDERS")))))) (ev (P.tbl (n+2)) (.blt .len (.cons (.call (Ω "places") (.cons (.var 0) .nil)) .nil))) [t.d] [none] [] h=.ok [.int (t.size:Int)] (h++[.lst (t.places.map T.d),.lst []]):=by
     rw [compL_cons,if_pos ⟨rfl,by rw [sizeLine_eq];decide⟩]
     simp only [bind_nm,List.set_cons_zero,tsto_some,nt,plainR_ok,bnd_ok,if_true,el]
     rfl
   have q:ev (P.tbl (n+2)) me1 [some (.tup [t.d])] h=R.bnd (compL none (.nm 0) (tsto (P.tbl (n+2)) (some (.ex (.cmp .NotIn (.ix (.var 0) (.cst (.int 0))) (.glo (Ω "ORDERS")))))) (ev (P.tbl (n+2)) (.blt .len (.cons (.call (Ω "places") (.cons (.var 0) .nil)) .nil))) [t.d] [none] [] h) (fun xs h2=>newO (.lst xs) h2):=rfl
   rw [q,cl,bnd_ok]
   simp [pm]
 have sm:bltD P.GD .sum [.ref (h.length+2)] (h++pm t)=.ok (.int (t.size:Int)) (h++pm t):=by simp [pm,bltD,bSum,lstOf,intsOf]
 have es:ev (P.tbl (n+2)) (.blt .sum (.cons me1 .nil)) [some (.tup [t.d])] h=.ok (.int (t.size:Int)) (h++pm t):=by
   simp only [ev_blt,evs_cons,evs_nil,em,bnd_ok]
   exact sm
 have mu:ev (P.tbl (n+2)) (.bin .Mult (.cst (.int 2)) (.blt .sum (.cons me1 .nil))) [some (.tup [t.d])] h=.ok (.int (2 * (t.size:Int))) (h++pm t):=(ev_bin2 rfl es).trans (opB_mul ⟨Gn.small_abs (by decide) (by decide),Gn.small_abs (by omega) (by omega)⟩)
 show retOf (xs2 (P.tbl (n+2)) b_measure_of [some (.tup [t.d])] h)=_
 rw [measure_is,xs2_rt (ret_e mu)]
 rfl
theorem r_left (H:Lw P) (n:Nat) (t:T) (hz:t.size≤120) (h:Hd):run P (n+4) (Ω "dump_left") [st0 t] h=.ok (.int (2 * (t.size:Int))) (h++pm t++[.lst []]):=by
 rw [run_def H.dump_left (by rfl)]
 have e:=r_measure H n t hz h
 have e1:ev (P.tbl (n+3)) (.call (Ω "measure_of") (.cons (.ix (.var 0) (.cst (.int 2))) .nil)) [some (st0 t)] h=.ok (.int (2 * (t.size:Int))) (h++pm t):=e
 have e2:∀ h,ev (P.tbl (n+3)) (.blt .sum (.cons (.comp [Ω "level"] [none] (.pl (.ix (.var 0) (.cst (.int 3)))) (.nm 0) none (.bin .Add (.call (Ω "measure_of") (.cons (.ix (.var 0) (.cst (.int 2))) .nil)) (.cst (.int 1)))) .nil)) [some (st0 t)] h=.ok (.int 0) (h++[.lst []]):=fun h=>by
   have ec:ev (P.tbl (n+3)) (.comp [Ω "level"] [none] (.pl (.ix (.var 0) (.cst (.int 3)))) (.nm 0) none (.bin .Add (.call (Ω "measure_of") (.cons (.ix (.var 0) (.cst (.int 2))) .nil)) (.cst (.int 1)))) [some (st0 t)] h=.ok (.ref h.length) (h++[.lst []]):=rfl
   have sm:bltD P.GD .sum [.ref h.length] (h++[.lst []])=.ok (.int 0) (h++[.lst []]):=by simp [bltD,bSum,lstOf,intsOf]
   simp only [ev_blt,evs_cons,evs_nil,ec,bnd_ok]
   exact sm
 have x1:xs1 (P.tbl (n+3)) b_dump_left_1 [some (st0 t)] h=.ok (.rt (.int (2 * (t.size:Int))),[some (st0 t)]) (h++pm t++[.lst []]):=ret_e ((ev_bin2 e1 (e2 _)).trans (by rw [opB_add,Int.add_zero]))
 show retOf (xs2 (P.tbl (n+3)) (.cons b_dump_left_1 .nil) [some (st0 t)] h)=_
 rw [xs2_rt x1]
 rfl
structure Sd(h0 h:Hd)(pk dk:Nat)(u:Int)(ds:List D):Prop where
 a:Aft h0 h pk (.int 120) u
 l:h[dk]? = some (.lst ds)
 ne:dk≠pk
 o:h0.length≤dk
section
variable {h0 h h':Hd}{pk dk:Nat}{u v:Int}{ds es:List D}
theorem Sd.put(s:Sd h0 h pk dk u ds)(es:List D):Sd h0 (h.set dk (.lst es)) pk dk u es :=
 ⟨⟨by rw [Ωc s.ne];exact s.a.1,by simpa using s.a.2.1,fun i hi hn=>by rw [Ωc (by have:=s.o;omega)];exact s.a.2.2 i hi hn⟩,by rw [Ωl (lt_at s.l)],s.ne,s.o⟩
theorem Sd.aft(s:Sd h0 h pk dk u ds)(a:Aft h h' pk (.int 120) v):Sd h0 h' pk dk v ds :=
 ⟨⟨a.1,ΩE s.a.2.1 a.2.1,fun i hi hn=>by rw [a.2.2 i (by have:=s.a.2.1;omega) hn];exact s.a.2.2 i hi hn⟩,by rw [a.2.2 dk (lt_at s.l) s.ne];exact s.l,s.ne,s.o⟩
theorem Sd.self(s:Sd h0 h pk dk u ds):Aft h h pk (.int 120) u:=⟨s.a.1,Ωq _,fun _ _ _=>rfl⟩
theorem Sd.pen(s:Sd h0 h pk dk u ds)(v:Int):Sd h0 (h.set pk (penD (.int 120) v)) pk dk v ds:=s.aft (Aft.pen s.self v)
theorem x_app{U:Tb}{ρ:Ev}{o e:Ex}{i:Nat}{xs ys:List D}{d:D}{h1:Hd}(eo:ev U o ρ h=.ok (.ref i) h)(hl:h[i]? = some (.lst xs))(ee:ev U e ρ h=.ok d h1)(h2:h1[i]? = some (.lst ys))(hz:ys.length≤1000):xs1 U (.drp (.meth .app o (.cons e .nil))) ρ h=.ok (.nx,ρ) (h1.set i (.lst (ys++[d]))):=by
 have il:=isLst_ref hl
 have ap:=meth_app (d:=d) h2 (by rw [sizeLine_eq];omega)
 simp only [xs1_drp,ev_meth,eo,bnd_ok,il,if_true,evs_cons,evs_nil,ee,ap]
theorem e_pop{U:Tb}{ρ:Ev}{o:Ex}{i:Nat}{ys:List D}{d:D}(eo:ev U o ρ h=.ok (.ref i) h)(hl:h[i]? = some (.lst (ys++[d]))):ev U (.meth .pop o .nil) ρ h=.ok d (h.set i (.lst ys)):=by
 have il:=isLst_ref hl
 have pp:=meth_pop hl
 simp only [ev_meth,eo,bnd_ok,il,if_true,evs_nil,pp]
theorem forL_nx{i:Nat}{body:Ev→Hd→R (Fl×Ev)}{d:D}{ds:List D}{ρ ρ2:Ev}{h2:Hd}(e:body (ρ.set i (some d)) h=.ok (.nx,ρ2) h2):forL none (.nm i) body (d::ds) ρ h=forL none (.nm i) body ds ρ2 h2:=by
 rw [forL_cons]
 simp only [bind_nm,e,bnd_ok]
end
end K31L
end
section
namespace K31L
open PySem L2 IV Tm Pn
variable {P:Pg}
noncomputable def ordr:T→D
 | .iff _ a b=>.tup [.str (Ω "choose"),a.d,b.d]
 | .op w _ _=>.tup [.str (Ω "work"),.str w.s]
 | _=>.tup [.str (Ω "apply")]
noncomputable def pre:T→List T
 | .call f a=>[f,a]
 | .iff c _ _=>[c]
 | .op _ a b=>[a,b]
 | _=>[]
noncomputable def sz(l:List T):Nat:=(l.map T.size).sum
theorem ap_is{t:T}(v:isV t=false)(c:Gn.Cl [] t):ap t=(pre t).map T.d++[ordr t]:=by
 cases t with
 | num z=>cases v
 | name x=>cases c
 | fn x e=>cases v
 | rcc f x e=>cases v
 | _=>rfl
section
variable {h0 h:Hd}{pk dk:Nat}{u:Int}
theorem e_join (H:Lw P) (n:Nat) {ρ:Ev}{o a b:Ex}{mo:D}{h1 h2:Hd}{fs ps:List D}{v:Int} (eo:ev (P.tbl (n+2)) o ρ h=.ok (.ref pk) h) (f0:Aft h0 h pk mo u) (ea:ev (P.tbl (n+2)) a ρ h=.ok (.tup fs) h1) (eb:ev (P.tbl (n+2)) b ρ h1=.ok (.tup ps) h2) (f:Aft h0 h2 pk mo v) (lm:Lim mo (v+1)) (hz:fs.length+ps.length≤1000):ev (P.tbl (n+2)) (.mcl (Ω "Pen") (Ω "joined") o (.cons a (.cons b .nil))) ρ h=.ok (.tup (fs++ps)) (h2.set pk (penD mo (v+1))):=by
 refine (ev_pen eo f0.1 rfl ?_).trans (r_joined H.toPen n fs ps f lm hz)
 simp only [evs_cons,evs_nil,ea,eb,bnd_ok]
theorem t_two (H:Lw P) (n:Nat) {ρ:Ev}{fr:Ex}{w:Str}{x y:D} (e0:ev (P.tbl (n+3)) (.var 0) ρ h=.ok (.ref pk) h) (e2:ev (P.tbl (n+3)) (.var 2) ρ h=.ok (.ref dk) h) (e4:∀ h,ev (P.tbl (n+3)) (.var 4) ρ h=.ok y h) (ef:ev (P.tbl (n+3)) fr ρ h=.ok (.str w) h) (s:Sd h0 h pk dk u [x]) (lm:u+1≤120):∃ h',xs1 (P.tbl (n+3)) (.drp (.meth .app (.var 2) (.cons (.mcl (Ω "Pen") (Ω "joined") (.var 0) (.cons (.tupl (.cons fr .nil)) (.cons (.tupl (.cons (.meth .pop (.var 2) .nil) (.cons (.var 4) .nil))) .nil))) .nil))) ρ h=.ok (.nx,ρ) h'∧Sd h0 h' pk dk (u+1) [.tup [.str w,x,y]]:=by
 have s2:=s.put []
 have ea:ev (P.tbl (n+3)) (.tupl (.cons fr .nil)) ρ h=.ok (.tup [.str w]) h:=by
   simp only [ev_tupl,evs_cons,evs_nil,ef,bnd_ok]
   rfl
 have ej:=e_join H (n+1) e0 s.a ea (tup2 (e_pop (ys:=[]) e2 s.l) (e4 _)) s2.a (.inr ⟨120,rfl,lm⟩) (by simp)
 have s3:=s2.pen (u+1)
 exact ⟨_,x_app e2 s.l ej s3.l (by simp),s3.put _⟩
theorem r_do (H:Lw P) (n:Nat) (t:T) (nv:isV t=false) (c:Gn.Cl [] t) (s:Sd h0 h pk dk u ((pre t).map T.d)) (lm:u+(t.size:Int) - (sz (pre t):Int)≤120) (hz:t.size≤1000):∃ h',run P (n+4) (Ω "do_order") [.ref pk,ordr t,.ref dk,.tup []] h=.ok .non h'∧Sd h0 h' pk dk (u+(t.size:Int) - (sz (pre t):Int)) [t.d]:=by
 rw [run_def H.do_order (by rfl)]
 have sc:=size_cons t
 cases t with
 | num z=>cases nv
 | name x=>cases c
 | fn x e=>cases nv
 | rcc g x e=>cases nv
 | call g a =>
   simp only [T.parts,Ωp,Ωy,ΩI,List.sum_nil] at sc
   simp only [pre,sz,Ωp,Ωy,ΩI,List.sum_nil] at lm s ⊢
   have x1:xs1 (P.tbl (n+3)) b_do_order_1 [some (.ref pk),some (ordr (.call g a)),some (.ref dk),some (.tup []),none] h=.ok (.nx,[some (.ref pk),some (ordr (.call g a)),some (.ref dk),some (.tup []),some a.d]) (h.set dk (.lst [g.d])):=set_e (i:=4) (e_pop (ys:=[g.d]) rfl s.l)
   have s1:=s.put [g.d]
   obtain ⟨h2,e,s2⟩:=t_two H n (ρ:=[some (.ref pk),some (ordr (.call g a)),some (.ref dk),some (.tup []),some a.d]) (fr:=.cst (.str (Ω "call"))) (y:=a.d) rfl rfl (fun _=>rfl) rfl s1 (by omega)
   refine ⟨h2,?_,by rw [show u+((T.call g a).size:Int) - ((g.size+(a.size+0):Nat):Int)=u+1 by omega];exact s2⟩
   show retOf (xs2 (P.tbl (n+3)) (.cons b_do_order_1 (.cons b_do_order_2 .nil)) [some (.ref pk),some (ordr (.call g a)),some (.ref dk),some (.tup []),none] h)=_
   have x2:xs1 (P.tbl (n+3)) b_do_order_2 [some (.ref pk),some (ordr (.call g a)),some (.ref dk),some (.tup []),some a.d] (h.set dk (.lst [g.d]))=.ok (.nx,[some (.ref pk),some (ordr (.call g a)),some (.ref dk),some (.tup []),some a.d]) h2:=(iff_f rfl).trans (xs2_nx ((iff_t rfl).trans (xs2_nx e)))
   rw [xs2_nx x1,xs2_nx x2]
   rfl
 | op w g a =>
   simp only [T.parts,Ωp,Ωy,ΩI,List.sum_nil] at sc
   simp only [pre,sz,Ωp,Ωy,ΩI,List.sum_nil] at lm s ⊢
   have x1:xs1 (P.tbl (n+3)) b_do_order_1 [some (.ref pk),some (ordr (.op w g a)),some (.ref dk),some (.tup []),none] h=.ok (.nx,[some (.ref pk),some (ordr (.op w g a)),some (.ref dk),some (.tup []),some a.d]) (h.set dk (.lst [g.d])):=set_e (i:=4) (e_pop (ys:=[g.d]) rfl s.l)
   have s1:=s.put [g.d]
   obtain ⟨h2,e,s2⟩:=t_two H n (ρ:=[some (.ref pk),some (ordr (.op w g a)),some (.ref dk),some (.tup []),some a.d]) (fr:=.ix (.var 1) (.cst (.int 1))) (w:=w.s) (y:=a.d) rfl rfl (fun _=>rfl) rfl s1 (by omega)
   refine ⟨h2,?_,by rw [show u+((T.op w g a).size:Int) - ((g.size+(a.size+0):Nat):Int)=u+1 by omega];exact s2⟩
   show retOf (xs2 (P.tbl (n+3)) (.cons b_do_order_1 (.cons b_do_order_2 .nil)) [some (.ref pk),some (ordr (.op w g a)),some (.ref dk),some (.tup []),none] h)=_
   have x2:xs1 (P.tbl (n+3)) b_do_order_2 [some (.ref pk),some (ordr (.op w g a)),some (.ref dk),some (.tup []),some a.d] (h.set dk (.lst [g.d]))=.ok (.nx,[some (.ref pk),some (ordr (.op w g a)),some (.ref dk),some (.tup []),some a.d]) h2:=(iff_f rfl).trans (xs2_nx ((iff_f rfl).trans (xs2_nx e)))
   rw [xs2_nx x1,xs2_nx x2]
   rfl
 | iff d a b =>
   simp only [T.parts,Ωp,Ωy,ΩI,List.sum_nil] at sc
   simp only [pre,sz,Ωp,Ωy,ΩI,List.sum_nil] at lm s ⊢
   have x1:xs1 (P.tbl (n+3)) b_do_order_1 [some (.ref pk),some (ordr (.iff d a b)),some (.ref dk),some (.tup []),none] h=.ok (.nx,[some (.ref pk),some (ordr (.iff d a b)),some (.ref dk),some (.tup []),some d.d]) (h.set dk (.lst [])):=set_e (i:=4) (e_pop (ys:=[]) rfl s.l)
   have s1:=s.put []
   obtain ⟨h2,e2,f2⟩:=ev_fill H.toPen n a (o:=.var 0) (ρ:=[some (.ref pk),some (ordr (.iff d a b)),some (.ref dk),some (.tup []),some d.d]) (a:=.ix (.var 1) (.cst (.int 1))) (b:=.var 3) rfl rfl rfl s1.self (.inr ⟨120,rfl,by omega⟩) (by omega)
   obtain ⟨h3,e3,f3⟩:=ev_fill H.toPen n b (o:=.var 0) (ρ:=[some (.ref pk),some (ordr (.iff d a b)),some (.ref dk),some (.tup []),some d.d]) (a:=.ix (.var 1) (.cst (.int 2))) (b:=.var 3) rfl rfl rfl f2 (.inr ⟨120,rfl,by omega⟩) (by omega)
   have s3:=s1.aft f3
   have ej:=e_join H (n+1) (ρ:=[some (.ref pk),some (ordr (.iff d a b)),some (.ref dk),some (.tup []),some d.d]) (o:=.var 0) (a:=.tupl (.cons (.cst (.str (Ω "if"))) .nil)) (fs:=[.str (Ω "if")]) rfl s1.a rfl (tup3 (a:=.var 4) rfl e2 e3) s3.a (.inr ⟨120,rfl,by omega⟩) (by simp)
   have s4:=s3.pen (u+(a.size:Int)+(b.size:Int)+1)
   have e5:=x_app (o:=.var 2) (ρ:=[some (.ref pk),some (ordr (.iff d a b)),some (.ref dk),some (.tup []),some d.d]) rfl s1.l ej s4.l (by simp)
   refine ⟨_,?_,by rw [show u+((T.iff d a b).size:Int) - ((d.size+0:Nat):Int)=u+(a.size:Int)+(b.size:Int)+1 by omega];exact s4.put _⟩
   show retOf (xs2 (P.tbl (n+3)) (.cons b_do_order_1 (.cons b_do_order_2 .nil)) [some (.ref pk),some (ordr (.iff d a b)),some (.ref dk),some (.tup []),none] h)=_
   have x2:=(iff_t (U:=P.tbl (n+3)) (ρ:=[some (.ref pk),some (ordr (.iff d a b)),some (.ref dk),some (.tup []),some d.d]) (h:=h.set dk (.lst [])) (h1:=h.set dk (.lst [])) (c:=.ex (.cmp .Eq (.ix (.var 1) (.cst (.int 0))) (.cst (.str (Ω "choose"))))) (b:=.cons (.iff (.ex (.cmp .Eq (.ix (.var 1) (.cst (.int 0))) (.cst (.str (Ω "apply"))))) (.cons (.drp (.meth .app (.var 2) (.cons (.mcl (Ω "Pen") (Ω "joined") (.var 0) (.cons (.tupl (.cons (.cst (.str (Ω "call"))) .nil)) (.cons (.tupl (.cons (.meth .pop (.var 2) .nil) (.cons (.var 4) .nil))) .nil))) .nil))) .nil) (.cons (.drp (.meth .app (.var 2) (.cons (.mcl (Ω "Pen") (Ω "joined") (.var 0) (.cons (.tupl (.cons (.ix (.var 1) (.cst (.int 1))) .nil)) (.cons (.tupl (.cons (.meth .pop (.var 2) .nil) (.cons (.var 4) .nil))) .nil))) .nil))) .nil)) .nil) rfl).trans (xs2_nx (r:=.nil) e5)
   rw [xs2_nx x1]
   exact congrArg retOf (xs2_nx (r:=.nil) x2)
end
end K31L
end
section
namespace K31L
open PySem L2 IV Tm Pn
variable {P:Pg}
noncomputable def lp_lv:Sxs:=(.cons (.iff (.ex (.cmp .In (.ix (.var 4) (.cst (.int 0))) (.glo (Ω "ORDERS")))) (.cons (.drp (.call (Ω "do_order") (.cons (.var 0) (.cons (.var 4) (.cons (.var 3) (.cons (.ix (.var 1) (.cst (.int 1))) .nil)))))) .nil) (.cons (.drp (.meth .app (.var 3) (.cons (.mcl (Ω "Pen") (Ω "filled") (.var 0) (.cons (.var 4) (.cons (.ix (.var 1) (.cst (.int 1))) .nil))) .nil))) .nil)) .nil)
theorem lv2_is:b_level_read_2=.forr (.nm 4) (.pl (.ix (.var 1) (.cst (.int 2)))) lp_lv:=rfl
section
variable {h0 h:Hd}{pk dk:Nat}{u:Int}{ds:List D}
noncomputable def le(pk:Nat)(st td:D)(ab:Nat)(o3 o4:Option D):Ev:=[some (.ref pk),some (.tup [st,.tup [],td,.tup []]),some (.ref ab),o3,o4]
theorem t_item(H:Lw P)(n:Nat)(t:T){st td:D}{ab:Nat}(s:Sd h0 h pk dk u ds)(lm:u+(t.size:Int)≤120)(hz:t.size≤1000)(hl:ds.length≤10):∃ h',xs2 (P.tbl (n+3)) lp_lv (le pk st td ab (some (.ref dk)) (some t.d)) h=.ok (.nx,le pk st td ab (some (.ref dk)) (some t.d)) h'∧Sd h0 h' pk dk (u+(t.size:Int)) (ds++[t.d]):=by
 have te:=tst_ord H (n+3) (ρ:=le pk st td ab (some (.ref dk)) (some t.d)) (h:=h) (e:=.ix (.var 4) (.cst (.int 0))) (ix0 (GD:=P.GD) t h)
 rw [hw_no t] at te
 have sp:=size_pos t
 obtain ⟨h1,e1,f1⟩:=ev_fill H.toPen n t (o:=.var 0) (ρ:=le pk st td ab (some (.ref dk)) (some t.d)) (a:=.var 4) (b:=.ix (.var 1) (.cst (.int 1))) rfl rfl rfl s.self (.inr ⟨120,rfl,lm⟩) hz
 have s1:=s.aft f1
 exact ⟨_,xs2_nx ((iff_f te).trans (xs2_nx (x_app (o:=.var 3) rfl s.l e1 s1.l (by omega)))),s1.put _⟩
theorem l_items(H:Lw P)(n:Nat){st td:D}{ab:Nat}{rest:List D}:∀ (ts:List T) (ds:List D) (u:Int) (h:Hd) (o4:Option D),Sd h0 h pk dk u ds→u+(sz ts:Int)≤120→sz ts≤1000→ds.length+ts.length≤10→∃ h' o4',forL none (.nm 4) (xs2 (P.tbl (n+3)) lp_lv) (ts.map T.d++rest) (le pk st td ab (some (.ref dk)) o4) h=forL none (.nm 4) (xs2 (P.tbl (n+3)) lp_lv) rest (le pk st td ab (some (.ref dk)) o4') h'∧Sd h0 h' pk dk (u+(sz ts:Int)) (ds++ts.map T.d)
 | [],ds,u,h,o4,s,_,_,_=>⟨h,o4,rfl,by simpa [sz] using s⟩
 | t::ts,ds,u,h,o4,s,lm,hz,hl=>by
   have e:sz (t::ts)=t.size+sz ts:=rfl
   rw [e] at lm hz
   simp only [Ωs] at hl
   obtain ⟨h1,e1,s1⟩:=t_item H n t (st:=st) (td:=td) (ab:=ab) s (by omega) (by omega) (by omega)
   obtain ⟨h2,o4',e2,s2⟩:=l_items H n (st:=st) (td:=td) (ab:=ab) (rest:=rest) ts (ds++[t.d]) (u+(t.size:Int)) h1 (some t.d) s1 (by omega) (by omega) (by simp;omega)
   refine ⟨h2,o4',?_,by rw [e,show u+((t.size+sz ts:Nat):Int)=u+(t.size:Int)+(sz ts:Int) by omega,Ωp,show ds++t.d::ts.map T.d=ds++[t.d]++ts.map T.d by simp];exact s2⟩
   rw [Ωp,List.cons_append,forL_nx e1]
   exact e2
theorem t_ord(H:Lw P)(n:Nat)(t:T)(nv:isV t=false)(c:Gn.Cl [] t){st td:D}{ab:Nat}(s:Sd h0 h pk dk u ((pre t).map T.d))(lm:u+(t.size:Int) - (sz (pre t):Int)≤120)(hz:t.size≤1000):∃ h',xs2 (P.tbl (n+4)) lp_lv (le pk st td ab (some (.ref dk)) (some (ordr t))) h=.ok (.nx,le pk st td ab (some (.ref dk)) (some (ordr t))) h'∧Sd h0 h' pk dk (u+(t.size:Int) - (sz (pre t):Int)) [t.d]:=by
 obtain ⟨h',e,s'⟩:=r_do H n t nv c s lm hz
 refine ⟨h',?_,s'⟩
 have te:tst (P.tbl (n+4)) (.ex (.cmp .In (.ix (.var 4) (.cst (.int 0))) (.glo (Ω "ORDERS")))) (le pk st td ab (some (.ref dk)) (some (ordr t))) h=.ok true h:=by
   have q:∃ x ds,ordr t=.tup (.str x::ds)∧decide (x∈[Ω "apply",Ω "work",Ω "choose"])=true:=by cases t<;>exact ⟨_,_,rfl,rfl⟩
   obtain ⟨x,ds,q1,q2⟩:=q
   refine ok_b (tst_ord H (n+4) (x:=x) ?_) q2
   show opIx P.GD (ordr t) (.int 0) h=_
   rw [q1]
   simp
 have x:xs1 (P.tbl (n+4)) (.drp (.call (Ω "do_order") (.cons (.var 0) (.cons (.var 4) (.cons (.var 3) (.cons (.ix (.var 1) (.cst (.int 1))) .nil)))))) (le pk st td ab (some (.ref dk)) (some (ordr t))) h=.ok (.nx,le pk st td ab (some (.ref dk)) (some (ordr t))) h':=by_call e rfl rfl
 exact xs2_nx ((iff_t te).trans (xs2_nx x))
end
theorem cat_l{h:Hd}{i j:Nat}{xs ys:List D}(hi:h[i]? = some (.lst xs))(hj:h[j]? = some (.lst ys))(hz:xs.length+ys.length≤1000):opB .Add (.ref i) (.ref j) h=.ok (.ref h.length) (h++[.lst (xs++ys)]):=by
 simp only [opB,addB,hi,hj]
 rw [if_pos (by rw [sizeLine_eq];omega)]
 simp
noncomputable def cm1:Ex:=(.comp [(Ω "thing"),(Ω "pen")] [none,some 0] (.pl (.ix (.var 1) (.cst (.int 0)))) (.nm 0) none (.mcl (Ω "Pen") (Ω "told") (.var 1) (.cons (.var 0) .nil)))
theorem lv1(H:Lw P)(n:Nat){h:Hd}{td:D}{sts:List D}{ls:List D}{h1:Hd}(ec:ev (P.tbl n) cm1 (le h.length (.tup sts) td (h.length+1) none none) (h++[penD (.int 120) 0,.lst []])=.ok (.ref h1.length) (h1++[.lst ls]))(u:Int)(a:Aft (h++[penD (.int 120) 0,.lst []]) h1 h.length (.int 120) u)(hl:ls.length≤10) :
   xs1 (P.tbl n) b_level_read_1 (le h.length (.tup sts) td (h.length+1) none none) (h++[penD (.int 120) 0,.lst []])=.ok (.nx,le h.length (.tup sts) td (h.length+1) (some (.ref (h1.length+1))) none) (h1++[.lst ls,.lst ls])∧Sd h (h1++[.lst ls,.lst ls]) h.length (h1.length+1) u ls:=by
 have k:h1[h.length+1]? = some (.lst []):=by rw [a.2.2 (h.length+1) (by simp) (by omega)];simp
 have al:=a.2.1
 simp at al
 have cc:=cat_l (h:=h1++[.lst ls]) (i:=h1.length) (j:=h.length+1) (xs:=ls) (ys:=[]) (by simp) (keep k) (by simp;omega)
 constructor
 · refine set_e (i:=3) ((ev_bin2 ec rfl).trans ?_)
   rw [cc]
   simp
 · refine ⟨⟨keep a.1,by simp;omega,fun i hi hn=>?_⟩,by simp,by omega,by omega⟩
   rw [Ωe (by omega),a.2.2 i (by simp;omega) hn,Ωe hi]
theorem cm_nil{n:Nat}{h:Hd}{td:D}:ev (P.tbl n) cm1 (le h.length (.tup []) td (h.length+1) none none) (h++[penD (.int 120) 0,.lst []])=.ok (.ref (h++[penD (.int 120) 0,.lst []]).length) (h++[penD (.int 120) 0,.lst []]++[.lst []]):=rfl
theorem aft_self{h:Hd}:Aft (h++[penD (.int 120) 0,.lst []]) (h++[penD (.int 120) 0,.lst []]) h.length (.int 120) 0:=⟨by simp,Ωq _,fun _ _ _=>rfl⟩
theorem lv_end(H:Lw P)(n:Nat){h h' h2 h3:Hd}{st td:D}{dk:Nat}{xs:List D}{o4:Option D}(x1:xs1 (P.tbl (n+4)) b_level_read_1 (le h.length st td (h.length+1) none none) h'=.ok (.nx,le h.length st td (h.length+1) (some (.ref dk)) none) h2)(et:td=.tup xs)
   (x2:forL none (.nm 4) (xs2 (P.tbl (n+4)) lp_lv) xs (le h.length st td (h.length+1) (some (.ref dk)) none) h2=.ok (.nx,le h.length st td (h.length+1) (some (.ref dk)) o4) h3):run P (n+5) (Ω "level_read") [.ref h.length,.tup [st,.tup [],td,.tup []],.ref (h.length+1)] h'=.ok (.ref dk) h3:=by
 rw [run_def H.level_read (by rfl)]
 show retOf (xs2 (P.tbl (n+4)) (.cons b_level_read_1 (.cons b_level_read_2 (.cons b_level_read_3 .nil))) (le h.length st td (h.length+1) none none) h')=_
 have ei:evi (P.tbl (n+4)) (.pl (.ix (.var 1) (.cst (.int 2)))) (le h.length st td (h.length+1) (some (.ref dk)) none) h2=.ok ⟨none,xs⟩ h2:=by
   subst et
   rfl
 have y2:xs1 (P.tbl (n+4)) b_level_read_2 (le h.length st td (h.length+1) (some (.ref dk)) none) h2=.ok (.nx,le h.length st td (h.length+1) (some (.ref dk)) o4) h3:=by
   rw [lv2_is]
   exact (forr_i ei).trans x2
 rw [xs2_nx x1,xs2_nx y2]
 rfl
theorem r_level0 (H:Lw P) (n:Nat) (t:T) (hz:t.size≤120) (h:Hd):∃ h' dk,run P (n+5) (Ω "level_read") [.ref h.length,st0 t,.ref (h.length+1)] (h++[penD (.int 120) 0,.lst []])=.ok (.ref dk) h'∧Sd h h' h.length dk (t.size:Int) [t.d]:=by
 obtain ⟨x1,s1⟩:=lv1 H (n+4) (td:=.tup [t.d]) (sts:=[]) (ls:=[]) (cm_nil (P:=P) (n:=n+4) (h:=h)) 0 aft_self (by simp)
 obtain ⟨h2,o4,e2,s2⟩:=l_items H (n+1) (st:=.tup []) (td:=.tup [t.d]) (ab:=h.length+1) (rest:=[]) [t] [] 0 _ none s1 (by simp [sz];omega) (by simp [sz];omega) (by simp)
 refine ⟨h2,_,lv_end H n x1 rfl (e2.trans rfl),by simpa [sz] using s2⟩
theorem r_level1 (H:Lw P) (n:Nat) (t:T) (c:Gn.Cl [] t) (hz:t.size≤120) (h:Hd):∃ h' dk,run P (n+5) (Ω "level_read") [.ref h.length,fst t,.ref (h.length+1)] (h++[penD (.int 120) 0,.lst []])=.ok (.ref dk) h'∧Sd h h' h.length dk (t.size:Int) [t.d]:=by
 cases v:isV t with
 | true =>
   rw [fst,if_pos v]
   obtain ⟨h1,e1,f1⟩:=r_told H.toPen n t (aft_self (h:=h)) (.inr ⟨120,rfl,by omega⟩) (by omega)
   rw [Int.zero_add] at f1
   have ec:ev (P.tbl (n+4)) cm1 (le h.length (.tup [thg t]) (.tup []) (h.length+1) none none) (h++[penD (.int 120) 0,.lst []])=.ok (.ref h1.length) (h1++[.lst [t.d]]):=by
     have et:ev (P.tbl (n+4)) (.mcl (Ω "Pen") (Ω "told") (.var 1) (.cons (.var 0) .nil)) [some (thg t),some (.ref h.length)] (h++[penD (.int 120) 0,.lst []])=.ok t.d h1:=(ev_pen rfl (aft_self (h:=h)).1 rfl rfl).trans e1
     have q:ev (P.tbl (n+4)) cm1 (le h.length (.tup [thg t]) (.tup []) (h.length+1) none none) (h++[penD (.int 120) 0,.lst []])=R.bnd (compL none (.nm 0) (tsto (P.tbl (n+4)) none) (ev (P.tbl (n+4)) (.mcl (Ω "Pen") (Ω "told") (.var 1) (.cons (.var 0) .nil))) [thg t] [none,some (.ref h.length)] [] (h++[penD (.int 120) 0,.lst []])) (fun xs h2=>newO (.lst xs) h2):=rfl
     rw [q,compL_cons,if_pos ⟨rfl,by rw [sizeLine_eq];decide⟩]
     simp only [bind_nm,List.set_cons_zero,tsto_none,plainR_ok,bnd_ok,if_true,et]
     rfl
   obtain ⟨x1,s1⟩:=lv1 H (n+4) (td:=.tup []) (sts:=[thg t]) (ls:=[t.d]) ec _ f1 (by simp)
   exact ⟨_,_,lv_end H n (xs:=[]) x1 rfl rfl,s1⟩
 | false =>
   rw [fst,if_neg (by rw [v];decide)]
   have sc:=size_cons t
   have pz:sz (pre t)+1≤t.size:=by
     cases t with
     | num z=>cases v
     | name x=>cases c
     | fn x e=>cases v
     | rcc f x e=>cases v
     | _=>simp [T.parts] at sc;simp [pre,sz];omega
   have pl:(pre t).length≤2:=by cases t<;>simp [pre]
   obtain ⟨x1,s1⟩:=lv1 H (n+4) (td:=.tup (ap t)) (sts:=[]) (ls:=[]) (cm_nil (P:=P) (n:=n+4) (h:=h)) 0 aft_self (by simp)
   obtain ⟨h2,o4,e2,s2⟩:=l_items H (n+1) (st:=.tup []) (td:=.tup (ap t)) (ab:=h.length+1) (rest:=[ordr t]) (pre t) [] 0 _ none s1 (by omega) (by omega) (by simp;omega)
   rw [ΩB] at s2
   obtain ⟨h3,e3,s3⟩:=t_ord H n t v c (st:=.tup []) (td:=.tup (ap t)) (ab:=h.length+1) s2 (by omega) (by omega)
   refine ⟨h3,_,lv_end H n (xs:=ap t) (o4:=some (ordr t)) x1 rfl ?_,by rw [show (0:Int)+(sz (pre t):Int)+(t.size:Int) - (sz (pre t):Int)=(t.size:Int) by omega] at s3;exact s3⟩
   rw [ap_is v c]
   rw [ap_is v c] at e2 e3
   exact e2.trans ((forL_nx e3).trans rfl)
theorem rd_end (H:Lw P) (n:Nat) (t:T) {h h':Hd}{dk:Nat}{a b:D} (e:run P (n+5) (Ω "level_read") [.ref h.length,.tup [a,.tup [],b,.tup []],.ref (h.length+1)] (h++[penD (.int 120) 0,.lst []])=.ok (.ref dk) h') (s:Sd h h' h.length dk (t.size:Int) [t.d]):∃ g,run P (n+6) (Ω "dump_read") [.tup [a,.tup [],b,.tup []]] h=.ok t.d (h++g):=by
 obtain ⟨g,hg⟩:=Aft.grown s.a (Ωq _)
 refine ⟨g,?_⟩
 rw [← hg,run_def H.dump_read (by rfl)]
 generalize hd:D.tup [a,.tup [],b,.tup []]=st at e
 show retOf (xs2 (P.tbl (n+5)) (.cons b_dump_read_1 (.cons b_dump_read_2 (.cons b_dump_read_3 (.cons b_dump_read_4 .nil)))) [some st,none,none,none] h)=_
 have x1:xs1 (P.tbl (n+5)) b_dump_read_1 [some st,none,none,none] h=.ok (.nx,[some st,some (.ref h.length),none,none]) (h++[penD (.int 120) 0]):=by
   refine set_e (i:=1) ?_
   have eg:ev (P.tbl (n+5)) (.glo (Ω "WIDEST")) [some st,none,none,none] h=.ok (.int 120) h:=by
     show R.ofO (P.G (Ω "WIDEST")) h=_
     rw [H.t.gw]
     rfl
   simp only [ev_mk,evs_cons,evs_nil,eg,bnd_ok]
   exact r_pen H.t.toTrm (n+4) (.int 120) h
 have x2:xs1 (P.tbl (n+5)) b_dump_read_2 [some st,some (.ref h.length),none,none] (h++[penD (.int 120) 0])=.ok (.nx,[some st,some (.ref h.length),some (.ref dk),none]) h':=by
   refine set_e (i:=2) ?_
   have el:ev (P.tbl (n+5)) (.lstl .nil) [some st,some (.ref h.length),none,none] (h++[penD (.int 120) 0])=.ok (.ref (h.length+1)) (h++[penD (.int 120) 0,.lst []]):=by simp [sizeLine_eq]
   simp only [ev_call,evs_cons,evs_nil,ev_var,ΩJ,ΩK,Option.join_some,ofO_some,bnd_ok,el]
   exact e
 have x3:xs1 (P.tbl (n+5)) b_dump_read_3 [some st,some (.ref h.length),some (.ref dk),none] h'=.ok (.nx,[some st,some (.ref h.length),some (.ref dk),none]) h':=by
   have ei:evi (P.tbl (n+5)) (.pl (.ix (.var 0) (.cst (.int 3)))) [some st,some (.ref h.length),some (.ref dk),none] h'=.ok ⟨none,[]⟩ h':=by rw [← hd];rfl
   exact (forr_i ei).trans rfl
 have x4:xs1 (P.tbl (n+5)) b_dump_read_4 [some st,some (.ref h.length),some (.ref dk),none] h'=.ok (.rt t.d,[some st,some (.ref h.length),some (.ref dk),none]) h':=by
   refine ret_e ?_
   have q:=opIx_lst (GD:=P.GD) (k:=0) s.l
   exact q
 rw [xs2_nx x1,xs2_nx x2,xs2_nx x3,xs2_rt x4]
 rfl
theorem r_read0 (H:Lw P) (n:Nat) (t:T) (hz:t.size≤120) (h:Hd):∃ g,run P (n+6) (Ω "dump_read") [st0 t] h=.ok t.d (h++g):=by
 obtain ⟨h',dk,e,s⟩:=r_level0 H n t hz h
 exact rd_end H n t e s
theorem r_read1 (H:Lw P) (n:Nat) (t:T) (c:Gn.Cl [] t) (hz:t.size≤120) (h:Hd):∃ g,run P (n+6) (Ω "dump_read") [fst t] h=.ok t.d (h++g):=by
 obtain ⟨h',dk,e,s⟩:=r_level1 H n t c hz h
 have q:∃ a b,fst t=.tup [a,.tup [],b,.tup []]:=by
   unfold fst
   split<;>exact ⟨_,_,rfl⟩
 obtain ⟨a,b,q⟩:=q
 rw [q] at e ⊢
 exact rd_end H n t e s
end K31L
end
section
namespace K31L
open PySem L2 IV Tm Pn
variable {P:Pg}
theorem same_t(n:Bool)(t:T)(hz:t.size≤120)(h:Hd):IV.opEq n t.d t.d h=.ok (.bl (!n)) h:=opEq_same (_root_.Rw.T.pure_d t) (by rw [_root_.Rw.T.dp_d];have:=dep_lt t;omega)
theorem same_st(n:Bool)(t:T)(hz:t.size≤120)(h:Hd):IV.opEq n (st0 t) (st0 t) h=.ok (.bl (!n)) h:=opEq_same (by simp [st0,D.pure,D.pures,_root_.Rw.T.pure_d]) (by have:=dep_lt t;simp [st0,D.dp,D.dps,_root_.Rw.T.dp_d];omega)
noncomputable def an (t:T):D:=.tup [.str (Ω "quiet"),fst t]
theorem an_pure(t:T):(an t).pure=true:=by
 unfold an fst
 cases t<;>simp [isV,ap,thg,thd,D.pure,D.pures,_root_.Rw.T.pure_d]
theorem an_dp(t:T):(an t).dp≤Gn.dep t+10:=by
 unfold an fst
 cases t<;>simp [isV,ap,thg,thd,D.dp,D.dps,_root_.Rw.T.dp_d,Gn.dep]<;>omega
theorem same_an(n:Bool)(t:T)(hz:t.size≤120)(h:Hd):IV.opEq n (an t) (an t) h=.ok (.bl (!n)) h:=opEq_same (an_pure t) (by have:=dep_lt t;have:=an_dp t;omega)
theorem r_left' (H:Lw P) (n:Nat) (t:T) (hz:t.size≤120) (h:Hd):∃ g,run P (n+4) (Ω "dump_left") [st0 t] h=.ok (.int (2 * (t.size:Int))) (h++g):=⟨pm t++[.lst []],by rw [r_left H n t hz h,Ωz]⟩
theorem r_holds (H:Lw P) (t:T) (c:Gn.Cl [] t) (hz:t.size≤120) (h:Hd):∃ g,run P 250 (Ω "_law_holds") [t.d] h=.ok (.bl true) (h++g):=by
 have dl:=dep_lt t
 obtain ⟨g1,e1⟩:=r_left' H 245 t hz h
 obtain ⟨g2,e2⟩:=r_read0 H 243 t hz (h++g1)
 obtain ⟨g3,e3⟩:=Gn.r_width H.m 240 8 t (h++g1++g2) (by omega)
 obtain ⟨g4,e4⟩:=r_read1 H 243 t c hz (h++g1++g2++g3)
 have b0:=fun h=>r_begun H 248 t h
 have s0:=fun h=>r_step H 246 t c h
 have f0:=fun h=>r_first H 248 t c h
 refine ⟨g1++g2++g3++g4,?_⟩
 rw [run_def H.law_holds (by rfl)]
 show retOf (xs2 (P.tbl 249) (.cons b_law_holds_1 (.cons b_law_holds_2 (.cons b_law_holds_3 (.cons b_law_holds_4 (.cons b_law_holds_5 (.cons b_law_holds_6 (.cons b_law_holds_7 .nil))))))) [some t.d,none,none,none] h)=_
 simp only [← Ωz]
 generalize h++g1=h1 at *
 generalize h1++g2=h2 at *
 generalize h2++g3=h3 at *
 generalize h3++g4=h4 at *
 have x1:xs1 (P.tbl 249) b_law_holds_1 [some t.d,none,none,none] h=.ok (.nx,[some t.d,some (st0 t),none,none]) h:=by_call (b0 h) rfl rfl
 have x2:xs1 (P.tbl 249) b_law_holds_2 [some t.d,some (st0 t),none,none] h=.ok (.nx,[some t.d,some (st0 t),some (.int (2 * (t.size:Int))),none]) h1:=by_call e1 rfl rfl
 have x3:xs1 (P.tbl 249) b_law_holds_3 [some t.d,some (st0 t),some (.int (2 * (t.size:Int))),none] h1=.ok (.nx,[some t.d,some (st0 t),some (.int (2 * (t.size:Int))),none]) h2:=by
   have q:ev (P.tbl 249) (.call (Ω "dump_read") (.cons (.var 1) .nil)) [some t.d,some (st0 t),some (.int (2 * (t.size:Int))),none] h1=.ok t.d h2:=e2
   exact (iff_f (or2_f (ne_f (x:=st0 t) (h1:=h1) rfl rfl (same_st true t hz h1)) (ne_f q rfl (same_t true t hz h2)))).trans rfl
 have x4:xs1 (P.tbl 249) b_law_holds_4 [some t.d,some (st0 t),some (.int (2 * (t.size:Int))),none] h2=.ok (.nx,[some t.d,some (st0 t),some (.int (2 * (t.size:Int))),none]) h3:=by
   have mu:ev (P.tbl 249) (.bin .Mult (.cst (.int 2)) (.call (Ω "_law_width") (.cons (.var 0) .nil))) [some t.d,some (st0 t),some (.int (2 * (t.size:Int))),none] h2=.ok (.int (2 * (t.size:Int))) h3:=(ev_bin2 (x:=.int 2) (y:=.int (t.size:Int)) rfl (by_callE e3 rfl rfl)).trans (opB_mul ⟨Gn.small_abs (by decide) (by decide),Gn.small_abs (by omega) (by omega)⟩)
   have ne:∀ (z:Int) h,IV.opEq true (.int z) (.int z) h=.ok (.bl (!true)) h:=fun z h=>by simp
   exact (iff_f (or3_f (h1:=h2) (h2:=h2) rfl rfl (ne_f (h1:=h2) rfl mu (ne _ h3)))).trans rfl
 have x5:xs1 (P.tbl 249) b_law_holds_5 [some t.d,some (st0 t),some (.int (2 * (t.size:Int))),none] h3=.ok (.nx,[some t.d,some (st0 t),some (.int (2 * (t.size:Int))),some (an t)]) h3:=by_call (s0 h3) rfl rfl
 have x6:xs1 (P.tbl 249) b_law_holds_6 [some t.d,some (st0 t),some (.int (2 * (t.size:Int))),some (an t)] h3=.ok (.nx,[some t.d,some (st0 t),some (.int (2 * (t.size:Int))),some (an t)]) h4:=by
   have q1:ev (P.tbl 249) (.tupl (.cons (.cst (.str (Ω "quiet"))) (.cons (.call (Ω "_law_first") (.cons (.var 0) .nil)) .nil))) [some t.d,some (st0 t),some (.int (2 * (t.size:Int))),some (an t)] h3=.ok (an t) h3:=by_callE (f0 h3) rfl rfl
   have q2:ev (P.tbl 249) (.call (Ω "dump_read") (.cons (.ix (.var 3) (.cst (.int 1))) .nil)) [some t.d,some (st0 t),some (.int (2 * (t.size:Int))),some (an t)] h3=.ok t.d h4:=e4
   exact (iff_f (or2_f (ne_f (h1:=h3) rfl q1 (same_an true t hz h3)) (ne_f q2 rfl (same_t true t hz h4)))).trans rfl
 have x7:xs1 (P.tbl 249) b_law_holds_7 [some t.d,some (st0 t),some (.int (2 * (t.size:Int))),some (an t)] h4=.ok (.rt (.bl true),[some t.d,some (st0 t),some (.int (2 * (t.size:Int))),some (an t)]) h4:=by
   have q1:ev (P.tbl 249) (.call (Ω "dump_begun") (.cons (.var 0) .nil)) [some t.d,some (st0 t),some (.int (2 * (t.size:Int))),some (an t)] h4=.ok (st0 t) h4:=b0 h4
   have q2:ev (P.tbl 249) (.call (Ω "dump_step") (.cons (.var 1) .nil)) [some t.d,some (st0 t),some (.int (2 * (t.size:Int))),some (an t)] h4=.ok (an t) h4:=s0 h4
   exact ret_e (and2_t (eq_t q1 rfl (same_st false t hz h4)) (eq_t q2 rfl (same_an false t hz h4)))
 rw [xs2_nx x1,xs2_nx x2,xs2_nx x3,xs2_nx x4,xs2_nx x5,xs2_nx x6,xs2_rt x7]
 rfl
theorem r_law (H:Lw P) (zs:List Int) (hz:zs.length≤63):∃ h',run P (250+1) (Ω "law") [.ro (zs.map .int)] []=.ok (.bl true) h':=Pn.r_law H.toPen (fun t c hz h=>r_holds H t c hz h) zs hz
end K31L
end
section
namespace K31
open PySem L2 IV PyProof.Rows
noncomputable abbrev f_bound_names:Fd:=Tm.f_bound_names
noncomputable abbrev f_parts_of:Fd:=Gn.f_parts_of
noncomputable abbrev f_front_of:Fd:=Tm.f_front_of
noncomputable abbrev f_count_parts:Fd:=Tm.f_count_parts
noncomputable abbrev f_built:Fd:=Tm.f_built
noncomputable abbrev f_places:Fd:=Gn.f_places
noncomputable abbrev f_is_wide:Fd:=Tm.f_is_wide
noncomputable abbrev f_bound_to:Fd:=Tm.f_bound_to
noncomputable abbrev f_thing_of:Fd:=Pn.f_thing_of
noncomputable def b_body_of:Sxs:=(.cons (.ret (.ix (.call (Ω "parts_of") (.cons (.ix (.var 0) (.cst (.int 1))) .nil)) (.cst (.int 0)))) .nil)
noncomputable def f_body_of:Fd:=⟨[(Ω "W")],[(Ω "W")],b_body_of⟩
noncomputable def b_entered:Sxs:=(.cons (.iff (.ex (.cmp .Eq (.ix (.ix (.var 0) (.cst (.int 1))) (.cst (.int 0))) (.cst (.str (Ω "fn"))))) (.cons (.ret (.bin .Add (.tupl (.cons (.tupl (.cons (.ix (.ix (.var 0) (.cst (.int 1))) (.cst (.int 1))) (.cons (.var 1) .nil))) .nil)) (.ix (.var 0) (.cst (.int 2))))) .nil) .nil) (.cons (.ret (.bin .Add (.tupl (.cons (.tupl (.cons (.ix (.ix (.var 0) (.cst (.int 1))) (.cst (.int 2))) (.cons (.var 1) .nil))) (.cons (.tupl (.cons (.ix (.ix (.var 0) (.cst (.int 1))) (.cst (.int 1))) (.cons (.var 0) .nil))) .nil))) (.ix (.var 0) (.cst (.int 2))))) .nil))
noncomputable def f_entered:Fd:=⟨[(Ω "W"),(Ω "V")],[(Ω "W"),(Ω "V")],b_entered⟩
noncomputable def b_loud_or_stuck:Sxs:=(.cons (.iff (.ex (.cmp .Is (.var 0) (.cst .non))) (.cons (.ret (.tupl (.cons (.cst (.str (Ω "stuck"))) .nil))) .nil) .nil) (.cons (.ret (.tupl (.cons (.cst (.str (Ω "loud"))) (.cons (.var 0) .nil)))) .nil))
noncomputable def f_loud_or_stuck:Fd:=⟨[(Ω "state")],[(Ω "state")],b_loud_or_stuck⟩
noncomputable abbrev f_opened:Fd:=Tm.f_opened
noncomputable abbrev f_meant_by:Fd:=Tm.f_meant_by
noncomputable abbrev f_within:Fd:=Tm.f_within
noncomputable abbrev f_is_value:Fd:=Tm.f_is_value
noncomputable abbrev f_put_in:Fd:=Tm.f_put_in
noncomputable abbrev f_parts_first:Fd:=Tm.f_parts_first
noncomputable abbrev f_first_open:Fd:=Tm.f_first_open
noncomputable abbrev f_way_down:Fd:=Tm.f_way_down
noncomputable abbrev f_called:Fd:=Tm.f_called
noncomputable abbrev f_chosen:Fd:=Tm.f_chosen
noncomputable abbrev f_worked:Fd:=Tm.f_worked
noncomputable abbrev f_become:Fd:=Tm.f_become
noncomputable abbrev f_put_back:Fd:=Tm.f_put_back
noncomputable abbrev f_stepped:Fd:=Tm.f_stepped
noncomputable abbrev f_row_of:Fd:=Tm.f_row_of
noncomputable abbrev f_dump_begun:Fd:=K31L.f_dump_begun
noncomputable def b_taken_off:Sxs:=(.cons (.iff (.nt (.ex (.var 1))) (.cons (.ret (.tupl (.cons (.cst (.str (Ω "value"))) .nil))) .nil) .nil) (.cons (.set (.nm 2) (.ix (.var 1) (.cst (.int 0)))) (.cons (.ret (.tupl (.cons (.cst (.str (Ω "quiet"))) (.cons (.tupl (.cons (.bin .Add (.ix (.var 2) (.cst (.int 0))) (.sl (.var 0) (some (.neg (.cst (.int 1)))) none)) (.cons (.ix (.var 2) (.cst (.int 1))) (.cons (.ix (.var 2) (.cst (.int 2))) (.cons (.sl (.var 1) (some (.cst (.int 1))) none) .nil))))) .nil)))) .nil)))
noncomputable def f_taken_off:Fd:=⟨[(Ω "stack"),(Ω "dump")],[(Ω "stack"),(Ω "dump"),(Ω "below")],b_taken_off⟩
noncomputable abbrev f_taken_apart:Fd:=K31L.f_taken_apart
noncomputable abbrev f_quiet_state:Fd:=K31L.f_quiet_state
noncomputable def b_applied:Sxs:=(.cons (.set (.nm 4) (.ix (.var 0) (.neg (.cst (.int 2))))) (.cons (.iff (.ex (.cmp .Eq (.ix (.var 4) (.cst (.int 0))) (.cst (.str (Ω "num"))))) (.cons (.ret (.cst .non)) .nil) .nil) (.cons (.ret (.tupl (.cons (.tupl .nil) (.cons (.call (Ω "entered") (.cons (.var 4) (.cons (.ix (.var 0) (.neg (.cst (.int 1)))) .nil))) (.cons (.tupl (.cons (.call (Ω "body_of") (.cons (.var 4) .nil)) .nil)) (.cons (.bin .Add (.tupl (.cons (.tupl (.cons (.sl (.var 0) none (some (.neg (.cst (.int 2))))) (.cons (.var 1) (.cons (.var 2) .nil)))) .nil)) (.var 3)) .nil)))))) .nil)))
noncomputable def f_applied:Fd:=⟨[(Ω "stack"),(Ω "around"),(Ω "todo"),(Ω "dump")],[(Ω "stack"),(Ω "around"),(Ω "todo"),(Ω "dump"),(Ω "W")],b_applied⟩
noncomputable def b_gone_on:Sxs:=(.cons (.set (.nm 5) (.call (Ω "chosen") (.cons (.ix (.var 1) (.neg (.cst (.int 1)))) (.cons (.ix (.var 0) (.cst (.int 1))) (.cons (.ix (.var 0) (.cst (.int 2))) .nil))))) (.cons (.iff (.ex (.cmp .Is (.var 5) (.cst .non))) (.cons (.ret (.cst .non)) .nil) .nil) (.cons (.ret (.tupl (.cons (.sl (.var 1) none (some (.neg (.cst (.int 1))))) (.cons (.var 2) (.cons (.bin .Add (.tupl (.cons (.var 5) .nil)) (.var 3)) (.cons (.var 4) .nil)))))) .nil)))
noncomputable def f_gone_on:Fd:=⟨[(Ω "order"),(Ω "stack"),(Ω "around"),(Ω "todo"),(Ω "dump")],[(Ω "order"),(Ω "stack"),(Ω "around"),(Ω "todo"),(Ω "dump"),(Ω "E")],b_gone_on⟩
noncomputable def b_reckoned:Sxs:=(.cons (.set (.nm 5) (.call (Ω "worked") (.cons (.ix (.var 0) (.cst (.int 1))) (.cons (.ix (.var 1) (.neg (.cst (.int 2)))) (.cons (.ix (.var 1) (.neg (.cst (.int 1)))) .nil))))) (.cons (.iff (.ex (.cmp .Is (.var 5) (.cst .non))) (.cons (.ret (.cst .non)) .nil) .nil) (.cons (.ret (.tupl (.cons (.bin .Add (.sl (.var 1) none (some (.neg (.cst (.int 2))))) (.tupl (.cons (.var 5) .nil))) (.cons (.var 2) (.cons (.var 3) (.cons (.var 4) .nil)))))) .nil)))
noncomputable def f_reckoned:Fd:=⟨[(Ω "order"),(Ω "stack"),(Ω "around"),(Ω "todo"),(Ω "dump")],[(Ω "order"),(Ω "stack"),(Ω "around"),(Ω "todo"),(Ω "dump"),(Ω "N")],b_reckoned⟩
noncomputable def b_loud_step:Sxs:=(.cons (.iff (.ex (.cmp .Eq (.ix (.var 0) (.cst (.int 0))) (.cst (.str (Ω "apply"))))) (.cons (.set (.nm 5) (.call (Ω "applied") (.cons (.var 1) (.cons (.var 2) (.cons (.var 3) (.cons (.var 4) .nil)))))) .nil) (.cons (.iff (.ex (.cmp .Eq (.ix (.var 0) (.cst (.int 0))) (.cst (.str (Ω "choose"))))) (.cons (.set (.nm 5) (.call (Ω "gone_on") (.cons (.var 0) (.cons (.var 1) (.cons (.var 2) (.cons (.var 3) (.cons (.var 4) .nil))))))) .nil) (.cons (.set (.nm 5) (.call (Ω "reckoned") (.cons (.var 0) (.cons (.var 1) (.cons (.var 2) (.cons (.var 3) (.cons (.var 4) .nil))))))) .nil)) .nil)) (.cons (.ret (.call (Ω "loud_or_stuck") (.cons (.var 5) .nil))) .nil))
noncomputable def f_loud_step:Fd:=⟨[(Ω "order"),(Ω "stack"),(Ω "around"),(Ω "todo"),(Ω "dump")],[(Ω "order"),(Ω "stack"),(Ω "around"),(Ω "todo"),(Ω "dump"),(Ω "state")],b_loud_step⟩
noncomputable abbrev f_dump_step:Fd:=K31L.f_dump_step
noncomputable abbrev f_do_order:Fd:=K31L.f_do_order
noncomputable abbrev f_level_read:Fd:=K31L.f_level_read
noncomputable abbrev f_dump_read:Fd:=K31L.f_dump_read
noncomputable abbrev f_measure_of:Fd:=K31L.f_measure_of
noncomputable abbrev f_dump_left:Fd:=K31L.f_dump_left
noncomputable abbrev f_law_cell_at:Fd:=Gn.f_law_cell_at
noncomputable abbrev f_law_mixed:Fd:=Gn.f_law_mixed
noncomputable abbrev f_law_next:Fd:=Gn.f_law_next
noncomputable abbrev f_law_names:Fd:=Gn.f_law_names
noncomputable abbrev f_law_there:Fd:=Gn.f_law_there
noncomputable abbrev f_law_plain:Fd:=Gn.f_law_plain
noncomputable abbrev f_law_function:Fd:=Gn.f_law_function
noncomputable abbrev f_law_number:Fd:=Gn.f_law_number
noncomputable def f_law_any:Fd:=⟨[(Ω "_law_wish"),(Ω "_law_scope"),(Ω "_law_state"),(Ω "_law_names_here"),(Ω "_law_room")],[(Ω "_law_wish"),(Ω "_law_scope"),(Ω "_law_state"),(Ω "_law_names_here"),(Ω "_law_room"),(Ω "_law_number_here"),(Ω "_law_rest"),(Ω "_law_there_here"),(Ω "_law_asked_of"),(Ω "_law_first_here")],Gn.b_law_any⟩
noncomputable abbrev f_law_width:Fd:=Gn.f_law_width
noncomputable abbrev f_law_deep:Fd:=Gn.f_law_deep
noncomputable abbrev f_law_program:Fd:=Gn.f_law_program
noncomputable abbrev f_law_first:Fd:=K31L.f_law_first
noncomputable abbrev f_law_holds:Fd:=K31L.f_law_holds
noncomputable abbrev f_law:Fd:=Pn.f_law
noncomputable abbrev f_Pen___init__:Fd:=Tm.f_Pen___init__
noncomputable abbrev f_Pen_take_place:Fd:=Tm.f_Pen_take_place
noncomputable abbrev f_Pen_joined:Fd:=Pn.f_Pen_joined
noncomputable abbrev f_Pen_filled:Fd:=Tm.f_Pen_filled
noncomputable abbrev f_Pen_told:Fd:=Pn.f_Pen_told
noncomputable def tb:List (Str×Fd):=[((Ω "bound_names"),f_bound_names),((Ω "parts_of"),f_parts_of),((Ω "front_of"),f_front_of),((Ω "count_parts"),f_count_parts),((Ω "built"),f_built),((Ω "places"),f_places),((Ω "is_wide"),f_is_wide),((Ω "bound_to"),f_bound_to),((Ω "thing_of"),f_thing_of),((Ω "body_of"),f_body_of),((Ω "entered"),f_entered),((Ω "loud_or_stuck"),f_loud_or_stuck),((Ω "opened"),f_opened),((Ω "meant_by"),f_meant_by),((Ω "within"),f_within),((Ω "is_value"),f_is_value),((Ω "put_in"),f_put_in),((Ω "parts_first"),f_parts_first),((Ω "first_open"),f_first_open),((Ω "way_down"),f_way_down),((Ω "called"),f_called),((Ω "chosen"),f_chosen),((Ω "worked"),f_worked),((Ω "become"),f_become),((Ω "put_back"),f_put_back),((Ω "stepped"),f_stepped),((Ω "row_of"),f_row_of),((Ω "dump_begun"),f_dump_begun),((Ω "taken_off"),f_taken_off),((Ω "taken_apart"),f_taken_apart),((Ω "quiet_state"),f_quiet_state),((Ω "applied"),f_applied),((Ω "gone_on"),f_gone_on),((Ω "reckoned"),f_reckoned),((Ω "loud_step"),f_loud_step),((Ω "dump_step"),f_dump_step),((Ω "do_order"),f_do_order),((Ω "level_read"),f_level_read),((Ω "dump_read"),f_dump_read),((Ω "measure_of"),f_measure_of),((Ω "dump_left"),f_dump_left),((Ω "_law_cell_at"),f_law_cell_at),((Ω "_law_mixed"),f_law_mixed),((Ω "_law_next"),f_law_next),((Ω "_law_names"),f_law_names),((Ω "_law_there"),f_law_there),((Ω "_law_plain"),f_law_plain),((Ω "_law_function"),f_law_function),((Ω "_law_number"),f_law_number),((Ω "_law_any"),f_law_any),((Ω "_law_width"),f_law_width),((Ω "_law_deep"),f_law_deep),((Ω "_law_program"),f_law_program),((Ω "_law_first"),f_law_first),((Ω "_law_holds"),f_law_holds),((Ω "law"),f_law)]
noncomputable def ms:List (Str×Fd):=[(mnm (Ω "Pen") (Ω "__init__"),f_Pen___init__),(mnm (Ω "Pen") (Ω "take_place"),f_Pen_take_place),(mnm (Ω "Pen") (Ω "joined"),f_Pen_joined),(mnm (Ω "Pen") (Ω "filled"),f_Pen_filled),(mnm (Ω "Pen") (Ω "told"),f_Pen_told)]
noncomputable def cG:List (Str×D):=[((Ω "WIDEST"),(.int 120)),((Ω "AT_ONCE"),(.tup [(.str (Ω "num")),(.str (Ω "name")),(.str (Ω "fn")),(.str (Ω "rec"))])),((Ω "VALUES"),(.tup [(.str (Ω "num")),(.str (Ω "fn")),(.str (Ω "rec"))])),((Ω "BEYOND"),(.int 1000000)),((Ω "ORDERS"),(.tup [(.str (Ω "apply")),(.str (Ω "work")),(.str (Ω "choose"))])),((Ω "FORMS"),.kd (Ω "FORMS"))]
noncomputable def cD:List (Str×List (Key×D)):=[((Ω "FORMS"),[(.inr (Ω "fn"),(.tup [(.int 1),(.int 1)])),(.inr (Ω "rec"),(.tup [(.int 2),(.int 1)])),(.inr (Ω "call"),(.tup [(.int 0),(.int 2)])),(.inr (Ω "if"),(.tup [(.int 0),(.int 3)])),(.inr (Ω "+"),(.tup [(.int 0),(.int 2)])),(.inr (Ω "-"),(.tup [(.int 0),(.int 2)])),(.inr (Ω "*"),(.tup [(.int 0),(.int 2)])),(.inr (Ω "<"),(.tup [(.int 0),(.int 2)]))])]
noncomputable def pg:Pg:=⟨tb,fun x=>cG.lookup x,fun x=>cD.lookup x,1000000,ms⟩
noncomputable def kl:Kl:=⟨[(Ω "Pen")],[(Ω "most"),(Ω "used")],[((Ω "Pen"),(Ω "take_place")),((Ω "Pen"),(Ω "joined")),((Ω "Pen"),(Ω "filled")),((Ω "Pen"),(Ω "told"))],[(Ω "Pen")]⟩
noncomputable def top(i:Nat):Stmt:=PySem.Challenge.pw_samestride_k31_dump_begun_and_read.main.body.getD i (.Pass ⟨0,0,0,0⟩)
noncomputable def fs:List Str:=tb.map (·.1)
local macro_rules|`(tactic| wtm_at "chk")=>`(tactic| exact ⟨by constructor<;>decide +kernel,fun _ _ _ _ _ _ us hl=>by
   first
   | (have e:=us_0 (show us.length=0 from hl);subst e;rfl)
   | (obtain ⟨a0,e⟩:=us_1 (show us.length=1 from hl);subst e;rfl)
   | (obtain ⟨a0,a1,e⟩:=us_2 (show us.length=2 from hl);subst e;rfl)
   | (obtain ⟨a0,a1,a2,e⟩:=us_3 (show us.length=3 from hl);subst e;rfl)
   | (obtain ⟨a0,a1,a2,a3,e⟩:=us_4 (show us.length=4 from hl);subst e;rfl)
   | (obtain ⟨a0,a1,a2,a3,a4,e⟩:=us_5 (show us.length=5 from hl);subst e;rfl)
   | (obtain ⟨a0,a1,a2,a3,a4,a5,e⟩:=us_6 (show us.length=6 from hl);subst e;rfl)
   | (obtain ⟨a0,a1,a2,a3,a4,a5,a6,e⟩:=us_7 (show us.length=7 from hl);subst e;rfl),by decide +kernel⟩)
noncomputable abbrev s_bound_names:Stmt:=top 6
theorem k_bound_names:Chk kl fs (Ω "bound_names") (Ω "bound_names") f_bound_names s_bound_names:=by wtm_at "chk"
noncomputable abbrev s_parts_of:Stmt:=top 7
theorem k_parts_of:Chk kl fs (Ω "parts_of") (Ω "parts_of") f_parts_of s_parts_of:=by wtm_at "chk"
noncomputable abbrev s_front_of:Stmt:=top 8
theorem k_front_of:Chk kl fs (Ω "front_of") (Ω "front_of") f_front_of s_front_of:=by wtm_at "chk"
noncomputable abbrev s_count_parts:Stmt:=top 9
theorem k_count_parts:Chk kl fs (Ω "count_parts") (Ω "count_parts") f_count_parts s_count_parts:=by wtm_at "chk"
noncomputable abbrev s_built:Stmt:=top 10
theorem k_built:Chk kl fs (Ω "built") (Ω "built") f_built s_built:=by wtm_at "chk"
noncomputable abbrev s_places:Stmt:=top 11
theorem k_places:Chk kl fs (Ω "places") (Ω "places") f_places s_places:=by wtm_at "chk"
noncomputable abbrev s_is_wide:Stmt:=top 12
theorem k_is_wide:Chk kl fs (Ω "is_wide") (Ω "is_wide") f_is_wide s_is_wide:=by wtm_at "chk"
noncomputable abbrev s_bound_to:Stmt:=top 15
theorem k_bound_to:Chk kl fs (Ω "bound_to") (Ω "bound_to") f_bound_to s_bound_to:=by wtm_at "chk"
noncomputable abbrev s_thing_of:Stmt:=top 16
theorem k_thing_of:Chk kl fs (Ω "thing_of") (Ω "thing_of") f_thing_of s_thing_of:=by wtm_at "chk"
noncomputable abbrev s_body_of:Stmt:=top 17
theorem k_body_of:Chk kl fs (Ω "body_of") (Ω "body_of") f_body_of s_body_of:=by wtm_at "chk"
noncomputable abbrev s_entered:Stmt:=top 18
theorem k_entered:Chk kl fs (Ω "entered") (Ω "entered") f_entered s_entered:=by wtm_at "chk"
noncomputable abbrev s_loud_or_stuck:Stmt:=top 19
theorem k_loud_or_stuck:Chk kl fs (Ω "loud_or_stuck") (Ω "loud_or_stuck") f_loud_or_stuck s_loud_or_stuck:=by wtm_at "chk"
noncomputable abbrev s_opened:Stmt:=top 20
theorem k_opened:Chk kl fs (Ω "opened") (Ω "opened") f_opened s_opened:=by wtm_at "chk"
noncomputable abbrev s_meant_by:Stmt:=top 21
theorem k_meant_by:Chk kl fs (Ω "meant_by") (Ω "meant_by") f_meant_by s_meant_by:=by wtm_at "chk"
noncomputable abbrev s_within:Stmt:=top 22
theorem k_within:Chk kl fs (Ω "within") (Ω "within") f_within s_within:=by wtm_at "chk"
noncomputable abbrev s_is_value:Stmt:=top 27
theorem k_is_value:Chk kl fs (Ω "is_value") (Ω "is_value") f_is_value s_is_value:=by wtm_at "chk"
noncomputable abbrev s_put_in:Stmt:=top 28
theorem k_put_in:Chk kl fs (Ω "put_in") (Ω "put_in") f_put_in s_put_in:=by wtm_at "chk"
noncomputable abbrev s_parts_first:Stmt:=top 29
theorem k_parts_first:Chk kl fs (Ω "parts_first") (Ω "parts_first") f_parts_first s_parts_first:=by wtm_at "chk"
noncomputable abbrev s_first_open:Stmt:=top 30
theorem k_first_open:Chk kl fs (Ω "first_open") (Ω "first_open") f_first_open s_first_open:=by wtm_at "chk"
noncomputable abbrev s_way_down:Stmt:=top 31
theorem k_way_down:Chk kl fs (Ω "way_down") (Ω "way_down") f_way_down s_way_down:=by wtm_at "chk"
noncomputable abbrev s_called:Stmt:=top 32
theorem k_called:Chk kl fs (Ω "called") (Ω "called") f_called s_called:=by wtm_at "chk"
noncomputable abbrev s_chosen:Stmt:=top 33
theorem k_chosen:Chk kl fs (Ω "chosen") (Ω "chosen") f_chosen s_chosen:=by wtm_at "chk"
noncomputable abbrev s_worked:Stmt:=top 34
theorem k_worked:Chk kl fs (Ω "worked") (Ω "worked") f_worked s_worked:=by wtm_at "chk"
noncomputable abbrev s_become:Stmt:=top 35
theorem k_become:Chk kl fs (Ω "become") (Ω "become") f_become s_become:=by wtm_at "chk"
noncomputable abbrev s_put_back:Stmt:=top 36
theorem k_put_back:Chk kl fs (Ω "put_back") (Ω "put_back") f_put_back s_put_back:=by wtm_at "chk"
noncomputable abbrev s_stepped:Stmt:=top 37
theorem k_stepped:Chk kl fs (Ω "stepped") (Ω "stepped") f_stepped s_stepped:=by wtm_at "chk"
noncomputable abbrev s_row_of:Stmt:=top 38
theorem k_row_of:Chk kl fs (Ω "row_of") (Ω "row_of") f_row_of s_row_of:=by wtm_at "chk"
noncomputable abbrev s_dump_begun:Stmt:=top 41
theorem k_dump_begun:Chk kl fs (Ω "dump_begun") (Ω "dump_begun") f_dump_begun s_dump_begun:=by wtm_at "chk"
noncomputable abbrev s_taken_off:Stmt:=top 42
theorem k_taken_off:Chk kl fs (Ω "taken_off") (Ω "taken_off") f_taken_off s_taken_off:=by wtm_at "chk"
noncomputable abbrev s_taken_apart:Stmt:=top 43
theorem k_taken_apart:Chk kl fs (Ω "taken_apart") (Ω "taken_apart") f_taken_apart s_taken_apart:=by wtm_at "chk"
noncomputable abbrev s_quiet_state:Stmt:=top 44
theorem k_quiet_state:Chk kl fs (Ω "quiet_state") (Ω "quiet_state") f_quiet_state s_quiet_state:=by wtm_at "chk"
noncomputable abbrev s_applied:Stmt:=top 45
theorem k_applied:Chk kl fs (Ω "applied") (Ω "applied") f_applied s_applied:=by wtm_at "chk"
noncomputable abbrev s_gone_on:Stmt:=top 46
theorem k_gone_on:Chk kl fs (Ω "gone_on") (Ω "gone_on") f_gone_on s_gone_on:=by wtm_at "chk"
noncomputable abbrev s_reckoned:Stmt:=top 47
theorem k_reckoned:Chk kl fs (Ω "reckoned") (Ω "reckoned") f_reckoned s_reckoned:=by wtm_at "chk"
noncomputable abbrev s_loud_step:Stmt:=top 48
theorem k_loud_step:Chk kl fs (Ω "loud_step") (Ω "loud_step") f_loud_step s_loud_step:=by wtm_at "chk"
noncomputable abbrev s_dump_step:Stmt:=top 49
theorem k_dump_step:Chk kl fs (Ω "dump_step") (Ω "dump_step") f_dump_step s_dump_step:=by wtm_at "chk"
noncomputable abbrev s_do_order:Stmt:=top 50
theorem k_do_order:Chk kl fs (Ω "do_order") (Ω "do_order") f_do_order s_do_order:=by wtm_at "chk"
noncomputable abbrev s_level_read:Stmt:=top 51
theorem k_level_read:Chk kl fs (Ω "level_read") (Ω "level_read") f_level_read s_level_read:=by wtm_at "chk"
noncomputable abbrev s_dump_read:Stmt:=top 52
theorem k_dump_read:Chk kl fs (Ω "dump_read") (Ω "dump_read") f_dump_read s_dump_read:=by wtm_at "chk"
noncomputable abbrev s_measure_of:Stmt:=top 53
theorem k_measure_of:Chk kl fs (Ω "measure_of") (Ω "measure_of") f_measure_of s_measure_of:=by wtm_at "chk"
noncomputable abbrev s_dump_left:Stmt:=top 54
theorem k_dump_left:Chk kl fs (Ω "dump_left") (Ω "dump_left") f_dump_left s_dump_left:=by wtm_at "chk"
noncomputable abbrev s_law_cell_at:Stmt:=top 56
theorem k_law_cell_at:Chk kl fs (Ω "_law_cell_at") (Ω "_law_cell_at") f_law_cell_at s_law_cell_at:=by wtm_at "chk"
noncomputable abbrev s_law_mixed:Stmt:=top 57
theorem k_law_mixed:Chk kl fs (Ω "_law_mixed") (Ω "_law_mixed") f_law_mixed s_law_mixed:=by wtm_at "chk"
noncomputable abbrev s_law_next:Stmt:=top 58
theorem k_law_next:Chk kl fs (Ω "_law_next") (Ω "_law_next") f_law_next s_law_next:=by wtm_at "chk"
noncomputable abbrev s_law_names:Stmt:=top 59
theorem k_law_names:Chk kl fs (Ω "_law_names") (Ω "_law_names") f_law_names s_law_names:=by wtm_at "chk"
noncomputable abbrev s_law_there:Stmt:=top 60
theorem k_law_there:Chk kl fs (Ω "_law_there") (Ω "_law_there") f_law_there s_law_there:=by wtm_at "chk"
noncomputable abbrev s_law_plain:Stmt:=top 61
theorem k_law_plain:Chk kl fs (Ω "_law_plain") (Ω "_law_plain") f_law_plain s_law_plain:=by wtm_at "chk"
noncomputable abbrev s_law_function:Stmt:=top 62
theorem k_law_function:Chk kl fs (Ω "_law_function") (Ω "_law_function") f_law_function s_law_function:=by wtm_at "chk"
noncomputable abbrev s_law_number:Stmt:=top 63
theorem k_law_number:Chk kl fs (Ω "_law_number") (Ω "_law_number") f_law_number s_law_number:=by wtm_at "chk"
noncomputable abbrev s_law_any:Stmt:=top 64
theorem k_law_any:Chk kl fs (Ω "_law_any") (Ω "_law_any") f_law_any s_law_any:=by wtm_at "chk"
noncomputable abbrev s_law_width:Stmt:=top 65
theorem k_law_width:Chk kl fs (Ω "_law_width") (Ω "_law_width") f_law_width s_law_width:=by wtm_at "chk"
noncomputable abbrev s_law_deep:Stmt:=top 66
theorem k_law_deep:Chk kl fs (Ω "_law_deep") (Ω "_law_deep") f_law_deep s_law_deep:=by wtm_at "chk"
noncomputable abbrev s_law_program:Stmt:=top 67
theorem k_law_program:Chk kl fs (Ω "_law_program") (Ω "_law_program") f_law_program s_law_program:=by wtm_at "chk"
noncomputable abbrev s_law_first:Stmt:=top 68
theorem k_law_first:Chk kl fs (Ω "_law_first") (Ω "_law_first") f_law_first s_law_first:=by wtm_at "chk"
noncomputable abbrev s_law_holds:Stmt:=top 69
theorem k_law_holds:Chk kl fs (Ω "_law_holds") (Ω "_law_holds") f_law_holds s_law_holds:=by wtm_at "chk"
noncomputable abbrev s_law:Stmt:=top 70
theorem k_law:Chk kl fs (Ω "law") (Ω "law") f_law s_law:=by wtm_at "chk"
noncomputable abbrev s_Pen___init__:Stmt:=inClass (top 23) 0
theorem k_Pen___init__:Chk kl fs (Ω "__init__") (Ω "Pen.__init__") f_Pen___init__ s_Pen___init__:=by wtm_at "chk"
noncomputable abbrev s_Pen_take_place:Stmt:=inClass (top 23) 1
theorem k_Pen_take_place:Chk kl fs (Ω "take_place") (Ω "Pen.take_place") f_Pen_take_place s_Pen_take_place:=by wtm_at "chk"
noncomputable abbrev s_Pen_joined:Stmt:=inClass (top 23) 2
theorem k_Pen_joined:Chk kl fs (Ω "joined") (Ω "Pen.joined") f_Pen_joined s_Pen_joined:=by wtm_at "chk"
noncomputable abbrev s_Pen_filled:Stmt:=inClass (top 23) 3
theorem k_Pen_filled:Chk kl fs (Ω "filled") (Ω "Pen.filled") f_Pen_filled s_Pen_filled:=by wtm_at "chk"
noncomputable abbrev s_Pen_told:Stmt:=inClass (top 23) 4
theorem k_Pen_told:Chk kl fs (Ω "told") (Ω "Pen.told") f_Pen_told s_Pen_told:=by wtm_at "chk"
end K31
end
section
namespace K31
open PySem L2 IV
theorem law_at:pg.tb.lookup (Ω "law")=some f_law:=by kernel_rfl
theorem any_at:Gn.Alk pg (Ω "_law_any") Gn.f_law_any:=⟨f_law_any.ps,f_law_any.N,rfl,rfl,by kernel_rfl⟩
theorem mkr:Gn.Mkr pg:=⟨by kernel_rfl,by kernel_rfl,by kernel_rfl,by kernel_rfl,by kernel_rfl,by kernel_rfl,.same (by kernel_rfl),.same (by kernel_rfl),any_at,by kernel_rfl,by kernel_rfl,by kernel_rfl⟩
theorem tre:Gn.Tre pg:=by
 constructor
 all_goals (first|kernel_rfl|decide)
theorem trm:Tm.Trm pg:=by
 constructor
 exact tre
 all_goals (first|kernel_rfl|decide)
theorem trw:Tm.Trw pg:=by
 constructor
 exact trm
 all_goals (first|kernel_rfl|decide)
theorem pen:Pn.Pen pg:=by
 constructor
 exact trw
 exact mkr
 all_goals kernel_rfl
theorem lw:K31L.Lw pg:=by
 constructor
 exact pen
 all_goals kernel_rfl
theorem runs:∀ ns:List Int,ns.length≤63→∃ h',run pg (250+1) (Ω "law") [.ro (ns.map .int)] []=.ok (.bl true) h':=fun ns hl=>K31L.r_law lw ns hl
end K31
end
section
set_option maxHeartbeats 4000000
namespace K31
open PySem L2 IV PyProof.Rows
theorem md{Pr:Program}{w:World}{K:PySem.W.Frag}{h:Heap}{mg:Str→Option Value}{ca1:Addr}{t1:Tok}{q3:Addr}{r4:Option Addr}{n5:Nat}{v6:Array (Option Value)}{t8:Tok}{t9:Tok}{t10:Tok}{t11:Tok}{q13:Addr}{r14:Option Addr}{n15:Nat}{v16:Array (Option Value)}{t18:Tok}{t19:Tok}{t20:Tok}{t22:Tok}{q24:Addr}{r25:Option Addr}{n26:Nat}{v27:Array (Option Value)}{t29:Tok}{t30:Tok}{t31:Tok}{q33:Addr}{e34:Nat}{j38:Int}{t39:Tok}{q40:Addr}{r41:Option Addr}{n42:Nat}{v43:Array (Option Value)}{t45:Tok}{t46:Tok}{j47:Int}{t48:Tok}{q49:Addr}{r50:Option Addr}{n51:Nat}{v52:Array (Option Value)}{t54:Tok}{t55:Tok}{j56:Int}{t57:Tok}{q58:Addr}{r59:Option Addr}{n60:Nat}{v61:Array (Option Value)}{t63:Tok}{t64:Tok}{j65:Int}{t66:Tok}{q67:Addr}{r68:Option Addr}{n69:Nat}{v70:Array (Option Value)}{t72:Tok}{t73:Tok}{j74:Int}{t75:Tok}{q76:Addr}{r77:Option Addr}{n78:Nat}{v79:Array (Option Value)}{t81:Tok}{t82:Tok}{j83:Int}{t84:Tok}{q85:Addr}{r86:Option Addr}{n87:Nat}{v88:Array (Option Value)}{t90:Tok}{t91:Tok}{j92:Int}{t93:Tok}{q94:Addr}{r95:Option Addr}{n96:Nat}{v97:Array (Option Value)}{t99:Tok}{t100:Tok}{j101:Int}{t102:Tok}{q103:Addr}{r104:Option Addr}{n105:Nat}{v106:Array (Option Value)}{t108:Tok}{t109:Tok}(X:K.In h)(G:h.Ns mainGlobals mg)
   (tb0:tupsBare K=true)
   (d1:DefG K (Ω "bound_names") s_bound_names)
   (d2:DefG K (Ω "parts_of") s_parts_of)
   (d3:DefG K (Ω "front_of") s_front_of)
   (d4:DefG K (Ω "count_parts") s_count_parts)
   (d5:DefG K (Ω "built") s_built)
   (d6:DefG K (Ω "places") s_places)
   (d7:DefG K (Ω "is_wide") s_is_wide)
   (d8:DefG K (Ω "bound_to") s_bound_to)
   (d9:DefG K (Ω "thing_of") s_thing_of)
   (d10:DefG K (Ω "body_of") s_body_of)
   (d11:DefG K (Ω "entered") s_entered)
   (d12:DefG K (Ω "loud_or_stuck") s_loud_or_stuck)
   (d13:DefG K (Ω "opened") s_opened)
   (d14:DefG K (Ω "meant_by") s_meant_by)
   (d15:DefG K (Ω "within") s_within)
   (d16:DefG K (Ω "is_value") s_is_value)
   (d17:DefG K (Ω "put_in") s_put_in)
   (d18:DefG K (Ω "parts_first") s_parts_first)
   (d19:DefG K (Ω "first_open") s_first_open)
   (d20:DefG K (Ω "way_down") s_way_down)
   (d21:DefG K (Ω "called") s_called)
   (d22:DefG K (Ω "chosen") s_chosen)
   (d23:DefG K (Ω "worked") s_worked)
   (d24:DefG K (Ω "become") s_become)
   (d25:DefG K (Ω "put_back") s_put_back)
   (d26:DefG K (Ω "stepped") s_stepped)
   (d27:DefG K (Ω "row_of") s_row_of)
   (d28:DefG K (Ω "dump_begun") s_dump_begun)
   (d29:DefG K (Ω "taken_off") s_taken_off)
   (d30:DefG K (Ω "taken_apart") s_taken_apart)
   (d31:DefG K (Ω "quiet_state") s_quiet_state)
   (d32:DefG K (Ω "applied") s_applied)
   (d33:DefG K (Ω "gone_on") s_gone_on)
   (d34:DefG K (Ω "reckoned") s_reckoned)
   (d35:DefG K (Ω "loud_step") s_loud_step)
   (d36:DefG K (Ω "dump_step") s_dump_step)
   (d37:DefG K (Ω "do_order") s_do_order)
   (d38:DefG K (Ω "level_read") s_level_read)
   (d39:DefG K (Ω "dump_read") s_dump_read)
   (d40:DefG K (Ω "measure_of") s_measure_of)
   (d41:DefG K (Ω "dump_left") s_dump_left)
   (d42:DefG K (Ω "_law_cell_at") s_law_cell_at)
   (d43:DefG K (Ω "_law_mixed") s_law_mixed)
   (d44:DefG K (Ω "_law_next") s_law_next)
   (d45:DefG K (Ω "_law_names") s_law_names)
   (d46:DefG K (Ω "_law_there") s_law_there)
   (d47:DefG K (Ω "_law_plain") s_law_plain)
   (d48:DefG K (Ω "_law_function") s_law_function)
   (d49:DefG K (Ω "_law_number") s_law_number)
   (d50:DefG K (Ω "_law_any") s_law_any)
   (d51:DefG K (Ω "_law_width") s_law_width)
   (d52:DefG K (Ω "_law_deep") s_law_deep)
   (d53:DefG K (Ω "_law_program") s_law_program)
   (d54:DefG K (Ω "_law_first") s_law_first)
   (d55:DefG K (Ω "_law_holds") s_law_holds)
   (d56:DefG K (Ω "law") s_law)
   (y1a:PySem.W.nsIn K mainGlobals (Ω "Pen")=some (some (.ref ca1))) (y1b:PySem.W.plainGet K ca1 Str.empty=true) (y1c:PySem.W.hasDictIn K ca1=true) (y1d:PySem.W.plainOver K ca1=true) (y1e:PySem.W.findIn K (.ref ca1) "__setattr__" = some (some (.builtin "object.__setattr__")))
   (y1n1:PySem.W.findIn K (.ref ca1) (Ω "most")=some none)
   (y1n2:PySem.W.findIn K (.ref ca1) (Ω "used")=some none)
   (y1m:PySem.W.makesIn K ca1=true) (y1k:PySem.W.keepIn K (.ref ca1)=true)
   (u1:MetG K ca1 (Ω "__init__") (Ω "Pen.__init__") s_Pen___init__)
   (u2:MetG K ca1 (Ω "take_place") (Ω "Pen.take_place") s_Pen_take_place)
   (u3:MetG K ca1 (Ω "joined") (Ω "Pen.joined") s_Pen_joined)
   (u4:MetG K ca1 (Ω "filled") (Ω "Pen.filled") s_Pen_filled)
   (u5:MetG K ca1 (Ω "told") (Ω "Pen.told") s_Pen_told)
   (z1:PySem.W.nsIn K mainGlobals (Ω "len")=some none)
   (z2:PySem.W.nsIn K mainGlobals (Ω "isinstance")=some none)
   (z3:PySem.W.nsIn K mainGlobals (Ω "int")=some none)
   (z4:PySem.W.nsIn K mainGlobals (Ω "tuple")=some none)
   (z5:PySem.W.nsIn K mainGlobals (Ω "list")=some none)
   (z6:PySem.W.nsIn K mainGlobals (Ω "sum")=some none)
   (z7:PySem.W.nsIn K mainGlobals (Ω "all")=some none)
   (z8:PySem.W.nsIn K mainGlobals (Ω "sorted")=some none)
   (z9:PySem.W.nsIn K mainGlobals (Ω "range")=some none)
   (z10:PySem.W.nsIn K mainGlobals (Ω "enumerate")=some none)
   (z11:PySem.W.nsIn K mainGlobals (Ω "reversed")=some none)
   (z12:PySem.W.nsIn K mainGlobals (Ω "str")=some none)
   (z13:PySem.W.nsIn K mainGlobals (Ω "bool")=some none)
   (z14:PySem.W.nsIn K mainGlobals (Ω "max")=some none)
   (g2:PySem.W.nsIn K mainGlobals (Ω "WIDEST")=some (some (.int 120 t1)))
   (h7:K.lookup q3=some ⟨.type "tuple",r4,.seq #[.str (Ω "num") t8,.str (Ω "name") t9,.str (Ω "fn") t10,.str (Ω "rec") t11] n5,v6⟩)
   (g12:PySem.W.nsIn K mainGlobals (Ω "AT_ONCE")=some (some (.ref q3)))
   (h17:K.lookup q13=some ⟨.type "tuple",r14,.seq #[.str (Ω "num") t18,.str (Ω "fn") t19,.str (Ω "rec") t20] n15,v16⟩)
   (g21:PySem.W.nsIn K mainGlobals (Ω "VALUES")=some (some (.ref q13)))
   (g23:PySem.W.nsIn K mainGlobals (Ω "BEYOND")=some (some (.int 1000000 t22)))
   (h28:K.lookup q24=some ⟨.type "tuple",r25,.seq #[.str (Ω "apply") t29,.str (Ω "work") t30,.str (Ω "choose") t31] n26,v27⟩)
   (g32:PySem.W.nsIn K mainGlobals (Ω "ORDERS")=some (some (.ref q24)))
   (h44:K.lookup q40=some ⟨.type "tuple",r41,.seq #[.int 1 t45,.int 1 t46] n42,v43⟩)
   (h53:K.lookup q49=some ⟨.type "tuple",r50,.seq #[.int 2 t54,.int 1 t55] n51,v52⟩)
   (h62:K.lookup q58=some ⟨.type "tuple",r59,.seq #[.int 0 t63,.int 2 t64] n60,v61⟩)
   (h71:K.lookup q67=some ⟨.type "tuple",r68,.seq #[.int 0 t72,.int 3 t73] n69,v70⟩)
   (h80:K.lookup q76=some ⟨.type "tuple",r77,.seq #[.int 0 t81,.int 2 t82] n78,v79⟩)
   (h89:K.lookup q85=some ⟨.type "tuple",r86,.seq #[.int 0 t90,.int 2 t91] n87,v88⟩)
   (h98:K.lookup q94=some ⟨.type "tuple",r95,.seq #[.int 0 t99,.int 2 t100] n96,v97⟩)
   (h107:K.lookup q103=some ⟨.type "tuple",r104,.seq #[.int 0 t108,.int 2 t109] n105,v106⟩)
   (g35:PySem.W.nsIn K mainGlobals (Ω "FORMS")=some (some (.ref q33)))
   (h36:K.lookup q33=some ⟨.type "dict",none,.dict #[⟨j38,.str (Ω "fn") t39,.ref q40⟩,⟨j47,.str (Ω "rec") t48,.ref q49⟩,⟨j56,.str (Ω "call") t57,.ref q58⟩,⟨j65,.str (Ω "if") t66,.ref q67⟩,⟨j74,.str (Ω "+") t75,.ref q76⟩,⟨j83,.str (Ω "-") t84,.ref q85⟩,⟨j92,.str (Ω "*") t93,.ref q94⟩,⟨j101,.str (Ω "<") t102,.ref q103⟩] e34,#[]⟩)
   (x110:j38=hashStr w (Ω "fn"))
   (x111:j47=hashStr w (Ω "rec"))
   (x112:j56=hashStr w (Ω "call"))
   (x113:j65=hashStr w (Ω "if"))
   (x114:j74=hashStr w (Ω "+"))
   (x115:j83=hashStr w (Ω "-"))
   (x116:j92=hashStr w (Ω "*"))
   (x117:j101=hashStr w (Ω "<"))
   (w37:(q33==sysModules)=false):Md Pr w K mg pg kl:=by
 have D_FORMS:∃ a kvs',mg (Ω "FORMS")=some (.ref a)∧DkK Pr w K a kvs'∧∀ H μ,RKs ⟨K,mg⟩ H μ (cD.lookup (Ω "FORMS") |>.getD []) kvs':=by
   refine ⟨q33,[(Sum.inr (Ω "fn"),(.ref q40)),(Sum.inr (Ω "rec"),(.ref q49)),(Sum.inr (Ω "call"),(.ref q58)),(Sum.inr (Ω "if"),(.ref q67)),(Sum.inr (Ω "+"),(.ref q76)),(Sum.inr (Ω "-"),(.ref q85)),(Sum.inr (Ω "*"),(.ref q94)),(Sum.inr (Ω "<"),(.ref q103))],PySem.W.mg_of X G g35,⟨_,_,_,[(Sum.inr (Ω "fn"),.ref q40),(Sum.inr (Ω "rec"),.ref q49),(Sum.inr (Ω "call"),.ref q58),(Sum.inr (Ω "if"),.ref q67),(Sum.inr (Ω "+"),.ref q76),(Sum.inr (Ω "-"),.ref q85),(Sum.inr (Ω "*"),.ref q94),(Sum.inr (Ω "<"),.ref q103)],h36,⟨rfl,rfl,rfl⟩,rfl,?_,(.cons (keyIs_str (Ω "fn") t39) rfl (.cons (keyIs_str (Ω "rec") t48) rfl (.cons (keyIs_str (Ω "call") t57) rfl (.cons (keyIs_str (Ω "if") t66) rfl (.cons (keyIs_str (Ω "+") t75) rfl (.cons (keyIs_str (Ω "-") t84) rfl (.cons (keyIs_str (Ω "*") t93) rfl (.cons (keyIs_str (Ω "<") t102) rfl .nil)))))))),(by show ([Sum.inr (Ω "fn"),Sum.inr (Ω "rec"),Sum.inr (Ω "call"),Sum.inr (Ω "if"),Sum.inr (Ω "+"),Sum.inr (Ω "-"),Sum.inr (Ω "*"),Sum.inr (Ω "<")]:List Key).Nodup;decide +kernel),(.cons ⟨rfl,relv_ref⟩ (.cons ⟨rfl,relv_ref⟩ (.cons ⟨rfl,relv_ref⟩ (.cons ⟨rfl,relv_ref⟩ (.cons ⟨rfl,relv_ref⟩ (.cons ⟨rfl,relv_ref⟩ (.cons ⟨rfl,relv_ref⟩ (.cons ⟨rfl,relv_ref⟩ .nil)))))))),(by show 8≤sizeLine;decide),w37⟩,fun _ _=>(.cons (.tup (sqT_K (vs:=[(.int 1),(.int 1)]) h44 (by show 2≤sizeLine;decide) (.cons relv_int (.cons relv_int .nil))) (.cons (.int _) (.cons (.int _) .nil))) (.cons (.tup (sqT_K (vs:=[(.int 2),(.int 1)]) h53 (by show 2≤sizeLine;decide) (.cons relv_int (.cons relv_int .nil))) (.cons (.int _) (.cons (.int _) .nil))) (.cons (.tup (sqT_K (vs:=[(.int 0),(.int 2)]) h62 (by show 2≤sizeLine;decide) (.cons relv_int (.cons relv_int .nil))) (.cons (.int _) (.cons (.int _) .nil))) (.cons (.tup (sqT_K (vs:=[(.int 0),(.int 3)]) h71 (by show 2≤sizeLine;decide) (.cons relv_int (.cons relv_int .nil))) (.cons (.int _) (.cons (.int _) .nil))) (.cons (.tup (sqT_K (vs:=[(.int 0),(.int 2)]) h80 (by show 2≤sizeLine;decide) (.cons relv_int (.cons relv_int .nil))) (.cons (.int _) (.cons (.int _) .nil))) (.cons (.tup (sqT_K (vs:=[(.int 0),(.int 2)]) h89 (by show 2≤sizeLine;decide) (.cons relv_int (.cons relv_int .nil))) (.cons (.int _) (.cons (.int _) .nil))) (.cons (.tup (sqT_K (vs:=[(.int 0),(.int 2)]) h98 (by show 2≤sizeLine;decide) (.cons relv_int (.cons relv_int .nil))) (.cons (.int _) (.cons (.int _) .nil))) (.cons (.tup (sqT_K (vs:=[(.int 0),(.int 2)]) h107 (by show 2≤sizeLine;decide) (.cons relv_int (.cons relv_int .nil))) (.cons (.int _) (.cons (.int _) .nil))) .nil))))))))⟩
   exact (by
       intro e he
       simp only [List.mem_toArray,Ωr,List.not_mem_nil,or_false] at he
       rcases he with rfl|rfl|rfl|rfl|rfl|rfl|rfl|rfl
       · exact ⟨Sum.inr (Ω "fn"),keyIs_str (Ω "fn") t39,x110⟩
       · exact ⟨Sum.inr (Ω "rec"),keyIs_str (Ω "rec") t48,x111⟩
       · exact ⟨Sum.inr (Ω "call"),keyIs_str (Ω "call") t57,x112⟩
       · exact ⟨Sum.inr (Ω "if"),keyIs_str (Ω "if") t66,x113⟩
       · exact ⟨Sum.inr (Ω "+"),keyIs_str (Ω "+") t75,x114⟩
       · exact ⟨Sum.inr (Ω "-"),keyIs_str (Ω "-") t84,x115⟩
       · exact ⟨Sum.inr (Ω "*"),keyIs_str (Ω "*") t93,x116⟩
       · exact ⟨Sum.inr (Ω "<"),keyIs_str (Ω "<") t102,x117⟩
     )
 refine ⟨tb0,fun x kvs hx=>?_,fun x d hx=>?_,?_,fun x fd hx=>?_,?_,?_,?_⟩
 · have hm:(x,kvs)∈cD:=lookup_mem hx
   have e:(x,kvs)=((Ω "FORMS"),(cD.lookup (Ω "FORMS") |>.getD [])):=by
     simp only [cD,Ωr,List.not_mem_nil,or_false] at hm
     exact hm
   cases e
   exact D_FORMS
 · have hm:(x,d)∈cG:=lookup_mem hx
   have all:All (fun p:Str×D=>∃ v u,mg p.1=some u∧RelV v u∧∀ H μ,RD ⟨K,mg⟩ H μ p.2 v) cG:=⟨⟨(.int 120),_,PySem.W.mg_of X G g2,relv_int,fun _ _=>(.int _)⟩,⟨(.ref q3),_,PySem.W.mg_of X G g12,relv_ref,fun _ _=>(.tup (sqT_K (vs:=[(.str (Ω "num")),(.str (Ω "name")),(.str (Ω "fn")),(.str (Ω "rec"))]) h7 (by show 4≤sizeLine;decide) (.cons relv_str (.cons relv_str (.cons relv_str (.cons relv_str .nil))))) (.cons (.str _ (by decide +kernel)) (.cons (.str _ (by decide +kernel)) (.cons (.str _ (by decide +kernel)) (.cons (.str _ (by decide +kernel)) .nil)))))⟩,⟨(.ref q13),_,PySem.W.mg_of X G g21,relv_ref,fun _ _=>(.tup (sqT_K (vs:=[(.str (Ω "num")),(.str (Ω "fn")),(.str (Ω "rec"))]) h17 (by show 3≤sizeLine;decide) (.cons relv_str (.cons relv_str (.cons relv_str .nil)))) (.cons (.str _ (by decide +kernel)) (.cons (.str _ (by decide +kernel)) (.cons (.str _ (by decide +kernel)) .nil))))⟩,⟨(.int 1000000),_,PySem.W.mg_of X G g23,relv_int,fun _ _=>(.int _)⟩,⟨(.ref q24),_,PySem.W.mg_of X G g32,relv_ref,fun _ _=>(.tup (sqT_K (vs:=[(.str (Ω "apply")),(.str (Ω "work")),(.str (Ω "choose"))]) h28 (by show 3≤sizeLine;decide) (.cons relv_str (.cons relv_str (.cons relv_str .nil)))) (.cons (.str _ (by decide +kernel)) (.cons (.str _ (by decide +kernel)) (.cons (.str _ (by decide +kernel)) .nil))))⟩,⟨.ref q33,_,PySem.W.mg_of X G g35,rfl,fun _ _=>.kd (PySem.W.mg_of X G g35)⟩,trivial⟩
   exact all.mem _ hm
 · have all:All (fun x:Str=>mg x=none) ["len", "isinstance", "int", "tuple", "list", "sum", "all", "sorted", "range", "enumerate", "reversed", "str", "bool", "max"]:=⟨PySem.W.mg_none_of X G z1,PySem.W.mg_none_of X G z2,PySem.W.mg_none_of X G z3,PySem.W.mg_none_of X G z4,PySem.W.mg_none_of X G z5,PySem.W.mg_none_of X G z6,PySem.W.mg_none_of X G z7,PySem.W.mg_none_of X G z8,PySem.W.mg_none_of X G z9,PySem.W.mg_none_of X G z10,PySem.W.mg_none_of X G z11,PySem.W.mg_none_of X G z12,PySem.W.mg_none_of X G z13,PySem.W.mg_none_of X G z14,trivial⟩
   exact all.mem
 · have hm:(x,fd)∈tb:=lookup_mem hx
   have all:All (fun p:Str×Fd=>∃ st f fdd,DefOk K mg kl fs p.1 p.2 st f fdd) tb:=⟨defg_of X G d1 k_bound_names,defg_of X G d2 k_parts_of,defg_of X G d3 k_front_of,defg_of X G d4 k_count_parts,defg_of X G d5 k_built,defg_of X G d6 k_places,defg_of X G d7 k_is_wide,defg_of X G d8 k_bound_to,defg_of X G d9 k_thing_of,defg_of X G d10 k_body_of,defg_of X G d11 k_entered,defg_of X G d12 k_loud_or_stuck,defg_of X G d13 k_opened,defg_of X G d14 k_meant_by,defg_of X G d15 k_within,defg_of X G d16 k_is_value,defg_of X G d17 k_put_in,defg_of X G d18 k_parts_first,defg_of X G d19 k_first_open,defg_of X G d20 k_way_down,defg_of X G d21 k_called,defg_of X G d22 k_chosen,defg_of X G d23 k_worked,defg_of X G d24 k_become,defg_of X G d25 k_put_back,defg_of X G d26 k_stepped,defg_of X G d27 k_row_of,defg_of X G d28 k_dump_begun,defg_of X G d29 k_taken_off,defg_of X G d30 k_taken_apart,defg_of X G d31 k_quiet_state,defg_of X G d32 k_applied,defg_of X G d33 k_gone_on,defg_of X G d34 k_reckoned,defg_of X G d35 k_loud_step,defg_of X G d36 k_dump_step,defg_of X G d37 k_do_order,defg_of X G d38 k_level_read,defg_of X G d39 k_dump_read,defg_of X G d40 k_measure_of,defg_of X G d41 k_dump_left,defg_of X G d42 k_law_cell_at,defg_of X G d43 k_law_mixed,defg_of X G d44 k_law_next,defg_of X G d45 k_law_names,defg_of X G d46 k_law_there,defg_of X G d47 k_law_plain,defg_of X G d48 k_law_function,defg_of X G d49 k_law_number,defg_of X G d50 k_law_any,defg_of X G d51 k_law_width,defg_of X G d52 k_law_deep,defg_of X G d53 k_law_program,defg_of X G d54 k_law_first,defg_of X G d55 k_law_holds,defg_of X G d56 k_law,trivial⟩
   exact all.mem _ hm
 · have all:All (fun C=>∃ a,mg C=some (.ref a)∧Cls K a∧∀ f∈kl.ats,NoAttr K a f) kl.cs:=⟨⟨ca1,PySem.W.mg_of X G y1a,⟨y1b,y1c,y1d,y1e⟩,(show All (fun f=>NoAttr K ca1 f) kl.ats from ⟨y1n1,y1n2,trivial⟩).mem⟩,trivial⟩
   exact all.mem
 · have all:All (fun p:Str×Str=>∃ a f fdd fd st q,mg p.1=some (.ref a)∧Cls K a∧Meth K a p.2 f∧pg.look (mnm p.1 p.2)=some fd∧BodyOk K kl (pg.tb.map (·.1)) p.2 q fd st f fdd) kl.ms:=⟨metg_of X G y1a ⟨y1b,y1c,y1d,y1e⟩ u2 k_Pen_take_place (by kernel_rfl),metg_of X G y1a ⟨y1b,y1c,y1d,y1e⟩ u3 k_Pen_joined (by kernel_rfl),metg_of X G y1a ⟨y1b,y1c,y1d,y1e⟩ u4 k_Pen_filled (by kernel_rfl),metg_of X G y1a ⟨y1b,y1c,y1d,y1e⟩ u5 k_Pen_told (by kernel_rfl),trivial⟩
   exact all.mem
 · have all:All (fun C:Str=>∃ a f fdd fd st q,mg C=some (.ref a)∧Mk K a f∧pg.look (mnm C (Ω "__init__"))=some fd∧BodyOk K kl (pg.tb.map (·.1)) (Ω "__init__") q fd st f fdd) kl.is:=⟨mkg_of X G y1a y1m y1k u1 k_Pen___init__ (by kernel_rfl),trivial⟩
   exact all.mem
end K31
end
section
set_option maxHeartbeats 4000000
open PySem PySem.W PyProof.Rows
local macro_rules|`(tactic| wtm_at "dg")=>`(tactic| (refine' ⟨_,_,?na,L2.fun_mk ?l ?c ?k⟩;(case na=>k_is);(case l=>k_is);(case c=>k_is);(case k=>k_is)))
local macro_rules|`(tactic| wtm_at "mg")=>`(tactic| (refine' ⟨_,_,?na,?f,?k,L2.fun_mk ?l ?c ?kk⟩;(case na=>k_is);(case f=>k_is);(case l=>k_is);(case c=>k_is);(case k=>k_is);(case kk=>k_is)))
set_option maxRecDepth 100000 in
set_option maxHeartbeats 0 in
theorem PySem.Challenge.cw_samestride_k31_dump_begun_and_read_holds : PySem.Challenge.rw_samestride_k31_dump_begun_and_read.Holds := by
 refine K31hd ?_
 k_fill
 refine IV.walkR (l:=PySem.Challenge.rw_samestride_k31_dump_begun_and_read) (P:=K31.pg) 250 rfl rfl rfl ⟨rfl,by decide,by decide⟩ (kl:=K31.kl) (fun w h Y=>PySem.W.kIn_of Y) K31.law_at rfl K31.runs ?MM0
 case MM0 =>
   intro w mg h KX G
   refine' K31.md KX G ?tb0 ?d1 ?d2 ?d3 ?d4 ?d5 ?d6 ?d7 ?d8 ?d9 ?d10 ?d11 ?d12 ?d13 ?d14 ?d15 ?d16 ?d17 ?d18 ?d19 ?d20 ?d21 ?d22 ?d23 ?d24 ?d25 ?d26 ?d27 ?d28 ?d29 ?d30 ?d31 ?d32 ?d33 ?d34 ?d35 ?d36 ?d37 ?d38 ?d39 ?d40 ?d41 ?d42 ?d43 ?d44 ?d45 ?d46 ?d47 ?d48 ?d49 ?d50 ?d51 ?d52 ?d53 ?d54 ?d55 ?d56 ?y1a ?y1b ?y1c ?y1d ?y1e ?y1n1 ?y1n2 ?y1m ?y1k ?u1 ?u2 ?u3 ?u4 ?u5 ?z1 ?z2 ?z3 ?z4 ?z5 ?z6 ?z7 ?z8 ?z9 ?z10 ?z11 ?z12 ?z13 ?z14 ?g2 ?h7 ?g12 ?h17 ?g21 ?g23 ?h28 ?g32 ?h44 ?h53 ?h62 ?h71 ?h80 ?h89 ?h98 ?h107 ?g35 ?h36 ?x110 ?x111 ?x112 ?x113 ?x114 ?x115 ?x116 ?x117 ?w37
   (case tb0=>(first|k_is|kernel_rfl|decide +kernel))
   (case y1a=>k_is)
   (case y1b=>k_is)
   (case y1c=>k_is)
   (case y1d=>k_is)
   (case y1e=>k_is)
   (case y1n1=>k_is)
   (case y1n2=>k_is)
   (case y1m=>k_is)
   (case y1k=>k_is)
   (case u1=>wtm_at "mg")
   (case u2=>wtm_at "mg")
   (case u3=>wtm_at "mg")
   (case u4=>wtm_at "mg")
   (case u5=>wtm_at "mg")
   (case d1=>wtm_at "dg")
   (case d2=>wtm_at "dg")
   (case d3=>wtm_at "dg")
   (case d4=>wtm_at "dg")
   (case d5=>wtm_at "dg")
   (case d6=>wtm_at "dg")
   (case d7=>wtm_at "dg")
   (case d8=>wtm_at "dg")
   (case d9=>wtm_at "dg")
   (case d10=>wtm_at "dg")
   (case d11=>wtm_at "dg")
   (case d12=>wtm_at "dg")
   (case d13=>wtm_at "dg")
   (case d14=>wtm_at "dg")
   (case d15=>wtm_at "dg")
   (case d16=>wtm_at "dg")
   (case d17=>wtm_at "dg")
   (case d18=>wtm_at "dg")
   (case d19=>wtm_at "dg")
   (case d20=>wtm_at "dg")
   (case d21=>wtm_at "dg")
   (case d22=>wtm_at "dg")
   (case d23=>wtm_at "dg")
   (case d24=>wtm_at "dg")
   (case d25=>wtm_at "dg")
   (case d26=>wtm_at "dg")
   (case d27=>wtm_at "dg")
   (case d28=>wtm_at "dg")
   (case d29=>wtm_at "dg")
   (case d30=>wtm_at "dg")
   (case d31=>wtm_at "dg")
   (case d32=>wtm_at "dg")
   (case d33=>wtm_at "dg")
   (case d34=>wtm_at "dg")
   (case d35=>wtm_at "dg")
   (case d36=>wtm_at "dg")
   (case d37=>wtm_at "dg")
   (case d38=>wtm_at "dg")
   (case d39=>wtm_at "dg")
   (case d40=>wtm_at "dg")
   (case d41=>wtm_at "dg")
   (case d42=>wtm_at "dg")
   (case d43=>wtm_at "dg")
   (case d44=>wtm_at "dg")
   (case d45=>wtm_at "dg")
   (case d46=>wtm_at "dg")
   (case d47=>wtm_at "dg")
   (case d48=>wtm_at "dg")
   (case d49=>wtm_at "dg")
   (case d50=>wtm_at "dg")
   (case d51=>wtm_at "dg")
   (case d52=>wtm_at "dg")
   (case d53=>wtm_at "dg")
   (case d54=>wtm_at "dg")
   (case d55=>wtm_at "dg")
   (case d56=>wtm_at "dg")
   (case z1=>k_is)
   (case z2=>k_is)
   (case z3=>k_is)
   (case z4=>k_is)
   (case z5=>k_is)
   (case z6=>k_is)
   (case z7=>k_is)
   (case z8=>k_is)
   (case z9=>k_is)
   (case z10=>k_is)
   (case z11=>k_is)
   (case z12=>k_is)
   (case z13=>k_is)
   (case z14=>k_is)
   (case g2=>k_is)
   (case g12=>k_is)
   (case h7=>k_is)
   (case g21=>k_is)
   (case h17=>k_is)
   (case g23=>k_is)
   (case g32=>k_is)
   (case h28=>k_is)
   (case g35=>k_is)
   (case h36=>k_is)
   (case h44=>k_is)
   (case h53=>k_is)
   (case h62=>k_is)
   (case h71=>k_is)
   (case h80=>k_is)
   (case h89=>k_is)
   (case h98=>k_is)
   (case h107=>k_is)
   (case x110=>(first|rfl|k_is|fail))
   (case x111=>(first|rfl|k_is|fail))
   (case x112=>(first|rfl|k_is|fail))
   (case x113=>(first|rfl|k_is|fail))
   (case x114=>(first|rfl|k_is|fail))
   (case x115=>(first|rfl|k_is|fail))
   (case x116=>(first|rfl|k_is|fail))
   (case x117=>(first|rfl|k_is|fail))
   (case w37=>rfl)
end
