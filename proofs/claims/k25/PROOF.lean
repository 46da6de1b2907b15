import PyProof.Rows.All
import Wide.All
import OpenK.AllK
import Wide.FinOn
import PyProof.EqAt
import PyProof.EqKinds
import PyProof.TupleCall
import Lean
import PySem.Challenge.RW_samestride_k25_whole_rows_in_step
set_option Elab.async false
set_option linter.all false
set_option maxRecDepth 100000
open PySem renaming wpAny_bind->Ya
open PySem renaming Shared->Yb
open PySem renaming wpAny_pure->Yc
open PySem renaming mainGlobals->Yd
open PySem renaming sysModules->Ye
open PySem renaming wpAny_mono->Yf
open PySem renaming World->Yg
open PySem renaming Program->Yh
open PySem renaming Addr->Yi
open PySem renaming Value->Yj
open PySem.W renaming Frag->Yk
open PySem.W renaming nsIn->Yl
open PySem.W renaming mg_none_of->Ym
open PySem.Heap renaming lt_size->Yn
open PySem.NameKind renaming free->Yo
open PySem.PyData renaming strOk->Yp
open PySem.StrLaws renaming sliceText->Yq
open PySem renaming wpAny_newObj_type->Yr
open List renaming mem_append_left->Ys
open List renaming append_nil->Yt
open List renaming length_map->Yu
open Option renaming map_some->Yv
open Nat renaming lt_irrefl->Yw
open Nat renaming zero_le->Yy
open Option renaming bind_some->Yz
open PySem renaming starEach->YA
open PySem renaming wpAny->YB
open PySem renaming sizeLine_eq->YC
open PySem.Value renaming ref->YD
open Sum renaming inr->YE
open Option.some renaming inj->YF
open PySem renaming Heap->YG
open PySem renaming Around->YH
open PySem renaming mem_of_lookup->YI
open PySem.W renaming findIn->YJ
open List renaming replicate->YK
open Ne renaming symm->YL
open PySem renaming compareOp->YM
open PySem.Heap renaming get?_update_other->YN
open PySem.W renaming mg_of->YO
open PySem.PyData renaming eqv->YQ
open PySem renaming wpAny_field->YR
open PySem renaming backTo->YS
open PySem.W renaming emptyDict->YT
open PySem.F renaming plain_max_loop->YU
open PySem.W renaming subIn->YV
open PySem.Heap renaming get?_update_self->YW
open PySem renaming wpAny_Call_Name_kw->YX
open PySem.Obj renaming data_mapFields->YY
open Function renaming comp_def->YZ
open Nat renaming le_add_left->Wa
open PySem renaming keywordEach->Wb
open PySem renaming wpAny_callSpecial?_slot->Wc
open List renaming any_cons->We
open PySem.W renaming keepIn->Wf
open PySem renaming wpAny_holding->Wg
open PySem renaming wpAny_call_entry->Wh
open PySem.W renaming instObj->Wi
open List renaming lookup->Wj
open PyProof.Rows renaming slot_tuple_getitem->Wm
open PySem renaming wpAny_of_eq->Wo
open PySem.Builtin.List renaming listTooLong->Wp
open List renaming foldl_cons->Wq
open List renaming find?_cons->Wr
open Bool renaming or_eq_true->Ws
open Option renaming some->Wu
open Option renaming none->Wv
open Bool renaming true->Ww
open Bool renaming false->Wx
open Decidable renaming decide->Wy
open PySem.Str renaming ofString->O
open Bool renaming and_eq_true->Oa
open List renaming getElem?_eq_some_iff->Ob
open List renaming getElem?_set_ne->Oc
open PySem.Heap renaming get?_push_of_some->Od
open List renaming getElem?_append_left->Oe
open List renaming size_toArray->Of
open List renaming getElem?_eq_getElem->Og
open List renaming mem_cons_of_mem->Oh
open List renaming mem_cons_self->Oi
open PySem.Heap renaming get?_push_size->Oj
open List renaming mem_of_getElem?->O1
open List renaming getElem?_set_self->Ol
open List renaming getElem?_append_right->Om
open List renaming getElem?_map->On
open Option renaming map_eq_some_iff->Oo
open List renaming map_cons->Op
open Nat renaming le_refl->Oq
open List renaming mem_cons->O2
open List renaming length_cons->Os
open Nat renaming lt_of_lt_of_le->O3
open Nat renaming ne_of_lt->Ou
open List renaming mem_append_right->Ov
open Bool renaming false_ne_true->Ow
open List renaming mem_singleton->Ox
open List renaming map_nil->Oy
open List renaming append_assoc->Oz
open List renaming length_append->OA
open List renaming nil_append->OB
open List renaming all_eq_true->OC
open List renaming mem_append->OD
open Nat renaming le_trans->OE
open List renaming lookup_cons->OF
open Bool renaming false_eq_true->OG
open Nat renaming lt_succ_self->OH
open List renaming sum_cons->OI
open List renaming getElem?_cons_zero->OJ
open List renaming getElem?_cons_succ->O0
section
open PySem PySem.W PyProof.Rows
set_option maxHeartbeats 0
namespace PySem.W.Fast
def tw10713324233694254624:=0
def tw16538050196285009249:=0
def tw17563179237507055041:=0
def tw3593111680033724193:=0
def tw9019415002949331010:=0
def tw5512939218934373666:=0
def tw5537041281014663074:=0
def tw3281716626083197123:=0
def tw14864177452240183428:=0
def tw8317674083194645188:=0
def tw9995346912519735044:=0
def tw10310578536624235396:=0
def tw5753313930287507428:=0
def tw11363927357805192261:=0
def tw3998957031449807813:=0
def tw17401530808996758694:=0
def tw17814501576599076134:=0
def tw3106536374382597446:=0
def tw4370196553260016006:=0
def tw4263971225553213862:=0
def tw9426111560562638278:=0
def tw11833242739524467462:=0
def tw7437885257625696616:=0
def tw17259370447854938088:=0
def tw9880255593743863113:=0
def tw3274935114621921961:=0
def tw6515229755004125929:=0
def tw14334714562056756041:=0
def tw9331155812651073353:=0
def tw14621385608278083529:=0
def tw5032873094762732618:=0
def tw362757919735321258:=0
def tw7045597509242136266:=0
def tw956274737231207435:=0
def tw8437613078887773579:=0
def tw6084878047542166955:=0
def tw11989533228272128459:=0
def tw8421592296463112843:=0
def tw4023012278365905579:=0
def tw5742206475706945259:=0
def tw1066030223095557003:=0
def tw4997969451825514380:=0
def tw982951055408913549:=0
def tw4291843232123085069:=0
def tw10990190567058470349:=0
def tw12076772242745084397:=0
def tw10802876098098910733:=0
def tw16510439565129198318:=0
def tw13904934233530508047:=0
def tw85127425666894799:=0
def tw11171761279573779504:=0
def tw10990541300963168561:=0
def tw8966181627439636913:=0
def tw11112562356988970737:=0
def tw15864921269743837458:=0
def tw2779077245417714130:=0
def tw14204333471106466482:=0
def tw14345467555183215314:=0
def tw10011093643102742418:=0
def tw7966086370586439443:=0
def tw17020709197472658548:=0
def tw998533735201717940:=0
def tw11517709115478822997:=0
def tw12485730557980166357:=0
def tw17112019192970096949:=0
def tw2668449995665692053:=0
def tw11445004510922947253:=0
def tw841726731178033910:=0
def tw6160195865462677334:=0
def tw5504000241925475575:=0
def tw3528658814695288567:=0
def tw13276110061566354167:=0
def tw6974029177587502136:=0
def tw5129811515517361240:=0
def tw3518843075877175512:=0
def tw225583467116389688:=0
def tw6948124956876288728:=0
def tw16245909848545716056:=0
def tw9622144401909458489:=0
def tw4620754535359077305:=0
def tw2198187438724124730:=0
def tw3606965300717955482:=0
def tw14111100245914000507:=0
def tw13029307249412266555:=0
def tw9718630182826115931:=0
def tw10599396437157899516:=0
def tw17255014415799515389:=0
def tw8618110865145604669:=0
def tw1492395934471636541:=0
def tw16642631828824849758:=0
def tw9372952878553267006:=0
def tw627061781959609246:=0
def tw9407296800396628894:=0
def tw15636828095502946431:=0
def tw11430921659916216511:=0
def tw8858785875888145215:=0
def tw1371688400846396576:=0
def tw8441069863223863201:=0
def tw17001267747209031810:=0
def tw8324549683136323362:=0
def tw13491029694127425132:=0
def tw4967556755661434127:=0
def tw3733294992478489842:=0
def tw1407459739154365942:=0
def tw11644765600153882999:=0
def tw229170279482264890:=0
def tw13366595033733275075:=0
def tw15382880924616706571:=0
def tw3002517345485989394:=0
def tw1070110689022646228:=0
def tw2336162002440687990:=0
def tw8317550051197177655:=0
def tw17748201122644906142:=0
def tw3567276302063996262:=0
def tw18445081963099611266:=0
def tw18210351148548443874:=0
def tw2574030876029857639:=0
def tw14620554666017790253:=0
def tw11961665512526471054:=0
def tw9140798723865225011:=0
def tw9051209787741281082:=0
def tw13226642157352386056:=0
def tw1395710833844494591:=0
def tw6082682331058972936:=0
def tw6474170169857595379:=0
def tw8737597013587341264:=0
def tw9992495705053046969:=0
def tw16982362300766280059:=0
def tw2597736565913294724:=0
def tw6653648466475433838:=0
def tw15118945894290580192:=0
def tw7332170254819561376:=0
def tw1253155497129465827:=0
def tw3285779189147102179:=0
def tw16528522306211889636:=0
def tw5714928114098720811:=0
def tw6882442277634520429:=0
def tw15200384875442976912:=0
def tw9293899331099357808:=0
def tw2290103083674607027:=0
def tw2689264759645708020:=0
def tw6641433235052362232:=0
def tw3479849762392873469:=0
def tw10053934123871645884:=0
def tw11653417093249046103:=0
def tw8043702751084684278:=0
def tw5059319396071473465:=0
def tw18273387207779743558:=0
def tw16477154176169442882:=0
def tw6029581389083052086:=0
def tw5424505652533806510:=0
def tw5679714833721335523:=0
def tw7921918331610063720:=0
def tw17024799973816654026:=0
def tw1431113151401065931:=0
def tw15101334317237567371:=0
def tw16378826362172240140:=0
def tw2420451834747898930:=0
def tw2814132915843769661:=0
def tw1862266000412664745:=0
def tw6716582260007680024:=0
def tw42414717181349438:=0
def tw9991370851822347638:=0
def tw13408884946701447852:=0
def tw4156234491169961312:=0
def tw16351981479616252966:=0
def tw17219670449517446982:=0
def tw15335246497974770023:=0
def tw4655344354239013066:=0
def tw4073531435611263562:=0
def tw12209737768461081418:=0
def tw8950298405692169130:=0
def tw14490631291223620651:=0
def tw5405965610747245291:=0
def tw8982905709454191499:=0
def tw12089443778835600717:=0
def tw13252916124613519118:=0
def tw9962748284077349426:=0
def tw17529443481484119986:=0
def tw8786639192487528051:=0
def tw14057454295725485044:=0
def tw827283443820495894:=0
def tw18282948713678849366:=0
def tw16973523868825756952:=0
def tw5455869182777259832:=0
def tw3106100406661549404:=0
def tw16398196836693867582:=0
def tw3763553873318705923:=0
def tw18146513601926563691:=0
def tw5269742991183158924:=0
def tw2435325023832701101:=0
def tw5937611696714019437:=0
def tw14215330460770148947:=0
def tw16597980226618106803:=0
def tw1072762595594389908:=0
def tw123320911858853269:=0
def tw2372262489863566550:=0
def tw7347787789446674710:=0
def tw17413454723020774230:=0
def tw3046039156631745146:=0
def tw8014899362653743643:=0
def tw14930509815366087547:=0
def tw4582278800449977948:=0
def tw504523715225192733:=0
def tw1908188660264317757:=0
def tw2225094239304664061:=0
def tw11939524307729831007:=0
def tw2598011614904071182:=0
def tw940391939768461881:=0
def tw16244321043500100336:=0
def tw9714399731791599971:=0
def tw9112857080159495368:=0
def tw13381028479184705514:=0
def tw3291600826125990580:=0
def tw15886488795509933976:=0
def tw3800294783228340761:=0
def tw13158442480840049436:=0
def tw1822946327012527224:=0
def tw1946285031683680061:=0
def tw4455604810490842868:=0
def tw9959326340259109110:=0
def tw9625851727167241910:=0
def tw14286084703941472106:=0
def tw7450063014205693807:=0
def tw17036919873872759694:=0
def tw4901135168790488595:=0
def tw7837919093910629035:=0
def tw16549872211724533122:=0
def tw6846432722122895427:=0
def tw4716530441903904760:=0
def tw17180287675173056193:=0
def tw3243416701091333349:=0
def tw3016204732876016905:=0
def tw7446811131373603539:=0
def tw10530962436615300596:=0
def tw2328828272082429737:=0
def tw12964450694327840081:=0
def tw1131389140409973145:=0
def tw11211292178078391051:=0
def tw12323812589945015809:=0
def tw14819570779886016388:=0
def tw4716691193168679374:=0
def tw5552545649120202867:=0
def tw14531300917948882323:=0
def tw14919192089087551189:=0
def tw13387316197802294178:=0
def tw15856606516896686167:=0
def tw2872384871947769930:=0
def tw10453716887053519113:=0
def tw3170060098699543480:=0
def tw3519290083361632614:=0
def tw4559554051423718542:=0
def tw1203005851047073792:=0
def tw16356695751209771683:=0
def tw14165082795554426065:=0
def tw9611181482204024217:=0
def tw3613975422890210231:=0
def tw11531417789430649981:=0
def tw5154278535151222715:=0
def tw2062276271133672638:=0
def tw4513004555266135592:=0
def tw190326315021109027:=0
def tw15746305693636225974:=0
def tw18321326921777094510:=0
def tw14639387600720361648:=0
def tw4371551309325648391:=0
def tw15421751778002697359:=0
def tw10091468365052362304:=0
def tw1116565244342128583:=0
def tw10750533012601925282:=0
def tw8579583479016596373:=0
def tw13173822497273940560:=0
def tw18444470179388240960:=0
def tw7438074307689347232:=0
def tw10257578612792153568:=0
def tw3536228197323122560:=0
def tw5911928997534786977:=0
def tw12170652348886683105:=0
def tw15162574402344108737:=0
def tw24065732862674657:=0
def tw14774000794673280002:=0
def tw17825356115131263298:=0
def tw1022249568785447810:=0
def tw22832445802601346:=0
def tw16392345620397481987:=0
def tw14286254807861852323:=0
def tw14327958859313423683:=0
def tw14158515878348690115:=0
def tw152690505145513763:=0
def tw9432584350221114500:=0
def tw5013721640781216004:=0
def tw3921920855848584580:=0
def tw1584801057467395812:=0
def tw16005701570793569028:=0
def tw9839393279040619781:=0
def tw14683480221796645285:=0
def tw4754741897820647941:=0
def tw4346562318907541029:=0
def tw1589611902312965925:=0
def tw14648713051333636933:=0
def tw1488089622319407174:=0
def tw14196123582763147366:=0
def tw18310598608166902150:=0
def tw10311635549325489574:=0
def tw2856949064548936102:=0
def tw7079021565563378502:=0
def tw8970504359743196263:=0
def tw11101016270249883495:=0
def tw16448342546838067432:=0
def tw17941719622501294792:=0
def tw15083071706220818216:=0
def tw341707420116582441:=0
def tw16438569145176765833:=0
def tw16126586067639781833:=0
def tw5255388188472659497:=0
def tw16643631727282608713:=0
def tw17440689796512977609:=0
def tw4378677718690974858:=0
def tw17735024109094722122:=0
def tw8568958650963589994:=0
def tw11085336112929519851:=0
def tw4980099115762605515:=0
def tw14508907699579832043:=0
def tw13486369094179424011:=0
def tw2514439079910447083:=0
def tw16940913080396809580:=0
def tw17001529274397245932:=0
def tw5176918485728731660:=0
def tw1523365883763939373:=0
def tw3268416866139632525:=0
def tw8229718256674359245:=0
def tw233715474853945710:=0
def tw1799537498009378286:=0
def tw15637510720880701998:=0
def tw12467939563485141295:=0
def tw4547422857917463119:=0
def tw1379234348881847087:=0
def tw2678208479698773616:=0
def tw5457825122301545360:=0
def tw15895721138020629392:=0
def tw7479429190888444017:=0
def tw5889768489153371473:=0
def tw17462521061123382769:=0
def tw16600896017120136881:=0
def tw10145151947445851186:=0
def tw10303374722758531154:=0
def tw18391180189071893586:=0
def tw1157997426691942130:=0
def tw14892919371956970322:=0
def tw11678469448832324883:=0
def tw16756269975387495827:=0
def tw9813337553790430739:=0
def tw10476894756846750291:=0
def tw17515211329509607027:=0
def tw7129083385031293556:=0
def tw11935917162018654996:=0
def tw8051392413925789684:=0
def tw8003880054417007637:=0
def tw16038719450620782101:=0
def tw14024557798327514997:=0
def tw4220426326832456854:=0
def tw8123505920100922710:=0
def tw5501036919355471382:=0
def tw14660108195017362134:=0
def tw4973098106559848310:=0
def tw15941500271394260055:=0
def tw9968126175373765879:=0
def tw1852885458422444567:=0
def tw6096756859005992599:=0
def tw9405095473583488727:=0
def tw6040399762710719415:=0
def tw11359810542748427352:=0
def tw501528181180706072:=0
def tw12934631559517294008:=0
def tw1799514892857481241:=0
def tw5742732011218141305:=0
def tw4607646753502829785:=0
def tw9664838616834642521:=0
def tw6283622366703375610:=0
def tw10942302614752503066:=0
def tw6999515779740591450:=0
def tw16228404383923194362:=0
def tw16867441922693964378:=0
def tw8945583645698380474:=0
def tw12001380434972847834:=0
def tw5849314872859364218:=0
def tw7308359103678230490:=0
def tw8036640810754836571:=0
def tw3127592549532301403:=0
def tw11378469940161122651:=0
def tw8854088190065381723:=0
def tw8450735604114167131:=0
def tw8417519762736660091:=0
def tw2464153135177208603:=0
def tw6258284289523164027:=0
def tw15432665683237052668:=0
def tw14850294385054007772:=0
def tw3366778178269860380:=0
def tw7100778013851678268:=0
def tw6256229958576714524:=0
def tw15098486685489650588:=0
def tw16765062269529966621:=0
def tw15604815096155647357:=0
def tw5143257583771147645:=0
def tw3201146131729920765:=0
def tw5871813176678309789:=0
def tw10658427009741048765:=0
def tw15591521517246659902:=0
def tw14692320810067866110:=0
def tw15148275161816633854:=0
def tw10116163500811908094:=0
def tw14705384662754197567:=0
def tw15870546737788721343:=0
def tw8302876876192573663:=0
def tw11237241980948132543:=0
def tw5799615113930346207:=0
def tw17563236693766650623:=0
def tw11451968744117510484:=0
end PySem.W.Fast
open_top K25hd for PySem.Challenge.rw_samestride_k25_whole_rows_in_step
end
section
namespace L2
open PySem PySem.Spec PyProof.Rows
noncomputable abbrev Key:=Sum Int Str
noncomputable def Zf4:Key->Yj->Bool
 |.inl k,v=>Value.isInt k v
 |.inr x,v=>Value.isStrOf x v
noncomputable def Zv8(w:Yg):Key->Int
 |.inl k=>hashInt k
 |.inr x=>hashStr w x
theorem ZH:∀{k:Key}{v:Yj},Zf4 k v=Ww->(∃i t,k=Sum.inl i/\v=Value.int i t)\/(∃x t,k=YE x/\v=Value.str x t)
 |.inl i,v,h=>by obtain⟨t,e⟩:=Value.isInt_shape (k:=i) (v:=v) h;exact .inl ⟨i,t,rfl,e⟩
 |.inr x,v,h=>by obtain⟨t,e⟩:=Value.isStrOf_shape (x:=x) (v:=v) h;exact .inr ⟨x,t,rfl,e⟩
theorem Zmn(i:Int)(t:Tok):Zf4 (.inl i) (.int i t)=Ww:=by simp[Zf4,Value.isInt]
theorem Zt(x:Str)(t:Tok):Zf4 (.inr x) (.str x t)=Ww:=by simp[Zf4,Value.isStrOf]
theorem ZsP(a b:Int):Wy ((Sum.inl a:Key)=Sum.inl b)=(a==b):=by
 by_cases e:a=b
 . subst e;simp
 . have h:¬ (Sum.inl a:Key)=Sum.inl b:=fun q=>e (Sum.inl.inj q);rw[decide_eq_false h];exact(beq_eq_false_iff_ne.mpr e).symm
theorem ZsM(a b:Str):Wy ((YE a:Key)=YE b)=Wy (a=b):=by
 by_cases e:a=b
 . subst e;simp
 . have h:¬ (YE a:Key)=YE b:=fun q=>e (Sum.inr.inj q);rw[decide_eq_false h,decide_eq_false e]
theorem ZsO(a:Int)(b:Str):Wy ((Sum.inl a:Key)=YE b)=Wx:=decide_eq_false (fun q=>nomatch q)
theorem ZsN(a:Str)(b:Int):Wy ((YE a:Key)=Sum.inl b)=Wx:=decide_eq_false (fun q=>nomatch q)
noncomputable def ZG(prog:Yh)(w:Yg):PySem.KeyKind prog w Key where
 is:=Zf4
 hash:=Zv8 w
 inj:=fun v a b ha hb=>by
  rcases ZH ha with ⟨i,t,rfl,rfl⟩|⟨x,t,rfl,rfl⟩
  . rcases ZH hb with ⟨j,u,rfl,e⟩|⟨y,u,rfl,e⟩
    . injection e with e1 _;rw[e1]
    . exact nomatch e
  . rcases ZH hb with ⟨j,u,rfl,e⟩|⟨y,u,rfl,e⟩
    . exact nomatch e
    . injection e with e1 _;rw[e1]
 byValue:=fun k v h=>by rcases ZH h with ⟨i,t,rfl,rfl⟩|⟨x,t,rfl,rfl⟩<;>rfl
 pyHash:=fun hv h=>by
  rcases ZH hv with ⟨i,t,rfl,rfl⟩|⟨x,t,rfl,rfl⟩
  . exact wpAny_pyHash_int h
  . exact wpAny_pyHash_str h
 eqBool:=fun hu hv h=>by
  rcases ZH hu with ⟨i,t,rfl,rfl⟩|⟨x,t,rfl,rfl⟩
  . rcases ZH hv with ⟨j,u,rfl,rfl⟩|⟨y,u,rfl,rfl⟩
    . rw[ZsP]at h;exact wpAny_eqBool_int h
    . rw[ZsO]at h;exact SeqAt.EqAt.int_str i t y u _ _ _ _ h
  . rcases ZH hv with ⟨j,u,rfl,rfl⟩|⟨y,u,rfl,rfl⟩
    . rw[ZsN]at h;exact SeqAt.EqAt.str_int x t j u _ _ _ _ h
    . rw[ZsM]at h;exact wpAny_eqBool_str h
 «strs»:=fun k x t v h=>by
  rcases ZH h with ⟨i,u,rfl,e⟩|⟨y,u,rfl,e⟩
  . exact nomatch e
  . injection e with e1 _;subst e1;cases v<;>rfl
theorem ZiH(prog:Yh)(w:Yg)(i:Int)(t:Tok):(ZG prog w).is (.inl i) (.int i t)=Ww:=Zmn i t
theorem ZiG(prog:Yh)(w:Yg)(x:Str)(t:Tok):(ZG prog w).is (.inr x) (.str x t)=Ww:=Zt x t
inductive V where
 |non|bl (b:Bool)|int (i:Int)|str (x:Str)|byt (b:Array UInt8)|flt (b:UInt64)|ref (a:Yi)|ty (n:String)
 deriving DecidableEq
def RelV:V->Yj->Prop
 |.non,u=>u=Value.none
 |.bl b,u=>u=Value.bool b
 |.int i,u=>∃t,u=Value.int i t
 |.str x,u=>∃t,u=Value.str x t
 |.byt b,u=>∃t,u=Value.bytes b t
 |.flt b,u=>∃t,u=Value.float b t
 |.ref a,u=>u=YD a
 |.ty n,u=>u=Value.type n
abbrev Zl:List V->List Yj->Prop:=Paired RelV
theorem Zl.length{xs:List V}{us:List Yj}(r:Zl xs us):xs.length=us.length:=Paired.length r
theorem Zl.get:∀{xs:List V}{us:List Yj}{i:Nat}{x:V},Zl xs us->xs[i]? = Wu x->∃u,us[i]? = Wu u/\RelV x u
 |_,_,_,_,.nil,e=>by simp at e
 |_,_,0,_,.cons r _,e=>by simp at e;subst e;exact⟨_,rfl,r⟩
 |_,_,i+1,x,.cons _ t,e=>by obtain⟨u,h1,h2⟩:=Zl.get (i:=i) (x:=x) t (by simpa using e);exact⟨u,by simpa using h1,h2⟩
theorem Zl.set{x:V}{u:Yj}(r:RelV x u):∀{xs:List V}{us:List Yj} (i:Nat),Zl xs us->Zl (xs.set i x) (us.set i u)
 |_,_,_,.nil=>.nil
 |_,_,0,.cons _ t=>.cons r t
 |_,_,i+1,.cons q t=>.cons q (Zl.set r i t)
theorem Zl.append:∀{xs ys:List V}{us ws:List Yj},Zl xs us->Zl ys ws->Zl (xs++ys) (us++ws)
 |_,_,_,_,.nil,s=>s
 |_,_,_,_,.cons r t,s=>.cons r (Zl.append t s)
theorem Zl.take:∀{xs:List V}{us:List Yj} (n:Nat),Zl xs us->Zl (xs.take n) (us.take n)
 |_,_,0,_=>.nil
 |_,_,_+1,.nil=>.nil
 |_,_,n+1,.cons r t=>.cons r (Zl.take n t)
theorem Zl.drop:∀{xs:List V}{us:List Yj} (n:Nat),Zl xs us->Zl (xs.drop n) (us.drop n)
 |_,_,0,r=>r
 |_,_,_+1,.nil=>.nil
 |_,_,n+1,.cons _ t=>Zl.drop n t
def ZeA:Option V->Option Yj->Prop
 |some v,Wu u=>RelV v u
 |none,Wv=>True
 |_,_=>False
def KV{κ:Type}:List (κ×V)->List (κ×Yj)->Prop:=Paired fun(p:κ×V) (q:κ×Yj)=>p.1=q.1/\RelV p.2 q.2
noncomputable def kV:Key->V
 |.inl i=>.int i
 |.inr x=>.str x
inductive HO where
 |lst (xs:List V)
 |tup (xs:List V)
 |dK (kvs:List (Key×V))|dT (kvs:List (List Key×V))
 |set (S_:Int->Bool) (n:Nat)
 |ins (C dx:Yi) (fs:List (Str×V))
 |own (x:Yi)
 |xd (fs:List (Str×V))
 |met (f x:Yi)
 |rng (lo hi:Int)
 |frz (o:Obj) (u:HO)
 |tbl (ps:Array Yj)
 |ext (φ:YG->Prop)
abbrev Hp:=Yi->Option HO
noncomputable def upd(H:Hp)(a:Yi)(o:HO):Hp:=fun b=>if b=a then Wu o else H b
theorem Zi{H:Hp}{a:Yi}{o:HO}:upd H a o a=Wu o:=by unfold upd;rw[if_pos rfl]
theorem Zg{H:Hp}{a b:Yi}{o:HO}(h:b≠a):upd H a o b=H b:=by unfold upd;rw[if_neg h]
theorem ZP{H:Hp}{a b:Yi}{o:HO}(h:H a=Wu o)(h':H b=Wv):a≠b:=by intro e;subst e;rw[h]at h';cases h'
section
variable (P:Yh) (w:Yg)
def Zbp(h:YG)(a:Yi)(items:Array Yj):Prop:=∃o,h.get? a=Wu o/\o.cls=.type "tuple" /\ o.dict=Wv/\∃n,o.data=.seq items n
theorem Zbp.tup{h:YG}{a:Yi}{items:Array Yj}(x:Zbp h a items):IsTup h a items:=let ⟨o,ho,hc,_,r⟩:=x;⟨o,ho,hc,r⟩
theorem Zbp.fresh(h:YG)(items:Array Yj):Zbp (h.push {cls:=.type "tuple",data:=.seq items}) h.objs.size items:=⟨_,Oj _ rfl,rfl,rfl,_,rfl⟩
def Zam(H:Hp)(h:YG)(a:Yi):HO->Prop
 |.lst xs=>xs.length<=sizeLine/\∃(its:List Yj) (n:Nat),Zl xs its/\h.get? a=Wu {cls:=.type "list",data:=.seq its.toArray n}
 |.tup xs=>xs.length<=sizeLine/\∃its:List Yj,Zl xs its/\Zbp h a its.toArray
 |.dK kvs=>kvs.length<=sizeLine/\(a==Ye)=Wx/\∃vs,KV kvs vs/\h.DictOf (ZG P w) a vs
 |.dT kvs=>kvs.length<=sizeLine/\(a==Ye)=Wx/\∃xs:List (List Key×Yi×Yj),
  Paired (fun(p:List Key×V) (q:List Key×Yi×Yj)=>p.1=q.1/\H q.2.1=Wu (.tup (p.1.map kV))/\RelV p.2 q.2.2) kvs xs /\
  ∃o es ep,h.get? a=Wu o/\o.ExactDict/\o.data=.dict es ep/\es.toList=xs.map (entryOfKey (tupleKind (ZG P w)))/\(xs.map (·.1)).Nodup
 |.set S_ n=>h.SetOf (intKind P w) a S_ n
 |.ins C dx fs=>H dx=Wu (.own a)/\fs.length<=1000/\dx≠a/\h.get? a=Wu (Wi C dx) /\
  ∃mA,h.Ns1 dx mA/\(∀f,ZeA (fs.lookup f) (mA f))/\PySem.Within mA (fs.map (·.1))
 |.own _=>∃o,h.get? a=Wu o
 |.xd fs=>∃mA,h.Ns1 a mA/\∀f,ZeA (fs.lookup f) (mA f)
 |.rng lo hi=>∃t u v,h.get? a=Wu {cls:=.type "range",data:=.fields #[.int lo t,.int hi u,.int 1 v]}
 |.frz o u=>h.get? a=Wu o/\Zam H h a u
 |.tbl ps=>h.get? a=Wu {cls:=.none,data:=.fields ps}
 |.met f x=>h.get? a=Wu (PySem.W.methodObj (.ref f) (.ref x))
 |.ext φ=>φ h/\(∃o,h.get? a=Wu o)/\∀h1 h2:YG,φ h1->(∀o,h1.get? a=Wu o->h2.get? a=Wu o)->φ h2
def HOk(H:Hp)(h:YG):Prop:=∀a o,H a=Wu o->Zam P w H h a o
end
section
variable {P:Yh}{w:Yg}{H H':Hp}{h h':YG}{a:Yi}{o:HO}
theorem Zam.lt(x:Zam P w H h a o):a<h.objs.size:=by
 cases o with
 |lst xs=>obtain⟨_,_,_,_,e⟩:=x;exact Yn e
 |tup xs=>obtain⟨_,_,_,p⟩:=x;exact p.tup.lt
 |dK kvs=>obtain⟨_,_,_,_,o,_,_,e,_⟩:=x;exact Yn e
 |dT kvs=>obtain⟨_,_,_,_,o,_,_,e,_⟩:=x;exact Yn e
 |set S_ n=>obtain⟨o,_,_,_,e,_⟩:=x;exact Yn e
 |ins C dx fs=>obtain⟨_,_,_,e,_⟩:=x;exact Yn e
 |own y=>obtain⟨_,e⟩:=x;exact Yn e
 |xd fs=>obtain⟨_,⟨_,_,_,e,_⟩,_⟩:=x;exact Yn e
 |rng lo hi=>obtain⟨_,_,_,e⟩:=x;exact Yn e
 |frz ob u=>obtain⟨e,_⟩:=x;exact Yn e
 |tbl ps=>exact Yn (show h.get? a=Wu _ from x)
 |met f y=>exact Yn (show h.get? a=Wu _ from x)
 |ext φ=>obtain⟨_,⟨_,e⟩,_⟩:=x;exact Yn e
theorem Paired.mapP{α β:Type}{F G:α->β->Prop}:∀{l₁:List α}{l₂:List β},Paired F l₁ l₂->(∀a b,F a b->G a b)->Paired G l₁ l₂
 |_,_,.nil,_=>.nil
 |_,_,.cons r t,f=>.cons (f _ _ r) (Paired.mapP t f)
theorem Zam.stay(x:Zam P w H h a o)(k:∀b u,(b=a\/H b=Wu (.own a))->h.get? b=Wu u->h'.get? b=Wu u)
 (ho:∀b,H b=Wu (.own a)->H' b=Wu (.own a)) (ht:∀b xs,H b=Wu (.tup xs)->H' b=Wu (.tup xs)):Zam P w H' h' a o:=by
 induction o with
 |lst xs=>obtain⟨z,its,n,r,e⟩:=x;exact⟨z,its,n,r,k _ _ (.inl rfl) e⟩
 |tup xs=>obtain⟨z,its,r,ob,e,c⟩:=x;exact⟨z,its,r,ob,k _ _ (.inl rfl) e,c⟩
 |dK kvs=>obtain⟨z,y,vs,r,ob,es,ep,e,c⟩:=x;exact⟨z,y,vs,r,ob,es,ep,k _ _ (.inl rfl) e,c⟩
 |dT kvs=>obtain⟨z,y,xs,r,ob,es,ep,e,c⟩:=x;exact⟨z,y,xs,Paired.mapP r fun p q z=>⟨z.1,ht _ _ z.2.1,z.2.2⟩,ob,es,ep,k _ _ (.inl rfl) e,c⟩
 |set S_ n=>obtain⟨ob,es,ep,t,e,c⟩:=x;exact⟨ob,es,ep,t,k _ _ (.inl rfl) e,c⟩
 |ins C dx fs=>obtain⟨d,z,ne,e,mA,⟨od,es,ep,e2,c⟩,r⟩:=x;exact⟨ho _ d,z,ne,k _ _ (.inl rfl) e,mA,⟨od,es,ep,k _ _ (.inr d) e2,c⟩,r⟩
 |own y=>obtain⟨ob,e⟩:=x;exact⟨ob,k _ _ (.inl rfl) e⟩
 |xd fs=>obtain⟨mA,⟨od,es,ep,e,c⟩,r⟩:=x;exact⟨mA,⟨od,es,ep,k _ _ (.inl rfl) e,c⟩,r⟩
 |rng lo hi=>obtain⟨t,u,v,e⟩:=x;exact⟨t,u,v,k _ _ (.inl rfl) e⟩
 |frz ob u ih=>obtain⟨e,q⟩:=x;exact⟨k _ _ (.inl rfl) e,ih q⟩
 |tbl ps=>have e:h.get? a=Wu {cls:=.none,data:=.fields ps}:=x;show h'.get? a=Wu {cls:=.none,data:=.fields ps};exact k a _ (.inl rfl) e
 |met f y=>have e:h.get? a=Wu (PySem.W.methodObj (.ref f) (.ref y)):=x;show h'.get? a=Wu (PySem.W.methodObj (.ref f) (.ref y));exact k a _ (.inl rfl) e
 |ext φ=>obtain⟨p,⟨o,e⟩,st⟩:=x;exact⟨st _ _ p fun o q=>k _ _ (.inl rfl) q,⟨o,k _ _ (.inl rfl) e⟩,st⟩
theorem HOk.lt(x:HOk P w H h)(e:H a=Wu o):a<h.objs.size:=(x a o e).lt
theorem HOk.fresh(x:HOk P w H h)(e:h.objs.size<=a):H a=Wv:=by
 cases q:H a with
 |none=>rfl
 |some u=>exact absurd (O3 (x.lt q) e) (Yw _)
theorem HOk.kept(x:HOk P w H h)(k:∀b u,h.get? b=Wu u->h'.get? b=Wu u):HOk P w H h':=fun a o e=>(x a o e).stay (fun b u _ q=>k b u q) (fun _ q=>q) fun _ _ q=>q
theorem HOk.laid(x:HOk P w H h)(k:∀b u,h.get? b=Wu u->h'.get? b=Wu u)(hp:h.objs.size<=a)(new:Zam P w (upd H a o) h' a o):HOk P w (upd H a o) h':=fun b u e=>by
 have hn:=x.fresh hp;by_cases hb:b=a
 . subst hb;rw[Zi]at e;cases e;exact new
 . rw[Zg hb]at e;exact(x b u e).stay (fun c v _ q=>k c v q) (fun c q=>by rw[Zg (ZP q hn)];exact q) fun c xs q=>by rw[Zg (ZP q hn)];exact q
end
def Rd(H:Hp)(a:Yi)(u:HO):Prop:=H a=Wu u\/∃o,H a=Wu (.frz o u)
theorem Rd.ok{P:Yh}{w:Yg}{H:Hp}{h:YG}{a:Yi}{u:HO}(r:Rd H a u)(x:HOk P w H h):Zam P w H h a u:=by
 rcases r with r|⟨o,r⟩
 . exact x a u r
 . obtain⟨_,q⟩:=x a _ r;exact q
def Mut:Option HO->Prop
 |some (.lst _)=>True
 |some (.dK _)=>True
 |some (.dT _)=>True
 |some (.set _ _)=>True
 |some (.ins _ _ _)=>True
 |some (.ext _)=>True
 |_=>False
section
variable {P:Yh}{w:Yg}{H:Hp}{h h':YG}{x e:Yi}{o':HO}
theorem HOk.write(ok:HOk P w H h)(mu:Mut (H x))(he:e=x\/H e=Wu (.own x))(k:∀b u,b≠e->h.get? b=Wu u->h'.get? b=Wu u)(heo:∃u,h'.get? e=Wu u)
 (new:Zam P w (upd H x o') h' x o'):HOk P w (upd H x o') h':=fun b u q=>by
 have nown:∀c y,H c=Wu (.own y)->c≠x:=fun c y r z=>by subst z;rw[r]at mu;exact mu
 have ntup:∀c xs,H c=Wu (.tup xs)->c≠x:=fun c xs r z=>by subst z;rw[r]at mu;exact mu
 by_cases hb:b=x
 . subst hb;rw[Zi]at q;cases q;exact new
 . rw[Zg hb]at q;by_cases hbe:b=e
   . have q':H b=Wu (.own x):=by
      rcases he with z|z
      . exact absurd (hbe.trans z) hb
      . rw[hbe];exact z
     rw[q]at q';cases q';obtain⟨v,hv⟩:=heo;exact⟨v,by rw[hbe];exact hv⟩
   . refine(ok b u q).stay (fun c v hc r=>k c v ?_ r) (fun c r=>by rw[Zg (nown c b r)];exact r) fun c xs r=>by rw[Zg (ntup c xs r)];exact r
     rcases hc with rfl|hc
     . exact hbe
     . rintro rfl;rcases he with z|z
       . exact nown c b hc z
       . rw[hc]at z;cases z;exact hb rfl
end
structure Un(fs ex:List Yi)(H H':Hp)(h h':YG):Prop where
 keep:∀b o,h.get? b=Wu o->H b=Wv->b ∉ fs->b ∉ ex->h'.get? b=Wu o
 slot:∀b o,h.get? b=Wu o->H b=Wv->b∈fs->b ∉ ex->∃sl,h'.get? b=Wu {o with slots:=sl}
 free:∀b o,h.get? b=Wu o->H b=Wv->b ∉ ex->H' b=Wv
 there:∀b o,h.get? b=Wu o->b ∉ ex->∃o',h'.get? b=Wu o'
 tups:∀b xs,H b=Wu (.tup xs)->H' b=Wu (.tup xs)
 frzs:∀b o u,H b=Wu (.frz o u)->H' b=Wu (.frz o u)
 tbls:∀b ps,H b=Wu (.tbl ps)->∃more,H' b=Wu (.tbl (ps++more))
section
variable {fs fs' ex ex':List Yi}{H H1 H2:Hp}{h h1 h2 h':YG}{a x e:Yi}{o:HO}
theorem Un.any(u:Un fs ex H H1 h h1){b:Yi}{ob:Obj}(q:h.get? b=Wu ob)(n:H b=Wv)(hx:b ∉ ex):∃sl,h1.get? b=Wu {ob with slots:=sl}:=by
 by_cases hb:b∈fs
 . exact u.slot b ob q n hb hx
 . exact⟨ob.slots,u.keep b ob q n hb hx⟩
theorem Un.trans(a:Un fs ex H H1 h h1)(b:Un fs ex H1 H2 h1 h2):Un fs ex H H2 h h2 where
 keep:=fun c ob q n hc hx=>b.keep c ob (a.keep c ob q n hc hx) (a.free c ob q n hx) hc hx
 slot:=fun c ob q n hc hx=>by obtain⟨sl,e1⟩:=a.slot c ob q n hc hx;obtain⟨sl',e2⟩:=b.slot c _ e1 (a.free c ob q n hx) hc hx;exact⟨sl',e2⟩
 free:=fun c ob q n hx=>by obtain⟨o',e1⟩:=a.there c ob q hx;exact b.free c o' e1 (a.free c ob q n hx) hx
 there:=fun c ob q hx=>by obtain⟨o',e1⟩:=a.there c ob q hx;exact b.there c o' e1 hx
 tups:=fun c xs q=>b.tups c xs (a.tups c xs q)
 frzs:=fun c ob xs q=>b.frzs c ob xs (a.frzs c ob xs q)
 tbls:=fun c ps q=>by obtain⟨m1,e1⟩:=a.tbls c ps q;obtain⟨m2,e2⟩:=b.tbls c _ e1;exact⟨m1++m2,by rw[e2,Array.append_assoc]⟩
theorem Un.kept(k:∀b u,h.get? b=Wu u->h'.get? b=Wu u):Un fs ex H H h h':=⟨fun b ob q _ _ _=>k b ob q,fun b ob q _ _ _=>⟨ob.slots,k b ob q⟩,fun _ _ _ n _=>n,fun b ob q _=>⟨ob,k b ob q⟩,fun _ _ q=>q,fun _ _ _ q=>q,fun _ ps q=>⟨#[],by rw[q];simp⟩⟩
theorem Un.refl:Un fs ex H H h h:=Un.kept fun _ _ q=>q
theorem Un.laid(k:∀b u,h.get? b=Wu u->h'.get? b=Wu u)(hp:h.objs.size<=a)(hn:H a=Wv):Un fs ex H (upd H a o) h h' where
 keep:=fun b u q _ _ _=>k b u q
 slot:=fun b u q _ _ _=>⟨u.slots,k b u q⟩
 free:=fun b u q n _=>by rw[Zg (Ou (O3 (Yn q) hp))];exact n
 there:=fun b u q _=>⟨u,k b u q⟩
 tups:=fun b xs q=>by rw[Zg (ZP q hn)];exact q
 frzs:=fun b u xs q=>by rw[Zg (ZP q hn)];exact q
 tbls:=fun b ps q=>⟨#[],by rw[Zg (ZP q hn),q];simp⟩
theorem Un.write(mu:Mut (H x))(he:e=x\/H e=Wu (.own x))(k:∀b u,b≠e->h.get? b=Wu u->h'.get? b=Wu u)(heo:∃u,h'.get? e=Wu u):Un fs ex H (upd H x o) h h':=by
 have hx:∀b,H b=Wv->b≠x:=fun b n z=>by subst z;rw[n]at mu;exact mu
 have hb:∀b,H b=Wv->b≠e:=fun b n z=>by
  subst z;rcases he with r|r
  . exact hx b n r
  . rw[n]at r;cases r
 have hm:∀b u,H b=Wu u->¬ Mut (Wu u)->b≠x:=fun b u q nm z=>by subst z;rw[q]at mu;exact nm mu
 refine⟨fun b u q n _ _=>k b u (hb b n) q,fun b u q n _ _=>⟨u.slots,k b u (hb b n) q⟩,fun b u q n _=>by rw[Zg (hx b n)];exact n,fun b u q _=>?_,
  fun b xs q=>by rw[Zg (hm b _ q fun z=>z)];exact q,fun b u xs q=>by rw[Zg (hm b _ q fun z=>z)];exact q,fun b ps q=>⟨#[],by rw[Zg (hm b _ q fun z=>z),q];simp⟩⟩
 by_cases hbe:b=e
 . subst hbe;exact heo
 . exact⟨u,k b u hbe q⟩
end
noncomputable def trk(h:YG)(H:Hp):List Yi:=(List.range h.objs.size).filter fun a=>(H a).isSome
noncomputable def ZhM(h:YG)(H:Hp):YG:=PySem.W.hideAll h (trk h H)
theorem Zmx(h:YG)(H:Hp):(ZhM h H).objs.size=h.objs.size:=PySem.W.hideAll_size _ _
theorem Zom{h:YG}{H:Hp}{b:Yi}{o:Obj}(e:h.get? b=Wu o)(n:H b=Wv):(ZhM h H).get? b=Wu o:=
 PySem.W.hideAll_get _ e fun hm=>by have q:(H b).isSome=Ww:=(List.mem_filter.mp hm).2;rw[n]at q;simp at q
theorem Zqd{h:YG}{H:Hp}{b:Yi}{o:Obj}(e:(ZhM h H).get? b=Wu o):h.get? b=Wu o/\H b=Wv:=by
 have e':h.get? b=Wu o:=PySem.W.of_hideAll (trk h H) e;refine⟨e',?_⟩;cases q:H b with
 |none=>rfl
 |some x=>have hm:b∈trk h H:=List.mem_filter.mpr ⟨List.mem_range.mpr (Yn e'),by simp[q]⟩;have z:(ZhM h H).get? b=Wv:=PySem.W.hideAll_none (trk h H) hm;rw[z]at e;cases e
structure Mod(K:Yk)(mg:Str->Option Yj)(base:YG):Prop where
 kin:K.In base
 glob:base.Ns Yd mg
 blt:∃mb,base.Ns builtinsNs mb/\∀x:Str,x ≠ "__name__" -> mb x=bootBuiltins x
 nolimit:base.NoLimit
structure Cx where
 prog:Yh
 w:Yg
 K:Yk
 mg:Str->Option Yj
 base:YG
 A:YH
 N:List Str
 s₀:Yb
 H₀:Hp
 env:Env
 outer:List Env
 stack:List Env
 ex:List Yi
 fn:Str->Bool
 calm:Bool
 pn:List (Yi×Obj)
 xe:Yj->Yb->Prop
noncomputable def frs(l:List Env):List Yi:=l.filterMap (·.frame)
noncomputable abbrev Cx.fs(X:Cx):List Yi:=frs X.outer
def Vis(sc:Scope)(x:Str):Prop:=sc.names.lookup x=Wu .local\/sc.names.lookup x=Wu .cell\/sc.names.lookup x=Wu .free
def Loc(sc:Scope)(x:Str):Prop:=sc.names.lookup x=Wu .local\/sc.names.lookup x=Wu .cell
def Look(env:Env)(h:YG)(m:Str->Option Yj)(x:Str)(u:Yj):Prop:=(env.kindOf x=Wu .local/\m x=Wu u)\/((env.kindOf x=Wu .cell\/env.kindOf x=Wu .free)/\∃c,env.cells.lookup x=Wu c/\h.IsCell c (Wu u))
structure Cx.Ok(X:Cx):Prop where
 mod:Mod X.K X.mg X.base
 kind:X.env.scope.kind=.function
 glob:X.env.globals=Yd
 blt:X.env.builtins=builtinsNs
 above:X.s₀.heap.objs.size<=X.env.locals
 inj:∀x y c,X.env.cells.lookup x=Wu c->X.env.cells.lookup y=Wu c->x=y
 has:∀x,(X.env.kindOf x=Wu .cell\/X.env.kindOf x=Wu .free)->∃c,X.env.cells.lookup x=Wu c
 cab:∀x c,X.fn x=Ww->X.env.cells.lookup x=Wu c->X.s₀.heap.objs.size<=c
 hd:X.calm=Ww->X.A.handled=Wv
 frames:X.A.frames=Wu X.stack
 stk:X.stack=X.outer\/(X.stack=X.env::X.outer/\X.env.frame=Wu X.env.locals)
 exf:∀b∈X.ex,b≠X.env.locals/\∀x c,X.env.cells.lookup x=Wu c->c≠b
 bs:∀b o,X.base.get? b=Wu o->X.s₀.heap.get? b=Wu o/\X.H₀ b=Wv
 bsz:X.base.objs.size<=X.s₀.heap.objs.size
 noex:∀b o,X.base.get? b=Wu o->b ∉ X.ex
 exfs:∀b∈X.ex,b ∉ X.fs
 funs:X.s₀.heap.FunFrames X.base X.outer
 frf:∀b∈X.fs,X.H₀ b=Wv
structure Inv(X:Cx)(pins:List (Yi×Obj))(Z:List (Option V))(H:Hp)(s:Yb):Prop where
 ok:X.Ok
 os:s.os=X.s₀.os
 bare:AllBare s.gens
 base:Un X.fs X.ex X.H₀ H X.s₀.heap s.heap
 loc:∃m,s.heap.Ns X.env.locals m/\∀(i:Nat) (x:Str) (v:V),X.N[i]? = Wu x->Z[i]? = Wu (Wu v)->Vis X.env.scope x->∃u,RelV v u/\Look X.env s.heap m x u
 cell:∀x c,X.env.cells.lookup x=Wu c->∃v,s.heap.IsCell c v
 free:H X.env.locals=Wv
 freeC:∀x c,X.env.cells.lookup x=Wu c->H c=Wv
 pin:∀p∈X.pn++pins,s.heap.get? p.1=Wu p.2/\H p.1=Wv/\p.1≠X.env.locals/\p.1 ∉ X.fs/\∀v,p.2.data≠.cell v
 hok:HOk X.prog X.w H s.heap
 len:Z.length=X.N.length
section
variable {X:Cx}{pins:List (Yi×Obj)}{Z:List (Option V)}{H H':Hp}{s:Yb}{h':YG}
theorem Cx.Ok.nofr(ok:X.Ok){b:Yi}{o:Obj}(e:X.base.get? b=Wu o):b ∉ X.fs:=fun hb=>by have:=(ok.funs.mem hb).1;rw[e]at this;cases this
theorem Inv.bs(I:Inv X pins Z H s):∀b o,X.base.get? b=Wu o->s.heap.get? b=Wu o/\H b=Wv:=fun b o e=>⟨I.base.keep b o (I.ok.bs b o e).1 (I.ok.bs b o e).2 (I.ok.nofr e) (I.ok.noex b o e),I.base.free b o (I.ok.bs b o e).1 (I.ok.bs b o e).2 (I.ok.noex b o e)⟩
theorem Inv.bk(I:Inv X pins Z H s):∀b o,X.base.get? b=Wu o->s.heap.get? b=Wu o:=fun b o e=>(I.bs b o e).1
theorem Inv.mod(I:Inv X pins Z H s):Mod X.K X.mg X.base:=I.ok.mod
theorem Inv.kIn(I:Inv X pins Z H s):X.K.In s.heap:=I.ok.mod.kin.keeps I.bk
theorem Inv.lt(I:Inv X pins Z H s):X.env.locals<s.heap.objs.size:=let ⟨_,hn,_⟩:=I.loc;hn.lt
theorem Inv.sz(I:Inv X pins Z H s):X.s₀.heap.objs.size<=s.heap.objs.size:=OE I.ok.above (Nat.le_of_lt I.lt)
theorem Inv.nofs(I:Inv X pins Z H s){a:Yi}(h:s.heap.objs.size<=a):a ∉ X.fs:=fun hb=>by obtain⟨_,o,ho,_⟩:=I.ok.funs.mem hb;exact absurd (O3 (Yn ho) (OE I.sz h)) (Yw _)
theorem Inv.cne(I:Inv X pins Z H s):∀x c,X.env.cells.lookup x=Wu c->c≠X.env.locals:=fun x c e z=>by obtain⟨v,o,ho,hd⟩:=I.cell x c e;obtain⟨m,⟨o',es,ep,ho',hd',_⟩,_⟩:=I.loc;rw[z,ho']at ho;cases ho;rw[hd']at hd;cases hd
theorem Inv.funs(I:Inv X pins Z H s):s.heap.FunFrames X.base X.outer:=by
 have all:∀(l:List Env),(∀b∈frs l,b∈X.fs)->X.s₀.heap.FunFrames X.base l->s.heap.FunFrames X.base l:=by
  intro l;induction l with
  |nil=>intro _ _;trivial
  |cons env r ih=>intro hs hl;obtain⟨hk,⟨L,o,hf,hn,ho,hd⟩,hr⟩:=hl;have hL:L∈X.fs:=hs L (by unfold frs;rw[List.filterMap_cons,hf];exact Oi);obtain⟨sl,e⟩:=I.base.slot L o ho (I.ok.frf L hL) hL fun z=>I.ok.exfs L z hL;exact⟨hk,⟨L,_,hf,hn,e,hd⟩,ih (fun b hb=>hs b (by unfold frs;rw[List.filterMap_cons,hf];exact Oh _ hb)) hr⟩
 exact all X.outer (fun _ hb=>hb) I.ok.funs
theorem Inv.stack(I:Inv X pins Z H s):s.heap.FunFrames X.base X.stack:=by
 rcases I.ok.stk with e|⟨e,hf⟩
 . rw[e];exact I.funs
 . rw[e];obtain⟨m,hn,_⟩:=I.loc;refine .cons (by rw[I.ok.kind];decide) hf hn ?_ I.funs;exact Heap.get?_none_of_le (OE I.ok.bsz I.ok.above)
theorem Inv.stkSub(I:Inv X pins Z H s):∀b∈frs X.stack,b∈X.env.locals::X.fs:=fun b hb=>by
 rcases I.ok.stk with e|⟨e,hf⟩
 . rw[e]at hb;exact Oh _ hb
 . rw[e]at hb;unfold frs at hb;rw[List.filterMap_cons,hf]at hb;exact hb
theorem Inv.stkFree(I:Inv X pins Z H s):∀b∈frs X.stack,H b=Wv:=fun b hb=>by
 rcases O2.mp (I.stkSub b hb)with e|hb
 . rw[e];exact I.free
 . obtain⟨_,o,ho,_⟩:=I.ok.funs.mem hb;exact I.base.free b o ho (I.ok.frf b hb) fun z=>I.ok.exfs b z hb
theorem Inv.step{g':Array GenState}{t':Nat}{d':Drawn}{ch:List Yi}(I:Inv X pins Z H s)
 (hch:∀b∈ch,(b∈X.ex\/X.s₀.heap.objs.size<=b)/\b≠X.env.locals/\(∀x c,X.env.cells.lookup x=Wu c->c≠b)/\∀p∈X.pn++pins,p.1≠b)
 (keep:∀b o,b≠X.env.locals->b ∉ X.fs->b ∉ ch->s.heap.get? b=Wu o->H b=Wv->h'.get? b=Wu o)
 (slot:∀b o,b≠X.env.locals->b∈X.fs->b ∉ ch->s.heap.get? b=Wu o->H b=Wv->∃sl,h'.get? b=Wu {o with slots:=sl}) (free:∀b o,b ∉ ch->s.heap.get? b=Wu o->H b=Wv->H' b=Wv)
 (there:∀b o,b ∉ ch->s.heap.get? b=Wu o->∃o',h'.get? b=Wu o')
 (tups:∀b xs,H b=Wu (.tup xs)->H' b=Wu (.tup xs)) (frzs:∀b o u,H b=Wu (.frz o u)->H' b=Wu (.frz o u)) (tbls:∀b ps,H b=Wu (.tbl ps)->∃more,H' b=Wu (.tbl (ps++more)))
 (ns:∀m,s.heap.Ns X.env.locals m->h'.Ns X.env.locals m) (hok:HOk X.prog X.w H' h') (hg:AllBare g') :
 Inv X pins Z H' {s with heap:=h',gens:=g',drawn:=d',toks:=t'}:=by
 have neL:∀b o,X.s₀.heap.get? b=Wu o->b≠X.env.locals:=fun b o e=>Ou (O3 (Yn e) I.ok.above);have neC:∀b o,X.s₀.heap.get? b=Wu o->b ∉ X.ex->b ∉ ch:=fun b o e hx hb=>by
  rcases(hch b hb).1 with z|z
  . exact hx z
  . exact absurd (O3 (Yn e) z) (Yw _)
 have cellK:∀x c,X.env.cells.lookup x=Wu c->∀v,s.heap.IsCell c v->h'.IsCell c v:=fun x c e v ⟨o,ho,hd⟩=>by
  have nch:c ∉ ch:=fun z=>(hch c z).2.2.1 x c e rfl;by_cases hc:c∈X.fs
  . obtain⟨sl,q⟩:=slot c o (I.cne x c e) hc nch ho (I.freeC x c e);exact⟨_,q,hd⟩
  . exact⟨o,keep c o (I.cne x c e) hc nch ho (I.freeC x c e),hd⟩
 refine⟨I.ok,I.os,hg,⟨fun b o e n hb hx=>?_,fun b o e n hb hx=>?_,fun b o e n hx=>?_,fun b o e hx=>?_,fun b xs e=>tups b xs (I.base.tups b xs e),fun b o xs e=>frzs b o xs (I.base.frzs b o xs e),fun b ps e=>?_⟩,?_,fun x c e=>?_,?_,fun x c e=>?_,fun p hp=>?_,hok,I.len⟩
 . exact keep b o (neL b o e) hb (neC b o e hx) (I.base.keep b o e n hb hx) (I.base.free b o e n hx)
 . obtain⟨sl,e1⟩:=I.base.slot b o e n hb hx;obtain⟨sl',e2⟩:=slot b _ (neL b o e) hb (neC b o e hx) e1 (I.base.free b o e n hx);exact⟨sl',e2⟩
 . obtain⟨o',e1⟩:=I.base.there b o e hx;exact free b o' (neC b o e hx) e1 (I.base.free b o e n hx)
 . obtain⟨o',e1⟩:=I.base.there b o e hx;exact there b o' (neC b o e hx) e1
 . obtain⟨m1,e1⟩:=I.base.tbls b ps e;obtain⟨m2,e2⟩:=tbls b _ e1;exact⟨m1++m2,by rw[e2,Array.append_assoc]⟩
 . obtain⟨m,hn,hl⟩:=I.loc;refine⟨m,ns m hn,fun i x v e1 e2 e3=>?_⟩;obtain⟨u,r,l⟩:=hl i x v e1 e2 e3;refine⟨u,r,?_⟩;rcases l with l|⟨k,c,e,z⟩
   . exact .inl l
   . exact .inr ⟨k,c,e,cellK x c e _ z⟩
 . obtain⟨v,z⟩:=I.cell x c e;exact⟨v,cellK x c e v z⟩
 . obtain⟨m,⟨o,_,_,ho,_⟩,_⟩:=I.loc;exact free _ o (fun z=>(hch _ z).2.1 rfl) ho I.free
 . obtain⟨v,o,ho,hd⟩:=I.cell x c e;exact free c o (fun z=>(hch c z).2.2.1 x c e rfl) ho (I.freeC x c e)
 . obtain⟨e,n,ne,nf,d⟩:=I.pin p hp;have nch:p.1 ∉ ch:=fun z=>(hch p.1 z).2.2.2 p hp rfl;exact⟨keep p.1 p.2 ne nf nch e n,free p.1 p.2 nch e n,ne,nf,d⟩
theorem Inv.un{t':Nat}(I:Inv X pins Z H s)(u:Un X.fs [] H H' s.heap h')(hok:HOk X.prog X.w H' h'):Inv X pins Z H' {s with heap:=h',toks:=t'}:=by
 obtain ⟨m,⟨o,es,ep,ho,r⟩,_⟩:=id I.loc;obtain ⟨sl,hL⟩:=u.any ho I.free (by simp);exact I.step (g':=s.gens) (d':=s.drawn) (ch:=[]) (fun _ z=>nomatch z) (fun b o _ hb _ e n=>u.keep b o e n hb (by simp)) (fun b o _ hb _ e n=>u.slot b o e n hb (by simp)) (fun b o _ e n=>u.free b o e n (by simp)) (fun b o _ e=>u.there b o e (by simp)) u.tups u.frzs u.tbls (fun m' hm=>by
   obtain ⟨o',es',ep',ho',r'⟩:=hm;rw [ho] at ho';cases ho';exact ⟨_,es',ep',hL,r'⟩) hok I.bare
theorem Inv.call{g':Array GenState}{t':Nat}{d':Drawn}{ch:List Yi}(I:Inv X pins Z H s)(u:Un (frs X.stack) ch H H' s.heap h')(hok:HOk X.prog X.w H' h')(hg:AllBare g')
   (hch:∀ b∈ch,(b∈X.ex\/X.s₀.heap.objs.size<=b)/\b≠X.env.locals/\(∀ x c,X.env.cells.lookup x=Wu c->c≠b)/\∀ p∈X.pn++pins,p.1≠b) :
   Inv X pins Z H' {s with heap:=h',gens:=g',drawn:=d',toks:=t'}:=by
 obtain ⟨m,⟨o,es,ep,ho,r⟩,_⟩:=id I.loc;obtain ⟨sl,hL⟩:=u.any ho I.free fun z=>(hch _ z).2.1 rfl;exact I.step (ch:=ch) hch (fun b o hL hb hc e n=>u.keep b o e n (fun z=>(O2.mp (I.stkSub b z)).elim hL hb) hc) (fun b o _ _ hc e n=>u.any e n hc) (fun b o hc e n=>u.free b o e n hc) (fun b o hc e=>u.there b o e hc) u.tups u.frzs u.tbls (fun m' hm=>by
   obtain ⟨o',es',ep',ho',r'⟩:=hm;rw [ho] at ho';cases ho';exact ⟨_,es',ep',hL,r'⟩) hok hg
theorem Inv.turned{t':Nat}{it:Yi}(I:Inv X pins Z H s)(k:∀b o,b≠it->s.heap.get? b=Wu o->h'.get? b=Wu o)(hn:H it=Wv)(hL:it≠X.env.locals)
 (h1:it∈X.ex\/X.s₀.heap.objs.size<=it) (h2:∀x c,X.env.cells.lookup x=Wu c->c≠it) (h3:∀p∈X.pn++pins,p.1≠it):Inv X pins Z H {s with heap:=h',toks:=t'}:=by
 have nit:∀b u,H b=Wu u->b≠it:=fun b u e z=>by rw[z,hn]at e;cases e
 refine I.step (g':=s.gens) (d':=s.drawn) (ch:=[it]) (fun b hb=>?_) (fun b o _ _ hc e _=>k b o (fun z=>hc (by simp[z])) e) (fun b o _ _ hc e _=>⟨o.slots,k b o (fun z=>hc (by simp[z])) e⟩) (fun _ _ _ _ n=>n)
  (fun b o hc e=>⟨o,k b o (fun z=>hc (by simp[z])) e⟩) (fun _ _ e=>e) (fun _ _ _ e=>e) (fun b ps e=>⟨#[],by rw[e];simp⟩) (fun m hm=>?_) (fun b u e=>?_) I.bare
 . have e:b=it:=by simpa using hb
   subst e;exact⟨h1,hL,h2,h3⟩
 . obtain⟨o,es,ep,ho,r⟩:=hm;exact⟨o,es,ep,k _ o (YL hL) ho,r⟩
 . refine(I.hok b u e).stay (fun c v hc q=>k c v ?_ q) (fun _ q=>q) fun _ _ q=>q;rcases hc with z|z
   . rw[z];exact nit b u e
   . exact nit c _ z
theorem Inv.tok(I:Inv X pins Z H s)(t:Nat):Inv X pins Z H {s with toks:=t}:=I.un (h':=s.heap) (t':=t) Un.refl I.hok
theorem Inv.kept{t':Nat}(I:Inv X pins Z H s)(k:∀b u,s.heap.get? b=Wu u->h'.get? b=Wu u):Inv X pins Z H {s with heap:=h',toks:=t'}:=I.un (Un.kept k) (I.hok.kept k)
theorem Inv.laid{a:Yi}{o:HO}{t':Nat}(I:Inv X pins Z H s)(k:∀b u,s.heap.get? b=Wu u->h'.get? b=Wu u)(hp:s.heap.objs.size<=a)(new:Zam X.prog X.w (upd H a o) h' a o):
 Inv X pins Z (upd H a o) {s with heap:=h',toks:=t'}:=I.un (Un.laid k hp (I.hok.fresh hp)) (I.hok.laid k hp new)
theorem Inv.write{x e:Yi}{o:HO}{t':Nat}(I:Inv X pins Z H s)(mu:Mut (H x))(he:e=x\/H e=Wu (.own x))(k:∀b u,b≠e->s.heap.get? b=Wu u->h'.get? b=Wu u)(heo:∃u,h'.get? e=Wu u)
 (new:Zam X.prog X.w (upd H x o) h' x o):Inv X pins Z (upd H x o) {s with heap:=h',toks:=t'}:=I.un (Un.write mu he k heo) (I.hok.write mu he k heo new)
theorem Inv.weak{σ':List (Option V)}(I:Inv X pins Z H s)(hl:σ'.length=Z.length)(w:∀(i:Nat) v,σ'[i]? = Wu (Wu v)->Z[i]? = Wu (Wu v)):Inv X pins σ' H s:=⟨I.ok,I.os,I.bare,I.base,let ⟨m,hn,hl'⟩:=I.loc;⟨m,hn,fun i x v e1 e2 e3=>hl' i x v e1 (w i v e2) e3⟩,I.cell,I.free,I.freeC,I.pin,I.hok,hl.trans I.len⟩
theorem Inv.pins_of{pins':List (Yi×Obj)}(I:Inv X pins Z H s)(h:∀p∈pins',s.heap.get? p.1=Wu p.2/\H p.1=Wv/\p.1≠X.env.locals/\p.1 ∉ X.fs/\∀v,p.2.data≠.cell v):Inv X pins' Z H s:=⟨I.ok,I.os,I.bare,I.base,I.loc,I.cell,I.free,I.freeC,fun p hp=>(OD.mp hp).elim (fun z=>I.pin p (Ys _ z)) (h p),I.hok,I.len⟩
theorem ZiD{N:List Str}(hN:N.Nodup){i j:Nat}{x:Str}(a:N[i]? = Wu x)(b:N[j]? = Wu x):i=j:=by obtain⟨h1,e1⟩:=Ob.mp a;obtain⟨h2,e2⟩:=Ob.mp b;exact(List.getElem_inj hN).mp (e1.trans e2.symm)
theorem ZgJ{M:Model}{A:YH}{E:Yj->Yb->Prop}{i:Nat}{x:Str}{v:V}{u:Yj}{Q:Unit->Yb->Prop}(I:Inv X pins Z H s)(hN:X.N.Nodup)(hi:X.N[i]? = Wu x)(hx:Loc X.env.scope x)(r:RelV v u)
 (h:∀s',Inv X pins (Z.set i (Wu v)) H s'->(∃a,Heap.SameBut a s.heap s'.heap/\(a=X.env.locals\/X.env.cells.lookup x=Wu a))->Q () s') (hf:X.fn x=Ww\/X.env.scope.names.lookup x=Wu .local:=by first|exact .inl rfl|exact .inr rfl|assumption):YB M A (storeName X.env x u) Q E s:=by
 obtain⟨m,hn,hl⟩:=id I.loc;have hcls:(X.env.scope.kind==.class || (X.env.scope.kind==.module&&X.env.locals != X.env.globals))=Wx:=by rw[I.ok.kind];rfl
 have hiσ:i<Z.length:=by rw[I.len];exact(Ob.mp hi).1
 have cne:=I.cne;have tracked:∀{a:Yi}{h':YG},(∃o,s.heap.get? a=Wu o/\H a=Wv)->Heap.SameBut a s.heap h'->HOk X.prog X.w H h':=fun {a h'} ha hs b ob e=>by
  obtain⟨_,_,hfree⟩:=ha;refine(I.hok b ob e).stay (fun c w' hc q=>(hs.2 c ?_).trans q) (fun _ q=>q) fun _ _ q=>q;rintro rfl;rcases hc with rfl|hc
  . rw[hfree]at e;cases e
  . rw[hfree]at hc;cases hc
 rcases hx with hk|hk
 . refine wpAny_storeName_local hk hn (fun h' hn' hs=>?_) hcls;obtain⟨oL,_,_,hoL,_⟩:=id hn;refine h _ ⟨I.ok,I.os,I.bare,⟨fun b o e n hb hx=>?_,fun b o e n hb hx=>?_,I.base.free,fun b o e hx=>?_,I.base.tups,I.base.frzs,I.base.tbls⟩,⟨_,hn',fun j y v' e1 e2 e3=>?_⟩,fun y c e=>?_,I.free,I.freeC,fun p hp=>?_,tracked ⟨oL,hoL,I.free⟩ hs,by simpa using I.len⟩ ⟨_,hs,.inl rfl⟩
   . exact(hs.2 b (Ou (O3 (Yn e) I.ok.above))).trans (I.base.keep b o e n hb hx)
   . obtain⟨sl,e1⟩:=I.base.slot b o e n hb hx;exact⟨sl,(hs.2 b (Ou (O3 (Yn e) I.ok.above))).trans e1⟩
   . obtain⟨o',e1⟩:=I.base.there b o e hx;exact⟨o',(hs.2 b (Ou (O3 (Yn e) I.ok.above))).trans e1⟩
   . by_cases hj:j=i
     . subst hj;rw[hi]at e1;cases e1;rw[Ol hiσ]at e2;cases e2;exact⟨u,r,.inl ⟨hk,by simp⟩⟩
     . rw[Oc (YL hj)]at e2;obtain⟨u',r',q⟩:=hl j y v' e1 e2 e3;refine⟨u',r',?_⟩;rcases q with ⟨k,e⟩|⟨k,c,e,z⟩
       . refine .inl ⟨k,?_⟩;have:y≠x:=fun e=>hj (ZiD hN e1 (e ▸ hi));simp[this,e]
       . exact .inr ⟨k,c,e,z.sameBut hs (cne y c e)⟩
   . obtain⟨w',z⟩:=I.cell y c e;exact⟨w',z.sameBut hs (cne y c e)⟩
   . obtain⟨e,n,ne,nf,d⟩:=I.pin p hp;exact⟨(hs.2 p.1 ne).trans e,n,ne,nf,d⟩
 . have hfn:X.fn x=Ww:=by
    rcases hf with z|z
    . exact z
    . rw[z]at hk;cases hk
   obtain⟨c,hc⟩:=I.ok.has x (.inl hk);obtain⟨w',z⟩:=I.cell x c hc;refine wpAny_storeName_cell I.ok.kind hk hc z (fun h' hc' hs=>?_);obtain⟨oc,hoc,hocd⟩:=id z;refine h {s with heap:=h'} ⟨I.ok,I.os,I.bare,⟨fun b o e n hb hx=>?_,fun b o e n hb hx=>?_,I.base.free,fun b o e hx=>?_,I.base.tups,I.base.frzs,I.base.tbls⟩,⟨m,hn.sameBut hs (YL (cne x c hc)),fun j y v' e1 e2 e3=>?_⟩,fun y c' e=>?_,I.free,I.freeC,fun p hp=>?_,tracked ⟨oc,hoc,I.freeC x c hc⟩ hs,by simpa using I.len⟩ ⟨c,hs,.inr hc⟩
   . exact(hs.2 b (Ou (O3 (Yn e) (I.ok.cab x c hfn hc)))).trans (I.base.keep b o e n hb hx)
   . obtain⟨sl,e1⟩:=I.base.slot b o e n hb hx;exact⟨sl,(hs.2 b (Ou (O3 (Yn e) (I.ok.cab x c hfn hc)))).trans e1⟩
   . obtain⟨o',e1⟩:=I.base.there b o e hx;exact⟨o',(hs.2 b (Ou (O3 (Yn e) (I.ok.cab x c hfn hc)))).trans e1⟩
   . by_cases hj:j=i
     . subst hj;rw[hi]at e1;cases e1;rw[Ol hiσ]at e2;cases e2;exact⟨u,r,.inr ⟨.inl hk,c,hc,hc'⟩⟩
     . rw[Oc (YL hj)]at e2;obtain⟨u',r',q⟩:=hl j y v' e1 e2 e3;refine⟨u',r',?_⟩;rcases q with q|⟨k,c',e,z'⟩
       . exact .inl q
       . refine .inr ⟨k,c',e,z'.sameBut hs ?_⟩;rintro rfl;exact hj (ZiD hN e1 (I.ok.inj _ _ _ e hc ▸ hi))
   . by_cases hcc:c'=c
     . subst hcc;exact⟨_,hc'⟩
     . obtain⟨w2,z2⟩:=I.cell y c' e;exact⟨w2,z2.sameBut hs hcc⟩
   . obtain⟨e,n,ne,nf,d⟩:=I.pin p hp;refine⟨(hs.2 p.1 ?_).trans e,n,ne,nf,d⟩;intro q;rw[q,hoc]at e;have q':oc=p.2:=YF e;exact d w' (by rw[<- q'];exact hocd)
theorem Zd6{M:Model}{A:YH}{E:Yj->Yb->Prop}{i:Nat}{x:Str}{v:V}{u:Yj}{Q:Unit->Yb->Prop}(I:Inv X pins Z H s)(hN:X.N.Nodup)(hi:X.N[i]? = Wu x)(hx:Loc X.env.scope x)(r:RelV v u)
 (h:∀s',Inv X pins (Z.set i (Wu v)) H s'->Q () s') (hf:X.fn x=Ww\/X.env.scope.names.lookup x=Wu .local:=by first|exact .inl rfl|exact .inr rfl|assumption):YB M A (storeName X.env x u) Q E s:=
 ZgJ I hN hi hx r (fun s' I' _=>h s' I') hf
theorem Inv.call'{s':Yb}{ch:List Yi}(I:Inv X pins Z H s)(ho:s'.os=s.os)(u:Un (frs X.stack) ch H H' s.heap s'.heap)(hok:HOk X.prog X.w H' s'.heap)(hg:AllBare s'.gens)
 (hch:∀b∈ch,(b∈X.ex\/X.s₀.heap.objs.size<=b)/\b≠X.env.locals/\(∀x c,X.env.cells.lookup x=Wu c->c≠b)/\∀p∈X.pn++pins,p.1≠b):Inv X pins Z H' s':=by
 obtain⟨h',g',d',t',o'⟩:=s';have e:o'=s.os:=ho;subst e;exact I.call (g':=g') (t':=t') (d':=d') u hok hg hch
end
abbrev XK:=Yj->Option Yi->Hp->Prop
noncomputable abbrev St:=List (Option V)
abbrev VK:=V->Hp->Prop
abbrev TE:=St->Hp->VK->Prop
abbrev TT:=St->Hp->(Bool->Hp->Prop)->Prop
abbrev TA:=St->Hp->(List V->Hp->Prop)->Prop
structure Ends where
 nx:St->Hp->Prop
 rt:VK
 bk:St->Hp->Prop:=fun _ _=>False
 ct:St->Hp->Prop:=fun _ _=>False
abbrev TS:=Ends->St->Hp->Prop
def EP(X:Cx)(pins:List (Yi×Obj))(Z:St)(Q:VK)(u:Yj)(s':Yb):Prop:=∃v H',Inv X pins Z H' s'/\RelV v u/\Q v H'
def TP(X:Cx)(pins:List (Yi×Obj))(Z:St)(Q:Bool->Hp->Prop)(b:Bool)(s':Yb):Prop:=∃H',Inv X pins Z H' s'/\Q b H'
def AP(X:Cx)(pins:List (Yi×Obj))(Z:St)(Q:List V->Hp->Prop)(us:List Yj)(s':Yb):Prop:=∃vs H',Inv X pins Z H' s'/\Zl vs us/\Q vs H'
def SP(X:Cx)(pins:List (Yi×Obj))(D:Ends)(f:Flow)(s':Yb):Prop:=
 match f with
 |.next=>∃σ' H',Inv X pins σ' H' s'/\D.nx σ' H'
 |.brk=>∃σ' H',Inv X pins σ' H' s'/\D.bk σ' H'
 |.cont=>∃σ' H',Inv X pins σ' H' s'/\D.ct σ' H'
 |.ret u=>∃v σ' H',Inv X pins σ' H' s'/\RelV v u/\D.rt v H'
def PE(X:Cx)(e:Expr)(t:TE):Prop:=∀(pins:List (Yi×Obj)) (s:Yb) (Z:St) (H:Hp) (Q:VK),Inv X pins Z H s->t Z H Q->YB (model X.prog X.w) X.A (eval e X.env) (EP X pins Z Q) X.xe s
def PT(X:Cx)(e:Expr)(t:TT):Prop:=∀(pins:List (Yi×Obj)) (s:Yb) (Z:St) (H:Hp) (Q:Bool->Hp->Prop),Inv X pins Z H s->t Z H Q->YB (model X.prog X.w) X.A (isTrue e X.env (eval e X.env)) (TP X pins Z Q) X.xe s
def PW(X:Cx)(e:Expr)(t:TT):Prop:=∀(whole:Sem Yj) (pins:List (Yi×Obj)) (s:Yb) (Z:St) (H:Hp) (Q:Bool->Hp->Prop),Inv X pins Z H s->t Z H Q->YB (model X.prog X.w) X.A (isTrue e X.env whole) (TP X pins Z Q) X.xe s
theorem PW.pt{X:Cx}{e:Expr}{t:TT}(h:PW X e t):PT X e t:=h _
def PA(X:Cx)(es:List Expr)(t:TA):Prop:=∀(pos:Pos) (pins:List (Yi×Obj)) (s:Yb) (Z:St) (H:Hp) (Q:List V->Hp->Prop),Inv X pins Z H s->t Z H Q->YB (model X.prog X.w) X.A (spliced (YS pos (YA es X.env))) (AP X pins Z Q) X.xe s
def PS(X:Cx)(st:Stmt)(t:TS):Prop:=∀(pins:List (Yi×Obj)) (s:Yb) (Z:St) (H:Hp) (D:Ends),Inv X pins Z H s->t D Z H->YB (model X.prog X.w) X.A (exec st X.env) (SP X pins D) X.xe s
def PSs(X:Cx)(st:List Stmt)(t:TS):Prop:=∀(pins:List (Yi×Obj)) (s:Yb) (Z:St) (H:Hp) (D:Ends),Inv X pins Z H s->t D Z H->YB (model X.prog X.w) X.A (execs st X.env) (SP X pins D) X.xe s
theorem thn{α:Type}{t:Sem α}{Q Q':α->Yb->Prop}{M:Model}{A:YH}{E:Yj->Yb->Prop}{s:Yb}(h:YB M A t Q E s)(hQ:∀a s,Q a s->Q' a s):YB M A t Q' E s:=Yf h hQ fun _ _ x=>x
section
variable {X:Cx}
noncomputable def Zvt(i:Nat):TE:=fun Z H Q=>∃v,Z[i]? = Wu (Wu v)/\Q v H
noncomputable def tC(v:V):TE:=fun _ H Q=>Q v H
theorem Zsf{i:Nat}{x:Str}{pos:Pos}(hN:X.N[i]? = Wu x)(hv:Vis X.env.scope x)(hd:(x==("__debug__" : Str))=Wx:=by decide)(hcd:(x==("__classdict__" : Str))=Wx:=by decide):PE X (.Name x pos) (Zvt i):=by
 intro pins s Z H Q I h;obtain⟨v,e,h⟩:=h;obtain⟨m,hn,hl⟩:=I.loc;obtain⟨u,r,l⟩:=hl i x v hN e hv;have fin:EP X pins Z Q u s:=⟨v,H,I,r,h⟩
 rcases l with ⟨hk,hm⟩|⟨hk,c,hc,hcell⟩
 . exact wpAny_Name (wpAny_loadName_local I.ok.kind hk hn hm fin) hd
 . rcases hk with hk|hk
   . exact wpAny_Name (wpAny_loadName_cell I.ok.kind hk hc hcell fin) hd
   . exact wpAny_Name (wpAny_loadName_free I.ok.kind hk hc hcell fin hcd) hd
theorem ZnF{i j pos}:PE X (.Constant (.int i) j pos) (tC (.int i)):=fun _ _ _ H _ I h=>wpAny_Constant_int ⟨.int i,H,I.tok _,⟨_,rfl⟩,h⟩
theorem Zuj{b j pos}:PE X (.Constant (.bool b) j pos) (tC (.bl b)):=fun _ _ _ H _ I h=>Constant_bool ⟨.bl b,H,I,rfl,h⟩
theorem ZnC{j pos}:PE X (.Constant .none j pos) (tC .non):=fun _ _ _ H _ I h=>Constant_none ⟨.non,H,I,rfl,h⟩
theorem Zsh{x j pos}:PE X (.Constant (.str x) j pos) (tC (.str x)):=fun _ _ _ H _ I h=>Calls.Constant_str ⟨.str x,H,I.tok _,⟨_,rfl⟩,h⟩
def Gl(X:Cx)(x:Str):Prop:=X.env.kindOf x=Wu .globalImplicit
theorem Zcv{E:Yj->Yb->Prop}{pins:List (Yi×Obj)}{s:Yb}{Z:St}{H:Hp}{x:Str}{u:Yj}{pos:Pos}{Q:Yj->Yb->Prop}(I:Inv X pins Z H s)(hg:Gl X x)(hm:X.mg x=Wu u)(h:Q u s)
 (hd:(x==("__debug__" : Str))=Wx:=by decide):YB (model X.prog X.w) X.A (eval (.Name x pos) X.env) Q E s:=
 Calls.Name_function_global I.ok.kind hg (Calls.loadGlobal_global (by rw[I.ok.glob];exact I.mod.glob.keeps I.bk) hm h) hd
theorem Zc2{E:Yj->Yb->Prop}{pins:List (Yi×Obj)}{s:Yb}{Z:St}{H:Hp}{x:Str}{u:Yj}{pos:Pos}{Q:Yj->Yb->Prop}(I:Inv X pins Z H s)(hg:Gl X x)(hm:X.mg x=Wv)(hv:bootBuiltins x=Wu u)(h:Q u s)
 (hn:x ≠ "__name__" := by decide) (hd:(x==("__debug__" : Str))=Wx:=by decide):YB (model X.prog X.w) X.A (eval (.Name x pos) X.env) Q E s:=by
 obtain⟨mb,h1,h2⟩:=I.mod.blt;exact Calls.Name_function_global I.ok.kind hg (Calls.loadGlobal_builtin (by rw[I.ok.glob];exact I.mod.glob.keeps I.bk) hm (by rw[I.ok.blt];exact h1.keeps I.bk) ((h2 x hn).trans hv) h) hd
theorem ZpR{x:Str}{v:V}{u:Yj}{pos:Pos}(hg:Gl X x)(hm:X.mg x=Wu u)(r:RelV v u)(hd:(x==("__debug__" : Str))=Wx:=by decide):PE X (.Name x pos) (tC v):=fun _ _ _ H _ I h=>Zcv I hg hm ⟨v,H,I,r,h⟩ hd
theorem ZpW{x:Str}{v:V}{u:Yj}{pos:Pos}(hg:Gl X x)(hm:X.mg x=Wv)(hv:bootBuiltins x=Wu u)(r:RelV v u)(hn:x ≠ "__name__" := by decide)(hd:(x==("__debug__" : Str))=Wx:=by decide):PE X (.Name x pos) (tC v):=fun _ _ _ H _ I h=>Zc2 I hg hm hv ⟨v,H,I,r,h⟩ hn hd
variable {a b:Expr}{ta tb:TE}{pos:Pos}
variable {tA tB':TT}{rest:List Expr}
noncomputable def ZvG(t u:TT):TT:=fun Z H Q=>t Z H fun c H1=>if c=Ww then u Z H1 Q else Q Wx H1
noncomputable def tOr(t u:TT):TT:=fun Z H Q=>t Z H fun c H1=>if c=Ww then Q Ww H1 else u Z H1 Q
noncomputable def Zvy(t:TT):TT:=fun Z H Q=>t Z H fun c H1=>Q (!c) H1
theorem ZpA(ha:PT X a tA):PW X (.BoolOp .And [a] pos) tA:=by
 intro wh pins s Z H Q I h;refine isTrue_and (thn (ha pins s Z H Q I h) fun c s1 e=>?_);cases c with
 |true=>exact isTrue_and_nil e
 |false=>exact e
theorem Zr2(ha:PT X a tA):PW X (.BoolOp .Or [a] pos) tA:=by
 intro wh pins s Z H Q I h;refine isTrue_or (thn (ha pins s Z H Q I h) fun c s1 e=>?_);cases c with
 |false=>exact isTrue_or_nil e
 |true=>exact e
theorem Zr3(ha:PT X a tA)(hb:PW X (.BoolOp .And (b::rest) pos) tB'):PW X (.BoolOp .And (a::b::rest) pos) (ZvG tA tB'):=by
 intro wh pins s Z H Q I h;refine isTrue_and (thn (ha pins s Z H _ I h) fun c s1 ⟨H1,I1,q1⟩=>?_);cases c with
 |true=>exact hb wh pins s1 Z H1 Q I1 q1
 |false=>exact⟨H1,I1,q1⟩
theorem Zt9(ha:PT X a tA)(hb:PW X (.BoolOp .Or (b::rest) pos) tB'):PW X (.BoolOp .Or (a::b::rest) pos) (tOr tA tB'):=by
 intro wh pins s Z H Q I h;refine isTrue_or (thn (ha pins s Z H _ I h) fun c s1 ⟨H1,I1,q1⟩=>?_);cases c with
 |true=>exact⟨H1,I1,q1⟩
 |false=>exact hb wh pins s1 Z H1 Q I1 q1
theorem Zr5(ha:PT X a tA):PT X (.UnaryOp .Not a pos) (Zvy tA):=by intro pins s Z H Q I h;exact isTrue_not (ha pins s Z H (fun c H1=>Q (!c) H1) I h)
noncomputable def ZtQ(ta tb:TE):TE:=fun Z H Q=>ta Z H fun x H1=>∃c,x=.bl c/\if c=Ww then tb Z H1 Q else Q (.bl Wx) H1
noncomputable def Zvx(ta tb:TE):TE:=fun Z H Q=>ta Z H fun x H1=>∃c,x=.bl c/\if c=Ww then Q (.bl Ww) H1 else tb Z H1 Q
noncomputable def ZtJ(ta:TE):TE:=fun Z H Q=>ta Z H fun x H1=>∃c,x=.bl c/\Q (.bl (!c)) H1
theorem ZnB{op}{t:TE}(h:PE X a t):PE X (.BoolOp op [a] pos) t:=fun pins s Z H Q I hw=>BoolOp_one (h pins s Z H Q I hw)
theorem Zsn(ha:PE X a ta)(hb:PE X (.BoolOp .And (b::rest) pos) tb):PE X (.BoolOp .And (a::b::rest) pos) (ZtQ ta tb):=by
 intro pins s Z H Q I h;refine BoolOp_and (thn (ha pins s Z H _ I h) fun v s1 ⟨x,H1,I1,r1,q1⟩=>?_);obtain⟨c,rfl,q1⟩:=q1;cases r1;refine wpAny_truthy_bool ?_;cases c with
 |true=>exact hb pins s1 Z H1 Q I1 q1
 |false=>exact⟨.bl Wx,H1,I1,rfl,q1⟩
theorem Zuf(ha:PE X a ta)(hb:PE X (.BoolOp .Or (b::rest) pos) tb):PE X (.BoolOp .Or (a::b::rest) pos) (Zvx ta tb):=by
 intro pins s Z H Q I h;refine BoolOp_or (thn (ha pins s Z H _ I h) fun v s1 ⟨x,H1,I1,r1,q1⟩=>?_);obtain⟨c,rfl,q1⟩:=q1;cases r1;refine wpAny_truthy_bool ?_;cases c with
 |false=>exact hb pins s1 Z H1 Q I1 q1
 |true=>exact⟨.bl Ww,H1,I1,rfl,q1⟩
theorem Zsi(ha:PE X a ta):PE X (.UnaryOp .Not a pos) (ZtJ ta):=by intro pins s Z H Q I h;refine UnaryOp_ (thn (ha pins s Z H _ I h) fun v s1 ⟨x,H1,I1,r1,q1⟩=>?_);obtain⟨c,rfl,q1⟩:=q1;cases r1;exact not_of (wpAny_truthy_bool ⟨.bl (!c),H1,I1,rfl,q1⟩)
noncomputable def tIf(t:TT)(ta tb:TE):TE:=fun Z H Q=>t Z H fun c H1=>if c=Ww then ta Z H1 Q else tb Z H1 Q
theorem ZnG{c:Expr}(hc:PT X c tA)(ha:PE X a ta)(hb:PE X b tb):PE X (.IfExp c a b pos) (tIf tA ta tb):=by
 intro pins s Z H Q I h;refine wpAny_IfExp (thn (hc pins s Z H _ I h) fun d s1 ⟨H1,I1,q1⟩=>?_);cases d with
 |true=>exact ha pins s1 Z H1 Q I1 q1
 |false=>exact hb pins s1 Z H1 Q I1 q1
end
def SqL(K:Yk)(H:Hp)(a:Yi)(xs:List V):Prop:=
 Rd H a (.lst xs) \/
  ∃(o:Obj) (its:Array Yj) (n:Nat),K.lookup a=Wu o/\o.cls=.type "list" /\ o.dict=Wv/\o.data=.seq its n/\its.size<=sizeLine/\Zl xs its.toList
def SqT(K:Yk)(H:Hp)(a:Yi)(xs:List V):Prop:=
 Rd H a (.tup xs) \/
  ∃(o:Obj) (its:Array Yj) (n:Nat),K.lookup a=Wu o/\o.cls=.type "tuple" /\ o.data=.seq its n/\its.size<=sizeLine/\Zl xs its.toList
noncomputable def Zwn:Yj->Option V
 |.none=>Wu .non
 |.bool b=>Wu (.bl b)
 |.int i _=>Wu (.int i)
 |.str x _=>Wu (.str x)
 |.bytes b _=>Wu (.byt b)
 |.float b _=>Wu (.flt b)
 |.ref a=>Wu (.ref a)
 |.type n=>Wu (.ty n)
 |_=>Wv
theorem RelV.abs{x:V}{u:Yj}(r:RelV x u):Zwn u=Wu x:=by
 cases x with
 |non=>cases r;rfl
 |bl _=>cases r;rfl
 |int _=>obtain⟨t,rfl⟩:=r;rfl
 |str _=>obtain⟨t,rfl⟩:=r;rfl
 |byt _=>obtain⟨t,rfl⟩:=r;rfl
 |flt _=>obtain⟨t,rfl⟩:=r;rfl
 |ref _=>cases r;rfl
 |ty _=>cases r;rfl
theorem RelV.inj{x y:V}{u:Yj}(r:RelV x u)(q:RelV y u):x=y:=YF (r.abs.symm.trans q.abs)
theorem Zl.inj:∀{xs ys:List V}{us:List Yj},Zl xs us->Zl ys us->xs=ys
 |_,_,_,.nil,.nil=>rfl
 |_,_,_,.cons r t,.cons r' t'=>by rw[r.inj r',Zl.inj t t']
section
variable {X:Cx}{pins:List (Yi×Obj)}{Z:St}{H:Hp}{s:Yb}{a:Yi}{xs ys:List V}
theorem SqL.of{K:Yk}(h:H a=Wu (.lst xs)):SqL K H a xs:=.inl (.inl h)
theorem Inv.list(I:Inv X pins Z H s)(h:SqL X.K H a xs):∃its:List Yj,Zl xs its/\PlainL s.heap a its.toArray/\xs.length<=sizeLine:=by
 rcases h with h|⟨o,its,n,hk,hc,hd,hs,hz,r⟩
 . obtain⟨z,its,n,r,e⟩:=h.ok I.hok;exact⟨its,r,⟨_,n,e,rfl,rfl,rfl⟩,z⟩
 . refine⟨its.toList,r,⟨o,n,I.kIn a o hk,hc,hd,by simpa using hs⟩,?_⟩;have e:=r.length;simp only[Array.length_toList]at e;omega
theorem Inv.tuple(I:Inv X pins Z H s)(h:SqT X.K H a xs):∃its:List Yj,Zl xs its/\IsTup s.heap a its.toArray/\xs.length<=sizeLine:=by
 rcases h with h|⟨o,its,n,hk,hc,hs,hz,r⟩
 . obtain⟨z,its,r,p⟩:=h.ok I.hok;exact⟨its,r,p.tup,z⟩
 . refine⟨its.toList,r,⟨o,I.kIn a o hk,hc,n,by simpa using hs⟩,?_⟩;have e:=r.length;simp only[Array.length_toList]at e;omega
theorem Inv.list_inj(I:Inv X pins Z H s)(h:SqL X.K H a xs)(h':SqL X.K H a ys):xs=ys:=by
 obtain⟨its,r,⟨o,n,e,_,_,d⟩,_⟩:=I.list h;obtain⟨its',r',⟨o',n',e',_,_,d'⟩,_⟩:=I.list h';rw[e]at e';cases e';rw[d]at d';injection d' with d1 _;have:its=its':=by simpa using congrArg Array.toList d1
 subst this;exact r.inj r'
theorem Inv.tuple_inj(I:Inv X pins Z H s)(h:SqT X.K H a xs)(h':SqT X.K H a ys):xs=ys:=by
 obtain⟨its,r,⟨o,e,_,n,d⟩,_⟩:=I.tuple h;obtain⟨its',r',⟨o',e',_,n',d'⟩,_⟩:=I.tuple h';rw[e]at e';cases e';rw[d]at d';injection d' with d1 _;have:its=its':=by simpa using congrArg Array.toList d1
 subst this;exact r.inj r'
end
noncomputable abbrev Cx.wish(X:Cx)(E:Yj->Yb->Prop):Cx:={X with xe:=E}
noncomputable abbrev Cx.nox(X:Cx):Cx:=X.wish fun _ _=>False
theorem Cx.Ok.wish{X:Cx}(ok:X.Ok)(E:Yj->Yb->Prop):(X.wish E).Ok:=⟨ok.mod,ok.kind,ok.glob,ok.blt,ok.above,ok.inj,ok.has,ok.cab,ok.hd,ok.frames,ok.stk,ok.exf,ok.bs,ok.bsz,ok.noex,ok.exfs,ok.funs,ok.frf⟩
theorem Cx.Ok.unwish{X:Cx}{E:Yj->Yb->Prop}(ok:(X.wish E).Ok):X.Ok:=⟨ok.mod,ok.kind,ok.glob,ok.blt,ok.above,ok.inj,ok.has,ok.cab,ok.hd,ok.frames,ok.stk,ok.exf,ok.bs,ok.bsz,ok.noex,ok.exfs,ok.funs,ok.frf⟩
section
variable {X:Cx}{pins:List (Yi×Obj)}{Z:St}{H:Hp}{s:Yb}{E:Yj->Yb->Prop}
theorem Inv.wish(I:Inv X pins Z H s)(E:Yj->Yb->Prop):Inv (X.wish E) pins Z H s:=⟨I.ok.wish E,I.os,I.bare,I.base,I.loc,I.cell,I.free,I.freeC,I.pin,I.hok,I.len⟩
theorem Inv.unwish(I:Inv (X.wish E) pins Z H s):Inv X pins Z H s:=⟨I.ok.unwish,I.os,I.bare,I.base,I.loc,I.cell,I.free,I.freeC,I.pin,I.hok,I.len⟩
end
section
variable {X:Cx}{st:Stmt}{rest:List Stmt}{t u:TS}{e:Expr}{te:TE}{pos:Pos}
noncomputable def Zq2:TS:=fun D Z H=>D.nx Z H
noncomputable def Zvv(t u:TS):TS:=fun D Z H=>t {D with nx:=u D} Z H
theorem ZpE:PSs X [] Zq2:=fun _ _ Z H _ I h=>wpAny_execs_nil ⟨Z,H,I,h⟩
theorem Znr(h1:PS X st t)(h2:PSs X rest u):PSs X (st::rest) (Zvv t u):=by
 intro pins s Z H D I h;refine wpAny_execs_cons (thn (h1 pins s Z H {D with nx:=u D} I h) fun f s1 q=>?_);cases f with
 |next=>obtain⟨σ',H',I',q⟩:=q;exact h2 pins s1 σ' H' D I' q
 |ret v=>exact q
 |brk=>exact q
 |cont=>exact q
theorem ZpD(h1:PS X st t):PSs X [st] t:=by
 intro pins s Z H D I h;refine wpAny_execs_cons (thn (h1 pins s Z H D I h) fun f s1 q=>?_);cases f with
 |next=>exact wpAny_execs_nil q
 |ret v=>exact q
 |brk=>exact q
 |cont=>exact q
noncomputable def ZrN:TS:=fun D Z H=>D.bk Z H
noncomputable def ZtN:TS:=fun D Z H=>D.ct Z H
theorem ZpF:PS X (.Pass pos) Zq2:=fun _ _ Z H _ I h=>wpAny_Pass ⟨Z,H,I,h⟩
theorem Znu:PS X (.Break pos) ZrN:=fun _ _ Z H _ I h=>wpAny_Break ⟨Z,H,I,h⟩
theorem Ziz:PS X (.Continue pos) ZtN:=fun _ _ Z H _ I h=>wpAny_Continue ⟨Z,H,I,h⟩
theorem Inv.quiet{pins:List (Yi×Obj)}{Z:St}{H:Hp}{s:Yb}(I:Inv X pins Z H s):interactive X.env=Wx:=by simp[interactive,I.ok.kind]
noncomputable def ZtL(te:TE):TS:=fun D Z H=>te Z H fun _ H1=>D.nx Z H1
theorem ZpG(he:PE X e te)(hs:swapsWith e Wv pos.line X.env=pure Wx:=by rfl):PS X (.Expr e pos) (ZtL te):=by intro pins s Z H D I h;exact wpAny_Expr_any (thn (he pins s Z H _ I h) fun v s1 ⟨x,H1,I1,r1,q1⟩=>⟨Z,H1,I1,q1⟩) I.quiet hs
noncomputable def Zvw(te:TE):TS:=fun D Z H=>te Z H D.rt
theorem Zr6(he:PE X e te):PS X (.Return (Wu e) pos) (Zvw te):=by intro pins s Z H D I h;exact wpAny_Return_some (thn (he pins s Z H _ I h) fun v s1 ⟨x,H1,I1,r1,q1⟩=>⟨x,Z,H1,I1,r1,q1⟩)
noncomputable def ZvA(c:TT)(t u:TS):TS:=fun D Z H=>c Z H fun b H1=>if b=Ww then t D Z H1 else u D Z H1
theorem Zua{c:Expr}{a b:List Stmt}{tc:TT}(hc:PT X c tc)(ha:PSs X a t)(hb:PSs X b u):PS X (.If c a b pos) (ZvA tc t u):=by
 intro pins s Z H D I h;refine wpAny_If (thn (hc pins s Z H _ I h) fun d s1 ⟨H1,I1,q1⟩=>?_);cases d with
 |true=>exact ha pins s1 Z H1 D I1 q1
 |false=>exact hb pins s1 Z H1 D I1 q1
end
abbrev TG:=V->St->Hp->(St->Hp->Prop)->Prop
abbrev TGs:=List V->St->Hp->(St->Hp->Prop)->Prop
def PG(X:Cx)(target:Expr)(t:TG):Prop:=
 ∀(pins:List (Yi×Obj)) (s:Yb) (Z:St) (H:Hp) (v:V) (u:Yj) (Q:St->Hp->Prop),Inv X pins Z H s->RelV v u->t v Z H Q ->
  YB (model X.prog X.w) X.A (assign target X.env u) (fun _ s'=>∃σ' H',Inv X pins σ' H' s'/\Q σ' H') X.xe s
def PGs(X:Cx)(ts:List Expr)(t:TGs):Prop:=
 ∀(pins:List (Yi×Obj)) (s:Yb) (Z:St) (H:Hp) (vs:List V) (us:List Yj) (Q:St->Hp->Prop),Inv X pins Z H s->Zl vs us->t vs Z H Q ->
  YB (model X.prog X.w) X.A (assignInOrder ((assignEach ts X.env).map (·.2)) us) (fun _ s'=>∃σ' H',Inv X pins σ' H' s'/\Q σ' H') X.xe s
abbrev Zo0:=V->V->V->Hp->(Hp->Prop)->Prop
def ZqX(X:Cx)(t:Zo0):Prop:=
 ∀(pins:List (Yi×Obj)) (s:Yb) (Z:St) (H:Hp) (o i v:V) (ov iv u:Yj) (Q:Hp->Prop),Inv X pins Z H s->RelV o ov->RelV i iv->RelV v u->t o i v H Q ->
  YB (model X.prog X.w) X.A (setItem ov iv u) (fun _ s'=>∃H',Inv X pins Z H' s'/\Q H') X.xe s
abbrev TIp:=V->V->Hp->VK->Prop
def PIp(X:Cx)(op:Operator)(t:TIp):Prop:=
 ∀(pins:List (Yi×Obj)) (s:Yb) (Z:St) (H:Hp) (x y:V) (v u:Yj) (Q:VK),Inv X pins Z H s->RelV x v->RelV y u->t x y H Q ->
  YB (model X.prog X.w) X.A (inplaceOp op v u) (EP X pins Z Q) X.xe s
section
variable {X:Cx}{pos:Pos}
noncomputable def Zc4(i:Nat):TG:=fun v Z H Q=>Q (Z.set i (Wu v)) H
theorem Zfk{i:Nat}{x:Str}(hN:X.N.Nodup)(hi:X.N[i]? = Wu x)(hx:Loc X.env.scope x)(hf:X.fn x=Ww\/X.env.scope.names.lookup x=Wu .local:=by first|exact .inl rfl|exact .inr rfl|assumption):PG X (.Name x pos) (Zc4 i):=by intro pins s Z H v u Q I r h;exact wpAny_assign_Name (Zd6 I hN hi hx r (fun s' I'=>⟨_,H,I',h⟩) hf)
noncomputable def Zqw:TGs:=fun vs Z H Q=>vs=[]/\Q Z H
noncomputable def Zi0(t:TG)(u:TGs):TGs:=fun vs Z H Q=>∃v r,vs=v::r/\t v Z H fun σ' H'=>u r σ' H' Q
theorem Zlf:PGs X [] Zqw:=by intro pins s Z H vs us Q I r h;obtain⟨e,h⟩:=h;subst e;cases r;exact assignInOrder_nil ⟨Z,H,I,h⟩
theorem ZfW{e:Expr}{es:List Expr}{t:TG}{u:TGs}(h1:PG X e t)(h2:PGs X es u)
 (hs:(assignEach (e::es) X.env).map (·.2)=assign e X.env::(assignEach es X.env).map (·.2):=by rfl):PGs X (e::es) (Zi0 t u):=by
 intro pins s Z H vs us Q I r h;obtain⟨v,vr,e1,h⟩:=h;subst e1;cases r with
 |cons r rr=>rw[hs];refine assignInOrder_cons (thn (h1 pins s Z H _ _ _ I r h) fun _ s1 ⟨σ1,H1,I1,q1⟩=>?_);exact h2 pins s1 σ1 H1 _ _ Q I1 rr q1
noncomputable def Zqv(K:Yk)(n:Nat)(t:TGs):TG:=fun v Z H Q=>∃a xs,v=.ref a/\SqT K H a xs/\xs.length=n/\t xs Z H Q
theorem Znz{es:List Expr}{k:Nat}{t:TGs}{n:Nat}(hc:X.calm=Ww)(h:PGs X es t)
 (hn:(assignEach es X.env).length=n:=by rfl) (hst:(assignEach es X.env).findIdx? (·.1)=Wv:=by rfl):PG X (.Tuple es k pos) (Zqv X.K n t):=by
 intro pins s Z H v u Q I r hw;obtain⟨a,xs,e1,hq,hl,hw⟩:=hw;subst e1;cases r;obtain⟨its,rv,ht,hz⟩:=I.tuple hq;refine assign_Tuple_tuple (I.ok.hd hc) ht (by simp[hn,<- hl,rv.length]) hst fun h' hx=>?_;have I1:Inv X pins Z H {s with heap:=h'}:=I.kept (t':=s.toks) fun b o e=>hx b o (Ou (Yn e)) e;exact h pins _ Z H xs _ Q I1 (by simpa using rv) hw
noncomputable def Zwa(to ti:TE)(t:Zo0):TG:=fun v Z H Q=>to Z H fun o H1=>ti Z H1 fun i H2=>t o i v H2 fun H3=>Q Z H3
theorem Zse{o i:Expr}{to ti:TE}{t:Zo0}(ho:PE X o to)(hi:PE X i ti)(hs:ZqX X t)
 (ha:∀v,assign (.Subscript o i pos) X.env v=(do
  let ov <- holding [v] (eval o X.env);let iv <- holding [v,ov] (eval i X.env)
  standAt pos
  holding [v,ov,iv] (setItem ov iv v)
  release [v,ov,iv] []):=by intro _;rfl):PG X (.Subscript o i pos) (Zwa to ti t):=by
 intro pins s Z H v u Q I r h;rw[ha];refine Ya (Wg (thn (ho pins s Z H _ I h) fun ov s1 ⟨x,H1,I1,r1,q1⟩=>?_));refine Ya (Wg (thn (hi pins s1 Z H1 _ I1 q1) fun iv s2 ⟨y,H2,I2,r2,q2⟩=>?_));refine Ya (wpAny_standAt (Ya (Wg (thn (hs pins s2 Z H2 x y v ov iv u _ I2 r1 r2 r q2) fun _ s3 ⟨H3,I3,q3⟩=>?_))));exact wpAny_release ⟨Z,H3,I3,q3⟩
noncomputable def ZmY(te:TE)(g:TG):TS:=fun D Z H=>te Z H fun x H1=>g x Z H1 D.nx
theorem ZjO{tg e:Expr}{te:TE}{g:TG}(he:PE X e te)(hg:PG X tg g)(hs:swapsWithSole [tg] e pos.line X.env=pure Wx:=by rfl)(hw:swappedStores [tg] e X.env=pure Wv:=by rfl)
 (h1:(assignEach [tg] X.env).map (·.2)=[assign tg X.env]:=by rfl):PS X (.Assign [tg] e pos) (ZmY te g):=by
 intro pins s Z H D I h;refine wpAny_Assign_stores (thn (he pins s Z H _ I h) fun v s1 ⟨x,H1,I1,r1,q1⟩=>?_) hs hw;rw[h1];exact thn (hg pins s1 Z H1 x v _ I1 r1 q1) fun _ s2 q=>q
theorem ZjN{i:Nat}{x:Str}{e:Expr}{te:TE}{pos':Pos}(hN:X.N.Nodup)(hi:X.N[i]? = Wu x)(hx:Loc X.env.scope x)(he:PE X e te)(hs:swapsWith e (Wu (.Name x pos')) pos.line X.env=pure Wx:=by rfl)(hf:X.fn x=Ww\/X.env.scope.names.lookup x=Wu .local:=by first|exact .inl rfl|exact .inr rfl|assumption):
 PS X (.Assign [.Name x pos'] e pos) (ZmY te (Zc4 i)):=by
 intro pins s Z H D I h;refine wpAny_Assign_Name (thn (he pins s Z H _ I h) fun v s1 ⟨y,H1,I1,r1,q1⟩=>?_) hs;exact Zd6 I1 hN hi hx r1 (fun s2 I2=>⟨_,H1,I2,q1⟩) hf
noncomputable def ZvF(i:Nat)(te:TE)(ti:TIp):TS:=fun D Z H=>∃x,Z[i]? = Wu (Wu x)/\te Z H fun y H1=>ti x y H1 fun z H2=>D.nx (Z.set i (Wu z)) H2
theorem Zr9{i:Nat}{x:Str}{e:Expr}{te:TE}{op:Operator}{ti:TIp}{pos':Pos}(hN:X.N.Nodup)(hi:X.N[i]? = Wu x)(hx:Loc X.env.scope x)(he:PE X e te)(ho:PIp X op ti)(hf:X.fn x=Ww\/X.env.scope.names.lookup x=Wu .local:=by first|exact .inl rfl|exact .inr rfl|assumption):
 PS X (.AugAssign (.Name x pos') op e pos) (ZvF i te ti):=by
 intro pins s Z H D I h;obtain⟨v,e1,h⟩:=h;obtain⟨m,hn,hl⟩:=I.loc;have vis:Vis X.env.scope x:=by rcases hx with k|k;exact .inl k;exact .inr (.inl k)
 obtain⟨u,r,l⟩:=hl i x v hi e1 vis;refine wpAny_AugAssign_Name ?_;have go:YB (model X.prog X.w) X.A (eval e X.env) (fun w s₂=>YB (model X.prog X.w) X.A (inplaceOp op u w) (fun r s₃=>YB (model X.prog X.w) X.A (storeName X.env x r) (fun _=>SP X pins D .next) X.xe s₃) X.xe s₂) X.xe s:=by refine thn (he pins s Z H _ I h) fun w s1 ⟨y,H1,I1,r1,q1⟩=>?_;refine thn (ho pins s1 Z H1 v y u w _ I1 r r1 q1) fun z s2 ⟨zv,H2,I2,r2,q2⟩=>?_;exact Zd6 I2 hN hi hx r2 (fun s3 I3=>⟨_,H2,I3,q2⟩) hf
 rcases l with ⟨hk,hm⟩|⟨hk,c,hc,hcell⟩
 . exact wpAny_loadName_local I.ok.kind hk hn hm go
 . rcases hk with hk|hk
   . exact wpAny_loadName_cell I.ok.kind hk hc hcell go
   . rcases hx with k|k
     . have:X.env.scope.names.lookup x=Wu .free:=hk;rw[k]at this;cases this
     . have:X.env.scope.names.lookup x=Wu .free:=hk;rw[k]at this;cases this
noncomputable def ipI(f:Int->Int->Int):TIp:=fun x y H Q=>∃i j,x=.int i/\y=.int j/\Q (.int (f i j)) H
theorem ZsV:PIp X .Add (ipI fun i j=>i+j):=by intro pins s Z H x y v u Q I r1 r2 h;obtain⟨i,j,e1,e2,q⟩:=h;subst e1;subst e2;obtain⟨t,rfl⟩:=r1;obtain⟨t',rfl⟩:=r2;exact iadd_int ⟨.int _,H,I.tok _,⟨_,rfl⟩,q⟩
end
section
variable {X:Cx}{pos:Pos}
noncomputable def ZrJ(c:TT)(tb:TS):TS:=fun D Z H=>∃W:Nat->St->Hp->Prop,(∃m,W m Z H)/\∀m Z H,W m Z H ->
 c Z H fun b H1=>if b=Ww then ∃N:St->Hp->Prop,(∀σ' H',N σ' H'->∃m',m'<m/\W m' σ' H')/\tb {D with nx:=N,ct:=N,bk:=D.nx} Z H1 else D.nx Z H1
theorem Zns{c:Expr}{body:List Stmt}{tc:TT}{tb:TS}(hp:PassesOwn (model X.prog X.w) X.A X.env X.xe)(hc:PT X c tc)(hb:PSs X body tb):PS X (.While c body [] pos) (ZrJ tc tb):=by
 intro pins s Z H D I h;obtain⟨W,⟨m0,w0⟩,turn⟩:=h;refine wpAny_While (codeAny_whileLoop (fun n s'=>∃σ' H',Inv X pins σ' H' s'/\W n σ' H') ?_ m0 ⟨Z,H,I,w0⟩);rintro n s1 ⟨σ1,H1,I1,w1⟩;refine wpAny_passesOwn hp (thn (hc pins s1 σ1 H1 _ I1 (turn n σ1 H1 w1)) fun b s2 ⟨H2,I2,q2⟩=>?_);cases b with
 |true=>
  obtain⟨N,hN,q2⟩:=q2;rw[if_pos rfl];refine wpAny_passesOwn hp (thn (hb pins s2 σ1 H2 _ I2 q2) fun f s3 q3=>?_);cases f with
  |next=>obtain⟨σ3,H3,I3,n3⟩:=q3;obtain⟨m',hm,w3⟩:=hN σ3 H3 n3;exact⟨m',hm,σ3,H3,I3,w3⟩
  |cont=>obtain⟨σ3,H3,I3,n3⟩:=q3;obtain⟨m',hm,w3⟩:=hN σ3 H3 n3;exact⟨m',hm,σ3,H3,I3,w3⟩
  |brk=>exact q3
  |ret v=>exact q3
 |false=>rw[if_neg Ow];exact wpAny_execs_nil ⟨σ1,H2,I2,q2⟩
end
structure It where
 go:Nat->Hp->Prop
 yld:Nat->Hp->V->Hp->Prop
 stop:Nat->Hp->Prop
def Zdn(X:Cx)(pins:List (Yi×Obj))(H:Hp)(b:Yi):Prop:=H b=Wv/\b≠X.env.locals/\b ∉ X.fs/\(b∈X.ex\/X.s₀.heap.objs.size<=b)/\(∀x c,X.env.cells.lookup x=Wu c->c≠b)/\∀p∈X.pn++pins,p.1≠b
theorem Inv.fpOk{X:Cx}{pins:List (Yi×Obj)}{Z:St}{H H':Hp}{s:Yb}{b:Yi}(I:Inv X pins Z H s)(hb:s.heap.objs.size<=b)(hn:H' b=Wv):Zdn X pins H' b:=by
 refine⟨hn,Nat.ne_of_gt (O3 I.lt hb),I.nofs hb,.inr (OE I.sz hb),fun x c e z=>?_,fun p hp z=>?_⟩
 . obtain⟨v,q⟩:=I.cell x c e;exact absurd (O3 q.lt (by rw[z];exact hb)) (Yw _)
 . exact absurd (O3 (Yn (I.pin p hp).1) (by rw[z];exact hb)) (Yw _)
structure Turn(P:Yh)(w:Yg)(K:Yk)(tg:Expr)(J:It)(fp:List Yi)(it:Yi)(tn:Nat->YG->Prop):Prop where
 mem:it∈fp
 obj:∀i h,tn i h->∀b∈fp,∃o,h.get? b=Wu o/\∀v,o.data≠.cell v
 keep:∀i h h',tn i h->(∀b∈fp,∀o,h.get? b=Wu o->h'.get? b=Wu o)->tn i h'
 item:∀(X:Cx),X.prog=P->X.w=w->X.K=K->X.calm=Ww->∀(i:Nat) (pins:List (Yi×Obj)) (s:Yb) (Z:St) (H:Hp) (E:Yj->Yb->Prop),Inv X pins Z H s->(∀b∈fp,Zdn X pins H b)->tn i s.heap->J.go i H ->
  YB (model P w) X.A (pyNext (.ref it)) (fun r s1=>∃u,r=Wu u /\
   YB (model P w) X.A (letOwnedTupleGo tg (.ref it) u) (fun _ s2=>∃x H',Inv X pins Z H' s2/\RelV x u/\J.yld i H x H'/\tn (i+1) s2.heap/\∀b∈fp,H' b=Wv) E s1) E s
 done:∀(X:Cx),X.prog=P->X.w=w->X.K=K->X.calm=Ww->∀(i:Nat) (pins:List (Yi×Obj)) (s:Yb) (Z:St) (H:Hp) (E:Yj->Yb->Prop),Inv X pins Z H s->(∀b∈fp,Zdn X pins H b)->tn i s.heap->J.stop i H ->
  YB (model P w) X.A (pyNext (.ref it)) (fun r s1=>r=Wv/\Inv X pins Z H s1) E s
 self:∀(A:YH) (i:Nat) (s:Yb) (Q:Yj->Yb->Prop) (E:Yj->Yb->Prop),tn i s.heap->Q (.ref it) s->YB (model P w) A (pyIter (.ref it)) Q E s
abbrev TI:=St->Hp->(It->Hp->Prop)->Prop
def PIE(X:Cx)(pins:List (Yi×Obj))(Z:St)(tg:Expr)(R:It->Hp->Prop)(itv:Yj)(s2:Yb):Prop:=∃(it:Yi) (fp:List Yi) (tn:Nat->YG->Prop) (J:It) (H':Hp),itv=.ref it/\Inv X pins Z H' s2/\Turn X.prog X.w X.K tg J fp it tn/\tn 0 s2.heap/\(∀b∈fp,Zdn X pins H' b)/\R J H'
def PI(X:Cx)(tg iter:Expr)(wi:TI):Prop:=
 ∀(pins:List (Yi×Obj)) (s:Yb) (Z:St) (H:Hp) (R:It->Hp->Prop),Inv X pins Z H s->wi Z H R ->
  YB (model X.prog X.w) X.A (eval iter X.env) (fun v s1=>YB (model X.prog X.w) X.A (pyIter v) (PIE X pins Z tg R) X.xe s1) X.xe s
theorem Zg1{M:Model}{A:YH}{E:Yj->Yb->Prop}{s:Yb}{tg:Expr}{it:Yi}{u:Yj}{o:Obj}{n:String}{vs:Array Yj}{Q:Unit->Yb->Prop}(ho:s.heap.get? it=Wu o)(hc:o.cls=.type n)(hd:o.data=.fields vs)
   (hn:["enumerate", "zip", "dict_itemiterator", "dict_reverseitemiterator", "odict_iterator", "itertools.zip_longest", "itertools.pairwise"].contains n=Wx) (hQ:Q () s):YB M A (letOwnedTupleGo tg (.ref it) u) Q E s:=by
 unfold letOwnedTupleGo;cases tg<;>first
   | exact Yc hQ
   | (cases u<;>first
       | exact Yc hQ
       | (refine Ya (wpAny_load ho ?_)
          rw [hc,hd];show YB M A (if (["enumerate", "zip", "dict_itemiterator", "dict_reverseitemiterator", "odict_iterator", "itertools.zip_longest", "itertools.pairwise"].contains n&&vs[0]?==Wu (rawInt _))=Ww then _ else _) Q E s;rw [if_neg (by intro h;rw [hn,Bool.false_and] at h;cases h)];exact Yc hQ))
noncomputable def Itl(K:Yk)(a:Yi):It:=⟨fun i H=>∃xs x,SqL K H a xs/\xs[i]? = Wu x,fun i H x H'=>H'=H/\∀xs,SqL K H a xs->xs[i]? = Wu x,fun i H=>∃xs,SqL K H a xs/\xs.length<=i⟩
noncomputable def Itt(K:Yk)(a:Yi):It:=⟨fun i H=>∃xs x,SqT K H a xs/\xs[i]? = Wu x,fun i H x H'=>H'=H/\∀xs,SqT K H a xs->xs[i]? = Wu x,fun i H=>∃xs,SqT K H a xs/\xs.length<=i⟩
noncomputable def Itr(lo:Int)(n:Nat):It:=⟨fun i _=>i<n,fun i H x H'=>H'=H/\x=.int (lo+i),fun i _=>n<=i⟩
theorem ZlN{P:Yh}{w:Yg}{K:Yk}{tg:Expr}(a it:Yi):Turn P w K tg (Itl K a) [it] it (fun i h=>h.IsListIter it a i) where
 mem:=by simp
 obj:=fun i h st b hb=>by
  have e:b=it:=by simpa using hb
  subst e;obtain⟨o,e,c,d⟩:=st;exact⟨o,e,fun v z=>by rw[d]at z;cases z⟩
 keep:=fun i h h' st k=>st.at fun o e=>k it (by simp) o e
 item:=by intro X hP hw hK hc i pins s Z H E I hf st hg;subst hP hw hK;obtain⟨xs,x,hq,hx⟩:=hg;obtain⟨its,rv,p,hz⟩:=I.list hq;obtain⟨u,hu,ru⟩:=rv.get hx;obtain⟨f0,f1,f2,f3,f4,f5⟩:=hf it (by simp);refine wpAny_pyNext_list_item st p.isList (x:=u) (by simpa using hu) fun h' st' sb=>?_;have I1:Inv X pins Z H {s with heap:=h'}:=I.turned (t':=s.toks) (fun b o hb e=>(sb.2 b hb).trans e) f0 f1 f3 f4 f5;obtain⟨o,e,c,d⟩:=id st';exact⟨u,rfl,Zg1 (s:={s with heap:=h'}) e c d (by decide) ⟨x,H,I1,ru,⟨rfl,fun ys hy=>by rw[I.list_inj hy hq];exact hx⟩,st',fun b hb=>(hf b hb).1⟩⟩
 done:=by intro X hP hw hK hc i pins s Z H E I hf st hg;subst hP hw hK;obtain⟨xs,hq,hx⟩:=hg;obtain⟨its,rv,p,hz⟩:=I.list hq;obtain⟨f0,f1,f2,f3,f4,f5⟩:=hf it (by simp);have hl:=rv.length;exact wpAny_pyNext_list_end (I.ok.hd hc) st p.isList (by simp;omega) fun h' eb=>⟨rfl,I.turned (t':=s.toks) (fun b o hb e=>eb b o hb e) f0 f1 f3 f4 f5⟩
 self:=fun _ _ _ _ _ st h=>wpAny_pyIter_listiter st h
theorem Zjy{P:Yh}{w:Yg}{K:Yk}{tg:Expr}(a it:Yi):Turn P w K tg (Itt K a) [it] it (fun i h=>h.IsTupleIter it a i) where
 mem:=by simp
 obj:=fun i h st b hb=>by
  have e:b=it:=by simpa using hb
  subst e;obtain⟨o,e,c,d⟩:=st;exact⟨o,e,fun v z=>by rw[d]at z;cases z⟩
 keep:=fun i h h' st k=>st.at fun o e=>k it (by simp) o e
 item:=by intro X hP hw hK hc i pins s Z H E I hf st hg;subst hP hw hK;obtain⟨xs,x,hq,hx⟩:=hg;obtain⟨its,rv,p,hz⟩:=I.tuple hq;obtain⟨u,hu,ru⟩:=rv.get hx;obtain⟨f0,f1,f2,f3,f4,f5⟩:=hf it (by simp);refine wpAny_pyNext_tuple_item st (show s.heap.IsTuple a its.toArray from p) (x:=u) (by simpa using hu) fun h' st' sb=>?_;have I1:Inv X pins Z H {s with heap:=h'}:=I.turned (t':=s.toks) (fun b o hb e=>(sb.2 b hb).trans e) f0 f1 f3 f4 f5;obtain⟨o,e,c,d⟩:=id st';exact⟨u,rfl,Zg1 (s:={s with heap:=h'}) e c d (by decide) ⟨x,H,I1,ru,⟨rfl,fun ys hy=>by rw[I.tuple_inj hy hq];exact hx⟩,st',fun b hb=>(hf b hb).1⟩⟩
 done:=by intro X hP hw hK hc i pins s Z H E I hf st hg;subst hP hw hK;obtain⟨xs,hq,hx⟩:=hg;obtain⟨its,rv,p,hz⟩:=I.tuple hq;obtain⟨f0,f1,f2,f3,f4,f5⟩:=hf it (by simp);have hl:=rv.length;exact wpAny_pyNext_tuple_end (I.ok.hd hc) st (show s.heap.IsTuple a its.toArray from p) (by simp;omega) fun h' eb=>⟨rfl,I.turned (t':=s.toks) (fun b o hb e=>eb b o hb e) f0 f1 f3 f4 f5⟩
 self:=fun _ _ _ _ _ st h=>wpAny_pyIter_tupleiter st h
theorem Zjz{P:Yh}{w:Yg}{K:Yk}{tg:Expr}(it:Yi)(lo:Int)(n:Nat):Turn P w K tg (Itr lo n) [it] it (fun i h=>IsRangeIter h it (lo+(i:Nat) * 1) ((n:Int) - (i:Nat)) 1) where
 mem:=by simp
 obj:=fun i h st b hb=>by
   have e:b=it:=by simpa using hb
   subst e;exact ⟨_,st,fun v z=>by
     have z':Data.fields _=Data.cell v:=z;cases z'⟩
 keep:=fun i h h' st k=>k it (by simp) _ st
 item:=by
   intro X hP hw hK hc i pins s Z H E I hf st hg;subst hP hw hK;obtain ⟨f0,f1,f2,f3,f4,f5⟩:=hf it (by simp);have W:=Walks.range (prog:=X.prog) (w:=X.w) (I.ok.hd hc) it lo 1 n;refine W.item i s _ _ hg st fun v h' tk hv st' kk=>?_;obtain ⟨t,rfl⟩:=hv;have I1:Inv X pins Z H {s with heap:=h',toks:=tk}:=I.turned (fun b o hb e=>kk b o (by simpa using hb) e) f0 f1 f3 f4 f5;refine ⟨_,rfl,Zg1 (s:={s with heap:=h',toks:=tk}) (n := "range_iterator") st' rfl rfl (by decide) ⟨.int (lo+i),H,I1,⟨t,?_⟩,⟨rfl,rfl⟩,st',fun b hb=>(hf b hb).1⟩⟩;rw [Int.mul_one]
 done:=by
   intro X hP hw hK hc i pins s Z H E I hf st hg;subst hP hw hK;obtain ⟨f0,f1,f2,f3,f4,f5⟩:=hf it (by simp);exact wpAny_pyNext_range_end (I.ok.hd hc) st (by have:n<=i:=hg;omega) fun h' eb=>⟨rfl,I.turned (t':=s.toks) (fun b o hb e=>eb b o hb e) f0 f1 f3 f4 f5⟩
 self:=fun _ _ _ _ _ st h=>wpAny_pyIter_rangeiter st h
section
variable {X:Cx}{tg:Expr}
theorem Znb{pins:List (Yi×Obj)}{Z:St}{H:Hp}{s:Yb}{R:It->Hp->Prop}{E:Yj->Yb->Prop}{lo hi:Int}{t u v:Tok}{tk:Nat}(I:Inv X pins Z H s)(h1:-(2 ^ 62)<=lo)(h2:lo<2 ^ 62)(h3:-(2 ^ 62)<=hi)(h4:hi<2 ^ 62)
 (q:R (Itr lo (hi - lo).toNat) H):YB (model X.prog X.w) X.A (pyIter (.ref s.heap.objs.size)) (PIE X pins Z tg R) E {s with heap:=s.heap.push {cls:=.type "range",data:=.fields #[.int lo t,.int hi u,.int 1 v]},toks:=tk}:=by
 refine wpAny_pyIter_range (IsRange.new ..) (small_one h1 h2 h3 h4) ?_;have I1:Inv X pins Z H {s with heap:=s.heap.push {cls:=.type "range",data:=.fields #[.int lo t,.int hi u,.int 1 v]},toks:=tk}:=I.kept fun b o e=>Od _ e;refine⟨(s.heap.push {cls:=.type "range",data:=.fields #[.int lo t,.int hi u,.int 1 v]}).objs.size,[(s.heap.push {cls:=.type "range",data:=.fields #[.int lo t,.int hi u,.int 1 v]}).objs.size],_,_,H,rfl,
  I1.kept (t':=tk) fun b o e=>Od _ e,Zjz _ lo (hi - lo).toNat,?_,fun b hb=>?_,q⟩
 . have e1:lo+((0:Nat):Int) * 1=lo:=by simp
   have e2:(((hi - lo).toNat:Nat):Int) - ((0:Nat):Int)=Builtin.Range.rangeSize lo hi 1:=by rw[rangeSize_one];split<;>omega
   show IsRangeIter _ _ (lo+((0:Nat):Int) * 1) ((((hi - lo).toNat:Nat):Int) - ((0:Nat):Int)) 1;rw[e1,e2];exact Oj _ rfl
 . have e:b=(s.heap.push {cls:=.type "range",data:=.fields #[.int lo t,.int hi u,.int 1 v]}).objs.size:=by simpa using hb
   subst e;exact I1.fpOk (Oq _) (I1.hok.fresh (Oq _))
noncomputable def ZuL(ta:TA):TI:=fun Z H R=>ta Z H fun vs H1=>∃j:Int,vs=[.int j]/\-(2 ^ 62)<=j/\j<2 ^ 62/\R (Itr 0 j.toNat) H1
theorem Zl9{a:Expr}{ta:TA}{p pos:Pos}(hg:Gl X "range")(hm:X.mg "range" = Wv)(ha:PA X [a] ta)(hs:YA [a] X.env=[(Wx,eval a X.env)]:=by rfl):PI X tg (.Call (.Name "range" p) [a] [] pos) (ZuL ta):=by
 intro pins s Z H R I h;refine Call_ (Zc2 I hg hm boot_range (PyProof.Rows.callWith_type1 (thn (ha pos pins s Z H _ I h) fun us s1 ⟨vs,H1,I1,r1,q1⟩=>?_) hs rfl));obtain⟨j,e,q1,q2,q⟩:=q1;subst e;cases r1 with
 |cons r rr=>cases rr;obtain⟨t,rfl⟩:=r;exact call_range_1 (Znb I1 (by omega) (by omega) q1 q2 (by simpa using q))
noncomputable def ZvB(wi:TI)(g:TG)(tb:TS):TS:=fun D Z H=>wi Z H fun J H1=>∃W:Nat->Nat->St->Hp->Prop,(∃m,W 0 m Z H1)/\∀i m Z H,W i m Z H ->
 (J.stop i H/\D.nx Z H)\/(J.go i H/\∃N:St->Hp->Prop,(∀σ' H',N σ' H'->∃m',m'<m/\W (i+1) m' σ' H')/\∀x H',J.yld i H x H'->g x Z H' fun σ2 H2=>tb {D with nx:=N,ct:=N,bk:=D.nx} σ2 H2)
noncomputable def ZfV(fp:List Yi)(h:YG):List (Yi×Obj):=fp.filterMap fun b=>(h.get? b).map fun o=>(b,o)
theorem Zct{fp:List Yi}{h:YG}{b:Yi}{o:Obj}(hb:b∈fp)(e:h.get? b=Wu o):(b,o)∈ZfV fp h:=List.mem_filterMap.mpr ⟨b,hb,by rw[e];rfl⟩
theorem Zmh{fp:List Yi}{h:YG}{p:Yi×Obj}(hp:p∈ZfV fp h):p.1∈fp/\h.get? p.1=Wu p.2:=by
 obtain⟨b,hb,e⟩:=List.mem_filterMap.mp hp;cases q:h.get? b with
 |none=>rw[q]at e;cases e
 |some o=>rw[q]at e;have e':(b,o)=p:=YF e;subst e';exact⟨hb,q⟩
theorem Inv.pinned{pins:List (Yi×Obj)}{Z:St}{H:Hp}{s:Yb}{fp:List Yi}(I:Inv X pins Z H s)(hf:∀b∈fp,Zdn X pins H b)(ho:∀b∈fp,∃o,s.heap.get? b=Wu o/\∀v,o.data≠.cell v):Inv X (pins++ZfV fp s.heap) Z H s:=
 I.pins_of fun p hp=>(OD.mp hp).elim (fun z=>I.pin p (Ov _ z)) fun z=>by obtain⟨hb,e⟩:=Zmh z;obtain⟨f0,f1,f2,_⟩:=hf p.1 hb;obtain⟨o,e',d⟩:=ho p.1 hb;rw[e]at e';cases e';exact⟨e,f0,f1,f2,d⟩
theorem Inv.unpinned{pins pl:List (Yi×Obj)}{Z:St}{H:Hp}{s:Yb}(I:Inv X (pins++pl) Z H s):Inv X pins Z H s:=I.pins_of fun p hp=>I.pin p (Ov _ (Ys _ hp))
theorem Zr7{iter:Expr}{body:List Stmt}{wi:TI}{g:TG}{tb:TS}{pos:Pos}(hp:PassesOwn (model X.prog X.w) X.A X.env X.xe)(hc:X.calm=Ww)(hi:PI X tg iter wi)(hg:PG X tg g)(hb:PSs X body tb)
 (hs:∀x,foldedSetIterable iter X.env x=pure x:=by intro _;rfl):PS X (.For tg iter body [] pos) (ZvB wi g tb):=by
 intro pins s Z H D I h;refine wpAny_For (thn (hi pins s Z H _ I h) fun v s1 h1=>thn h1 fun itv s2 h2=>?_) hs;obtain⟨it,fp,tn,J,H2,e,I2,T,st2,f2,W,⟨m0,w0⟩,turn⟩:=h2;subst e;have stat:∀{H':Hp},(∀b∈fp,H' b=Wv)->∀b∈fp,Zdn X pins H' b:=fun hn b hb=>⟨hn b hb,(f2 b hb).2⟩
 refine codeAny_forLoop_any (fun n s'=>∃i σ' H',Inv X pins σ' H' s'/\tn i s'.heap/\(∀b∈fp,H' b=Wv)/\W i n σ' H') ?_ m0 ⟨0,Z,H2,I2,st2,fun b hb=>(f2 b hb).1,w0⟩;rintro n s3 ⟨i,σ3,H3,I3,st3,fr3,w3⟩;rcases turn i n σ3 H3 w3 with ⟨stop,qn⟩|⟨go,N,hN,step⟩
 . refine wpAny_passesOwn hp (thn (T.done X rfl rfl rfl hc i pins s3 σ3 H3 X.xe I3 (stat fr3) st3 stop) fun r s4 ⟨hr,I4⟩=>?_);subst hr;exact wpAny_execs_nil ⟨σ3,H3,I4,qn⟩
 . refine wpAny_passesOwn hp (thn (T.item X rfl rfl rfl hc i pins s3 σ3 H3 X.xe I3 (stat fr3) st3 go) fun r s4 ⟨u,hr,h4⟩=>?_);subst hr;refine wpAny_passesOwn hp (thn h4 fun _ s5 ⟨x,H5,I5,r5,y5,st5,fr5⟩=>?_);have I5':=I5.pinned (stat fr5) (T.obj _ _ st5);refine wpAny_passesOwn hp (thn (hg _ s5 σ3 H5 x u _ I5' r5 (step x H5 y5)) fun _ s6 ⟨σ6,H6,I6,q6⟩=>?_);refine wpAny_passesOwn hp (thn (hb _ s6 σ6 H6 _ I6 q6) fun f s7 q7=>?_);have again:∀{σ7:St}{H7:Hp},Inv X (pins++ZfV fp s5.heap) σ7 H7 s7->N σ7 H7->∃m,m<n/\∃i σ' H',Inv X pins σ' H' s7/\tn i s7.heap/\(∀b∈fp,H' b=Wv)/\W i m σ' H':=fun {σ7 H7} I7 n7=>by obtain⟨m',hm,w7⟩:=hN σ7 H7 n7;refine⟨m',hm,i+1,σ7,H7,I7.unpinned,T.keep _ _ _ st5 fun b hb o e=>(I7.pin (b,o) (Ov _ (Ov _ (Zct hb e)))).1,fun b hb=>?_,w7⟩;obtain⟨o,e,d⟩:=T.obj _ _ st5 b hb;exact(I7.pin (b,o) (Ov _ (Ov _ (Zct hb e)))).2.1
   cases f with
   |next=>obtain⟨σ7,H7,I7,n7⟩:=q7;exact again I7 n7
   |cont=>obtain⟨σ7,H7,I7,n7⟩:=q7;exact again I7 n7
   |brk=>obtain⟨σ7,H7,I7,q7⟩:=q7;exact⟨σ7,H7,I7.unpinned,q7⟩
   |ret v=>obtain⟨x7,σ7,H7,I7,r7,q7⟩:=q7;exact⟨x7,σ7,H7,I7.unpinned,r7,q7⟩
end
abbrev R2:=V->V->Hp->VK->Prop
def OpR(X:Cx)(f:Yj->Yj->Sem Yj)(r:R2):Prop:=
 ∀(pins:List (Yi×Obj)) (s:Yb) (Z:St) (H:Hp) (x y:V) (v u:Yj) (Q:VK),Inv X pins Z H s->RelV x v->RelV y u->r x y H Q ->
  YB (model X.prog X.w) X.A (f v u) (EP X pins Z Q) X.xe s
def UnR(X:Cx)(f:Yj->Sem Yj)(r:V->Hp->VK->Prop):Prop:=
 ∀(pins:List (Yi×Obj)) (s:Yb) (Z:St) (H:Hp) (x:V) (v:Yj) (Q:VK),Inv X pins Z H s->RelV x v->r x H Q ->
  YB (model X.prog X.w) X.A (f v) (EP X pins Z Q) X.xe s
def Zcr(X:Cx)(f:Yj)(r:List V->Hp->VK->Prop):Prop:=
 ∀(pins:List (Yi×Obj)) (s:Yb) (Z:St) (H:Hp) (xs:List V) (us:List Yj) (Q:VK),Inv X pins Z H s->Zl xs us->r xs H Q ->
  YB (model X.prog X.w) X.A (call f us) (EP X pins Z Q) X.xe s
def Zwo(X:Cx)(r:V->Hp->(Bool->Hp->Prop)->Prop):Prop:=
 ∀(pins:List (Yi×Obj)) (s:Yb) (Z:St) (H:Hp) (x:V) (v:Yj) (Q:Bool->Hp->Prop),Inv X pins Z H s->RelV x v->r x H Q ->
  YB (model X.prog X.w) X.A (truthy v) (TP X pins Z Q) X.xe s
noncomputable def tOp(r:R2)(ta tb:TE):TE:=fun Z H Q=>ta Z H fun x H1=>tb Z H1 fun y H2=>r x y H2 Q
noncomputable def tUn(r:V->Hp->VK->Prop)(ta:TE):TE:=fun Z H Q=>ta Z H fun x H1=>r x H1 Q
noncomputable def rI(C:Int->Int->Prop)(g:Int->Int->V):R2:=fun x y H Q=>∃i j,x=.int i/\y=.int j/\C i j/\Q (g i j) H
noncomputable def rI0(g:Int->Int->V):R2:=fun x y H Q=>∃i j,x=.int i/\y=.int j/\Q (g i j) H
def rU(g:Int->V):V->Hp->VK->Prop:=fun x H Q=>∃i,x=.int i/\Q (g i) H
section
variable {X:Cx}{a b c:Expr}{ta tb tc:TE}{pos:Pos}
theorem Ztd(ha:PE X a ta)(hb:PE X b tb){pins:List (Yi×Obj)}{s:Yb}{Z:St}{H:Hp}{R:V->V->Hp->Prop}(I:Inv X pins Z H s)
 (h:ta Z H fun x H1=>tb Z H1 fun y H2=>R x y H2) {Q:Yj->Yb->Prop}{f:Yj->Yj->Sem Yj}
 (hf:∀v u s2 x y H2,Inv X pins Z H2 s2->RelV x v->RelV y u->R x y H2->YB (model X.prog X.w) X.A (f v u) Q X.xe s2) :
 YB (model X.prog X.w) X.A (eval a X.env) (fun v s₁=>YB (model X.prog X.w) X.A (eval b X.env) (fun u s₂=>YB (model X.prog X.w) X.A (f v u) Q X.xe s₂) X.xe s₁) X.xe s:=by
 refine thn (ha pins s Z H _ I h) fun v s1 ⟨x,H1,I1,r1,q1⟩=>?_;refine thn (hb pins s1 Z H1 _ I1 q1) fun u s2 ⟨y,H2,I2,r2,q2⟩=>?_;exact hf v u s2 x y H2 I2 r1 r2 q2
theorem Zug{op:Operator}{r:R2}(ho:OpR X (binaryOp op) r)(ha:PE X a ta)(hb:PE X b tb):PE X (.BinOp a op b pos) (tOp r ta tb):=by intro pins s Z H Q I h;exact wpAny_BinOp (Ztd ha hb I h fun v u s2 x y H2 I2 rx ry q=>ho pins s2 Z H2 x y v u Q I2 rx ry q)
theorem Zue{op:UnaryOp}{r:V->Hp->VK->Prop}(ho:UnR X (unaryOp op) r)(ha:PE X a ta):PE X (.UnaryOp op a pos) (tUn r ta):=by intro pins s Z H Q I h;exact UnaryOp_ (thn (ha pins s Z H _ I h) fun v s1 ⟨x,H1,I1,r1,q1⟩=>ho pins s1 Z H1 x v Q I1 r1 q1)
theorem opI{f:Yj->Yj->Sem Yj}{C:Int->Int->Prop}{g:Int->Int->Int}
 (rule:∀(i j:Int) (t u:Tok) (s:Yb) (Q:Yj->Yb->Prop) (E:Yj->Yb->Prop),C i j->Q (.int (g i j) s.toks) {s with toks:=s.toks+1}->YB (model X.prog X.w) X.A (f (.int i t) (.int j u)) Q E s) :
 OpR X f (rI C fun i j=>.int (g i j)):=by
 intro pins s Z H x y v u Q I rx ry h;obtain⟨i,j,rfl,rfl,hc,q⟩:=h;obtain⟨t,rfl⟩:=rx;obtain⟨t',rfl⟩:=ry;exact rule i j t t' s _ _ hc ⟨.int (g i j),H,I.tok _,⟨_,rfl⟩,q⟩
theorem Zur{f:Yj->Yj->Sem Yj}{g:Int->Int->Int}
 (rule:∀(i j:Int) (t u:Tok) (s:Yb) (Q:Yj->Yb->Prop) (E:Yj->Yb->Prop),Q (.int (g i j) s.toks) {s with toks:=s.toks+1}->YB (model X.prog X.w) X.A (f (.int i t) (.int j u)) Q E s) :
 OpR X f (rI0 fun i j=>.int (g i j)):=by
 intro pins s Z H x y v u Q I rx ry h;obtain⟨i,j,rfl,rfl,q⟩:=h;obtain⟨t,rfl⟩:=rx;obtain⟨t',rfl⟩:=ry;exact rule i j t t' s _ _ ⟨.int (g i j),H,I.tok _,⟨_,rfl⟩,q⟩
theorem Zqb{f:Yj->Yj->Sem Yj}{g:Int->Int->Bool}
 (rule:∀(i j:Int) (t u:Tok) (s:Yb) (Q:Yj->Yb->Prop) (E:Yj->Yb->Prop),Q (.bool (g i j)) s->YB (model X.prog X.w) X.A (f (.int i t) (.int j u)) Q E s) :
 OpR X f (rI0 fun i j=>.bl (g i j)):=by
 intro pins s Z H x y v u Q I rx ry h;obtain⟨i,j,rfl,rfl,q⟩:=h;obtain⟨t,rfl⟩:=rx;obtain⟨t',rfl⟩:=ry;exact rule i j t t' s _ _ ⟨.bl (g i j),H,I,rfl,q⟩
def Zwr(i j:Int):Prop:=0<j/\j<1073741824
def Zwq(i j:Int):Prop:=0<=j/\j<=1000000/\i.natAbs<2 ^ 64
theorem Zsv:OpR X (binaryOp .Add) (rI0 fun i j=>.int (i+j)):=Zur fun _ _ _ _ _ _ _ q=>add_int q
theorem Zsp:OpR X (binaryOp .Sub) (rI0 fun i j=>.int (i - j)):=Zur fun _ _ _ _ _ _ _ q=>sub_int q
theorem Zp0:OpR X (binaryOp .FloorDiv) (rI Zwr fun i j=>.int (i / j)):=opI fun i j _ _ _ _ _ hc q=>by have h1:(0:Int)<j:=hc.1;have h2:j<1073741824:=hc.2;exact floordiv_int (by omega) (by rw[Int.fdiv_eq_ediv_of_nonneg i (by omega)];exact q) (.inl (PyProof.noPylong_small (by omega)))
theorem Zsr:OpR X (binaryOp .Mod) (rI (fun _ j=>0<j) fun i j=>.int (i % j)):=opI fun i j _ _ _ _ _ hc q=>by have h1:(0:Int)<j:=hc;exact mod_int' (by omega) (by rw[Int.fmod_eq_emod_of_nonneg i (by omega)];exact q)
theorem Zsq:OpR X (binaryOp .Pow) (rI Zwq fun i j=>.int (i ^ j.toNat)):=opI fun _ _ _ _ _ _ _ hc q=>pow_int_small hc.1 hc.2.1 hc.2.2 q
theorem unI{f:Yj->Sem Yj}{g:Int->Int}
 (rule:∀(i:Int) (t:Tok) (s:Yb) (Q:Yj->Yb->Prop) (E:Yj->Yb->Prop),Q (.int (g i) s.toks) {s with toks:=s.toks+1}->YB (model X.prog X.w) X.A (f (.int i t)) Q E s) :
 UnR X f (rU fun i=>.int (g i)):=by
 intro pins s Z H x v Q I rx h;obtain⟨i,rfl,q⟩:=h;obtain⟨t,rfl⟩:=rx;exact rule i t s _ _ ⟨.int (g i),H,I.tok _,⟨_,rfl⟩,q⟩
theorem ZrB:UnR X (unaryOp .USub) (rU fun i=>.int (-i)):=unI fun _ _ _ _ _ q=>neg_int q
end
section
variable {X:Cx}{a b c:Expr}{ta tb tc:TE}{pos:Pos}
theorem Zou{pins:List (Yi×Obj)}{Z:St}{H:Hp}{s:Yb}{Q:VK}{k k':Bool}(I:Inv X pins Z H s)(q:Q (.bl k) H)(e:k=k'):EP X pins Z Q (.bool k') s:=by subst e;exact⟨.bl k,H,I,rfl,q⟩
theorem Zuk:OpR X (YM .Lt) (rI0 fun i j=>.bl (Wy (i<j))):=Zqb fun _ _ _ _ _ _ _ q=>lt_int q
theorem Zul:OpR X (YM .LtE) (rI0 fun i j=>.bl (Wy (i<=j))):=Zqb fun _ _ _ _ _ _ _ q=>le_int q
theorem Zum:OpR X (YM .Gt) (rI0 fun i j=>.bl (Wy (j<i))):=Zqb fun _ _ _ _ _ _ _ q=>gt_int q
theorem Zun:OpR X (YM .GtE) (rI0 fun i j=>.bl (Wy (j<=i))):=Zqb fun _ _ _ _ _ _ _ q=>ge_int q
theorem Zss:OpR X (YM .Is) (fun x y H Q=>y=.non/\Q (.bl (Wy (x=.non))) H):=by
 intro pins s Z H x y v u Q I rx ry h;obtain⟨rfl,q⟩:=h;cases ry;refine is_none_gen (Zou I q ?_);cases x<;>first
  |(cases rx;rfl)
  |(obtain⟨t,rfl⟩:=rx;rfl)
theorem ZpY:OpR X (YM .IsNot) (fun x y H Q=>y=.non/\Q (.bl (!Wy (x=.non))) H):=by
 intro pins s Z H x y v u Q I rx ry h;obtain⟨rfl,q⟩:=h;cases ry;refine isnot_none_gen (Zou I q ?_);cases x<;>first
  |(cases rx;rfl)
  |(obtain⟨t,rfl⟩:=rx;rfl)
theorem ZpU{op:CmpOp}{r:R2}(ho:OpR X (YM op) r)(ha:PE X a ta)(hb:PE X b tb)(hm:behindInMarks op b=Wx):PE X (.Compare a [op] [b] pos) (tOp r ta tb):=by intro pins s Z H Q I h;exact wpAny_Compare1 (Ztd ha hb I h fun v u s2 x y H2 I2 rx ry q=>ho pins s2 Z H2 x y v u Q I2 rx ry q) hm
noncomputable def ZtH(t:TE):TT:=fun Z H Q=>t Z H fun x H'=>∃k,x=.bl k/\Q k H'
theorem ZpC{op:CmpOp}{r:R2}(ho:OpR X (YM op) r)(ha:PE X a ta)(hb:PE X b tb)(hm:behindInMarks op b=Wx):PT X (.Compare a [op] [b] pos) (ZtH (tOp r ta tb)):=by
 intro pins s Z H Q I h;refine wpAny_isTrue_Compare1 (thn (ha pins s Z H _ I h) fun v s1 ⟨x,H1,I1,r1,q1⟩=>thn (hb pins s1 Z H1 _ I1 q1) fun u s2 ⟨y,H2,I2,r2,q2⟩=>thn (ho pins s2 Z H2 x y v u _ I2 r1 r2 q2) fun c s3 ⟨z,H3,I3,r3,k,e,q3⟩=>?_) hm
 subst e;cases r3;exact wpAny_truthy_bool ⟨H3,I3,q3⟩
def Zth(K:Yk)(x:V)(H:Hp)(k:Bool):Prop:=
 match x with
 |.non=>k=Wx
 |.bl b=>k=b
 |.int i=>k=(i != 0)
 |.str y=>y.length<=sizeLine/\k=((y.length:Int) != 0)
 |.byt y=>y.size<=sizeLine/\k=((y.size:Int) != 0)
 |.ref p=>(∃xs,SqL K H p xs/\k=!xs.isEmpty)\/(∃xs,SqT K H p xs/\k=!xs.isEmpty)\/∃kvs,H p=Wu (.dK kvs)/\k=!kvs.isEmpty
 |_=>False
theorem Zkp{κ:Type}{kvs:List (κ×V)}{vs:List (κ×Yj)}(r:KV kvs vs):(!vs.isEmpty)=!kvs.isEmpty:=by cases r<;>rfl
theorem Zf8{xs:List V}{its:List Yj}(r:Zl xs its):(!its.toArray.isEmpty)=!xs.isEmpty:=by cases r<;>simp
theorem Zcu:(sizeLine:Nat)<2 ^ 63:=by rw[YC];decide
theorem ZrE:Zwo X (fun x H Q=>∃k,Zth X.K x H k/\Q k H):=by
 intro pins s Z H x v Q I rx h;obtain⟨k,e,q⟩:=h;have hl:=Zcu;have hs:sizeLine=16777216:=YC;cases x with
 |non=>cases rx;have e':k=Wx:=e;subst e';exact truthy_none ⟨H,I,q⟩
 |bl b=>cases rx;have e':k=b:=e;subst e';exact wpAny_truthy_bool ⟨H,I,q⟩
 |int i=>obtain⟨t,rfl⟩:=rx;have e':k=(i != 0):=e;subst e';exact PySem.P.truthy_int ⟨H,I,q⟩
 |str y=>obtain⟨t,rfl⟩:=rx;obtain⟨hy,e'⟩:y.length<=sizeLine/\k=((y.length:Int) != 0):=e;subst e';exact PySem.P.truthy_str (by omega) ⟨H,I.tok _,q⟩
 |byt y=>obtain⟨t,rfl⟩:=rx;obtain⟨hy,e'⟩:y.size<=sizeLine/\k=((y.size:Int) != 0):=e;subst e';exact PySem.W.truthy_bytes (by omega) ⟨H,I.tok _,q⟩
 |ref p=>
  cases rx;have e':(∃xs,SqL X.K H p xs/\k=!xs.isEmpty)\/(∃xs,SqT X.K H p xs/\k=!xs.isEmpty)\/∃kvs,H p=Wu (.dK kvs)/\k=!kvs.isEmpty:=e;rcases e' with ⟨xs,hx,e'⟩|⟨xs,hx,e'⟩|⟨kvs,hx,e'⟩
  . subst e';obtain⟨its,r,pl,hz⟩:=I.list hx;have hlen:=r.length;exact wpAny_truthy_list pl.isList (by simp only[Of];omega) ⟨H,I.tok _,by rw[Zf8 r];exact q⟩
  . subst e';obtain⟨its,r,pl,hz⟩:=I.tuple hx;have hlen:=r.length;exact truthy_tuple pl (by simp only[Of];omega) ⟨H,I.tok _,by rw[Zf8 r];exact q⟩
  . subst e';obtain⟨hz,hS,vs,r,m⟩:kvs.length<=sizeLine/\(p==Ye)=Wx/\∃vs,KV kvs vs/\s.heap.DictOf (ZG X.prog X.w) p vs:=I.hok p _ hx;have hlen:kvs.length=vs.length:=Paired.length r;exact wpAny_truthy_dict hS m (by omega) ⟨H,I.tok _,by rw[Zkp r];exact q⟩
 |_=>exact(show False from e).elim
theorem Znq(ha:PE X a ta)(he:∀whole,isTrue a X.env whole=(do let v <- whole;standAt a.pos;holding [v] (truthy v))):
 PT X a (fun Z H Q=>ta Z H fun x H'=>∃k,Zth X.K x H' k/\Q k H'):=by
 intro pins s Z H Q I h;exact isTrue_plain (thn (ha pins s Z H _ I h) fun v s1 ⟨x,H1,I1,r1,q1⟩=>ZrE pins s1 Z H1 x v Q I1 r1 q1) (he _)
theorem ZjS:OpR X (binaryOp .Add) (fun x y H Q=>∃i j,x=.str i/\y=.str j/\i.length+j.length<=sizeLine/\Q (.str (i++j)) H):=by intro pins s Z H x y v u Q I rx ry h;obtain⟨i,j,rfl,rfl,hz,q⟩:=h;obtain⟨t,rfl⟩:=rx;obtain⟨t',rfl⟩:=ry;exact add_str (fun t' tk=>⟨.str (i++j),H,I.tok _,⟨_,rfl⟩,q⟩) hz
theorem vals1{x:V}{us:List Yj}(r:Zl [x] us):∃u,us=[u]/\RelV x u:=by
 cases r with
 |cons r1 r2=>cases r2;exact⟨_,rfl,r1⟩
theorem vals2{x y:V}{us:List Yj}(r:Zl [x,y] us):∃u w',us=[u,w']/\RelV x u/\RelV y w':=by
 cases r with
 |cons r1 r2=>
  cases r2 with
  |cons r3 r4=>cases r4;exact⟨_,_,rfl,r1,r3⟩
end
structure ObjM(h:YG)(x dx C:Yi)(mA:Str->Option Yj):Prop where
 obj:h.get? x=Wu (Wi C dx)
 ns:h.Ns1 dx mA
 ne:dx≠x
theorem Zml{h:YG}{dx:Yi}{mA:Str->Option Yj}(n:h.Ns1 dx mA):∃od,h.get? dx=Wu od/\∀name,PySem.W.lookIn name od=Wu (mA name):=by
 obtain⟨o,es,ep,ho,hd,hk,_,hm⟩:=n;refine⟨o,ho,fun name=>?_⟩;have e:=hm name;unfold nsFind findBy at e;rw[<- Array.find?_toList]at e;unfold PySem.W.lookIn;rw[hd];dsimp only;split
 . rename_i y q;rw[q]at e;exact congrArg Wu e
 . rename_i q;rw[q]at e;have a:es.toList.any (·.refKey)=Wx:=by rw[List.any_eq_false];intro y hy;obtain⟨z,t,hkey⟩:=hk y (Array.mem_toList_iff.mp hy);simp[DictEntry.refKey,hkey]
   have a':¬ es.toList.any (·.refKey)=Ww:=by rw[a];exact Ow
   rw[if_neg a'];exact congrArg Wu e
theorem ObjM.look{h:YG}{x dx C:Yi}{mA:Str->Option Yj}(I:ObjM h x dx C mA):∃od,PySem.W.InstAt h x (Wi C dx) C (Wu od)/\∀name,PySem.W.lookIn name od=Wu (mA name):=
 let ⟨od,ho,hl⟩:=Zml I.ns
 ⟨od,⟨I.obj,rfl,rfl,ho⟩,hl⟩
section
variable {prog:Yh}{w:Yg}{A:YH}{E:Yj->Yb->Prop}{s:Yb}{K:Yk}{x dx C f:Yi}{mA:Str->Option Yj}{name:Str}{v:Yj}
theorem Zqu{expr:Bool}{Q:Yj->Yb->Prop}(X:K.In s.heap)(I:ObjM s.heap x dx C mA)(hg:PySem.W.plainGet K C name=Ww)(hh:PySem.W.hasDictIn K C=Ww)
 (ha:YJ K (.ref C) name=Wu Wv) (hv:mA name=Wu v) (hv':PySem.W.handedIn v=Ww) (h:Q v {s with toks:=s.toks+1}) :
 YB (model prog w) A (getAttr (.ref x) name expr) Q E s:=by
 obtain⟨od,J,hl⟩:=I.look;exact PySem.W.get_value X J (PySem.W.plainGet_of hg).1 (PySem.W.findObj_own hh ha rfl (by rw[hl,hv])) hv' h
theorem Zoo{pl:Sem Bool}{Q:Yj×List Yj->Yb->Prop}(X:K.In s.heap)(I:ObjM s.heap x dx C mA)(hg:PySem.W.plainGet K C name=Ww)
 (hf:YJ K (.ref C) name=Wu (Wu (.ref f))) (ht:PySem.W.isFn K (.ref f)=Ww) (hv:mA name=Wv) (h:Q (.ref f,[.ref x]) s) :
 YB (model prog w) A (getMethod (.ref x) name pl) Q E s:=by
 obtain⟨od,J,hl⟩:=I.look;exact PySem.W.method_fn X J (PySem.W.plainGet_of hg).1 (PySem.W.plainGet_of hg).2 hf (beq_iff_eq.mp ht) (by show(PySem.W.lookIn name od).map (·.isSome)=Wu Wx;rw[hl,hv];rfl) h
theorem Zpm{ns:List Str}{Q:Unit->Yb->Prop}(X:K.In s.heap)(I:ObjM s.heap x dx C mA)
 (hs:YJ K (.ref C) "__setattr__" = Wu (Wu (.builtin "object.__setattr__"))) (hp:PySem.W.plainOver K C=Ww) (ht:PySem.W.takerIn K C name=Wu Wv) (hh:PySem.W.hasDictIn K C=Ww)
 (hw:PySem.Within mA ns) (hsz:ns.length<=sizeLine)
 (h:∀h',ObjM h' x dx C (fun y=>if y=name then Wu v else mA y)->Heap.SameBut dx s.heap h'->Q () {s with heap:=h',toks:=s.toks+2}) :
 YB (model prog w) A (setAttr (.ref x) name v) Q E s:=by
 obtain⟨od,J,hl⟩:=I.look;refine PySem.W.set_plain X J hs (PySem.W.osa_open (s:={s with toks:=s.toks+1}) (r:=Wv) X J hp ht fun b=>?_);obtain⟨cd,hc,hd'⟩:=PySem.W.any_some hh;have hx:s.heap.get? x=Wu ⟨.ref C,Wu dx,.plain,#[]⟩:=I.obj;refine Ya (Yc (Ya (Ya (wpAny_loadPart hx (Ya (PySem.W.Looks.here (s:={s with toks:=s.toks+1}) (PySem.W.looks_clsIn X hc) ?_))))));rw[hd'];refine Yc (a:=Wu dx) (Ya (Yc (Ya ?_)));refine wpAny_nsSet1 (s:={s with toks:=s.toks+1}) I.ns fun h' hn2 hs2=>?_;obtain⟨oD,esD,epD,hoD,hdD,hcD⟩:=hn2.count (PySem.Within.cons name v hw);refine Ya (wpAny_lookBehind hoD (by rw[hdD];exact pastItsLine_dict (OE hcD (by rw[Os];omega))) ?_);exact Yc (h _ ⟨(hs2.2 _ (YL I.ne)).trans I.obj,hn2,I.ne⟩ hs2)
theorem ZnW{R:Result->Yb->Prop}{vs:List Yj}{kw:List (Str×Yj)}(X:K.In s.heap)(hm:PySem.W.makesIn K C=Ww)
 (hi:YJ K (.ref C) "__init__" = Wu (Wu (.ref f))) (hf:PySem.W.typeIn K (.ref f)=Wu (.type "function"))
 (h:codeAny (model prog w) (A.under (.builtin "type.__call__" ⟨.ref C::vs,kw⟩)) (.call (.ref f) ⟨.ref (s.heap.objs.size+1)::vs,kw⟩) (PySem.W.InitBack (s.heap.objs.size+1) R)
  {s with heap:=(s.heap.push YT).push (Wi C s.heap.objs.size)}) :
 codeAny (model prog w) A (.call (.ref C) ⟨vs,kw⟩) R s:=by
 obtain⟨hh,g,d,t,os⟩:=s;exact PySem.W.make_core (PySem.W.makes_of X hm) (PySem.W.looks_findIn X hi) (fun self=>PySem.W.bind_fn X self hf) (.inl rfl) h
end
noncomputable def Zb0(f:Str)(v:V):List (Str×V)->List (Str×V)
 |[]=>[(f,v)]
 |(g,x)::r=>if g=f then(g,v)::r else(g,x)::Zb0 f v r
theorem Ze1(f g:Str)(v:V):∀fs:List (Str×V),(Zb0 f v fs).lookup g=if g=f then Wu v else fs.lookup g
 |[]=>by
  show Wj g [(f,v)]=_;by_cases h:g=f
  . have hb:(g==f)=Ww:=beq_iff_eq.mpr h;simp only[Wj,hb,if_pos h]
  . have hb:(g==f)=Wx:=beq_eq_false_iff_ne.mpr h;simp only[Wj,hb,if_neg h]
 |(k,x)::r=>by
  have ih:=Ze1 f g v r;rw[show Zb0 f v ((k,x)::r)=(if k=f then(k,v)::r else(k,x)::Zb0 f v r)from rfl];by_cases hk:k=f
  . rw[if_pos hk];by_cases h:g=k
    . have hb:(g==k)=Ww:=beq_iff_eq.mpr h;simp only[Wj,hb,if_pos (h.trans hk)]
    . have hb:(g==k)=Wx:=beq_eq_false_iff_ne.mpr h;simp only[Wj,hb,if_neg (fun e:g=f=>h (e.trans hk.symm))]
  . rw[if_neg hk];by_cases h:g=k
    . have hb:(g==k)=Ww:=beq_iff_eq.mpr h;simp only[Wj,hb,if_neg (fun e:g=f=>hk (h.symm.trans e))]
    . have hb:(g==k)=Wx:=beq_eq_false_iff_ne.mpr h;simp only[Wj,hb];exact ih
theorem ZeI(f:Str)(v:V):∀fs:List (Str×V),f∈(Zb0 f v fs).map (·.1)/\∀g,g∈fs.map (·.1)->g∈(Zb0 f v fs).map (·.1)
 |[]=>⟨by simp[Zb0],fun g h=>by simp at h⟩
 |(k,x)::r=>by
  obtain⟨i1,i2⟩:=ZeI f v r;rw[show Zb0 f v ((k,x)::r)=(if k=f then(k,v)::r else(k,x)::Zb0 f v r)from rfl];by_cases hk:k=f
  . rw[if_pos hk];subst hk;exact⟨by simp,fun g h=>by simpa using h⟩
  . rw[if_neg hk];refine⟨?_,fun g h=>?_⟩
    . rw[Op];exact Oh _ i1
    . rw[Op]at h ⊢;rcases O2.mp h with e|e
      . exact O2.mpr (.inl e)
      . exact Oh _ (i2 g e)
theorem Ze3(f:Str)(v:V):∀fs:List (Str×V),(Zb0 f v fs).length<=fs.length+1
 |[]=>by simp[Zb0]
 |(k,x)::r=>by
  have ih:=Ze3 f v r;rw[show Zb0 f v ((k,x)::r)=(if k=f then(k,v)::r else(k,x)::Zb0 f v r)from rfl];by_cases hk:k=f
  . rw[if_pos hk,Os,Os];omega
  . rw[if_neg hk,Os,Os];omega
theorem ZeA.some_of{v:V}{o:Option Yj}(r:ZeA (Wu v) o):∃u,o=Wu u/\RelV v u:=by
 cases o with
 |none=>exact(show False from r).elim
 |some u=>exact⟨u,rfl,r⟩
theorem ZeA.none_of{o:Option Yj}(r:ZeA Wv o):o=Wv:=by
 cases o with
 |none=>rfl
 |some u=>exact(show False from r).elim
theorem Zmy{v:V}{u:Yj}(r:RelV v u):PySem.W.handedIn u=Ww:=by
 cases v with
 |non=>cases (show u=Value.none from r);rfl
 |bl b=>cases (show u=Value.bool b from r);rfl
 |int i=>obtain⟨t,e⟩:=(show ∃t,u=Value.int i t from r);cases e;rfl
 |str x=>obtain⟨t,e⟩:=(show ∃t,u=Value.str x t from r);cases e;rfl
 |byt b=>obtain⟨t,e⟩:=(show ∃t,u=Value.bytes b t from r);cases e;rfl
 |flt b=>obtain⟨t,e⟩:=(show ∃t,u=Value.float b t from r);cases e;rfl
 |ref a=>cases (show u=YD a from r);rfl
 |ty n=>cases (show u=Value.type n from r);rfl
section
variable {P:Yh}{w:Yg}{H H':Hp}{h h':YG}{a C dx:Yi}{fs fs':List (Str×V)}
theorem ZhL(hok:HOk P w H h)(e:H a=Wu (.ins C dx fs)):∃mA,ObjM h a dx C mA/\(∀f,ZeA (fs.lookup f) (mA f))/\PySem.Within mA (fs.map (·.1))/\fs.length<=1000/\H dx=Wu (.own a):=by
 obtain⟨d,z,ne,ob,mA,n,r,q⟩:=(show Zam P w H h a (.ins C dx fs)from hok a _ e)
 exact⟨mA,⟨ob,n,ne⟩,r,q,z,d⟩
end
structure Cls(K:Yk)(C:Yi):Prop where
 pg:PySem.W.plainGet K C Str.empty=Ww
 hd:PySem.W.hasDictIn K C=Ww
 po:PySem.W.plainOver K C=Ww
 sa:YJ K (.ref C) "__setattr__" = Wu (Wu (.builtin "object.__setattr__"))
theorem Cls.get{K:Yk}{C:Yi}(c:Cls K C)(f:Str):PySem.W.plainGet K C f=Ww:=c.pg
def ZaQ(K:Yk)(C:Yi)(f:Str):Prop:=YJ K (.ref C) f=Wu Wv
theorem ZaQ.taker{K:Yk}{C:Yi}{f:Str}(n:ZaQ K C f):PySem.W.takerIn K C f=Wu Wv:=by unfold PySem.W.takerIn;rw[show YJ K (.ref C) f=Wu Wv from n];rfl
structure Meth(K:Yk)(C:Yi)(m:Str)(f:Yi):Prop where
 at_:YJ K (.ref C) m=Wu (Wu (.ref f))
 fn:PySem.W.isFn K (.ref f)=Ww
 kp:Wf K (.ref f)=Ww
section
variable {X:Cx}{pins:List (Yi×Obj)}{Z:St}{H:Hp}{s:Yb}{a C dx:Yi}{fs:List (Str×V)}{f:Str}{v:V}{A:YH}{E:Yj->Yb->Prop}
theorem Zgc{b:Bool}{Q:Yj->Yb->Prop}(I:Inv X pins Z H s)(e:H a=Wu (.ins C dx fs))(c:Cls X.K C)(n:ZaQ X.K C f)(l:fs.lookup f=Wu v)
 (h:∀u s',Inv X pins Z H s'->RelV v u->Q u s'):YB (model X.prog X.w) A (getAttr (.ref a) f b) Q E s:=by
 obtain⟨mA,O_,r,_,_,_⟩:=ZhL I.hok e;obtain⟨u,hu,ru⟩:=ZeA.some_of (v:=v) (o:=mA f) (by rw[<- l];exact r f);exact Zqu I.kIn O_ (c.get f) c.hd n hu (Zmy ru) (h u _ (I.tok _) ru)
theorem Zgb{m:Str}{g:Yi}{pl:Sem Bool}{Q:Yj×List Yj->Yb->Prop}(I:Inv X pins Z H s)(e:H a=Wu (.ins C dx fs))(c:Cls X.K C)(k:Meth X.K C m g)(l:fs.lookup m=Wv)
 (h:Q (.ref g,[.ref a]) s):YB (model X.prog X.w) A (getMethod (.ref a) m pl) Q E s:=by
 obtain⟨mA,O_,r,_,_,_⟩:=ZhL I.hok e;have hn:mA m=Wv:=ZeA.none_of (by rw[<- l];exact r m);exact Zoo I.kIn O_ (c.get m) k.at_ k.fn hn h
theorem ZfE{y:V}{u:Yj}{Q:Unit->Yb->Prop}(I:Inv X pins Z H s)(e:H a=Wu (.ins C dx fs))(c:Cls X.K C)(n:ZaQ X.K C f)(hl:fs.length<1000)(ry:RelV y u)
 (h:∀s',Inv X pins Z (upd H a (.ins C dx (Zb0 f y fs))) s'->Q () s'):YB (model X.prog X.w) A (setAttr (.ref a) f u) Q E s:=by
 obtain⟨mA,O_,r,wi,_,ho⟩:=ZhL I.hok e;have hz:(fs.map (·.1)).length<=sizeLine:=by rw[Yu,YC];omega
 refine Zpm I.kIn O_ c.sa c.po n.taker c.hd wi hz fun h' O' sb=>h _ ?_;have hd:∃o,h'.get? dx=Wu o:=let ⟨o,_,_,e',_⟩:=O'.ns;⟨o,e'⟩;refine I.write (x:=a) (e:=dx) (by rw[e];exact True.intro) (.inr ho) (fun b q hb z=>(sb.2 b hb).trans z) hd ?_;refine⟨by rw[Zg O_.ne];exact ho,?_,O_.ne,O'.obj,_,O'.ns,fun g=>?_,fun g hg=>?_⟩
 . have:=Ze3 f y fs;omega
 . show ZeA ((Zb0 f y fs).lookup g) (if g=f then Wu u else mA g);rw[Ze1];by_cases q:g=f
   . rw[if_pos q,if_pos q];exact ry
   . rw[if_neg q,if_neg q];exact r g
 . by_cases q:g=f
   . rw[q];exact(ZeI f y fs).1
   . refine(ZeI f y fs).2 g (wi g fun z=>hg ?_);show(if g=f then Wu u else mA g)=Wv;rw[if_neg q];exact z
theorem Inv.made(I:Inv X pins Z H s):Inv X pins Z (upd (upd H s.heap.objs.size (.own (s.heap.objs.size+1))) (s.heap.objs.size+1) (.ins C s.heap.objs.size []))
 {s with heap:=(s.heap.push YT).push (Wi C s.heap.objs.size)}:=by
 have e1:(s.heap.push YT).get? s.heap.objs.size=Wu YT:=Oj s.heap rfl;have e2:((s.heap.push YT).push (Wi C s.heap.objs.size)).get? (s.heap.objs.size+1)=Wu (Wi C s.heap.objs.size):=by
  have:=Oj (s.heap.push YT) (o:=Wi C s.heap.objs.size) rfl
  rwa [Heap.size_push]at this
 have e3:(s.heap.push YT).Ns s.heap.objs.size (fun _=>Wv):=⟨YT,#[],_,e1,rfl,(fun e he=>absurd he (by simp)),fun _=>rfl⟩
 have I1:=I.laid (a:=s.heap.objs.size) (o:=.own (s.heap.objs.size+1)) (h':=s.heap.push YT) (t':=s.toks) (fun b u q=>Od _ q) (Oq _) ⟨_,e1⟩;refine I1.laid (a:=s.heap.objs.size+1) (o:=.ins C s.heap.objs.size []) (t':=s.toks) (fun b u q=>Od _ q) (Nat.le_of_eq (Heap.size_push _ _)) ?_;have ne:s.heap.objs.size≠s.heap.objs.size+1:=Ou (OH _);refine⟨by rw[Zg ne,Zi],Yy _,ne,e2,fun _=>Wv,(Heap.Ns1.of_empty e3).at fun o q=>Od _ q,fun _=>True.intro,fun y hy=>absurd rfl hy⟩
theorem ZqV{prog:Yh}{w:Yg}{env:Env}{e:Expr}{f:Str}{pos:Pos}{s:Yb}{Q:Yj->Yb->Prop}(hb:attributeBase e f env (eval e env)=eval e env)
 (h:YB (model prog w) A (eval e env) (fun o s₁=>YB (model prog w) A (getAttr o f Ww) Q E s₁) E s):YB (model prog w) A (eval (.Attribute e f pos) env) Q E s:=
 Attribute_any_ h (by rw[arm_eval_Attribute,hb])
end
noncomputable def ZvC(K:Yk)(ta:TE)(f:Str):TE:=fun Z H Q=>ta Z H fun x H1=>∃a C dx fs v,x=.ref a/\H1 a=Wu (.ins C dx fs)/\Cls K C/\ZaQ K C f/\fs.lookup f=Wu v/\Q v H1
noncomputable def ZvJ(K:Yk)(ta tv:TE)(f:Str):TS:=fun D Z H=>tv Z H fun y H1=>ta Z H1 fun x H2=>∃a C dx fs,x=.ref a/\H2 a=Wu (.ins C dx fs)/\Cls K C/\ZaQ K C f/\fs.length<1000 /\
 D.nx Z (upd H2 a (.ins C dx (Zb0 f y fs)))
def Zvd(X:Cx)(op:Operator)(rd:V->V->Hp->VK->Prop):Prop:=∀(pins:List (Yi×Obj)) (s:Yb) (Z:St) (H:Hp) (x y:V) (u v:Yj) (Q:VK),Inv X pins Z H s->RelV x u->RelV y v->rd x y H Q->YB (model X.prog X.w) X.A (inplaceOp op u v) (EP X pins Z Q) X.xe s
noncomputable def Zpp(K:Yk)(ta tv:TE)(rd:V->V->Hp->VK->Prop)(f:Str):TS:=fun D Z H=>ta Z H fun x H1=>∃a C dx fs v,x=.ref a/\H1 a=Wu (.ins C dx fs)/\Cls K C/\ZaQ K C f/\fs.lookup f=Wu v /\
 tv Z H1 fun y H2=>rd v y H2 fun z H3=>∃dx' fs',H3 a=Wu (.ins C dx' fs')/\fs'.length<1000/\D.nx Z (upd H3 a (.ins C dx' (Zb0 f z fs')))
section
variable {X:Cx}{o e value:Expr}{f:Str}{pos pos' tpos:Pos}{ta tv:TE}
theorem Zsk(he:PE X e ta)(hb:attributeBase e f X.env (eval e X.env)=eval e X.env):PE X (.Attribute e f pos) (ZvC X.K ta f):=by intro pins s Z H Q I h;refine ZqV hb (thn (he pins s Z H _ I h) fun u s1 ⟨x,H1,I1,rx,a,C,dx,fs,v,ex,ea,c,n,l,q⟩=>?_);subst ex;obtain rfl:u=YD a:=rx;exact Zgc I1 ea c n l fun u' s2 I2 ru=>⟨v,H1,I2,ru,q⟩
theorem Zr8(ha:PE X o ta)(hv:PE X value tv)(hs:swapsWith value (Wu (.Attribute o f pos')) pos.line X.env=pure Wx):PS X (.Assign [.Attribute o f pos'] value pos) (ZvJ X.K ta tv f):=by intro pins s Z H D I h;refine plainObj_wpAny_Assign_Attribute (thn (hv pins s Z H _ I h) fun u s1 ⟨y,H1,I1,ry,q⟩=>thn (ha pins s1 Z H1 _ I1 q) fun ov s2 ⟨x,H2,I2,rx,a,C,dx,fs,ex,ea,c,n,l,q2⟩=>?_) hs;subst ex;obtain rfl:ov=YD a:=rx;exact ZfE I2 ea c n l ry fun s3 I3=>⟨Z,_,I3,q2⟩
theorem Zl5{op:Operator}{rd:V->V->Hp->VK->Prop}(ha:PE X o ta)(hv:PE X value tv)(hop:Zvd X op rd):PS X (.AugAssign (.Attribute o f tpos) op value pos) (Zpp X.K ta tv rd f):=by intro pins s Z H D I h;refine wpAny_AugAssign_AttributeAny (thn (ha pins s Z H _ I h) fun ov s1 ⟨x,H1,I1,rx,a,C,dx,fs,v,ex,ea,c,n,l,q⟩=>?_);subst ex;obtain rfl:ov=YD a:=rx;refine Zgc I1 ea c n l fun u s2 I2 ru=>thn (hv pins s2 Z H1 _ I2 q) fun w3 s3 ⟨y,H2,I3,ry,q3⟩=>thn (hop pins s3 Z H2 v y u w3 _ I3 ru ry q3) fun w4 s4 ⟨z,H3,I4,rz,dx',fs',ea',l',q4⟩=>?_;exact ZfE I4 ea' c n l' rz fun s5 I5=>⟨Z,_,I5,q4⟩
def Zt8:V->V->Hp->VK->Prop:=fun x y H Q=>∃i j,x=.int i/\y=.int j/\Q (.int (i+j)) H
theorem ZsW:Zvd X .Add Zt8:=by
 rintro pins s Z H x y u v Q I rx ry ⟨i,j,rfl,rfl,q⟩;obtain⟨t,rfl⟩:=(show ∃t,u=Value.int i t from rx)
 obtain⟨t',rfl⟩:=(show ∃t',v=Value.int j t' from ry)
 exact PyProof.Rows.iadd_int ⟨.int (i+j),H,I.tok _,⟨_,rfl⟩,q⟩
end
structure Room(k:Nat)(A:YH):Prop where
 hd:A.handled=Wv
 dp:A.depth+k+5<recursionLimit
 un:A.units+4 * k+1300<cLine
theorem Room.mono{j k:Nat}{A:YH}(r:Room k A)(h:j<=k):Room j A:=⟨r.hd,by have:=r.dp;omega,by have:=r.un;omega⟩
theorem Room.deeper{k:Nat}{A:YH}(r:Room (k+1) A)(env:Env):Room k (A.deeper env):=⟨r.hd,by have:=r.dp;show A.depth+1+k+5<_;omega,by have:=r.un;show A.units+3+4 * k+1300<_;omega⟩
theorem Zj1{A:YH}{C:Yi}{us:List Yj}{kw:List (Str×Yj)}:(A.under (.builtin "type.__call__" ⟨.ref C::us,kw⟩)).depth=A.depth+1:=by first|rfl|simp[Around.under,Code.weight,Code.isCreation,Code.isGuard,Code.isCaller,Code.frames,Code.isFrame,guardIds]
theorem Zj0{A:YH}{C:Yi}{us:List Yj}{kw:List (Str×Yj)}:(A.under (.builtin "type.__call__" ⟨.ref C::us,kw⟩)).units=A.units+1:=by first|rfl|simp[Around.under,Code.cUnits,Code.frames,Code.isFrame]
theorem Room.make{k:Nat}{A:YH}(r:Room (k+1) A)(C:Yi)(us:List Yj)(kw:List (Str×Yj)):Room k (A.under (.builtin "type.__call__" ⟨.ref C::us,kw⟩)):=⟨r.hd,by have:=r.dp;rw[Zj1];omega,by have:=r.un;rw[Zj0];omega⟩
theorem Room.depth{k:Nat}{A:YH}(r:Room k A):A.depth<recursionLimit:=by have:=r.dp;omega
noncomputable def ZrL:TA:=fun _ H Q=>Q [] H
noncomputable def ZtO(ta:TE)(tr:TA):TA:=fun Z H Q=>ta Z H fun x H1=>tr Z H1 fun xs H2=>Q (x::xs) H2
section
variable {X:Cx}{e:Expr}{es:List Expr}{te:TE}{t:TA}{pos:Pos}
theorem ZfY:PA X [] ZrL:=fun _ _ _ _ H Q I h=>Calls.spliced_nil ⟨[],H,I,.nil,h⟩
theorem Zeg(ha:PE X e te)(hr:PA X es t)(hs:YA (e::es) X.env=(Wx,eval e X.env)::YA es X.env:=by rfl):PA X (e::es) (ZtO te t):=by intro pos pins s Z H Q I h;rw[hs];show YB _ _ (spliced ((Wx,eval e X.env)::YS pos (YA es X.env))) _ _ s;refine Calls.spliced_cons (thn (ha pins s Z H _ I h) fun u s1 ⟨x,H1,I1,r1,q1⟩=>?_);exact thn (hr pos pins s1 Z H1 _ I1 q1) fun us s2 ⟨xs,H2,I2,r2,q2⟩=>⟨x::xs,H2,I2,.cons r1 r2,q2⟩
noncomputable def Zvu(t:TA):TE:=fun Z H Q=>t Z H fun xs H1=>xs.length<=sizeLine/\∀p,H1 p=Wv->Q (.ref p) (upd H1 p (.tup xs))
noncomputable def Zvz(t:TA):TE:=fun Z H Q=>t Z H fun xs H1=>xs.length<=sizeLine/\∀p,H1 p=Wv->Q (.ref p) (upd H1 p (.lst xs))
theorem Zsg{x1}(h:PA X es t):PE X (.Tuple es x1 pos) (Zvu t):=by intro pins s Z H Q I hq;refine wpAny_Tuple_spliced (thn (h pos pins s Z H _ I hq) fun us s1 ⟨xs,H1,I1,r,z,q⟩=>⟨by rw[<- r.length];exact z,?_⟩);have hf:H1 s1.heap.objs.size=Wv:=I1.hok.fresh (Oq _);refine⟨.ref s1.heap.objs.size,upd H1 s1.heap.objs.size (.tup xs),I1.laid (t':=s1.toks) (fun b u e=>Od _ e) (Oq _) ?_,rfl,q _ hf⟩;exact⟨z,us,r,⟨_,Oj _ rfl,rfl,rfl,_,rfl⟩⟩
theorem Zsj(h:PA X es t):PE X (.List es pos) (Zvz t):=by intro pins s Z H Q I hq;refine wpAny_List_spliced (thn (h pos pins s Z H _ I hq) fun us s1 ⟨xs,H1,I1,r,z,q⟩=>⟨by rw[<- r.length];exact z,?_⟩);have hf:H1 s1.heap.objs.size=Wv:=I1.hok.fresh (Oq _);refine⟨.ref s1.heap.objs.size,upd H1 s1.heap.objs.size (.lst xs),I1.laid (t':=s1.toks) (fun b u e=>Od _ e) (Oq _) ?_,rfl,q _ hf⟩;exact⟨z,us,0,r,Oj _ rfl⟩
end
abbrev Sp:=List V->Hp->VK->XK->Prop
abbrev CXT:=List Env->Hp->Yb->XK->Yj->Yb->Prop
structure Env0(P:Yh)(w:Yg)(K:Yk)(mg:Str->Option Yj)(base:YG)(A:YH)(outer:List Env)(s:Yb)(H:Hp):Prop where
 frames:A.frames=Wu outer
 mod:Mod K mg base
 bs:∀b o,base.get? b=Wu o->s.heap.get? b=Wu o/\H b=Wv
 bsz:base.objs.size<=s.heap.objs.size
 funs:s.heap.FunFrames base outer
 frf:∀b∈frs outer,H b=Wv
 hok:HOk P w H s.heap
 bare:AllBare s.gens
def CE(outer:List Env)(P:Yh)(w:Yg)(H:Hp)(s:Yb)(Q:VK)(u:Yj)(s':Yb):Prop:=∃v H',s'.os=s.os/\AllBare s'.gens/\Un (frs outer) [] H H' s.heap s'.heap/\HOk P w H' s'.heap/\RelV v u/\Q v H'
def CR(CX:CXT)(outer:List Env)(P:Yh)(w:Yg)(H:Hp)(s:Yb)(Q:VK)(E:XK)(r:Result)(s':Yb):Prop:=
 match r with
 |.ok (.ret u)=>CE outer P w H s Q u s'
 |.ok _=>False
 |.error e=>CX outer H s E e s'
structure FnOk(P:Yh)(w:Yg)(K:Yk)(mg:Str->Option Yj)(base:YG)(CX:CXT)(k:Nat)(f:Yi)(fd:FuncData)(ps:List Str)(sp:Sp):Prop where
 len:∀vs H Q E,sp vs H Q E->vs.length=ps.length
 run:∀(A:YH) (outer:List Env) (s:Yb) (H:Hp) (args:Args) (us:List Yj) (vs:List V) (Q:VK) (E:XK),Room k A->Env0 P w K mg base A outer s H->BindsTo s fd args (ps.zip us)->Zl vs us->sp vs H Q E ->
  codeAny (model P w) A (.call (.ref f) args) (CR CX outer P w H s Q E) s
theorem FnOk.imp{P:Yh}{w:Yg}{K:Yk}{mg:Str->Option Yj}{base:YG}{CX:CXT}{k:Nat}{f:Yi}{fd:FuncData}{ps:List Str}{sp sp':Sp}(F:FnOk P w K mg base CX k f fd ps sp)
 (h:∀vs H Q E,sp' vs H Q E->sp vs H Q E):FnOk P w K mg base CX k f fd ps sp':=
 ⟨fun vs H Q E q=>F.len vs H Q E (h _ _ _ _ q),fun A outer s H args us vs Q E hr he hb hv hs=>F.run A outer s H args us vs Q E hr he hb hv (h _ _ _ _ hs)⟩
theorem Env0.make{P:Yh}{w:Yg}{K:Yk}{mg:Str->Option Yj}{base:YG}{A:YH}{outer:List Env}{s:Yb}{H:Hp}(e:Env0 P w K mg base A outer s H)(C:Yi)(us:List Yj)(kw:List (Str×Yj)):
 Env0 P w K mg base (A.under (.builtin "type.__call__" ⟨.ref C::us,kw⟩)) outer s H:=⟨by first|exact e.frames|(simpa[Around.under,Code.envs,Code.isFrame,pushEnvs]using e.frames),e.mod,e.bs,e.bsz,e.funs,e.frf,e.hok,e.bare⟩
section
variable {X:Cx}{pins:List (Yi×Obj)}{Z:St}{H:Hp}{s s':Yb}
theorem Inv.env0(I:Inv X pins Z H s):Env0 X.prog X.w X.K X.mg X.base X.A X.stack s H:=⟨I.ok.frames,I.ok.mod,I.bs,OE I.ok.bsz I.sz,I.stack,I.stkFree,I.hok,I.bare⟩
theorem Inv.after{Q:VK}{u:Yj}(I:Inv X pins Z H s)(h:CE X.stack X.prog X.w H s Q u s'):EP X pins Z Q u s':=by obtain⟨v,H',os,bare,un,hok,r,q⟩:=h;obtain⟨hh,g,d,t,os'⟩:=s';obtain rfl:os'=s.os:=os;exact⟨v,H',I.call (h':=hh) (g':=g) (d':=d) (t':=t) (ch:=[]) un hok bare (fun b z=>absurd z (by simp)),r,q⟩
end
noncomputable def ZtP(sp:Sp)(dvs:List V)(E:XK)(t:TA):TE:=fun Z H Q=>t Z H fun vs H1=>sp (vs++dvs) H1 Q E
noncomputable def Zq3(C:Yi)(m:Str)(sp:Sp)(dvs:List V)(E:XK)(ta:TE)(t:TA):TE:=fun Z H Q=>ta Z H fun x H1=>∃a dx fs,x=.ref a/\H1 a=Wu (.ins C dx fs)/\fs.lookup m=Wv /\
 t Z H1 fun vs H2=>sp (x::(vs++dvs)) H2 Q E
noncomputable def Zq4(C:Yi)(sp:Sp)(dvs:List V)(E:XK)(t:TA):TE:=fun Z H Q=>t Z H fun vs H1=>∀x dx,H1 x=Wv->H1 dx=Wv->dx≠x ->
 sp (.ref x::(vs++dvs)) (upd (upd H1 dx (.own x)) x (.ins C dx [])) (fun v H2=>v=.non/\Q (.ref x) H2) E
def Binds(K:Yk)(fd:FuncData)(ps:List Str)(ds:List Yj):Prop:=∀(s:Yb) (us:List Yj),K.In s.heap->(us++ds).length=ps.length->BindsTo s fd ⟨us,[]⟩ (ps.zip (us++ds))
theorem Binds.all{K:Yk}{fd:FuncData}{ps:List Str}(h:∀us:List Yj,us.length=ps.length->bindArgs fd ⟨us,[]⟩=pure (ps.zip us)):Binds K fd ps []:=fun s us _ hl=>by rw[Yt]at hl ⊢;exact .of_eq (h us hl)
def ZbM(CX:CXT)(X:Cx)(E:XK):Prop:=∀(pins:List (Yi×Obj)) (Z:St) (H:Hp) (s:Yb) (e:Yj) (s':Yb),Inv X pins Z H s->CX X.stack H s E e s'->X.xe e s'
section
variable {X:Cx}{CX:CXT}{k:Nat}{f C:Yi}{fd:FuncData}{ps:List Str}{sp:Sp}{dvs:List V}{ds:List Yj}{E:XK}{x m:Str}{p pos apos:Pos}{e o:Expr}{es:List Expr}{ta:TE}{t:TA}
theorem ZjD{pins:List (Yi×Obj)}{Z:St}{H:Hp}{s:Yb}{Q:VK}{us:List Yj}{vs:List V}(F:FnOk X.prog X.w X.K X.mg X.base CX k f fd ps sp)(hr:Room k X.A)(hb:Binds X.K fd ps ds)(hd:Zl dvs ds)(hx:ZbM CX X E)
 (I:Inv X pins Z H s) (r:Zl vs us) (h:sp (vs++dvs) H Q E):YB (model X.prog X.w) X.A (call (.ref f) us) (EP X pins Z Q) X.xe s:=by
 have r2:Zl (vs++dvs) (us++ds):=r.append hd;have hl:(us++ds).length=ps.length:=by rw[<- r2.length];exact F.len _ _ _ _ h
 refine wpAny_call (codeAny_mono (F.run X.A X.stack s H ⟨us,[]⟩ (us++ds) (vs++dvs) Q E hr I.env0 (hb s us I.kIn hl) r2 h) fun r s' hq=>?_);cases r with
 |error e=>exact hx pins Z H s e s' I hq
 |ok fl=>
  cases fl with
  |ret u=>exact I.after hq
  |next=>exact False.elim hq
  |brk=>exact False.elim hq
  |cont=>exact False.elim hq
theorem ZpV(F:FnOk X.prog X.w X.K X.mg X.base CX k f fd ps sp)(hr:Room k X.A)(hg:Gl X x)(hm:X.mg x=Wu (.ref f))(hk:Wf X.K (.ref f)=Ww)(hb:Binds X.K fd ps ds)(hd:Zl dvs ds)(hx:ZbM CX X E)
 (ha:PA X (e::es) t) (hdb:(x==("__debug__" : Str))=Wx:=by decide) (he:YA (e::es) X.env=(Wx,eval e X.env)::YA es X.env:=by rfl) (hpl:(YS pos (YA es X.env)).any (·.1)=Wx:=by rfl) :
 PE X (.Call (.Name x p) (e::es) [] pos) (ZtP sp dvs E t):=by
 intro pins s Z H Q I h;refine YX (Zcv I hg hm ?_ hdb);refine PySem.W.callWith_K (h₀:=X.base) I.ok.mod.kin hk (thn (ha pos pins s Z H _ I h) fun us s1 ⟨vs,H1,I1,r,q⟩=>⟨I1.kIn,?_⟩) he hpl;exact ZjD F hr hb hd hx I1 r q
theorem ZpO{pl:Sem Bool}(he:PE X o ta)(c:Cls X.K C)(hm:Meth X.K C m f)(F:FnOk X.prog X.w X.K X.mg X.base CX k f fd ps sp)(hr:Room k X.A)(hb:Binds X.K fd ps ds)(hd:Zl dvs ds)(hx:ZbM CX X E)(ha:PA X (e::es) t)
 (hst:YA (e::es) X.env=(Wx,eval e X.env)::YA es X.env:=by rfl) (hpl:(YS pos (YA es X.env)).any (·.1)=Wx:=by rfl)
 (ht:eval (.Call (.Attribute o m apos) (e::es) [] pos) X.env=(do
  let ov <- eval o X.env
  standAt apos.atName
  let (f,first) <- holding [ov] (getMethod ov m pl)
  callWith pos f first (YS pos (YA (e::es) X.env)) (backToKw pos (Wb [] X.env))):=by rfl) :
 PE X (.Call (.Attribute o m apos) (e::es) [] pos) (Zq3 C m sp dvs E ta t):=by
 intro pins s Z H Q I h;refine PySem.W.methodCall_KW (pl:=pl) (thn (he pins s Z H _ I h) fun u s1 ⟨x,H1,I1,rx,a,dx,fs,ex,ea,l,q⟩=>?_) ht;subst ex;obtain rfl:u=YD a:=rx;refine Zgb I1 ea c hm l ?_;refine PySem.W.callWith_K (first:=[.ref a]) (h₀:=X.base) I.ok.mod.kin hm.kp (thn (ha pos pins s1 Z H1 _ I1 q) fun us s2 ⟨vs,H2,I2,r,q2⟩=>⟨I2.kIn,?_⟩) hst hpl;exact ZjD (us:=.ref a::us) (vs:=.ref a::vs) F hr hb hd hx I2 (.cons rfl r) q2
theorem ZnD{pl:Sem Bool}(he:PE X o ta)(c:Cls X.K C)(hm:Meth X.K C m f)(F:FnOk X.prog X.w X.K X.mg X.base CX k f fd ps sp)(hr:Room k X.A)(hb:Binds X.K fd ps ds)(hd:Zl dvs ds)(hx:ZbM CX X E)
 (ht:eval (.Call (.Attribute o m apos) [] [] pos) X.env=(do
  let ov <- eval o X.env
  standAt apos.atName
  let (f,first) <- holding [ov] (getMethod ov m pl)
  callWith pos f first (YS pos (YA [] X.env)) (backToKw pos (Wb [] X.env))):=by rfl) :
 PE X (.Call (.Attribute o m apos) [] [] pos) (Zq3 C m sp dvs E ta ZrL):=by
 intro pins s Z H Q I h;refine PySem.W.methodCall_KW (pl:=pl) (thn (he pins s Z H _ I h) fun u s1 ⟨x,H1,I1,rx,a,dx,fs,ex,ea,l,q⟩=>?_) ht;subst ex;obtain rfl:u=YD a:=rx;refine Zgb I1 ea c hm l ?_;exact PySem.W.callWith_K0 (first:=[.ref a]) I1.kIn hm.kp (ZjD (us:=[.ref a]) (vs:=[.ref a]) F hr hb hd hx I1 (.cons rfl .nil) q)
structure Mk(K:Yk)(C f:Yi):Prop where
 makes:PySem.W.makesIn K C=Ww
 init:YJ K (.ref C) "__init__" = Wu (Wu (.ref f))
 fn:PySem.W.isFn K (.ref f)=Ww
 kp:Wf K (.ref C)=Ww
theorem Zis{pins:List (Yi×Obj)}{Z:St}{H:Hp}{s:Yb}{Q:VK}{us:List Yj}{vs:List V}(M:Mk X.K C f)(F:FnOk X.prog X.w X.K X.mg X.base CX k f fd ps sp)(hr:Room (k+1) X.A)(hb:Binds X.K fd ps ds)(hd:Zl dvs ds)
 (hx:ZbM CX X E) (I:Inv X pins Z H s) (r:Zl vs us)
 (h:∀x dx,H x=Wv->H dx=Wv->dx≠x->sp (.ref x::(vs++dvs)) (upd (upd H dx (.own x)) x (.ins C dx [])) (fun v H2=>v=.non/\Q (.ref x) H2) E) :
 YB (model X.prog X.w) X.A (call (.ref C) us) (EP X pins Z Q) X.xe s:=by
 have hq:=h (s.heap.objs.size+1) s.heap.objs.size (I.hok.fresh (Nat.le_succ _)) (I.hok.fresh (Oq _)) (Ou (OH _));have I2:=Inv.made (C:=C) I;have r2:Zl (V.ref (s.heap.objs.size+1)::(vs++dvs)) (YD (s.heap.objs.size+1)::(us++ds)):=.cons rfl (r.append hd);have hl:(YD (s.heap.objs.size+1)::us++ds).length=ps.length:=by have e:=r2.length;rw[F.len _ _ _ _ hq]at e;exact e.symm
 refine wpAny_call (ZnW (f:=f) I.kIn M.makes M.init (beq_iff_eq.mp M.fn) (codeAny_mono (F.run _ X.stack _ _ ⟨YD (s.heap.objs.size+1)::us,[]⟩ (YD (s.heap.objs.size+1)::(us++ds)) _ _ E (hr.make C us [])
  (I2.env0.make C us []) (hb _ (YD (s.heap.objs.size+1)::us) I2.kIn hl) r2 hq) fun r s' hq'=>?_))
 cases r with
 |error e=>exact hx pins Z _ _ e s' I2 hq'
 |ok fl=>
  cases fl with
  |ret u=>obtain⟨v,H',I3,rv,ev,q3⟩:=I2.after hq';subst ev;exact⟨rv,⟨V.ref (s.heap.objs.size+1),H',I3,rfl,q3⟩⟩
  |next=>exact False.elim hq'
  |brk=>exact False.elim hq'
  |cont=>exact False.elim hq'
theorem ZpQ(M:Mk X.K C f)(F:FnOk X.prog X.w X.K X.mg X.base CX k f fd ps sp)(hr:Room (k+1) X.A)(hg:Gl X x)(hm:X.mg x=Wu (.ref C))(hb:Binds X.K fd ps ds)(hd:Zl dvs ds)(hx:ZbM CX X E)
 (ha:PA X (e::es) t) (hdb:(x==("__debug__" : Str))=Wx:=by decide) (he:YA (e::es) X.env=(Wx,eval e X.env)::YA es X.env:=by rfl) (hpl:(YS pos (YA es X.env)).any (·.1)=Wx:=by rfl) :
 PE X (.Call (.Name x p) (e::es) [] pos) (Zq4 C sp dvs E t):=by
 intro pins s Z H Q I h;refine YX (Zcv I hg hm ?_ hdb);refine PySem.W.callWith_K (h₀:=X.base) I.ok.mod.kin M.kp (thn (ha pos pins s Z H _ I h) fun us s1 ⟨vs,H1,I1,r,q⟩=>⟨I1.kIn,?_⟩) he hpl;exact Zis M F hr hb hd hx I1 r q
theorem ZnE(M:Mk X.K C f)(F:FnOk X.prog X.w X.K X.mg X.base CX k f fd ps sp)(hr:Room (k+1) X.A)(hg:Gl X x)(hm:X.mg x=Wu (.ref C))(hb:Binds X.K fd ps ds)(hd:Zl dvs ds)(hx:ZbM CX X E)
 (hdb:(x==("__debug__" : Str))=Wx:=by decide):PE X (.Call (.Name x p) [] [] pos) (Zq4 C sp dvs E ZrL):=by
 intro pins s Z H Q I h;refine YX (Zcv I hg hm ?_ hdb);exact PySem.W.callWith_K0 I.kIn M.kp (Zis (us:=[]) M F hr hb hd hx I .nil h)
end
structure FnScope(N P:List Str)(sc:Scope):Prop where
 kind:sc.kind=.function
 co:sc.isCoroutine=Wx
 gen:sc.isGenerator=Wx
 nd:N.Nodup
 pre:N.take P.length=P
 par:∀x∈P,sc.names.lookup x=Wu .local\/sc.names.lookup x=Wu .cell
 nofree:∀y∈sc.names,y.2≠.free
theorem Zg5{kindOf:Str->Option NameKind}{x:Str}:∀{binds:List (Str×Yj)}{m:Str->Option Yj},(∀v,(x,v) ∉ binds)->bindL kindOf binds m x=m x
 |[],_,_=>rfl
 |(n,v)::r,m,h=>by
  unfold bindL;rw[Zg5 fun w hw=>h w (Oh _ hw)];split
  . have:x≠n:=by rintro rfl;exact h v Oi
    simp[this]
  . rfl
theorem Zg7{kindOf:Str->Option NameKind}{x:Str}:∀{binds:List (Str×Yj)}{m:Str->Option Yj},(∀v,(x,v) ∉ binds)->bindC kindOf binds m x=m x
 |[],_,_=>rfl
 |(n,v)::r,m,h=>by
  unfold bindC;rw[Zg7 fun w hw=>h w (Oh _ hw)];split
  . rfl
  . have:x≠n:=by rintro rfl;exact h v Oi
    simp[this]
theorem Zg6{kindOf:Str->Option NameKind}{x:Str}{v:Yj}:∀{P:List Str}{vs:List Yj}{i:Nat}{m:Str->Option Yj},P.Nodup->P[i]? = Wu x->vs[i]? = Wu v->kindOf x=Wu .local ->
 bindL kindOf (P.zip vs) m x=Wu v
 |[],_,_,_,_,h,_,_=>by simp at h
 |_::_,[],_,_,_,_,h,_=>by simp at h
 |p::P,w::vs,0,m,nd,h1,h2,hk=>by simp at h1 h2;subst h1;subst h2;show bindL kindOf ((p,w)::P.zip vs) m p=_;unfold bindL;rw[Zg5 fun v hv=>(List.nodup_cons.mp nd).1 (List.of_mem_zip hv).1,if_pos hk];simp
 |p::P,w::vs,i+1,m,nd,h1,h2,hk=>by show bindL kindOf ((p,w)::P.zip vs) m x=_;unfold bindL;exact Zg6 (i:=i) (List.nodup_cons.mp nd).2 (by simpa using h1) (by simpa using h2) hk
theorem Zg8{kindOf:Str->Option NameKind}{x:Str}{v:Yj}:∀{P:List Str}{vs:List Yj}{i:Nat}{m:Str->Option Yj},P.Nodup->P[i]? = Wu x->vs[i]? = Wu v->kindOf x≠Wu .local ->
 bindC kindOf (P.zip vs) m x=Wu v
 |[],_,_,_,_,h,_,_=>by simp at h
 |_::_,[],_,_,_,_,h,_=>by simp at h
 |p::P,w::vs,0,m,nd,h1,h2,hk=>by simp at h1 h2;subst h1;subst h2;show bindC kindOf ((p,w)::P.zip vs) m p=_;unfold bindC;rw[Zg7 fun v hv=>(List.nodup_cons.mp nd).1 (List.of_mem_zip hv).1,if_neg hk];simp
 |p::P,w::vs,i+1,m,nd,h1,h2,hk=>by show bindC kindOf ((p,w)::P.zip vs) m x=_;unfold bindC;exact Zg8 (i:=i) (List.nodup_cons.mp nd).2 (by simpa using h1) (by simpa using h2) hk
noncomputable def start(N:List Str)(vs:List V):St:=vs.map Wu++YK (N.length - vs.length) Wv
noncomputable def ZkB(CX:CXT)(P:Yh)(w:Yg)(K:Yk)(mg:Str->Option Yj)(base:YG)(N:List Str)(qual:Str)(scope:Scope)(f:Yi)(cd:Yj)(A:YH)(outer:List Env)(s:Yb)(H:Hp)(E:XK):Cx where
 prog:=P
 w:=w
 K:=K
 mg:=mg
 base:=base
 A:=A.deeper (envOfC qual scope s.heap.objs.size f cd)
 N:=N
 s₀:=s
 H₀:=H
 env:=envOfC qual scope s.heap.objs.size f cd
 outer:=outer
 stack:=envOfC qual scope s.heap.objs.size f cd::outer
 ex:=[]
 calm:=Ww
 fn:=fun _=>Ww
 pn:=[]
 xe:=fun e s'=>YB (model P w) (A.deeper (envOfC qual scope s.heap.objs.size f cd)) (leaving (envOfC qual scope s.heap.objs.size f cd) e) (fun _ s''=>CX outer H s E e s'') (fun e' s''=>CX outer H s E e' s'') s'
theorem Zjk{sc:Scope}{n:Nat}{x:Str}(h:sc.names.lookup x=Wu .cell):∃c,(cellsFrom n sc.names []).lookup x=Wu c:=by have q:=PySem.W.cellsFrom_some sc.names n [] (.inl h);exact Option.isSome_iff_exists.mp q
theorem Zmw{CX:CXT}{P:Yh}{w:Yg}{K:Yk}{mg:Str->Option Yj}{base:YG}{N ps:List Str}{qual:Str}{scope:Scope}{f:Yi}{cd:Yj}{A:YH}{outer:List Env}{s s1:Yb}{H:Hp}{E:XK}{us:List Yj}{vs:List V}
 (S_:FnScope N ps scope) (hd:A.handled=Wv) (e0:Env0 P w K mg base A outer s H) (hl:vs.length=ps.length) (r:Zl vs us)
 (x:InCallC s s.heap.objs.size (bindL (envOfC qual scope s.heap.objs.size f cd).kindOf (ps.zip us) fun _=>Wv) (cellsFrom (s.heap.objs.size+1) scope.names []) (bindC (envOfC qual scope s.heap.objs.size f cd).kindOf (ps.zip us) fun _=>Wv) s1) :
 Inv (ZkB CX P w K mg base N qual scope f cd A outer s H E) [] (start N vs) H s1:=by
 have hpl:ps.length<=N.length:=by have:=congrArg List.length S_.pre;rw[List.length_take]at this;omega
 obtain⟨h1,tk,rfl,hk⟩:=x.done;have noA:∀b:Yi,b ∉ (ZkB CX P w K mg base N qual scope f cd A outer s H E).ex:=fun b z=>absurd (show b∈([]:List Yi)from z) (by simp);refine⟨⟨e0.mod,S_.kind,rfl,rfl,Oq _,fun y z c h1 h2=>?_,fun y hy=>?_,fun y c _ h=>?_,fun _=>hd,Around.frames_deeper e0.frames,.inr ⟨rfl,rfl⟩,fun b z=>absurd z (noA b),e0.bs,e0.bsz,fun b _ _=>noA b,fun b z=>absurd z (noA b),e0.funs,e0.frf⟩,
  rfl,e0.bare,Un.kept hk,⟨_,x.toInCall.ns,fun i y v h1 h2 h3=>?_⟩,fun y c h=>⟨_,x.cell y c h⟩,e0.hok.fresh (Oq _),fun y c h=>?_,fun p hp=>absurd (show p∈([]:List (Yi×Obj))from hp) (by simp),e0.hok.kept hk,?_⟩
 . exact name_of_addr x.apart (YI h1) (YI h2)
 . have hy:scope.names.lookup y=Wu .cell\/scope.names.lookup y=Wu .free:=hy;rcases hy with hy|hy
   . exact Zjk hy
   . exact absurd rfl (S_.nofree _ (YI hy))
 . exact Nat.le_of_lt (x.above y c (YI h))
 . have hi:i<vs.length:=by
    unfold start at h2;by_cases hi:i<vs.length
    . exact hi
    . rw[Om (by simpa using hi)]at h2;rw[List.getElem?_replicate]at h2;split at h2<;>cases h2
   have ha:vs[i]? = Wu v:=by
    unfold start at h2;rw[Oe (by simpa using hi),On]at h2;cases e:vs[i]? with
    |none=>rw[e]at h2;cases h2
    |some a=>rw[e]at h2;cases h2;rfl
   obtain⟨u,hu,rv⟩:=r.get ha;have hp:ps[i]? = Wu y:=by rw[<- S_.pre,List.getElem?_take_of_lt (by omega)];exact h1
   have ndP:ps.Nodup:=by rw[<- S_.pre];exact S_.nd.sublist (List.take_sublist _ _)
   refine⟨u,rv,?_⟩;rcases S_.par y (O1 hp)with k|k
   . exact .inl ⟨k,Zg6 ndP hp hu k⟩
   . obtain⟨c,e⟩:=Zjk (n:=s.heap.objs.size+1) k;refine .inr ⟨.inl k,c,e,?_⟩;have q:=x.cell y c e;rw[Zg8 ndP hp hu (by show scope.names.lookup y≠_;rw[k];decide)]at q;exact q
 . exact e0.hok.fresh (Nat.le_of_lt (x.above y c (YI h)))
 . unfold start;show _=N.length;rw[OA,Yu,List.length_replicate];omega
theorem ZuS{CX:CXT}{P:Yh}{w:Yg}{K:Yk}{mg:Str->Option Yj}{base:YG}{k:Nat}{f:Yi}{name qual:Str}{params:Arguments}{body:List Stmt}{scope:Scope}{dV kV doc pm cdv ct oc:Yj}{an od:Option Yi}
 {osl:Array (Option Yj)}{N ps:List Str}{sp:Sp} (lk:K.lookup f=Wu ⟨oc,od,.func (PySem.W.fnOf name qual params body scope dV kV doc pm an cdv ct),osl⟩) (hcd:PySem.W.codeIn K cdv qual=Ww) (S_:FnScope N ps scope)
 (len:∀vs H Q E,sp vs H Q E->vs.length=ps.length)
 (hbody:∀(A:YH) (outer:List Env) (s:Yb) (H:Hp) (vs:List V) (Q:VK) (E:XK),Room k (A.deeper (envOfC qual scope s.heap.objs.size f cdv))->sp vs H Q E ->
  ∃t,PSs (ZkB CX P w K mg base N qual scope f cdv A outer s H E) body t/\t {nx:=fun _ H'=>Q .non H',rt:=Q} (start N vs) H) :
 FnOk P w K mg base CX (k+1) f (PySem.W.fnOf name qual params body scope dV kV doc pm an cdv ct) ps sp:=by
 refine⟨len,fun A outer s H args us vs Q E hr e0 hb r hsp=>?_⟩;have hl:=len _ _ _ _ hsp;have KX:K.In s.heap:=e0.mod.kin.keeps fun b o e=>(e0.bs b o e).1;have lim:s.heap.NoLimit:=e0.mod.nolimit.keeps fun b o e=>(e0.bs b o e).1;have hkind:∀y∈ps.zip us,scope.names.lookup y.1=Wu .local\/(scope.names.lookup y.1=Wu .cell/\((cellsFrom (s.heap.objs.size+1) scope.names []).lookup y.1).isSome=Ww):=fun⟨n,v⟩ hy=>by
  rcases S_.par n (List.of_mem_zip hy).1 with q|q
  . exact .inl q
  . exact .inr ⟨q,PySem.W.cellsFrom_some _ _ _ (.inl q)⟩
 refine codeAny_call_function hr.depth (KX _ _ lk) rfl S_.co S_.gen rfl (PySem.W.codeRec_of KX hcd) (hb _ _ _ _ ?_);refine wpAny_newFunctionEnv_cells S_.kind hkind fun env he s1 x=>?_;subst he;refine⟨lim.keeps x.toInCall.keep,codeAny_func ?_⟩;obtain⟨t,ht,hq⟩:=hbody A outer s H vs Q E (hr.deeper _) hsp;have I:Inv (ZkB CX P w K mg base N qual scope f cdv A outer s H E) [] (start N vs) H s1:=Zmw S_ hr.hd e0 hl r x;refine Yf (ht [] s1 (start N vs) H _ I hq) (fun fl s' hs=>?_) fun e s' hs=>hs;have fin:∀{σ':St}{H':Hp}{v:V}{u:Yj},Inv (ZkB CX P w K mg base N qual scope f cdv A outer s H E) [] σ' H' s'->RelV v u->Q v H'->CE outer P w H s Q u s':=fun {σ' H' v u} J rv q=>⟨v,H',J.os,J.bare,J.base,J.hok,rv,q⟩
 cases fl with
 |ret u=>obtain⟨v,σ',H',J,rv,q⟩:=hs;exact fin J rv q
 |next=>obtain⟨σ',H',J,q⟩:=hs;exact fin (v:=V.non) (u:=Value.none) J rfl q
 |brk=>obtain⟨_,_,_,q⟩:=hs;exact False.elim q
 |cont=>obtain⟨_,_,_,q⟩:=hs;exact False.elim q
section
variable {X:Cx}{x:Str}{p pos:Pos}{e:Expr}{es:List Expr}{t:TA}{id T:String}{r:List V->Hp->VK->Prop}
noncomputable def tCB(r:List V->Hp->VK->Prop)(t:TA):TE:=fun Z H Q=>t Z H fun vs H1=>r vs H1 Q
theorem Zef(hc:Zcr X (.builtin id) r)(hg:Gl X x)(hm:X.mg x=Wv)(hv:bootBuiltins x=Wu (.builtin id))(ha:PA X (e::es) t)(hn:x ≠ "__name__" := by decide)(hdb:(x==("__debug__" : Str))=Wx:=by decide)
 (he:YA (e::es) X.env=(Wx,eval e X.env)::YA es X.env:=by rfl) (hpl:(YS pos (YA es X.env)).any (·.1)=Wx:=by rfl):PE X (.Call (.Name x p) (e::es) [] pos) (tCB r t):=by
 intro pins s Z H Q I h;refine YX (Zc2 I hg hm hv ?_ hn hdb);exact PyProof.Rows.callWith_builtin1 (thn (ha pos pins s Z H _ I h) fun us s1 ⟨vs,H1,I1,r1,q1⟩=>hc pins s1 Z H1 vs us Q I1 r1 q1) he hpl
theorem Zma(hc:Zcr X (.type T) r)(hg:Gl X x)(hm:X.mg x=Wv)(hv:bootBuiltins x=Wu (.type T))(ha:PA X (e::es) t)(hn:x ≠ "__name__" := by decide)(hdb:(x==("__debug__" : Str))=Wx:=by decide)
 (he:YA (e::es) X.env=(Wx,eval e X.env)::YA es X.env:=by rfl) (hpl:(YS pos (YA es X.env)).any (·.1)=Wx:=by rfl):PE X (.Call (.Name x p) (e::es) [] pos) (tCB r t):=by
 intro pins s Z H Q I h;refine YX (Zc2 I hg hm hv ?_ hn hdb);exact PyProof.Rows.callWith_type1 (thn (ha pos pins s Z H _ I h) fun us s1 ⟨vs,H1,I1,r1,q1⟩=>hc pins s1 Z H1 vs us Q I1 r1 q1) he hpl
end
end L2
namespace HT
open PySem PyProof.Rows
section
variable {prog:Yh}{w:Yg}{A:YH}{E:Yj->Yb->Prop}{s:Yb}
theorem ZqN{t b:Yi}{vs ws:List Yj}{Q:Yj->Yb->Prop}(ht:IsTup s.heap t vs.toArray)(hb:IsTup s.heap b ws.toArray)(hv:vs≠[])
 (h1:ws=[]->Q (.ref t) s) (h2:ws≠[]->Q (.ref s.heap.objs.size) {s with heap:=s.heap.push {cls:=.type "tuple",data:=.seq (vs++ws).toArray}})
 (hsz:vs.length+ws.length<=sizeLine):YB (model prog w) A (binaryOp .Add (.ref t) (.ref b)) Q E s:=by
 obtain⟨⟨cls,dd,data,sl⟩,ho,hc,n,hd⟩:=id ht;obtain⟨⟨cls2,dd2,data2,sl2⟩,ho2,hc2,n2,hd2⟩:=id hb;simp only at hc hd hc2 hd2;subst hc hd hc2 hd2;have e:vs.toArray++ws.toArray=(vs++ws).toArray:=by simp
 by_cases hw:ws=[]
 . exact concat_meets ⟨_,ho,rfl⟩ ⟨_,ho2,rfl⟩ noFill_tuple_add seq_tuple_add PySem.F.slot_tuple_add PySem.F.entry_tuple_add (PySem.F.args_tuple_add_2 _ _)
    (tuple_addW1 t b vs.toArray ws.toArray n n2 dd dd2 sl sl2 (by simpa using hv) (by simp[hw])) ⟨ho,ho2,h1 hw⟩
 . refine concat_meets ⟨_,ho,rfl⟩ ⟨_,ho2,rfl⟩ noFill_tuple_add seq_tuple_add PySem.F.slot_tuple_add PySem.F.entry_tuple_add (PySem.F.args_tuple_add_2 _ _)
    (tuple_addW2 t b vs.toArray ws.toArray n n2 dd dd2 sl sl2 (by simpa using hv) (by simpa using hw) (by rw[Of,Of];exact hsz)) ⟨ho,ho2,?_⟩
   rw[e];exact h2 hw
noncomputable def sIx(n d:Nat):Option Int->Nat
 |none=>d
 |some v=>if v<0 then(v+(n:Int)).toNat else min v.toNat n
theorem ZrT(n d:Nat)(hd:d<=n)(o:Option Int):sIx n d o<=n:=by
 cases o with
 |none=>exact hd
 |some v=>
  show(if v<0 then(v+(n:Int)).toNat else min v.toNat n)<=n;by_cases hv:v<0
  . rw[if_pos hv];omega
  . rw[if_neg hv];exact Nat.min_le_right _ _
theorem ZlE(v:Int)(n d:Nat):(if v<0 then max (v+(n:Int)) 0 else min v (n:Int))=((sIx n d (Wu v):Nat):Int):=by
 show(if v<0 then max (v+(n:Int)) 0 else min v (n:Int))=(((if v<0 then(v+(n:Int)).toNat else min v.toNat n):Nat):Int)
 by_cases hv:v<0
 . simp only[if_pos hv];omega
 . simp only[if_neg hv];omega
theorem ZkR(lo hi:Option Int)(n:Nat):Builtin.Slice.sliceAdjust lo hi 1 (n:Int)=(((sIx n 0 lo:Nat):Int),((sIx n n hi:Nat):Int)):=by
 have h1:¬ ((1:Int)<0):=by omega
 unfold Builtin.Slice.sliceAdjust;simp only[h1,if_false];refine Prod.ext ?_ ?_
 . cases lo with
   |none=>rfl
   |some v=>exact ZlE v n 0
 . cases hi with
   |none=>rfl
   |some v=>exact ZlE v n n
theorem ZjR(i j:Nat):Builtin.Slice.slicePlaces (i:Int) (j:Int) 1=j - i:=by
 unfold Builtin.Slice.slicePlaces;have h1:(1:Int) > 0:=by omega
 simp only[h1,if_true,Int.ediv_one];split<;>omega
theorem ZfC{v:Yj}{o:Option Int}{Q:Option Int->Yb->Prop}(p:IsPart v o)(h:Q o s):YB (model prog w) A (Builtin.Slice.slicePartIndex v) Q E s:=by
 cases p with
 |none=>exact slicePart_none h
 |int i t=>exact slicePart_int h
theorem Zcd{sl:Yi}{vl vu:Yj}{lo hi:Option Int}{n:Nat}{Q:Int×Int×Nat->Yb->Prop}(hs:s.heap.IsSliceOf sl vl vu .none)(pl:IsPart vl lo)(pu:IsPart vu hi)
 (h:Q (((sIx n 0 lo:Nat):Int),1,sIx n n hi - sIx n 0 lo) s):YB (model prog w) A (Builtin.Slice.sliceApplied (.ref sl) (pure (n:Int))) Q E s:=by
 obtain⟨os,hos,hcs,hds⟩:=id hs;unfold Builtin.Slice.sliceApplied Builtin.Slice.sliceFields;refine Ya (Ya (YR hos hds (x:=vl) rfl (Ya (YR hos hds (x:=vu) rfl (Ya (YR hos hds (x:=.none) rfl (Yc ?_)))))));refine Ya (slicePart_none ?_);show YB _ _ (if ((1:Int)==0)=Ww then _ else _) _ _ s;rw[if_neg (by decide)];refine Ya (ZfC pl (Ya (ZfC pu (Ya (Yc ?_)))));show YB _ _ (match Builtin.Slice.sliceAdjust lo hi 1 (n:Int)with|(lo,hi)=>pure (lo,(1:Int),Builtin.Slice.slicePlaces lo hi 1)) _ _ s;rw[ZkR lo hi n];show YB _ _ (pure (((sIx n 0 lo:Nat):Int),(1:Int),Builtin.Slice.slicePlaces ((sIx n 0 lo:Nat):Int) ((sIx n n hi:Nat):Int) 1)) _ _ s;rw[ZjR];exact Yc h
theorem Zny(xs:Array Yj)(i k:Nat):((List.range k).filterMap fun(m:Nat)=>xs[((i:Int)+(m:Int) * 1).toNat]?).toArray=((xs.toList.drop i).take k).toArray:=by
 have e:(fun(m:Nat)=>xs[((i:Int)+(m:Int) * 1).toNat]?)=fun m=>xs[i+m]? := by
  funext m;have:((i:Int)+(m:Int) * 1).toNat=i+m:=by omega
  rw[this]
 rw[e];have:=pick_run xs i k;rw[List.filterMap_map]at this;have e2:((fun x=>xs[x]?) ∘ fun x=>i+x)=fun m=>xs[i+m]? := rfl;rw[e2]at this;rw[this]
theorem Zeo{t sl:Yi}{items:Array Yj}{vl vu:Yj}{lo hi:Option Int}{Q:Yj->Yb->Prop}(ht:IsTup s.heap t items)(hs:s.heap.IsSliceOf sl vl vu .none)(pl:IsPart vl lo)(pu:IsPart vu hi)
 (hw:¬ (sIx items.size 0 lo=0/\sIx items.size items.size hi=items.size))
 (h:Q (.ref s.heap.objs.size) {s with heap:=s.heap.push {cls:=.type "tuple",data:=.seq ((items.toList.drop (sIx items.size 0 lo)).take (sIx items.size items.size hi - sIx items.size 0 lo)).toArray}})
 (hsz:items.size<=sizeLine):YB (model prog w) A (getItem (.ref t) (.ref sl)) Q E s:=by
 have htake:sizeOk (.seq ((items.toList.drop (sIx items.size 0 lo)).take (sIx items.size items.size hi - sIx items.size 0 lo)).toArray):=by show((items.toList.drop (sIx items.size 0 lo)).take (sIx items.size items.size hi - sIx items.size 0 lo)).toArray.size<=sizeLine;rw[Of,List.length_take,List.length_drop,Array.length_toList];omega
 have hj:sIx items.size items.size hi<=items.size:=ZrT _ _ (Oq _) hi;obtain⟨os,hos,hcs,hds⟩:=id hs;have hTs:s.TypeIs (.ref sl) "slice" := ⟨os,hos,hcs⟩
 unfold getItem
 try with_reducible refine Wg ?_
 first|refine Ya (Yc ?_)|skip
 refine Ya (wpAny_sequenceKey ht.typeIs (by decide) ?_);refine Ya (Wc (name:=O "__getitem__") ht.typeIs Wm
  (Wh Wm ht.typeIs entry_tuple_getitem ?_ (args_tuple_getitem _ _)))
 show YB _ _ (Builtin.Tuple.tupleItemsOf (.ref t) >>= _) _ _ s;refine Ya (tupleItemsOf_ ht ?_);refine Ya (wpAny_typeOf hTs ?_);rw[if_pos (by decide)];refine Ya (Zcd hs pl pu ?_);have hno:¬ ((((sIx items.size 0 lo:Nat):Int)==0&&(1:Int)==1&&(sIx items.size items.size hi - sIx items.size 0 lo)==items.size)=Ww):=by intro q;rw[Oa,Oa]at q;have q1:((sIx items.size 0 lo:Nat):Int)=0:=eq_of_beq q.1.1;have q2:sIx items.size items.size hi - sIx items.size 0 lo=items.size:=eq_of_beq q.2;exact hw ⟨by omega,by omega⟩
 show YB _ _ (if (((sIx items.size 0 lo:Nat):Int)==0&&(1:Int)==1&&(sIx items.size items.size hi - sIx items.size 0 lo)==items.size)=Ww then _ else _) _ _ s;rw[if_neg hno,Zny]
 first
  |exact Ya (m:=Builtin.Tuple.tupleExact _) (Yr (Yc ⟨_,rfl,Yc h⟩) htake)
  |exact Ya (m:=Builtin.Tuple.tupleExact _) (Yr (Ya (Yc (Yc ⟨_,rfl,Yc h⟩))) htake)
  |exact Ya (Ya (m:=Builtin.Tuple.tupleExact _) (Yr (Yc (Yc ⟨_,rfl,Yc h⟩)) htake))
  |exact Ya (Ya (m:=Builtin.Tuple.tupleExact _) (Yr (Yc ⟨_,rfl,Yc h⟩) htake))
end
end HT
namespace L2
open PySem PySem.Spec PyProof.Rows
abbrev TO:=St->Hp->(Option Int->Hp->Prop)->Prop
def PO(X:Cx)(e:Option Expr)(t:TO):Prop:=
 ∀(pins:List (Yi×Obj)) (s:Yb) (Z:St) (H:Hp) (Q:Option Int->Hp->Prop),Inv X pins Z H s->t Z H Q ->
  YB (model X.prog X.w) X.A (evalPart e X.env) (fun u s'=>∃o H',Inv X pins Z H' s'/\IsPart u o/\Q o H') X.xe s
noncomputable def Zpi:TO:=fun _ H Q=>Q Wv H
noncomputable def ZtI(t:TE):TO:=fun Z H Q=>t Z H fun x H1=>∃i,x=.int i/\Q (Wu i) H1
section
variable {X:Cx}{e:Expr}{te:TE}{lo hi:Option Expr}{tl th:TO}{pos p2:Pos}
theorem ZpJ:PO X Wv Zpi:=by intro pins s Z H Q I h;rw[evalPart_none];exact Yc ⟨Wv,H,I,.none,h⟩
theorem ZpI(h:PE X e te):PO X (Wu e) (ZtI te):=by intro pins s Z H Q I hw;rw[evalPart_some];refine thn (h pins s Z H _ I hw) fun u s1 ⟨x,H1,I1,r1,q1⟩=>?_;obtain⟨i,rfl,q⟩:=q1;obtain⟨t,rfl⟩:=r1;exact⟨Wu i,H1,I1,.int i t,q⟩
def SlR(X:Cx)(r:V->Option Int->Option Int->Hp->VK->Prop):Prop:=
 ∀(pins:List (Yi×Obj)) (s:Yb) (Z:St) (H:Hp) (x:V) (v vl vu:Yj) (lo hi:Option Int) (sl:Yi) (Q:VK),Inv X pins Z H s->RelV x v->s.heap.IsSliceOf sl vl vu .none->IsPart vl lo->IsPart vu hi->r x lo hi H Q ->
  ∃T id,typeLookup (.type T) "__getitem__" = pure (Wu (.builtin id))/\s.TypeIs v T/\YB (model X.prog X.w) X.A (getItem v (.ref sl)) (EP X pins Z Q) X.xe s
noncomputable def tSl(r:V->Option Int->Option Int->Hp->VK->Prop)(te:TE)(tl th:TO):TE:=fun Z H Q=>te Z H fun x H1=>tl Z H1 fun l H2=>th Z H2 fun u H3=>r x l u H3 Q
theorem ZnA{r:V->Option Int->Option Int->Hp->VK->Prop}(hr:SlR X r)(he:PE X e te)(hl:PO X lo tl)(hu:PO X hi th):PE X (.Subscript e (.Slice lo hi Wv p2) pos) (tSl r te tl th):=by intro pins s Z H Q I h;refine Subscript_ (thn (he pins s Z H _ I h) fun v s1 ⟨x,H1,I1,r1,q1⟩=>?_);refine wpAny_Slice (thn (hl pins s1 Z H1 _ I1 q1) fun vl s2 ⟨l,H2,I2,pl,q2⟩=>thn (hu pins s2 Z H2 _ I2 q2) fun vu s3 ⟨u,H3,I3,pu,q3⟩=>?_);rw[evalPart_none];refine Yc ?_;have I4:Inv X pins Z H3 {s3 with heap:=s3.heap.push {cls:=.type "slice",data:=.fields #[vl,vu,.none]}}:=I3.kept (t':=s3.toks) fun b ob q=>Od _ q;obtain⟨T,id,hT,ht,hg⟩:=hr pins {s3 with heap:=s3.heap.push {cls:=.type "slice",data:=.fields #[vl,vu,.none]}} Z H3 x v vl vu l u s3.heap.objs.size Q I4 r1 (Heap.IsSliceOf.new ..) pl pu q3;show YB (model X.prog X.w) X.A (subscriptTail e (.Slice lo hi Wv p2) v (.ref s3.heap.objs.size)) (EP X pins Z Q) X.xe {s3 with heap:=s3.heap.push {cls:=.type "slice",data:=.fields #[vl,vu,.none]}};exact tail_any (ops:=[.ref s3.heap.objs.size,v]) ht hT hg (by with_unfolding_all rfl)
noncomputable def Zjc(xs:List V)(lo hi:Option Int):List V:=(xs.drop (HT.sIx xs.length 0 lo)).take (HT.sIx xs.length xs.length hi - HT.sIx xs.length 0 lo)
theorem Ze6(xs:List V)(lo hi:Option Int):(Zjc xs lo hi).length<=xs.length:=by unfold Zjc;rw[List.length_take,List.length_drop];omega
def ZvP(K:Yk):V->Option Int->Option Int->Hp->VK->Prop:=fun x lo hi H Q=>∃a xs,x=.ref a/\SqT K H a xs /\
 ¬ (HT.sIx xs.length 0 lo=0/\HT.sIx xs.length xs.length hi=xs.length)/\∀p,H p=Wv->Q (.ref p) (upd H p (.tup (Zjc xs lo hi)))
theorem ZrP:SlR X (ZvP X.K):=by
 intro pins s Z H x v vl vu lo hi sl Q I rx hs pl pu h;obtain⟨a,xs,rfl,hx,hw,q⟩:=h;cases rx;obtain⟨its,r,ht,hz⟩:=I.tuple hx;have hlen:its.toArray.size=xs.length:=by rw[Of];exact r.length.symm
 refine⟨"tuple",_,PyProof.Rows.slot_tuple_getitem.lookup,ht.typeIs,?_⟩;refine HT.Zeo ht hs pl pu (by rw[hlen];exact hw) ?_ (by rw[hlen];exact hz);rw[hlen];refine⟨.ref s.heap.objs.size,_,I.laid (t':=s.toks) (o:=.tup (Zjc xs lo hi)) (fun b ob q=>Od _ q) (Oq _) ?_,rfl,q _ (I.hok.fresh (Oq _))⟩;exact⟨OE (Ze6 xs lo hi) hz,_,(r.drop (HT.sIx xs.length 0 lo)).take (HT.sIx xs.length xs.length hi - HT.sIx xs.length 0 lo),Zbp.fresh _ _⟩
noncomputable def Zt6(K:Yk):R2:=fun x y H Q=>∃a b xs ys,x=.ref a/\y=.ref b/\SqT K H a xs/\SqT K H b ys/\xs≠[]/\xs.length+ys.length<=sizeLine /\
 (ys=[]->Q (.ref a) H)/\(ys≠[]->∀p,H p=Wv->Q (.ref p) (upd H p (.tup (xs++ys))))
theorem Zl.nil_iff{xs:List V}{us:List Yj}(r:Zl xs us):us=[]↔xs=[]:=by
 cases r with
 |nil=>simp
 |cons _ _=>simp
theorem Zp1:OpR X (binaryOp .Add) (Zt6 X.K):=by intro pins s Z H x y v u Q I rx ry h;obtain⟨a,b,xs,ys,rfl,rfl,ha,hb,hx,hz,q1,q2⟩:=h;cases rx;cases ry;obtain⟨its,r1,p1,_⟩:=I.tuple ha;obtain⟨its2,r2,p2,_⟩:=I.tuple hb;refine HT.ZqN p1 p2 (fun z=>hx (r1.nil_iff.mp z)) (fun z=>⟨.ref a,H,I,rfl,q1 (r2.nil_iff.mp z)⟩) (fun z=>?_) (by rw[<- r1.length,<- r2.length];exact hz);refine⟨.ref s.heap.objs.size,_,I.laid (t':=s.toks) (o:=.tup (xs++ys)) (fun b ob q=>Od _ q) (Oq _) ?_,rfl,q2 (fun w=>z (r2.nil_iff.mpr w)) _ (I.hok.fresh (Oq _))⟩;exact⟨by rw[OA];exact hz,_,r1.append r2,Zbp.fresh _ _⟩
end
noncomputable def ixN(n:Nat)(i:Int):Option Nat:=if 0<=i then(if i<n then Wu i.toNat else Wv)else if -(n:Int)<=i then Wu (i+n).toNat else Wv
noncomputable def atI{α:Type}(xs:List α)(i:Int):Option α:=(ixN xs.length i).bind fun j=>xs[j]?
theorem Zlt{n:Nat}{i:Int}{j:Nat}(h:ixN n i=Wu j):seqIndex? i n=Wu j/\j<n/\-(n:Int)<=i/\i<n:=by
 unfold ixN at h;by_cases h0:0<=i
 . rw[if_pos h0]at h;by_cases h1:i<n
   . rw[if_pos h1]at h;have e:i.toNat=j:=YF h;exact⟨by rw[seqIndex_of h0 h1,e],by omega,by omega,h1⟩
   . rw[if_neg h1]at h;cases h
 . rw[if_neg h0]at h;by_cases h1:-(n:Int)<=i
   . rw[if_pos h1]at h;have e:(i+n).toNat=j:=YF h;exact⟨by rw[seqIndex_neg (by omega) h1,e],by omega,h1,by omega⟩
   . rw[if_neg h1]at h;cases h
theorem Zh9{α:Type}{xs:List α}{i:Int}{v:α}(h:atI xs i=Wu v):∃j,seqIndex? i xs.length=Wu j/\xs[j]? = Wu v/\j<xs.length/\-(xs.length:Int)<=i/\i<xs.length:=by
 unfold atI at h;cases e:ixN xs.length i with
 |none=>rw[e]at h;cases h
 |some j=>rw[e]at h;obtain⟨h1,h2,h3,h4⟩:=Zlt e;exact⟨j,h1,h,h2,h3,h4⟩
def ZlJ(b:Expr):Prop:=∀o i,subscripted b Wx o i=operate [o,i] (getItem o i)
def IxR(X:Cx)(r:R2):Prop:=
 ∀(value slice:Expr) (pins:List (Yi×Obj)) (s:Yb) (Z:St) (H:Hp) (x y:V) (v u:Yj) (Q:VK),Inv X pins Z H s->RelV x v->RelV y u->r x y H Q ->
  subscripted slice Wx v u=operate [v,u] (getItem v u)->YB (model X.prog X.w) X.A (subscriptTail value slice v u) (EP X pins Z Q) X.xe s
def MtR(X:Cx)(id:String)(r:V->List V->Hp->VK->Prop):Prop:=
 ∀(pins:List (Yi×Obj)) (s:Yb) (Z:St) (H:Hp) (x:V) (xs:List V) (v:Yj) (us:List Yj) (Q:VK),Inv X pins Z H s->RelV x v->Zl xs us->r x xs H Q ->
  YB (model X.prog X.w) X.A (call (.builtin id) (v::us)) (EP X pins Z Q) X.xe s
section
variable {X:Cx}{a b:Expr}{ta tb:TE}{pos:Pos}
theorem Zuh{r:R2}(hr:IxR X r)(ha:PE X a ta)(hb:PE X b tb)(hs:ZlJ b):PE X (.Subscript a b pos) (tOp r ta tb):=by intro pins s Z H Q I h;exact Subscript_ (Ztd ha hb I h fun v u s2 x y H2 I2 rx ry q=>hr a b pins s2 Z H2 x y v u Q I2 rx ry q (hs _ _))
noncomputable def ZvV(K:Yk):R2:=fun x y H Q=>∃p xs i v,x=.ref p/\y=.int i/\SqL K H p xs/\atI xs i=Wu v/\Q v H
noncomputable def ZvT(K:Yk):R2:=fun x y H Q=>∃p xs i v,x=.ref p/\y=.int i/\SqT K H p xs/\atI xs i=Wu v/\Q v H
noncomputable def ZvU:R2:=fun x y H Q=>∃z i c,x=.str z/\y=.int i/\z.length<=sizeLine/\atI z.cps.toList i=Wu c/\Q (.str ⟨#[c]⟩) H
theorem Zqq:IxR X (ZvV X.K):=by
 intro value slice pins s Z H x y v u Q I rx ry h hs;obtain⟨p,xs,i,z,rfl,rfl,hq,he,q⟩:=h;cases rx;obtain⟨t,rfl⟩:=ry;obtain⟨its,r,pl,hz⟩:=I.list hq;obtain⟨j,h1,h2,h3,h4,h5⟩:=Zh9 he;obtain⟨w,ew,rw'⟩:=r.get h2;have hl:=r.length;have hn:=Zcu;have fin:EP X pins Z Q w s:=⟨z,H,I,rw',q⟩
 by_cases h0:0<=i
 . have hj:i.toNat=j:=by rw[seqIndex_of h0 h5]at h1;exact YF h1
   exact item_listR pl.isList h0 (by omega) (by rw[hj];simpa using ew) fin hs
 . have hj:(i+(its.toArray.size:Int)).toNat=j:=by rw[seqIndex_neg (by omega) h4]at h1;rw[Of,<- hl];exact YF h1
   exact subscriptTail_builtinR (x:=w) pl.isList.typeIs slot_list_getitem.lookup
    (wpAny_getItem_list_neg (Q:=fun r s'=>r=w/\EP X pins Z Q r s') pl.isList (by omega) (by rw[Of]<;>omega) (by omega) (by rw[hj];simpa using ew) ⟨rfl,fin⟩) hs
theorem ZsS:IxR X (ZvT X.K):=by
 intro value slice pins s Z H x y v u Q I rx ry h hs;obtain⟨p,xs,i,z,rfl,rfl,hq,he,q⟩:=h;cases rx;obtain⟨t,rfl⟩:=ry;obtain⟨its,r,pl,hz⟩:=I.tuple hq;obtain⟨j,h1,h2,h3,h4,h5⟩:=Zh9 he;obtain⟨w,ew,rw'⟩:=r.get h2;have hl:=r.length;have hn:=Zcu;have fin:EP X pins Z Q w s:=⟨z,H,I,rw',q⟩
 exact subscriptTail_builtinR (x:=w) pl.typeIs slot_tuple_getitem.lookup
  (getItem_tuple (j:=j) (Q:=fun r s'=>r=w/\EP X pins Z Q r s') pl (by omega) (by omega) (by rw[Of,<- hl];exact h1) (by simpa using ew) ⟨rfl,fin⟩) hs
theorem ZsT:IxR X ZvU:=by
 intro value slice pins s Z H x y v u Q I rx ry h hs;obtain ⟨z,i,c,rfl,rfl,hz,he,q⟩:=h;obtain ⟨t,rfl⟩:=rx;obtain ⟨t',rfl⟩:=ry;obtain ⟨j,h1,h2,h3,h4,h5⟩:=Zh9 he;have hl:z.cps.toList.length=z.length:=by simp [Str.length]
 rw [hl] at h1 h4 h5;have hn:=Zcu;exact tail_any (typeIs_str s z t) slot_str_getitem.lookup (getItem_str (c:=c) (by
   have e1:Wy (i < -(2 ^ 63:Int))=Wx:=decide_eq_false (by omega);have e2:Wy (i ≥ 2 ^ 63)=Wx:=decide_eq_false (by omega);rw [e1,e2,Bool.or_false]) (by rw [h1];simpa using h2) ⟨.str ⟨#[c]⟩,H,I.tok _,⟨_,rfl⟩,q⟩) hs
theorem ZjZ(its:List Yj)(n j:Nat)(u:Yj):Obj.mapSeq (·.setIfInBounds j u) {cls:=.type "list",data:=.seq its.toArray n}={cls:=.type "list",data:=.seq (its.set j u).toArray n}:=by simp[Obj.mapSeq]
theorem Inv.lst{pins:List (Yi×Obj)}{Z:St}{H:Hp}{s:Yb}{p:Yi}{xs:List V}(I:Inv X pins Z H s)(h:H p=Wu (.lst xs)):
 ∃(its:List Yj) (n:Nat),Zl xs its/\s.heap.get? p=Wu {cls:=.type "list",data:=.seq its.toArray n}/\xs.length<=sizeLine:=by
 obtain⟨z,its,n,r,e⟩:=I.hok p _ h;exact⟨its,n,r,e,z⟩
theorem Inv.lstUpd{pins:List (Yi×Obj)}{Z:St}{H:Hp}{s:Yb}{p:Yi}{xs ys:List V}{its its':List Yj}{n n':Nat}{f:Obj->Obj}(I:Inv X pins Z H s)(h:H p=Wu (.lst xs))
 (ho:s.heap.get? p=Wu {cls:=.type "list",data:=.seq its.toArray n}) (hf:f {cls:=.type "list",data:=.seq its.toArray n}={cls:=.type "list",data:=.seq its'.toArray n'}) (r:Zl ys its') (hz:ys.length<=sizeLine) (t:Nat) :
 Inv X pins Z (upd H p (.lst ys)) {s with heap:=s.heap.update p f,toks:=t}:=by
 have e:(s.heap.update p f).get? p=Wu {cls:=.type "list",data:=.seq its'.toArray n'}:=by rw[YW f ho (by rw[hf]<;>rfl),hf]
 refine I.write (x:=p) (e:=p) (by rw[h];trivial) (.inl rfl) (fun b u hb q=>(YN _ _ (YL hb)).trans q) ⟨_,e⟩ ?_;exact⟨hz,its',n',r,e⟩
def Zt4:V->V->V->Hp->(Hp->Prop)->Prop:=fun o i v H Q=>∃p xs k j,o=.ref p/\i=.int k/\H p=Wu (.lst xs)/\ixN xs.length k=Wu j/\Q (upd H p (.lst (xs.set j v)))
theorem set_list:ZqX X Zt4:=by
 intro pins s Z H o i v ov iv u Q I ro ri rv h;obtain⟨p,xs,k,j,rfl,rfl,hp,hj,q⟩:=h;cases ro;obtain⟨t,rfl⟩:=ri;obtain⟨its,n,r,ho,hz⟩:=I.lst hp;obtain⟨h1,h2,h3,h4⟩:=Zlt hj;have hl:=r.length;have hn:=Zcu;have I':Inv X pins Z (upd H p (.lst (xs.set j v))) {s with heap:=s.heap.update p (Obj.mapSeq (·.setIfInBounds j u))}:=I.lstUpd hp ho (ZjZ its n j u) (r.set rv j) (by rw[List.length_set];exact hz) s.toks
 by_cases h0:0<=k
 . have hk:k.toNat=j:=by rw[seqIndex_of h0 h4]at h1;exact YF h1
   exact PySem.W.ki_setAt ho h0 (by omega) (by rw[Of,<- hl];exact h4) (by rw[hk];exact⟨_,I',q⟩)
 . have hk:(k+(its.toArray.size:Int)).toNat=j:=by rw[seqIndex_neg (by omega) h3]at h1;rw[Of,<- hl];exact YF h1
   exact PySem.W.ki_setBack ho (by omega) (by rw[Of,<- hl];exact h3) (by omega) (by rw[hk];exact⟨_,I',q⟩)
theorem Zhp(lo hi:Option Int)(n:Nat):(sliceBounds lo hi Wv n).1=((HT.sIx n 0 lo:Nat):Int)/\(sliceBounds lo hi Wv n).2.1=((HT.sIx n n hi:Nat):Int)/\(sliceBounds lo hi Wv n).2.2=1:=by
 refine⟨?_,?_,rfl⟩
 . cases lo with
   |none=>simp[sliceBounds,HT.sIx]
   |some i=>
    simp only[sliceBounds,HT.sIx,Option.getD_none,show(1:Int) > 0 by decide,if_true];by_cases h:i<0
    . simp only[h,if_true]<;>omega
    . simp only[h,if_false]<;>omega
 . cases hi with
   |none=>simp[sliceBounds,HT.sIx]
   |some i=>
    simp only[sliceBounds,HT.sIx,Option.getD_none,show(1:Int) > 0 by decide,if_true];by_cases h:i<0
    . simp only[h,if_true]<;>omega
    . simp only[h,if_false]<;>omega
theorem Zgv(its:List Yj)(lo hi:Option Int):slicePick its.toArray lo hi Wv=((its.drop (HT.sIx its.length 0 lo)).take (HT.sIx its.length its.length hi - HT.sIx its.length 0 lo)).toArray:=by obtain⟨h1,h2,h3⟩:=Zhp lo hi its.toArray.size;unfold slicePick;rw[h1,h2,h3];simp only[sliceRange_one,pick_run,Of]<;>rfl
def ZvR(K:Yk):V->Option Int->Option Int->Hp->VK->Prop:=fun x lo hi H Q=>∃a xs,x=.ref a/\SqL K H a xs/\∀p,H p=Wv->Q (.ref p) (upd H p (.lst (Zjc xs lo hi)))
theorem Zpl:SlR X (ZvR X.K):=by intro pins s Z H x v vl vu lo hi sl Q I rx hs pl pu h;obtain⟨a,xs,rfl,hx,q⟩:=h;cases rx;obtain⟨its,r,ht,hz⟩:=I.list hx;have hlen:=r.length;refine⟨"list",_,slot_list_getitem.lookup,ht.isList.typeIs,?_⟩;refine wpAny_getItem_list_slice ht.isList hs pl pu .none (by simp) ?_ (by rw[Of]<;>omega);rw[Zgv,<- hlen];refine⟨.ref s.heap.objs.size,_,I.laid (t':=s.toks) (o:=.lst (Zjc xs lo hi)) (fun b ob q=>Od _ q) (Oq _) ?_,rfl,q _ (I.hok.fresh (Oq _))⟩;exact⟨OE (Ze6 xs lo hi) hz,_,0,(r.drop (HT.sIx xs.length 0 lo)).take (HT.sIx xs.length xs.length hi - HT.sIx xs.length 0 lo),Oj _ rfl⟩
noncomputable def ZdM:V->Bool
 |.non=>Ww
 |.bl _=>Ww
 |.int _=>Ww
 |.str _=>Ww
 |_=>Wx
noncomputable def eqV:V->V->Bool
 |.non,.non=>Ww
 |.bl a,.bl b=>a==b
 |.bl a,.int b=>(if a then 1 else 0)==b
 |.int a,.bl b=>a==(if b then 1 else 0)
 |.int a,.int b=>a==b
 |.str a,.str b=>a==b
 |_,_=>Wx
theorem Zs8{A:YH}{s:Yb}{y x:V}{u v:Yj}(ry:RelV y u)(rx:RelV x v)(fy:ZdM y=Ww)(fx:ZdM x=Ww):SeqAt.EqAt A s u v (eqV y x):=by
 cases y with
 |non=>
  cases ry;cases x with
  |non=>cases rx;exact SeqAt.EqAt.same _
  |bl b=>cases rx;exact SeqAt.EqAt.none_bool b
  |int b=>obtain⟨t,rfl⟩:=rx;exact SeqAt.EqAt.none_int b t
  |str b=>obtain⟨t,rfl⟩:=rx;exact SeqAt.EqAt.none_str b t
  |_=>exact absurd (show Wx=Ww from fx) Ow
 |bl a=>
  cases ry;cases x with
  |non=>cases rx;exact SeqAt.EqAt.bool_none a
  |bl b=>cases rx;exact SeqAt.EqAt.bool_bool a b
  |int b=>obtain⟨t,rfl⟩:=rx;exact SeqAt.EqAt.bool_int a b t
  |str b=>obtain⟨t,rfl⟩:=rx;exact SeqAt.EqAt.bool_str a b t
  |_=>exact absurd (show Wx=Ww from fx) Ow
 |int a=>
  obtain⟨t',rfl⟩:=ry;cases x with
  |non=>cases rx;exact SeqAt.EqAt.int_none a t'
  |bl b=>cases rx;exact SeqAt.EqAt.int_bool a t' b
  |int b=>obtain⟨t,rfl⟩:=rx;exact SeqAt.EqAt.int_int a t' b t
  |str b=>obtain⟨t,rfl⟩:=rx;exact SeqAt.EqAt.int_str a t' b t
  |_=>exact absurd (show Wx=Ww from fx) Ow
 |str a=>
  obtain⟨t',rfl⟩:=ry;cases x with
  |non=>cases rx;exact SeqAt.EqAt.str_none a t'
  |bl b=>cases rx;exact SeqAt.EqAt.str_bool a t' b
  |int b=>obtain⟨t,rfl⟩:=rx;exact SeqAt.EqAt.str_int a t' b t
  |str b=>obtain⟨t,rfl⟩:=rx;exact SeqAt.EqAt.str_str a t' b t
  |_=>exact absurd (show Wx=Ww from fx) Ow
 |_=>exact absurd (show Wx=Ww from fy) Ow
noncomputable def eqU(x:V)(u:Yj):Bool:=match u with
 |.none=>eqV .non x
 |.bool b=>eqV (.bl b) x
 |.int i _=>eqV (.int i) x
 |.str z _=>eqV (.str z) x
 |_=>Wx
theorem ZoD{x y:V}{u:Yj}(r:RelV y u)(f:ZdM y=Ww):eqU x u=eqV y x:=by
 cases y with
 |non=>cases r;rfl
 |bl b=>cases r;rfl
 |int i=>obtain⟨t,rfl⟩:=r;rfl
 |str z=>obtain⟨t,rfl⟩:=r;rfl
 |_=>exact absurd (show Wx=Ww from f) Ow
theorem Zez{x:V}:∀{xs:List V}{us:List Yj},Zl xs us->xs.all ZdM=Ww->us.any (eqU x)=xs.any fun y=>eqV y x
 |_,_,.nil,_=>rfl
 |y::xs,u::us,.cons r t,f=>by rw[List.all_cons,Oa]at f;rw[We,We,ZoD r f.1,Zez t f.2]
theorem ZcZ{A:YH}{s:Yb}{x:V}{v:Yj}(rx:RelV x v)(fx:ZdM x=Ww):∀{xs:List V}{us:List Yj},Zl xs us->xs.all ZdM=Ww->∀u∈us,SeqAt.EqAt A s u v (eqU x u)
 |_,_,.nil,_=>fun u hu=>by cases hu
 |y::xs,u::us,.cons r t,f=>fun u' hu=>by
  rw[List.all_cons,Oa]at f;rcases O2.mp hu with rfl|hu
  . rw[ZoD r f.1];exact Zs8 r rx f.1 fx
  . exact ZcZ rx fx t f.2 u' hu
noncomputable def inV(x:V)(xs:List V):Bool:=xs.any fun y=>eqV y x
noncomputable def rIn(K:Yk)(neg:Bool):R2:=fun x y H Q=>∃p xs,y=.ref p/\(SqL K H p xs\/SqT K H p xs)/\ZdM x=Ww/\xs.all ZdM=Ww/\Q (.bl (if neg then !inV x xs else inV x xs)) H
theorem Zmf:OpR X (YM .In) (rIn X.K Wx):=by
 intro pins s Z H x y v u Q I rx ry h;obtain⟨p,xs,rfl,hq,fx,fs,q⟩:=h;cases ry;rcases hq with hq|hq
 . obtain⟨its,r,pl,hz⟩:=I.list hq;refine SeqAt.in_listAt (eqU x) pl.isList (fun w hw=>ZcZ rx fx r fs w (by simpa using hw)) ⟨.bl _,H,I,rfl,?_⟩;rw[show its.toArray.any (eqU x)=its.any (eqU x) by simp,Zez r fs];exact q
 . obtain⟨its,r,pl,hz⟩:=I.tuple hq;refine SeqAt.in_tupleAt (eqU x) pl (fun w hw=>ZcZ rx fx r fs w (by simpa using hw)) ⟨.bl _,H,I,rfl,?_⟩;rw[show its.toArray.any (eqU x)=its.any (eqU x) by simp,Zez r fs];exact q
theorem Zhx:OpR X (YM .NotIn) (rIn X.K Ww):=by
 intro pins s Z H x y v u Q I rx ry h;obtain⟨p,xs,rfl,hq,fx,fs,q⟩:=h;cases ry;rcases hq with hq|hq
 . obtain⟨its,r,pl,hz⟩:=I.list hq;refine SeqAt.notIn_listAt (eqU x) pl.isList (fun w hw=>ZcZ rx fx r fs w (by simpa using hw)) ⟨.bl _,H,I,rfl,?_⟩;rw[show its.toArray.any (eqU x)=its.any (eqU x) by simp,Zez r fs];exact q
 . obtain⟨its,r,pl,hz⟩:=I.tuple hq;refine SeqAt.notIn_tupleAt (eqU x) pl (fun w hw=>ZcZ rx fx r fs w (by simpa using hw)) ⟨.bl _,H,I,rfl,?_⟩;rw[show its.toArray.any (eqU x)=its.any (eqU x) by simp,Zez r fs];exact q
theorem ZhY:Zcr X (.builtin "len") (fun xs H Q=>∃p ys,xs=[.ref p]/\(SqL X.K H p ys\/SqT X.K H p ys)/\Q (.int ys.length) H):=by
 intro pins s Z H xs us Q I r h;obtain⟨p,ys,rfl,hq,q⟩:=h;obtain⟨u,rfl,rx⟩:=vals1 r;cases rx;have hn:=Zcu;rcases hq with hq|hq
 . obtain⟨its,r',pl,hz⟩:=I.list hq;have hlen:=r'.length;exact Calls.call_len_list pl.isList (by simp only[Of]<;>omega) ⟨.int ys.length,H,I.tok _,⟨s.toks+1,by rw[Of,hlen]⟩,q⟩
 . obtain⟨its,r',pl,hz⟩:=I.tuple hq;have hlen:=r'.length;exact len_tuple pl (by simp only[Of]<;>omega) ⟨.int ys.length,H,I.tok _,⟨s.toks+1,by rw[Of,hlen]⟩,q⟩
theorem ZhX:Zcr X (.builtin "len") (fun xs H Q=>∃z,xs=[.str z]/\z.length<=sizeLine/\Q (.int z.length) H):=by intro pins s Z H xs us Q I r h;obtain⟨z,rfl,hz,q⟩:=h;obtain⟨u,rfl,t,rfl⟩:=vals1 r;have hn:=Zcu;exact len_str (by omega) ⟨.int z.length,H,I.tok _,⟨_,rfl⟩,q⟩
theorem ZdO:Zcr X (.type "tuple") (fun xs H Q=>∃p ys,xs=[.ref p]/\((SqL X.K H p ys/\∀l,H l=Wv->Q (.ref l) (upd H l (.tup ys)))\/(SqT X.K H p ys/\Q (.ref p) H))):=by
 intro pins s Z H xs us Q I r h;obtain⟨p,ys,rfl,h⟩:=h;obtain⟨u,rfl,rx⟩:=vals1 r;cases rx;rcases h with ⟨hq,q⟩|⟨hq,q⟩
 . obtain⟨its,r',pl,hz⟩:=I.list hq;have hlen:=r'.length;refine call_tuple_list pl.isList (fun h' kp=>?_) (by simp only[Of]<;>omega);have I1:Inv X pins Z H {s with heap:=h'}:=I.kept (t':=s.toks) kp;have I2:Inv X pins Z (upd H h'.objs.size (.tup ys)) {s with heap:=h'.push {cls:=.type "tuple",data:=.seq its.toArray}}:=I1.laid (t':=s.toks) (fun b o e=>Od _ e) (Oq _) (show Zam X.prog X.w _ _ _ (.tup ys)from⟨hz,its,r',Zbp.fresh _ _⟩)
   exact⟨.ref h'.objs.size,_,I2,rfl,q _ (I1.hok.fresh (Oq _))⟩
 . obtain⟨its,r',pl,hz⟩:=I.tuple hq;exact call_tuple_same pl ⟨.ref p,H,I,rfl,q⟩
def tyV(K:Yk)(T:String)(x:V)(H:Hp):Prop:=match x with
 |.str _=>T = "str"
 |.int _=>T = "int"
 |.ref p=>(T = "list" /\ ∃xs,SqL K H p xs)\/(T = "tuple" /\ ∃o,K.lookup p=Wu o/\o.cls=.type "tuple" /\ o.dict=Wv) \/
  (T = "dict" /\ ((∃kvs,H p=Wu (.dK kvs))\/∃kvs,H p=Wu (.dT kvs)))\/(T = "set" /\ ∃S_ n,H p=Wu (.set S_ n))
 |_=>False
theorem ZmR{pins:List (Yi×Obj)}{Z:St}{H:Hp}{s:Yb}{T:String}{x:V}{v:Yj}(I:Inv X pins Z H s)(r:RelV x v)(ty:tyV X.K T x H):
 s.TypeIs v T/\∀a,v=.ref a->∃ob,s.heap.get? a=Wu ob/\ob.dict=Wv:=by
 cases x with
 |str z=>obtain⟨t,rfl⟩:=r;cases (show T = "str" from ty);exact⟨typeIs_str s z t,fun _ e=>nomatch e⟩
 |int i=>obtain⟨t,rfl⟩:=r;cases (show T = "int" from ty);exact⟨typeIs_int s i t,fun _ e=>nomatch e⟩
 |ref p=>
  cases r;rcases ty with ⟨rfl,xs,hq⟩|⟨rfl,o,hk,hc,hd⟩|⟨rfl,hk⟩|⟨rfl,S_,n,hk⟩
  . obtain⟨its,_,pl,_⟩:=I.list hq;refine⟨pl.isList.typeIs,fun a e=>?_⟩;cases e;obtain⟨o,n,e,c,hd,_⟩:=pl;exact⟨o,e,hd⟩
  . refine⟨⟨o,I.kIn p o hk,hc⟩,fun a e=>?_⟩;cases e;exact⟨o,I.kIn _ o hk,hd⟩
  . have z:∃o,s.heap.get? p=Wu o/\o.ExactDict:=by
     rcases hk with ⟨kvs,hk⟩|⟨kvs,hk⟩
     . obtain⟨_,_,_,_,o,_,_,e,ex,_⟩:=I.hok p _ hk;exact⟨o,e,ex⟩
     . obtain⟨_,_,_,_,o,_,_,e,ex,_⟩:=I.hok p _ hk;exact⟨o,e,ex⟩
    obtain⟨o,e,ex⟩:=z;refine⟨⟨o,e,ex.1⟩,fun a e2=>?_⟩;cases e2;exact⟨o,e,ex.2.1⟩
  . obtain⟨o,_,_,_,e,ex,_⟩:=I.hok p _ hk;refine⟨⟨o,e,ex.1⟩,fun a e2=>?_⟩;cases e2;exact⟨o,e,ex.2.1⟩
 |_=>exact False.elim ty
noncomputable def ZvE(K:Yk)(T:String)(r:V->List V->Hp->VK->Prop)(to:TE):TE:=fun Z H Q=>to Z H fun x H1=>tyV K T x H1/\r x [] H1 Q
noncomputable def tBM(K:Yk)(T:String)(r:V->List V->Hp->VK->Prop)(to:TE)(t:TA):TE:=fun Z H Q=>to Z H fun x H1=>tyV K T x H1/\t Z H1 fun xs H2=>r x xs H2 Q
variable {o e:Expr}{es:List Expr}{to:TE}{t:TA}{name:Str}{apos cpos:Pos}{T id:String}{r:V->List V->Hp->VK->Prop}
theorem Zsm(pa:PlainAttrs T)(slot:Slot T name id)(hty:typeOf (.builtin id)=pure (.type "method_descriptor"))(hm:MtR X id r)(ho:PE X o to)
 (hbase:attributeBase o name X.env (eval o X.env)=eval o X.env:=by rfl) (hline:(apos.endLine==cpos.line)=Ww:=by rfl):PE X (.Call (.Attribute o name apos) [] [] cpos) (ZvE X.K T r to):=by
 intro pins s Z H Q I h;refine wpAny_Call_method0_late hbase hline (thn (ho pins s Z H _ I h) fun v s1 ⟨x,H1,I1,r1,ty,q1⟩=>?_);obtain⟨h1,h2⟩:=ZmR I1 r1 ty;exact⟨T,id,pa,slot,hty,h1,h2,Calls.callWith_builtin rfl (PySem.evalArgs_none (hm pins s1 Z H1 x [] v [] Q I1 r1 .nil q1))⟩
theorem Zui(pa:PlainAttrs T)(slot:Slot T name id)(hty:typeOf (.builtin id)=pure (.type "method_descriptor"))(hm:MtR X id r)(ho:PE X o to)(ha:PA X (e::es) t)
 (hbase:attributeBase o name X.env (eval o X.env)=eval o X.env:=by rfl)
 (hfew:((YS cpos (YA (e::es) X.env)).all (fun x=>!x.1)&&(backToKw cpos (Wb [] X.env)).all (fun x=>x.1.isSome)
  && Wy ((e::es).length+([]:List Keyword).length+(if ([]:List Keyword).isEmpty then 0 else 1)<30))=Ww:=by rfl)
 (hline:(apos.endLine==cpos.line)=Ww:=by rfl) (hs:YA (e::es) X.env=(Wx,eval e X.env)::YA es X.env:=by rfl) (hplain:(YS cpos (YA es X.env)).any (·.1)=Wx:=by rfl) :
 PE X (.Call (.Attribute o name apos) (e::es) [] cpos) (tBM X.K T r to t):=by
 intro pins s Z H Q I h;refine wpAny_Call_method_late hbase hfew hline rfl (thn (ho pins s Z H _ I h) fun v s1 ⟨x,H1,I1,r1,ty,q1⟩=>?_);obtain⟨h1,h2⟩:=ZmR I1 r1 ty;refine⟨T,id,pa,slot,hty,h1,h2,?_⟩;have hA:=ha cpos pins s1 Z H1 _ I1 q1;rw[hs]at hA ⊢;refine Calls.callWith_builtin (by show(Wx || (YS cpos (YA es X.env)).any (·.1))=Wx;rw[hplain]<;>rfl) (Calls.evalArgs_plain ?_);exact thn hA fun us s2 ⟨vs,H2,I2,r2,q2⟩=>hm pins s2 Z H2 x vs v us Q I2 r1 r2 q2
end
def MtM(X:Cx)(id:String)(r:V->List V->Hp->VK->Prop):Prop:=
 ∀(pins:List (Yi×Obj)) (s:Yb) (Z:St) (H:Hp) (x:V) (xs:List V) (v:Yj) (us:List Yj) (Q:VK),Inv X pins Z H s->RelV x v->Zl xs us->r x xs H Q ->
  YB (model X.prog X.w) X.A (call (.builtin id) (v::us)) (EP X pins Z Q) X.xe s
theorem Zl.one:∀{x:V}{us:List Yj},Zl [x] us->∃u,us=[u]/\RelV x u
 |_,_,.cons r .nil=>⟨_,rfl,r⟩
theorem Zl.zero:∀{us:List Yj},Zl [] us->us=[]
 |_,.nil=>rfl
theorem Zl.dropLast{xs:List V}{us:List Yj}(h:Zl xs us):Zl xs.dropLast us.dropLast:=by
 induction h with
 |nil=>exact .nil
 |cons r t ih=>
  cases t with
  |nil=>exact .nil
  |cons q t'=>exact .cons r ih
theorem Zl.reverse{xs:List V}{us:List Yj}(h:Zl xs us):Zl xs.reverse us.reverse:=by
 induction h with
 |nil=>exact .nil
 |cons r t ih=>rw[List.reverse_cons,List.reverse_cons];exact Zl.append ih (.cons r .nil)
theorem Zkz{α:Type}(l:List α):l.eraseIdx (l.length - 1)=l.dropLast:=by
 induction l with
 |nil=>rfl
 |cons a r ih=>
  cases r with
  |nil=>rfl
  |cons b r=>
   have e:(a::b::r).length - 1=((b::r).length - 1)+1:=by have h1:(a::b::r).length=r.length+2:=rfl;have h2:(b::r).length=r.length+1:=rfl;omega
   rw[e,List.eraseIdx_cons_succ,ih]
   all_goals rfl
section
variable {X:Cx}{pins:List (Yi×Obj)}{Z:St}{H:Hp}{s:Yb}{l b:Yi}{xs ys zs:List V}
theorem Inv.lset{its its':List Yj}{n:Nat}{f:Array Yj->Array Yj}{t':Nat}(I:Inv X pins Z H s)(hH:H l=Wu (.lst xs))
 (e:s.heap.get? l=Wu {cls:=.type "list",data:=.seq its.toArray n}) (hf:f its.toArray=its'.toArray) (hv:Zl ys its') (hz:ys.length<=sizeLine) :
 Inv X pins Z (upd H l (.lst ys)) {s with heap:=s.heap.update l (Obj.mapSeq f),toks:=t'}:=by
 have q:=PySem.IsL.update e f;rw[hf]at q;refine I.write (x:=l) (e:=l) (by rw[hH];exact trivial) (.inl rfl) (fun b' u hb hu=>(YN s.heap (Obj.mapSeq f) (YL hb)).trans hu) ⟨_,q⟩ ?_;exact⟨hz,its',_,hv,q⟩
theorem Inv.lnew{its:List Yj}{t':Nat}(I:Inv X pins Z H s)(hv:Zl ys its)(hz:ys.length<=sizeLine):
 Inv X pins Z (upd H s.heap.objs.size (.lst ys)) {s with heap:=s.heap.push {cls:=.type "list",data:=.seq its.toArray},toks:=t'}:=
 I.laid (fun _ _ q=>Od _ q) (Oq _) ⟨hz,its,0,hv,Oj _ rfl⟩
theorem Inv.fresh(I:Inv X pins Z H s):H s.heap.objs.size=Wv:=I.hok.fresh (Oq _)
theorem Inv.lstM(I:Inv X pins Z H s)(hH:H l=Wu (.lst xs)):xs.length<=sizeLine/\∃(its:List Yj) (n:Nat),Zl xs its/\xs.length=its.length/\s.heap.get? l=Wu {cls:=.type "list",data:=.seq its.toArray n}:=by obtain⟨z,its,n,r,e⟩:=I.hok l _ hH;exact⟨z,its,n,r,r.length,e⟩
theorem ZiC{n:Nat}(h:n<=sizeLine):Wp n=Wx:=by unfold Wp;exact decide_eq_false (by omega)
end
section
variable {X:Cx}
def Zpz:V->List V->Hp->VK->Prop:=fun x vs H Q=>∃l xs y,x=.ref l/\vs=[y]/\H l=Wu (.lst xs)/\xs.length<sizeLine/\Q .non (upd H l (.lst (xs++[y])))
theorem ZgX:MtM X "list.append" Zpz:=by intro pins s Z H x vs v us Q I rx rv h;obtain⟨l,xs,y,rfl,rfl,hH,hz,q⟩:=h;cases rx;obtain⟨u,rfl,ru⟩:=rv.one;obtain⟨z,its,n,r,hl,e⟩:=I.lstM hH;refine call_meets F.slot_list_append ⟨_,e,rfl⟩ F.entry_list_append (F.args_list_append_2 _ _) (PySem.list_append l its.toArray n u (by rw[Of];omega)) ⟨e,?_⟩;refine⟨.non,_,I.lset (its':=its++[u]) hH e (by simp) (r.append (.cons ru .nil)) ?_,rfl,q⟩;rw[OA,List.length_singleton];omega
def Zpy:V->List V->Hp->VK->Prop:=fun x vs H Q=>∃l b xs zs,x=.ref l/\vs=[.ref b]/\H l=Wu (.lst xs)/\H b=Wu (.lst zs)/\xs.length+zs.length<=sizeLine/\Q .non (upd H l (.lst (xs++zs)))
theorem Zmi:MtM X "list.extend" Zpy:=by
 intro pins s Z H x vs v us Q I rx rv h;obtain⟨l,b,xs,zs,rfl,rfl,hH,hB,hz,q⟩:=h;cases rx;obtain⟨u,rfl,ru⟩:=rv.one;cases ru;obtain⟨z,its,n,r,hl,e⟩:=I.lstM hH;obtain⟨z2,its2,n2,r2,hl2,e2⟩:=I.lstM hB;have hsz:its.toArray.size+its2.toArray.size<=sizeLine:=by rw[Of,Of];omega
 have hlong:¬ (!its.toArray.isEmpty&&Wp (its.toArray.size+its2.toArray.size))=Ww:=by rw[ZiC hsz,Bool.and_false];exact Ow
 refine call_meets F.slot_list_extend ⟨_,e,rfl⟩ F.entry_list_extend (F.args_list_extend_2 _ _)
  (AutoSeq1.list_extend_list_list_0 l its.toArray n b its2.toArray n2 hlong (by rw[Of];omega) (by omega)) ⟨e,e2,?_⟩
 refine⟨.non,_,I.lset (its':=its++its2) hH e (by simp) (r.append r2) ?_,rfl,q⟩;rw[OA];omega
def ZvS:V->List V->Hp->VK->Prop:=fun x vs H Q=>∃l xs y,x=.ref l/\vs=[]/\H l=Wu (.lst xs)/\xs[xs.length - 1]? = Wu y/\Q y (upd H l (.lst xs.dropLast))
theorem ZsC:MtM X "list.pop" ZvS:=by
 intro pins s Z H x vs v us Q I rx rv h;obtain⟨l,xs,y,rfl,rfl,hH,hy,q⟩:=h;cases rx;have hus:=rv.zero;subst hus;obtain⟨z,its,n,r,hl,e⟩:=I.lstM hH;obtain⟨u,hu,ru⟩:=r.get hy;have hy':its.toArray[its.toArray.size - 1]? = Wu u:=by show its.toArray[its.length - 1]? = Wu u;rw[<- Array.getElem?_toList,<- hl];exact hu
 refine call_meets F.slot_list_pop ⟨_,e,rfl⟩ F.entry_list_pop (F.args_list_pop_1 _) (MeetsSeq.list_pop_last l its.toArray n u hy' (by rw[Of];omega)) ⟨e,?_⟩;refine⟨y,_,I.lset (its':=its.dropLast) hH e ?_ r.dropLast ?_,ru,q⟩
 . show its.toArray.eraseIdxIfInBounds (its.toArray.size - 1)=its.dropLast.toArray;rw[Of,List.eraseIdxIfInBounds_toArray,Zkz]
 . rw[List.length_dropLast];omega
def Znm:V->List V->Hp->VK->Prop:=fun x vs H Q=>∃l xs,x=.ref l/\vs=[]/\H l=Wu (.lst xs)/\Q .non (upd H l (.lst xs.reverse))
theorem ZjX:MtM X "list.reverse" Znm:=by intro pins s Z H x vs v us Q I rx rv h;obtain⟨l,xs,rfl,rfl,hH,q⟩:=h;cases rx;have hus:=rv.zero;subst hus;obtain⟨z,its,n,r,hl,e⟩:=I.lstM hH;refine call_meets F.slot_list_reverse ⟨_,e,rfl⟩ F.entry_list_reverse (F.args_list_reverse_1 _) (AutoSeq1.list_reverse_list_0 l its.toArray n (by rw[Of];omega)) ⟨e,?_⟩;refine⟨.non,_,I.lset (its':=its.reverse) hH e (by simp) r.reverse ?_,rfl,q⟩;rw[List.length_reverse];omega
def Zr1:V->List V->Hp->VK->Prop:=fun x vs H Q=>∃l xs,x=.ref l/\vs=[]/\H l=Wu (.lst xs)/\Q .non (upd H l (.lst []))
theorem ZnU:MtM X "list.clear" Zr1:=by intro pins s Z H x vs v us Q I rx rv h;obtain⟨l,xs,rfl,rfl,hH,q⟩:=h;cases rx;have hus:=rv.zero;subst hus;obtain⟨z,its,n,r,hl,e⟩:=I.lstM hH;refine call_meets F.slot_list_clear ⟨_,e,rfl⟩ F.entry_list_clear (F.args_list_clear_1 _) (AutoSeq1.list_clear_list_0 l its.toArray n (by rw[Of];omega)) ⟨e,?_⟩;exact⟨.non,_,I.lset (its':=[]) (ys:=[]) hH e rfl .nil (Yy _),rfl,q⟩
noncomputable def ZvX:R2:=fun x y H Q=>∃l b xs zs,x=.ref l/\y=.ref b/\H l=Wu (.lst xs)/\H b=Wu (.lst zs)/\xs.length+zs.length<=sizeLine/\∀p,H p=Wv->Q (.ref p) (upd H p (.lst (xs++zs)))
theorem Zsu:OpR X (binaryOp .Add) ZvX:=by
 intro pins s Z H x y v u Q I rx ry h;obtain⟨l,b,xs,zs,rfl,rfl,hH,hB,hz,q⟩:=h;cases rx;cases ry;obtain⟨z,its,n,r,hl,e⟩:=I.lstM hH;obtain⟨z2,its2,n2,r2,hl2,e2⟩:=I.lstM hB;refine PySem.P.add_list e e2 ?_ (by rw[Of,Of];omega);have ea:its.toArray++its2.toArray=(its++its2).toArray:=by simp
 rw[ea];exact⟨.ref _,_,I.lnew (t':=s.toks) (r.append r2) (by rw[OA];omega),rfl,q _ I.fresh⟩
end
end L2
namespace Att
open PySem PySem.W PySem.Calls PyProof.Rows
theorem Zfc{P:Params}{h:YG}:∀(ns:List Int) (vs:List Yj),WellAll P h vs (ns.map WData.int)->IntsAre vs ns:=by
 intro ns;induction ns with
 |nil=>intro vs w;rw[Oy]at w;cases w;exact .nil
 |cons n ns ih=>
  intro vs w;rw[Op]at w;cases w with
  |cons a b=>cases a;exact .cons _ _ (ih _ b)
theorem ZlW{l:OpenLaw}{n:Nat}(hn:l.most=Wu n){P:Params}{h:YG}{args:List WData}{vals:List Yj}
 (hpre:l.row.toRowW.claim.pre args=Ww) (hwl:WellAll P h vals args) :
 ∃a vs ns,vals=[YD a]/\args=[WData.list (ns.map WData.int)]/\h.get? a=Wu {cls:=.type "list",data:=.seq vs.toArray}/\IntsAre vs ns/\ns.length<=n:=by
 have hsh:WShape.hasAll [] args [.list .int]=Ww:=(pre_splitW hpre).1;have hc:l.pre.holds [] {args:=args}=Ww:=(pre_splitW hpre).2;obtain⟨d,r,rfl,h1,h2⟩:=hasAllW_cons hsh;obtain rfl:=hasAllW_nil h2;obtain⟨xs,rfl,h3⟩:=hasW_list h1;obtain⟨ns,rfl⟩:=items_int h3;have hlen:ns.length<=n:=by
  unfold OpenLaw.pre at hc;have h4:(WTm.not (.lt (.lit (.int (n:Int))) (.len (.arg 0)))).holds [] {args:=[.list (ns.map .int)]}=Ww:=by have h4:=(holds_andW hc).1;rw[hn]at h4;exact h4
  have h5:=condW_of h4 (w_not (w_lt w_lit (w_len_list (w_arg rfl))));rw[Yu]at h5;refine Nat.le_of_not_lt fun q=>?_;have q':(n:Int)<((ns.length:Nat):Int):=by omega
  first
   |(rw[decide_eq_true q']at h5;exact absurd h5 (by decide))
   |(simp at h5;omega)
 cases hwl with
 |cons w1 w2=>
  cases w2;cases w1 with
  |list ho hall=>exact⟨_,_,ns,rfl,rfl,ho,Zfc ns _ hall,hlen⟩
theorem Zl6(l:OpenLaw)(args:List WData):l.row.toRowW.claim.post args (.bool Ww) args=Ww:=
 postW_of (r:=l.row.toRowW) (X:=(Ww==Ww))
  (show WShape.has [] (.bool Ww) .bool=Ww by first|rfl|decide|simp[WShape.has,WShape.arms,WShape.armsAll])
  (show(WTm.eq .res (.lit (.bool Ww))).value [] {args:=args,res:=Wu (.bool Ww),after:=args}=Wu (.bool (Ww==Ww))from w_eq_bool (w_res rfl) w_lit) rfl
theorem Zjr{l:OpenLaw}{n:Nat}{q:Yh}{loose:List Str}{XP:(Str->Option Yj)->YG->Prop}{YP:Yg->YG->Prop}{d:DefRec}
 (hn:l.most=Wu n) (hdf:d.params.defaults=[])
 (call:∀(w:Yg) (s₀ s₁:Yb) (mg mb:Str->Option Yj) (fa:Yi) (o:Obj) (pm cd doc:Yj) (a:Yi) (vs:List Yj) (ns:List Int),
  Ground q loose [] XP w s₀ mg mb s₁.heap->YP w s₁.heap ->
  s₁.heap.get? fa=Wu o->o.data=.func (docDef d.name d.params d.body d.scope pm cd doc)->s₁.heap.CodeRec cd d.name->mg d.name=Wu (.ref fa) ->
  s₁.heap.get? a=Wu {cls:=.type "list",data:=.seq vs.toArray}->IntsAre vs ns->ns.length<=n->s₁.gens=#[] ->
  codeAny (model l.prog w) callerA (.call (.ref fa) ⟨[.ref a],[]⟩) (fun r s'=>r=.ok (.ret (.bool Ww))/\OldK s₁.heap s'.heap/\s'.os=s₁.os/\AllBare s'.gens) s₁) :
 WalkO q loose XP YP l.row.toRowW d [] (fun f vs=>PySem.call f vs):=by
 intro w s₀ s₁ mg mb G Y fa o pm cd doc dV kV ho hd hcd hD hmg hg args vals as hpre hlay hrd hwl hlo;obtain rfl:dV=.none:=Dflts.none hD hdf;obtain rfl:kV=.none:=Dflts.noKw hD;obtain⟨a,vs,ns,rfl,rfl,hobj,hints,hlen⟩:=ZlW hn hpre hwl;refine enter_call (codeAny_mono (call w s₀ s₁ mg mb fa o pm cd doc a vs ns G Y ho (fd_plain hd) hcd hmg hobj hints hlen hg) fun r s' hq=>?_);obtain⟨rfl,h2,h3,h4⟩:=hq;exact⟨.inl ⟨.bool Ww,.bool Ww,[],rfl,fun _=>rfl,.bool Ww,Zl6 l _,fun _=>⟨List.Pairwise.nil,fun _ hm=>(nomatch hm)⟩⟩,h2,h3,h4⟩
end Att
namespace L2
open PySem PySem.Spec PyProof.Rows
theorem ZgG:∀{vs:List Yj}{ns:List Int},IntsAre vs ns->Zl (ns.map V.int) vs
 |_,_,.nil=>.nil
 |_,_,.cons n t h=>.cons ⟨t,rfl⟩ (ZgG h)
def ZqY(H:Hp):Prop:=∀b,H b=Wv\/∃o xs,H b=Wu (.frz o (.lst xs))
theorem Zn2{P:Yh}{w:Yg}{K:Yk}{mg mb:Str->Option Yj}{CX:CXT}{k:Nat}{fa a:Yi}{fd:FuncData}{x:Str}{sp:Sp}{s₁:Yb}{vs:List Yj}{ns:List Int}
   (KX:K.In s₁.heap) (hns:s₁.heap.Ns Yd mg) (hb:s₁.heap.Ns builtinsNs mb) (hbb:∀ x:Str,x ≠ "__name__" -> mb x=bootBuiltins x) (hlim:s₁.heap.NoLimit) (hg:s₁.gens=#[])
   (ha:s₁.heap.get? a=Wu {cls:=.type "list",data:=.seq vs.toArray}) (hi:IntsAre vs ns) (hl:ns.length<=sizeLine) (hr:Room k callerA)
   (F:∀ base:YG,K.In base->base.Ns Yd mg->FnOk P w K mg base CX k fa fd [x] sp) (hbind:∀ (s:Yb) (u:Yj),BindsTo s fd ⟨[u],[]⟩ [(x,u)])
   (hsp:∀ H:Hp,ZqY H->SqL K H a (ns.map V.int)->sp [.ref a] H (fun v _=>v=.bl Ww) fun _ _ _=>False)
   (hCX:∀ H e s',CX [] H s₁ (fun _ _ _=>False) e s'->False) :
   codeAny (model P w) callerA (.call (.ref fa) ⟨[.ref a],[]⟩) (fun r s'=>r=.ok (.ret (.bool Ww))/\OldK s₁.heap s'.heap/\s'.os=s₁.os/\AllBare s'.gens) s₁:=by
 have rv:=ZgG hi;have lenV:=hi.length;have core:∀ H:Hp,ZqY H->SqL K H a (ns.map V.int)->HOk P w H s₁.heap->(∀ b,H b≠Wv->b=a)->(H a≠Wv->K.lookup a=Wv) ->
     codeAny (model P w) callerA (.call (.ref fa) ⟨[.ref a],[]⟩) (fun r s'=>r=.ok (.ret (.bool Ww))/\OldK s₁.heap s'.heap/\s'.os=s₁.os/\AllBare s'.gens) s₁:=by
   intro H hO hS hok hA hK;have base_of:∀ {b:Yi}{o:Obj},s₁.heap.get? b=Wu o->H b=Wv->(ZhM s₁.heap H).get? b=Wu o:=fun e n=>Zom e n;have noA:∀ {b:Yi}{o:Obj}{es:Array DictEntry}{ep:Nat},s₁.heap.get? b=Wu o->o.data=.dict es ep->H b=Wv:=fun {b o es ep} e d=>by
     cases q:H b with
     | none=>rfl
     | some u =>
       have e':b=a:=hA b (by rw [q];simp);subst e';rw [ha] at e;cases e;have d':Data.seq vs.toArray _=Data.dict es ep:=d;cases d'
   have nsK:∀ {b:Yi}{m:Str->Option Yj},s₁.heap.Ns b m->(ZhM s₁.heap H).Ns b m:=fun {b m} ⟨o,es,ep,e,d,r⟩=>⟨o,es,ep,base_of e (noA e d),d,r⟩
   have hKb:K.In (ZhM s₁.heap H):=fun b o e=>base_of (KX b o e) (by
     cases q:H b with
     | none=>rfl
     | some u =>
       have e':b=a:=hA b (by rw [q];simp);subst e';rw [hK (by rw [q];simp)] at e;cases e)
   have hM:Mod K mg (ZhM s₁.heap H):=⟨hKb,nsK hns,⟨mb,nsK hb,hbb⟩,let ⟨mc,h1,h2⟩:=hlim;⟨mc,nsK h1,h2⟩⟩
   have e0:Env0 P w K mg (ZhM s₁.heap H) callerA [] s₁ H:=⟨rfl,hM,fun b o e=>Zqd e,Nat.le_of_eq (Zmx _ _),trivial,fun b hb=>absurd (show b∈([]:List Yi) from hb) (by simp),hok,.of_eq hg⟩
   refine codeAny_mono ((F _ hKb (nsK hns)).run callerA [] s₁ H ⟨[.ref a],[]⟩ [.ref a] [.ref a] _ _ hr e0 (hbind s₁ (.ref a)) (.cons rfl .nil) (hsp H hO hS)) fun r s' h=>?_;cases r with
   | error e=>exact (hCX H e s' h).elim
   | ok fl =>
     cases fl with
     | next=>exact False.elim h
     | brk=>exact False.elim h
     | cont=>exact False.elim h
     | ret u =>
       obtain ⟨v,H',os,bare,un,hok',r',q⟩:=h;have q':v=.bl Ww:=q;subst q';obtain rfl:u=Value.bool Ww:=r';refine ⟨rfl,OldK.of_keep fun b o e=>?_,os,bare⟩;cases q:H b with
       | none=>exact un.keep b o e q (by intro z;exact absurd (show b∈([]:List Yi) from z) (by simp)) (by simp)
       | some u =>
         rcases hO b with z|⟨ob,xs,z⟩
         . rw [q] at z;cases z
         . have z2:=un.frzs b ob _ z;obtain ⟨e1,_⟩:=hok b _ z;obtain ⟨e2,_⟩:=hok' b _ z2;rw [e] at e1;cases e1;exact e2
 cases hk:K.lookup a with
 | some o =>
   have e:=KX a o hk;rw [ha] at e;cases e;refine core (fun _=>Wv) (fun _=>.inl rfl) (.inr ⟨_,vs.toArray,_,hk,rfl,rfl,rfl,by rw [Of,lenV];exact hl,by simpa using rv⟩) (fun b u z=>by have z':(Wv:Option HO)=Wu u:=z;cases z') (fun b z=>absurd rfl z) fun z=>absurd rfl z
 | none =>
   refine core (fun b=>if b=a then Wu (.frz {cls:=.type "list",data:=.seq vs.toArray} (.lst (ns.map V.int))) else Wv) (fun b=>?_) (.inl (.inr ⟨{cls:=.type "list",data:=.seq vs.toArray},if_pos rfl⟩)) (fun b u z=>?_) (fun b z=>?_) fun _=>hk
   . by_cases hb:b=a
     . exact .inr ⟨_,_,if_pos hb⟩
     . exact .inl (if_neg hb)
   . by_cases hb:b=a
     . have z':=(if_pos hb).symm.trans z;cases z';subst hb;exact ⟨ha,by rw [Yu];exact hl,vs,_,rv,ha⟩
     . have z':=(if_neg hb).symm.trans z;cases z'
   . by_cases hb:b=a
     . exact hb
     . exact absurd (if_neg hb) z
theorem Zo7{l:PySem.W.OpenLaw}{n k:Nat}{q:Yh}{loose:List Str}{XP:(Str->Option Yj)->YG->Prop}{YP:Yg->YG->Prop}{d:DefRec}{K:Params->Yk}{CX:Yg->CXT}{sp:Yg->Sp}{x:Str}
 (hn:l.most=Wu n) (hn2:n<=sizeLine) (hdf:d.params.defaults=[]) (hr:Room k callerA)
 (hY:∀(w:Yg) (h:YG),YP w h->(K w.params).In h)
 (F:∀(w:Yg) (mg:Str->Option Yj) (fa:Yi) (h:YG),(K w.params).In h->h.Ns Yd mg->mg d.name=Wu (.ref fa) ->
  ∃fd:FuncData,(∀(s:Yb) (u:Yj),BindsTo s fd ⟨[u],[]⟩ [(x,u)]) /\
   ∀base:YG,(K w.params).In base->base.Ns Yd mg->FnOk l.prog w (K w.params) mg base (CX w) k fa fd [x] (sp w))
 (hsp:∀(w:Yg) (H:Hp) (a:Yi) (ns:List Int),ns.length<=n->ZqY H->SqL (K w.params) H a (ns.map V.int)->sp w [.ref a] H (fun v _=>v=.bl Ww) fun _ _ _=>False)
 (hCX:∀(w:Yg) (H:Hp) (s:Yb) (e:Yj) (s':Yb),CX w [] H s (fun _ _ _=>False) e s'->False) :
 PySem.W.WalkO q loose XP YP l.row.toRowW d [] (fun f vs=>PySem.call f vs):=by
 refine Att.Zjr hn hdf fun w s₀ s₁ mg mb fa o pm cd doc a vs ns G Y ho hd hcd hmg hobj hints hlen hg=>?_;have KX:=hY w _ Y;obtain⟨fd,hb,hF⟩:=F w mg fa _ KX G.T.g hmg;exact Zn2 KX G.T.g G.T.b G.T.builtins G.T.nolimit hg hobj hints (OE hlen hn2) hr hF hb (fun H hO hS=>hsp w H a ns hlen hO hS) fun H e s'=>hCX w H s₁ e s'
noncomputable def inClass(s:Stmt)(j:Nat):Stmt:=match s with
 |.ClassDef _ _ _ body _ _ _ _ _ _ _=>body.getD j (.Pass ⟨0,0,0,0⟩)
 |_=>.Pass ⟨0,0,0,0⟩
noncomputable def Zdx(s:Stmt):Arguments:=match s with
 |.FunctionDef _ a _ _ _ _ _ _ _ _=>a
 |_=>{posonlyargs:=[],args:=[],vararg:=Wv,kwonlyargs:=[],kw_defaults:=[],kwarg:=Wv,defaults:=[]}
noncomputable def ZbS(s:Stmt):List Stmt:=match s with
 |.FunctionDef _ _ b _ _ _ _ _ _ _=>b
 |_=>[]
noncomputable def ZT(s:Stmt):Scope:=match s with
 |.FunctionDef _ _ _ _ _ _ sc _ _ _=>sc
 |_=>{kind:=.function,names:=[],isGenerator:=false,isCoroutine:=false}
noncomputable abbrev E0:XK:=fun _ _ _=>False
structure Fun(K:Yk)(x qual:Str)(st:Stmt)(f:Yi)(fd:FuncData):Prop where
 ex:∃(oc:Yj) (od:Option Yi) (kV doc pm:Yj) (an:Option Yi) (cdv ct:Yj) (osl:Array (Option Yj)),
  fd=PySem.W.fnOf x qual (Zdx st) (ZbS st) (ZT st) .none kV doc pm an cdv ct/\K.lookup f=Wu ⟨oc,od,.func fd,osl⟩/\PySem.W.codeIn K cdv qual=Ww
 kp:Wf K (.ref f)=Ww
section
variable {P:Yh}{w:Yg}{K:Yk}{mg:Str->Option Yj}{base:YG}
theorem Fun.binds{x qual:Str}{st:Stmt}{f:Yi}{fd:FuncData}{ps:List Str}(F:Fun K x qual st f fd)
 (h:∀(kV doc pm:Yj) (an:Option Yi) (cdv ct:Yj) (us:List Yj),us.length=ps.length->bindArgs (PySem.W.fnOf x qual (Zdx st) (ZbS st) (ZT st) .none kV doc pm an cdv ct) ⟨us,[]⟩=pure (ps.zip us)):Binds K fd ps []:=by
 obtain⟨oc,od,kV,doc,pm,an,cdv,ct,osl,rfl,lk,hcd⟩:=F.ex;exact .all (h kV doc pm an cdv ct)
theorem Zor{x qual:Str}{st:Stmt}{f:Yi}{oc:Yj}{od an:Option Yi}{osl:Array (Option Yj)}{kV doc pm cdv ct:Yj}(l:K.lookup f=Wu ⟨oc,od,.func (PySem.W.fnOf x qual (Zdx st) (ZbS st) (ZT st) .none kV doc pm an cdv ct),osl⟩)
 (c:PySem.W.codeIn K cdv qual=Ww) (k:Wf K (.ref f)=Ww):Fun K x qual st f (PySem.W.fnOf x qual (Zdx st) (ZbS st) (ZT st) .none kV doc pm an cdv ct):=⟨⟨oc,od,kV,doc,pm,an,cdv,ct,osl,rfl,l,c⟩,k⟩
end
theorem Zkn{A B_:Prop}(h:B_):if Wx=Ww then A else B_:=by rw[if_neg Ow];exact h
theorem Zkm{A B_:Prop}(h:A):if Ww=Ww then A else B_:=by rw[if_pos rfl];exact h
end L2
end
section
set_option tactic.hygienic false
namespace L2
open PySem PySem.Spec PyProof.Rows
section
variable {κ:Type} [DecidableEq κ]
noncomputable def Zd5(kvs:List (κ×V))(k:κ):Option V:=(kvs.find? fun kv=>Wy (kv.1=k)).map (·.2)
noncomputable def putK(kvs:List (κ×V))(k:κ)(v:V):List (κ×V):=if (kvs.any fun kv=>Wy (kv.1=k))=Ww then kvs.map (fun kv=>if kv.1=k then(kv.1,v)else kv)else kvs++[(k,v)]
theorem ZmO{p:κ×V}{r:List (κ×V)}{k:κ}(e:p.1=k):Zd5 (p::r) k=Wu p.2:=by simp[Zd5,Wr,e]
theorem ZmP{p:κ×V}{r:List (κ×V)}{k:κ}(e:¬ p.1=k):Zd5 (p::r) k=Zd5 r k:=by simp[Zd5,Wr,e]
theorem Ze2(kvs:List (κ×V))(k:κ)(v:V):(putK kvs k v).length<=kvs.length+1:=by
 unfold putK;split
 . rw[Yu];omega
 . rw[OA,Os,List.length_nil];omega
theorem ZeA.isSome_eq{o:Option V}{u:Option Yj}(r:ZeA o u):o.isSome=u.isSome:=by
 cases o with
 |none=>cases u with
  |none=>rfl
  |some _=>exact(show False from r).elim
 |some _=>cases u with
  |none=>exact(show False from r).elim
  |some _=>rfl
theorem KV.val{kvs:List (κ×V)}{vs:List (κ×Yj)}(r:KV kvs vs)(k:κ):ZeA (Zd5 kvs k) (valueAt vs k):=by
 unfold KV at r;induction r with
 |nil=>exact True.intro
 |@cons p q ps qs h t ih=>
  obtain⟨h1,h2⟩:=h;by_cases e:p.1=k
  . have e':q.1=k:=h1.symm.trans e;have b:valueAt (q::qs) k=Wu q.2:=by simp[valueAt,Wr,e']
    rw[ZmO e,b];exact h2
  . have e':¬ q.1=k:=fun z=>e (h1.trans z);have b:valueAt (q::qs) k=valueAt qs k:=by simp[valueAt,Wr,e']
    rw[ZmP e,b];exact ih
theorem KV.any{kvs:List (κ×V)}{vs:List (κ×Yj)}(r:KV kvs vs)(k:κ):(kvs.any fun kv=>Wy (kv.1=k))=vs.any fun kv=>Wy (kv.1=k):=by
 unfold KV at r;induction r with
 |nil=>rfl
 |cons h t ih=>rw[We,We,ih,h.1]
theorem KV.repl{kvs:List (κ×V)}{vs:List (κ×Yj)}(r:KV kvs vs)(k:κ){y:V}{u:Yj}(ry:RelV y u):
 KV (kvs.map fun kv=>if kv.1=k then(kv.1,y)else kv) (vs.map fun kv=>if kv.1=k then(kv.1,u)else kv):=by
 unfold KV at r ⊢;induction r with
 |nil=>exact .nil
 |@cons p q ps qs h t ih=>
  rw[Op,Op];refine .cons ?_ ih;obtain⟨h1,h2⟩:=h;by_cases e:p.1=k
  . rw[if_pos e,if_pos (h1.symm.trans e)];exact⟨h1,ry⟩
  . rw[if_neg e,if_neg (fun z=>e (h1.trans z))];exact⟨h1,h2⟩
theorem KV.put{kvs:List (κ×V)}{vs:List (κ×Yj)}(r:KV kvs vs)(k:κ){y:V}{u:Yj}(ry:RelV y u):KV (putK kvs k y) (stored vs k u):=by
 unfold putK stored;rw[r.any k];by_cases e:(vs.any fun kv=>Wy (kv.1=k))=Ww
 . rw[if_pos e,if_pos e];exact r.repl k ry
 . rw[if_neg e,if_neg e];exact Paired.snoc r ⟨rfl,ry⟩
theorem KV.length{kvs:List (κ×V)}{vs:List (κ×Yj)}(r:KV kvs vs):kvs.length=vs.length:=Paired.length r
end
theorem ZiV{P:Yh}{w:Yg}{k:Key}{u:Yj}(r:RelV (kV k) u):(ZG P w).is k u=Ww:=by
 cases k with
 |inl i=>obtain⟨t,e⟩:=(show ∃t,u=Value.int i t from r);subst e;exact ZiH P w i t
 |inr x=>obtain⟨t,e⟩:=(show ∃t,u=Value.str x t from r);subst e;exact ZiG P w x t
section
variable {P:Yh}{w:Yg}{H:Hp}{h:YG}{a:Yi}
theorem ZtV{u:HO}(ok:HOk P w H h)(e:Rd H a u):Zam P w H h a u:=e.ok ok
theorem Zrj{kvs:List (Key×V)}(ok:HOk P w H h)(e:Rd H a (.dK kvs)):kvs.length<=sizeLine/\(a==Ye)=Wx/\∃vs,KV kvs vs/\h.DictOf (ZG P w) a vs:=show Zam P w H h a (.dK kvs)from ZtV ok e
theorem Zrk{kvs:List (Key×V)}(ok:HOk P w H h)(e:H a=Wu (.dK kvs)):kvs.length<=sizeLine/\(a==Ye)=Wx/\∃vs,KV kvs vs/\h.DictOf (ZG P w) a vs:=Zrj ok (.inl e)
end
section
variable {X:Cx}{pins:List (Yi×Obj)}{Z:St}{H:Hp}{s:Yb}{a:Yi}{y v:V}{u r:Yj}{o:Option V}{A:YH}{E:Yj->Yb->Prop}
theorem Inv.big(I:Inv X pins Z H s):Ye<s.heap.objs.size:=by have h:Yd<s.heap.objs.size:=(I.mod.glob.keeps I.bk).lt;exact Nat.lt_trans (by decide) h
theorem ZlC{h':YG}{t':Nat}{ob:HO}(I:Inv X pins Z H s)(mu:Mut (H a))(hs:Heap.SameBut a s.heap h')(he:∃q,h'.get? a=Wu q)(new:Zam X.prog X.w (upd H a ob) h' a ob):
 Inv X pins Z (upd H a ob) {s with heap:=h',toks:=t'}:=
 I.write (x:=a) (e:=a) mu (.inl rfl) (fun b q hb z=>(hs.2 b hb).trans z) he new
theorem ZoF{P:Yh}{w:Yg}{H':Hp}{h':YG}{kvs:List (Key×V)}{vs:List (Key×Yj)}(z:kvs.length<=sizeLine)(hd:(a==Ye)=Wx)(rel:KV kvs vs)(dd:h'.DictOf (ZG P w) a vs):
 Zam P w H' h' a (.dK kvs):=⟨z,hd,vs,rel,dd⟩
end
theorem Zjb{P:Yh}{w:Yg}{H:Hp}(h:YG)(hb:Ye<h.objs.size):Zam P w H (h.push {cls:=.type "dict",data:=.dict #[]}) h.objs.size (.dK []):=⟨Yy _,beq_eq_false_iff_ne.mpr (YL (Ou hb)),[],.nil,Heap.DictOf.new h⟩
noncomputable def ZrM:TE:=fun _ H Q=>∀p,H p=Wv->Q (.ref p) (upd H p (.dK []))
section
variable {X:Cx}{pos:Pos}
theorem ZnH:PE X (.Dict [] [] pos) ZrM:=fun pins s Z H Q I h=>wpAny_Dict_empty ⟨.ref s.heap.objs.size,_,I.laid (a:=s.heap.objs.size) (o:=.dK []) (t':=s.toks) (fun _ _ q=>Od _ q) (Oq _) (Zjb s.heap I.big),rfl,h _ (I.hok.fresh (Oq _))⟩
end
def Zhn:List (TE×TE)->St->Hp->(List (V×V)->Hp->Prop)->Prop
 |[],_,H,Q=>Q [] H
 |(tk,tv)::r,Z,H,Q=>tk Z H fun x H1=>tv Z H1 fun y H2=>Zhn r Z H2 fun ps H3=>Q ((x,y)::ps) H3
abbrev VV:List (V×V)->List (Yj×Yj)->Prop:=Paired fun p q=>RelV p.1 q.1/\RelV p.2 q.2
def PPs(X:Cx)(pos:Pos)(keys:List (Option Expr))(values:List Expr)(trs:List (TE×TE)):Prop:=
 ∀(pins:List (Yi×Obj)) (s:Yb) (Z:St) (H:Hp) (Q:List (V×V)->Hp->Prop),Inv X pins Z H s->Zhn trs Z H Q ->
  YB (model X.prog X.w) X.A (evalPairs (pairTrees keys values X.env pos)) (fun vs s'=>∃ps H',Inv X pins Z H' s'/\VV ps vs/\Q ps H') X.xe s
theorem ZpH{X:Cx}{pos:Pos}:PPs X pos [] [] []:=fun pins s Z H Q I h=>pairTrees_nil_walk ⟨[],H,I,.nil,h⟩
theorem Znv{X:Cx}{pos:Pos}{k v:Expr}{ks:List (Option Expr)}{vs:List Expr}{tk tv:TE}{trs:List (TE×TE)}(hk:PE X k tk)(hv:PE X v tv)(hr:PPs X pos ks vs trs):
 PPs X pos (Wu k::ks) (v::vs) ((tk,tv)::trs):=fun pins s Z H Q I h=>
 pairTrees_cons_walk (thn (hk pins s Z H _ I h) fun u s1 ⟨x,H1,I1,rx,q1⟩=>thn (hv pins s1 Z H1 _ I1 q1) fun w2 s2 ⟨y,H2,I2,ry,q2⟩=>thn (hr pins s2 Z H2 _ I2 q2) fun ws s3 ⟨ps,H3,I3,rel,q3⟩=>⟨(x,y)::ps,H3,I3,.cons ⟨rx,ry⟩ rel,q3⟩)
noncomputable def ZdT(kvs more:List (Key×V)):List (Key×V):=more.foldl (fun acc kv=>putK acc kv.1 kv.2) kvs
theorem KV.merge:∀{more:List (Key×V)}{rs:List (Key×Yj)}{kvs:List (Key×V)}{vs:List (Key×Yj)},KV more rs->KV kvs vs->KV (ZdT kvs more) (merged vs rs):=by
 intro more rs kvs vs r;unfold KV at r;induction r generalizing kvs vs with
 |nil=>intro q;exact q
 |@cons p q ps qs h t ih=>
  intro r0;have e:KV (putK kvs p.1 p.2) (stored vs q.1 q.2):=by have:=r0.put p.1 h.2;rw[<- h.1];exact this
  exact ih e
theorem ZdJ:∀(more kvs:List (Key×V)),(ZdT kvs more).length<=kvs.length+more.length
 |[],kvs=>by show kvs.length<=kvs.length+0;omega
 |p::r,kvs=>by have h1:=ZdJ r (putK kvs p.1 p.2);have h2:=Ze2 kvs p.1 p.2;show(ZdT (putK kvs p.1 p.2) r).length<=_;rw[Os];omega
theorem Zgo{P:Yh}{w:Yg}:∀{kvs:List (Key×V)}{ws:List (Yj×Yj)},VV (kvs.map fun kv=>(kV kv.1,kv.2)) ws->∃rs,Carries (ZG P w) ws rs/\KV kvs rs
 |[],_,r=>by rw[Oy]at r;cases r;exact⟨[],True.intro,.nil⟩
 |p::kvs,_,r=>by
  rw[Op]at r;cases r with
  |@cons a b as bs h t=>obtain⟨rs,c,q⟩:=Zgo (P:=P) (w:=w) t;obtain⟨b1,b2⟩:=b;exact⟨(p.1,b2)::rs,⟨ZiV h.1,rfl,c⟩,.cons ⟨rfl,h.2⟩ q⟩
noncomputable def ZtM(trs:List (TE×TE)):TE:=fun Z H Q=>∀p,H p=Wv->Zhn trs Z (upd H p (.dK [])) fun ps H2=>H2 p=Wu (.dK [])/\∃kvs:List (Key×V),ps=kvs.map (fun kv=>(kV kv.1,kv.2))/\kvs.length<=15/\Q (.ref p) (upd H2 p (.dK (ZdT [] kvs)))
theorem ZpS{X:Cx}{pos:Pos}{keys:List (Option Expr)}{values:List Expr}{trs:List (TE×TE)}(h:PPs X pos keys values trs)(hall:keys.all (·.isSome)=Ww)(hl:keys.length=values.length)(h0:keys≠[])
 (h15:keys.length<=15):PE X (.Dict keys values pos) (ZtM trs):=by
 intro pins s Z H Q I q;have hn:=I.hok.fresh (Oq s.heap.objs.size);have I1:=I.laid (a:=s.heap.objs.size) (o:=.dK []) (h':=s.heap.push {cls:=.type "dict",data:=.dict #[]}) (t':=s.toks) (fun _ _ q=>Od _ q) (Oq _) (Zjb s.heap I.big);refine wpAny_Dict_walk (knd:=ZG X.prog X.w) hall hl h0 h15 (thn (h pins _ Z _ _ I1 (q _ hn)) fun ws s2 ⟨ps,H2,I2,rel,e,kvs,ep,lk,q2⟩=>?_);subst ep;obtain⟨rs,c,rk⟩:=Zgo (P:=X.prog) (w:=X.w) rel;obtain⟨z,hd,vs0,r0,dd⟩:=Zrk I2.hok e;cases r0;refine⟨rs,c,dd,fun h' dd' hs=>⟨.ref s.heap.objs.size,_,?_,rfl,q2⟩⟩;have hz:(ZdT [] kvs).length<=sizeLine:=by have h1:=ZdJ kvs [];rw[List.length_nil]at h1;rw[YC];omega
 have he:∃q,h'.get? s.heap.objs.size=Wu q:=let ⟨q,_,_,hq,_⟩:=dd';⟨q,hq⟩;exact ZlC I2 (by rw[e];exact True.intro) hs he (ZoF hz hd (rk.merge .nil) dd')
end L2
end
section
namespace L2
open PySem PySem.Spec PyProof.Rows
noncomputable def Its(x:Str):It:=⟨fun i _=>i<x.cps.size,fun i H v H'=>H'=H/\∃c,x.cps[i]? = Wu c/\v=.str ⟨#[c]⟩,fun i _=>i=x.cps.size⟩
theorem ZsY{M:Model}{A:YH}{E:Yj->Yb->Prop}{s:Yb}{tg:Expr}{it:Yi}{x:Str}{t:Tok}{Q:Unit->Yb->Prop}(hQ:Q () s):YB M A (letOwnedTupleGo tg (.ref it) (.str x t)) Q E s:=by unfold letOwnedTupleGo;cases tg<;>exact Yc hQ
theorem Zid{P:Yh}{w:Yg}{K:Yk}{tg:Expr}{it:Yi}{x:Str}{t:Tok}{ty:String}
 (W:∀A':YH,A'.handled=Wv->Walks P w A' it [it] [it] x.cps.size (SignAt x) (fun i h=>h.IsStrIter it ty x t i))
 (hself:∀(A:YH) (i:Nat) (s:Yb) (Q:Yj->Yb->Prop) (E:Yj->Yb->Prop),s.heap.IsStrIter it ty x t i->Q (.ref it) s->YB (model P w) A (pyIter (.ref it)) Q E s) :
 Turn P w K tg (Its x) [it] it (fun i h=>h.IsStrIter it ty x t i) where
 mem:=by simp
 obj:=fun i h st b hb=>by
  have e:b=it:=by simpa using hb
  subst e;obtain⟨o,e,c,d⟩:=st;exact⟨o,e,fun v z=>by rw[d]at z;cases z⟩
 keep:=fun i h h' st k=>by obtain⟨o,e,r⟩:=st;exact⟨o,k it (by simp) o e,r⟩
 item:=by intro X hP hw hK hc i pins s Z H E I hf st hg;subst hP hw hK;obtain⟨f0,f1,f2,f3,f4,f5⟩:=hf it (by simp);refine(W X.A (I.ok.hd hc)).item i s _ _ hg st fun v h' tk hv st' kk=>?_;obtain⟨c,u,hcx,rfl⟩:=hv;have I1:Inv X pins Z H {s with heap:=h',toks:=tk}:=I.turned (fun b o hb e=>kk b o (by simpa using hb) e) f0 f1 f3 f4 f5;exact⟨_,rfl,ZsY ⟨.str ⟨#[c]⟩,H,I1,⟨u,rfl⟩,⟨rfl,c,hcx,rfl⟩,st',fun b hb=>(hf b hb).1⟩⟩
 done:=by intro X hP hw hK hc i pins s Z H E I hf st hg;subst hP hw hK;obtain⟨f0,f1,f2,f3,f4,f5⟩:=hf it (by simp);have e:i=x.cps.size:=hg;subst e;exact(W X.A (I.ok.hd hc)).done s _ _ st fun h' tk kk=>⟨rfl,I.turned (fun b o hb e=>kk b o (by simpa using hb) e) f0 f1 f3 f4 f5⟩
 self:=hself
theorem Zc1{env:Env}:∀(names:List (Str×NameKind)) (x:Str),
 (names.map fun(n,k)=>if (k==Yo&&env.scope.kind==.function&&env.kindOf n==Wu .cell)then(n,NameKind.cell)else(n,k)).lookup x =
  (names.lookup x).map fun k=>if (k==Yo&&env.scope.kind==.function&&env.kindOf x==Wu .cell)then NameKind.cell else k
 |[],_=>rfl
 |(n,k)::r,x=>by
  have ih:=@Zc1 env r x;show Wj x ((if (k==Yo&&env.scope.kind==.function&&env.kindOf n==Wu .cell)=Ww then(n,NameKind.cell)else(n,k))::_)=_;cases hx:x==n with
  |true=>
   have e:x=n:=by simpa using hx
   subst e;by_cases hc:(k==Yo&&env.scope.kind==.function&&env.kindOf x==Wu .cell)=Ww
   . rw[if_pos hc];simp only[OF,hx,Yv,if_pos hc]
   . rw[if_neg hc];simp only[OF,hx,Yv,if_neg hc]
  |false=>
   by_cases hc:(k==Yo&&env.scope.kind==.function&&env.kindOf n==Wu .cell)=Ww
   . rw[if_pos hc];simp only[OF,hx];exact ih
   . rw[if_neg hc];simp only[OF,hx];exact ih
noncomputable def Zeu(env:Env):List (Str×NameKind)->List (Str×Yi)->List (Str×Yi)
 |[],cs=>cs
 |(n,k)::r,cs=>Zeu env r (if (k==.free)=Ww then(n,(env.cells.lookup n).getD 0)::cs else cs)
theorem Zjh{env:Env}:∀(l:List (Str×NameKind)) (cs:List (Str×Yi)),(∀y∈l,y.2=.free->∃c,env.cells.lookup y.1=Wu c) ->
 (∀x c,(x,c)∈cs->env.cells.lookup x=Wu c)->∀x c,(x,c)∈Zeu env l cs->env.cells.lookup x=Wu c
 |[],cs,_,h2,x,c,hm=>h2 x c hm
 |(n,k)::r,cs,h1,h2,x,c,hm=>by
  refine Zjh r _ (fun y hy=>h1 y (Oh _ hy)) (fun x c hm=>?_) x c hm;by_cases hk:(k==Yo)=Ww
  . rw[if_pos hk]at hm;rcases O2.mp hm with e|hm
    . cases e;have hk':k=.free:=by cases k<;>first|rfl|(exact absurd hk (by decide))
      obtain⟨c,e⟩:=h1 (n,k) Oi hk';rw[e];rfl
    . exact h2 x c hm
  . rw[if_neg hk]at hm;exact h2 x c hm
theorem Zg4{env:Env}:∀(l:List (Str×NameKind)) (cs:List (Str×Yi)) (p:Str×Yi),p∈cs->p∈Zeu env l cs
 |[],_,_,h=>h
 |(n,k)::r,cs,p,h=>by
  refine Zg4 r _ p ?_;by_cases hk:(k==Yo)=Ww
  . rw[if_pos hk];exact Oh _ h
  . rw[if_neg hk];exact h
theorem Zji{env:Env}:∀(l:List (Str×NameKind)) (cs:List (Str×Yi)) (y:Str×NameKind),y∈l->y.2=.free->∃c,(y.1,c)∈Zeu env l cs
 |(n,k)::r,cs,y,h,hf=>by
  rcases O2.mp h with e|h
  . subst e;refine⟨(env.cells.lookup n).getD 0,Zg4 r _ _ ?_⟩;have hk:(k==Yo)=Ww:=by have:k=.free:=hf;subst this;rfl
    rw[if_pos hk];exact Oi
  . exact Zji r _ y h hf
theorem ZdI{α:Type}:∀{l:List (Str×α)}{x:Str}{c:α},(x,c)∈l->∃c',l.lookup x=Wu c'/\(x,c')∈l
 |(n,d)::r,x,c,h=>by
  cases hx:x==n with
  |true=>
   have e:x=n:=by simpa using hx
   subst e;exact⟨d,by simp[OF],Oi⟩
  |false=>
   rcases O2.mp h with e|h
   . cases e;simp at hx
   . obtain⟨c',h1,h2⟩:=ZdI h;exact⟨c',by simp only[OF,hx];exact h1,Oh _ h2⟩
theorem ZdN{scope:Scope}{env:Env}(h:∀y∈scope.names,y.2=.free->∃c,env.cells.lookup y.1=Wu c):closureFor scope env=pure (Zeu env scope.names []):=by
 have all:∀(l:List (Str×NameKind)) (cs:List (Str×Yi)),(∀y∈l,y.2=.free->∃c,env.cells.lookup y.1=Wu c) ->
  (forIn l cs fun(x:Str×NameKind) r=>match x with|(name,kind)=>if (kind==Yo)=Ww then(do let a <- cellOf env name;pure (ForInStep.yield ((name,a)::r)))else pure (ForInStep.yield r):Sem (List (Str×Yi)))=pure (Zeu env l cs):=by
  intro l;induction l with
  |nil=>intro cs _;rfl
  |cons y r ih=>
   intro cs hl;obtain⟨n,k⟩:=y;rw[List.forIn_cons];have hr:=fun cs=>ih cs fun y hy=>hl y (Oh _ hy);by_cases hk:(k==Yo)=Ww
   . have hk':k=.free:=by cases k<;>first|rfl|(exact absurd hk (by decide))
     obtain⟨c,e⟩:=hl (n,k) Oi hk';have ec:cellOf env n=pure c:=by unfold cellOf;rw[e]
     simp only[hk,if_true,ec];show(forIn r ((n,c)::cs) _:Sem _)=_;rw[hr];show _=pure (Zeu env r (if (k==Yo)=Ww then(n,(env.cells.lookup n).getD 0)::cs else cs));rw[if_pos hk,e];rfl
   . simp only[hk];show(forIn r cs _:Sem _)=_;rw[hr];show _=pure (Zeu env r (if (k==Yo)=Ww then(n,(env.cells.lookup n).getD 0)::cs else cs));rw[if_neg hk]
 unfold closureFor;have z:=all scope.names [] h;dsimp only at z ⊢;rw[z];rfl
end L2
end
section
set_option tactic.hygienic false
namespace L2
open PySem PySem.Spec PyProof.Rows
theorem Zje{prog:Yh}{w:Yg}{A:YH}{R:Result->Yb->Prop}{s:Yb}{elt target iter:Expr}{ifs:List Expr}{scope:Scope}{pos:Pos}{it acc:Yj}{env:Env}(I:Nat->Yb->Prop)
 (turn:∀n s,I n s->YB (model prog w) A (pyNext it) (fun r s₁=>match r with
  |none=>R (.ok .next) s₁
  |some v=>YB (model prog w) A (letOwnedTupleGo target it v) (fun _ s₁'=>YB (model prog w) A (assign target env v) (fun _ s₂=>
   YB (model prog w) A (forIn ifs Ww fun c r=>if r=Ww then do let ok <- isTrue c env (eval c env);pure (ForInStep.yield ok)else pure (ForInStep.yield r)) (fun ok s₃=>
    if ok=Ww then YB (model prog w) A (eval elt env) (fun x s₄=>YB (model prog w) A (call (.builtin "list.append") [acc,x]) (fun _ s₅=>∃m,m<n/\I m s₅) (notedBy (model prog w) A env fun e s'=>R (.error e) s') s₄) (notedBy (model prog w) A env fun e s'=>R (.error e) s') s₃
    else ∃m,m<n/\I m s₃) (notedBy (model prog w) A env fun e s'=>R (.error e) s') s₂) (notedBy (model prog w) A env fun e s'=>R (.error e) s') s₁') (notedBy (model prog w) A env fun e s'=>R (.error e) s') s₁) (notedBy (model prog w) A env fun e s'=>R (.error e) s') s)
 (n:Nat) (h:I n s) :
 codeAny (model prog w) A (.compLoop (.ListComp elt [⟨target,iter,ifs,0⟩] scope pos) 0 it acc env) R s:=by
 refine codeAny_loop rfl I (fun n s hI=>?_) n h;show YB _ A ((compTurn (.ListComp elt [⟨target,iter,ifs,0⟩] scope pos) 0 it acc env).onRaise (fun x=>do noteFrame x env;theTreesLotGoes x)) _ _ s;refine wpAny_noted ?_;rw[compTurn_list];refine Ya (wpAny_standAt (Ya (Yf (turn n s hI) (fun r s₁ h₁=>?_) fun _ _ h'=>h')));cases r with
 |none=>exact Yc h₁
 |some v=>
  refine Ya (Yf h₁ (fun _ s₁' h₁'=>?_) fun _ _ h'=>h');refine Ya (Yf h₁' (fun _ s₂ h₂=>Ya (Yf h₂ (fun ok s₃ h₃=>?_) fun _ _ h'=>h')) fun _ _ h'=>h');cases ok with
  |false=>exact Yc ⟨rfl,h₃⟩
  |true=>exact Ya (Ya (Yf h₃ (fun x s₄ h₄=>Ya (Yf h₄ (fun _ s₅ h₅=>Yc (Yc ⟨rfl,h₅⟩)) fun _ _ h'=>h')) fun _ _ h'=>h'))
structure CompSc(NC N:List Str)(js:List (Option Nat))(sc scope:Scope):Prop where
 kind:scope.kind=.function
 dkind:sc.kind=.function
 nocell:∀y∈scope.names,y.2≠.cell
 locs:∀y∈scope.names,y.2=.local->scope.names.lookup y.1=Wu .local
 free:∀y∈scope.names,y.2=.free->sc.names.lookup y.1=Wu .cell
 nd:NC.Nodup
 len:js.length=NC.length
 jok:((NC.zip js).all fun p=>p.2.all fun j=>Wy (N[j]? = Wu p.1)&&Wy (scope.names.lookup p.1=Wu .free))=Ww
theorem CompSc.at{NC N:List Str}{js:List (Option Nat)}{sc scope:Scope}(S_:CompSc NC N js sc scope){i j:Nat}{x:Str}(h1:NC[i]? = Wu x)(h2:js[i]? = Wu (Wu j)):N[j]? = Wu x/\scope.names.lookup x=Wu .free:=by
 have h:=S_.jok;rw[OC]at h;have hm:(x,Wu j)∈NC.zip js:=by refine O1 (i:=i) ?_;rw[List.getElem?_zip_eq_some];exact⟨h1,h2⟩
 have q:=h _ hm;simp only[Option.all_some,Oa,decide_eq_true_eq]at q;exact q
noncomputable def capt(js:List (Option Nat))(Z:St):St:=js.map fun o=>o.bind fun j=>(Z[j]?).join
noncomputable def ZK(X:Cx)(NC:List Str)(scope:Scope)(C:Yi)(s3:Yb)(H3:Hp)(fp:List Yi):Cx:={X with N:=NC,s₀:=s3,H₀:=H3,env:=compEnvC scope (Zeu X.env scope.names []) C X.env,outer:=X.stack,stack:=X.stack,ex:=fp,fn:=fun _=>Wx,calm:=true,pn:=[],xe:=fun _ _=>False}
def ZmJ(k:Nat)(g:TG):Prop:=∀x Z H Q,g x Z H Q->g x Z H fun σ2 H2=>Q σ2 H2/\σ2.length=Z.length/\∀j,k<=j->σ2[j]? = Z[j]?
def Zjt(k:Nat)(g:TGs):Prop:=∀x Z H Q,g x Z H Q->g x Z H fun σ2 H2=>Q σ2 H2/\σ2.length=Z.length/\∀j,k<=j->σ2[j]? = Z[j]?
theorem Zpe{i k:Nat}(h:i<k):ZmJ k (Zc4 i):=fun x Z H Q q=>⟨q,List.length_set,fun j hj=>by rw[Oc (by omega)]⟩
theorem Zk2{k:Nat}:Zjt k Zqw:=fun x Z H Q q=>⟨q.1,q.2,rfl,fun _ _=>rfl⟩
theorem Zfz{i k:Nat}{u:TGs}(h:i<k)(hu:Zjt k u):Zjt k (Zi0 (Zc4 i) u):=by
 rintro xs Z H Q ⟨v,r,e,q⟩;refine⟨v,r,e,?_⟩;have z:=hu r (Z.set i (Wu v)) H Q q;have z2:=hu r (Z.set i (Wu v)) H (fun σ2 H2=>Q σ2 H2/\σ2.length=(Z.set i (Wu v)).length/\∀j,k<=j->σ2[j]? = (Z.set i (Wu v))[j]?) z;show u r (Z.set i (Wu v)) H _;have e1:(Z.set i (Wu v)).length=Z.length:=List.length_set;have e2:∀j,k<=j->(Z.set i (Wu v))[j]? = Z[j]? := fun j hj=>Oc (by omega);have e3:(fun σ2 H2=>Q σ2 H2/\σ2.length=Z.length/\∀j,k<=j->σ2[j]? = Z[j]?)=(fun σ2 H2=>Q σ2 H2/\σ2.length=(Z.set i (Wu v)).length/\∀j,k<=j->σ2[j]? = (Z.set i (Wu v))[j]?):=by funext σ2 H2;rw[e1];refine propext ⟨fun⟨a,b,c⟩=>⟨a,b,fun j hj=>(c j hj).trans (e2 j hj).symm⟩,fun⟨a,b,c⟩=>⟨a,b,fun j hj=>(c j hj).trans (e2 j hj)⟩⟩
 rw[e3];exact z
theorem ZmU{K:Yk}{n k:Nat}{u:TGs}(hu:Zjt k u):ZmJ k (Zqv K n u):=by rintro x Z H Q ⟨a,xs,e,h1,h2,q⟩;exact⟨a,xs,e,h1,h2,hu xs Z H Q q⟩
def PIf(X:Cx)(ifs:List Expr)(t:TT):Prop:=
 ∀(pins:List (Yi×Obj)) (s:Yb) (Z:St) (H:Hp) (Q:Bool->Hp->Prop),Inv X pins Z H s->t Z H Q ->
  YB (model X.prog X.w) X.A (forIn ifs Ww fun c r=>if r=Ww then do let ok <- isTrue c X.env (eval c X.env);pure (ForInStep.yield ok)else pure (ForInStep.yield r)) (TP X pins Z Q) X.xe s
noncomputable def Zvs:TT:=fun _ H Q=>Q Ww H
theorem ZpL{X:Cx}:PIf X [] Zvs:=fun _ _ _ H _ I h=>wpAny_tests_nil ⟨H,I,h⟩
theorem ZpK{X:Cx}{c:Expr}{t:TT}(hc:PT X c t):PIf X [c] t:=fun pins s Z H Q I h=>wpAny_tests_one (hc pins s Z H Q I h)
noncomputable def Zq5(wi:TI)(js:List (Option Nat))(g:TG)(tc:TT)(te:TE):TE:=fun Z H Q=>wi Z H fun J H1=>∀D,H1 D=Wv->∃W:Nat->Nat->List V->Hp->Prop,(∃m,W 0 m [] (upd H1 D (.lst []))) /\
 ∀i m ys H,W i m ys H->H D=Wu (.lst ys)->(J.stop i H/\Q (.ref D) H) \/
  (J.go i H/\ys.length<sizeLine/\∀x H',J.yld i H x H'->g x (capt js Z) H' fun σ2 H2=>tc σ2 H2 fun b H3=>
   if b=Ww then te σ2 H3 fun y H4=>H4 D=Wu (.lst ys)/\∃m',m'<m/\W (i+1) m' (ys++[y]) (upd H4 D (.lst (ys++[y])))
   else H3 D=Wu (.lst ys)/\∃m',m'<m/\W (i+1) m' ys H3)
section
variable {X:Cx}{pins:List (Yi×Obj)}{Z:St}{H:Hp}{s:Yb}
theorem ZiY{NC:List Str}{js:List (Option Nat)}{sc scope:Scope}{C:Yi}{h4:YG}{tk:Nat}{fp:List Yi}{m:Str->Option Yj}(S_:CompSc NC X.N js sc scope)(hsc:X.env.scope=sc)(hc:X.calm=Ww)
 (I:Inv X pins Z H s) (f:∀b∈fp,Zdn X pins H b) (fo:∀b∈fp,∃o,s.heap.get? b=Wu o) (hC:C=s.heap.objs.size) (hns:h4.Ns C m) (hk:∀b o,s.heap.get? b=Wu o->h4.get? b=Wu o) :
 Inv (ZK X NC scope C s H fp) [] (capt js Z) H {s with heap:=h4,toks:=tk}:=by
 have hcells:∀y∈scope.names,y.2=.free->∃c,X.env.cells.lookup y.1=Wu c:=fun y hy hf=>I.ok.has y.1 (.inl (show X.env.scope.names.lookup y.1=Wu .cell by rw[hsc];exact S_.free y hy hf));have cl1:∀x c,(Zeu X.env scope.names []).lookup x=Wu c->X.env.cells.lookup x=Wu c:=fun x c e=>Zjh scope.names [] hcells (fun _ _ z=>by cases z) x c (YI e);have cl2:∀y∈scope.names,y.2=.free->∃c,(Zeu X.env scope.names []).lookup y.1=Wu c:=fun y hy hf=>by obtain⟨c,hm⟩:=Zji (env:=X.env) scope.names [] y hy hf;obtain⟨c',e,_⟩:=ZdI hm;exact⟨c',e⟩
 have kinds:∀x,(ZK X NC scope C s H fp).env.kindOf x=(scope.names.lookup x).map fun k=>if (k==Yo&&X.env.scope.kind==.function&&X.env.kindOf x==Wu .cell)then NameKind.cell else k:=fun x=>Zc1 scope.names x;have fcell:∀x,scope.names.lookup x=Wu .free->(ZK X NC scope C s H fp).env.kindOf x=Wu .cell:=fun x e=>by
  rw[kinds,e];have h1:X.env.kindOf x=Wu .cell:=show X.env.scope.names.lookup x=Wu .cell by rw[hsc];exact S_.free (x,.free) (YI e) rfl
  have h2:X.env.scope.kind=.function:=I.ok.kind;simp only[Yv,h1,h2];rfl
 have flt:∀b∈fp,b<s.heap.objs.size:=fun b hb=>let ⟨o,e⟩:=fo b hb;Yn e;refine⟨⟨I.ok.mod,S_.kind,I.ok.glob,I.ok.blt,Nat.le_of_eq hC.symm,fun x y c h1 h2=>I.ok.inj x y c (cl1 x c h1) (cl1 y c h2),fun x hx=>?_,fun x c hf _=>absurd (show Wx=Ww from hf) Ow,fun _=>I.ok.hd hc,I.ok.frames,.inl rfl,fun b hb=>⟨?_,fun x c e=>(f b hb).2.2.2.2.1 x c (cl1 x c e)⟩,
  I.bs,OE I.ok.bsz I.sz,fun b o e hb=>?_,fun b hb hm=>?_,I.stack,I.stkFree⟩,
  rfl,I.bare,Un.kept hk,⟨m,hns,fun i x v h1 h2 h3=>?_⟩,fun x c e=>?_,?_,fun x c e=>I.freeC x c (cl1 x c e),fun p hp=>absurd (show p∈([]:List (Yi×Obj))from hp) (by simp),I.hok.kept hk,?_⟩
 . rw[kinds]at hx;cases e:scope.names.lookup x with
   |none=>rw[e]at hx;rcases hx with hx|hx<;>cases hx
   |some k=>
    rw[e]at hx;have hm:=YI e;have hk:k=.free:=by
     by_cases hf:(k==Yo)=Ww
     . cases k<;>first|rfl|(exact absurd hf (by decide))
     . have hf':(k==Yo)=Wx:=Bool.eq_false_iff.mpr hf;simp only[Yv,hf',Bool.false_and,OG,if_false]at hx;rcases hx with hx|hx
       . exact absurd (YF hx) (S_.nocell _ hm)
       . exact YF hx
    exact cl2 (x,k) hm hk
 . show b≠C;rw[hC];exact Ou (flt b hb)
 . obtain⟨_,_,_,f3,_⟩:=f b hb;rcases f3 with z|z
   . exact I.ok.noex b o e z
   . exact absurd (O3 (Yn e) (OE I.ok.bsz z)) (Yw _)
 . obtain⟨_,f1,f2,_⟩:=f b hb;exact(O2.mp (I.stkSub b hm)).elim f1 f2
 . have hj:∃j,js[i]? = Wu (Wu j)/\Z[j]? = Wu (Wu v):=by
    unfold capt at h2;rw[On]at h2;cases e:js[i]? with
    |none=>rw[e]at h2;cases h2
    |some o=>
     rw[e]at h2;have h2':(o.bind fun j=>(Z[j]?).join)=Wu v:=YF h2;cases o with
     |none=>cases h2'
     |some j=>
      refine⟨j,rfl,?_⟩;have h3':(Z[j]?).join=Wu v:=h2';cases q:Z[j]? with
      |none=>rw[q]at h3';cases h3'
      |some r=>rw[q]at h3';rw[show r=Wu v from h3']
   obtain⟨j,hj,hσ⟩:=hj;obtain⟨hN,hfr⟩:=S_.at (show NC[i]? = Wu x from h1) hj;have hcell:X.env.scope.names.lookup x=Wu .cell:=by rw[hsc];exact S_.free (x,.free) (YI hfr) rfl
   obtain⟨m0,_,hl⟩:=I.loc;obtain⟨u,r,l⟩:=hl j x v hN hσ (.inr (.inl hcell));refine⟨u,r,?_⟩;rcases l with ⟨k,_⟩|⟨_,c,e,z⟩
   . rw[show X.env.kindOf x=Wu .cell from hcell]at k;cases k
   . obtain⟨c',e'⟩:=cl2 (x,.free) (YI hfr) rfl;have ec:=cl1 x c' e';rw[e]at ec;cases ec;obtain⟨o,ho,hd⟩:=z;exact .inr ⟨.inl (fcell x hfr),c,e',o,hk _ _ ho,hd⟩
 . obtain⟨v,o,ho,hd⟩:=I.cell x c (cl1 x c e);exact⟨v,o,hk _ _ ho,hd⟩
 . show H C=Wv;rw[hC];exact I.hok.fresh (Oq _)
 . unfold capt;rw[Yu];exact S_.len
end
section
variable {X:Cx}{elt tg iter:Expr}{ifs:List Expr}{scope sc:Scope}{pos:Pos}{NC:List Str}{js:List (Option Nat)}{k:Nat}{wi:TI}{g:TG}{tc:TT}{te:TE}
theorem Inv.comp_out{pins:List (Yi×Obj)}{Z σ':St}{H3 H':Hp}{s3 s1:Yb}{C:Yi}{fp:List Yi}{h'':YG}(I3:Inv X pins Z H3 s3)(f:∀b∈fp,Zdn X pins H3 b)(hC:C=s3.heap.objs.size)
 (I':Inv (ZK X NC scope C s3 H3 fp) [] σ' H' s1) (hs:Heap.SameBut C s1.heap h''):Inv X pins Z H' {s1 with heap:=h''}:=by
 have ne:∀b o,s3.heap.get? b=Wu o->b≠C:=fun b o e=>by rw[hC];exact Ou (Yn e)
 have u:=I'.base;refine I3.call' (s':={s1 with heap:=h''}) (ch:=fp) I'.os ⟨fun b o e n hb hx=>(hs.2 b (ne b o e)).trans (u.keep b o e n hb hx),fun b o e n hb hx=>?_,u.free,fun b o e hx=>?_,u.tups,u.frzs,u.tbls⟩ ?_ I'.bare fun b hb=>?_
 . obtain⟨sl,q⟩:=u.slot b o e n hb hx;exact⟨sl,(hs.2 b (ne b o e)).trans q⟩
 . obtain⟨o',q⟩:=u.there b o e hx;exact⟨o',(hs.2 b (ne b o e)).trans q⟩
 . have hfree:H' C=Wv:=I'.free;intro b ob e;refine(I'.hok b ob e).stay (fun c w' hc q=>(hs.2 c ?_).trans q) (fun _ q=>q) fun _ _ q=>q;rintro rfl;rcases hc with rfl|hc
   . rw[hfree]at e;cases e
   . rw[hfree]at hc;cases hc
 . obtain⟨_,f1,_,f3,f4,f5⟩:=f b hb;exact⟨f3,f1,f4,f5⟩
theorem Zg3{pins:List (Yi×Obj)}{Z:St}{H3:Hp}{s3 s4:Yb}{C Dd it:Yi}{fp:List Yi}{tn:Nat->YG->Prop}{J:It}{W:Nat->Nat->List V->Hp->Prop}{Q:VK}{m0:Nat}{post:Result->Yb->Prop}
 (hb:∀(C:Yi) (s3:Yb) (H3:Hp) (fp:List Yi),PG (ZK X NC scope C s3 H3 fp) tg g/\PIf (ZK X NC scope C s3 H3 fp) ifs tc/\PE (ZK X NC scope C s3 H3 fp) elt te)
 (hk:ZmJ k g) (hjk:∀j,j<k->js[j]? = Wu Wv) (hC:C=s3.heap.objs.size) (I3:Inv X pins Z H3 s3) (f3:∀b∈fp,Zdn X pins H3 b) (fpl:∀b∈fp,∃o,s3.heap.get? b=Wu o) (I4:Inv (ZK X NC scope C s3 H3 fp) [] (capt js Z) H3 s4) (T:Turn X.prog X.w X.K tg J fp it tn) (st4:tn 0 s4.heap) (hD0:H3 Dd=Wu (.lst [])) (w0:W 0 m0 [] H3)
 (turn:∀i m ys H,W i m ys H->H Dd=Wu (.lst ys)->(J.stop i H/\Q (.ref Dd) H)\/(J.go i H/\ys.length<sizeLine/\∀x H',J.yld i H x H'->g x (capt js Z) H' fun σ2 H2=>tc σ2 H2 fun b H3=>if b=Ww then te σ2 H3 fun y H4=>H4 Dd=Wu (.lst ys)/\∃m',m'<m/\W (i+1) m' (ys++[y]) (upd H4 Dd (.lst (ys++[y])))else H3 Dd=Wu (.lst ys)/\∃m',m'<m/\W (i+1) m' ys H3))
 (stp:∀s6 H5,Inv (ZK X NC scope C s3 H3 fp) [] (capt js Z) H5 s6->Q (.ref Dd) H5->post (.ok .next) s6) :
 codeAny (model X.prog X.w) X.A (.compLoop (.ListComp elt [⟨tg,iter,ifs,0⟩] scope pos) 0 (.ref it) (.ref Dd) (compEnvC scope (Zeu X.env scope.names []) C X.env)) post s4:=by
 have stat:∀{H':Hp},(∀b∈fp,H' b=Wv)->∀b∈fp,Zdn (ZK X NC scope C s3 H3 fp) [] H' b:=fun hn b hb=>⟨hn b hb,(by rw[hC];exact Ou (let ⟨o,e⟩:=fpl b hb;Yn e)),fun hm=>I4.ok.exfs b hb hm,.inl hb,fun x c e=>(I4.ok.exf b hb).2 x c e,fun p hp=>absurd (show p∈([]:List (Yi×Obj))from hp) (by simp)⟩
 refine Zje (fun n s'=>∃i ys H',Inv (ZK X NC scope C s3 H3 fp) [] (capt js Z) H' s'/\tn i s'.heap/\(∀b∈fp,H' b=Wv)/\H' Dd=Wu (.lst ys)/\W i n ys H') ?_ m0
  ⟨0,[],_,I4,st4,fun b hb=>(f3 b hb).1,hD0,w0⟩
 rintro n s5 ⟨i,ys,H5,I5,st5,fr5,hD5,w5⟩;rcases turn i n ys H5 w5 hD5 with ⟨stop,qn⟩|⟨go,hlen,step⟩
 . refine Yf (T.done (ZK X NC scope C s3 H3 fp) rfl rfl rfl rfl i [] s5 (capt js Z) H5 (fun _ _=>False) I5 (stat fr5) st5 stop) (fun r s6 ⟨hr,I6⟩=>?_) fun _ _ z=>z.elim;subst hr;exact stp s6 H5 I6 qn
 . refine Yf (T.item (ZK X NC scope C s3 H3 fp) rfl rfl rfl rfl i [] s5 (capt js Z) H5 (fun _ _=>False) I5 (stat fr5) st5 go) (fun r s6 ⟨u,hr,h6⟩=>?_) fun _ _ z=>z.elim;subst hr;refine Yf h6 (fun _ s7 ⟨x,H7,I7,r7,y7,st7,fr7⟩=>?_) fun _ _ z=>z.elim;have I7':=I7.pinned (stat fr7) (T.obj _ _ st7);obtain⟨pg,pif,pe⟩:=hb C s3 H3 fp;refine Yf (pg _ s7 (capt js Z) H7 x u _ I7' r7 (hk _ _ _ _ (step x H7 y7))) (fun _ s8 ⟨σ8,H8,I8,q8,l8,k8⟩=>?_) fun _ _ z=>z.elim;have back:∀{H9:Hp}{s9:Yb},Inv (ZK X NC scope C s3 H3 fp) ([]++ZfV fp s7.heap) σ8 H9 s9 ->
    Inv (ZK X NC scope C s3 H3 fp) [] (capt js Z) H9 s9/\tn (i+1) s9.heap/\∀b∈fp,H9 b=Wv:=fun {H9 s9} I9=>by
    refine⟨(I9.unpinned).weak l8.symm fun j v e=>?_,T.keep _ _ _ st7 fun b hb o e=>(I9.pin (b,o) (Ov _ (Ov _ (Zct hb e)))).1,fun b hb=>?_⟩
    . by_cases hj:j<k
      . unfold capt at e;rw[On,hjk j hj]at e;cases e
      . rw[k8 j (Nat.le_of_not_lt hj)];exact e
    . obtain⟨o,e,d⟩:=T.obj _ _ st7 b hb;exact(I9.pin (b,o) (Ov _ (Ov _ (Zct hb e)))).2.1
   refine Yf (pif _ s8 σ8 H8 _ I8 q8) (fun ok s9 ⟨H9,I9,q9⟩=>?_) fun _ _ z=>z.elim;cases ok with
   |false=>rw[if_neg Ow]at q9 ⊢;obtain⟨hD9,m',hm,w9⟩:=q9;obtain⟨b1,b2,b3⟩:=back I9;exact⟨m',hm,i+1,ys,H9,b1,b2,b3,hD9,w9⟩
   |true=>
    rw[if_pos rfl]at q9 ⊢;refine Yf (pe _ s9 σ8 H9 _ I9 q9) (fun y s10 ⟨v,H10,I10,r10,hD10,m',hm,w10⟩=>?_) fun _ _ z=>z.elim;refine Yf (ZgX (X:=ZK X NC scope C s3 H3 fp) _ s10 σ8 H10 (.ref Dd) [v] (.ref Dd) [y]
     (fun _ H11=>H11=upd H10 Dd (.lst (ys++[v]))) I10 rfl (.cons r10 .nil) ⟨_,ys,v,rfl,rfl,hD10,hlen,rfl⟩) (fun _ s11 ⟨_,H11,I11,_,e11⟩=>?_) fun _ _ z=>z.elim
    subst e11;obtain⟨b1,b2,b3⟩:=back I11;exact⟨m',hm,i+1,ys++[v],_,b1,b2,b3,Zi,w10⟩
theorem ZpT(S_:CompSc NC X.N js sc scope)(hsc:X.env.scope=sc)(hc:X.calm=Ww)(hi:PI X tg iter wi)
   (hb:∀ (C:Yi) (s3:Yb) (H3:Hp) (fp:List Yi),PG (ZK X NC scope C s3 H3 fp) tg g/\PIf (ZK X NC scope C s3 H3 fp) ifs tc/\PE (ZK X NC scope C s3 H3 fp) elt te)
   (hk:ZmJ k g) (hjk:∀ j,j<k->js[j]? = Wu Wv) (hs:∀ x,foldedSetIterable iter X.env x=pure x:=by intro _;rfl) :
   PE X (.ListComp elt [⟨tg,iter,ifs,0⟩] scope pos) (Zq5 wi js g tc te):=by
 intro pins s Z H Q I h;have hcells:∀ y∈scope.names,y.2=.free->∃ c,X.env.cells.lookup y.1=Wu c:=fun y hy hf=>I.ok.has y.1 (.inl (show X.env.scope.names.lookup y.1=Wu .cell by rw [hsc];exact S_.free y hy hf));rw [eval_ListComp];refine wpAny_comprehension_free (use:=Wv) rfl hs (ZdN hcells) S_.kind S_.locs (thn (hi pins s Z H _ I h) fun xv s1 h1=>thn h1 fun itv s2 h2=>?_);obtain ⟨it,fp,tn,J,H2,e,I2,T,st2,f2,rest⟩:=h2;subst e;have hD:H2 s2.heap.objs.size=Wv:=I2.hok.fresh (Oq _);obtain ⟨W,⟨m0,w0⟩,turn⟩:=rest s2.heap.objs.size hD;refine Yr (wpAny_newFunctionEnv S_.nocell (by intro y hy;simp at hy) (fun h4 hns hsb=>?_) S_.kind);have I3:Inv X pins Z (upd H2 s2.heap.objs.size (.lst [])) {s2 with heap:=s2.heap.push {cls:=.type "list",dict:=Wv,data:=.seq ([]:List Yj).toArray}}:=I2.lnew (t':=s2.toks) (ys:=[]) (its:=[]) .nil (Yy _);dsimp only at hns hsb ⊢;generalize hs3:({s2 with heap:=s2.heap.push {cls:=.type "list",dict:=Wv,data:=.seq ([]:List Yj).toArray}}:Yb)=s3 at I3;have eh:s2.heap.push {cls:=.type "list",dict:=Wv,data:=.seq ([]:List Yj).toArray}=s3.heap:=by rw [<- hs3]
 have eD:s2.heap.objs.size<s3.heap.objs.size:=by rw [<- eh,Heap.size_push];exact OH _
 rw [eh] at hns hsb;have keep:∀ b o,s3.heap.get? b=Wu o->h4.get? b=Wu o:=fun b o e=>(hsb.2 b (Ou (Yn e))).trans (Od _ e);have fpl:∀ b∈fp,∃ o,s3.heap.get? b=Wu o:=fun b hb=>by
   obtain ⟨o,e,_⟩:=T.obj 0 _ st2 b hb;exact ⟨o,by rw [<- eh];exact Od _ e⟩
 have neD:∀ b∈fp,b≠s2.heap.objs.size:=fun b hb=>by
   obtain ⟨o,e,_⟩:=T.obj 0 _ st2 b hb;exact Ou (Yn e)
 have f3:∀ b∈fp,Zdn X pins (upd H2 s2.heap.objs.size (.lst [])) b:=fun b hb=>⟨by rw [Zg (neD b hb)];exact (f2 b hb).1,(f2 b hb).2⟩
 have I4:=ZiY (tk:=s2.toks+([]:List (Str×Yj)).length) S_ hsc hc I3 f3 fpl rfl hns keep;have st4:tn 0 h4:=T.keep 0 _ _ st2 fun b hb o e=>keep b o (by rw [<- eh];exact Od _ e);have eC:(s2.heap.push {cls:=.type "list",dict:=Wv,data:=.seq ([]:List Yj).toArray}).objs.size=s3.heap.objs.size:=by rw [eh]
 have loop:∀ s4:Yb,s4={s3 with heap:=h4,toks:=s2.toks+([]:List (Str×Yj)).length} ->
     codeAny (model X.prog X.w) X.A (.compLoop (.ListComp elt [⟨tg,iter,ifs,0⟩] scope pos) 0 (.ref it) (.ref s2.heap.objs.size) (compEnvC scope (Zeu X.env scope.names []) s3.heap.objs.size X.env))
       (compPost (model X.prog X.w) X.A X.xe Wv (EP X pins Z Q) (.ref s2.heap.objs.size) s3.heap.objs.size) s4:=by
   rintro s4 rfl;exact Zg3 hb hk hjk rfl I3 f3 fpl I4 T st4 Zi w0 turn (fun s6 H5 I6 qn=>by
     obtain ⟨m,hm,_⟩:=I6.loc;exact ⟨m,hm,fun h' hs'=>⟨.ref s2.heap.objs.size,H5,I3.comp_out f3 rfl I6 hs',rfl,qn⟩⟩)
 have e4:({s2 with heap:=h4,toks:=s2.toks+([]:List (Str×Yj)).length}:Yb)={s3 with heap:=h4,toks:=s2.toks+([]:List (Str×Yj)).length}:=by rw [<- hs3]
 rw [eC];exact codeAny_compStart_list (loop _ e4) (T.self X.A 0 _ _ _ st4 (loop _ e4))
end
end L2
end
section
namespace L2
open PySem PySem.Spec PyProof.Rows
section
variable {X:Cx}
def TyN(K:Yk)(x:V)(H:Hp)(t:String):Prop:=match x with
 |.int _=>t = "int"
 |.str _=>t = "str"
 |.bl _=>t = "bool"
 |.non=>t = "NoneType"
 |.ref p=>(t = "list" /\ ∃xs,SqL K H p xs)\/(t = "tuple" /\ ∃xs,SqT K H p xs)
 |_=>False
theorem ZoL:Zcr X (.builtin "isinstance") (fun xs H Q=>∃x t T b,xs=[x,.ty T]/\TyN X.K x H t/\PySem.W.kitOne X.K (.type t) (.type T)=Wu b/\Q (.bl b) H):=by
 intro pins s Z H xs us Q I r h;obtain⟨x,t,T,b,rfl,ty,e,q⟩:=h;obtain⟨u,w',rfl,rx,rT⟩:=vals2 r;obtain rfl:w'=Value.type T:=rT;have fin:∀tk,EP X pins Z Q (.bool b) {s with toks:=tk}:=fun tk=>⟨.bl b,H,I.tok tk,rfl,q⟩
 cases x with
 |int i=>obtain⟨tk,rfl⟩:=rx;obtain rfl:t = "int" := ty;exact PySem.W.kia_one PySem.W.kitx_int I.kIn trivial e (by intro z;cases z) fin
 |str i=>obtain⟨tk,rfl⟩:=rx;obtain rfl:t = "str" := ty;exact PySem.W.kia_one PySem.W.kitx_str I.kIn trivial e (by intro z;cases z) fin
 |bl i=>obtain rfl:u=Value.bool i:=rx;obtain rfl:t = "bool" := ty;exact PySem.W.kia_one PySem.W.kitx_bool I.kIn trivial e (by intro z;cases z) fin
 |non=>obtain rfl:u=Value.none:=rx;obtain rfl:t = "NoneType" := ty;exact PySem.W.kia_one PySem.W.kitx_none I.kIn trivial e (by intro z;cases z) fin
 |ref p=>
  obtain rfl:u=YD p:=rx;rcases ty with ⟨rfl,xs,hx⟩|⟨rfl,xs,hx⟩
  . obtain⟨its,_,pl,_⟩:=I.list hx;exact PySem.W.kia_one PySem.W.kitx_list I.kIn pl.isList.typeIs e (by intro z;cases z) fin
  . obtain⟨its,_,pl,_⟩:=I.tuple hx;exact PySem.W.kia_one PySem.W.kitx_tuple I.kIn pl.typeIs e (by intro z;cases z) fin
 |_=>exact(show False from ty).elim
theorem Zmm{K:Yk}{t T:String}{b:Bool}(h:PySem.W.kitOne [] (.type t) (.type T)=Wu b):PySem.W.kitOne K (.type t) (.type T)=Wu b:=h
def ZvQ:V->Option Int->Option Int->Hp->VK->Prop:=fun x lo hi H Q=>∃y,x=.str y/\y.length<=sizeLine/\Q (.str (Yq y lo hi)) H
theorem ZrQ:SlR X ZvQ:=by
 intro pins s Z H x v vl vu lo hi sl Q I rx hs pl pu h;obtain⟨y,rfl,hz,q⟩:=h;obtain⟨t,rfl⟩:=rx;refine⟨"str",_,F.slot_str_getitem.lookup,typeIs_str _ _ _,?_⟩;have go:∀(l u:Option (Int×Tok)),vl=partValue l->vu=partValue u->lo=l.map (·.1)->hi=u.map (·.1)->YB (model X.prog X.w) X.A (getItem (.str y t) (.ref sl)) (EP X pins Z Q) X.xe s:=by rintro l u rfl rfl rfl rfl;refine wpAny_getItem_str_slice (l:=l) (u:=u) (st:=Wv) hs rfl ?_;refine post_val_or_str ⟨OE (Txt.slice_le y _ _) hz,fun t' k=>⟨.str _,H,I.tok k,⟨t',rfl⟩,q⟩⟩
 cases pl with
 |none=>
  cases pu with
  |none=>exact go Wv Wv rfl rfl rfl rfl
  |int j tj=>exact go Wv (Wu (j,tj)) rfl rfl rfl rfl
 |int i ti=>
  cases pu with
  |none=>exact go (Wu (i,ti)) Wv rfl rfl rfl rfl
  |int j tj=>exact go (Wu (i,ti)) (Wu (j,tj)) rfl rfl rfl rfl
end
end L2
end
section
namespace L2
open PySem PySem.Spec PyProof.Rows
theorem Zam.there{P:Yh}{w:Yg}{H:Hp}{h:YG}{a:Yi}{o:HO}(x:Zam P w H h a o):∃ob,h.get? a=Wu ob:=by
 cases o with
 |lst xs=>obtain⟨_,_,_,_,e⟩:=x;exact⟨_,e⟩
 |tup xs=>obtain⟨_,_,_,ob,e,_⟩:=x;exact⟨_,e⟩
 |dK kvs=>obtain⟨_,_,_,_,o,_,_,e,_⟩:=x;exact⟨_,e⟩
 |dT kvs=>obtain⟨_,_,_,_,o,_,_,e,_⟩:=x;exact⟨_,e⟩
 |set S_ n=>obtain⟨o,_,_,_,e,_⟩:=x;exact⟨_,e⟩
 |ins C dx fs=>obtain⟨_,_,_,e,_⟩:=x;exact⟨_,e⟩
 |own y=>obtain⟨_,e⟩:=x;exact⟨_,e⟩
 |xd fs=>obtain⟨_,⟨_,_,_,e,_⟩,_⟩:=x;exact⟨_,e⟩
 |rng lo hi=>obtain⟨_,_,_,e⟩:=x;exact⟨_,e⟩
 |frz ob u=>obtain⟨e,_⟩:=x;exact⟨_,e⟩
 |tbl ps=>exact⟨_,(show h.get? a=Wu _ from x)⟩
 |met f y=>exact⟨_,(show h.get? a=Wu _ from x)⟩
 |ext φ=>obtain⟨_,⟨_,e⟩,_⟩:=x;exact⟨_,e⟩
def Kept(fs:List Yi)(H':Hp)(h h1 B_:YG):Prop:=∀b o,h1.get? b=Wu o->(H' b≠Wv\/((∃o',h.get? b=Wu o')/\b ∉ fs))->B_.get? b=Wu o
noncomputable def CXF(P:Yh)(w:Yg):CXT:=fun outer H s E e s'=>
 ∃(a:Yi) (cls a0:Yj) (H':Hp) (B_:YG),e=.ref a/\s'.os=s.os/\AllBare s'.gens/\Un (frs outer) [] H H' s.heap s'.heap/\HOk P w H' s'.heap /\
  Heap.FlyingW B_ outer a cls a0 s'.heap/\Kept (frs outer) H' s.heap s'.heap B_/\H' a=Wv/\E cls Wv H'
theorem ZdU{P:Yh}{w:Yg}{fs:List Yi}{H H':Hp}{h h1 h2 B_:YG}(un:Un fs [] H H' h h1)(hok:HOk P w H' h1)(kb:Kept fs H' h h1 B_)(stay:B_.StaysIn h2)(up:h1.UpToSlots h2)
 (hf:∀b∈fs,∃o,h1.get? b=Wu o/\∀vs,o.data≠.fields vs):Un fs [] H H' h h2/\HOk P w H' h2/\Kept fs H' h h2 B_:=by
 have tr:∀b u,H' b=Wu u->∃o,h1.get? b=Wu o/\h2.get? b=Wu o/\B_.get? b=Wu o:=fun b u e=>by obtain⟨o,q⟩:=(hok b u e).there;have z:=kb b o q (.inl (by rw[e];simp));exact⟨o,q,stay _ _ z,z⟩
 have old:∀b o,h.get? b=Wu o->b ∉ fs->∃o1,h1.get? b=Wu o1/\h2.get? b=Wu o1/\B_.get? b=Wu o1:=fun b o e hb=>by obtain⟨o1,q⟩:=un.there b o e (by simp);have z:=kb b o1 q (.inr ⟨⟨o,e⟩,hb⟩);exact⟨o1,q,stay _ _ z,z⟩
 refine⟨⟨fun b o e n hb _=>?_,fun b o e n hb _=>?_,fun b o e n _=>un.free b o e n (by simp),fun b o e _=>?_,un.tups,un.frzs,un.tbls⟩,fun b u e=>?_,fun b o e hb=>?_⟩
 . obtain⟨o1,q1,q2,_⟩:=old b o e hb;have z:=un.keep b o e n hb (by simp);rw[q1]at z;cases z;exact q2
 . obtain⟨sl,z⟩:=un.slot b o e n hb (by simp);obtain⟨o',z',nf⟩:=hf b hb;rw[z]at z';cases z';obtain⟨sl',q⟩:=up b _ z nf;exact⟨sl',q⟩
 . by_cases hb:b∈fs
   . obtain⟨o',z',nf⟩:=hf b hb;obtain⟨sl',q⟩:=up b _ z' nf;exact⟨_,q⟩
   . obtain⟨o1,_,q2,_⟩:=old b o e hb;exact⟨_,q2⟩
 . refine(hok b u e).stay (fun c v hc q=>?_) (fun _ q=>q) fun _ _ q=>q;have hc':∃u',H' c=Wu u':=by
    rcases hc with rfl|hc
    . exact⟨u,e⟩
    . exact⟨_,hc⟩
   obtain⟨u',e'⟩:=hc';obtain⟨o,q1,q2,_⟩:=tr c u' e';rw[q]at q1;cases q1;exact q2
 . rcases hb with hb|⟨⟨o',e'⟩,hb⟩
   . cases q:H' b with
     |none=>exact absurd q hb
     |some u=>obtain⟨o1,q1,q2,q3⟩:=tr b u q;rw[e]at q2;cases q2;exact q3
   . obtain⟨o1,q1,q2,q3⟩:=old b o' e' hb;rw[e]at q2;cases q2;exact q3
def Zia(X:Cx)(E:XK):Prop:=∀(pins:List (Yi×Obj)) (Z:St) (H:Hp) (s:Yb) (h':YG) (e:Yi) (cls:Yj) (vs:List Yj),Inv X pins Z H s->Heap.MadeExcOf s.heap h' e cls vs->E cls Wv H->X.xe (.ref e) {s with heap:=h'}
section
variable {P:Yh}{w:Yg}{K:Yk}{mg:Str->Option Yj}{base:YG}{N:List Str}{qual:Str}{scope:Scope}{f:Yi}{cd:Yj}{A:YH}{outer:List Env}{s0:Yb}{H0:Hp}{E:XK}
theorem Znc:Zia (ZkB (CXF P w) P w K mg base N qual scope f cd A outer s0 H0 E) E:=by
 intro pins Z H s h' e cls vs I hx hE;have hfr:(A.deeper (envOfC qual scope s0.heap.objs.size f cd)).frames=Wu (envOfC qual scope s0.heap.objs.size f cd::outer):=I.ok.frames;have hin:∀env∈(envOfC qual scope s0.heap.objs.size f cd::outer),∀b,env.frame=Wu b->b∈(envOfC qual scope s0.heap.objs.size f cd::outer).filterMap (·.frame):=fun env he b hb=>List.mem_filterMap.mpr ⟨env,he,hb⟩;have hst:s.heap.FunFrames base (envOfC qual scope s0.heap.objs.size f cd::outer):=I.stack;show YB (model P w) (A.deeper (envOfC qual scope s0.heap.objs.size f cd)) (leaving (envOfC qual scope s0.heap.objs.size f cd) (.ref e)) _ _ {s with heap:=h'};refine wpAny_leaves_madeW (s:={s with heap:=h'}) (base:=PySem.W.hideAll s.heap (frs (envOfC qual scope s0.heap.objs.size f cd::outer))) hfr rfl (fun b o q=>PySem.W.of_hideAll _ q) (PySem.W.funFrames_hide hst hin) hx fun h'' t x1 x2 x3 x4=>?_;have un:Un (frs outer) [] H0 H s0.heap h':=(I.base:Un (frs outer) [] H0 H s0.heap s.heap).trans (Un.kept hx.keeps);have hok:HOk P w H h':=I.hok.kept hx.keeps;have kb:Kept (frs outer) H s0.heap h' (PySem.W.hideAll s.heap (frs (envOfC qual scope s0.heap.objs.size f cd::outer))):=fun b o e1 hb=>by
  rcases hb with hb|⟨⟨o',e'⟩,hb⟩
  . cases q:H b with
    |none=>exact absurd q hb
    |some u=>
     obtain⟨o1,q1⟩:=(I.hok b u q).there;have q2:=hx.keeps b o1 q1;rw[e1]at q2;cases q2;exact PySem.W.hideAll_get _ q1 fun hm=>by have z:H b=Wv:=I.stkFree b hm;rw[q]at z;cases z
  . obtain⟨o1,q1⟩:=(I.base:Un (frs outer) [] H0 H s0.heap s.heap).there b o' e' (show b ∉ ([]:List Yi)from List.not_mem_nil);have q2:=hx.keeps b o1 q1;rw[e1]at q2;cases q2;refine PySem.W.hideAll_get _ q1 fun hm=>?_;have hm':b∈s0.heap.objs.size::frs outer:=I.stkSub b hm;rcases O2.mp hm' with z|z
    . rw[z]at e';exact absurd (Yn e') (Yw _)
    . exact hb z
 have hfo:∀b∈frs outer,∃o,h'.get? b=Wu o/\∀vs,o.data≠.fields vs:=fun b hb=>by obtain⟨_,o,q,nf⟩:=I.funs.mem hb;exact⟨o,hx.keeps _ _ q,nf⟩
 obtain⟨r1,r2,r3⟩:=ZdU un hok kb x1.1 x4 hfo;refine⟨e,cls,_,H,_,rfl,I.os,I.bare,r1,r2,x1,r3,?_,hE⟩;cases q:H e with
 |none=>rfl
 |some u=>obtain⟨o1,q1⟩:=(I.hok e u q).there;rw[hx.new]at q1;cases q1
theorem ZpX{E1:XK}(h:∀cls H',E1 cls Wv H'->E cls Wv H'):ZbM (CXF P w) (ZkB (CXF P w) P w K mg base N qual scope f cd A outer s0 H0 E) E1:=by
 intro pins Z H s e s' I hx;obtain⟨a,cls,a0,H',B_,rfl,os,bare,un,hok,fl,kb,ha,hE⟩:=hx;have I':=I.call' (ch:=[]) os un hok bare (fun b z=>absurd z (by simp));have hfr:(A.deeper (envOfC qual scope s0.heap.objs.size f cd)).frames=Wu (envOfC qual scope s0.heap.objs.size f cd::outer):=I.ok.frames;show YB (model P w) (A.deeper (envOfC qual scope s0.heap.objs.size f cd)) (leaving (envOfC qual scope s0.heap.objs.size f cd) (.ref a)) _ _ s';refine wpAny_leaves_onW hfr rfl fl fun h'' x1 x4=>?_;have kb':Kept (frs outer) H' s0.heap s'.heap B_:=fun b o e1 hb=>by
  refine kb b o e1 ?_;rcases hb with hb|⟨⟨o',e'⟩,hb⟩
  . exact .inl hb
  . obtain⟨o1,q1⟩:=(I.base:Un (frs outer) [] H0 H s0.heap s.heap).there b o' e' (show b ∉ ([]:List Yi)from List.not_mem_nil);refine .inr ⟨⟨o1,q1⟩,fun hm=>?_⟩;have hm':b∈s0.heap.objs.size::frs outer:=I.stkSub b hm;rcases O2.mp hm' with z|z
    . rw[z]at e';exact absurd (Yn e') (Yw _)
    . exact hb z
 have hfo:∀b∈frs outer,∃o,s'.heap.get? b=Wu o/\∀vs,o.data≠.fields vs:=fun b hb=>by obtain⟨_,o,q,nf⟩:=I'.funs.mem hb;exact⟨o,q,nf⟩
 obtain⟨r1,r2,r3⟩:=ZdU (I'.base:Un (frs outer) [] H0 H' s0.heap s'.heap) hok kb' x1.1 x4 hfo;exact⟨a,cls,a0,H',B_,rfl,I'.os,bare,r1,r2,x1,r3,ha,h _ _ hE⟩
end
theorem ZgU{P:Yh}{w:Yg}{X:Cx}:ZbM (CXF P w) X E0:=fun _ _ _ _ _ _ _ h=>by obtain⟨_,_,_,_,_,_,_,_,_,_,_,_,_,z⟩:=h;exact z.elim
end L2
end
section
namespace L2
open PySem PySem.Spec PyProof.Rows
theorem ZqA{K:Yk}{h:YG}{C:Yi}{bmB:List Yj}{newId:String}(X:K.In h)(q:PySem.W.excIn K C bmB newId=Ww):
 ∃bm N nm qn bs hdct sn sub ab col dd k0 k1 k2 k3 k5 mN,h.get? C=Wu (excClassObj nm qn C N bs bm hdct sn sub ab col dd k0 k1 k2 k3 k5 newId)/\h.Ns N mN/\mN "__init__" = Wv/\OwnTail h bmB bm:=by
 unfold PySem.W.excIn at q;split at q
 . rename_i dd cd sl ho;split at q
   . rename_i C' bm k0 k1 k2 k3 n k5 hm hs;simp only[Oa,beq_iff_eq,Bool.not_eq_true']at q;obtain⟨⟨⟨⟨⟨rfl,rfl⟩,hdel⟩,ht⟩,hok⟩,hni⟩:=q;obtain⟨nm,bs,mro,ns,qn,hd,sn,sub,ab,col,del⟩:=cd;dsimp only at hm hdel hok hni;subst hm hdel;have hsl:sl=#[k0,k1,k2,k3,Wu (.builtin n),k5]:=by obtain⟨l⟩:=sl;simp only at hs;rw[hs]
     subst hsl;exact⟨bm,ns,nm,qn,bs,hd,sn,sub,ab,col,dd,k0,k1,k2,k3,k5,_,X _ _ ho,.of_isNs (PySem.W.isNs_of_in X hok),PySem.W.nsMap_none_of_in X hok hni,PySem.W.tail_of_in X ht⟩
   . cases q
 . cases q
section
variable {X:Cx}{x:Str}{C:Yi}{bmB:List Yj}{B_ newId initId:String}{np cpos pos:Pos}{e:Expr}{es:List Expr}{t:TA}{E:XK}
noncomputable def ZrK(C:Yi)(E:XK)(t:TA):TS:=fun _ Z H=>t Z H fun vs H1=>vs.length<=sizeLine/\E (.ref C) Wv H1
theorem Znt(hR:Zia X E)(hc:X.calm=Ww)(FB:ExcBaseFacts B_ newId initId bmB)(hg:Gl X x)(hm:X.mg x=Wu (.ref C))(hq:PySem.W.excIn X.K C bmB newId=Ww)(ha:PA X (e::es) t)
 (hdb:(x==("__debug__" : Str))=Wx:=by decide) (he:YA (e::es) X.env=(Wx,eval e X.env)::YA es X.env:=by rfl) (hpl:(YS cpos (YA es X.env)).any (·.1)=Wx:=by rfl) :
 PS X (.Raise (Wu (.Call (.Name x np) (e::es) [] cpos)) Wv pos) (ZrK C E t):=by
 intro pins s Z H D I h;obtain⟨tl,N,nm,q,bs,hdct,sn,sub,ab,col,dd,k0,k1,k2,k3,k5,mN,hC,hN,hni,T⟩:=ZqA I.mod.kin hq;refine wpAny_Raise_call_subT (C:=C) (nm:=nm) (q:=q) (N:=N) (bs:=bs) (bm:=tl) (hdct:=hdct) (sn:=sn) (sub:=sub) (ab:=ab) (col:=col) (dd:=dd) (k0:=k0) (k1:=k1) (k2:=k2) (k3:=k3) (k5:=k5)
  FB (mN:=mN) (T.hasType FB.hasBase) (I.ok.hd hc) (by rw[he];show(Wx || (YS cpos (YA es X.env)).any (·.1))=Wx;rw[hpl];rfl) hni (Zcv I hg hm ⟨rfl,?_⟩ hdb)
 have h1:=ha cpos pins s Z H _ I h;rw[he]at h1 ⊢;refine Calls.evalArgs_plain (thn h1 fun us s2 ⟨vs,H2,I2,r2,hl,hE⟩=>?_);exact⟨rfl,by rw[<- r2.length];exact hl,I2.bk _ _ hC,hN.keeps I2.bk,T.keeps I2.bk,fun h' a hmade=>hR pins Z H2 s2 h' a _ us I2 hmade hE⟩
end
noncomputable def cxH(X:Cx)(a:Yi)(oe:Obj):Cx:={X with A:=X.A.mark (Wu (.ref a)),calm:=false,pn:=X.pn++[(a,oe)],xe:=fun _ _=>False}
noncomputable abbrev cxM(X:Cx)(a:Yi):Cx:={X with A:=X.A.mark (Wu (.ref a)),calm:=false,xe:=fun _ _=>False}
section
variable {X:Cx}{pins:List (Yi×Obj)}{Z:St}{H:Hp}{s:Yb}{a:Yi}{oe:Obj}
theorem Inv.toM(I:Inv X pins Z H s)(a:Yi):Inv (cxM X a) pins Z H s:=⟨⟨I.ok.mod,I.ok.kind,I.ok.glob,I.ok.blt,I.ok.above,I.ok.inj,I.ok.has,I.ok.cab,fun z=>absurd z Ow,I.ok.frames,I.ok.stk,I.ok.exf,I.ok.bs,I.ok.bsz,I.ok.noex,I.ok.exfs,I.ok.funs,I.ok.frf⟩,I.os,I.bare,I.base,I.loc,I.cell,I.free,I.freeC,I.pin,I.hok,I.len⟩
theorem Inv.toH(I:Inv X pins Z H s)(h1:s.heap.get? a=Wu oe)(h2:H a=Wv)(h3:a≠X.env.locals)(h4:a ∉ X.fs)(h5:∀v,oe.data≠.cell v):Inv (cxH X a oe) pins Z H s:=
 ⟨⟨I.ok.mod,I.ok.kind,I.ok.glob,I.ok.blt,I.ok.above,I.ok.inj,I.ok.has,I.ok.cab,fun z=>absurd z Ow,I.ok.frames,I.ok.stk,I.ok.exf,I.ok.bs,I.ok.bsz,I.ok.noex,I.ok.exfs,I.ok.funs,I.ok.frf⟩,I.os,I.bare,I.base,I.loc,I.cell,I.free,I.freeC,
  fun p hp=>by
   rcases OD.mp (show p∈(X.pn++[(a,oe)])++pins from hp)with z|z
   . rcases OD.mp z with z|z
     . exact I.pin p (Ys _ z)
     . have e:p=(a,oe):=by simpa using z
       subst e;exact⟨h1,h2,h3,h4,h5⟩
   . exact I.pin p (Ov _ z),I.hok,I.len⟩
theorem Inv.ofH(I:Inv (cxH X a oe) pins Z H s)(hd:X.calm=Ww->X.A.handled=Wv):Inv X pins Z H s :=
 ⟨⟨I.ok.mod,I.ok.kind,I.ok.glob,I.ok.blt,I.ok.above,I.ok.inj,I.ok.has,I.ok.cab,hd,I.ok.frames,I.ok.stk,I.ok.exf,I.ok.bs,I.ok.bsz,I.ok.noex,I.ok.exfs,I.ok.funs,I.ok.frf⟩,I.os,I.bare,I.base,I.loc,I.cell,I.free,I.freeC,
   fun p hp=>I.pin p (by
     rcases OD.mp hp with z|z
     . exact Ys _ (Ys _ z)
     . exact Ov _ z),I.hok,I.len⟩
end
theorem Zi4{K:Yk}{M:Model}{A:YH}{E:Yj->Yb->Prop}{s:Yb}{C C2 a:Yi}{oe:Obj}{Q:Bool->Yb->Prop}(X:K.In s.heap)(h1:PySem.W.typeIn K (.ref C2)=Wu (.type "type"))(h0:(PySem.W.clsIn K C2).isSome=Ww)
 (h2:YV K (.ref C2) (.type "BaseException")=Wu Ww) (h3:YV K (.ref C) (.ref C2)=Wu Ww) (he:s.heap.get? a=Wu oe) (hc:oe.cls=.ref C) (q:Q Ww s):YB M A (excMatches (.ref a) (.ref C2)) Q E s:=by
 have i1:PySem.W.instIn K (.ref C2) (.type "tuple")=Wu Wx:=by unfold PySem.W.instIn;rw[h1];show YV K (.type "type") (.type "tuple")=Wu Wx;show YV [] (.type "type") (.type "tuple")=Wu Wx;decide +kernel
 have L1:=PySem.W.looks_instIn (M:=M) X i1;have L2:=PySem.W.looks_subIn (M:=M) X h2;have L3:=PySem.W.looks_subIn (M:=M) X h3;have L0:PySem.W.Looks M s.heap (isType (.ref C2)) Ww:=by
  unfold PySem.W.clsIn at h0;split at h0
  . rename_i c' d' cd' sl' ho;intro A' Q' E' s' k q;unfold isType loadHead;exact Ya (wpAny_loadPart (k _ _ (X _ _ ho)) (Yc q))
  . cases h0
 have LT:PySem.W.Looks M s.heap (typeOf (.ref a)) (.ref C):=by rw[<- hc];exact(PySem.W.Looks.ld he).andThen .now
 unfold excMatches isExcClass
 repeat (any_goals (first|assumption|lk|wp_step))
structure ExcN(K:Yk)(C2:Yi):Prop where
 ty:PySem.W.typeIn K (.ref C2)=Wu (.type "type")
 cls:(PySem.W.clsIn K C2).isSome=Ww
 exc:YV K (.ref C2) (.type "BaseException")=Wu Ww
end L2
end
section
namespace L2
open PySem PySem.Spec PyProof.Rows
def Def(P:Yh)(w:Yg)(K:Yk)(mg:Str->Option Yj)(base:YG)(k:Nat)(x:Str)(ps:List Str)(sp:Sp):Prop:=∃f fd,mg x=Wu (.ref f)/\Wf K (.ref f)=Ww/\Binds K fd ps []/\FnOk P w K mg base (CXF P w) k f fd ps sp
section
variable {X:Cx}{k:Nat}{x:Str}{ps:List Str}{sp:Sp}{E:XK}{e:Expr}{es:List Expr}{t:TA}{p pos:Pos}
noncomputable def ZvD(sp:Sp)(E:XK)(t:TA):TE:=fun Z H Q=>t Z H fun vs H1=>sp vs H1 Q E
theorem Zsl(D:Def X.prog X.w X.K X.mg X.base k x ps sp)(hr:Room k X.A)(hg:Gl X x)(hx:ZbM (CXF X.prog X.w) X E)(ha:PA X (e::es) t)
 (hdb:(x==("__debug__" : Str))=Wx:=by decide) (he:YA (e::es) X.env=(Wx,eval e X.env)::YA es X.env:=by rfl) (hpl:(YS pos (YA es X.env)).any (·.1)=Wx:=by rfl) :
 PE X (.Call (.Name x p) (e::es) [] pos) (ZvD sp E t):=by
 obtain⟨f,fd,h1,h2,h3,h4⟩:=D;intro pins s Z H Q I h;refine ZpV h4 hr hg h1 h2 h3 .nil hx ha hdb he hpl pins s Z H Q I ?_;have z:t Z H fun vs H1=>sp vs H1 Q E:=h;show t Z H fun vs H1=>sp (vs++[]) H1 Q E;simpa only[Yt]using z
end
end L2
end
section
namespace L2
open PySem PySem.Spec PyProof.Rows
section
variable {X:Cx}{pins:List (Yi×Obj)}{Z:St}{H:Hp}{s:Yb}{h':YG}
theorem Zlx{ch:List Yi}(hf:∀b∈ch,Zdn X pins H b):∀b∈ch,(b∈X.ex\/X.s₀.heap.objs.size<=b)/\b≠X.env.locals/\(∀x c,X.env.cells.lookup x=Wu c->c≠b)/\∀p∈X.pn++pins,p.1≠b:=fun b hb=>by obtain⟨_,f1,_,f3,f4,f5⟩:=hf b hb;exact⟨f3,f1,f4,f5⟩
theorem Inv.turnL{t':Nat}{ch:List Yi}(I:Inv X pins Z H s)(hf:∀b∈ch,Zdn X pins H b)(k:∀b o,b ∉ ch->s.heap.get? b=Wu o->h'.get? b=Wu o):Inv X pins Z H {s with heap:=h',toks:=t'}:=by
 have nit:∀b u,H b=Wu u->b ∉ ch:=fun b u e z=>by rw[(hf b z).1]at e;cases e
 refine I.step (g':=s.gens) (d':=s.drawn) (ch:=ch) (Zlx hf) (fun b o _ _ hc e _=>k b o hc e) (fun b o _ _ hc e _=>⟨o.slots,k b o hc e⟩) (fun _ _ _ _ n=>n)
  (fun b o hc e=>⟨o,k b o hc e⟩) (fun _ _ e=>e) (fun _ _ _ e=>e) (fun b ps e=>⟨#[],by rw[e];simp⟩) (fun m hm=>?_) (fun b u e=>?_) I.bare
 . obtain⟨o,es,ep,ho,r⟩:=hm;exact⟨o,es,ep,k _ o (fun z=>(hf _ z).2.1 rfl) ho,r⟩
 . refine(I.hok b u e).stay (fun c v hc q=>k c v ?_ q) (fun _ q=>q) fun _ _ q=>q;rcases hc with z|z
   . rw[z];exact nit b u e
   . exact nit c _ z
theorem Inv.turnT{t':Nat}{ch:List Yi}{T:Yi}{vs:List V}{us:List Yj}(I:Inv X pins Z H s)(hf:∀b∈ch,Zdn X pins H b)(k:∀b o,b ∉ ch->s.heap.get? b=Wu o->h'.get? b=Wu o)
 (hT:s.heap.objs.size<=T) (tup:Zbp h' T us.toArray) (rv:Zl vs us) (hz:vs.length<=sizeLine):Inv X pins Z (upd H T (.tup vs)) {s with heap:=h',toks:=t'}:=by
 have nit:∀b u,H b=Wu u->b ∉ ch:=fun b u e z=>by rw[(hf b z).1]at e;cases e
 have neT:∀b o,s.heap.get? b=Wu o->b≠T:=fun b o e=>Ou (O3 (Yn e) hT);have hTn:H T=Wv:=I.hok.fresh hT;refine I.step (g':=s.gens) (d':=s.drawn) (ch:=ch) (Zlx hf) (fun b o _ _ hc e _=>k b o hc e) (fun b o _ _ hc e _=>⟨o.slots,k b o hc e⟩) (fun b o _ e n=>by rw[Zg (neT b o e)];exact n)
  (fun b o hc e=>⟨o,k b o hc e⟩) (fun b xs e=>by rw[Zg (ZP e hTn)];exact e) (fun b o u e=>by rw[Zg (ZP e hTn)];exact e) (fun b ps e=>⟨#[],by rw[Zg (ZP e hTn),e];simp⟩) (fun m hm=>?_) (fun b u e=>?_) I.bare
 . obtain⟨o,es,ep,ho,r⟩:=hm;exact⟨o,es,ep,k _ o (fun z=>(hf _ z).2.1 rfl) ho,r⟩
 . by_cases hb:b=T
   . subst hb;rw[Zi]at e;cases e;exact⟨hz,us,rv,tup⟩
   . rw[Zg hb]at e;refine(I.hok b u e).stay (fun c v hc q=>k c v ?_ q) (fun c q=>by rw[Zg (ZP q hTn)];exact q) fun c xs q=>by rw[Zg (ZP q hTn)];exact q
     rcases hc with z|z
     . rw[z];exact nit b u e
     . exact nit c _ z
end
noncomputable def Ite(K:Yk)(a:Yi):It:=⟨fun i H=>∃xs x,SqL K H a xs/\xs[i]? = Wu x,fun i H v H'=>∃p,v=.ref p/\H p=Wv/\∃x,(∀xs,SqL K H a xs->xs[i]? = Wu x)/\H'=upd H p (.tup [.int i,x]),fun i H=>∃xs,SqL K H a xs/\xs.length=i⟩
theorem ZlO{P:Yh}{w:Yg}{K:Yk}{es:List Expr}{kk:Nat}{tp:Pos}(a it e:Yi)(hei:e≠it)(hae:a≠e)(hai:a≠it):
 Turn P w K (.Tuple es kk tp) (Ite K a) [e,it] e (fun i h=>(∃old,IsEnum h e it i old)/\h.IsListIter it a i) where
 mem:=by simp
 obj:=fun i h st b hb=>by
  obtain⟨⟨old,he⟩,o,e1,c,d⟩:=st;rcases O2.mp hb with rfl|hb
  . exact⟨_,he,fun v z=>by cases z⟩
  . have e2:b=it:=by simpa using hb
    subst e2;exact⟨o,e1,fun v z=>by rw[d]at z;cases z⟩
 keep:=fun i h h' st k=>by obtain⟨⟨old,he⟩,st⟩:=st;exact⟨⟨old,k e (by simp) _ he⟩,st.at fun o z=>k it (by simp) o z⟩
 item:=by
  intro X hP hw hK hc i pins s Z H E I hf st hg;subst hP hw hK;obtain⟨xs,x,hq,hx⟩:=hg;obtain⟨its,rv,p,hz⟩:=I.list hq;have hl:=rv.length;have hi:i<xs.length:=(Ob.mp hx).1;have W:=WalksT.enumerate (prog:=X.prog) (w:=X.w) (I.ok.hd hc) e it a hei hae hai its.toArray;have itm:∀(Q':Option Yj->Yb->Prop) (E':Yj->Yb->Prop),(∀T vals h' tk,(∃t x,its.toArray[i]? = Wu x/\vals=#[.int i t,x])->s.heap.objs.size<=T->Zbp h' T vals ->
   ((∃x,IsEnumOut h' e it ((i:Int)+1) x T)/\h'.IsListIter it a (i+1)/\h'.IsList a its.toArray/\T≠e/\T≠it)->(∀b o,b ∉ [e,it]->s.heap.get? b=Wu o->h'.get? b=Wu o)->Q' (Wu (.ref T)) {s with heap:=h',toks:=tk}) ->
   YB (model X.prog X.w) X.A (pyNext (.ref e)) Q' E' s:=by
   intro Q' E' hQ;obtain⟨⟨old,he⟩,hit⟩:=st;have hx2:its.toArray[i]? = Wu (its.toArray[i]'(by simp;omega)):=Array.getElem?_eq_getElem (by simp;omega);refine wpAny_pyNext_enum_item he hit p.isList hx2 hei fun h' ho hit' hT hsz hk=>?_;have e1:e<s.heap.objs.size:=Yn he;have e2:it<s.heap.objs.size:=by obtain⟨_,z,_⟩:=hit;exact Yn z
   exact hQ s.heap.objs.size _ h' (s.toks+1) ⟨_,_,hx2,rfl⟩ (Oq _) ⟨_,hT,rfl,rfl,_,rfl⟩ ⟨⟨_,ho⟩,hit',p.isList.at fun o z=>hk a o hae hai z,Nat.ne_of_gt e1,Nat.ne_of_gt e2⟩
    fun b o hb z=>hk b o (fun e'=>hb (by simp[e'])) (fun e'=>hb (by simp[e'])) z
  refine itm _ _ fun T vals h1 tk hP hT tup mid kk=>?_;refine⟨_,rfl,W.go _ _ _ i T {s with heap:=h1,toks:=tk} _ _ mid fun h2 st2 kk2=>?_⟩;obtain⟨t,y,hy,rfl⟩:=hP;have hy':its[i]? = Wu y:=by simpa using hy
  obtain⟨u,hu,ru⟩:=rv.get hx;rw[hy']at hu;cases hu;have hTw:T ∉ [e,it]:=W.apart i T h1 mid;have tup2:Zbp h2 T #[.int i t,y]:=by obtain⟨o,q,r⟩:=tup;exact⟨o,kk2 T o hTw q,r⟩
  have I2:Inv X pins Z (upd H T (.tup [.int i,x])) {s with heap:=h2,toks:=tk}:=I.turnT hf (fun b o hb q=>kk2 b o hb (kk b o hb q)) hT (us:=[.int i t,y]) tup2 (.cons ⟨t,rfl⟩ (.cons ru .nil)) (by show 2<=sizeLine;decide);refine⟨.ref T,_,I2,rfl,⟨T,rfl,I.hok.fresh hT,x,fun ys hy=>by rw[I.list_inj hy hq];exact hx,rfl⟩,⟨st2.1,st2.2.1⟩,fun b hb=>?_⟩;have neb:b≠T:=fun z=>hTw (by rw[<- z];exact hb);rw[Zg neb];exact(hf b hb).1
 done:=by
  intro X hP hw hK hc i pins s Z H E I hf st hg;subst hP hw hK;obtain⟨xs,hq,hx⟩:=hg;obtain⟨its,rv,p,hz⟩:=I.list hq;have hl:=rv.length;have W:=WalksT.enumerate (prog:=X.prog) (w:=X.w) (I.ok.hd hc) e it a hei hae hai its.toArray;have e1:its.toArray.size=i:=by simp;omega
  refine W.done s _ _ ?_ fun h1 tk kk=>⟨rfl,I.turnL hf kk⟩
  rw[e1];exact⟨st.1,st.2,p.isList⟩
 self:=fun A i s Q E st h=>by obtain⟨⟨old,he⟩,_⟩:=st;exact wpAny_pyIter_enum he h
noncomputable def ZuN(K:Yk)(ta:TA):TI:=fun Z H R=>ta Z H fun vs H1=>∃a,vs=[.ref a]/\(∃xs,SqL K H1 a xs)/\R (Ite K a) H1
theorem ZpN{X:Cx}{es:List Expr}{kk:Nat}{tp:Pos}{l:Expr}{ta:TA}{p pos:Pos}(hg:Gl X "enumerate")(hm:X.mg "enumerate" = Wv)(ha:PA X [l] ta)(hs:YA [l] X.env=[(Wx,eval l X.env)]:=by rfl):
 PI X (.Tuple es kk tp) (.Call (.Name "enumerate" p) [l] [] pos) (ZuN X.K ta):=by
 intro pins s Z H R I h;refine Call_ (Zc2 I hg hm boot_enumerate (PyProof.Rows.callWith_type1 (thn (ha pos pins s Z H _ I h) fun us s1 ⟨vs,H1,I1,r1,q1⟩=>?_) hs rfl));obtain⟨a,rfl,⟨xs,hq⟩,q⟩:=q1;obtain⟨u,rfl,ru⟩:=vals1 r1;obtain rfl:u=YD a:=ru;obtain⟨its,rv,pl,hz⟩:=I1.list hq;have hlt:a<s1.heap.objs.size:=by obtain⟨_,_,e,_⟩:=pl;exact Yn e
 refine call_enumerate_list pl.isList fun h' he hi hsz kk=>?_;refine wpAny_pyIter_enum he ?_;refine⟨s1.heap.objs.size+1,[s1.heap.objs.size+1,s1.heap.objs.size],_,_,H1,rfl,I1.kept (t':=s1.toks) kk,ZlO a s1.heap.objs.size (s1.heap.objs.size+1) (Nat.succ_ne_self _) (Ou (Nat.lt_succ_of_lt hlt)) (Ou hlt),⟨⟨_,he⟩,hi⟩,fun b hb=>?_,q⟩;rcases O2.mp hb with rfl|hb
 . exact I1.fpOk (Nat.le_succ _) (I1.hok.fresh (Nat.le_succ _))
 . have e:b=s1.heap.objs.size:=by simpa using hb
   subst e;exact I1.fpOk (Oq _) (I1.hok.fresh (Oq _))
end L2
end
section
namespace L2
open PySem PySem.Spec PyProof.Rows
theorem body_of{X:Cx}{b:List Stmt}{t:TS}{D:Ends}{Z:St}{H:Hp}(h:PSs X b t)(r:t D Z H):∃t,PSs X b t/\t D Z H:=⟨t,h,r⟩
theorem Zbw{x:Str}{t:Tok}:RelV (.str x) (.str x t):=⟨t,rfl⟩
theorem Zy{x:Int}{t:Tok}:RelV (.int x) (.int x t):=⟨t,rfl⟩
theorem Zae{a:Yi}:RelV (.ref a) (.ref a):=rfl
end L2
end
section
namespace L2
open PySem PySem.Spec PyProof.Rows
theorem isSome_of{K:Yk}{C:Yi}(h:PySem.W.isClsIn K C=Ww):(PySem.W.clsIn K C).isSome=Ww:=h
end L2
end
section
namespace L2
open PySem PySem.Spec PyProof.Rows
def DkK(P:Yh)(w:Yg)(K:Yk)(a:Yi)(kvs:List (Key×V)):Prop:=∃(o:Obj) (es:Array DictEntry) (ep:Nat) (vs:List (Key×Yj)),K.lookup a=Wu o/\o.ExactDict/\o.data=.dict es ep/\KeysOf (ZG P w) es/\Pairs (ZG P w) es.toList vs/\(vs.map (·.1)).Nodup/\KV kvs vs/\kvs.length<=sizeLine/\(a==Ye)=Wx
def Dk(P:Yh)(w:Yg)(K:Yk)(H:Hp)(a:Yi)(kvs:List (Key×V)):Prop:=Rd H a (.dK kvs)\/DkK P w K a kvs
section
variable {X:Cx}{pins:List (Yi×Obj)}{Z:St}{H:Hp}{s:Yb}{a:Yi}
theorem Inv.dk{kvs:List (Key×V)}(I:Inv X pins Z H s)(h:Dk X.prog X.w X.K H a kvs):kvs.length<=sizeLine/\(a==Ye)=Wx/\∃vs,KV kvs vs/\s.heap.DictOf (ZG X.prog X.w) a vs:=by
 rcases h with h|⟨o,es,ep,vs,lk,ex,da,ks,ps,nd,kv,z,hm⟩
 . exact Zrj I.hok h
 . exact⟨z,hm,vs,kv,o,es,ep,I.kIn a o lk,ex,da,ks,ps,nd⟩
noncomputable def Zt5(P:Yh)(w:Yg)(K:Yk)(neg:Bool):R2:=fun x y H Q=>∃a kvs k,y=.ref a/\x=kV k/\Dk P w K H a kvs/\Q (.bl (if neg then !(Zd5 kvs k).isSome else(Zd5 kvs k).isSome)) H
theorem Zst:OpR X (YM .In) (Zt5 X.prog X.w X.K Wx):=by intro pins s Z H x y v u Q I rx ry h;obtain⟨a,kvs,k,rfl,rfl,hd,q⟩:=h;cases ry;obtain⟨z,hm,vs,rel,dd⟩:=I.dk hd;refine wpAny_in_of (ZiV rx) hm dd.mapOf ?_;rw[<- (rel.val k).isSome_eq];exact⟨.bl _,H,I.tok _,rfl,q⟩
theorem Zmd:OpR X (YM .NotIn) (Zt5 X.prog X.w X.K Ww):=by intro pins s Z H x y v u Q I rx ry h;obtain⟨a,kvs,k,rfl,rfl,hd,q⟩:=h;cases ry;obtain⟨z,hm,vs,rel,dd⟩:=I.dk hd;refine wpAny_notIn_of (ZiV rx) hm dd.mapOf ?_;rw[<- (rel.val k).isSome_eq];exact⟨.bl _,H,I.tok _,rfl,q⟩
noncomputable def ZvW(P:Yh)(w:Yg)(K:Yk):R2:=fun x y H Q=>∃a kvs k v,x=.ref a/\y=kV k/\Dk P w K H a kvs/\Zd5 kvs k=Wu v/\Q v H
theorem Zqr:IxR X (ZvW X.prog X.w X.K):=by intro value slice pins s Z H x y v u Q I rx ry h hs;obtain⟨a,kvs,k,z,rfl,rfl,hd,hv,q⟩:=h;cases rx;obtain⟨_,hm,vs,rel,dd⟩:=I.dk hd;obtain⟨w',hw,rw'⟩:=ZeA.some_of (v:=z) (o:=valueAt vs k) (by rw[<- hv];exact rel.val k);exact subscriptTail_builtinR (x:=w') dd.typeIs PySem.F.slot_dict_getitem.lookup (wpAny_getItem_of (ZiV ry) dd.mapOf hw ⟨rfl,z,H,I.tok _,rw',q⟩) hs
theorem Zu2{A:YH}{E:Yj->Yb->Prop}{kvs:List (Key×V)}{k:Key}{v:V}{u r:Yj}{Q:Unit->Yb->Prop}(I:Inv X pins Z H s)(e:H a=Wu (.dK kvs))(l:kvs.length<sizeLine)(ry:RelV (kV k) u)(rv:RelV v r)
 (h:∀s',Inv X pins Z (upd H a (.dK (putK kvs k v))) s'->Q () s'):YB (model X.prog X.w) A (setItem (.ref a) u r) Q E s:=by
 obtain⟨z,hd,vs,rel,dd⟩:=Zrk I.hok e;have hz:vs.length<=sizeLine:=by rw[<- rel.length];exact z
 have hl:(putK kvs k v).length<=sizeLine:=by have:=Ze2 kvs k v;omega
 refine wpAny_setItem_pairs (hsz:=hz) (ZiV ry) dd fun h' dd' hs=>h _ ?_;have he:∃q,h'.get? a=Wu q:=let ⟨q,_,_,hq,_⟩:=dd';⟨q,hq⟩;exact ZlC I (by rw[e];exact True.intro) hs he (ZoF hl hd (rel.put k rv) dd')
noncomputable def ZtU:Zo0:=fun o i v H Q=>∃a kvs k,o=.ref a/\i=kV k/\H a=Wu (.dK kvs)/\kvs.length<sizeLine/\Q (upd H a (.dK (putK kvs k v)))
theorem set_dict:ZqX X ZtU:=by intro pins s Z H o i v ov iv u Q I ro ri rv h;obtain⟨a,kvs,k,rfl,rfl,e,l,q⟩:=h;cases ro;exact Zu2 I e l ri rv fun s' I'=>⟨_,I',q⟩
end
end L2
end
section
set_option tactic.hygienic false
namespace L2
open PySem PySem.Spec PyProof.Rows
section
variable {X:Cx}{elt tg iter:Expr}{ifs:List Expr}{scope sc:Scope}{pos:Pos}{NC:List Str}{js:List (Option Nat)}{k:Nat}{wi:TI}{g:TG}{tc:TT}{te:TE}
theorem ZjM{y:Str}{py spos:Pos}{i0:Nat}(hN:X.N.Nodup)(hy:X.N[i0]? = Wu y)(hx:Loc X.env.scope y)(hf:X.fn y=Ww\/X.env.scope.names.lookup y=Wu .local)(S_:CompSc NC X.N js sc scope)(hsc:X.env.scope=sc)(hc:X.calm=Ww)(hi:PI X tg iter wi)
 (hb:∀(C:Yi) (s3:Yb) (H3:Hp) (fp:List Yi),PG (ZK X NC scope C s3 H3 fp) tg g/\PIf (ZK X NC scope C s3 H3 fp) ifs tc/\PE (ZK X NC scope C s3 H3 fp) elt te)
 (hk:ZmJ k g) (hjk:∀j,j<k->js[j]? = Wu Wv) (hs:∀x,foldedSetIterable iter X.env x=pure x:=by intro _;rfl) (hsw:swapsWith (.ListComp elt [⟨tg,iter,ifs,0⟩] scope pos) (Wu (.Name y py)) spos.line X.env=pure Ww:=by rfl) :
 PS X (.Assign [.Name y py] (.ListComp elt [⟨tg,iter,ifs,0⟩] scope pos) spos) (ZmY (Zq5 wi js g tc te) (Zc4 i0)):=by
 intro pins s Z H D0 I h;have hcells:∀y∈scope.names,y.2=.free->∃c,X.env.cells.lookup y.1=Wu c:=fun y hy hf=>I.ok.has y.1 (.inl (show X.env.scope.names.lookup y.1=Wu .cell by rw[hsc];exact S_.free y hy hf));rw[exec_Assign_Name_used _ _ _ _ hsw];refine Ya (wpAny_standAt (Ya ?_));show YB _ X.A (do let _ <- comprehension (.ListComp elt [⟨tg,iter,ifs,0⟩] scope pos) scope X.env _ (newList []) Wx (eval iter X.env) (Wu (assign (.Name y py) X.env))) _ _ s;refine Ya (Yf (wpAny_comprehension_free (use:=Wu (assign (.Name y py) X.env)) (Q:=fun _ s'=>SP X pins D0 .next s') rfl hs (ZdN hcells) S_.kind S_.locs (thn (hi pins s Z H _ I h) fun xv s1 h1=>thn h1 fun itv s2 h2=>?_)) (fun _ s' hq=>Yc (Yc hq)) fun _ _ e=>e);obtain⟨it,fp,tn,J,H2,e,I2,T,st2,f2,rest⟩:=h2;subst e;have hD:H2 s2.heap.objs.size=Wv:=I2.hok.fresh (Oq _);obtain⟨W,⟨m0,w0⟩,turn⟩:=rest s2.heap.objs.size hD;refine Yr (wpAny_newFunctionEnv S_.nocell (by intro y hy;simp at hy) (fun h4 hns hsb=>?_) S_.kind);have I3:Inv X pins Z (upd H2 s2.heap.objs.size (.lst [])) {s2 with heap:=s2.heap.push {cls:=.type "list",dict:=Wv,data:=.seq ([]:List Yj).toArray}}:=I2.lnew (t':=s2.toks) (ys:=[]) (its:=[]) .nil (Yy _);dsimp only at hns hsb ⊢;generalize hs3:({s2 with heap:=s2.heap.push {cls:=.type "list",dict:=Wv,data:=.seq ([]:List Yj).toArray}}:Yb)=s3 at I3;have eh:s2.heap.push {cls:=.type "list",dict:=Wv,data:=.seq ([]:List Yj).toArray}=s3.heap:=by rw[<- hs3]
 have eD:s2.heap.objs.size<s3.heap.objs.size:=by rw[<- eh,Heap.size_push];exact OH _
 rw[eh]at hns hsb;have keep:∀b o,s3.heap.get? b=Wu o->h4.get? b=Wu o:=fun b o e=>(hsb.2 b (Ou (Yn e))).trans (Od _ e);have fpl:∀b∈fp,∃o,s3.heap.get? b=Wu o:=fun b hb=>by obtain⟨o,e,_⟩:=T.obj 0 _ st2 b hb;exact⟨o,by rw[<- eh];exact Od _ e⟩
 have neD:∀b∈fp,b≠s2.heap.objs.size:=fun b hb=>by obtain⟨o,e,_⟩:=T.obj 0 _ st2 b hb;exact Ou (Yn e)
 have f3:∀b∈fp,Zdn X pins (upd H2 s2.heap.objs.size (.lst [])) b:=fun b hb=>⟨by rw[Zg (neD b hb)];exact(f2 b hb).1,(f2 b hb).2⟩
 have I4:=ZiY (tk:=s2.toks+([]:List (Str×Yj)).length) S_ hsc hc I3 f3 fpl rfl hns keep;have st4:tn 0 h4:=T.keep 0 _ _ st2 fun b hb o e=>keep b o (by rw[<- eh];exact Od _ e);have eC:(s2.heap.push {cls:=.type "list",dict:=Wv,data:=.seq ([]:List Yj).toArray}).objs.size=s3.heap.objs.size:=by rw[eh]
 have loop:∀s4:Yb,s4={s3 with heap:=h4,toks:=s2.toks+([]:List (Str×Yj)).length} ->
  codeAny (model X.prog X.w) X.A (.compLoop (.ListComp elt [⟨tg,iter,ifs,0⟩] scope pos) 0 (.ref it) (.ref s2.heap.objs.size) (compEnvC scope (Zeu X.env scope.names []) s3.heap.objs.size X.env))
   (compPost (model X.prog X.w) X.A X.xe (Wu (assign (.Name y py) X.env)) (fun _ s'=>SP X pins D0 .next s') (.ref s2.heap.objs.size) s3.heap.objs.size) s4:=by
  rintro s4 rfl;refine Zg3 (Q:=fun x H1=>Zc4 i0 x Z H1 D0.nx) hb hk hjk rfl I3 f3 fpl I4 T st4 Zi w0 turn (fun s6 H5 I6 qn=>?_);obtain⟨m,hm,_⟩:=I6.loc;have Io:Inv X pins Z H5 s6:=I3.comp_out (h'':=s6.heap) f3 rfl I6 ⟨rfl,fun _ _=>rfl⟩;have fC:Zdn X pins H5 s3.heap.objs.size:=I3.fpOk (Oq _) I6.free;show YB _ X.A (assign (.Name y py) X.env (.ref s2.heap.objs.size)) _ _ _;refine wpAny_assign_Name (ZgJ Io hN hy hx (v:=.ref s2.heap.objs.size) rfl (fun s8 I8 ⟨a8,sb8,ha8⟩=>?_) hf);have ne8:s3.heap.objs.size≠a8:=fun z=>by
   rcases ha8 with e|e
   . exact fC.2.1 (z.trans e)
   . exact fC.2.2.2.2.1 _ _ e z.symm
  refine⟨m,hm.sameBut sb8 ne8,fun h' hs'=>?_⟩;exact⟨_,H5,I8.turnL (t':=s8.toks) (ch:=[s3.heap.objs.size]) (fun b hb=>by rw[Ox.mp hb];exact fC) (fun b o hb e=>(hs'.2 b (fun z=>hb (by rw[z];exact List.mem_singleton_self _))).trans e),qn⟩
 have e4:({s2 with heap:=h4,toks:=s2.toks+([]:List (Str×Yj)).length}:Yb)={s3 with heap:=h4,toks:=s2.toks+([]:List (Str×Yj)).length}:=by rw[<- hs3]
 rw[eC];exact codeAny_compStart_list (loop _ e4) (T.self X.A 0 _ _ _ st4 (loop _ e4))
end
end L2
end
section
namespace L2
open PySem PySem.Spec PyProof.Rows
mutual
inductive Dp(K:Yk)(H:Hp):V->PyData->Prop
 |non:Dp K H .non .none
 |bl (b:Bool):Dp K H (.bl b) (.bool b)
 |int (i:Int):Dp K H (.int i) (.int i)
 |str (x:Str) (ok:Yp x=Ww):Dp K H (.str x) (.str x)
 |lst {a:Yi}{xs:List V}{ds:List PyData}:SqL K H a xs->Dps K H xs ds->Dp K H (.ref a) (.list ds)
 |tup {a:Yi}{xs:List V}{ds:List PyData}:SqT K H a xs->Dps K H xs ds->Dp K H (.ref a) (.tuple ds)
inductive Dps(K:Yk)(H:Hp):List V->List PyData->Prop
 |nil:Dps K H [] []
 |cons {v:V}{vs:List V}{d:PyData}{ds:List PyData}:Dp K H v d->Dps K H vs ds->Dps K H (v::vs) (d::ds)
end
section
variable {K:Yk}{H H':Hp}
mutual
theorem Dp.lay:∀{v:V}{d:PyData},Dp K H v d->d.canLay0=Ww
 |_,_,.non=>rfl
 |_,_,.bl b=>rfl
 |_,_,.int i=>rfl
 |_,_,.str x ok=>ok
 |_,_,.lst h r=>Dps.lay r
 |_,_,.tup h r=>Dps.lay r
theorem Dps.lay:∀{v:List V}{d:List PyData},Dps K H v d->PyData.canLayAll0 d=Ww
 |_,_,.nil=>rfl
 |_,_,.cons h r=>by rw[PyData.canLayAll0,Dp.lay h,Dps.lay r];rfl
end
end
section
variable {X:Cx}{pins:List (Yi×Obj)}{Z:St}{H:Hp}{s:Yb}
mutual
theorem Inv.reads(I:Inv X pins Z H s):∀{v:V}{d:PyData}{u:Yj},Dp X.K H v d->RelV v u->∃as,Reads s.heap u d as
 |_,_,_,.non,r=>by cases r;exact⟨_,.none⟩
 |_,_,_,.bl b,r=>by cases r;exact⟨_,.bool b⟩
 |_,_,_,.int i,r=>by obtain⟨t,rfl⟩:=r;exact⟨_,.int i t⟩
 |_,_,_,.str x ok,r=>by obtain⟨t,rfl⟩:=r;exact⟨_,.str x t⟩
 |_,_,_,.lst h rs,r=>by cases r;obtain⟨its,rv,⟨o,n,e,c,_,dd⟩,_⟩:=I.list h;obtain⟨as,q⟩:=Inv.readsAll I rs rv;exact⟨_,.list e c dd (by simpa using q)⟩
 |_,_,_,.tup h rs,r=>by cases r;obtain⟨its,rv,⟨o,e,c,n,dd⟩,_⟩:=I.tuple h;obtain⟨as,q⟩:=Inv.readsAll I rs rv;exact⟨_,.tuple e c dd (by simpa using q)⟩
theorem Inv.readsAll(I:Inv X pins Z H s):∀{v:List V}{d:List PyData}{u:List Yj},Dps X.K H v d->Zl v u->∃as,ReadsAll s.heap u d as
 |_,_,_,.nil,r=>by cases r;exact⟨_,.nil⟩
 |_,_,_,.cons h rs,r=>by
  cases r with
  |cons r1 r2=>obtain⟨as,q⟩:=Inv.reads I h r1;obtain⟨bs,q2⟩:=Inv.readsAll I rs r2;exact⟨_,.cons q q2⟩
end
end
end L2
end
section
set_option tactic.hygienic false
namespace L2
open PySem PySem.Spec PyProof.Rows
namespace Rv
theorem own:Manifest.owners.lookup (String.ofList ['d','e','s','r','e','v','e','r'].reverse)=Wu Manifest.sig_reversed:=by kernel_rfl
theorem next:Slot "reversed" "__next__" "reversed.__next__" :=
 .of (owner := "reversed") (n := "__next__") (by rw[typeLookup_type,builtinLookup_eq_fast]<;>kernel_rfl) (by decide +kernel) (by decide +kernel) (by decide +kernel) (by first|exact .inl (by decide +kernel)|exact .inr (by decide +kernel)) (by rw[isSubtype_type]<;>kernel_rfl)
theorem Zrh:entryFor table "reversed.__next__" = Wu Builtin.«reversed.__next__»:=entryFor_of_tree (by kernel_rfl)
theorem Zru(a:Yj):argsOk "reversed.__next__" ⟨[a],[]⟩:=by unfold argsOk;rw[signature?_of (id := "reversed.__next__") (n:=['_','_','t','x','e','n','_','_']) (o:=['d','e','s','r','e','v','e','r']) (by kernel_rfl) own];kernel_rfl
theorem iter:Slot "reversed" "__iter__" "reversed.__iter__" :=
 .of (owner := "reversed") (n := "__iter__") (by rw[typeLookup_type,builtinLookup_eq_fast]<;>kernel_rfl) (by decide +kernel) (by decide +kernel) (by decide +kernel) (by first|exact .inl (by decide +kernel)|exact .inr (by decide +kernel)) (by rw[isSubtype_type]<;>kernel_rfl)
theorem Zvc(a:Yj):argsOk "reversed.__iter__" ⟨[a],[]⟩:=by unfold argsOk;rw[signature?_of (id := "reversed.__iter__") (n:=['_','_','r','e','t','i','_','_']) (o:=['d','e','s','r','e','v','e','r']) (by kernel_rfl) own];kernel_rfl
theorem Zu1:entryFor table "reversed.__iter__" = Wu Builtin.«dict_keyiterator.__iter__» :=entryFor_alias (id' := "dict_keyiterator.__iter__") (by kernel_rfl) (by first|rfl|decide +kernel|(unfold String.splitOn;simp +decide [String.splitOnAux])) (by decide +kernel) (by kernel_rfl)
theorem Zus:typeLookup (.type "tuple") "__reversed__" = pure Wv:=by rw[typeLookup_type,builtinLookup_eq_fast]<;>kernel_rfl
theorem Zpk:isSubtype (.type "reversed") (.type "reversed")=pure Ww:=by rw[isSubtype_type]<;>kernel_rfl
theorem init:Slot "reversed" "__init__" "object.__init__" :=
 .of (owner := "object") (n := "__init__") (by rw[typeLookup_type,builtinLookup_eq_fast]<;>kernel_rfl) (by decide +kernel) (by decide +kernel) (by decide +kernel) (by first|exact .inl (by decide +kernel)|exact .inr (by decide +kernel)) (by rw[isSubtype_type]<;>kernel_rfl)
theorem called:TypeCalled "reversed" "reversed.__new__" "object.__init__" := ⟨by decide +kernel,F.create_reversed,⟨_,_,F.mro_reversed⟩,F.made_reversed,by decide +kernel,Zpk,init⟩
noncomputable def obj(l:Yi)(i:Int):Obj:={cls:=.type "reversed",data:=.fields #[.ref l,rawInt i]}
def Is(h:YG)(a l:Yi)(i:Int):Prop:=∃o,h.get? a=Wu o/\o.cls=.type "reversed" /\ o.data=.fields #[.ref l,rawInt i]
section
variable {prog:Yh}{w:Yg}{A:YH}{E:Yj->Yb->Prop}{s:Yb}
theorem Is.typeIs{a l:Yi}{i:Int}(x:Is s.heap a l i):s.TypeIs (.ref a) "reversed" := let ⟨o,ho,hc,_⟩:=x;⟨o,ho,hc⟩
theorem Is.at{h h':YG}{a l:Yi}{i:Int}(x:Is h a l i)(e:∀o,h.get? a=Wu o->h'.get? a=Wu o):Is h' a l i:=let ⟨o,ho,r⟩:=x;⟨o,e _ ho,r⟩
theorem new{l:Yi}{items:Array Yj}{Q:Yj->Yb->Prop}(hl:IsTup s.heap l items)(hz:items.size<=sizeLine)
 (h:Q (.ref s.heap.objs.size) {s with heap:=s.heap.push (obj l ((items.size:Int) - 1)),toks:=s.toks+1+1}) :
 codeAny (model prog w) A (.call (.builtin "reversed.__new__") ⟨[.type "reversed",.ref l],[]⟩) (wants Q E) s:=by
 have hfit:(items.size:Int)<2 ^ 63:=by have:=Zcu;omega
 refine codeAny_of_tree ?_;show YB _ A.in1 (do checkBuiltinCall "reversed.__new__" ⟨[.type "reversed",.ref l],[]⟩;again (.builtin "reversed.__new__" ⟨[.type "reversed",.ref l],[]⟩)) _ _ s;refine Ya (Wo (F.newCall_reversed_1 _) (Yc ⟨plainId_quiet F.plain_reversed_new _,codeAny_builtin F.entry_reversed_new ?_⟩));rw[Around.under_plainId F.plain_reversed_new _];unfold Builtin.«reversed.__new__»;refine Ya (Wo (newClass_reversed _) ?_)
 try dsimp only
 refine Ya (Wo (a:=()) (by first|rfl|kernel_rfl) (Ya (Wo (a:=()) (by first|rfl|kernel_rfl) ?_)))
 try dsimp only
 refine Ya (wpAny_specialOf hl.typeIs Zus ?_)
 try dsimp only
 refine Ya ?_;show YB _ _ (isInstance (.ref l) (.type "dict") >>= fun b=>_) _ _ s;refine Ya (wpAny_isInstance hl.typeIs F.sub_tuple_dict ?_);show YB _ _ (specialOf (.ref l) "__getitem__" >>= fun b=>_) _ _ s;refine Ya (wpAny_specialOf hl.typeIs slot_tuple_getitem.lookup ?_);refine Wo (a:=true) (by rfl) ?_;show YB _ _ (call (.builtin "len") [.ref l] >>= fun b=>_) _ _ s;refine Ya (len_tuple hl hfit ?_);show YB _ _ (asInt? (.int _ _) >>= fun b=>_) _ _ _;refine Ya (Yc ?_);show YB _ _ (newObj (.type "reversed") (.fields #[.ref l,rawInt ((items.size:Int) - 1)]) >>= fun b=>_) _ _ _;exact Ya (Yr (Yc h))
theorem call{l:Yi}{items:Array Yj}{Q:Yj->Yb->Prop}(hl:IsTup s.heap l items)(hz:items.size<=sizeLine)
 (h:Q (.ref s.heap.objs.size) {s with heap:=s.heap.push (obj l ((items.size:Int) - 1)),toks:=s.toks+1+1}):YB (model prog w) A (PySem.call (.type "reversed") [.ref l]) Q E s:=by
 refine callType_codes called (F.typeCall_reversed_1 _) F.entry_object_init (new (Q:=fun o s1=>o=.ref s.heap.objs.size/\s1={s with heap:=s.heap.push (obj l ((items.size:Int) - 1)),toks:=s.toks+1+1}) hl hz ⟨rfl,rfl⟩) ?_;rintro _ _ ⟨rfl,rfl⟩;have hT:Shared.TypeIs {s with heap:=s.heap.push (obj l ((items.size:Int) - 1)),toks:=s.toks+1+1} (.ref s.heap.objs.size) "reversed" := ⟨_,Oj _ rfl,rfl⟩
 refine⟨hT,F.args_object_init_2 _ _,?_⟩;exact object_init_meets init.lookup F.made_reversed (by decide) prog w _ _ _ ⟨hT,rfl,h⟩
theorem next_item{it l:Yi}{i:Nat}{items:Array Yj}{x:Yj}{Q:Option Yj->Yb->Prop}(hit:Is s.heap it l (i:Int))(hl:IsTup s.heap l items)(hz:items.size<=sizeLine)(hx:items[i]? = Wu x)
 (hQ:∀h' t',Is h' it l ((i:Int) - 1)->Heap.SameBut it s.heap h'->Q (Wu x) {s with heap:=h',toks:=t'}):YB (model prog w) A (pyNext (.ref it)) Q E s:=by
 obtain⟨o,ho,hc,hd⟩:=id hit;have hi:i<items.size:=by have:=(Array.getElem?_eq_some_iff.mp hx).1;exact this
 have l63:=Zcu;unfold pyNext;refine Ya (wpAny_attempt (Wc (name:=O "__next__") hit.typeIs next (Wh next hit.typeIs Zrh ?_ (Zru _))));unfold Builtin.«reversed.__next__»;refine Ya (Wo (a:=(YD it,[])) rfl ?_)
 try dsimp only
 refine Ya (YR ho hd (x:=.ref l) rfl (Ya (YR ho hd (x:=rawInt (i:Int)) rfl ?_)));show YB _ _ (if (i:Int)<0 then _ else _) _ _ s;rw[if_neg (by omega)];show YB _ _ (specialOf (.ref l) "__getitem__" >>= fun b=>_) _ _ s;refine Ya (wpAny_specialOf hl.typeIs slot_tuple_getitem.lookup ?_);show YB _ _ (mkInt (i:Int) >>= fun b=>_) _ _ s;refine Ya (wpAny_mkInt ?_);refine Ya (wpAny_attempt (getItem_tuple (s:={s with toks:=s.toks+1}) (j:=i) (x:=x) hl (by omega) (by omega) (seqIndex_of (by omega) (by omega)) hx ?_));show YB _ _ (field (.ref it) 1 >>= fun b=>_) _ _ _;refine Ya (YR ho hd (x:=rawInt (i:Int)) rfl ?_);show YB _ _ (setField (.ref it) 1 (rawInt ((i:Int) - 1)) >>= fun b=>_) _ _ _;refine Ya (wpAny_setField ho hd (by simp) ?_);refine Yc ⟨x,rfl,Yc (hQ _ _ ?_ (Heap.SameBut.update ..))⟩;exact⟨_,YW _ ho (Obj.isFreed_of_fields (YY hd _)),(Obj.cls_mapFields ..).trans hc,by rw[YY hd]<;>simp⟩
theorem next_end{it l:Yi}{Q:Option Yj->Yb->Prop}(hh:A.handled=Wv)(hit:Is s.heap it l (-1))(hQ:∀h',Heap.ExtBut it s.heap h'->Q Wv {s with heap:=h'}):YB (model prog w) A (pyNext (.ref it)) Q E s:=by
 obtain⟨o,ho,hc,hd⟩:=id hit;unfold pyNext;refine Ya (wpAny_attempt (Wc (name:=O "__next__") hit.typeIs next (Wh next hit.typeIs Zrh ?_ (Zru _))));unfold Builtin.«reversed.__next__»;refine Ya (Wo (a:=(YD it,[])) rfl ?_)
 try dsimp only
 refine Ya (YR ho hd (x:=.ref l) rfl (Ya (YR ho hd (x:=rawInt (-1)) rfl ?_)));show YB _ _ (if (-1:Int)<0 then _ else _) _ _ s;rw[if_pos (by decide)];refine Ya (wpAny_rule ?_);show YB _ _ ((setField (.ref it) 1 (rawInt (-1)) >>= fun _=>setField (.ref it) 0 .none) >>= fun b=>_) _ _ _;have e1:=YW (Obj.mapFields (·.setIfInBounds 1 (rawInt (-1)))) ho (Obj.isFreed_of_fields (YY hd _));refine Ya (Ya (wpAny_setField ho hd (by simp) (wpAny_setField e1 (YY hd _) (by simp) ?_)));refine Ya ?_;show YB _ _ (newExc (.type "StopIteration") [] >>= fun b=>_) _ _ _;refine Ya ?_;simp only[newExc,newTuple];refine Ya (Yr ?_ (by size_fits));refine Ya (m:=firstArgMember _ _) (Wo (a:=Value.none) (by first|rfl|(simp only[firstArgMember]<;>rfl)) (Yr ?_ (by size_fits)));simp only[raiseNew];refine Ya (wpAny_handled ?_);rw[show A.in1.handled=Wv from hh];refine Ya (Yc (wpAny_throw ?_));refine Ya (wpAny_isInstance (T := "StopIteration") (b:=true) ⟨_,Oj _ rfl,rfl⟩ isSubtype_stop (Yc (hQ _ ?_)));exact((((Heap.ExtBut.refl _ _).trans (Heap.SameBut.update ..).extBut).trans (Heap.SameBut.update ..).extBut).push _).push _
theorem Zg0{it l:Yi}{i:Int}{Q:Yj->Yb->Prop}(hit:Is s.heap it l i)(h:Q (.ref it) s):YB (model prog w) A (pyIter (.ref it)) Q E s:=by refine wpAny_pyIter_slot hit.typeIs iter (Wh iter hit.typeIs Zu1 ?_ (Zvc _));exact Yc ⟨_,rfl, "reversed",_,hit.typeIs,next.lookup,h⟩
end
end Rv
noncomputable def Itv(K:Yk)(a:Yi)(n:Nat):It:=⟨fun i H=>∃xs x,SqT K H a xs/\xs.length=n/\xs.reverse[i]? = Wu x,fun i H x H'=>H'=H/\∀xs,SqT K H a xs->xs.reverse[i]? = Wu x,fun i H=>∃xs,SqT K H a xs/\xs.length=n/\n=i⟩
theorem ZmS{P:Yh}{w:Yg}{K:Yk}{tg:Expr}(a it:Yi)(n:Nat):Turn P w K tg (Itv K a n) [it] it (fun i h=>i<=n/\Rv.Is h it a ((n:Int) - 1 - i)) where
 mem:=by simp
 obj:=fun i h st b hb=>by
  have e:b=it:=by simpa using hb
  subst e;obtain⟨_,o,e,c,d⟩:=st;exact⟨o,e,fun v z=>by rw[d]at z;cases z⟩
 keep:=fun i h h' st k=>⟨st.1,st.2.at fun o e=>k it (by simp) o e⟩
 item:=by
  intro X hP hw hK hc i pins s Z H E I hf st hg;subst hP hw hK;obtain⟨hin,st⟩:=st;obtain⟨xs,x,hq,hxn,hx⟩:=hg;obtain⟨its,rv,p,hz⟩:=I.tuple hq;have hl:=rv.length;have hi:i<xs.length:=by have:=(Ob.mp hx).1;simpa using this
  have hx':xs[n - 1 - i]? = Wu x:=by rw[List.getElem?_reverse hi]at hx;rw[<- hxn];exact hx
  obtain⟨u,hu,ru⟩:=rv.get hx';obtain⟨f0,f1,f2,f3,f4,f5⟩:=hf it (by simp);have e1:(n:Int) - 1 - (i:Nat)=((n - 1 - i:Nat):Int):=by omega
  rw[e1]at st;refine Rv.next_item st p (by simp;omega) (x:=u) (by simpa using hu) fun h' t' st' sb=>?_;have I1:Inv X pins Z H {s with heap:=h',toks:=t'}:=I.turned (t':=t') (fun b o hb e=>(sb.2 b hb).trans e) f0 f1 f3 f4 f5;obtain⟨o,e,c,d⟩:=id st';have e2:((n - 1 - i:Nat):Int) - 1=(n:Int) - 1 - ((i+1:Nat):Int):=by omega
  refine⟨u,rfl,Zg1 (s:={s with heap:=h',toks:=t'}) e c d (by decide) ⟨x,H,I1,ru,⟨rfl,fun ys hy=>by rw[I.tuple_inj hy hq];exact hx⟩,⟨by omega,by rw[<- e2];exact st'⟩,fun b hb=>(hf b hb).1⟩⟩
 done:=by intro X hP hw hK hc i pins s Z H E I hf st hg;subst hP hw hK;obtain⟨xs,hq,hxn,hx⟩:=hg;obtain⟨f0,f1,f2,f3,f4,f5⟩:=hf it (by simp);have st1:=st.2;rw[show(n:Int) - 1 - (i:Nat)=-1 by omega]at st1;exact Rv.next_end (I.ok.hd hc) st1 fun h' eb=>⟨rfl,I.turned (t':=s.toks) (fun b o hb e=>eb b o hb e) f0 f1 f3 f4 f5⟩
 self:=fun _ _ _ _ _ st h=>Rv.Zg0 st.2 h
end L2
end
section
set_option tactic.hygienic false
namespace L2
open PySem PySem.Spec PyProof.Rows
theorem ZeB:∀{vs:List Yj}{ss:List Str},StrsAre vs ss->Zl (ss.map V.str) vs
 |_,_,.nil=>.nil
 |_,_,.cons y t h=>.cons ⟨t,rfl⟩ (ZeB h)
section
variable {prog:Yh}{w:Yg}{A:YH}{E:Yj->Yb->Prop}{s:Yb}
theorem ZjA{r:Yi}{ss:List Str}{Q:Yj->Yb->Prop}
 (hcol:∀R:List Yj->Yb->Prop,(∀(h':YG) (tk:Nat) (vs:List Yj),s.heap.objs.size<=h'.objs.size->(∀b o,s.heap.get? b=Wu o->h'.get? b=Wu o)->StrsAre vs ss->R vs {s with heap:=h',toks:=tk})->YB (model prog w) A.in1 (collect (.ref r)) R E s)
 (h64:ss.length<64)
 (h:∀(D:Yi) (h':YG) (tk:Nat) (out:List Yj) (ss':List Str) (n:Nat),(∀b o,s.heap.get? b=Wu o->h'.get? b=Wu o)->s.heap.objs.size<=D->h'.get? D=Wu {cls:=.type "list",data:=.seq out.toArray n}->StrsAre out ss'->ss'.Perm ss->sortedS ss'=Ww ->
  Q (.ref D) {s with heap:=h',toks:=tk}):YB (model prog w) A (call (.builtin "sorted") [.ref r]) Q E s:=by
 refine Calls.call_function_entry kind_sorted plain_sorted entry_sorted (args_sorted1 _) ?_;unfold Builtin.«sorted»;refine Ya (m:=checkCount "sorted" 1 1 _) (Yc (Ya (hcol _ fun h' tk vs hsz hk hS=>?_)));have hlen:vs.length=ss.length:=by have:=(ZeB hS).length;simpa using this.symm
 have hz:vs.length<=sizeLine:=by rw[YC];omega
 refine Ya (wpAny_newList ?_ hz);have hoL:(h'.push (seqObj "list" vs.toArray 0)).get? h'.objs.size=Wu (seqObj "list" vs.toArray 0):=Oj _ rfl;refine Ya (Wg (Wh slot_list_sort ⟨_,hoL,rfl⟩ entry_list_sort (list_sort_treeK strKind_oneLt hoL hS.keysOf (fun v₁ v₂ rest e=>keyKind_strs (by rw[<- e];exact hS)) (by omega) fun st' a1 a2=>⟨_,rfl,?_⟩) (args_list_sort _)));refine Yc ⟨_,rfl,?_⟩;obtain⟨ss',h1,h2,h3⟩:=sorted_out_str hS a1 a2;obtain⟨e,he⟩:=sortedHeap_at (out:=(arrOf st').map (·.2)) hoL;have e2:((arrOf st').map (·.2))=((arrOf st').map (·.2)).toList.toArray:=Array.toArray_toList.symm;refine h h'.objs.size _ tk ((arrOf st').map (·.2)).toList ss' e (fun b o q=>?_) hsz (by rw[<- e2];exact he) h1 h2 h3;have q':=hk b o q;have hlt:=Yn q';rw[sortedHeap_old (Ou hlt) (by rw[size_push'];exact Nat.lt_succ_of_lt hlt)];exact Od _ q'
theorem Zjf{R:List Yj->Yb->Prop}{T:String}{r d:Yi}{n:Nat}{P:Nat->Yj->Prop}{OK:YG->Prop}(K:PySem.W.KdlSrc prog w T r d n P OK)(hh:A.handled=Wv)(hok:OK s.heap)(hn:n<=sizeLine)
 (h:∀(h':YG) (tk:Nat) (acc:Array Yj),s.heap.objs.size<=h'.objs.size->(∀b o,s.heap.get? b=Wu o->h'.get? b=Wu o)->ItemsOf P acc n->R acc.toList {s with heap:=h',toks:=tk}) :
 YB (model prog w) A (collect (.ref r)) R E s:=by
 have lt:=K.there _ hok;unfold collect;refine Ya (wpAny_runValue (codeAny_builtin entry_proto_collect' ?_));rw[Around.under_plainId PySem.F.plain_proto_collect _];show YB _ A.in1 (newList [] >>= fun x=>again (.builtin "list.__iadd__" ⟨[x,.ref r],[]⟩)) _ _ s;refine Ya (Yr (Yc ⟨plainId_quiet PySem.F.plain_list_iadd _,codeAny_builtin entry_list_iadd' ?_⟩));rw[Around.under_plainId PySem.F.plain_list_iadd _];have e0:(s.heap.push {cls:=.type "list",data:=.seq ([]:List Yj).toArray}).get? s.heap.objs.size=Wu {cls:=.type "list",data:=.seq #[]}:=Oj _ rfl;show YB _ A.in1 (Builtin.List.listExtendWith (.ref s.heap.objs.size) (.ref r) (.ref s.heap.objs.size)) _ _ _;have key:=PySem.W.kdl_extend (A:=A) (s:={s with heap:=s.heap.push {cls:=.type "list",data:=.seq ([]:List Yj).toArray}})
  (R:=fun(q:Result) (s':Yb)=>∃(h':YG) (tk:Nat) (acc:Array Yj) (c:Nat),q=.ok (.ret (.ref s.heap.objs.size))/\s'={s with heap:=h',toks:=tk}/\(∀b o,s.heap.get? b=Wu o->h'.get? b=Wu o)/\h'.get? s.heap.objs.size=Wu {cls:=.type "list",dict:=Wv,data:=.seq acc c,slots:=#[]}/\ItemsOf P acc n)
  K hh (K.keep _ _ hok fun b _ o e=>Od _ e) s.heap.objs.size (Nat.ne_of_gt lt.1) (Nat.ne_of_gt lt.2) (.ref s.heap.objs.size) 0 e0 (fun h' tk acc c hk hS hacc=>⟨h',tk,acc,c,rfl,rfl,fun b o e=>hk b o (Ou (Yn e)) (Od _ e),hS,hacc⟩) hn
 refine Yf key (fun fin s' x=>?_) fun e s' x=>?_
 . cases fin with
   |done f=>obtain⟨h',tk,acc,c,e,rfl,hk,hS,hacc⟩:=x;cases e;exact Ya (wpAny_load hS (Yc (h h' tk acc (Nat.le_of_lt (Yn hS)) hk hacc)))
   |again c₁=>refine⟨x.1,codeAny_mono x.2 fun q s₂ y=>?_⟩;obtain⟨h',tk,acc,c,rfl,rfl,hk,hS,hacc⟩:=y;exact Ya (wpAny_load hS (Yc (h h' tk acc (Nat.le_of_lt (Yn hS)) hk hacc)))
 . obtain⟨_,_,_,_,z,_⟩:=x;cases z
end
theorem ZfX{α β:Type}{R:α->β->Prop}:∀{xs:List α}{ys:List β},Paired R xs ys->∀{i:Nat}{x:α},xs[i]? = Wu x->∃y,ys[i]? = Wu y/\R x y
 |_,_,.nil,i,x,e=>by simp at e
 |_,_,.cons h r,0,x,e=>by cases e;exact⟨_,rfl,h⟩
 |_,_,.cons h r,i+1,x,e=>by obtain⟨y,h1,h2⟩:=ZfX r (i:=i) (x:=x) (by simpa using e);exact⟨y,by simpa using h1,h2⟩
theorem ZfA{P:Yh}{w:Yg}:∀(ss:List Str) (vs:List Yj),vs.length=ss.length->(∀(j:Nat) (v:Yj),vs[j]? = Wu v->∃x,ss[j]? = Wu x/\(ZG P w).is (YE x) v=Ww)->StrsAre vs ss
 |[],[],_,_=>.nil
 |s::ss,v::vs,hl,h=>by obtain⟨x,e,hx⟩:=h 0 v rfl;cases e;obtain⟨t,rfl⟩:=Value.isStrOf_shape (x:=s) (v:=v) hx;exact .cons s t (ZfA ss vs (by simpa using hl) fun j u hu=>h (j+1) u (by simpa using hu))
section
variable {X:Cx}
def Znl(P:Yh)(w:Yg)(K:Yk):List V->Hp->VK->Prop:=fun xs H Q=>∃a kvs ss,xs=[.ref a]/\Dk P w K H a kvs/\kvs.map (·.1)=ss.map YE/\ss.length<64/\∀p ss',H p=Wv->ss'.Perm ss->sortedS ss'=Ww->Q (.ref p) (upd H p (.lst (ss'.map V.str)))
theorem ZhW(hc:X.A.handled=Wv):Zcr X (.builtin "sorted") (Znl X.prog X.w X.K):=by
 intro pins s Z H xs us Q I r h;obtain⟨a,kvs,ss,rfl,hd,hks,h64,q⟩:=h;obtain⟨u,rfl,ru⟩:=vals1 r;cases ru;obtain⟨z,hm,vs,rel,dd⟩:=I.dk hd;obtain⟨ep,hat⟩:=dd.dictAt;have hl:vs.length=kvs.length:=(Paired.length rel).symm;have hl2:kvs.length=ss.length:=by have:=congrArg List.length hks;simpa using this
 have hkey:∀(j:Nat) k x,vs[j]? = Wu (k,x)->∃y,ss[j]? = Wu y/\k=YE y:=fun j k x e=>by
  have hj:j<vs.length:=(Ob.mp e).1;have h1:kvs[j]? = Wu kvs[j]:=Og (by omega);obtain⟨u,hu,hu2⟩:=ZfX rel h1;rw[e]at hu;cases hu;have h3:(kvs.map (·.1))[j]? = Wu kvs[j].1:=by rw[On,h1];rfl
  rw[hks,On]at h3;obtain⟨y,hy,e3⟩:=Oo.mp h3;exact⟨y,hy,hu2.1.symm.trans e3.symm⟩
 refine ZjA (ss:=ss) (fun R hR=>Zjf (PySem.W.kdl_dict (knd:=ZG X.prog X.w) (kvs:=vs) (ep:=ep) hm) hc hat (by omega) fun h' tk acc hsz hk hacc=>?_) h64 fun D h' tk out ss' n hk hD ho hS hp hs=>?_
 . refine hR h' tk acc.toList hsz hk (ZfA (P:=X.prog) (w:=X.w) ss acc.toList (by rw[Array.length_toList,hacc.1];omega) fun j v hv=>?_);obtain⟨k,x,e,hk2⟩:=hacc.2 j v (by rw[<- Array.getElem?_toList];exact hv);obtain⟨y,hy,rfl⟩:=hkey j k x e;exact⟨y,hy,hk2⟩
 . have hlen:ss'.length<=sizeLine:=by rw[hp.length_eq];omega
   refine⟨.ref D,_,I.laid (a:=D) (o:=.lst (ss'.map V.str)) (t':=tk) hk hD ⟨by simpa using hlen,out,n,ZeB hS,ho⟩,rfl,q D ss' (I.hok.fresh hD) hp hs⟩
end
end L2
end
section
namespace L2
open PySem PySem.Spec PyProof.Rows
theorem ZdA:∀{ns:List Int}{vs:List Yj},Zl (ns.map V.int) vs->IntsAre vs ns
 |[],vs,h=>by cases h;exact .nil
 |s::ss,vs,h=>by
  rw[Op]at h;cases h with
  |cons h1 h2=>obtain⟨t,rfl⟩:=h1;exact .cons s t (ZdA h2)
noncomputable def ZeE(z:Str)(n:Nat):Str:=⟨(YK n z.cps).foldl (·++·) #[]⟩
theorem Zgd(a:Array Nat):∀(n:Nat) (i:Array Nat),((YK n a).foldl (·++·) i).size=i.size+n * a.size
 |0,i=>by simp
 |n+1,i=>by rw[List.replicate_succ,Wq,Zgd a n (i++a),Array.size_append,Nat.succ_mul];omega
theorem Zed(z:Str)(n:Nat):(ZeE z n).length=n * z.length:=by show((YK n z.cps).foldl (·++·) #[]).size=_;rw[Zgd];simp;rfl
section
variable {X:Cx}
theorem ZmF(hc:X.A.handled=Wv):Zcr X (.builtin "sum") (fun xs H Q=>∃(a:Yi) (ns:List Int),xs=[.ref a]/\SqL X.K H a (ns.map V.int)/\Q (.int ns.sum) H):=by
 intro pins s Z H xs us Q I r h;obtain⟨a,ns,rfl,hq,q⟩:=h;obtain⟨u,rfl,ru⟩:=vals1 r;cases ru;obtain⟨its,rv,pl,hz⟩:=I.list hq;have hi:=ZdA rv;obtain⟨ys,e⟩:=hi.allInts.items;refine sum_intListG (xs:=ys) hc (by rw[<- e];exact pl.isList) fun h' tk t' hk=>?_;refine⟨.int ns.sum,H,I.kept (t':=tk) hk,⟨t',?_⟩,q⟩;have e2:=hi.numsOf;have e3:numsOf (intItems ys).toList=ns:=by rw[<- e];exact e2
 rw[nums_intItems]at e3;rw[preSum_eq,List.take_of_length_le (by simp),e3]
theorem ZpZ:OpR X (binaryOp .Mult) (fun x y H Q=>∃z n,x=.str z/\y=.int n/\0<=n/\n<=1000/\z.length<=1000/\Q (.str (ZeE z n.toNat)) H):=by
 intro pins s Z H x y v u Q I rx ry h;obtain⟨z,n,rfl,rfl,h0,h1,h2,q⟩:=h;obtain⟨t,rfl⟩:=rx;obtain⟨t2,rfl⟩:=ry;have hl:z.length * n.toNat<=1000000:=Nat.mul_le_mul h2 (by omega:n.toNat<=1000);have hs:(1000000:Nat)<=sizeLine:=by decide
 refine PySem.P.mul_str (by rw[decide_eq_false (by omega:¬ n < -(2 ^ 63:Int)),decide_eq_false (by omega:¬ n ≥ 2 ^ 63)]<;>rfl) (fun _ _=>?_) (fun _ _=>?_) ?_
 . have h3:1<=n:=by omega
   have h4:(9223372036854775807:Int) / n ≥ 1000:=by have:1000<=9223372036854775807 / n:=(Int.le_ediv_iff_mul_le (by omega)).mpr (by omega);exact this
   show ¬ ((z.length:Int) > (2 ^ 63 - 1) / n);rw[show(2 ^ 63 - 1:Int)=9223372036854775807 by decide];omega
 . unfold Builtin.Str.tooLong;exact decide_eq_false (by omega)
 . by_cases hn:n<1
   . rw[if_pos hn];refine⟨by decide,.str _,H,I.tok _,⟨_,rfl⟩,?_⟩;rw[show n.toNat=0 by omega]at q;exact q
   . rw[if_neg hn];by_cases h5:(n==1 || z.length==0)=Ww
     . rw[if_pos h5];refine⟨.str _,H,I,⟨_,rfl⟩,?_⟩;have e:ZeE z n.toNat=z:=by
        rw[Ws]at h5;rcases h5 with h5|h5
        . have e1:n.toNat=1:=by have:=eq_of_beq h5;omega
          rw[e1];unfold ZeE;simp
        . have e1:z.length=0:=eq_of_beq h5;have e2:(ZeE z n.toNat).length=0:=by rw[Zed,e1];simp
          have f:∀y:Str,y.length=0->y=⟨#[]⟩:=fun y hy=>by cases y with|mk c=>rw[show c=#[]from Array.eq_empty_of_size_eq_zero hy]
          exact(f _ e2).trans (f z e1).symm
       rw[e]at q;exact q
     . rw[if_neg h5];refine⟨?_,.str _,H,I.tok _,⟨_,rfl⟩,q⟩;show(ZeE z n.toNat).length<=sizeLine;rw[Zed,Nat.mul_comm];omega
end
end L2
end
section
namespace L2
open PySem PySem.Spec PyProof.Rows
section
variable {X:Cx}
theorem ZhC{i j:Int}(hi:i.natAbs<2 ^ 2000)(hj:j.natAbs<2 ^ 2000):IntMulOk i j:=by
 have bits:∀k:Int,k.natAbs<2 ^ 2000->Builtin.Int.intBits k<=2000:=fun k hk=>by
  unfold Builtin.Int.intBits;split
  . omega
  . rename_i h;have h0:k.natAbs≠0:=by simpa using h
    have:=(Nat.log2_lt h0).mpr hk;omega
 unfold IntMulOk;have h1:=bits i hi;have h2:=bits j hj;have h3:Builtin.Int.intTooBig (Builtin.Int.intBits i+Builtin.Int.intBits j:Nat)=Wx:=by
  unfold Builtin.Int.intTooBig;rw[decide_eq_false_iff_not];have:(bitsLine:Nat)=134217728:=by decide
  rw[this];omega
 intro q;simp only[Oa]at q;have q2:=q.2;rw[show((Builtin.Int.intBits i:Int)+(Builtin.Int.intBits j:Int))=((Builtin.Int.intBits i+Builtin.Int.intBits j:Nat):Int) by simp]at q2;rw[h3]at q2;cases q2
theorem Zme:OpR X (binaryOp .Mult) (rI (fun i j=>i.natAbs<2 ^ 2000/\j.natAbs<2 ^ 2000) fun i j=>.int (i * j)):=opI fun _ _ _ _ _ _ _ hc q=>mul_int q (ZhC hc.1 hc.2)
noncomputable def Zt7(K:Yk):R2:=fun x y H Q=>∃a b ys,x=.ref a/\y=.ref b/\SqT K H a []/\SqT K H b ys/\Q (.ref b) H
theorem Zp2:OpR X (binaryOp .Add) (Zt7 X.K):=by
 intro pins s Z H x y v u Q I rx ry h;obtain⟨a,b,ys,rfl,rfl,ha,hb,q⟩:=h;cases rx;cases ry;obtain⟨its,r1,ht,_⟩:=I.tuple ha;obtain⟨its2,r2,hb,_⟩:=I.tuple hb;cases r1;obtain⟨⟨cls,dd,data,sl⟩,ho,hc,n,hd⟩:=id ht;obtain⟨⟨cls2,dd2,data2,sl2⟩,ho2,hc2,n2,hd2⟩:=id hb;simp only at hc hd hc2 hd2;subst hc hd hc2 hd2;exact concat_meets ⟨_,ho,rfl⟩ ⟨_,ho2,rfl⟩ noFill_tuple_add seq_tuple_add PySem.F.slot_tuple_add PySem.F.entry_tuple_add (PySem.F.args_tuple_add_2 _ _)
  (tuple_addW0 a b _ _ n n2 dd dd2 sl sl2 (by simp)) ⟨ho,ho2,⟨.ref b,H,I,rfl,q⟩⟩
end
end L2
namespace HT
open PySem PyProof.Rows
section
variable {prog:Yh}{w:Yg}{A:YH}{E:Yj->Yb->Prop}{s:Yb}
theorem Zdz{t sl:Yi}{items:Array Yj}{vl vu:Yj}{lo hi:Option Int}{Q:Yj->Yb->Prop}(ht:IsTup s.heap t items)(hs:s.heap.IsSliceOf sl vl vu .none)(pl:IsPart vl lo)(pu:IsPart vu hi)
 (hw:sIx items.size 0 lo=0/\sIx items.size items.size hi=items.size) (h:Q (.ref t) s):YB (model prog w) A (getItem (.ref t) (.ref sl)) Q E s:=by
 obtain⟨os,hos,hcs,hds⟩:=id hs;have hTs:s.TypeIs (.ref sl) "slice" := ⟨os,hos,hcs⟩
 unfold getItem
 try with_reducible refine Wg ?_
 first|refine Ya (Yc ?_)|skip
 refine Ya (wpAny_sequenceKey ht.typeIs (by decide) ?_);refine Ya (Wc (name:=O "__getitem__") ht.typeIs Wm
  (Wh Wm ht.typeIs entry_tuple_getitem ?_ (args_tuple_getitem _ _)))
 show YB _ _ (Builtin.Tuple.tupleItemsOf (.ref t) >>= _) _ _ s;refine Ya (tupleItemsOf_ ht ?_);refine Ya (wpAny_typeOf hTs ?_);rw[if_pos (by decide)];refine Ya (Zcd hs pl pu ?_);have hyes:(((sIx items.size 0 lo:Nat):Int)==0&&(1:Int)==1&&(sIx items.size items.size hi - sIx items.size 0 lo)==items.size)=Ww:=by rw[hw.1,hw.2];simp
 show YB _ _ (if (((sIx items.size 0 lo:Nat):Int)==0&&(1:Int)==1&&(sIx items.size items.size hi - sIx items.size 0 lo)==items.size)=Ww then _ else _) _ _ s;rw[if_pos hyes];unfold Builtin.Tuple.tupleIsExact;refine Ya (Ya (wpAny_typeOf ht.typeIs (Yc ?_)));rw[if_pos (by decide)];exact Ya (wpAny_rule (Yc ⟨_,rfl,Yc h⟩))
end
end HT
namespace L2
open PySem PySem.Spec PyProof.Rows
section
variable {X:Cx}
def ZvO(K:Yk):V->Option Int->Option Int->Hp->VK->Prop:=fun x lo hi H Q=>∃a xs,x=.ref a/\SqT K H a xs /\
 (HT.sIx xs.length 0 lo=0/\HT.sIx xs.length xs.length hi=xs.length)/\Q (.ref a) H
theorem Zm3:SlR X (ZvO X.K):=by
 intro pins s Z H x v vl vu lo hi sl Q I rx hs pl pu h;obtain⟨a,xs,rfl,hx,hw,q⟩:=h;cases rx;obtain⟨its,r,ht,hz⟩:=I.tuple hx;have hlen:its.toArray.size=xs.length:=by rw[Of];exact r.length.symm
 refine⟨"tuple",_,PyProof.Rows.slot_tuple_getitem.lookup,ht.typeIs,?_⟩;exact HT.Zdz ht hs pl pu (by rw[hlen];exact hw) ⟨.ref a,H,I,rfl,q⟩
end
end L2
end
section
set_option tactic.hygienic false
namespace L2
namespace Mx
open PySem PyProof.Rows
theorem nm:(toString "max" ++ toString ".loop" : String) = "max.loop" := by decide
section
variable {prog:Yh}{w:Yg}{A:YH}{Z_:Result->Yb->Prop}{J:Yi}{fo wo:List Yi}{m:Nat}{P:Nat->Yj->Prop}{S_:Nat->YG->Prop}
theorem loop(W:Walks prog w A.in1 J fo wo m P S_)(bt:Nat->Nat->Bool)(hb:CmpOf prog w A.in1 .Gt P bt)(C:Yi)(hC:C ∉ fo)(kw:List (Str×Yj)):∀(d j:Nat) (s:Yb) (u:Yj) (c:Nat),
 m - (j+1)=d->j+1<=m->S_ (j+1) s.heap->P (argBest bt j) u->s.heap.get? C=Wu {cls:=.type "list",dict:=Wv,data:=.seq #[u,u] c,slots:=#[]} ->
 (∀v hp tk,P (argBest bt (m - 1)) v->(∀b o,b ∉ wo->b≠C->s.heap.get? b=Wu o->hp.get? b=Wu o)->Z_ (.ok (.ret v)) {s with heap:=hp,toks:=tk}) ->
 codeAny (model prog w) A (.builtin "max.loop" ⟨[.ref J,.none,.ref C],kw⟩) Z_ s:=by
 have hCw:C ∉ wo:=fun z=>hC (W.sub _ z);intro d;induction d with
 |zero=>
  intro j s u c e1 e2 st pu hc hz;have em:j+1=m:=by omega
  refine codeAny_builtin PySem.F.entry_max_loop ?_;rw[Around.under_plainId YU _];show YB (model prog w) A.in1 (seqItems? (YD C) >>= _) _ _ s;refine Ya (wpAny_seqItems hc rfl ?_);show YB (model prog w) A.in1 (tryCatch (pyNext (YD J)) _ >>= _) _ _ s;refine Ya (wpAny_tryCatch (W.done s _ _ (em ▸ st) fun hp tk kp=>?_));have hc1:=kp C _ hCw hc;show YB (model prog w) A.in1 (updateSeq C (fun _=>#[]) >>= _) _ _ _;exact Ya (wpAny_updateSeq hc1 rfl (Ya (wpAny_letGo (Yc (hz u _ tk (by rw[<- em];exact pu) fun b o b1 b2 e=>(YN _ _ (YL b2)).trans (kp b o b1 e))))))
 |succ d ih=>
  intro j s u c e1 e2 st pu hc hz;have lt:j+1<m:=by omega
  refine codeAny_builtin PySem.F.entry_max_loop ?_;rw[Around.under_plainId YU _];show YB (model prog w) A.in1 (seqItems? (YD C) >>= _) _ _ s;refine Ya (wpAny_seqItems hc rfl ?_);show YB (model prog w) A.in1 (tryCatch (pyNext (YD J)) _ >>= _) _ _ s;refine Ya (wpAny_tryCatch (W.item (j+1) s _ _ lt st fun v hp tk pv st1 kp=>?_));have hc1:=kp C _ hCw hc;show YB (model prog w) A.in1 (tryCatch (holding [v,v] (richCompare CmpOp.Gt v u >>= _)) _ >>= _) _ _ _;refine Ya (wpAny_tryCatch (Wg (Ya (hb (j+1) (argBest bt j) v u _ _ _ pv pu (Ya (Wg (wpAny_truthy_bool (Ya (wpAny_letGo (Yc ?_))))))))));cases q:bt (j+1) (argBest bt j)with
  |true=>
   simp only[if_true];refine Ya (wpAny_updateSeq hc1 rfl (Ya (wpAny_letGo ?_)));rw[nm];refine Yc ⟨plainId_quiet YU _,ih (j+1) _ v _ (by omega) lt (W.frame _ _ _ st1 fun b b1 o e=>?_) (by simp only[argBest,q,if_true];exact pv) (YW _ hc1 rfl) fun v2 hp2 tk2 pv2 kp2=>?_⟩
   . exact(YN _ _ (fun z:C=b=>hC (by rw[z];exact b1))).trans e
   . exact hz v2 hp2 tk2 pv2 fun b o b1 b2 e=>kp2 b o b1 b2 ((YN _ _ (YL b2)).trans (kp b o b1 e))
  |false=>simp only[OG,if_false];refine Ya (wpAny_letGo ?_);rw[nm];exact Yc ⟨plainId_quiet YU _,ih (j+1) _ u c (by omega) lt st1 (by simp only[argBest,q,OG,if_false];exact pu) hc1 fun v2 hp2 tk2 pv2 kp2=>hz v2 hp2 tk2 pv2 fun b o b1 b2 e=>kp2 b o b1 b2 (kp b o b1 e)⟩
theorem first(W:Walks prog w A.in1 J fo wo m P S_)(bt:Nat->Nat->Bool)(hb:CmpOf prog w A.in1 .Gt P bt)(C:Yi)(hC:C ∉ fo)(dn:Str)(dv:Yj){s:Yb}{c:Nat}(st:S_ 0 s.heap)
 (hc:s.heap.get? C=Wu {cls:=.type "list",dict:=Wv,data:=.seq #[] c,slots:=#[]})
 (hz:∀v hp tk,(m=0->v=dv)->(0<m->P (argBest bt (m - 1)) v)->(∀b o,b ∉ wo->b≠C->s.heap.get? b=Wu o->hp.get? b=Wu o)->Z_ (.ok (.ret v)) {s with heap:=hp,toks:=tk}) :
 codeAny (model prog w) A (.builtin "max.loop" ⟨[.ref J,.none,.ref C],[(dn,dv)]⟩) Z_ s:=by
 have hCw:C ∉ wo:=fun z=>hC (W.sub _ z);refine codeAny_builtin PySem.F.entry_max_loop ?_;rw[Around.under_plainId YU _];show YB (model prog w) A.in1 (seqItems? (YD C) >>= _) _ _ s;refine Ya (wpAny_seqItems hc rfl ?_);show YB (model prog w) A.in1 (tryCatch (pyNext (YD J)) _ >>= _) _ _ s;by_cases hm:0<m
 . refine Ya (wpAny_tryCatch (W.item 0 s _ _ hm st fun v hp tk pv st1 kp=>?_));have hc1:=kp C _ hCw hc;show YB (model prog w) A.in1 (updateSeq C (fun _=>#[v,v]) >>= _) _ _ _;refine Ya (wpAny_updateSeq hc1 rfl ?_);rw[nm];refine Yc ⟨plainId_quiet YU _,loop W bt hb C hC _ _ 0 _ v _ rfl hm (W.frame _ _ _ st1 fun b b1 o e=>?_) pv (YW _ hc1 rfl) fun v2 hp2 tk2 pv2 kp2=>?_⟩
   . exact(YN _ _ (fun z:C=b=>hC (by rw[z];exact b1))).trans e
   . exact hz v2 hp2 tk2 (fun z=>by omega) (fun _=>pv2) fun b o b1 b2 e=>kp2 b o b1 b2 ((YN _ _ (YL b2)).trans (kp b o b1 e))
 . have h0:m=0:=by omega
   refine Ya (wpAny_tryCatch (W.done s _ _ (h0 ▸ st) fun hp tk kp=>?_));exact Ya (wpAny_rule (Yc (hz dv hp tk (fun _=>rfl) (fun z=>absurd z hm) fun b o b1 _ e=>kp b o b1 e)))
end
section
variable {prog:Yh}{w:Yg}{A:YH}{E:Yj->Yb->Prop}{s:Yb}
theorem args(a d:Yj):argsOk "max" ⟨[a],[("default",d)]⟩:=by unfold argsOk;kernel_rfl
theorem call{x dv:Yj}{Q:Yj->Yb->Prop}
 (h:YB (model prog w) A.in1 (pyIter x) (fun it s2=>∃J fo wo m P S_ bt,it=.ref J/\Walks prog w A.in1 J fo wo m P S_/\S_ 0 s2.heap/\(∀b∈fo,b<s2.heap.objs.size)/\CmpOf prog w A.in1 .Gt P bt /\
  ∀v hp tk,(m=0->v=dv)->(0<m->P (argBest bt (m - 1)) v)->(∀b o,b ∉ wo->s2.heap.get? b=Wu o->hp.get? b=Wu o)->Q v {s2 with heap:=hp,toks:=tk}) E s) :
 YB (model prog w) A (PySem.call (.builtin "max") [x] [("default",dv)]) Q E s:=by
 refine wpAny_call (codeAny_call_builtin PySem.F.plain_max PySem.F.entry_max ?_);simp only[checkBuiltinCall,PySem.F.kind_max];have go:YB (model prog w) A.in1 (Builtin.«max» ⟨[x],[("default",dv)]⟩) (fun fin s'=>match fin with
  |.done f=>(match (Except.ok f:Result)with|.ok (.ret v)=>Q v s'|.ok _=>False|.error e=>E e s')
  |.again c'=>c'.quiet=Ww/\codeAny (model prog w) A c' (fun r s'=>match r with|.ok (.ret v)=>Q v s'|.ok _=>False|.error e=>E e s') s') E s:=by
  show YB (model prog w) A.in1 (Builtin.Builtins.bindParams "max" ["key", "default"] 0 ⟨[],[("default",dv)]⟩ >>= _) _ _ s;refine Ya (Wo (show Builtin.Builtins.bindParams "max" ["key", "default"] 0 ⟨[],[("default",dv)]⟩=pure [Wv,Wu dv]from rfl) (Ya (Yc (Ya (Yf h (fun it s2 q=>?_) fun _ _ e=>e)))));obtain⟨J,fo,wo,m,P,S_,bt,rfl,W,st,hfo,hb,hQ⟩:=q;refine Ya (Yr ?_);have hC:s2.heap.objs.size ∉ fo:=fun z=>Yw _ (hfo _ z);rw[nm];exact Yc ⟨plainId_quiet YU _,first W bt hb s2.heap.objs.size hC _ dv (W.frame _ _ _ st fun b _ o e=>Od _ e) (Oj _ rfl) fun v hp tk a1 a2 kp=>hQ v hp tk a1 a2 fun b o b1 e=>kp b o b1 (Ou (Yn e)) (Od _ e)⟩
 cases hs:Manifest.signature? "max" with
 |none=>exact Yc go
 |some sig=>have ha:=args x dv;simp only[argsOk,hs]at ha;have h2:Bind.checkArgs "max" sig ⟨[x],[("default",dv)]⟩=pure ():=ha;show YB _ A.in1 (Bind.checkArgs "max" sig ⟨[x],[("default",dv)]⟩) _ _ s;rw[h2];exact Yc go
end
end Mx
end L2
namespace L2
open PySem PySem.Spec PyProof.Rows
noncomputable def Zc0:List Int->Int->Int
 |[],d=>d
 |x::r,_=>r.foldl (fun m y=>if y > m then y else m) x
theorem Zg9(ns:List Int):∀k,k<ns.length->(argBest (fun i j=>Wy (ns.getD i 0 > ns.getD j 0)) k)<ns.length/\ns.getD (argBest (fun i j=>Wy (ns.getD i 0 > ns.getD j 0)) k) 0=Zc0 (ns.take (k+1)) 0
 |0,h=>by
  cases ns with
  |nil=>simp at h
  |cons x r=>exact⟨by simp[argBest],by simp[argBest,Zc0]⟩
 |k+1,h=>by
  obtain⟨h1,h2⟩:=Zg9 ns k (by omega);have e:Zc0 (ns.take (k+1+1)) 0=if ns.getD (k+1) 0 > Zc0 (ns.take (k+1)) 0 then ns.getD (k+1) 0 else Zc0 (ns.take (k+1)) 0:=by
   cases ns with
   |nil=>simp at h
   |cons x r=>
    have hk:k<r.length:=by simpa using h
    show((r.take (k+1)).foldl _ x)=_;rw[List.take_succ_eq_append_getElem hk,List.foldl_append];simp only[Wq,List.foldl_nil];have:(x::r).getD (k+1) 0=r[k]:=by simp[List.getD_eq_getElem?_getD,Og hk]
    rw[this];rfl
  rw[e,<- h2];have ea:argBest (fun i j=>Wy (ns.getD i 0 > ns.getD j 0)) (k+1)=if Wy (ns.getD (k+1) 0 > ns.getD (argBest (fun i j=>Wy (ns.getD i 0 > ns.getD j 0)) k) 0)=Ww then k+1 else argBest (fun i j=>Wy (ns.getD i 0 > ns.getD j 0)) k:=rfl;rw[ea];by_cases q:ns.getD (k+1) 0 > ns.getD (argBest (fun i j=>Wy (ns.getD i 0 > ns.getD j 0)) k) 0
  . rw[if_pos (decide_eq_true q),if_pos q];exact⟨h,rfl⟩
  . rw[if_neg (by simpa using q),if_neg q];exact⟨h1,rfl⟩
section
variable {X:Cx}
theorem ZnV(hc:X.calm=Ww){pins:List (Yi×Obj)}{s:Yb}{Z:L2.St}{H:Hp}{a:Yi}{ns:List Int}{d:Int}{t:Tok}{Q:VK}(I:Inv X pins Z H s)(hx:SqL X.K H a (ns.map V.int))(q:Q (.int (Zc0 ns d)) H):
 YB (model X.prog X.w) X.A (PySem.call (.builtin "max") [.ref a] [("default",.int d t)]) (EP X pins Z Q) X.xe s:=by
 obtain⟨its,rv,pl,hz⟩:=I.list hx;have hlt:a<s.heap.objs.size:=by obtain⟨_,_,e,_⟩:=pl;exact Yn e
 have hl:its.length=ns.length:=by have:=rv.length;rw[Yu]at this;exact this.symm
 have val:∀{i:Nat}{v:Yj},its.toArray[i]? = Wu v->i<ns.length/\∃t,v=.int (ns.getD i 0) t:=fun {i v} hv=>by
  have hv':its[i]? = Wu v:=by simpa using hv
  have hi:i<ns.length:=by rw[<- hl];exact(Ob.mp hv').1
  have hb:(ns.map V.int)[i]? = Wu (.int ns[i]):=by rw[On,Og hi]<;>rfl
  obtain⟨u',e',r'⟩:=rv.get hb;rw[hv']at e';cases e';obtain⟨t,rfl⟩:=r';exact⟨hi,t,by simp[List.getD_eq_getElem?_getD,Og hi]⟩
 refine Mx.call (wpAny_pyIter_list pl.isList ?_);refine⟨s.heap.objs.size,_,_,_,_,_,fun i j=>Wy (ns.getD i 0 > ns.getD j 0),rfl,Walks.list (A:=X.A.in1) (show X.A.in1.handled=Wv from I.ok.hd hc) s.heap.objs.size a (Ou hlt) its.toArray,⟨⟨_,Oj _ rfl,rfl,rfl⟩,pl.isList.push _⟩,?_,?_,fun v hp tk a1 a2 kp=>?_⟩
 . intro b hb;have hp1:b<s.heap.objs.size+1:=by
    simp at hb;rcases hb with rfl|rfl
    . exact OH _
    . exact Nat.lt_succ_of_lt hlt
   simpa[Heap.push]using hp1
 . exact CmpOf.ints_gt (fun i=>ns.getD i 0) fun i v hv=>(val hv).2
 . refine⟨.int (Zc0 ns d),H,I.kept fun b o e=>kp b o (fun z=>?_) (Od _ e),?_,q⟩
   . have:b=s.heap.objs.size:=by simpa using z
     subst this;exact absurd (Yn e) (Yw _)
   . have hsz:its.toArray.size=ns.length:=by rw[Of,hl]
     by_cases h0:ns=[]
     . subst h0;have:=a1 (by rw[hsz];rfl);subst this;exact⟨t,rfl⟩
     . have hp0:0<ns.length:=List.length_pos_iff.mpr h0;obtain⟨_,t3,ev⟩:=val (a2 (by rw[hsz];exact hp0));refine⟨t3,?_⟩;rw[ev,hsz,(Zg9 ns (ns.length - 1) (by omega)).2,List.take_of_length_le (by omega)];cases ns with
       |nil=>exact absurd rfl h0
       |cons x r=>rfl
end
section
variable {X:Cx}
noncomputable def ZtK(K:Yk)(ta tb:TE):TE:=fun Z H Q=>ta Z H fun v H1=>tb Z H1 fun u H2=>∃a ns d,v=.ref a/\u=.int d/\SqL K H2 a (ns.map V.int)/\Q (.int (Zc0 ns d)) H2
theorem ZpP{x y:Expr}{ta tb:TE}{p kp pos:Pos}(hg:Gl X "max")(hm:X.mg "max" = Wv)(hc:X.calm=Ww)(ha:PE X x ta)(hb:PE X y tb)(he:YA [x] X.env=[(Wx,eval x X.env)]):
 PE X (.Call (.Name "max" p) [x] [⟨Wu "default",y,kp⟩] pos) (ZtK X.K ta tb):=by
 intro pins s Z H Q I h;refine YX (Zc2 I hg hm boot_max ?_);refine PyProof.Rows.callWith_kw ?_ (by rw[he];rfl) (by rw[he];rfl);rw[he];refine Calls.spliced_cons (thn (ha pins s Z H _ I h) fun v s1 ⟨vv,H1,I1,r1,q1⟩=>Calls.spliced_nil ?_);refine kws_cons (thn (hb pins s1 Z H1 _ I1 q1) fun u s2 ⟨uu,H2,I2,r2,q2⟩=>kws_nil ?_);obtain⟨a,ns,d,rfl,rfl,hq,q⟩:=q2;cases r1;obtain⟨t,rfl⟩:=r2;exact ZnV hc I2 hq q
end
end L2
end
section
namespace L2
open PySem PySem.Spec PyProof PyProof.Rows PySem.AutoSeq1
set_option maxRecDepth 8000 in
theorem Zkv(l:Yi)(items:Array Yj)(n:Nat)(b:Yi)(items2:Array Yj)(n2:Nat)(od:Option Yi)(sl:Array (Option Yj))(hs0:¬(!items.isEmpty&&Wp (items.size+items2.size))=Ww)(hs1:items.size<=sizeLine)(hs2:items.size+items2.size<=sizeLine+1):
 Meets (Builtin.«list.extend» ⟨[.ref l,.ref b],[]⟩) (fun _ R s=>s.heap.get? l=Wu {cls:=.type "list",dict:=Wv,data:=.seq items n,slots:=#[]}/\s.heap.get? b=Wu {cls:=.type "tuple",dict:=od,data:=.seq items2 n2,slots:=sl}/\R (.ok (.ret Value.none)) {s with heap:=s.heap.update l (Obj.mapSeq fun x=>x++items2),toks:=s.toks}):=
 .of_wp fun prog w A R s h=>by
  obtain⟨hp,g,d,tk,os⟩:=s;obtain⟨hl,hb,h⟩:=h;have f1:=idx_int;have f2:=AutoSeq1.sub_tuple_tuple;have f3:=AutoSeq1.sub_list_list;have f4:=AutoSeq1.sub_tuple_list;have f5:=AutoSeq1.sub_list_tuple;have hz':(items++items2).size<=sizeLine+1:=by rw[Array.size_append];exact hs2
  wp_walk using (wpAny_updateSeq hl rfl (hz:=hs1) (_hz':=hz')),wpAny_loadPart' hl,wpAny_loadPart' hb;exact⟨_,rfl,h⟩
section
variable {X:Cx}
def Znn(K:Yk):V->List V->Hp->VK->Prop:=fun x vs H Q=>∃l b xs zs,x=.ref l/\vs=[.ref b]/\H l=Wu (.lst xs)/\SqT K H b zs/\xs.length+zs.length<=sizeLine/\Q .non (upd H l (.lst (xs++zs)))
theorem ZjY:MtM X "list.extend" (Znn X.K):=by
 intro pins s Z H x vs v us Q I rx rv h;obtain⟨l,b,xs,zs,rfl,rfl,hH,hB,hz,q⟩:=h;cases rx;obtain⟨u,rfl,ru⟩:=rv.one;cases ru;obtain⟨z,its,n,r,hl,e⟩:=I.lstM hH;obtain⟨its2,r2,⟨o,e2,oc,n2,od⟩,z2⟩:=I.tuple hB;obtain⟨cls,dc,dat,sl⟩:=o;simp only at oc od;subst oc;subst od;have hl2:=r2.length;have hsz:its.toArray.size+its2.toArray.size<=sizeLine:=by rw[Of,Of];omega
 have hlong:¬ (!its.toArray.isEmpty&&Wp (its.toArray.size+its2.toArray.size))=Ww:=by rw[ZiC hsz,Bool.and_false];exact Ow
 refine call_meets F.slot_list_extend ⟨_,e,rfl⟩ F.entry_list_extend (F.args_list_extend_2 _ _)
  (Zkv l its.toArray n b its2.toArray n2 dc sl hlong (by rw[Of];omega) (by omega)) ⟨e,e2,?_⟩
 refine⟨.non,_,I.lset (its':=its++its2) hH e (by simp) (r.append r2) ?_,rfl,q⟩;rw[OA];omega
end
end L2
end
section
namespace L2
open PySem PySem.Spec PyProof.Rows
noncomputable def Zti(K:Yk)(a:Yi)(n:Nat):It:=⟨fun i H=>∃xs x,SqL K H a xs/\xs.length=n/\xs.reverse[i]? = Wu x,fun i H x H'=>H'=H/\∀xs,SqL K H a xs->xs.reverse[i]? = Wu x,fun i H=>∃xs,SqL K H a xs/\xs.length=n/\n=i⟩
theorem ZlM{P:Yh}{w:Yg}{K:Yk}{tg:Expr}(a it:Yi)(n:Nat):Turn P w K tg (Zti K a n) [it] it (fun i h=>i<=n/\h.IsRevIter it a ((n:Int) - 1 - i)) where
 mem:=by simp
 obj:=fun i h st b hb=>by
  have e:b=it:=by simpa using hb
  subst e;obtain⟨_,o,e,c,d⟩:=st;exact⟨o,e,fun v z=>by rw[d]at z;cases z⟩
 keep:=fun i h h' st k=>⟨st.1,st.2.at fun o e=>k it (by simp) o e⟩
 item:=by
  intro X hP hw hK hc i pins s Z H E I hf st hg;subst hP hw hK;obtain⟨hin,st⟩:=st;obtain⟨xs,x,hq,hxn,hx⟩:=hg;obtain⟨its,rv,p,hz⟩:=I.list hq;have hl:=rv.length;have hi:i<xs.length:=by have:=(Ob.mp hx).1;simpa using this
  have hx':xs[n - 1 - i]? = Wu x:=by rw[List.getElem?_reverse hi]at hx;rw[<- hxn];exact hx
  obtain⟨u,hu,ru⟩:=rv.get hx';obtain⟨f0,f1,f2,f3,f4,f5⟩:=hf it (by simp);have e1:(n:Int) - 1 - (i:Nat)=((n - 1 - i:Nat):Int):=by omega
  rw[e1]at st;refine wpAny_pyNext_rev_item st p.isList (x:=u) (by simpa using hu) fun h' st' sb=>?_;have I1:Inv X pins Z H {s with heap:=h'}:=I.turned (t':=s.toks) (fun b o hb e=>(sb.2 b hb).trans e) f0 f1 f3 f4 f5;obtain⟨o,e,c,d⟩:=id st';have e2:((n - 1 - i:Nat):Int) - 1=(n:Int) - 1 - ((i+1:Nat):Int):=by omega
  exact⟨u,rfl,Zg1 (s:={s with heap:=h'}) e c d (by decide) ⟨x,H,I1,ru,⟨rfl,fun ys hy=>by rw[I.list_inj hy hq];exact hx⟩,⟨by omega,by rw[<- e2];exact st'⟩,fun b hb=>(hf b hb).1⟩⟩
 done:=by intro X hP hw hK hc i pins s Z H E I hf st hg;subst hP hw hK;obtain⟨xs,hq,hxn,hx⟩:=hg;obtain⟨f0,f1,f2,f3,f4,f5⟩:=hf it (by simp);have st1:=st.2;rw[show(n:Int) - 1 - (i:Nat)=-1 by omega]at st1;exact wpAny_pyNext_rev_end (I.ok.hd hc) st1 fun h' eb=>⟨rfl,I.turned (t':=s.toks) (fun b o hb e=>eb b o hb e) f0 f1 f3 f4 f5⟩
 self:=fun _ _ _ _ _ st h=>wpAny_pyIter_revIter st.2 h
noncomputable def ZuM(K:Yk)(ta:TA):TI:=fun Z H R=>ta Z H fun vs H1=>∃a xs,vs=[.ref a]/\((SqT K H1 a xs/\R (Itv K a xs.length) H1)\/(SqL K H1 a xs/\R (Zti K a xs.length) H1))
theorem ZpM{X:Cx}{tg l:Expr}{ta:TA}{p pos:Pos}(hg:Gl X "reversed")(hm:X.mg "reversed" = Wv)(ha:PA X [l] ta)(hs:YA [l] X.env=[(Wx,eval l X.env)]:=by rfl):
 PI X tg (.Call (.Name "reversed" p) [l] [] pos) (ZuM X.K ta):=by
 intro pins s Z H R I h;refine Call_ (Zc2 I hg hm boot_reversed (PyProof.Rows.callWith_type1 (thn (ha pos pins s Z H _ I h) fun us s1 ⟨vs,H1,I1,r1,q1⟩=>?_) hs rfl));obtain⟨a,xs,rfl,q⟩:=q1;obtain⟨u,rfl,ru⟩:=vals1 r1;obtain rfl:u=YD a:=ru;rcases q with ⟨hq,q⟩|⟨hq,q⟩
 . obtain⟨its,rv,pl,hz⟩:=I1.tuple hq;have hl:=rv.length;refine Rv.call pl (by simp;omega) ?_;have e1:((its.toArray.size:Nat):Int) - 1=(xs.length:Int) - 1 - ((0:Nat):Int):=by simp;omega
   have st:Rv.Is (s1.heap.push (Rv.obj a (((its.toArray.size:Nat):Int) - 1))) s1.heap.objs.size a ((xs.length:Int) - 1 - ((0:Nat):Int)):=⟨_,Oj _ rfl,rfl,by rw[<- e1];rfl⟩
   refine Rv.Zg0 st ?_;refine⟨s1.heap.objs.size,[s1.heap.objs.size],_,_,H1,rfl,I1.kept (t':=s1.toks+1+1) fun b o e=>Od _ e,ZmS a _ xs.length,⟨Yy _,st⟩,fun b hb=>?_,q⟩;have e:b=s1.heap.objs.size:=by simpa using hb
   subst e;exact I1.fpOk (Oq _) (I1.hok.fresh (Oq _))
 . obtain⟨its,rv,pl,hz⟩:=I1.list hq;have hl:=rv.length;refine call_reversed_list pl.isList ?_;have e1:((its.toArray.size:Nat):Int) - 1=(xs.length:Int) - 1 - ((0:Nat):Int):=by simp;omega
   have st:(s1.heap.push (revObj a (((its.toArray.size:Nat):Int) - 1))).IsRevIter s1.heap.objs.size a ((xs.length:Int) - 1 - ((0:Nat):Int)):=⟨_,Oj _ rfl,rfl,by rw[<- e1];rfl⟩
   refine wpAny_pyIter_revIter st ?_;refine⟨s1.heap.objs.size,[s1.heap.objs.size],_,_,H1,rfl,I1.kept (t':=s1.toks) fun b o e=>Od _ e,ZlM a _ xs.length,⟨Yy _,st⟩,fun b hb=>?_,q⟩;have e:b=s1.heap.objs.size:=by simpa using hb
   subst e;exact I1.fpOk (Oq _) (I1.hok.fresh (Oq _))
end L2
end
section
namespace L2
open PySem PySem.Spec PyProof.Rows
namespace Tx
noncomputable def place(x:Str):List Str->Option Nat
 |[]=>Wv
 |y::r=>if y=x then Wu 0 else(place x r).map (·+1)
end Tx
noncomputable def Zfx(K:Yk):Bool:=K.all fun p=>!Wy (p.2.cls=.type "tuple") || p.2.dict.isNone
end L2
end
section
namespace L2
open PySem PySem.Spec PyProof.Rows
open PySem.AutoSeq1 (wpAny_loadPart')
namespace En1
section
variable {prog:Yh}{w:Yg}{A:YH}{E:Yj->Yb->Prop}{s:Yb}
theorem Zpd{J T:Yi}{k:Nat}{us:Array Yj}{y:Yj}{Q:Yj->Yb->Prop}(st:s.heap.IsTupleIter J T k)(tt:s.heap.IsTuple T us)(hy:us[k]? = Wu y)
 (q:∀h1,h1.IsTupleIter J T (k+1)->Heap.SameBut J s.heap h1->Q y {s with heap:=h1}):YB (model prog w) A (Builtin.SmallTypes.nextOf (.ref J)) Q E s:=by
 obtain⟨ob,g1,g2,g3⟩:=id st;obtain⟨ot,g4,_,m,g5⟩:=tt;unfold Builtin.SmallTypes.nextOf;refine Ya (Wc (name:=O "__next__") st.typeIs F.slot_tuple_iterator_next (Wh F.slot_tuple_iterator_next st.typeIs F.entry_tuple_iterator_next ?g (F.args_tuple_iterator_next_1 _)))
 case g=>show YB _ _ (field (.ref J) 0 >>= _) _ _ s;refine Ya (YR g1 g3 (x:=.ref T) rfl ?_);show YB _ _ (if (YD T==Value.none)=Ww then _ else _) _ _ s;rw[if_neg (show ¬ ((YD T==Value.none)=Ww)from Ow)];show YB _ _ (field (.ref J) 1 >>= _) _ _ s;refine Ya (YR g1 g3 (x:=.int k 0) rfl ?_);show YB _ _ (seqItems? (.ref T) >>= _) _ _ s;refine Ya (wpAny_seqItems g4 g5 ?_);simp only[Int.toNat_natCast,hy];refine Ya (wpAny_setField g1 g3 (by simp) (Yc ⟨y,rfl,Yc (q _ ?_ (Heap.SameBut.update ..))⟩));exact⟨_,YW _ g1 (Obj.isFreed_of_fields (YY g3 _)),(Obj.cls_mapFields ..).trans g2,by rw[YY g3];simp[rawInt]⟩
theorem ZrF{J T:Yi}{k:Nat}{us:Array Yj}{Q:Yj->Yb->Prop}(calm:A.handled=Wv)(st:s.heap.IsTupleIter J T k)(tt:s.heap.IsTuple T us)(hy:us[k]? = Wv)
 (q:∀h1 x,Heap.ExtBut J s.heap h1->(∃ob,h1.get? x=Wu ob/\ob.cls=.type "StopIteration")->E (.ref x) {s with heap:=h1}):YB (model prog w) A (Builtin.SmallTypes.nextOf (.ref J)) Q E s:=by
 obtain⟨ob,g1,g2,g3⟩:=id st;obtain⟨ot,g4,_,m,g5⟩:=tt;unfold Builtin.SmallTypes.nextOf;refine Ya (Wc (name:=O "__next__") st.typeIs F.slot_tuple_iterator_next (Wh F.slot_tuple_iterator_next st.typeIs F.entry_tuple_iterator_next ?g (F.args_tuple_iterator_next_1 _)))
 case g=>
  show YB _ _ (field (.ref J) 0 >>= _) _ _ s;refine Ya (YR g1 g3 (x:=.ref T) rfl ?_);show YB _ _ (if (YD T==Value.none)=Ww then _ else _) _ _ s;rw[if_neg (show ¬ ((YD T==Value.none)=Ww)from Ow)];show YB _ _ (field (.ref J) 1 >>= _) _ _ s;refine Ya (YR g1 g3 (x:=.int k 0) rfl ?_);show YB _ _ (seqItems? (.ref T) >>= _) _ _ s;refine Ya (wpAny_seqItems g4 g5 ?_);simp only[Int.toNat_natCast,hy];refine Ya (wpAny_rule (Ya (wpAny_setField g1 g3 (by simp) ?_)));show YB _ _ (newExc (.type "StopIteration") [] >>= _) _ _ _;refine Ya ?_;simp only[newExc,newTuple];refine Ya (Yr ?_ (by size_fits));refine Ya (m:=firstArgMember _ _) (Wo (a:=Value.none) (by first|rfl|(simp only[firstArgMember];rfl)) ?_);refine Yr ?_ (by size_fits);simp only[raiseNew];refine Ya (wpAny_handled ?_)
  first|rw[show A.in1.handled=Wv from calm]|rw[calm]
  exact Ya (Yc (wpAny_throw (q _ _ (((Heap.SameBut.update ..).extBut.push _).push _) ⟨_,Oj _ rfl,rfl⟩)))
theorem dr(calm:A.handled=Wv)(J T:Yi)(ne:T≠J)(us:Array Yj):Draws prog w A J [J,T] (us.size+1) (fun k y=>∃j,k=j+1/\us[j]? = Wu y) (fun k h=>∃j,k=j+1/\h.IsTupleIter J T j/\h.IsTuple T us) where
 live:=fun _ _ z=>let ⟨_,_,⟨ob,g,_⟩,_⟩:=z;⟨ob,g⟩
 frame:=fun _ _ _ z kp=>by obtain⟨j,e,⟨o1,a1,b1⟩,o2,a2,b2⟩:=z;exact⟨j,e,⟨o1,kp J (by simp) _ a1,b1⟩,o2,kp T (by simp) _ a2,b2⟩
 item:=fun k s Q E lt z q=>by
  obtain⟨j,rfl,a,b⟩:=z;have lj:j<us.size:=by omega
  refine Zpd a b (y:=us[j]) (by simp[lj]) fun h1 a1 sb=>?_;exact q _ h1 s.toks ⟨j,rfl,by simp[lj]⟩ ⟨j+1,rfl,a1,b.extBut sb.extBut ne⟩ sb
 done:=fun s Q E z q=>by
  obtain⟨j,e,a,b⟩:=z;have:j=us.size:=by omega
  subst this;exact ZrF calm a b (by simp) q
end
end En1
end L2
end
section
namespace L2
open PySem PySem.Spec PyProof.Rows
open PySem.AutoSeq1 (wpAny_loadPart')
namespace En1
theorem ct(a v:Yj):checkTypeCall "enumerate" ⟨[a],[("start",v)]⟩=pure ():=by kernel_rfl
theorem cb(a v:Yj):checkBuiltinCall "enumerate.__new__" ⟨[.type "enumerate",a],[("start",v)]⟩=pure ():=by kernel_rfl
theorem ao(o a v:Yj):argsOk "object.__init__" ⟨[o,a],[("start",v)]⟩:=by unfold argsOk;kernel_rfl
theorem ini{o a v:Yj}:Meets (Builtin.«object.__init__» ⟨[o,a],[("start",v)]⟩) (fun _ R s=>s.TypeIs o "enumerate" /\ R (.ok (.ret .none)) s):=by
 refine Meets.of_wp fun prog w A R s z=>?_;obtain⟨ty,q⟩:=z;have hl:=F.called_enumerate.init.lookup;have hm:=F.called_enumerate.made;have hne:(Wu "enumerate.__new__" != Wu "object.__new__")=Ww:=by decide
 repeat (any_goals (first|assumption|wp_step))
 exact⟨_,rfl,q⟩
theorem nw(T:Yi)(us:Array Yj)(n:Nat)(dc:Option Yi)(sl:Array (Option Yj))(t:Tok):
 Meets (Builtin.«enumerate.__new__» ⟨[.type "enumerate",.ref T],[("start",.int 1 t)]⟩) (fun _ R s=>s.heap.get? T=Wu {cls:=.type "tuple",dict:=dc,data:=.seq us n,slots:=sl} /\
  R (.ok (.ret (.ref (s.heap.push {cls:=.type "tuple_iterator",data:=.fields #[.ref T,.int 0 0]}).objs.size)))
   {s with heap:=(s.heap.push {cls:=.type "tuple_iterator",data:=.fields #[.ref T,.int 0 0]}).push {cls:=.type "enumerate",data:=.fields #[.none,.bool Wx,.ref s.heap.objs.size,rawInt 1,.none,.none]}}):=
 .of_wp fun prog w A R s z=>by
  obtain⟨hp,g,d,tk,os⟩:=s;obtain⟨e,q⟩:=z;have hsub:=sub_enumerate;have tt:Heap.IsTuple (Shared.heap ⟨hp,g,d,tk,os⟩) T us:=⟨_,e,rfl,n,rfl⟩
  wp_walk using wpAny_loadPart' e
  refine wpAny_stack_any fun st=>Yc ?_;split
  . rename_i c _ _ _ _ _;cases (c==Value.type "enumerate")
    . wp_walk using wpAny_loadPart' e,wpAny_pyIter_tuple tt
      exact⟨_,rfl,q⟩
    . wp_walk using wpAny_loadPart' e,wpAny_pyIter_tuple tt
      exact⟨_,rfl,q⟩
  . wp_walk using wpAny_loadPart' e,wpAny_pyIter_tuple tt
    exact⟨_,rfl,q⟩
end En1
end L2
end
section
namespace L2
open PySem PySem.Spec PyProof.Rows
namespace En1
section
variable {prog:Yh}{w:Yg}{A:YH}{E:Yj->Yb->Prop}{s:Yb}
theorem mk{T:Yi}{us:Array Yj}{t:Tok}{Q:Yj->Yb->Prop}(tt:s.heap.IsTuple T us)
 (q:∀h1,IsEnum h1 (s.heap.objs.size+1) s.heap.objs.size 1 .none->h1.IsTupleIter s.heap.objs.size T 0->(∀b o,s.heap.get? b=Wu o->h1.get? b=Wu o)->Q (.ref (s.heap.objs.size+1)) {s with heap:=h1}) :
 YB (model prog w) A (call (.type "enumerate") [.ref T] [("start",.int 1 t)]) Q E s:=by
 obtain⟨⟨c,dc,dt,sl⟩,e,hc,n,hd⟩:=tt;obtain rfl:c=.type "tuple" := hc;obtain rfl:dt=.seq us n:=hd;have ft:=F.called_enumerate;obtain⟨c,tl,hmro⟩:=ft.mro;have hmade:=ft.made;have hsub:=ft.sub;have hct:=ct (.ref T) (.int 1 t);refine wpAny_call (codeAny_of_tree ?_);show YB _ _ (callAny (.type "enumerate") _) _ _ _;refine Yc ⟨Code.quiet_builtin _ (by decide +kernel),codeAny_builtin F.entry_type_call ?_⟩;rw[Around.under_plain (weight_type_call_type "enumerate" [.ref T] [("start",.int 1 t)]) (units_type_call_type "enumerate" [.ref T] [("start",.int 1 t)])];have h1:=ft.notType;have h2:=ft.canCreate
 repeat (any_goals (first|assumption|wp_step))
 refine codeAny_mono (codeAny_call_builtin ft.plain F.entry_enumerate_new (Wo (cb (.ref T) (.int 1 t)) (nw T us n dc sl t prog w A.in1 (wants (fun obj s1=>s1.TypeIs obj "enumerate" /\ Q obj s1) E) s ⟨e,?_⟩))) fun r s1 hr=>?_
 . have hz:(s.heap.push {cls:=.type "tuple_iterator",data:=.fields #[.ref T,.int 0 0]}).objs.size=s.heap.objs.size+1:=Heap.size_push ..;show _/\_;rw[hz];have he:IsEnum ((s.heap.push {cls:=.type "tuple_iterator",data:=.fields #[.ref T,.int 0 0]}).push {cls:=.type "enumerate",data:=.fields #[.none,.bool Wx,.ref s.heap.objs.size,rawInt 1,.none,.none]}) (s.heap.objs.size+1) s.heap.objs.size 1 .none:=by have:=Oj (s.heap.push {cls:=.type "tuple_iterator",data:=.fields #[.ref T,.int 0 0]}) (o:={cls:=.type "enumerate",data:=.fields #[.none,.bool Wx,.ref s.heap.objs.size,rawInt 1,.none,.none]}) rfl;rw[hz]at this;exact this
   exact⟨⟨_,he,rfl⟩,q _ he ⟨_,Od _ (Oj _ rfl),rfl,rfl⟩ fun b o x=>Od _ (Od _ x)⟩
 cases r with
 |error e=>exact hr
 |ok fl=>
  cases fl with
  |ret obj=>
   obtain⟨hT,hq⟩:=hr;have hli:=ft.init.lookup;have hbi:=ft.init.bind obj
   repeat (any_goals (first|assumption|wp_step))
   refine codeAny_mono (codeAny_call_builtin ft.init.plain F.entry_object_init (ft.init.check _ _ _ _ _ _ _ _ hT (ao obj (.ref T) (.int 1 t)) (ini prog w A.in1 (wants (fun r s2=>r=.none/\Q obj s2) E) s1 ⟨hT,rfl,hq⟩))) fun r2 s2 hr2=>?_;cases r2 with
   |error e=>exact hr2
   |ok fl2=>
    cases fl2 with
    |ret r=>
     obtain⟨rfl,hq⟩:=hr2
     repeat (any_goals (first|assumption|wp_step))
    |_=>exact hr2.elim
  |_=>exact hr.elim
end
end En1
end L2
end
section
namespace L2
open PySem PySem.Spec PyProof.Rows
noncomputable def It1(K:Yk)(a:Yi):It:=⟨fun i H=>∃xs x,SqT K H a xs/\xs[i]? = Wu x,fun i H v H'=>∃p,v=.ref p/\H p=Wv/\∃x,(∀xs,SqT K H a xs->xs[i]? = Wu x)/\H'=upd H p (.tup [.int (i+1:Nat),x]),fun i H=>∃xs,SqT K H a xs/\xs.length=i⟩
theorem ZmT{P:Yh}{w:Yg}{K:Yk}{es:List Expr}{kk:Nat}{tp:Pos}(a it e:Yi)(hei:e≠it)(hae:a≠e)(hai:a≠it):
 Turn P w K (.Tuple es kk tp) (It1 K a) [e,it] e (fun i h=>(∃old,IsEnum h e it ((i+1:Nat):Int) old)/\h.IsTupleIter it a i) where
 mem:=by simp
 obj:=fun i h st b hb=>by
  obtain⟨⟨old,he⟩,o,e1,c,d⟩:=st;rcases O2.mp hb with rfl|hb
  . exact⟨_,he,fun v z=>by cases z⟩
  . have e2:b=it:=by simpa using hb
    subst e2;exact⟨o,e1,fun v z=>by rw[d]at z;cases z⟩
 keep:=fun i h h' st k=>by obtain⟨⟨old,he⟩,st⟩:=st;exact⟨⟨old,k e (by simp) _ he⟩,st.at fun o z=>k it (by simp) o z⟩
 item:=by
  intro X hP hw hK hc i pins s Z H E I hf st hg;subst hP hw hK;obtain⟨xs,x,hq,hx⟩:=hg;obtain⟨its,rv,p,hz⟩:=I.tuple hq;have p:s.heap.IsTuple a its.toArray:=p;have hl:=rv.length;have hi:i<xs.length:=(Ob.mp hx).1;have D:=En1.dr (prog:=X.prog) (w:=X.w) (A:=X.A.in1) (I.ok.hd hc) it a hai its.toArray;have W:=WalksT.enumerateD (A:=X.A) D e hei (by simp[hei,YL hae]) (by simp);obtain⟨⟨old,he⟩,hit⟩:=st;refine wpAny_pyNext_enum_itemD D he ⟨i,rfl,hit,p⟩ (by simp;omega) hei (by simp[hei,YL hae]) fun y h1 tk hy ho hst hT hsz hk=>?_;obtain⟨j,ej,hy⟩:=hy;obtain rfl:i=j:=by omega
  have e1:e<s.heap.objs.size:=Yn he;have e2:it<s.heap.objs.size:=by obtain⟨_,z,_⟩:=hit;exact Yn z
  have hT1:s.heap.objs.size≠e:=Nat.ne_of_gt e1;have hT2:s.heap.objs.size≠it:=Nat.ne_of_gt e2;refine⟨_,rfl,W.go _ _ _ (i+1) s.heap.objs.size {s with heap:=h1,toks:=tk+1} _ _ ⟨⟨_,ho⟩,hst,hT1,hT2⟩ fun h2 st2 kk2=>?_⟩;have hy':its[i]? = Wu y:=by simpa using hy
  obtain⟨u,hu,ru⟩:=rv.get hx;rw[hy']at hu;cases hu;have hTw:s.heap.objs.size ∉ [e,it]:=by simp[hT1,hT2]
  have tup2:Zbp h2 s.heap.objs.size #[.int ((i+1:Nat):Int) tk,y]:=⟨_,kk2 _ _ hTw hT,rfl,rfl,_,rfl⟩
  have I2:Inv X pins Z (upd H s.heap.objs.size (.tup [.int ((i+1:Nat):Int),x])) {s with heap:=h2,toks:=tk+1}:=I.turnT hf (fun b o hb q=>kk2 b o hb (hk b o (fun z=>hb (by simp[z])) (fun z=>hb (by simp[z])) q)) (Oq _) (us:=[.int ((i+1:Nat):Int) tk,y]) tup2 (.cons ⟨tk,rfl⟩ (.cons ru .nil)) (by show 2<=sizeLine;decide);obtain⟨s3,j,ej2,s4,s5⟩:=st2;obtain rfl:j=i+1:=by omega
  refine⟨.ref s.heap.objs.size,_,I2,rfl,⟨_,rfl,I.hok.fresh (Oq _),x,fun ys hy=>by rw[I.tuple_inj hy hq];exact hx,rfl⟩,⟨s3,s4⟩,fun b hb=>?_⟩;have neb:b≠s.heap.objs.size:=fun z=>hTw (by rw[<- z];exact hb);rw[Zg neb];exact(hf b hb).1
 done:=by intro X hP hw hK hc i pins s Z H E I hf st hg;subst hP hw hK;obtain⟨xs,hq,hx⟩:=hg;obtain⟨its,rv,p,hz⟩:=I.tuple hq;have p:s.heap.IsTuple a its.toArray:=p;have hl:=rv.length;have D:=En1.dr (prog:=X.prog) (w:=X.w) (A:=X.A.in1) (I.ok.hd hc) it a hai its.toArray;obtain⟨⟨old,he⟩,hit⟩:=st;refine wpAny_pyNext_enum_endD D he ⟨i,by simp;omega,hit,p⟩ fun h1 ex=>⟨rfl,I.turnL (t':=s.toks) hf fun b o hb q=>ex b o (fun z=>hb (by simp[z])) q⟩
 self:=fun A i s Q E st h=>by obtain⟨⟨old,he⟩,_⟩:=st;exact wpAny_pyIter_enum he h
section
variable {M:Model}{A:YH}{E:Yj->Yb->Prop}{s:Yb}{env:Env}
theorem ZoM{pos:Pos}{T:String}{e:Expr}{kws:List Keyword}{Q:Yj->Yb->Prop}(he:YA [e] env=[(Wx,eval e env)])
 (h:YB M A (spliced (YS pos (YA [e] env))) (fun vs s1=>YB M A (evalAll ((backToKw pos (Wb kws env)).map (·.2)))
  (fun kvs s2=>YB M A (call (.type T) vs (((backToKw pos (Wb kws env)).filterMap (·.1)).zip kvs)) Q E s2) E s1) E s)
 (hall:(backToKw pos (Wb kws env)).all (·.1.isSome)=Ww:=by rfl) (hkw:(backToKw pos (Wb kws env)).any (·.1.isNone)=Wx:=by rfl) :
 YB M A (callWith pos (.type T) [] (YS pos (YA [e] env)) (backToKw pos (Wb kws env))) Q E s:=by
 have hp:(YS pos (YA [e] env)).any (·.1)=Wx:=by rw[he];rfl
 have g:YB M A (evalArgs (.type T) Ww (YS pos (YA [e] env)) (backToKw pos (Wb kws env))) (fun a s1=>YB M A (call (.type T) ([]++a.pos) a.kw) Q E s1) E s:=by rw[he]at h ⊢;exact evalArgs_kwB hall h
 unfold callWith;refine Ya (Wg (Yf g (fun a s1 h1=>Ya (wpAny_standAt ?_)) fun _ _ z=>z));simp only[hp,hkw,Bool.or_false];exact Ya (Yc (Ya (Yf h1 (fun r s2 hr=>Ya (Wg (wpAny_point (Yc hr)))) fun _ _ z=>z)))
end
noncomputable def Zv9(K:Yk)(tl tk:TE):TI:=fun Z H R=>tl Z H fun v H1=>tk Z H1 fun u H2=>∃a,v=.ref a/\u=.int 1/\(∃xs,SqT K H2 a xs)/\R (It1 K a) H2
theorem Zsc{X:Cx}{es:List Expr}{kk:Nat}{tp:Pos}{l y:Expr}{tl tk:TE}{p kp pos:Pos}(hg:Gl X "enumerate")(hm:X.mg "enumerate" = Wv)(hl:PE X l tl)(hy:PE X y tk)(he:YA [l] X.env=[(Wx,eval l X.env)]):
 PI X (.Tuple es kk tp) (.Call (.Name "enumerate" p) [l] [⟨Wu "start",y,kp⟩] pos) (Zv9 X.K tl tk):=by
 intro pins s Z H R I h;refine YX (Zc2 I hg hm boot_enumerate ?_);refine ZoM he ?_;rw[he];refine Calls.spliced_cons (thn (hl pins s Z H _ I h) fun v s1 ⟨vv,H1,I1,r1,q1⟩=>Calls.spliced_nil ?_);refine kws_cons (thn (hy pins s1 Z H1 _ I1 q1) fun u s2 ⟨uu,H2,I2,r2,q2⟩=>kws_nil ?_);obtain⟨a,rfl,rfl,⟨xs,hq⟩,q⟩:=q2;cases r1;obtain⟨t,rfl⟩:=r2;obtain⟨its,rv,pt,hz⟩:=I2.tuple hq;have pt:s2.heap.IsTuple a its.toArray:=pt;have hlt:a<s2.heap.objs.size:=by obtain⟨_,z,_⟩:=pt;exact Yn z
 refine En1.mk pt fun h1 he hi kk=>?_;refine wpAny_pyIter_enum he ?_;refine⟨s2.heap.objs.size+1,[s2.heap.objs.size+1,s2.heap.objs.size],_,_,H2,rfl,I2.kept (t':=s2.toks) kk,ZmT a s2.heap.objs.size (s2.heap.objs.size+1) (Nat.succ_ne_self _) (Ou (Nat.lt_succ_of_lt hlt)) (Ou hlt),⟨⟨_,he⟩,hi⟩,fun b hb=>?_,q⟩;rcases O2.mp hb with rfl|hb
 . exact I2.fpOk (Nat.le_succ _) (I2.hok.fresh (Nat.le_succ _))
 . have e:b=s2.heap.objs.size:=by simpa using hb
   subst e;exact I2.fpOk (Oq _) (I2.hok.fresh (Oq _))
end L2
end
section
namespace L2
open PySem PySem.Spec PyProof.Rows
section
variable {X:Cx}{pins:List (Yi×Obj)}{Z:St}{H:Hp}{s:Yb}
theorem Inv.freeze{a:Yi}{o:Obj}{kvs:List (Key×V)}(I:Inv X pins Z H s)(e:H a=Wu (.dK kvs))(ho:s.heap.get? a=Wu o):Inv X pins Z (upd H a (.frz o (.dK kvs))) s:=by
 have ne:∀b,(∀kvs,H b≠Wu (.dK kvs))->b≠a:=fun b q z=>q kvs (by rw[z];exact e);refine I.un (t':=s.toks) (h':=s.heap) ⟨fun b u q n _ _=>q,fun b u q n _ _=>⟨u.slots,q⟩,fun b u q n _=>?_,fun b u q _=>⟨u,q⟩,fun b xs q=>?_,fun b u v q=>?_,fun b ps q=>⟨#[],?_⟩⟩ ?_
 . rw[Zg (ne b fun k z=>by rw[n]at z;cases z)];exact n
 . rw[Zg (ne b fun k z=>by rw[q]at z;cases z)];exact q
 . rw[Zg (ne b fun k z=>by rw[q]at z;cases z)];exact q
 . rw[Zg (ne b fun k z=>by rw[q]at z;cases z),q];simp
 . have old:=I.hok a _ e;exact I.hok.write (x:=a) (e:=a) (by rw[e];trivial) (.inl rfl) (fun b u _ q=>q) ⟨o,ho⟩ ⟨ho,old⟩
end
theorem Zqo{k:Key}{u:Yj}(h:Zf4 k u=Ww):RelV (kV k) u:=by
 rcases ZH h with ⟨i,t,rfl,rfl⟩|⟨x,t,rfl,rfl⟩
 . exact⟨t,rfl⟩
 . exact⟨t,rfl⟩
theorem Zlr:∀{kvs:List (Key×V)}{vs:List (Key×Yj)},KV kvs vs->kvs.map (·.1)=vs.map (·.1)
 |_,_,.nil=>rfl
 |_,_,.cons h t=>by rw[Op,Op,Zlr t,h.1]
noncomputable def Itd(a:Yi)(o:Obj)(kvs:List (Key×V)):It:=⟨fun i H=>H a=Wu (.frz o (.dK kvs))/\i<kvs.length,fun i H x H'=>H'=H/\∃k v,kvs[i]? = Wu (k,v)/\x=kV k,fun i H=>H a=Wu (.frz o (.dK kvs))/\kvs.length<=i⟩
theorem Zpa{P:Yh}{w:Yg}{K:Yk}{tg:Expr}(a it:Yi)(o:Obj)(kvs:List (Key×V))(es:Array DictEntry)(ep:Nat)(hd:o.data=.dict es ep):Turn P w K tg (Itd a o kvs) [it] it (fun i h=>h.IsKeyIter it a i kvs.length ep) where
 mem:=by simp
 obj:=fun i h st b hb=>by
  have e:b=it:=by simpa using hb
  subst e;obtain⟨o,e,c,d⟩:=st;exact⟨o,e,fun v z=>by rw[d]at z;cases z⟩
 keep:=fun i h h' st k=>st.at fun o e=>k it (by simp) o e
 item:=by
  intro X hP hw hK hc i pins s Z H E I hf st hg;subst hP hw hK;obtain⟨ea,hi⟩:=hg;obtain⟨g1,hz,hsm,vs,rv,o2,es2,ep2,g2,x1,x2,x3,x4,x5⟩:=I.hok a _ ea;rw[g1]at g2;cases g2;rw[hd]at x2;cases x2;have hl:=rv.length;have hi2:i<vs.length:=by omega
  obtain⟨f0,f1,f2,f3,f4,f5⟩:=hf it (by simp);have hkv:(kvs[i]'hi).1=(vs[i]'hi2).1:=by have q:=congrArg (fun l=>l[i]?) (Zlr rv);simp only[On,Og hi,Og hi2,Yv]at q;exact YF q
  refine wpAny_pyNext_dict_item (knd:=ZG X.prog X.w) (kvs:=vs) (k:=(vs[i]'hi2).1) (v:=(vs[i]'hi2).2) (by rw[<- hl];exact st) ⟨o,es,g1,x1,hd,x3,x4,x5⟩ (by simp[hi2]) fun key h' hkey hit' hs'=>?_;have I1:Inv X pins Z H {s with heap:=h'}:=I.turned (t':=s.toks) (fun b o hb e=>(hs'.2 b hb).trans e) f0 f1 f3 f4 f5;obtain⟨oi,e,c,d⟩:=id hit';exact⟨key,rfl,Zg1 (s:={s with heap:=h'}) e c d (by decide) ⟨kV (kvs[i]'hi).1,H,I1,by rw[hkv];exact Zqo hkey,⟨rfl,(kvs[i]'hi).1,(kvs[i]'hi).2,by simp[hi],rfl⟩,by rw[hl];exact hit',fun b hb=>(hf b hb).1⟩⟩
 done:=by intro X hP hw hK hc i pins s Z H E I hf st hg;subst hP hw hK;obtain⟨ea,hi⟩:=hg;obtain⟨g1,hz,hsm,vs,rv,o2,es2,ep2,g2,x1,x2,x3,x4,x5⟩:=I.hok a _ ea;rw[g1]at g2;cases g2;rw[hd]at x2;cases x2;have hl:=rv.length;obtain⟨f0,f1,f2,f3,f4,f5⟩:=hf it (by simp);exact wpAny_pyNext_dict_end (knd:=ZG X.prog X.w) (kvs:=vs) (I.ok.hd hc) (by rw[<- hl];exact st) ⟨o,es,g1,x1,hd,x3,x4,x5⟩ (by simp;omega) fun h' eb=>⟨rfl,I.turned (t':=s.toks) (fun b o hb e=>eb b o hb e) f0 f1 f3 f4 f5⟩
 self:=fun _ _ _ _ _ st h=>wpAny_pyIter_keyiter st h
noncomputable def iDk(tl:TE):TI:=fun Z H R=>tl Z H fun x H1=>∃a kvs,x=.ref a/\((H1 a=Wu (.dK kvs)/\∀o,R (Itd a o kvs) (upd H1 a (.frz o (.dK kvs))))\/∃o,H1 a=Wu (.frz o (.dK kvs))/\R (Itd a o kvs) H1)
theorem Zud{X:Cx}{tg l:Expr}{tl:TE}(hl:PE X l tl):PI X tg l (iDk tl):=by
 intro pins s Z H R I h;refine thn (hl pins s Z H _ I h) fun v s1 ⟨x,H1,I1,r1,q1⟩=>?_;obtain⟨a,kvs,rfl,q⟩:=q1;cases r1;have main:∀(o:Obj) (H2:Hp),Inv X pins Z H2 s1->H2 a=Wu (.frz o (.dK kvs))->R (Itd a o kvs) H2->YB (model X.prog X.w) X.A (pyIter (.ref a)) (PIE X pins Z tg R) X.xe s1:=by
  intro o H2 I2 ea hR;obtain⟨g1,hz,hsm,vs,rv,o2,es,ep,g2,x1,x2,x3,x4,x5⟩:=I2.hok a _ ea;rw[g1]at g2;cases g2;refine wpAny_pyIter_dict (knd:=ZG X.prog X.w) hsm ⟨o,es,g1,x1,x2,x3,x4,x5⟩ ?_;refine⟨s1.heap.objs.size,[s1.heap.objs.size],_,_,H2,rfl,I2.kept (t':=s1.toks) fun b o e=>Od _ e,Zpa a _ o kvs es ep x2,⟨_,Oj _ rfl,rfl,by rw[rv.length];rfl⟩,fun b hb=>?_,hR⟩;have e:b=s1.heap.objs.size:=by simpa using hb
  subst e;exact I2.fpOk (Oq _) (I2.hok.fresh (Oq _))
 rcases q with ⟨ea,hR⟩|⟨o,ea,hR⟩
 . obtain⟨hz,hsm,vs,rv,o,es,ep,g2,r⟩:=I1.hok a _ ea;exact main o _ (I1.freeze ea g2) Zi (hR o)
 . exact main o _ I1 ea hR
end L2
end
section
namespace L2
open PySem PySem.Spec PyProof.Rows
def ZuF(X:Cx)(hs:List ExceptHandler)(Q:Flow->Yb->Prop):Yj->Yb->Prop:=fun e s₁=>YB (model X.prog X.w) X.A (noteFrame e X.env) (fun _ s₂=>YB (model X.prog X.w) X.A (setFlight e Wv) (fun _ s₃=>YB (model X.prog X.w) X.A (handleBy e X.env hs) Q X.xe s₃) X.xe s₂) X.xe s₁
section
variable {X:Cx}{cx:Str}{np hpos pos:Pos}{C2:Yi}{b0:Stmt}{suite body:List Stmt}
theorem Zmb(hgc:Gl X cx)(hmc:X.mg cx=Wu (.ref C2))(hC:ExcN X.K C2)(hstk:X.stack=X.env::X.outer)(hfrm:X.env.frame=Wu X.env.locals){Q:Flow->Yb->Prop}
 (hdb2:(cx==("__debug__" : Str))=Wx) {Z:St}{E1:XK}{pins:List (Yi×Obj)} (hE:∀cls H',E1 cls Wv H'->YV X.K cls (.ref C2)=Wu Ww/\∀C,cls=.ref C->∀a oe s',oe.cls=cls->Inv (cxH X a oe) pins Z H' s'->YB (model X.prog X.w) (cxH X a oe).A (execs (b0::suite) X.env) Q (fun _ _=>False) s')
 (hcls:∀cls H',E1 cls Wv H'->∃C,cls=.ref C) {H:Hp}{s:Yb}{e:Yj}{s':Yb} (I1:Inv X pins Z H s) (hq:CXF X.prog X.w X.stack H s E1 e s'):ZuF X [.ExceptHandler (Wu (.Name cx np)) Wv (b0::suite) hpos] Q e s':=by
 obtain⟨a,cls,a0,H',B_,rfl,os,bare,un,hok,fl,kb,hna,h1⟩:=hq;obtain⟨C,rfl⟩:=hcls _ _ h1;obtain⟨hsub,hts⟩:=hE _ _ h1;have hfr:X.A.frames=Wu (X.env::X.outer):=by rw[<- hstk];exact I1.ok.frames
 have fl':Heap.FlyingW B_ (X.env::X.outer) a (.ref C) a0 s'.heap:=by rw[<- hstk];exact fl
 have I':=I1.call' (ch:=[]) os un hok bare (fun b z=>absurd z (by simp));have hfo:∀b∈frs X.stack,∃o,s'.heap.get? b=Wu o/\∀vs,o.data≠.fields vs:=fun b hb=>by obtain⟨_,o,q,nf⟩:=I'.stack.mem hb;exact⟨o,q,nf⟩
 have atH:∀h2:YG,B_.StaysIn h2->s'.heap.UpToSlots h2->∀tk,Inv X pins Z H' {s' with heap:=h2,toks:=tk}:=fun h2 st up tk=>by obtain⟨r1,r2,_⟩:=ZdU un hok kb st up hfo;exact I1.call' (s':={s' with heap:=h2,toks:=tk}) (ch:=[]) os r1 r2 bare (fun b z=>absurd z (by simp))
 refine wpAny_looks_onW hfr hfrm fl' fun h4 held4 up4=>?_;refine wpAny_landsW held4 fun h5 fl5 up5=>?_;have I5:Inv X pins Z H' {s' with heap:=h5}:=atH h5 fl5.1 (up4.trans up5) s'.toks;refine wpAny_handleBy_cons (codeAny_handlers_test (Zcv (X:=cxM X a) (I5.toM a) hgc hmc ?_ hdb2)) (by intro q;cases q);obtain⟨oe,hoe,hoc⟩:=fl5.there;refine Zi4 (s:={s' with heap:=h5}) I5.kIn hC.ty hC.cls hC.exc hsub hoe hoc (codeAny_handlers_suite ?_);refine lands_againW fl5 fun h6 fl6 up6=>?_;have I6:Inv X pins Z H' {s' with heap:=h6}:=atH h6 fl6.1 ((up4.trans up5).trans up6) s'.toks;obtain⟨oe6,ws,hoe6,hoc6,hod6,_⟩:=fl6.first;have hnl:a≠X.env.locals:=fun z=>by obtain⟨m,⟨o,es',ep,ho,hd,_⟩,_⟩:=I6.loc;rw[<- z,hoe6]at ho;cases ho;rw[hod6]at hd;cases hd
 have hnf:a ∉ X.fs:=fun z=>by obtain⟨_,o,q,nf⟩:=I6.funs.mem z;rw[hoe6]at q;cases q;exact nf _ hod6
 have IH:Inv (cxH X a oe6) pins Z H' {s' with heap:=h6}:=I6.toH hoe6 hna hnl hnf (fun v z=>by rw[hod6]at z;cases z);exact Yf (hts C rfl a oe6 _ hoc6 IH) (fun _ _ z=>z) fun _ _ z=>z.elim
end
noncomputable def ZtG(K:Yk)(sp:Sp)(C2:Yi)(i:Nat)(ts:Yi->Obj->TS)(t:TA):TS:=fun D Z H=>t Z H fun vs H1=>sp vs H1 (fun v H2=>D.nx (Z.set i (Wu v)) H2) (fun cls _ H2=>∃C,cls=.ref C/\YV K (.ref C) (.ref C2)=Wu Ww/\∀a oe,ts a oe D Z H2)
section
variable {X:Cx}{k:Nat}{x cx n:Str}{ps:List Str}{sp:Sp}{e:Expr}{es:List Expr}{t:TA}{p np cpos apos hpos pos px:Pos}{C2:Yi}{i:Nat}{b0:Stmt}{suite:List Stmt}{ts:Yi->Obj->TS}
theorem Zl4(F:Def X.prog X.w X.K X.mg X.base k x ps sp)(hr:Room k X.A)(hg:Gl X x)(ha:PA X.nox (e::es) t)
 (hgc:Gl X cx) (hmc:X.mg cx=Wu (.ref C2)) (hC:ExcN X.K C2) (hN:X.N.Nodup) (hi:X.N[i]? = Wu n) (hx:Loc X.env.scope n) (hf:X.fn n=Ww\/X.env.scope.names.lookup n=Wu .local) (hstk:X.stack=X.env::X.outer) (hfrm:X.env.frame=Wu X.env.locals)
 (hsuite:∀a oe,PSs (cxH X a oe) (b0::suite) (ts a oe)) (hdb:(x==("__debug__" : Str))=Wx) (hdb2:(cx==("__debug__" : Str))=Wx) (he:YA (e::es) X.env=(Wx,eval e X.env)::YA es X.env) (hpl:(YS cpos (YA es X.env)).any (·.1)=Wx)
 (hsw:swapsWith (.Call (.Name x p) (e::es) [] cpos) (Wu (.Name n px)) apos.line X.env=pure Wx:=by rfl) :
 PS X (.Try [.Assign [.Name n px] (.Call (.Name x p) (e::es) [] cpos) apos] [.ExceptHandler (Wu (.Name cx np)) Wv (b0::suite) hpos] [] [] pos) (ZtG X.K sp C2 i ts t):=by
 obtain⟨f,fd,hm,hk,hb,F⟩:=F;intro pins s Z H D I h;refine wpAny_Try_except (wpAny_execs_cons (wpAny_Assign_Name (YX (Zcv I hg hm ?_ hdb)) hsw));refine PySem.W.callWith_K (h₀:=X.base) I.ok.mod.kin hk (Yf (ha cpos pins s Z H _ (I.wish _) h) (fun us s1 ⟨vs,H1,I1',r,q⟩=>?_) fun _ _ z=>z.elim) he hpl;have I1:Inv X pins Z H1 s1:=I1'.unwish;refine⟨I1.kIn,?_⟩;have hlen:(us++[]).length=ps.length:=by rw[Yt,<- r.length];exact F.len _ _ _ _ q
 have hbt:=hb s1 us I1.kIn hlen;rw[Yt]at hbt;refine wpAny_call (codeAny_mono (F.run X.A X.stack s1 H1 ⟨us,[]⟩ us vs _ _ hr I1.env0 hbt r q) fun r s' hq=>?_);cases r with
 |ok fl=>
  cases fl with
  |ret u=>obtain⟨v,H',I',rv,q'⟩:=I1.after hq;exact Zd6 I' hN hi hx rv (fun s2 I2=>wpAny_execs_nil (wpAny_execs_nil ⟨_,H',I2,q'⟩)) hf
  |next=>exact False.elim hq
  |brk=>exact False.elim hq
  |cont=>exact False.elim hq
 |error ev=>
  have hq:CXF X.prog X.w X.stack H1 s1 (fun cls _ H2=>∃C,cls=.ref C/\YV X.K (.ref C) (.ref C2)=Wu Ww/\∀a oe,ts a oe D Z H2) ev s':=hq;refine Zmb (np:=np) (hpos:=hpos) (Z:=Z) (Q:=SP X pins D) hgc hmc hC hstk hfrm hdb2 (fun cls H' z=>?_) (fun cls H' z=>?_) I1 hq
  . obtain⟨C,rfl,hs,ht⟩:=z;refine⟨hs,fun _ _ a oe s' _ I'=>?_⟩;refine Yf (hsuite a oe pins s' Z H' D I' (ht a oe)) (fun fl s8 q8=>?_) fun _ _ z=>z;cases fl with
    |next=>obtain⟨σ',H8,I8,q8⟩:=q8;exact⟨σ',H8,I8.ofH I.ok.hd,q8⟩
    |brk=>obtain⟨σ',H8,I8,q8⟩:=q8;exact⟨σ',H8,I8.ofH I.ok.hd,q8⟩
    |cont=>obtain⟨σ',H8,I8,q8⟩:=q8;exact⟨σ',H8,I8.ofH I.ok.hd,q8⟩
    |ret v=>obtain⟨y,σ',H8,I8,r8,q8⟩:=q8;exact⟨y,σ',H8,I8.ofH I.ok.hd,r8,q8⟩
  . obtain⟨C,rfl,_⟩:=z;exact⟨C,rfl⟩
end
end L2
end
section
set_option tactic.hygienic false
namespace IV
open PySem PySem.Spec PyProof.Rows L2
inductive D where
 |non|bl (b:Bool)|int (i:Int)|str (x:Str)|tup (xs:List D)|ref (i:Nat)|ty (n:String)
 |ro (xs:List D)|kd (x:Str)
inductive DO where
 |lst (xs:List D)|dic (kvs:List (Key×D))|ins (C:Str) (fs:List (Str×D))
 |fdic (kvs:List (Key×D))
noncomputable abbrev Hd:=List DO
inductive R(α:Type) where
 |bad|ok (a:α) (h:Hd)|exc (c:Str) (h:Hd)
noncomputable def R.bind{α β:Type}(r:R α)(k:α->Hd->R β):R β:=match r with
 |.bad=>.bad
 |.ok a h=>k a h
 |.exc c h=>.exc c h
theorem R.bind_ok{α β:Type}{a:α}{h:Hd}{k:α->Hd->R β}:(R.ok a h).bind k=k a h:=rfl
theorem R.bind_bad{α β:Type}{k:α->Hd->R β}:(R.bad:R α).bind k=.bad:=rfl
noncomputable def R.ofO{α:Type}(o:Option α)(h:Hd):R α:=match o with
 |some a=>.ok a h
 |none=>.bad
theorem R.ofO_some{α:Type}{a:α}{h:Hd}:R.ofO (Wu a) h=.ok a h:=rfl
noncomputable abbrev Ev:=List (Option D)
inductive Bf where
 |len|isi|int|tup|lst|sum|all|srt|mx
 deriving DecidableEq
inductive Mf where
 |app|ext|pop|rev|clr
 deriving DecidableEq
mutual
inductive Ex where
 |var (i:Nat)|cst (d:D)|glo (x:Str)
 |bin (op:Operator) (a b:Ex)|cmp (op:CmpOp) (a b:Ex)|cmp2 (op op':CmpOp) (a b c:Ex)
 |neg (a:Ex)|nt (a:Ex)|ands (es:Exs)|ors (es:Exs)|ite (c:Tx) (a b:Ex)
 |tupl (es:Exs)|lstl (es:Exs)|ix (a i:Ex)|sl (a:Ex) (lo hi:Option Ex)
 |blt (f:Bf) (es:Exs)|call (f:Str) (es:Exs)|meth (m:Mf) (o:Ex) (es:Exs)
 |comp (NC:List Str) (js:List (Option Nat)) (it:Ix) (g:Tg) (c:Option Tx) (e:Ex)
 |sorts (e:Ex)|dictl (ps:Exs)|maxd (e d:Ex)
 |att (Cs:List Str) (o:Ex) (f:Str)|mk (C:Str) (es:Exs)|mcl (C m:Str) (o:Ex) (es:Exs)|any
 |trev (e:Ex)|tix (o e:Ex)|lrv (e:Ex)|lix (o e:Ex)|lin (a b:Ex)
inductive Exs where
 |nil|cons (e:Ex) (es:Exs)
inductive Ix where
 |pl (e:Ex)|rng (e:Ex)|rng2 (a b:Ex)|enu (e:Ex)|rev (e:Ex)
 |en1 (e:Ex)|en0 (e:Ex)|dk (e:Ex)
inductive Tg where
 |nm (i:Nat)|two (i j:Nat)|many (is:List Nat)
inductive Tx where
 |ex (e:Ex)|ands (ts:Txs)|ors (ts:Txs)|nt (a:Tx)
inductive Txs where
 |one (t:Tx)|cons (t:Tx) (ts:Txs)
end
mutual
inductive Sx where
 |ret (e:Ex)|set (g:Tg) (e:Ex)|put (o i e:Ex)|aug (i:Nat) (op:Operator) (e:Ex)|drp (e:Ex)
 |iff (c:Tx) (a b:Sxs)|whl (c:Tx) (b:Sxs)|forr (g:Tg) (it:Ix) (b:Sxs)|pas|brk|cnt
 |seta (Cs:List Str) (o:Ex) (f:Str) (e:Ex)|auga (Cs:List Str) (o:Ex) (f:Str) (e:Ex)|any
 |rai (C:Str) (e:Ex)|trs (i:Nat) (f:Str) (es:Exs) (C:Str)
inductive Sxs where
 |nil|cons (s:Sx) (r:Sxs)
end
noncomputable instance:DecidableEq D:=fun a b=>Classical.propDecidable (a=b)
noncomputable instance:DecidableEq DO:=fun a b=>Classical.propDecidable (a=b)
mutual
noncomputable def D.py(rd:Nat->Option PyData):D->Option PyData
 |.non=>Wu .none
 |.bl b=>Wu (.bool b)
 |.int i=>Wu (.int i)
 |.str x=>Wu (.str x)
 |.tup xs=>(D.pys rd xs).map .tuple
 |.ro xs=>(D.pys rd xs).map .list
 |.ref i=>rd i
 |_=>Wv
noncomputable def D.pys(rd:Nat->Option PyData):List D->Option (List PyData)
 |[]=>Wu []
 |x::xs=>(D.py rd x).bind fun d=>(D.pys rd xs).map fun ds=>d::ds
end
noncomputable def Zhr(h:Hd):Nat->Nat->Option PyData
 |0,_=>Wv
 |n+1,i=>match h[i]? with
  |some (.lst xs)=>(D.pys (Zhr h n) xs).map .list
  |_=>Wv
noncomputable def Ziw(h:Hd)(d:D):Option PyData:=D.py (Zhr h 4) d
noncomputable def ZcP(o:DO)(h:Hd):R D:=.ok (.ref h.length) (h++[o])
noncomputable def lstOf(d:D)(h:Hd):Option (List D):=match d with
 |.ref i=>match h[i]? with
  |some (.lst xs)=>Wu xs
  |_=>Wv
 |.ro xs=>Wu xs
 |_=>Wv
noncomputable def dicOf(GD:Str->Option (List (Key×D)))(d:D)(h:Hd):Option (List (Key×D)):=match d with
 |.ref i=>match h[i]? with
  |some (.dic kvs)=>Wu kvs
  |some (.fdic kvs)=>Wu kvs
  |_=>Wv
 |.kd x=>GD x
 |_=>Wv
noncomputable def keyOf:D->Option Key
 |.int i=>Wu (.inl i)
 |.str x=>Wu (.inr x)
 |_=>Wv
noncomputable def Zad(kvs:List (Key×D))(k:Key):Option D:=(kvs.find? fun p=>Wy (p.1=k)).map (·.2)
noncomputable def putD(kvs:List (Key×D))(k:Key)(v:D):List (Key×D):=if (kvs.any fun kv=>Wy (kv.1=k))=Ww then kvs.map (fun kv=>if kv.1=k then(kv.1,v)else kv)else kvs++[(k,v)]
noncomputable def cutD(xs:List D)(lo hi:Option Int):List D:=(xs.drop (HT.sIx xs.length 0 lo)).take (HT.sIx xs.length xs.length hi - HT.sIx xs.length 0 lo)
noncomputable def D.flat:D->Bool
 |.int _|.str _|.bl _|.non=>Ww
 |_=>Wx
noncomputable def eqF:D->D->Bool
 |.int i,.int j=>i==j
 |.str i,.str j=>i==j
 |.non,.non=>Ww
 |.bl i,.bl j=>i==j
 |.int i,.bl j=>i==(if j then 1 else 0)
 |.bl i,.int j=>(if i then 1 else 0)==j
 |_,_=>Wx
noncomputable def ZdR(GD:Str->Option (List (Key×D)))(d:D)(h:Hd):Option Bool:=match d with
 |.non=>Wu Wx
 |.bl b=>Wu b
 |.int i=>Wu (i != 0)
 |.str x=>if x.length<=sizeLine then Wu (!(x.length==0))else Wv
 |.tup xs=>Wu (!xs.isEmpty)
 |.ref i=>match h[i]? with
  |some (.lst xs)=>Wu (!xs.isEmpty)
  |some (.dic xs)=>Wu (!xs.isEmpty)
  |_=>Wv
 |.ro xs=>Wu (!xs.isEmpty)
 |_=>Wv
noncomputable def int2(x y:D)(k:Int->Int->R D):R D:=match x with
 |.int i=>match y with
  |.int j=>k i j
  |_=>.bad
 |_=>.bad
noncomputable def ZqW(x y:D)(h:Hd):R D:=match x with
 |.int i=>match y with
  |.int j=>.ok (.int (i+j)) h
  |_=>.bad
 |.str i=>match y with
  |.str j=>if i.length+j.length<=sizeLine then .ok (.str (i++j)) h else .bad
  |_=>.bad
 |.tup xs=>match y with
  |.tup ys=>if xs.length+ys.length<=sizeLine then .ok (.tup (xs++ys)) h else .bad
  |_=>.bad
 |.ref i=>match y with
  |.ref j=>match h[i]? with
   |some (.lst xs)=>match h[j]? with
    |some (.lst ys)=>if xs.length+ys.length<=sizeLine then ZcP (.lst (xs++ys)) h else .bad
    |_=>.bad
   |_=>.bad
  |_=>.bad
 |_=>.bad
noncomputable def Zux(x y:D)(h:Hd):R D:=match x with
 |.str z=>match y with
  |.int n=>if 0<=n/\n<=1000/\z.length<=1000 then .ok (.str (ZeE z n.toNat)) h else .bad
  |_=>.bad
 |x=>int2 x y fun i j=>if i.natAbs<2 ^ 2000/\j.natAbs<2 ^ 2000 then .ok (.int (i * j)) h else .bad
noncomputable def opB(op:Operator)(x y:D)(h:Hd):R D:=match op with
 |.Add=>ZqW x y h
 |.Sub=>int2 x y fun i j=>.ok (.int (i - j)) h
 |.Mult=>Zux x y h
 |.Mod=>int2 x y fun i j=>if 0<j then .ok (.int (i % j)) h else .bad
 |.FloorDiv=>int2 x y fun i j=>if 0<j/\j<1073741824 then .ok (.int (i / j)) h else .bad
 |.Pow=>int2 x y fun i j=>if 0<=j/\j<=1000000/\i.natAbs<2 ^ 64 then .ok (.int (i ^ j.toNat)) h else .bad
 |_=>.bad
noncomputable def Zb2(neg:Bool)(x y:D)(h:Hd):R D:=match Ziw h x,Ziw h y with
 |some a,Wu b=>if min a.depth b.depth<=1100 then .ok (.bl (if neg then !YQ a b else YQ a b)) h else .bad
 |_,_=>.bad
noncomputable def seqOf(d:D)(h:Hd):Option (List D):=match d with
 |.tup xs=>Wu xs
 |d=>lstOf d h
noncomputable def ZbQ(GD:Str->Option (List (Key×D)))(neg:Bool)(x y:D)(h:Hd):R D:=match seqOf y h with
 |some xs=>if x.flat&&xs.all D.flat then .ok (.bl (if neg then !xs.any (fun z=>eqF z x)else xs.any fun z=>eqF z x)) h else .bad
 |none=>match dicOf GD y h,keyOf x with
  |some kvs,Wu k=>.ok (.bl (if neg then !(Zad kvs k).isSome else(Zad kvs k).isSome)) h
  |_,_=>.bad
noncomputable def Zhy(f:Int->Int->Bool)(x y:D)(h:Hd):R D:=match x,y with
 |.int i,.int j=>.ok (.bl (f i j)) h
 |_,_=>.bad
noncomputable def opN(neg:Bool)(x y:D)(h:Hd):R D:=match y with
 |.non=>.ok (.bl (if neg then !Wy (x=.non)else Wy (x=.non))) h
 |_=>.bad
noncomputable def opC(GD:Str->Option (List (Key×D)))(op:CmpOp)(x y:D)(h:Hd):R D:=match op with
 |.Eq=>Zb2 Wx x y h
 |.NotEq=>Zb2 Ww x y h
 |.Lt=>Zhy (fun i j=>Wy (i<j)) x y h
 |.LtE=>Zhy (fun i j=>Wy (i<=j)) x y h
 |.Gt=>Zhy (fun i j=>Wy (j<i)) x y h
 |.GtE=>Zhy (fun i j=>Wy (j<=i)) x y h
 |.In=>ZbQ GD Wx x y h
 |.NotIn=>ZbQ GD Ww x y h
 |.Is=>opN Wx x y h
 |.IsNot=>opN Ww x y h
noncomputable def ZaS(GD:Str->Option (List (Key×D)))(x y:D)(h:Hd):R D:=match y with
 |.int i=>match seqOf x h with
  |some xs=>R.ofO (atI xs i) h
  |none=>match x with
   |.str z=>if z.length<=sizeLine then R.ofO ((atI z.cps.toList i).map fun c=>.str ⟨#[c]⟩) h else .bad
   |_=>match dicOf GD x h with
    |some kvs=>R.ofO (Zad kvs (.inl i)) h
    |none=>.bad
 |.str z=>match dicOf GD x h with
  |some kvs=>R.ofO (Zad kvs (.inr z)) h
  |none=>.bad
 |_=>.bad
noncomputable def Zgw(x:D)(l u:Option Int)(h:Hd):R D:=match x with
 |.tup xs=>.ok (.tup (cutD xs l u)) h
 |.str y=>if y.length<=sizeLine then .ok (.str (Yq y l u)) h else .bad
 |d=>match lstOf d h with
  |some xs=>ZcP (.lst (cutD xs l u)) h
  |none=>.bad
noncomputable def ZtA(d:D)(h:Hd):Option String:=match d with
 |.int _=>Wu "int"
 |.str _=>Wu "str"
 |.bl _=>Wu "bool"
 |.non=>Wu "NoneType"
 |.tup _=>Wu "tuple"
 |d=>(lstOf d h).map fun _ => "list"
noncomputable def Zko(t T:String):Option Bool:=if T∈["int", "str", "bool", "tuple", "list"]/\t∈["int", "str", "bool", "tuple", "list", "NoneType"]then Wu (t==T || (t == "bool" && T == "int"))else Wv
noncomputable def intsOf:List D->Option (List Int)
 |[]=>Wu []
 |.int i::r=>(intsOf r).map fun z=>i::z
 |_=>Wv
noncomputable def Zrp:List D->Option (List Bool)
 |[]=>Wu []
 |.bl i::r=>(Zrp r).map fun z=>i::z
 |_=>Wv
noncomputable def strsOf:List D->Option (List Str)
 |[]=>Wu []
 |.str i::r=>(strsOf r).map fun z=>i::z
 |_=>Wv
noncomputable def Zdu:List (Key×D)->Option (List Str)
 |[]=>Wu []
 |(.inr x,_)::r=>(Zdu r).map fun z=>x::z
 |_=>Wv
noncomputable def Zl2(x:Str):List Str->List Str
 |[]=>[x]
 |y::r=>if ltCps y.cps.toList x.cps.toList then y::Zl2 x r else x::y::r
noncomputable def Zcc:List Str->List Str
 |[]=>[]
 |x::r=>Zl2 x (Zcc r)
noncomputable def Zh8(xs:List D)(h:Hd):R D:=match xs with
 |[.str y]=>if y.length<=sizeLine then .ok (.int y.length) h else .bad
 |[d]=>R.ofO ((seqOf d h).map fun xs=>.int xs.length) h
 |_=>.bad
noncomputable def Zte(xs:List D)(h:Hd):R D:=match xs with
 |[d,.ty T]=>R.ofO ((ZtA d h).bind fun t=>(Zko t T).map .bl) h
 |_=>.bad
noncomputable def Zwl(xs:List D)(h:Hd):R D:=match xs with
 |[.int i]=>.ok (.int i) h
 |[.bl b]=>.ok (.int (if b then 1 else 0)) h
 |_=>.bad
noncomputable def ZmI(xs:List D)(h:Hd):R D:=match xs with
 |[.tup xs]=>.ok (.tup xs) h
 |[d]=>R.ofO ((lstOf d h).map .tup) h
 |_=>.bad
noncomputable def Zwk(xs:List D)(h:Hd):R D:=match xs with
 |[d]=>match seqOf d h with
  |some xs=>ZcP (.lst xs) h
  |none=>.bad
 |_=>.bad
noncomputable def ZoT(xs:List D)(h:Hd):R D:=match xs with
 |[d]=>R.ofO (((lstOf d h).bind intsOf).map fun ns=>.int ns.sum) h
 |_=>.bad
noncomputable def Zwm(xs:List D)(h:Hd):R D:=match xs with
 |[d]=>R.ofO (((lstOf d h).bind Zrp).map fun bs=>.bl (bs.all id)) h
 |_=>.bad
noncomputable def Zey(GD:Str->Option (List (Key×D)))(xs:List D)(h:Hd):R D:=match xs with
 |[d]=>match (dicOf GD d h).bind Zdu with
  |some ss=>if ss.length<64/\ss.all Yp=Ww then ZcP (.lst ((Zcc ss).map .str)) h else .bad
  |none=>.bad
 |_=>.bad
noncomputable def ZlI(x d:D)(h:Hd):R D:=match d with
 |.int d=>R.ofO (((lstOf x h).bind intsOf).map fun ns=>.int (Zc0 ns d)) h
 |_=>.bad
noncomputable def bMx(xs:List D)(h:Hd):R D:=match xs with
 |[.int i,.int j]=>.ok (.int (if j > i then j else i)) h
 |[d]=>match (lstOf d h).bind intsOf with
  |some ns=>if ns≠[]then .ok (.int (Zc0 ns 0)) h else .bad
  |none=>.bad
 |_=>.bad
noncomputable def Zbl(GD:Str->Option (List (Key×D))):Bf->List D->Hd->R D
 |.len=>Zh8
 |.isi=>Zte
 |.int=>Zwl
 |.tup=>ZmI
 |.lst=>Zwk
 |.sum=>ZoT
 |.all=>Zwm
 |.srt=>Zey GD
 |.mx=>bMx
noncomputable def Zrq(x:D)(h:Hd):R D:=match x with
 |.tup (y::ys)=>.ok (.tup (y::ys).reverse) h
 |_=>.bad
noncomputable def Zu8(x:D)(h:Hd):R D:=match x with
 |.tup ys=>ZcP (.lst ys.reverse) h
 |_=>.bad
noncomputable def ZuK:D->Bool
 |.tup _=>Ww
 |_=>Wx
noncomputable def Zu7(x y:D)(h:Hd):R D:=match x,y with
 |.tup xs,.str z=>match strsOf xs with
  |some ss=>R.ofO ((Tx.place z ss).map fun(j:Nat)=>.int (j:Int)) h
  |none=>.bad
 |_,_=>.bad
noncomputable def Zu9(x y:D)(h:Hd):R D:=match lstOf x h,y with
 |some xs,.str z=>match strsOf xs with
  |some ss=>R.ofO ((Tx.place z ss).map fun(j:Nat)=>.int (j:Int)) h
  |none=>.bad
 |_,_=>.bad
noncomputable def Zva(x y:D)(h:Hd):R D:=match Ziw h x,Ziw h y with
 |some a,Wu (.list bs)=>if min (PyData.depthAll bs) a.depth<=1000 then .ok (.bl (bs.any fun b=>YQ b a)) h else .bad
 |_,_=>.bad
noncomputable def ZcW:List D->Option (List (Key×D))
 |[]=>Wu []
 |k::v::r=>match keyOf k,ZcW r with
  |some k,Wu r=>Wu ((k,v)::r)
  |_,_=>Wv
 |_=>Wv
noncomputable def Zb3(kvs more:List (Key×D)):List (Key×D):=more.foldl (fun acc kv=>putD acc kv.1 kv.2) kvs
noncomputable def Zj2(i:Nat)(ys xs:List D)(h:Hd):R D:=match xs with
 |[d]=>if ys.length<sizeLine then .ok .non (h.set i (.lst (ys++[d])))else .bad
 |_=>.bad
noncomputable def ZsG(i:Nat)(ys xs:List D)(h:Hd):R D:=match xs with
 |[.ref j]=>match h[j]? with
  |some (.lst zs)=>if ys.length+zs.length<=sizeLine then .ok .non (h.set i (.lst (ys++zs)))else .bad
  |_=>.bad
 |[.tup zs]=>if ys.length+zs.length<=sizeLine then .ok .non (h.set i (.lst (ys++zs)))else .bad
 |_=>.bad
noncomputable def Zqj(i:Nat)(ys xs:List D)(h:Hd):R D:=match xs with
 |[]=>match ys[ys.length - 1]? with
  |some y=>.ok y (h.set i (.lst ys.dropLast))
  |none=>.bad
 |_=>.bad
noncomputable def ZuA(i:Nat)(ys xs:List D)(h:Hd):R D:=match xs with
 |[]=>.ok .non (h.set i (.lst ys.reverse))
 |_=>.bad
noncomputable def ZuB(i:Nat)(ys xs:List D)(h:Hd):R D:=match xs with
 |[]=>.ok .non (h.set i (.lst []))
 |_=>.bad
noncomputable def ZeH:Mf->Nat->List D->List D->Hd->R D
 |.app=>Zj2
 |.ext=>ZsG
 |.pop=>Zqj
 |.rev=>ZuA
 |.clr=>ZuB
noncomputable def ZaT(m:Mf)(o:D)(xs:List D)(h:Hd):R D:=match o with
 |.ref i=>match h[i]? with
  |some (.lst ys)=>ZeH m i ys xs h
  |_=>.bad
 |_=>.bad
noncomputable def ZcI(o:D)(h:Hd):Bool:=match o with
 |.ref i=>match h[i]? with
  |some (.lst _)=>Ww
  |_=>Wx
 |_=>Wx
noncomputable def ZbP(o i v:D)(h:Hd):R Unit:=match o with
 |.ref a=>match h[a]? with
  |some (.lst xs)=>match i with
   |.int k=>match ixN xs.length k with
    |some j=>.ok () (h.set a (.lst (xs.set j v)))
    |none=>.bad
   |_=>.bad
  |some (.dic kvs)=>match keyOf i with
   |some k=>if kvs.length<sizeLine then .ok () (h.set a (.dic (putD kvs k v)))else .bad
   |none=>.bad
  |_=>.bad
 |_=>.bad
structure Wk where
 src:Option (Nat×List D)
 xs:List D
noncomputable def Wk.stays(src:Option (Nat×List D))(h:Hd):Bool:=match src with
 |none=>Ww
 |some (i,xs)=>Wy (h[i]? = Wu (.lst xs))
noncomputable def Zar(d:D)(h:Hd):Option Wk:=match d with
 |.tup xs=>Wu ⟨Wv,xs⟩
 |.ro xs=>Wu ⟨Wv,xs⟩
 |.ref i=>match h[i]? with
  |some (.lst xs)=>Wu ⟨Wu (i,xs),xs⟩
  |_=>Wv
 |.str y=>if y.length<=sizeLine then Wu ⟨Wv,y.cps.toList.map fun c=>.str ⟨#[c]⟩⟩else Wv
 |_=>Wv
noncomputable def ZkV(d:D)(h:Hd):Option Wk:=match d with
 |.ro xs=>Wu ⟨Wv,xs⟩
 |.ref i=>match h[i]? with
  |some (.lst xs)=>Wu ⟨Wu (i,xs),xs⟩
  |_=>Wv
 |_=>Wv
noncomputable def Zfw(d:D)(h:Hd):Option Wk:=match d with
 |.tup xs=>Wu ⟨Wv,xs⟩
 |.ref i=>match h[i]? with
  |some (.lst xs)=>Wu ⟨Wu (i,xs),xs⟩
  |_=>Wv
 |_=>Wv
noncomputable def ZC(lo:Int)(n:Nat):List D:=(List.range n).map fun(k:Nat)=>.int (lo+(k:Int))
noncomputable def ZcJ(xs:List D):List D:=xs.mapIdx fun k x=>.tup [.int (k:Int),x]
noncomputable def ZdX(xs:List D):List D:=xs.mapIdx fun k x=>.tup [.int ((k+1:Nat):Int),x]
noncomputable def Zn9:Key->D
 |.inl i=>.int i
 |.inr x=>.str x
noncomputable def Zos(x:D)(h:Hd):R Wk:=match x with
 |.ref i=>match h[i]? with
  |some (.dic kvs)=>.ok ⟨Wv,kvs.map fun p=>Zn9 p.1⟩ (h.set i (.fdic kvs))
  |some (.fdic kvs)=>.ok ⟨Wv,kvs.map fun p=>Zn9 p.1⟩ h
  |_=>.bad
 |_=>.bad
noncomputable def Zan(i:Int):Bool:=Wy (-(2 ^ 62)<=i)&&Wy (i<2 ^ 62)
noncomputable def ZjC:List Nat->List D->Ev->Ev
 |i::is,x::xs,S=>ZjC is xs (S.set i (Wu x))
 |_,_,S=>S
noncomputable def ZbG(g:Tg)(d:D)(S:Ev):Option Ev:=match g with
 |.nm i=>Wu (S.set i (Wu d))
 |.two i j=>match d with
  |.tup [a,b]=>Wu ((S.set i (Wu a)).set j (Wu b))
  |_=>Wv
 |.many is=>match d with
  |.tup xs=>if xs.length=is.length then Wu (ZjC is xs S)else Wv
  |_=>Wv
noncomputable def Zbq(js:List (Option Nat))(S:Ev):Ev:=js.map fun o=>o.bind fun j=>(S[j]?).join
inductive Fl where
 |nx|bk|ct|rt (d:D)
noncomputable def ZL(src:Option (Nat×List D))(g:Tg)(body:Ev->Hd->R (Fl×Ev)):List D->Ev->Hd->R (Fl×Ev)
 |[],S,h=>if Wk.stays src h then .ok (.nx,S) h else .bad
 |d::ds,S,h=>if Wk.stays src h then match ZbG g d S with
  |none=>.bad
  |some ρ1=>(body ρ1 h).bind fun p h2=>match p with
   |(.nx,ρ2)=>ZL src g body ds ρ2 h2
   |(.ct,ρ2)=>ZL src g body ds ρ2 h2
   |(.bk,ρ2)=>.ok (.nx,ρ2) h2
   |(.rt d,ρ2)=>.ok (.rt d,ρ2) h2
  else .bad
noncomputable def ZO(test:Ev->Hd->R Bool)(body:Ev->Hd->R (Fl×Ev)):Nat->Ev->Hd->R (Fl×Ev)
 |0,_,_=>.bad
 |n+1,S,h=>(test S h).bind fun b h1=>if b then(body S h1).bind fun p h2=>match p with
  |(.nx,ρ2)=>ZO test body n ρ2 h2
  |(.ct,ρ2)=>ZO test body n ρ2 h2
  |(.bk,ρ2)=>.ok (.nx,ρ2) h2
  |(.rt d,ρ2)=>.ok (.rt d,ρ2) h2
  else .ok (.nx,S) h1
noncomputable def R.plain{α:Type}:R α->R α
 |.exc _ _=>.bad
 |r=>r
noncomputable def ZN(src:Option (Nat×List D))(g:Tg)(test:Ev->Hd->R Bool)(elt:Ev->Hd->R D):List D->Ev->List D->Hd->R (List D)
 |[],_,acc,h=>if Wk.stays src h then .ok acc h else .bad
 |d::ds,S,acc,h=>if Wk.stays src h/\acc.length<sizeLine then match ZbG g d S with
  |none=>.bad
  |some ρ1=>(test ρ1 h).plain.bind fun b h1=>if b then(elt ρ1 h1).plain.bind fun x h2=>ZN src g test elt ds S (acc++[x]) h2 else ZN src g test elt ds S acc h1
  else .bad
noncomputable def Zgn(C:Str)(i:Nat)(S:Ev)(r:R D):R (Fl×Ev):=match r with
 |.bad=>.bad
 |.ok v h=>.ok (.nx,S.set i (Wu v)) h
 |.exc c h=>if c=C then .ok (.nx,S.set i (Wu .non)) h else .bad
noncomputable def mnm(C m:Str):Str:=C++(O "." ++ m)
noncomputable def ZZ(d:D)(h:Hd):Option (Str×List (Str×D)):=match d with
 |.ref i=>match h[i]? with
  |some (.ins C fs)=>Wu (C,fs)
  |_=>Wv
 |_=>Wv
noncomputable def ZgD(Cs:List Str)(f:Str)(x:D)(h:Hd):R D:=match ZZ x h with
 |some (C,fs)=>if C∈Cs then R.ofO (fs.lookup f) h else .bad
 |none=>.bad
noncomputable def Zl3(f:Str)(v:D):List (Str×D)->List (Str×D)
 |[]=>[(f,v)]
 |(g,x)::r=>if g=f then(g,v)::r else(g,x)::Zl3 f v r
noncomputable def Zhq(Cs:List Str)(f:Str)(x d:D)(h:Hd):R D:=match x with
 |.ref i=>match h[i]? with
  |some (.ins C fs)=>if C∈Cs/\fs.length<1000 then .ok .non (h.set i (.ins C (Zl3 f d fs)))else .bad
  |_=>.bad
 |_=>.bad
noncomputable def ZnS(Cf:Str->List D->Hd->R D)(C:Str)(xs:List D)(h:Hd):R D:=(Cf (mnm C (O "__init__")) (.ref h.length::xs) (h++[.ins C []])).bind fun d h2=>match d with
 |.non=>.ok (.ref h.length) h2
 |_=>.bad
structure Tb where
 G:Str->Option D
 GD:Str->Option (List (Key×D))
 C:Str->List D->Hd->R D
 L:Nat
mutual
noncomputable def ev(T:Tb):Ex->Ev->Hd->R D
 |.var i,S,h=>R.ofO (S[i]?).join h
 |.cst d,_,h=>.ok d h
 |.glo x,_,h=>R.ofO (T.G x) h
 |.bin op a b,S,h=>(ev T a S h).bind fun x h1=>(ev T b S h1).bind fun y h2=>opB op x y h2
 |.cmp op a b,S,h=>(ev T a S h).bind fun x h1=>(ev T b S h1).bind fun y h2=>opC T.GD op x y h2
 |.cmp2 op op' a b c,S,h=>(ev T a S h).bind fun x h1=>(ev T b S h1).bind fun y h2=>(opC T.GD op x y h2).bind fun r h3=>match r with
  |.bl Ww=>(ev T c S h3).bind fun z h4=>opC T.GD op' y z h4
  |.bl Wx=>.ok (.bl Wx) h3
  |_=>.bad
 |.neg a,S,h=>(ev T a S h).bind fun x h1=>match x with
  |.int i=>.ok (.int (-i)) h1
  |_=>.bad
 |.nt a,S,h=>(ev T a S h).bind fun x h1=>match x with
  |.bl b=>.ok (.bl (!b)) h1
  |_=>.bad
 |.ands es,S,h=>evAnd T es S h
 |.ors es,S,h=>evOr T es S h
 |.ite c a b,S,h=>(tst T c S h).bind fun c h1=>if c then ev T a S h1 else ev T b S h1
 |.tupl es,S,h=>(evs T es S h).bind fun xs h1=>if xs.length<=sizeLine then .ok (.tup xs) h1 else .bad
 |.lstl es,S,h=>(evs T es S h).bind fun xs h1=>if xs.length<=sizeLine then ZcP (.lst xs) h1 else .bad
 |.ix a i,S,h=>(ev T a S h).bind fun x h1=>(ev T i S h1).bind fun y h2=>ZaS T.GD x y h2
 |.sl a lo hi,S,h=>(ev T a S h).bind fun x h1=>(evo T lo S h1).bind fun l h2=>(evo T hi S h2).bind fun u h3=>Zgw x l u h3
 |.blt f es,S,h=>(evs T es S h).bind fun xs h1=>Zbl T.GD f xs h1
 |.call f es,S,h=>(evs T es S h).bind fun xs h1=>T.C f xs h1
 |.meth m o es,S,h=>(ev T o S h).bind fun x h1=>if ZcI x h1 then(evs T es S h1).bind fun xs h2=>ZaT m x xs h2 else .bad
 |.comp _ js it g c e,S,h=>(evi T it S h).bind fun w h1=>(ZN w.src g (tsto T c) (ev T e) w.xs (Zbq js S) [] h1).bind fun xs h2=>ZcP (.lst xs) h2
 |.sorts e,S,h=>(ev T e S h).bind fun x h1=>match (lstOf x h1).bind strsOf with
  |some ss=>if ss.length<64 then ZcP (.lst ((Zcc ss.eraseDups).map .str)) h1 else .bad
  |none=>.bad
 |.maxd e d,S,h=>(ev T e S h).bind fun x h1=>(ev T d S h1).bind fun y h2=>ZlI x y h2
 |.dictl ps,S,h=>(evs T ps S h).bind fun xs h1=>match ZcW xs with
  |some kvs=>if kvs.length<=15 then ZcP (.dic (Zb3 [] kvs)) h1 else .bad
  |none=>.bad
 |.att Cs o f,S,h=>(ev T o S h).bind fun x h1=>ZgD Cs f x h1
 |.mk C es,S,h=>(evs T es S h).bind fun xs h1=>ZnS T.C C xs h1
 |.mcl C m o es,S,h=>(ev T o S h).bind fun x h1=>match ZZ x h1 with
  |some (C',fs)=>if C'=C/\fs.lookup m=Wv then(evs T es S h1).bind fun xs h2=>T.C (mnm C m) (x::xs) h2 else .bad
  |none=>.bad
 |.any,_,_=>.bad
 |.trev e,S,h=>(ev T e S h).bind fun x h1=>Zrq x h1
 |.lrv e,S,h=>(ev T e S h).bind fun x h1=>Zu8 x h1
 |.tix o e,S,h=>(ev T o S h).bind fun x h1=>if ZuK x then(ev T e S h1).bind fun y h2=>Zu7 x y h2 else .bad
 |.lix o e,S,h=>(ev T o S h).bind fun x h1=>if ZcI x h1 then(ev T e S h1).bind fun y h2=>Zu9 x y h2 else .bad
 |.lin a b,S,h=>(ev T a S h).bind fun x h1=>(ev T b S h1).bind fun y h2=>Zva x y h2
noncomputable def evs(T:Tb):Exs->Ev->Hd->R (List D)
 |.nil,_,h=>.ok [] h
 |.cons e es,S,h=>(ev T e S h).bind fun x h1=>(evs T es S h1).bind fun xs h2=>.ok (x::xs) h2
noncomputable def evAnd(T:Tb):Exs->Ev->Hd->R D
 |.nil,_,_=>.bad
 |.cons e es,S,h=>match es with
  |.nil=>ev T e S h
  |.cons _ _=>(ev T e S h).bind fun x h1=>match x with
   |.bl Ww=>evAnd T es S h1
   |.bl Wx=>.ok (.bl Wx) h1
   |_=>.bad
noncomputable def evOr(T:Tb):Exs->Ev->Hd->R D
 |.nil,_,_=>.bad
 |.cons e es,S,h=>match es with
  |.nil=>ev T e S h
  |.cons _ _=>(ev T e S h).bind fun x h1=>match x with
   |.bl Ww=>.ok (.bl Ww) h1
   |.bl Wx=>evOr T es S h1
   |_=>.bad
noncomputable def evo(T:Tb):Option Ex->Ev->Hd->R (Option Int)
 |none,_,h=>.ok Wv h
 |some e,S,h=>(ev T e S h).bind fun x h1=>match x with
  |.int i=>.ok (Wu i) h1
  |_=>.bad
noncomputable def tst(T:Tb):Tx->Ev->Hd->R Bool
 |.ex e,S,h=>(ev T e S h).bind fun x h1=>R.ofO (ZdR T.GD x h1) h1
 |.ands ts,S,h=>tstAnd T ts S h
 |.ors ts,S,h=>tstOr T ts S h
 |.nt a,S,h=>(tst T a S h).bind fun c h1=>.ok (!c) h1
noncomputable def tstAnd(T:Tb):Txs->Ev->Hd->R Bool
 |.one t,S,h=>tst T t S h
 |.cons t ts,S,h=>(tst T t S h).bind fun c h1=>if c then tstAnd T ts S h1 else .ok Wx h1
noncomputable def tstOr(T:Tb):Txs->Ev->Hd->R Bool
 |.one t,S,h=>tst T t S h
 |.cons t ts,S,h=>(tst T t S h).bind fun c h1=>if c then .ok Ww h1 else tstOr T ts S h1
noncomputable def tsto(T:Tb):Option Tx->Ev->Hd->R Bool
 |none,_,h=>.ok Ww h
 |some e,S,h=>tst T e S h
noncomputable def evi(T:Tb):Ix->Ev->Hd->R Wk
 |.pl e,S,h=>(ev T e S h).bind fun x h1=>R.ofO (Zar x h1) h1
 |.rng e,S,h=>(ev T e S h).bind fun x h1=>match x with
  |.int j=>if Zan j then .ok ⟨Wv,ZC 0 j.toNat⟩ h1 else .bad
  |_=>.bad
 |.rng2 a b,S,h=>(ev T a S h).bind fun x h1=>(ev T b S h1).bind fun y h2=>match x,y with
  |.int i,.int j=>if Zan i&&Zan j then .ok ⟨Wv,ZC i (j - i).toNat⟩ h2 else .bad
  |_,_=>.bad
 |.enu e,S,h=>(ev T e S h).bind fun x h1=>R.ofO ((ZkV x h1).map fun w=>⟨w.src,ZcJ w.xs⟩) h1
 |.rev e,S,h=>(ev T e S h).bind fun x h1=>R.ofO ((Zfw x h1).map fun w=>⟨w.src,w.xs.reverse⟩) h1
 |.en1 e,S,h=>(ev T e S h).bind fun x h1=>match x with
  |.tup xs=>.ok ⟨Wv,ZdX xs⟩ h1
  |_=>.bad
 |.en0 e,S,h=>(ev T e S h).bind fun x h1=>match x with
  |.tup xs=>.ok ⟨Wv,ZcJ xs⟩ h1
  |_=>.bad
 |.dk e,S,h=>(ev T e S h).bind fun x h1=>Zos x h1
end
mutual
noncomputable def xs1(T:Tb):Sx->Ev->Hd->R (Fl×Ev)
 |.ret e,S,h=>(ev T e S h).bind fun x h1=>.ok (.rt x,S) h1
 |.set g e,S,h=>(ev T e S h).bind fun x h1=>(R.ofO (ZbG g x S) h1).bind fun ρ1 h2=>.ok (.nx,ρ1) h2
 |.put o i e,S,h=>(ev T e S h).bind fun x h1=>(ev T o S h1).bind fun y h2=>(ev T i S h2).bind fun z h3=>(ZbP y z x h3).bind fun _ h4=>.ok (.nx,S) h4
 |.aug i op e,S,h=>(R.ofO (S[i]?).join h).bind fun x h1=>(ev T e S h1).bind fun y h2=>match op,x,y with
  |.Add,.int a,.int b=>.ok (.nx,S.set i (Wu (.int (a+b)))) h2
  |_,_,_=>.bad
 |.drp e,S,h=>(ev T e S h).bind fun _ h1=>.ok (.nx,S) h1
 |.iff c a b,S,h=>(tst T c S h).bind fun t h1=>if t then xs2 T a S h1 else xs2 T b S h1
 |.whl c b,S,h=>ZO (tst T c) (xs2 T b) T.L S h
 |.forr g it b,S,h=>(evi T it S h).bind fun w h1=>ZL w.src g (xs2 T b) w.xs S h1
 |.pas,S,h=>.ok (.nx,S) h
 |.brk,S,h=>.ok (.bk,S) h
 |.cnt,S,h=>.ok (.ct,S) h
 |.seta Cs o f e,S,h=>(ev T e S h).bind fun d h1=>(ev T o S h1).bind fun x h2=>(Zhq Cs f x d h2).bind fun _ h3=>.ok (.nx,S) h3
 |.auga Cs o f e,S,h=>(ev T o S h).bind fun x h1=>(ZgD Cs f x h1).bind fun v h2=>(ev T e S h2).bind fun y h3=>match v,y with
  |.int a,.int b=>if (ZZ x h1).map (·.1)=(ZZ x h3).map (·.1)then(Zhq Cs f x (.int (a+b)) h3).bind fun _ h4=>.ok (.nx,S) h4 else .bad
  |_,_=>.bad
 |.any,_,_=>.bad
 |.rai C e,S,h=>(ev T e S h).bind fun _ h1=>.exc C h1
 |.trs i f es C,S,h=>(evs T es S h).plain.bind fun xs h1=>Zgn C i S (T.C f xs h1)
noncomputable def xs2(T:Tb):Sxs->Ev->Hd->R (Fl×Ev)
 |.nil,S,h=>.ok (.nx,S) h
 |.cons s r,S,h=>(xs1 T s S h).bind fun p h1=>match p with
  |(.nx,ρ1)=>xs2 T r ρ1 h1
  |p=>.ok p h1
end
structure Fd where
 ps:List Str
 N:List Str
 body:Sxs
structure Pg where
 tb:List (Str×Fd)
 G:Str->Option D
 GD:Str->Option (List (Key×D))
 L:Nat
 ms:List (Str×Fd):=[]
noncomputable def Pg.look(P:Pg)(f:Str):Option Fd:=match P.tb.lookup f with
 |some fd=>Wu fd
 |none=>P.ms.lookup f
noncomputable def Zn(N:List Str)(ds:List D):Ev:=ds.map Wu++YK (N.length - ds.length) Wv
noncomputable def Zh:R (Fl×Ev)->R D
 |.ok (.rt d,_) h=>.ok d h
 |.ok (.nx,_) h=>.ok .non h
 |.exc c h=>.exc c h
 |_=>.bad
noncomputable def run(P:Pg):Nat->Str->List D->Hd->R D
 |0,_,_,_=>.bad
 |n+1,f,ds,h=>match P.look f with
  |none=>.bad
  |some fd=>if ds.length=fd.ps.length then Zh (xs2 ⟨P.G,P.GD,run P n,P.L⟩ fd.body (Zn fd.N ds) h)else .bad
noncomputable def Pg.tbl(P:Pg)(n:Nat):Tb:=⟨P.G,P.GD,run P n,P.L⟩
end IV
end
section
set_option tactic.hygienic false
namespace IV
open PySem PySem.Spec PyProof.Rows L2
def FzL(K:Yk)(H:Hp)(a:Yi)(xs:List V):Prop:=(∃o,H a=Wu (.frz o (.lst xs)))\/∃(o:Obj) (its:Array Yj) (n:Nat),K.lookup a=Wu o/\o.cls=.type "list" /\ o.dict=Wv/\o.data=.seq its n/\its.size<=sizeLine/\Zl xs its.toList
theorem FzL.sq{K:Yk}{H:Hp}{a:Yi}{xs:List V}(h:FzL K H a xs):SqL K H a xs:=h.elim (fun⟨o,h⟩=>.inl (.inr ⟨o,h⟩)) .inr
structure Yx where
 K:Yk
 mg:Str->Option Yj
mutual
inductive RD(Y:Yx)(H:Hp)(B:List Yi):D->V->Prop
 |non:RD Y H B .non .non
 |bl (b:Bool):RD Y H B (.bl b) (.bl b)
 |int (i:Int):RD Y H B (.int i) (.int i)
 |str (x:Str) (ok:Yp x=Ww):RD Y H B (.str x) (.str x)
 |tup {a:Yi}{vs:List V}{ds:List D}:SqT Y.K H a vs->RDs Y H B ds vs->RD Y H B (.tup ds) (.ref a)
 |ref {i:Nat}{a:Yi}:B[i]? = Wu a->RD Y H B (.ref i) (.ref a)
 |ty (n:String):RD Y H B (.ty n) (.ty n)
 |ro {a:Yi}{vs:List V}{ds:List D}:FzL Y.K H a vs->RDs Y H B ds vs->RD Y H B (.ro ds) (.ref a)
 |kd {x:Str}{a:Yi}:Y.mg x=Wu (.ref a)->RD Y H B (.kd x) (.ref a)
inductive RDs(Y:Yx)(H:Hp)(B:List Yi):List D->List V->Prop
 |nil:RDs Y H B [] []
 |cons {d:D}{v:V}{ds:List D}{vs:List V}:RD Y H B d v->RDs Y H B ds vs->RDs Y H B (d::ds) (v::vs)
end
inductive RKs(Y:Yx)(H:Hp)(B:List Yi){κ:Type}:List (κ×D)->List (κ×V)->Prop
 |nil:RKs Y H B [] []
 |cons {k:κ}{d:D}{v:V}{ds:List (κ×D)}{vs:List (κ×V)}:RD Y H B d v->RKs Y H B ds vs->RKs Y H B ((k,d)::ds) ((k,v)::vs)
def RO(Y:Yx)(H:Hp)(B:List Yi)(a:Yi):DO->Prop
 |.lst ds=>∃vs,H a=Wu (.lst vs)/\RDs Y H B ds vs
 |.dic kvs=>∃kvs',H a=Wu (.dK kvs')/\RKs Y H B kvs kvs'
 |.ins C fs=>∃Ca dx fs',H a=Wu (.ins Ca dx fs')/\Y.mg C=Wu (.ref Ca)/\RKs Y H B fs fs'
 |.fdic kvs=>∃o kvs',H a=Wu (.frz o (.dK kvs'))/\RKs Y H B kvs kvs'
def Zbo(kvs:List (Key×D)):Prop:=∀p∈kvs,∀x,p.1=.inr x->Yp x=Ww
def DOk:DO->Prop
 |.dic kvs=>Zbo kvs
 |.fdic kvs=>Zbo kvs
 |_=>True
structure RH(Y:Yx)(H:Hp)(B:List Yi)(h:Hd):Prop where
 len:h.length=B.length
 nd:B.Nodup
 ob:∀(i:Nat) (o:DO) (a:Yi),h[i]? = Wu o->B[i]? = Wu a->RO Y H B a o
 ks:∀(i:Nat) (o:DO),h[i]? = Wu o->DOk o
structure Gr(H:Hp)(B:List Yi)(H':Hp)(μ':List Yi):Prop where
 pre:∀(i:Nat) (a:Yi),B[i]? = Wu a->μ'[i]? = Wu a
 new:∀a∈μ',a∈B\/H a=Wv
 keep:∀b o,b ∉ B->H b=Wu o->H' b=Wu o
 fz:∀b o u,H b=Wu (.frz o u)->H' b=Wu (.frz o u)
theorem Gr.refl{H:Hp}{B:List Yi}:Gr H B H B:=⟨fun _ _ h=>h,fun _ h=>.inl h,fun _ _ _ h=>h,fun _ _ _ h=>h⟩
theorem Gr.trans{H H1 H2:Hp}{B μ1 μ2:List Yi}(a:Gr H B H1 μ1)(b:Gr H1 μ1 H2 μ2):Gr H B H2 μ2:=by
 refine⟨fun i x h=>b.pre i x (a.pre i x h),fun x hx=>?_,fun x o hx h=>?_,fun x o u h=>b.fz x o u (a.fz x o u h)⟩
 . rcases b.new x hx with h|h
   . exact a.new x h
   . by_cases hm:x∈B
     . exact .inl hm
     . cases q:H x with
       |none=>exact .inr rfl
       |some o=>rw[a.keep x o hm q]at h;cases h
 . refine b.keep x o (fun hm=>?_) (a.keep x o hx h);rcases a.new x hm with z|z
   . exact hx z
   . rw[h]at z;cases z
def Mu:Option HO->Prop
 |some (.lst _)|some (.dK _)|some (.ins _ _ _)|some (.frz _ (.dK _))=>True
 |_=>False
theorem RO.mut{Y:Yx}{H:Hp}{B:List Yi}{a:Yi}{o:DO}(h:RO Y H B a o):Mu (H a):=by
 cases o with
 |lst ds=>obtain⟨vs,e,_⟩:=h;rw[e];trivial
 |dic ds=>obtain⟨vs,e,_⟩:=h;rw[e];trivial
 |ins C ds=>obtain⟨_,_,_,e,_⟩:=h;rw[e];trivial
 |fdic ds=>obtain⟨_,_,e,_⟩:=h;rw[e];trivial
theorem RH.mem{Y:Yx}{H:Hp}{B:List Yi}{h:Hd}(r:RH Y H B h){a:Yi}(ha:a∈B):∃(i:Nat) (o:DO),B[i]? = Wu a/\h[i]? = Wu o/\RO Y H B a o:=by
 obtain⟨i,hi⟩:=List.mem_iff_getElem?.mp ha;have hl:i<h.length:=by rw[r.len];exact(Ob.mp hi).1
 exact⟨i,h[i],hi,Og hl,r.ob i _ a (Og hl) hi⟩
theorem RH.mut{Y:Yx}{H:Hp}{B:List Yi}{h:Hd}(r:RH Y H B h){a:Yi}(ha:a∈B):Mu (H a):=let ⟨_,_,_,_,q⟩:=r.mem ha;q.mut
theorem Gr.rdT{Y:Yx}{H H':Hp}{B μ':List Yi}{h:Hd}(r:RH Y H B h)(g:Gr H B H' μ'){a:Yi}{xs:List V}(t:SqT Y.K H a xs):SqT Y.K H' a xs:=by
 rcases t with t|t
 . rcases t with t|⟨o,t⟩
   . exact .inl (.inl (g.keep a _ (fun hm=>by have:=r.mut hm;rw[t]at this;exact this) t))
   . exact .inl (.inr ⟨o,g.fz a _ _ t⟩)
 . exact .inr t
theorem Gr.rdF{Y:Yx}{H H':Hp}{B μ':List Yi}{h:Hd}(r:RH Y H B h)(g:Gr H B H' μ'){a:Yi}{xs:List V}(t:FzL Y.K H a xs):FzL Y.K H' a xs:=by
 rcases t with ⟨o,t⟩|t
 . exact .inl ⟨o,g.fz a _ _ t⟩
 . exact .inr t
section
variable {Y:Yx}{H H':Hp}{B μ':List Yi}{h:Hd}
mutual
theorem RD.mono(r:RH Y H B h)(g:Gr H B H' μ'):∀{d:D}{v:V},RD Y H B d v->RD Y H' μ' d v
 |_,_,.non=>.non
 |_,_,.bl b=>.bl b
 |_,_,.int i=>.int i
 |_,_,.str x ok=>.str x ok
 |_,_,.tup t s=>.tup (g.rdT r t) (RDs.mono r g s)
 |_,_,.ref e=>.ref (g.pre _ _ e)
 |_,_,.ty n=>.ty n
 |_,_,.ro t s=>.ro (g.rdF r t) (RDs.mono r g s)
 |_,_,.kd e=>.kd e
theorem RDs.mono(r:RH Y H B h)(g:Gr H B H' μ'):∀{d:List D}{v:List V},RDs Y H B d v->RDs Y H' μ' d v
 |_,_,.nil=>.nil
 |_,_,.cons a s=>.cons (RD.mono r g a) (RDs.mono r g s)
end
theorem RKs.mono{κ:Type}(r:RH Y H B h)(g:Gr H B H' μ'):∀{d:List (κ×D)}{v:List (κ×V)},RKs Y H B d v->RKs Y H' μ' d v
 |_,_,.nil=>.nil
 |_,_,.cons a s=>.cons (a.mono r g) (RKs.mono r g s)
theorem RDs.length:∀{d:List D}{v:List V},RDs Y H B d v->d.length=v.length
 |_,_,.nil=>rfl
 |_,_,.cons a s=>by rw[Os,Os,s.length]
theorem RKs.length{κ:Type}:∀{d:List (κ×D)}{v:List (κ×V)},RKs Y H B d v->d.length=v.length
 |_,_,.nil=>rfl
 |_,_,.cons a s=>by rw[Os,Os,s.length]
theorem RDs.get:∀{ds:List D}{vs:List V},RDs Y H B ds vs->∀{i:Nat}{d:D},ds[i]? = Wu d->∃v,vs[i]? = Wu v/\RD Y H B d v
 |_,_,.nil,i,d,e=>by simp at e
 |_,_,.cons a s,0,d,e=>by cases e;exact⟨_,rfl,a⟩
 |_,_,.cons a s,i+1,d,e=>by obtain⟨v,h1,h2⟩:=RDs.get s (i:=i) (d:=d) (by simpa using e);exact⟨v,by simpa using h1,h2⟩
theorem RDs.append:∀{ds es:List D}{vs ws:List V},RDs Y H B ds vs->RDs Y H B es ws->RDs Y H B (ds++es) (vs++ws)
 |_,_,_,_,.nil,s=>s
 |_,_,_,_,.cons a r,s=>.cons a (r.append s)
theorem RDs.take:∀{ds:List D}{vs:List V} (n:Nat),RDs Y H B ds vs->RDs Y H B (ds.take n) (vs.take n)
 |_,_,0,_=>.nil
 |_,_,_+1,.nil=>.nil
 |_,_,n+1,.cons a s=>.cons a (s.take n)
theorem RDs.drop:∀{ds:List D}{vs:List V} (n:Nat),RDs Y H B ds vs->RDs Y H B (ds.drop n) (vs.drop n)
 |_,_,0,s=>s
 |_,_,_+1,.nil=>.nil
 |_,_,n+1,.cons a s=>s.drop n
theorem RDs.reverse{ds:List D}{vs:List V}(s:RDs Y H B ds vs):RDs Y H B ds.reverse vs.reverse:=by
 have gen:∀{ds es:List D}{vs ws:List V},RDs Y H B ds vs->RDs Y H B es ws->RDs Y H B (ds.reverseAux es) (vs.reverseAux ws):=by
  intro ds;induction ds with
  |nil=>intro es vs ws a b;cases a;exact b
  |cons d ds ih=>
   intro es vs ws a b;cases a with
   |cons a s=>have z:=ih s (RDs.cons a b);exact z
 exact gen s .nil
theorem RDs.dropLast{ds:List D}{vs:List V}(s:RDs Y H B ds vs):RDs Y H B ds.dropLast vs.dropLast:=by rw[List.dropLast_eq_take,List.dropLast_eq_take,s.length];exact s.take _
theorem RDs.set{d:D}{v:V}(r:RD Y H B d v):∀{ds:List D}{vs:List V} (i:Nat),RDs Y H B ds vs->RDs Y H B (ds.set i d) (vs.set i v)
 |_,_,_,.nil=>.nil
 |_,_,0,.cons _ s=>.cons r s
 |_,_,i+1,.cons a s=>.cons a (RDs.set r i s)
theorem RDs.cut{ds:List D}{vs:List V}(s:RDs Y H B ds vs)(lo hi:Option Int):RDs Y H B (cutD ds lo hi) (Zjc vs lo hi):=by unfold cutD Zjc;rw[s.length];exact(s.drop _).take _
theorem RDs.isEmpty{ds:List D}{vs:List V}(s:RDs Y H B ds vs):ds.isEmpty=vs.isEmpty:=by cases s<;>rfl
theorem RDs.atI{ds:List D}{vs:List V}(s:RDs Y H B ds vs){i:Int}{d:D}(e:L2.atI ds i=Wu d):∃v,L2.atI vs i=Wu v/\RD Y H B d v:=by
 unfold L2.atI at e ⊢;rw[s.length]at e;cases q:ixN vs.length i with
 |none=>rw[q]at e;cases e
 |some j=>rw[q]at e;exact s.get (i:=j) e
theorem RKs.val{κ:Type}[DecidableEq κ]:∀{ds:List (κ×D)}{vs:List (κ×V)},RKs Y H B ds vs->∀(k:κ),((ds.find? fun p=>Wy (p.1=k))=Wv/\(vs.find? fun p=>Wy (p.1=k))=Wv)\/∃d v,(ds.find? fun p=>Wy (p.1=k))=Wu (k,d)/\(vs.find? fun p=>Wy (p.1=k))=Wu (k,v)/\RD Y H B d v
 |_,_,.nil,k=>.inl ⟨rfl,rfl⟩
 |_,_,.cons (k:=k') (d:=d) (v:=v) a s,k=>by
  by_cases e:k'=k
  . subst e;exact .inr ⟨d,v,by simp,by simp,a⟩
  . rcases s.val k with ⟨h1,h2⟩|⟨d,v,h1,h2,h3⟩
    . exact .inl ⟨by simp[e,h1],by simp[e,h2]⟩
    . exact .inr ⟨d,v,by simp[e,h1],by simp[e,h2],h3⟩
end
theorem ZsU{α:Type}{l:List α}(hl:l.Nodup){i j:Nat}{x:α}(a:l[i]? = Wu x)(b:l[j]? = Wu x):i=j:=by obtain⟨h1,e1⟩:=Ob.mp a;obtain⟨h2,e2⟩:=Ob.mp b;exact(List.getElem_inj hl).mp (e1.trans e2.symm)
section
variable {Y:Yx}{H:Hp}{B:List Yi}{h:Hd}
theorem Gr.lay{p:Yi}{o:HO}(hp:H p=Wv):Gr H B (upd H p o) (B++[p]):=by
 refine⟨fun i a e=>?_,fun a ha=>?_,fun b u hb e=>?_,fun b u v e=>by rw[Zg (fun z=>by rw[z,hp]at e;cases e)];exact e⟩
 . rw[Oe (Ob.mp e).1];exact e
 . rcases OD.mp ha with z|z
   . exact .inl z
   . rw[Ox.mp z];exact .inr hp
 . rw[Zg (fun z=>by rw[z,hp]at e;cases e)];exact e
theorem Gr.lay0{p:Yi}{o:HO}(hp:H p=Wv):Gr H B (upd H p o) B:=⟨fun _ _ e=>e,fun a ha=>.inl ha,fun b u hb e=>by rw[Zg (fun z=>by rw[z,hp]at e;cases e)];exact e,fun b u v e=>by rw[Zg (fun z=>by rw[z,hp]at e;cases e)];exact e⟩
def NF:Option HO->Prop
 |some (.frz _ _)=>False
 |_=>True
theorem Gr.write{p:Yi}{o:HO}(hp:p∈B)(nf:NF (H p)):Gr H B (upd H p o) B:=⟨fun _ _ e=>e,fun a ha=>.inl ha,fun b u hb e=>by rw[Zg (show b≠p from fun z=>hb (by rw[z];exact hp))];exact e,fun b u v e=>by rw[Zg (fun z=>by rw[z]at e;rw[e]at nf;exact nf)];exact e⟩
theorem RO.mono{H':Hp}{μ':List Yi}(r:RH Y H B h)(g:Gr H B H' μ'){a:Yi}{o:DO}(q:RO Y H B a o)(e:H' a=H a):RO Y H' μ' a o:=by
 cases o with
 |lst ds=>obtain⟨vs,z,s⟩:=q;exact⟨vs,e.trans z,s.mono r g⟩
 |dic ds=>obtain⟨vs,z,s⟩:=q;exact⟨vs,e.trans z,s.mono r g⟩
 |ins C ds=>obtain⟨a1,a2,a3,z,m,s⟩:=q;exact⟨a1,a2,a3,e.trans z,m,s.mono r g⟩
 |fdic ds=>obtain⟨o,vs,z,s⟩:=q;exact⟨o,vs,e.trans z,s.mono r g⟩
theorem RH.keep{H':Hp}(r:RH Y H B h)(g:Gr H B H' B)(k:∀a∈B,H' a=H a):RH Y H' B h:=⟨r.len,r.nd,fun i o a e1 e2=>(r.ob i o a e1 e2).mono r g (k a (O1 e2)),r.ks⟩
theorem Zj8{o:DO}(k:∀(i:Nat) (o:DO),h[i]? = Wu o->DOk o)(dk:DOk o):∀(i:Nat) (o':DO),(h++[o])[i]? = Wu o'->DOk o':=by
 intro i o' e1;by_cases hi:i<h.length
 . rw[Oe hi]at e1;exact k i o' e1
 . have hi':i=h.length:=by have:=(Ob.mp e1).1;simp at this;omega
   subst hi';rw[Om (Oq _)]at e1;simp at e1;subst e1;exact dk
theorem RH.lay{p:Yi}{u:HO}{o:DO}(r:RH Y H B h)(hp:H p=Wv)(n:RO Y (upd H p u) (B++[p]) p o)(dk:DOk o:=by trivial):RH Y (upd H p u) (B++[p]) (h++[o]):=by
 have np:p ∉ B:=fun z=>by have:=r.mut z;rw[hp]at this;exact this
 refine⟨by simp[r.len],?_,fun i o' a e1 e2=>?_,Zj8 r.ks dk⟩
 . rw[List.nodup_append];refine⟨r.nd,by simp,fun a ha b hb=>?_⟩;rw[Ox.mp hb];intro z;exact np (z ▸ ha)
 . by_cases hi:i<h.length
   . rw[Oe hi]at e1;rw[Oe (by rw[<- r.len];exact hi)]at e2;exact(r.ob i o' a e1 e2).mono r (Gr.lay hp) (Zg fun z=>np (z ▸ O1 e2))
   . have hi':i=h.length:=by have:=(Ob.mp e1).1;simp at this;omega
     subst hi';rw[Om (Oq _)]at e1;rw[Om (by rw[r.len];exact Oq _)]at e2;simp[r.len]at e1 e2;subst e1;subst e2;exact n
theorem RH.lay0{p:Yi}{u:HO}(r:RH Y H B h)(hp:H p=Wv):RH Y (upd H p u) B h:=by
 have np:p ∉ B:=fun z=>by have:=r.mut z;rw[hp]at this;exact this
 exact r.keep (Gr.lay0 hp) fun a ha=>Zg fun z=>np (z ▸ ha)
theorem RH.write{p:Yi}{i:Nat}{u:HO}{o:DO}(r:RH Y H B h)(hp:B[i]? = Wu p)(n:RO Y (upd H p u) B p o)(nf:NF (H p))(dk:DOk o:=by trivial):RH Y (upd H p u) B (h.set i o):=by
 have hm:p∈B:=O1 hp;refine⟨by simp[r.len],r.nd,fun j o' a e1 e2=>?_,fun j o' e1=>?_⟩
 rotate_right
 . by_cases hj:j=i
   . subst hj;have hl:j<h.length:=by rw[r.len];exact(Ob.mp hp).1
     rw[Ol hl]at e1;cases e1;exact dk
   . rw[Oc (YL hj)]at e1;exact r.ks j o' e1
 by_cases hj:j=i
 . subst hj;rw[hp]at e2;cases e2;have hl:j<h.length:=by rw[r.len];exact(Ob.mp hp).1
   rw[Ol hl]at e1;cases e1;exact n
 . rw[Oc (YL hj)]at e1;refine(r.ob j o' a e1 e2).mono r (Gr.write hm nf) (Zg fun z=>hj ?_);subst z;exact ZsU r.nd e2 hp
end
end IV
end
section
set_option tactic.hygienic false
namespace IV
open PySem PySem.Spec PyProof.Rows L2
def Fin{α β:Type}(Y:Yx)(rel:Hp->List Yi->α->β->Prop)(H:Hp)(B:List Yi)(r:R α)(Q:β->Hp->Prop)(E:XK):Prop:=match r with
 |.bad=>False
 |.ok a h'=>∀b H' μ',Gr H B H' μ'->RH Y H' μ' h'->rel H' μ' a b->Q b H'
 |.exc c h'=>∀H' μ' C,Gr H B H' μ'->RH Y H' μ' h'->Y.mg c=Wu (.ref C)->E (.ref C) Wv H'
section
variable {Y:Yx}{α β α' β':Type}{rel:Hp->List Yi->α->β->Prop}{rel':Hp->List Yi->α'->β'->Prop}{H H1:Hp}{B μ1:List Yi}{E:XK}
theorem Fin.mono{r:R α}{Q:β->Hp->Prop}(g:Gr H B H1 μ1)(f:Fin Y rel H B r Q E):Fin Y rel H1 μ1 r Q E:=by
 cases r with
 |bad=>exact f
 |ok a h=>exact fun b H' μ' g'=>f b H' μ' (g.trans g')
 |exc c h=>exact fun H' μ' C g'=>f H' μ' C (g.trans g')
theorem Fin.bind{r:R α}{k:α->Hd->R α'}{Q:β'->Hp->Prop}{Q1:β->Hp->Prop}(f:Fin Y rel' H B (r.bind k) Q E)
 (hk:∀a h1 b H1 μ1,r=.ok a h1->Gr H B H1 μ1->RH Y H1 μ1 h1->rel H1 μ1 a b->Fin Y rel' H1 μ1 (k a h1) Q E->Q1 b H1):Fin Y rel H B r Q1 E:=by
 cases r with
 |bad=>exact f
 |ok a h=>exact fun b H' μ' g' rh rl=>hk a h b H' μ' rfl g' rh rl (Fin.mono g' f)
 |exc c h=>exact f
theorem Fin.ok{a:α}{b:β}{h:Hd}{Q:β->Hp->Prop}(f:Fin Y rel H B (.ok a h) Q E)(rh:RH Y H B h)(r:rel H B a b):Q b H:=f b H B Gr.refl rh r
theorem Fin.at{a:α}{b:β}{h:Hd}{Q:β->Hp->Prop}(f:Fin Y rel H B (.ok a h) Q E)(g:Gr H B H1 μ1)(rh:RH Y H1 μ1 h)(r:rel H1 μ1 a b):Q b H1:=f b H1 μ1 g rh r
theorem Fin.ofO{o:Option α}{h:Hd}{Q:β->Hp->Prop}(f:Fin Y rel H B (R.ofO o h) Q E):∃a,o=Wu a/\Fin Y rel H B (.ok a h) Q E:=by
 cases o with
 |none=>exact f.elim
 |some a=>exact⟨a,rfl,f⟩
theorem Fin.iff{c:Prop}[Decidable c]{r:R α}{Q:β->Hp->Prop}(f:Fin Y rel H B (if c then r else .bad) Q E):c/\Fin Y rel H B r Q E:=by
 by_cases h:c
 . rw[if_pos h]at f;exact⟨h,f⟩
 . rw[if_neg h]at f;exact f.elim
theorem Fin.new{o:DO}{u:HO}{h:Hd}{Q:VK}{p:Yi}(f:Fin Y (RD Y) H B (ZcP o h) Q E)(rh:RH Y H B h)(hp:H p=Wv)(n:RO Y (upd H p u) (B++[p]) p o)(dk:DOk o:=by trivial):Q (.ref p) (upd H p u):=f.at (Gr.lay hp) (rh.lay hp n dk) (.ref (by rw[rh.len];simp))
theorem Fin.tup{ds:List D}{vs:List V}{h:Hd}{Q:VK}{p:Yi}(f:Fin Y (RD Y) H B (.ok (.tup ds) h) Q E)(rh:RH Y H B h)(hp:H p=Wv)(r:RDs Y H B ds vs):Q (.ref p) (upd H p (.tup vs)):=f.at (Gr.lay0 hp) (rh.lay0 hp) (.tup (.inl (.inl Zi)) (r.mono rh (Gr.lay0 hp)))
theorem Fin.wrote{a:α}{b:β}{o:DO}{u:HO}{h:Hd}{Q:β->Hp->Prop}{i:Nat}{p:Yi}(f:Fin Y rel H B (.ok a (h.set i o)) Q E)(rh:RH Y H B h)(hp:B[i]? = Wu p)(n:RO Y (upd H p u) B p o)(r:rel (upd H p u) B a b)(nf:NF (H p))(dk:DOk o:=by trivial):Q b (upd H p u):=f.at (Gr.write (O1 hp) nf) (rh.write hp n nf dk) r
end
section
variable {Y:Yx}{H:Hp}{B:List Yi}{h:Hd}
theorem RD.lst{i:Nat}{xs:List D}{v:V}(rh:RH Y H B h)(r:RD Y H B (.ref i) v)(e:h[i]? = Wu (.lst xs)):∃a vs,v=.ref a/\B[i]? = Wu a/\H a=Wu (.lst vs)/\RDs Y H B xs vs:=by
 cases r with
 |ref q=>obtain⟨vs,h1,h2⟩:=rh.ob i _ _ e q;exact⟨_,vs,rfl,q,h1,h2⟩
theorem RD.dic{i:Nat}{xs:List (Key×D)}{v:V}(rh:RH Y H B h)(r:RD Y H B (.ref i) v)(e:h[i]? = Wu (.dic xs)):∃a vs,v=.ref a/\B[i]? = Wu a/\H a=Wu (.dK vs)/\RKs Y H B xs vs:=by
 cases r with
 |ref q=>obtain⟨vs,h1,h2⟩:=rh.ob i _ _ e q;exact⟨_,vs,rfl,q,h1,h2⟩
theorem RD.lstOf{d:D}{xs:List D}{v:V}(rh:RH Y H B h)(r:RD Y H B d v)(e:lstOf d h=Wu xs):∃a vs,v=.ref a/\SqL Y.K H a vs/\RDs Y H B xs vs:=by
 cases d with
 |ref i=>
  unfold IV.lstOf at e;simp only at e;split at e
  . cases e;rename_i q;obtain⟨a,vs,h1,h2,h3,h4⟩:=r.lst rh q;exact⟨a,vs,h1,.of h3,h4⟩
  . cases e
 |ro ys=>
  cases e;cases r with
  |ro q s=>exact⟨_,_,rfl,q.sq,s⟩
 |_=>cases e
theorem RD.seqOf{d:D}{xs:List D}{v:V}(rh:RH Y H B h)(r:RD Y H B d v)(e:seqOf d h=Wu xs):∃a vs,v=.ref a/\(SqL Y.K H a vs\/SqT Y.K H a vs)/\RDs Y H B xs vs:=by
 by_cases ht:∃ys,d=.tup ys
 . obtain⟨ys,rfl⟩:=ht;cases e;cases r with
   |tup q s=>exact⟨_,_,rfl,.inr q,s⟩
 . have e':IV.lstOf d h=Wu xs:=by
    cases d with
    |tup ys=>exact absurd ⟨ys,rfl⟩ ht
    |_=>exact e
   obtain⟨a,vs,h1,h2,h3⟩:=r.lstOf rh e';exact⟨a,vs,h1,.inl h2,h3⟩
theorem RD.int_inv{i:Int}{v:V}(r:RD Y H B (.int i) v):v=.int i:=by cases r;rfl
theorem RD.str_inv{i:Str}{v:V}(r:RD Y H B (.str i) v):v=.str i/\Yp i=Ww:=by cases r with|str x ok=>exact⟨rfl,ok⟩
theorem RD.tup_inv{ds:List D}{v:V}(r:RD Y H B (.tup ds) v):∃a vs,v=.ref a/\SqT Y.K H a vs/\RDs Y H B ds vs:=by cases r with|tup q s=>exact⟨_,_,rfl,q,s⟩
theorem ZgW{x y:Str}(hx:Yp x=Ww)(hy:Yp y=Ww):Yp (x++y)=Ww:=by show(x.cps++y.cps).all _=Ww;rw[Array.all_append];unfold Yp at hx hy;rw[hx,hy];rfl
theorem ZnO{x:Str}(hx:Yp x=Ww)(n:Nat):Yp (ZeE x n)=Ww:=by
 have gen:∀(n:Nat) (a:Array Nat),a.all (·<0x110000)=Ww->((YK n x.cps).foldl (·++·) a).all (·<0x110000)=Ww:=by
  intro n;induction n with
  |zero=>intro a h;exact h
  |succ n ih=>intro a h;rw[List.replicate_succ,Wq];refine ih _ ?_;rw[Array.all_append,h];exact hx
 exact gen n #[] (by simp)
theorem ZjW{x:Str}(hx:Yp x=Ww){c:Nat}(h:c∈x.cps.toList):Yp ⟨#[c]⟩=Ww:=by unfold Yp at hx ⊢;rw[Array.all_eq_true']at hx;have:=hx c (by simpa using h);simpa using this
theorem Zqh{α:Type}{xs:List α}{i:Int}{x:α}(h:atI xs i=Wu x):x∈xs:=by
 unfold atI at h;cases q:ixN xs.length i with
 |none=>rw[q]at h;cases h
 |some j=>rw[q]at h;exact O1 (i:=j) h
end
section
variable {X:Cx}{Y:Yx}{E:XK}
noncomputable def rB(Y:Yx)(E:XK)(f:D->D->Hd->R D):R2:=fun x y H Q=>∃dx dy h B,RH Y H B h/\RD Y H B dx x/\RD Y H B dy y/\Fin Y (RD Y) H B (f dx dy h) Q E
theorem Fin.int2{x y:D}{k:Int->Int->R D}{Q:VK}(f:Fin Y (RD Y) H B (int2 x y k) Q E):∃i j,x=.int i/\y=.int j/\Fin Y (RD Y) H B (k i j) Q E:=by
 cases x with
 |int i=>
  cases y with
  |int j=>exact⟨i,j,rfl,rfl,f⟩
  |_=>exact f.elim
 |_=>exact f.elim
theorem Zsy(hY:Y.K=X.K)(op:Operator):OpR X (binaryOp op) (rB Y E (opB op)):=by
 intro pins s Z H x y v u Q I rx ry hh;obtain⟨dx,dy,h,B,rh,r1,r2,f⟩:=hh;cases op with
 |Add=>
  have f:Fin Y (RD Y) H B (ZqW dx dy h) Q E:=f;cases dx with
  |int i=>
   cases dy with
   |int j=>cases r1;cases r2;exact Zsv pins s Z H _ _ v u Q I rx ry ⟨_,_,rfl,rfl,f.ok rh (.int _)⟩
   |_=>exact f.elim
  |str i=>
   cases dy with
   |str j=>
    obtain⟨hz,f⟩:=Fin.iff f;cases r1 with|str _ o1=>
    cases r2 with|str _ o2=>
    exact ZjS pins s Z H _ _ v u Q I rx ry ⟨_,_,rfl,rfl,hz,f.ok rh (.str _ (ZgW o1 o2))⟩
   |_=>exact f.elim
  |tup xs=>
   cases dy with
   |tup ys=>
    obtain⟨hz,f⟩:=Fin.iff f;obtain⟨a,vs,rfl,t1,s1⟩:=r1.tup_inv;obtain⟨b,ws,rfl,t2,s2⟩:=r2.tup_inv;rw[s1.length,s2.length]at hz;by_cases h0:vs=[]
    . subst h0;cases s1;exact Zp2 pins s Z H _ _ v u Q I rx ry ⟨a,b,ws,rfl,rfl,hY ▸ t1,hY ▸ t2,f.ok rh (.tup t2 s2)⟩
    . refine Zp1 pins s Z H _ _ v u Q I rx ry ⟨a,b,vs,ws,rfl,rfl,hY ▸ t1,hY ▸ t2,h0,hz,fun e=>?_,fun e p hp=>f.tup rh hp (s1.append s2)⟩;subst e;cases s2;rw[Yt]at f;exact f.ok rh (.tup t1 s1)
   |_=>exact f.elim
  |ref i=>
   cases dy with
   |ref j=>
    unfold ZqW at f;simp only at f;split at f
    . rename_i e1;split at f
      . rename_i e2;obtain⟨hz,f⟩:=f.iff;obtain⟨a,vs,rfl,_,h1,s1⟩:=r1.lst rh e1;obtain⟨b,ws,rfl,_,h2,s2⟩:=r2.lst rh e2;rw[s1.length,s2.length]at hz;exact Zsu pins s Z H _ _ v u Q I rx ry ⟨a,b,vs,ws,rfl,rfl,h1,h2,hz,fun p hp=>f.new rh hp ⟨_,Zi,(s1.append s2).mono rh (Gr.lay hp)⟩⟩
      . exact f.elim
    . exact f.elim
   |_=>exact f.elim
  |_=>exact f.elim
 |Sub=>obtain⟨i,j,rfl,rfl,f⟩:=Fin.int2 f;cases r1;cases r2;exact Zsp pins s Z H _ _ v u Q I rx ry ⟨_,_,rfl,rfl,f.ok rh (.int _)⟩
 |Mult=>
  have f:Fin Y (RD Y) H B (Zux dx dy h) Q E:=f;cases dx with
  |str z=>
   cases dy with
   |int n=>
    obtain⟨hz,f⟩:=Fin.iff f;cases r1 with|str _ o1=>
    cases r2;exact ZpZ pins s Z H _ _ v u Q I rx ry ⟨_,_,rfl,rfl,hz.1,hz.2.1,hz.2.2,f.ok rh (.str _ (ZnO o1 _))⟩
   |_=>exact f.elim
  |int i=>obtain⟨i,j,e1,rfl,f⟩:=Fin.int2 (show Fin Y (RD Y) H B (IV.int2 (.int i) dy fun i j=>if i.natAbs<2 ^ 2000/\j.natAbs<2 ^ 2000 then .ok (.int (i * j)) h else .bad) Q E from f);cases e1;obtain⟨hz,f⟩:=f.iff;cases r1;cases r2;exact Zme pins s Z H _ _ v u Q I rx ry ⟨_,_,rfl,rfl,hz,f.ok rh (.int _)⟩
  |_=>exact f.elim
 |Mod=>obtain⟨i,j,rfl,rfl,f⟩:=Fin.int2 f;obtain⟨hz,f⟩:=f.iff;cases r1;cases r2;exact Zsr pins s Z H _ _ v u Q I rx ry ⟨_,_,rfl,rfl,hz,f.ok rh (.int _)⟩
 |FloorDiv=>obtain⟨i,j,rfl,rfl,f⟩:=Fin.int2 f;obtain⟨hz,f⟩:=f.iff;cases r1;cases r2;exact Zp0 pins s Z H _ _ v u Q I rx ry ⟨_,_,rfl,rfl,hz,f.ok rh (.int _)⟩
 |Pow=>obtain⟨i,j,rfl,rfl,f⟩:=Fin.int2 f;obtain⟨hz,f⟩:=f.iff;cases r1;cases r2;exact Zsq pins s Z H _ _ v u Q I rx ry ⟨_,_,rfl,rfl,hz,f.ok rh (.int _)⟩
 |_=>exact f.elim
end
end IV
end
section
namespace IV
open PySem PySem.Spec PyProof.Rows L2
structure Gk(X:Cx)(Y:Yx)(T:Tb):Prop where
 K:Y.K=X.K
 mg:Y.mg=X.mg
 gd:∀x kvs,T.GD x=Wu kvs->∃a kvs',X.mg x=Wu (.ref a)/\DkK X.prog X.w X.K a kvs'/\∀H B,RKs Y H B kvs kvs'
 g:∀x d,T.G x=Wu d->∃v u,X.mg x=Wu u/\RelV v u/\∀H B,RD Y H B d v
 bare:Zfx X.K=Ww
section
variable {X:Cx}{Y:Yx}{E:XK}{T:Tb}{H:Hp}{B:List Yi}{h:Hd}
theorem RD.dicOf(G:Gk X Y T)(rh:RH Y H B h){d:D}{v:V}{kvs:List (Key×D)}(r:RD Y H B d v)(e:dicOf T.GD d h=Wu kvs):∃a kvs',v=.ref a/\Dk X.prog X.w X.K H a kvs'/\RKs Y H B kvs kvs':=by
 cases d with
 |ref i=>
  unfold IV.dicOf at e;simp only at e;split at e
  . cases e;rename_i q;obtain⟨a,vs,h1,_,h3,h4⟩:=r.dic rh q;exact⟨a,vs,h1,.inl (.inl h3),h4⟩
  . cases e;rename_i q;cases r with
    |ref qm=>obtain⟨o,vs,h1,h2⟩:=rh.ob i _ _ q qm;exact⟨_,vs,rfl,.inl (.inr ⟨o,h1⟩),h2⟩
  . cases e
 |kd x=>
  obtain⟨a,kvs',h1,h2,h3⟩:=G.gd x kvs e;cases r with
  |kd q=>rw[G.mg,h1]at q;cases q;exact⟨a,kvs',rfl,.inr h2,h3 H B⟩
 |_=>cases e
theorem Zn8{d:D}{v:V}{k:Key}(r:RD Y H B d v)(e:keyOf d=Wu k):∀x,k=.inr x->Yp x=Ww:=by
 cases d with
 |int i=>cases e;intro x z;cases z
 |str i=>
  cases e;intro x z;cases z;cases r with
  |str _ ok=>exact ok
 |_=>cases e
theorem Zf3{kvs:List (Key×D)}{k:Key}{c:D}(h:Zbo kvs)(hk:∀x,k=.inr x->Yp x=Ww):Zbo (putD kvs k c):=by
 intro p hp x e;unfold putD at hp;split at hp
 . obtain⟨q,hq,rfl⟩:=List.mem_map.mp hp;refine h q hq x ?_;split at e<;>exact e
 . rcases OD.mp hp with hp|hp
   . exact h p hp x e
   . rw[Ox.mp hp]at e;exact hk x e
theorem Zdv{d:D}{v:V}{k:Key}(r:RD Y H B d v)(e:keyOf d=Wu k):v=kV k:=by
 cases d with
 |int i=>cases e;cases r;rfl
 |str i=>cases e;cases r;rfl
 |_=>cases e
theorem RKs.valV_rel{ds:List (Key×D)}{vs:List (Key×V)}(s:RKs Y H B ds vs)(k:Key):(Zad ds k=Wv/\Zd5 vs k=Wv)\/∃d v,Zad ds k=Wu d/\Zd5 vs k=Wu v/\RD Y H B d v:=by
 unfold Zad Zd5;rcases s.val k with ⟨h1,h2⟩|⟨d,v,h1,h2,h3⟩
 . exact .inl ⟨by rw[h1];rfl,by rw[h2];rfl⟩
 . exact .inr ⟨d,v,by rw[h1];rfl,by rw[h2];rfl,h3⟩
theorem RKs.any_rel(k:Key):∀{ds:List (Key×D)}{vs:List (Key×V)},RKs Y H B ds vs->(ds.any fun kv=>Wy (kv.1=k))=(vs.any fun kv=>Wy (kv.1=k))
 |_,_,.nil=>rfl
 |_,_,.cons a s=>by rw[We,We,s.any_rel k]
theorem RKs.map_rel(k:Key){d:D}{v:V}(r:RD Y H B d v):∀{ds:List (Key×D)}{vs:List (Key×V)},RKs Y H B ds vs->RKs Y H B (ds.map fun kv=>if kv.1=k then(kv.1,d)else kv) (vs.map fun kv=>if kv.1=k then(kv.1,v)else kv)
 |_,_,.nil=>.nil
 |_,_,.cons (k:=k') a s=>by
  rw[Op,Op];by_cases e:k'=k
  . rw[if_pos e,if_pos e];exact .cons r (s.map_rel k r)
  . rw[if_neg e,if_neg e];exact .cons a (s.map_rel k r)
theorem RKs.append{κ:Type}:∀{ds es:List (κ×D)}{vs ws:List (κ×V)},RKs Y H B ds vs->RKs Y H B es ws->RKs Y H B (ds++es) (vs++ws)
 |_,_,_,_,.nil,s=>s
 |_,_,_,_,.cons a r,s=>.cons a (r.append s)
theorem RKs.put{ds:List (Key×D)}{vs:List (Key×V)}(s:RKs Y H B ds vs)(k:Key){d:D}{v:V}(r:RD Y H B d v):RKs Y H B (putD ds k d) (putK vs k v):=by
 unfold putD putK;rw[s.any_rel k];split
 . exact s.map_rel k r
 . exact s.append (.cons r .nil)
mutual
theorem RD.dp(rh:RH Y H B h)(rd:Nat->Option PyData)(hr:∀i p a,rd i=Wu p->B[i]? = Wu a->Dp Y.K H (.ref a) p):∀{d:D}{v:V}{p:PyData},RD Y H B d v->D.py rd d=Wu p->Dp Y.K H v p
 |_,_,_,.non,e=>by cases e;exact .non
 |_,_,_,.bl b,e=>by cases e;exact .bl b
 |_,_,_,.int i,e=>by cases e;exact .int i
 |_,_,_,.str x ok,e=>by cases e;exact .str x ok
 |_,_,_,.tup t s,e=>by rw[D.py]at e;obtain⟨ps,e1,rfl⟩:=Oo.mp e;exact .tup t (RDs.dps rh rd hr s e1)
 |_,_,_,.ref q,e=>hr _ _ _ e q
 |_,_,_,.ty n,e=>by cases e
 |_,_,_,.ro t s,e=>by rw[D.py]at e;obtain⟨ps,e1,rfl⟩:=Oo.mp e;exact .lst t.sq (RDs.dps rh rd hr s e1)
 |_,_,_,.kd q,e=>by cases e
theorem RDs.dps(rh:RH Y H B h)(rd:Nat->Option PyData)(hr:∀i p a,rd i=Wu p->B[i]? = Wu a->Dp Y.K H (.ref a) p):∀{d:List D}{v:List V}{p:List PyData},RDs Y H B d v->D.pys rd d=Wu p->Dps Y.K H v p
 |_,_,_,.nil,e=>by cases e;exact .nil
 |_,_,_,.cons a s,e=>by rw[D.pys]at e;obtain⟨q,e1,e2⟩:=Option.bind_eq_some_iff.mp e;obtain⟨qs,e3,rfl⟩:=Oo.mp e2;exact .cons (RD.dp rh rd hr a e1) (RDs.dps rh rd hr s e3)
end
theorem Zk9(rh:RH Y H B h):∀(n i:Nat) (p:PyData) (a:Yi),Zhr h n i=Wu p->B[i]? = Wu a->Dp Y.K H (.ref a) p
 |0,i,p,a,e,q=>by cases e
 |n+1,i,p,a,e,q=>by
  rw[Zhr]at e;split at e
  . rename_i xs he;obtain⟨ps,e1,rfl⟩:=Oo.mp e;obtain⟨vs,z,s⟩:=rh.ob i _ a he q;exact .lst (.of z) (RDs.dps rh _ (Zk9 rh n) s e1)
  . cases e
theorem Zfj(rh:RH Y H B h){d:D}{v:V}{p:PyData}(r:RD Y H B d v)(e:Ziw h d=Wu p):Dp Y.K H v p:=r.dp rh _ (Zk9 rh 4) e
theorem Zge{d:D}{v:V}(r:RD Y H B d v)(f:d.flat=Ww):ZdM v=Ww:=by cases r<;>first|rfl|cases f
theorem ZeL:∀{ds:List D}{vs:List V},RDs Y H B ds vs->ds.all D.flat=Ww->vs.all ZdM=Ww
 |_,_,.nil,_=>rfl
 |_,_,.cons a s,f=>by rw[List.all_cons,Oa]at f;rw[List.all_cons,Zge a f.1,ZeL s f.2];rfl
theorem Zs7{d e:D}{v w:V}(r:RD Y H B d v)(q:RD Y H B e w)(f:d.flat=Ww)(g:e.flat=Ww):eqF d e=eqV v w:=by cases r<;>cases q<;>first|rfl|exact absurd f (by simp[D.flat])|exact absurd g (by simp[D.flat])
theorem any_rel{e:D}{w:V}(q:RD Y H B e w)(g:e.flat=Ww):∀{ds:List D}{vs:List V},RDs Y H B ds vs->ds.all D.flat=Ww->(ds.any fun z=>eqF z e)=vs.any fun y=>eqV y w
 |_,_,.nil,_=>rfl
 |_,_,.cons a s,f=>by rw[List.all_cons,Oa]at f;rw[We,We,Zs7 a q f.1 g,any_rel q g s f.2]
theorem Zp9{k:Nat}(hr:Room k X.A)(h60:60<=k)(hY:Y.K=X.K):OpR X (YM .Eq) (rB Y E (Zb2 Wx)):=by
 intro pins s Z H x y v u Q I rx ry hh;obtain⟨dx,dy,h,B,rh,r1,r2,f⟩:=hh;unfold Zb2 at f;split at f
 . rename_i e1 e2;obtain⟨hz,f⟩:=f.iff;have d1:=Zfj rh r1 e1;have d2:=Zfj rh r2 e2;rw[hY]at d1 d2;obtain⟨as,q1⟩:=I.reads d1 rx;obtain⟨bs,q2⟩:=I.reads d2 ry;have:=hr.un;exact SeqAt.compareEq_reads q1 q2 d1.lay d2.lay (by omega) ⟨.bl _,H,I,rfl,f.ok rh (.bl _)⟩
 . exact f.elim
theorem Zp4{k:Nat}(hr:Room k X.A)(h60:60<=k)(hY:Y.K=X.K):OpR X (YM .NotEq) (rB Y E (Zb2 Ww)):=by
 intro pins s Z H x y v u Q I rx ry hh;obtain⟨dx,dy,h,B,rh,r1,r2,f⟩:=hh;unfold Zb2 at f;split at f
 . rename_i e1 e2;obtain⟨hz,f⟩:=f.iff;have d1:=Zfj rh r1 e1;have d2:=Zfj rh r2 e2;rw[hY]at d1 d2;obtain⟨as,q1⟩:=I.reads d1 rx;obtain⟨bs,q2⟩:=I.reads d2 ry;have:=hr.un;exact SeqAt.compareNe_reads q1 q2 d1.lay d2.lay (by omega) ⟨.bl _,H,I,rfl,f.ok rh (.bl _)⟩
 . exact f.elim
theorem Zfl{op:CmpOp}{g:Int->Int->Bool}(ho:OpR X (YM op) (rI0 fun i j=>.bl (g i j))):OpR X (YM op) (rB Y E (Zhy g)):=by
 intro pins s Z H x y v u Q I rx ry hh;obtain⟨dx,dy,h,B,rh,r1,r2,f⟩:=hh;unfold Zhy at f;split at f
 . cases r1;cases r2;exact ho pins s Z H _ _ v u Q I rx ry ⟨_,_,rfl,rfl,f.ok rh (.bl _)⟩
 . exact f.elim
theorem Zlh{d:D}{v:V}(r:RD Y H B d v):Wy (d=.non)=Wy (v=.non):=by cases r<;>simp
theorem Zp7:OpR X (YM .Is) (rB Y E (opN Wx)):=by
 intro pins s Z H x y v u Q I rx ry hh;obtain⟨dx,dy,h,B,rh,r1,r2,f⟩:=hh;unfold opN at f;split at f
 . cases r2;have z:=Zlh r1;simp only[OG,if_false,z]at f;exact Zss pins s Z H _ _ v u Q I rx ry ⟨rfl,f.ok rh (.bl _)⟩
 . exact f.elim
theorem Zmg:OpR X (YM .IsNot) (rB Y E (opN Ww)):=by
 intro pins s Z H x y v u Q I rx ry hh;obtain⟨dx,dy,h,B,rh,r1,r2,f⟩:=hh;unfold opN at f;split at f
 . cases r2;have z:=Zlh r1;simp only[if_true,z]at f;exact ZpY pins s Z H _ _ v u Q I rx ry ⟨rfl,f.ok rh (.bl _)⟩
 . exact f.elim
theorem Zp8(G:Gk X Y T):OpR X (YM .In) (rB Y E (ZbQ T.GD Wx)):=by
 intro pins s Z H x y v u Q I rx ry hh;obtain⟨dx,dy,h,B,rh,r1,r2,f⟩:=hh;unfold ZbQ at f;split at f
 . rename_i xs e1;obtain⟨hz,f⟩:=f.iff;rw[Oa]at hz;obtain⟨a,vs,rfl,hs,rs⟩:=r2.seqOf rh e1;have q:=f.ok rh (.bl _);simp only[OG,if_false,any_rel r1 hz.1 rs hz.2]at q;exact Zmf pins s Z H _ _ v u Q I rx ry ⟨a,vs,rfl,G.K ▸ hs,Zge r1 hz.1,ZeL rs hz.2,q⟩
 . split at f
   . rename_i kvs k e1 e2;obtain⟨a,kvs',rfl,hd,rk⟩:=r2.dicOf G rh e1;have q:=f.ok rh (.bl _);have z:(Zad kvs k).isSome=(Zd5 kvs' k).isSome:=by rcases rk.valV_rel k with ⟨h1,h2⟩|⟨d,v,h1,h2,_⟩<;>rw[h1,h2]<;>rfl
     rw[z]at q;exact Zst pins s Z H _ _ v u Q I rx ry ⟨a,kvs',k,rfl,Zdv r1 e2,hd,q⟩
   . exact f.elim
theorem ZjT(G:Gk X Y T):OpR X (YM .NotIn) (rB Y E (ZbQ T.GD Ww)):=by
 intro pins s Z H x y v u Q I rx ry hh;obtain⟨dx,dy,h,B,rh,r1,r2,f⟩:=hh;unfold ZbQ at f;split at f
 . rename_i xs e1;obtain⟨hz,f⟩:=f.iff;rw[Oa]at hz;obtain⟨a,vs,rfl,hs,rs⟩:=r2.seqOf rh e1;have q:=f.ok rh (.bl _);simp only[if_true,any_rel r1 hz.1 rs hz.2]at q;exact Zhx pins s Z H _ _ v u Q I rx ry ⟨a,vs,rfl,G.K ▸ hs,Zge r1 hz.1,ZeL rs hz.2,q⟩
 . split at f
   . rename_i kvs k e1 e2;obtain⟨a,kvs',rfl,hd,rk⟩:=r2.dicOf G rh e1;have q:=f.ok rh (.bl _);have z:(Zad kvs k).isSome=(Zd5 kvs' k).isSome:=by rcases rk.valV_rel k with ⟨h1,h2⟩|⟨d,v,h1,h2,_⟩<;>rw[h1,h2]<;>rfl
     rw[z]at q;exact Zmd pins s Z H _ _ v u Q I rx ry ⟨a,kvs',k,rfl,Zdv r1 e2,hd,q⟩
   . exact f.elim
theorem ZnL{k:Nat}(hr:Room k X.A)(h60:60<=k)(G:Gk X Y T)(op:CmpOp):OpR X (YM op) (rB Y E (opC T.GD op)):=by
 cases op with
 |Eq=>exact Zp9 hr h60 G.K
 |NotEq=>exact Zp4 hr h60 G.K
 |Lt=>exact Zfl Zuk
 |LtE=>exact Zfl Zul
 |Gt=>exact Zfl Zum
 |GtE=>exact Zfl Zun
 |Is=>exact Zp7
 |IsNot=>exact Zmg
 |In=>exact Zp8 G
 |NotIn=>exact ZjT G
theorem Zp5(G:Gk X Y T):IxR X (rB Y E (ZaS T.GD)):=by
 intro value slice pins s Z H x y v u Q I rx ry hh hs;obtain⟨dx,dy,h,B,rh,r1,r2,f⟩:=hh;have dict:∀(kvs:List (Key×D)) (k:Key),dicOf T.GD dx h=Wu kvs->y=kV k->Fin Y (RD Y) H B (R.ofO (Zad kvs k) h) Q E->YB (model X.prog X.w) X.A (subscriptTail value slice v u) (EP X pins Z Q) X.xe s:=by
  intro kvs k e1 ey f;obtain⟨d,e2,f⟩:=f.ofO;obtain⟨a,kvs',rfl,hd,rk⟩:=r1.dicOf G rh e1;rcases rk.valV_rel k with ⟨h1,h2⟩|⟨d',w,h1,h2,h3⟩
  . rw[h1]at e2;cases e2
  . rw[h1]at e2;cases e2;exact Zqr value slice pins s Z H _ _ v u Q I rx ry ⟨a,kvs',k,w,rfl,ey,hd,h2,f.ok rh h3⟩ hs
 unfold ZaS at f;split at f
 . rename_i i;cases r2;split at f
   . rename_i xs e1;obtain⟨d,e2,f⟩:=f.ofO;obtain⟨a,vs,rfl,hq,rs⟩:=r1.seqOf rh e1;obtain⟨w,e3,rw'⟩:=rs.atI e2;rcases hq with hq|hq
     . exact Zqq value slice pins s Z H _ _ v u Q I rx ry ⟨a,vs,i,w,rfl,rfl,G.K ▸ hq,e3,f.ok rh rw'⟩ hs
     . exact ZsS value slice pins s Z H _ _ v u Q I rx ry ⟨a,vs,i,w,rfl,rfl,G.K ▸ hq,e3,f.ok rh rw'⟩ hs
   . split at f
     . obtain⟨hz,f⟩:=f.iff;obtain⟨d,e2,f⟩:=f.ofO;obtain⟨c,e3,rfl⟩:=Oo.mp e2;obtain⟨rfl,ok⟩:=r1.str_inv;exact ZsT value slice pins s Z H _ _ v u Q I rx ry ⟨_,i,c,rfl,rfl,hz,e3,f.ok rh (.str _ (ZjW ok (Zqh e3)))⟩ hs
     . split at f
       . rename_i kvs e1;exact dict kvs (.inl i) e1 rfl f
       . exact f.elim
 . rename_i z;obtain⟨rfl,ok⟩:=r2.str_inv;split at f
   . rename_i kvs e1;exact dict kvs (.inr z) e1 rfl f
   . exact f.elim
 . exact f.elim
theorem ZnN{x y:Str}(hx:Yp x=Ww)(h:∀c∈y.cps.toList,c∈x.cps.toList):Yp y=Ww:=by unfold Yp at hx ⊢;rw[Array.all_eq_true']at hx ⊢;intro c hc;exact hx c (by simpa using h c (by simpa using hc))
theorem Zpc{d:D}{v:V}{b:Bool}(hY:Y.K=X.K)(rh:RH Y H B h)(r:RD Y H B d v)(e:ZdR T.GD d h=Wu b):Zth X.K v H b:=by
 cases d with
 |non=>cases r;cases e;rfl
 |bl c=>cases r;cases e;rfl
 |int c=>cases r;cases e;rfl
 |str c=>
  cases r;unfold ZdR at e;simp only at e;split at e
  . rename_i hz;cases e;refine⟨hz,?_⟩;by_cases h0:c.length=0
    . simp[h0]
    . have h1:((c.length:Int) != 0)=Ww:=by simp;omega
      rw[h1];simp[h0]
  . cases e
 |tup xs=>obtain⟨a,vs,rfl,t,s⟩:=r.tup_inv;cases e;exact .inr (.inl ⟨vs,hY ▸ t,by rw[s.isEmpty]⟩)
 |ref i=>
  unfold ZdR at e;simp only at e;split at e
  . rename_i q;cases e;obtain⟨a,vs,rfl,_,h3,s⟩:=r.lst rh q;exact .inl ⟨vs,.of h3,by rw[s.isEmpty]⟩
  . rename_i q;cases e;obtain⟨a,vs,rfl,_,h3,s⟩:=r.dic rh q;exact .inr (.inr ⟨vs,h3,by cases s<;>rfl⟩)
  . cases e
 |ro xs=>
  cases e;cases r with
  |ro q s=>exact .inl ⟨_,hY ▸ q.sq,by rw[s.isEmpty]⟩
 |ty n=>cases e
 |kd x=>cases e
end
end IV
end
section
namespace IV
open PySem PySem.Spec PyProof.Rows L2
section
variable {X:Cx}{Y:Yx}{E:XK}{T:Tb}{H:Hp}{B:List Yi}{h:Hd}
def rS(Y:Yx)(E:XK):V->Option Int->Option Int->Hp->VK->Prop:=fun x l u H Q=>∃d h B,RH Y H B h/\RD Y H B d x/\Fin Y (RD Y) H B (Zgw d l u h) Q E
theorem ZfD(y:Str)(l u:Option Int):∀c∈(Yq y l u).cps.toList,c∈y.cps.toList:=by
 intro c hc;unfold Yq at hc;split at hc
 . exact hc
 . simp only[List.mem_filterMap]at hc;obtain⟨i,_,hi⟩:=hc;have:=Array.mem_of_getElem? hi;simpa using this
theorem ZmB{xs:List D}{lo hi:Option Int}(h:HT.sIx xs.length 0 lo=0/\HT.sIx xs.length xs.length hi=xs.length):cutD xs lo hi=xs:=by unfold cutD;rw[h.1,h.2];simp
theorem Zp3(hY:Y.K=X.K):SlR X (rS Y E):=by
 intro pins s Z H x v vl vu lo hi sl Q I rx hs pl pu hh;obtain⟨d,h,B,rh,r,f⟩:=hh;unfold Zgw at f;split at f
 . rename_i xs;obtain⟨a,vs,rfl,t,rs⟩:=r.tup_inv;by_cases hw:HT.sIx vs.length 0 lo=0/\HT.sIx vs.length vs.length hi=vs.length
   . rw[ZmB (by rw[rs.length];exact hw)]at f;exact Zm3 pins s Z H _ v vl vu lo hi sl Q I rx hs pl pu ⟨a,vs,rfl,hY ▸ t,hw,f.ok rh (.tup t rs)⟩
   . exact ZrP pins s Z H _ v vl vu lo hi sl Q I rx hs pl pu ⟨a,vs,rfl,hY ▸ t,hw,fun p hp=>f.tup rh hp (rs.cut lo hi)⟩
 . obtain⟨hz,f⟩:=f.iff;obtain⟨rfl,ok⟩:=r.str_inv;exact ZrQ pins s Z H _ v vl vu lo hi sl Q I rx hs pl pu ⟨_,rfl,hz,f.ok rh (.str _ (ZnN ok (ZfD _ _ _)))⟩
 . split at f
   . rename_i xs e1;obtain⟨a,vs,rfl,hl,rs⟩:=r.lstOf rh e1;exact Zpl pins s Z H _ v vl vu lo hi sl Q I rx hs pl pu ⟨a,vs,rfl,hY ▸ hl,fun p hp=>f.new rh hp ⟨_,Zi,(rs.cut lo hi).mono rh (Gr.lay hp)⟩⟩
   . exact f.elim
def rF(Y:Yx)(E:XK)(f:List D->Hd->R D):List V->Hp->VK->Prop:=fun xs H Q=>∃ds h B,RH Y H B h/\RDs Y H B ds xs/\Fin Y (RD Y) H B (f ds h) Q E
theorem RDs.one{d:D}{xs:List V}(r:RDs Y H B [d] xs):∃x,xs=[x]/\RD Y H B d x:=by
 cases r with
 |cons a s=>cases s;exact⟨_,rfl,a⟩
theorem RDs.two{d e:D}{xs:List V}(r:RDs Y H B [d,e] xs):∃x y,xs=[x,y]/\RD Y H B d x/\RD Y H B e y:=by
 cases r with
 |cons a s=>obtain⟨y,rfl,b⟩:=s.one;exact⟨_,_,rfl,a,b⟩
theorem ZqR(hY:Y.K=X.K):Zcr X (.builtin "len") (rF Y E Zh8):=by
 intro pins s Z H xs us Q I r hh;obtain⟨ds,h,B,rh,rs,f⟩:=hh;unfold Zh8 at f;split at f
 . obtain⟨hz,f⟩:=f.iff;obtain⟨x,rfl,rd⟩:=rs.one;obtain⟨rfl,ok⟩:=rd.str_inv;exact ZhX pins s Z H _ us Q I r ⟨_,rfl,hz,f.ok rh (.int _)⟩
 . obtain⟨e,e1,f⟩:=f.ofO;obtain⟨zs,e2,rfl⟩:=Oo.mp e1;obtain⟨x,rfl,rd⟩:=rs.one;obtain⟨a,vs,rfl,hq,rv⟩:=rd.seqOf rh e2;refine ZhY pins s Z H _ us Q I r ⟨a,vs,rfl,hY ▸ hq,?_⟩;rw[<- rv.length];exact f.ok rh (.int _)
 . exact f.elim
theorem Zqn{K:Yk}{t T:String}{b:Bool}(e:Zko t T=Wu b):PySem.W.kitOne K (.type t) (.type T)=Wu b:=by
 have all:(["int", "str", "bool", "tuple", "list"].all fun T=>["int", "str", "bool", "tuple", "list", "NoneType"].all fun t=>Wy (PySem.W.kitOne [] (.type t) (.type T)=Wu (t==T || (t == "bool" && T == "int"))))=Ww:=by decide +kernel
 unfold Zko at e;split at e
 . rename_i hm;cases e;rw[OC]at all;have h1:=all T hm.1;rw[OC]at h1;exact Zmm (of_decide_eq_true (h1 t hm.2))
 . cases e
theorem Ztz{d:D}{v:V}{t:String}(hY:Y.K=X.K)(rh:RH Y H B h)(r:RD Y H B d v)(e:ZtA d h=Wu t):TyN X.K v H t:=by
 have lst:(IV.lstOf d h).map (fun _ => "list")=Wu t->TyN X.K v H t:=fun e=>by obtain⟨xs,e1,rfl⟩:=Oo.mp e;obtain⟨a,vs,rfl,hl,rs⟩:=r.lstOf rh e1;exact .inl ⟨rfl,vs,hY ▸ hl⟩
 cases d with
 |int i=>cases e;cases r;rfl
 |str i=>cases e;cases r;rfl
 |bl i=>cases e;cases r;rfl
 |non=>cases e;cases r;rfl
 |tup xs=>cases e;obtain⟨a,vs,rfl,t,rs⟩:=r.tup_inv;exact .inr ⟨rfl,vs,hY ▸ t⟩
 |ref i=>exact lst e
 |ro xs=>exact lst e
 |ty n=>exact lst e
 |kd x=>exact lst e
theorem ZqS(hY:Y.K=X.K):Zcr X (.builtin "isinstance") (rF Y E Zte):=by
 intro pins s Z H xs us Q I r hh;obtain⟨ds,h,B,rh,rs,f⟩:=hh;unfold Zte at f;split at f
 . obtain⟨e,e1,f⟩:=f.ofO;obtain⟨t,e2,e3⟩:=Option.bind_eq_some_iff.mp e1;obtain⟨b,e4,rfl⟩:=Oo.mp e3;obtain⟨x,y,rfl,r1,r2⟩:=rs.two;cases r2;exact ZoL pins s Z H _ us Q I r ⟨x,t,_,b,rfl,Ztz hY rh r1 e2,Zqn e4,f.ok rh (.bl _)⟩
 . exact f.elim
theorem ZqO(hY:Y.K=X.K):Zcr X (.type "tuple") (rF Y E ZmI):=by
 intro pins s Z H xs us Q I r hh;obtain⟨ds,h,B,rh,rs,f⟩:=hh;unfold ZmI at f;split at f
 . obtain⟨x,rfl,r1⟩:=rs.one;obtain⟨a,vs,rfl,t,rv⟩:=r1.tup_inv;exact ZdO pins s Z H _ us Q I r ⟨a,vs,rfl,.inr ⟨hY ▸ t,f.ok rh (.tup t rv)⟩⟩
 . obtain⟨e,e1,f⟩:=f.ofO;obtain⟨zs,e2,rfl⟩:=Oo.mp e1;obtain⟨x,rfl,r1⟩:=rs.one;obtain⟨a,vs,rfl,hl,rv⟩:=r1.lstOf rh e2;exact ZdO pins s Z H _ us Q I r ⟨a,vs,rfl,.inl ⟨hY ▸ hl,fun p hp=>f.tup rh hp rv⟩⟩
 . exact f.elim
theorem Zf9:∀{ds:List D}{vs:List V}{ns:List Int},RDs Y H B ds vs->intsOf ds=Wu ns->vs=ns.map V.int
 |_,_,_,.nil,e=>by cases e;rfl
 |_,_,_,.cons (d:=d) a s,e=>by
  cases d with
  |int i=>rw[intsOf]at e;obtain⟨z,e1,rfl⟩:=Oo.mp e;cases a;rw[Zf9 s e1];rfl
  |_=>cases e
theorem ZqP(hc:X.A.handled=Wv)(hY:Y.K=X.K):Zcr X (.builtin "sum") (rF Y E ZoT):=by
 intro pins s Z H xs us Q I r hh;obtain⟨ds,h,B,rh,rs,f⟩:=hh;unfold ZoT at f;split at f
 . obtain⟨e,e1,f⟩:=f.ofO;obtain⟨ns,e2,rfl⟩:=Oo.mp e1;obtain⟨zs,e3,e4⟩:=Option.bind_eq_some_iff.mp e2;obtain⟨x,rfl,r1⟩:=rs.one;obtain⟨a,vs,rfl,hl,rv⟩:=r1.lstOf rh e3;rw[Zf9 rv e4]at hl;exact ZmF hc pins s Z H _ us Q I r ⟨a,ns,rfl,hY ▸ hl,f.ok rh (.int _)⟩
 . exact f.elim
def rM(Y:Yx)(E:XK)(m:Mf):V->List V->Hp->VK->Prop:=fun x xs H Q=>∃d ds h B,RH Y H B h/\RD Y H B d x/\RDs Y H B ds xs/\Fin Y (RD Y) H B (ZaT m d ds h) Q E
noncomputable def mid:Mf->String
 |.app => "list.append"
 |.ext => "list.extend"
 |.pop => "list.pop"
 |.rev => "list.reverse"
 |.clr => "list.clear"
theorem Zlk(hY:Y.K=X.K)(m:Mf):MtM X (mid m) (rM Y E m):=by
 intro pins s Z H x xs v us Q I rx rs hh;obtain⟨d,ds,h,B,rh,r1,r2,f⟩:=hh;unfold ZaT at f;split at f
 . split at f
   . rename_i i ys e;obtain⟨a,vs,rfl,hi,hl,rv⟩:=r1.lst rh e;cases m with
     |app=>
      unfold ZeH Zj2 at f;simp only at f;split at f
      . obtain⟨hz,f⟩:=f.iff;obtain⟨y,rfl,ry⟩:=r2.one;have g:Gr H B (upd H a (.lst (vs++[y]))) B:=Gr.write (O1 hi) (by rw[hl];trivial);exact ZgX pins s Z H _ _ v us Q I rx rs ⟨a,vs,y,rfl,rfl,hl,by rw[<- rv.length];exact hz,f.wrote rh hi ⟨_,Zi,(rv.append (.cons ry .nil)).mono rh g⟩ .non (by rw[hl];trivial)⟩
      . exact f.elim
     |ext=>
      unfold ZeH ZsG at f;simp only at f;split at f
      . split at f
        . rename_i zs e2;obtain⟨hz,f⟩:=f.iff;obtain⟨y,rfl,ry⟩:=r2.one;obtain⟨b,ws,rfl,hj,hl2,rw'⟩:=ry.lst rh e2;have g:Gr H B (upd H a (.lst (vs++ws))) B:=Gr.write (O1 hi) (by rw[hl];trivial);exact Zmi pins s Z H _ _ v us Q I rx rs ⟨a,b,vs,ws,rfl,rfl,hl,hl2,by rw[<- rv.length,<- rw'.length];exact hz,f.wrote rh hi ⟨_,Zi,(rv.append rw').mono rh g⟩ .non (by rw[hl];trivial)⟩
        . exact f.elim
      . obtain⟨hz,f⟩:=f.iff;obtain⟨y,rfl,ry⟩:=r2.one;obtain⟨b,ws,rfl,t,rw'⟩:=ry.tup_inv;have g:Gr H B (upd H a (.lst (vs++ws))) B:=Gr.write (O1 hi) (by rw[hl];trivial);exact ZjY pins s Z H _ _ v us Q I rx rs ⟨a,b,vs,ws,rfl,rfl,hl,hY ▸ t,by rw[<- rv.length,<- rw'.length];exact hz,f.wrote rh hi ⟨_,Zi,(rv.append rw').mono rh g⟩ .non (by rw[hl];trivial)⟩
      . exact f.elim
     |pop=>
      unfold ZeH Zqj at f;simp only at f;split at f
      . split at f
        . rename_i y e2;cases r2;rw[rv.length]at e2;obtain⟨w,e3,rw'⟩:=rv.get e2;have g:Gr H B (upd H a (.lst vs.dropLast)) B:=Gr.write (O1 hi) (by rw[hl];trivial);exact ZsC pins s Z H _ _ v us Q I rx rs ⟨a,vs,w,rfl,rfl,hl,e3,f.wrote rh hi ⟨_,Zi,rv.dropLast.mono rh g⟩ (rw'.mono rh g) (by rw[hl];trivial)⟩
        . exact f.elim
      . exact f.elim
     |rev=>
      unfold ZeH ZuA at f;simp only at f;split at f
      . cases r2;have g:Gr H B (upd H a (.lst vs.reverse)) B:=Gr.write (O1 hi) (by rw[hl];trivial);exact ZjX pins s Z H _ _ v us Q I rx rs ⟨a,vs,rfl,rfl,hl,f.wrote rh hi ⟨_,Zi,rv.reverse.mono rh g⟩ .non (by rw[hl];trivial)⟩
      . exact f.elim
     |clr=>
      unfold ZeH ZuB at f;simp only at f;split at f
      . cases r2;exact ZnU pins s Z H _ _ v us Q I rx rs ⟨a,vs,rfl,rfl,hl,f.wrote rh hi ⟨_,Zi,.nil⟩ .non (by rw[hl];trivial)⟩
      . exact f.elim
   . exact f.elim
 . exact f.elim
noncomputable def rP(Y:Yx)(E:XK):Zo0:=fun o i v H Q=>∃a b c h B,RH Y H B h/\RD Y H B a o/\RD Y H B b i/\RD Y H B c v/\Fin Y (fun _ _ (_:Unit) (_:Unit)=>True) H B (ZbP a b c h) (fun _ H'=>Q H') E
theorem Zr4:ZqX X (rP Y E):=by
 intro pins s Z H o i v ov iv u Q I ro ri rv hh;obtain⟨a,b,c,h,B,rh,ra,rb,rc,f⟩:=hh;unfold ZbP at f;split at f
 . split at f
   . rename_i j xs e;split at f
     . split at f
       . rename_i j' e2;obtain⟨p,vs,rfl,hi,hl,rs⟩:=ra.lst rh e;have hb:=rb.int_inv;subst hb;rw[rs.length]at e2;have g:Gr H B (upd H p (.lst (vs.set j' v))) B:=Gr.write (O1 hi) (by rw[hl];trivial);exact set_list pins s Z H _ _ v ov iv u Q I ro ri rv ⟨p,vs,_,j',rfl,rfl,hl,e2,f.wrote (b:=()) rh hi ⟨_,Zi,(RDs.set rc j' rs).mono rh g⟩ trivial (by rw[hl];trivial)⟩
       . exact f.elim
     . exact f.elim
   . rename_i j kvs e;split at f
     . rename_i k e2;obtain⟨hz,f⟩:=f.iff;obtain⟨p,vs,rfl,hi,hl,rs⟩:=ra.dic rh e;have g:Gr H B (upd H p (.dK (putK vs k v))) B:=Gr.write (O1 hi) (by rw[hl];trivial);exact set_dict pins s Z H _ _ v ov iv u Q I ro ri rv ⟨p,vs,k,rfl,Zdv rb e2,hl,by rw[<- rs.length];exact hz,f.wrote (b:=()) rh hi ⟨_,Zi,(rs.put k rc).mono rh g⟩ trivial (by rw[hl];trivial) (Zf3 (rh.ks _ _ e) (Zn8 rb e2))⟩
     . exact f.elim
   . exact f.elim
 . exact f.elim
end
end IV
end
section
namespace IV
open PySem PySem.Spec PyProof.Rows L2
def rW(K:Yk)(x:V)(H1:Hp)(R:It->Hp->Prop):Prop:=(∃a,x=.ref a/\(∃xs,SqL K H1 a xs)/\R (Itl K a) H1)\/(∃a,x=.ref a/\(∃xs,SqT K H1 a xs)/\R (Itt K a) H1)\/(∃y,x=.str y/\R (Its y) H1)
theorem Zsd{X:Cx}{tg l:Expr}{tl:TE}(hl:PE X l tl):PI X tg l (fun Z H R=>tl Z H fun x H1=>rW X.K x H1 R):=by
 intro pins s Z H R I h;refine thn (hl pins s Z H _ I h) fun v s1 ⟨x,H1,I1,r1,q1⟩=>?_;have fp1:∀b∈[s1.heap.objs.size],Zdn X pins H1 b:=fun b hb=>by
  have e:b=s1.heap.objs.size:=by simpa using hb
  subst e;exact I1.fpOk (Oq _) (I1.hok.fresh (Oq _))
 rcases q1 with ⟨a,rfl,⟨xs,hq⟩,q⟩|⟨a,rfl,⟨xs,hq⟩,q⟩|⟨y,rfl,q⟩
 . cases r1;obtain⟨its,rv,p,hz⟩:=I1.list hq;exact wpAny_pyIter_list p.isList ⟨s1.heap.objs.size,[s1.heap.objs.size],_,_,H1,rfl,I1.kept (t':=s1.toks) fun b o e=>Od _ e,ZlN a _,⟨_,Oj _ rfl,rfl,rfl⟩,fp1,q⟩
 . cases r1;obtain⟨its,rv,p,hz⟩:=I1.tuple hq;exact wpAny_pyIter_tuple (show s1.heap.IsTuple a its.toArray from p) ⟨s1.heap.objs.size,[s1.heap.objs.size],_,_,H1,rfl,I1.kept (t':=s1.toks) fun b o e=>Od _ e,Zjy a _,⟨_,Oj _ rfl,rfl,rfl⟩,fp1,q⟩
 . obtain⟨t,rfl⟩:=r1;cases ha:y.cps.all (·<128)
   . exact wpAny_pyIter_wide ha ⟨s1.heap.objs.size,[s1.heap.objs.size],_,_,H1,rfl,I1.kept (t':=s1.toks) fun b o e=>Od _ e,Zid (t:=t) (fun A' hA=>Walks.strWide hA _ y t) (fun _ _ _ _ _ st h=>wpAny_pyIter_striter_wide st h),⟨_,Oj _ rfl,rfl,rfl⟩,fp1,q⟩
   . exact wpAny_pyIter_ascii ha ⟨s1.heap.objs.size,[s1.heap.objs.size],_,_,H1,rfl,I1.kept (t':=s1.toks) fun b o e=>Od _ e,Zid (t:=t) (fun A' hA=>Walks.strAscii hA _ y t) (fun _ _ _ _ _ st h=>wpAny_pyIter_striter_ascii st h),⟨_,Oj _ rfl,rfl,rfl⟩,fp1,q⟩
def WJ(Y:Yx)(H0:Hp)(μ0:List Yi)(w:Wk)(J:It):Prop:=∀H B h,Gr H0 μ0 H B->RH Y H B h->Wk.stays w.src h=Ww ->
 (∀i d,w.xs[i]? = Wu d->J.go i H/\∀x H',J.yld i H x H'->Gr H B H' B/\RH Y H' B h/\RD Y H' B d x)/\J.stop w.xs.length H
section
variable {X:Cx}{Y:Yx}{E:XK}{T:Tb}{H:Hp}{B:List Yi}{h:Hd}
theorem Zrv{a:Yi}{vs:List V}{xs:List D}(hY:Y.K=X.K)(rh:RH Y H B h)(t:SqT Y.K H a vs)(s:RDs Y H B xs vs):WJ Y H B ⟨Wv,xs⟩ (Itt X.K a):=by intro H1 μ1 h1 g rh1 st;have t1:=g.rdT rh t;have s1:=s.mono rh g;rw[hY]at t1;refine⟨fun i d e=>?_,⟨vs,t1,by rw[s.length];exact Oq _⟩⟩;obtain⟨v,e1,r1⟩:=s1.get e;refine⟨⟨vs,v,t1,e1⟩,fun x H' ⟨eH,q⟩=>?_⟩;subst eH;have:=q vs t1;rw[e1]at this;cases this;exact⟨Gr.refl,rh1,r1⟩
theorem ZqZ{a:Yi}{vs:List V}{xs:List D}(hY:Y.K=X.K)(rh:RH Y H B h)(t:FzL Y.K H a vs)(s:RDs Y H B xs vs):WJ Y H B ⟨Wv,xs⟩ (Itl X.K a):=by intro H1 μ1 h1 g rh1 st;have t1:=(g.rdF rh t).sq;have s1:=s.mono rh g;rw[hY]at t1;refine⟨fun i d e=>?_,⟨vs,t1,by rw[s.length];exact Oq _⟩⟩;obtain⟨v,e1,r1⟩:=s1.get e;refine⟨⟨vs,v,t1,e1⟩,fun x H' ⟨eH,q⟩=>?_⟩;subst eH;have:=q vs t1;rw[e1]at this;cases this;exact⟨Gr.refl,rh1,r1⟩
theorem ZfB{i:Nat}{xs:List D}{h:Hd}(st:Wk.stays (Wu (i,xs)) h=Ww):h[i]? = Wu (.lst xs):=of_decide_eq_true st
theorem ZmN{i:Nat}{a:Yi}{xs:List D}(hi:B[i]? = Wu a):WJ Y H B ⟨Wu (i,xs),xs⟩ (Itl X.K a):=by intro H1 μ1 h1 g rh1 st;obtain⟨vs,hl,s1⟩:=rh1.ob i _ a (ZfB st) (g.pre i a hi);have t1:SqL X.K H1 a vs:=.of hl;refine⟨fun i d e=>?_,⟨vs,t1,by rw[s1.length];exact Oq _⟩⟩;obtain⟨v,e1,r1⟩:=s1.get e;refine⟨⟨vs,v,t1,e1⟩,fun x H' ⟨eH,q⟩=>?_⟩;subst eH;have:=q vs t1;rw[e1]at this;cases this;exact⟨Gr.refl,rh1,r1⟩
theorem Zrx{lo:Int}{n:Nat}:WJ Y H B ⟨Wv,ZC lo n⟩ (Itr lo n):=by
 intro H1 μ1 h1 g rh1 st;have hl:(ZC lo n).length=n:=by simp[ZC]
 refine⟨fun i d e=>?_,by show n<=(ZC lo n).length;rw[hl];exact Oq _⟩;have hi:i<n:=by have:=(Ob.mp e).1;rw[hl]at this;exact this
 refine⟨hi,fun x H' ⟨eH,q⟩=>?_⟩;subst eH q;have:d=.int (lo+i):=by unfold ZC at e;rw[On,List.getElem?_range hi]at e;exact(YF e).symm
 subst this;exact⟨Gr.refl,rh1,.int _⟩
theorem Zrw{y:Str}(ok:Yp y=Ww):WJ Y H B ⟨Wv,y.cps.toList.map fun c=>.str ⟨#[c]⟩⟩ (Its y):=by
 intro H1 μ1 h1 g rh1 st;have hl:(y.cps.toList.map fun c=>D.str ⟨#[c]⟩).length=y.cps.size:=by simp
 refine⟨fun i d e=>?_,hl⟩;have hi:i<y.cps.size:=by have:=(Ob.mp e).1;rw[hl]at this;exact this
 refine⟨hi,fun x H' ⟨eH,c,q,ex⟩=>?_⟩;subst eH ex;rw[On,Array.getElem?_toList,q]at e;have:=(YF e).symm;subst this;exact⟨Gr.refl,rh1,.str _ (ZjW ok (by simpa using Array.mem_of_getElem? q))⟩
theorem ZoE{xs:List D}{i:Nat}{d:D}(e:(ZcJ xs)[i]? = Wu d):∃x,xs[i]? = Wu x/\d=.tup [.int i,x]:=by unfold ZcJ at e;rw[List.getElem?_mapIdx]at e;obtain⟨x,e1,e2⟩:=Oo.mp e;exact⟨x,e1,e2.symm⟩
theorem ZkU{a:Yi}{src:Option (Nat×List D)}{xs:List D}(hw:WJ Y H B ⟨src,xs⟩ (Itl X.K a))(sq:∀H1 μ1 h1,Gr H B H1 μ1->RH Y H1 μ1 h1->Wk.stays src h1=Ww->∃vs,SqL X.K H1 a vs/\RDs Y H1 μ1 xs vs):WJ Y H B ⟨src,ZcJ xs⟩ (Ite X.K a):=by
 intro H1 μ1 h1 g rh1 st;obtain⟨vs,t1,s1⟩:=sq H1 μ1 h1 g rh1 st;have hl:(ZcJ xs).length=xs.length:=by simp[ZcJ]
 refine⟨fun i d e=>?_,⟨vs,t1,by rw[hl,s1.length]⟩⟩;obtain⟨x0,e0,rfl⟩:=ZoE e;obtain⟨v,e1,r1⟩:=s1.get e0;refine⟨⟨vs,v,t1,e1⟩,fun x H' ⟨p,ex,hp,y,q,eH⟩=>?_⟩;subst ex eH;have:=q vs t1;rw[e1]at this;cases this;exact⟨Gr.lay0 hp,rh1.lay0 hp,.tup (.inl (.inl Zi)) (.cons (.int _) (.cons (r1.mono rh1 (Gr.lay0 hp)) .nil))⟩
theorem Zry{a:Yi}{vs:List V}{xs:List D}(hY:Y.K=X.K)(rh:RH Y H B h)(t:SqT Y.K H a vs)(s:RDs Y H B xs vs):WJ Y H B ⟨Wv,xs.reverse⟩ (Itv X.K a vs.length):=by intro H1 μ1 h1 g rh1 st;have t1:=g.rdT rh t;have s1:=(s.mono rh g).reverse;rw[hY]at t1;refine⟨fun i d e=>?_,⟨vs,t1,rfl,by simp[s.length]⟩⟩;obtain⟨v,e1,r1⟩:=s1.get e;refine⟨⟨vs,v,t1,rfl,e1⟩,fun x H' ⟨eH,q⟩=>?_⟩;subst eH;have:=q vs t1;rw[e1]at this;cases this;exact⟨Gr.refl,rh1,r1⟩
theorem Zo2{i:Nat}{a:Yi}{xs:List D}(hi:B[i]? = Wu a):WJ Y H B ⟨Wu (i,xs),xs.reverse⟩ (Zti X.K a xs.length):=by intro H1 μ1 h1 g rh1 st;obtain⟨vs,hl,s0⟩:=rh1.ob i _ a (ZfB st) (g.pre i a hi);have t1:SqL X.K H1 a vs:=.of hl;have s1:=s0.reverse;refine⟨fun i d e=>?_,⟨vs,t1,s0.length.symm,by simp⟩⟩;obtain⟨v,e1,r1⟩:=s1.get e;refine⟨⟨vs,v,t1,s0.length.symm,e1⟩,fun x H' ⟨eH,q⟩=>?_⟩;subst eH;have:=q vs t1;rw[e1]at this;cases this;exact⟨Gr.refl,rh1,r1⟩
theorem Zrz{a:Yi}{vs:List V}{xs:List D}(hY:Y.K=X.K)(rh:RH Y H B h)(t:SqT Y.K H a vs)(s:RDs Y H B xs vs):WJ Y H B ⟨Wv,ZdX xs⟩ (It1 X.K a):=by
 intro H1 μ1 h1 g rh1 st;have t1:=g.rdT rh t;have s1:=s.mono rh g;rw[hY]at t1;have hl:(ZdX xs).length=xs.length:=by simp[ZdX]
 refine⟨fun i d e=>?_,⟨vs,t1,by rw[hl,s1.length]⟩⟩;have:∃x0,xs[i]? = Wu x0/\d=.tup [.int ((i+1:Nat):Int),x0]:=by unfold ZdX at e;rw[List.getElem?_mapIdx]at e;obtain⟨x,e1,e2⟩:=Oo.mp e;exact⟨x,e1,e2.symm⟩
 obtain⟨x0,e0,rfl⟩:=this;obtain⟨v,e1,r1⟩:=s1.get e0;refine⟨⟨vs,v,t1,e1⟩,fun x H' ⟨p,ex,hp,y,q,eH⟩=>?_⟩;subst ex eH;have:=q vs t1;rw[e1]at this;cases this;exact⟨Gr.lay0 hp,rh1.lay0 hp,.tup (.inl (.inl Zi)) (.cons (.int _) (.cons (r1.mono rh1 (Gr.lay0 hp)) .nil))⟩
theorem RKs.keys:∀{kvs:List (Key×D)}{kvs':List (Key×V)},RKs Y H B kvs kvs'->kvs.map (·.1)=kvs'.map (·.1)
 |_,_,.nil=>rfl
 |_,_,.cons a s=>by rw[Op,Op,s.keys]
theorem Zq0{a:Yi}{o:Obj}{kvs:List (Key×D)}{kvs':List (Key×V)}(ea:H a=Wu (.frz o (.dK kvs')))(s:RKs Y H B kvs kvs')(ok:Zbo kvs):WJ Y H B ⟨Wv,kvs.map fun p=>Zn9 p.1⟩ (Itd a o kvs'):=by
 intro H1 μ1 h1 g rh1 st;have e1:=g.fz a _ _ ea;have hl:=s.length;refine⟨fun i d e=>?_,⟨e1,by simp[hl]⟩⟩;simp only[On]at e;obtain⟨p,ep,rfl⟩:=Oo.mp e;have hi:i<kvs.length:=(Ob.mp ep).1;refine⟨⟨e1,by omega⟩,fun x H' ⟨eH,k,v,ek,ex⟩=>?_⟩;subst eH ex;have hk:p.1=k:=by have q:=congrArg (fun l=>l[i]?) s.keys;simp only[On,ep,ek,Yv]at q;exact YF q
 refine⟨Gr.refl,rh1,?_⟩;have okp:=ok p (O1 ep);rw[hk]at okp ⊢;cases k with
 |inl i=>exact .int _
 |inr x=>exact .str _ (okp x rfl)
theorem Zs0{d:D}{x:V}{R:It->Hp->Prop}{E:XK}(rh:RH Y H B h)(r:RD Y H B d x)(f:Fin Y (WJ Y) H B (Zos d h) R E):
 ∃a kvs,x=.ref a/\((H a=Wu (.dK kvs)/\∀o,R (Itd a o kvs) (upd H a (.frz o (.dK kvs))))\/∃o,H a=Wu (.frz o (.dK kvs))/\R (Itd a o kvs) H):=by
 cases d with
 |ref i=>
  unfold Zos at f;simp only at f;split at f
  . rename_i kvs e;obtain⟨a,vs,rfl,hi,hl,s⟩:=r.dic rh e;have nf:NF (H a):=by rw[hl];trivial
    refine⟨a,vs,rfl,.inl ⟨hl,fun o=>?_⟩⟩;have g:Gr H B (upd H a (.frz o (.dK vs))) B:=Gr.write (O1 hi) nf;exact f.at g (rh.write hi ⟨o,vs,Zi,s.mono rh g⟩ nf (show Zbo kvs from rh.ks _ _ e)) (Zq0 Zi (s.mono rh g) (show Zbo kvs from rh.ks _ _ e))
  . rename_i kvs e;cases r with
    |ref q=>obtain⟨o,vs,h1,s⟩:=rh.ob i _ _ e q;exact⟨_,vs,rfl,.inr ⟨o,h1,f.ok rh (Zq0 h1 s (rh.ks _ _ e))⟩⟩
  . exact f.elim
 |_=>exact f.elim
theorem Zo6{d:D}{x:V}{w:Wk}{R:It->Hp->Prop}(hY:Y.K=X.K)(rh:RH Y H B h)(r:RD Y H B d x)(e:Zar d h=Wu w)(q:∀J,WJ Y H B w J->R J H):rW X.K x H R:=by
 cases d with
 |tup xs=>cases e;obtain⟨a,vs,rfl,t,s⟩:=r.tup_inv;exact .inr (.inl ⟨a,rfl,⟨vs,hY ▸ t⟩,q _ (Zrv hY rh t s)⟩)
 |ro xs=>
  cases e;cases r with
  |ro t s=>exact .inl ⟨_,rfl,⟨_,hY ▸ t.sq⟩,q _ (ZqZ hY rh t s)⟩
 |ref i=>
  unfold Zar at e;simp only at e;split at e
  . rename_i xs he;cases e;obtain⟨a,vs,rfl,hi,hl,s⟩:=r.lst rh he;exact .inl ⟨a,rfl,⟨vs,.of hl⟩,q _ (ZmN hi)⟩
  . cases e
 |str y=>
  unfold Zar at e;simp only at e;split at e
  . cases e;obtain⟨rfl,ok⟩:=r.str_inv;exact .inr (.inr ⟨y,rfl,q _ (Zrw ok)⟩)
  . cases e
 |_=>cases e
end
end IV
end
section
namespace IV
open PySem PySem.Spec PyProof.Rows L2
structure Kl where
 cs:List Str
 ats:List Str
 ms:List (Str×Str)
 is:List Str
 xs:List Str:=[]
structure Gm where
 N:List Str
 sc:Scope
 fs:List Str
 top:Bool
 kl:Kl
noncomputable def glb(Γ:Gm)(x:Str):Bool:=Wy (Γ.sc.names.lookup x=Wu .globalImplicit)&&!(x==("__debug__" : Str))
noncomputable def Zo8(sc:Scope)(x:Str):Bool:=Wy (sc.names.lookup x=Wu .local) || Wy (sc.names.lookup x=Wu .cell) || Wy (sc.names.lookup x=Wu .free)
noncomputable def ZoQ:Bf->Str
 |.len => "len" |.isi => "isinstance" |.int => "int" |.tup => "tuple" |.lst => "list" |.sum => "sum" |.all => "all" |.srt => "sorted" |.mx => "max"
noncomputable def bok:Bf->Bool
 |.mx=>Wx
 |.lst=>Wx
 |.int=>Wx
 |.all=>Wx
 |_=>Ww
noncomputable def Zrc:Mf->Str
 |.app => "append" |.ext => "extend" |.pop => "pop" |.rev => "reverse" |.clr => "clear"
noncomputable def ZkY:List String:=["int", "str", "bool", "tuple", "list"]
noncomputable def asName:Expr->Option Str
 |.Name x _=>Wu x
 |_=>Wv
noncomputable def ZoV:Expr->Option (List Expr)
 |.Tuple es _ _=>Wu es
 |_=>Wv
noncomputable def Zrs:Expr->Option Const
 |.Constant c _ _=>Wu c
 |_=>Wv
theorem Zd2{e:Expr}{x:Str}(h:asName e=Wu x):∃p,e=.Name x p:=by
 cases e with
 |Name y p=>cases h;exact⟨p,rfl⟩
 |_=>cases h
theorem Zhc{e:Expr}{es:List Expr}(h:ZoV e=Wu es):∃k p,e=.Tuple es k p:=by
 cases e with
 |Tuple es k p=>cases h;exact⟨k,p,rfl⟩
 |_=>cases h
theorem Zhd{e:Expr}{c:Const}(h:Zrs e=Wu c):∃k p,e=.Constant c k p:=by
 cases e with
 |Constant c k p=>cases h;exact⟨k,p,rfl⟩
 |_=>cases h
noncomputable def Zu4:D->Const->Bool
 |.int i,.int j=>Wy (i=j)
 |.str x,.str y=>Wy (x=y)&&Yp y
 |.bl b,.bool c=>Wy (b=c)
 |.non,.none=>Ww
 |_,_=>Wx
noncomputable def ZmE(Γ:Gm)(d:D)(e:Expr):Bool:=match Zrs e with
 |some c=>Zu4 d c
 |none=>match d with
  |.ty n=>match asName e with
   |some x=>Wy (n∈ZkY)&&Wy (Str.ofString n=x)&&glb Γ x
   |none=>Wx
  |_=>Wx
noncomputable def ZoI(NC N:List Str)(js:List (Option Nat))(sc scope:Scope):Bool:=
 Wy (scope.kind=.function)&&Wy (sc.kind=.function)&&(scope.names.all fun y=>Wy (y.2≠.cell))&&(scope.names.all fun y=>!Wy (y.2=.local) || Wy (scope.names.lookup y.1=Wu .local)) &&
  (scope.names.all fun y=>!Wy (y.2=.free) || Wy (sc.names.lookup y.1=Wu .cell))&&decide NC.Nodup&&Wy (js.length=NC.length) &&
  ((NC.zip js).all fun p=>p.2.all fun j=>Wy (N[j]? = Wu p.1)&&Wy (scope.names.lookup p.1=Wu .free))
theorem Zjd{NC N:List Str}{js:List (Option Nat)}{sc scope:Scope}(h:ZoI NC N js sc scope=Ww):CompSc NC N js sc scope:=by
 unfold ZoI at h;rw[Oa,Oa,Oa,Oa,Oa,Oa,Oa]at h;obtain⟨⟨⟨⟨⟨⟨⟨a,b⟩,c⟩,d⟩,e⟩,f⟩,g⟩,i⟩:=h;rw[OC]at c d e;refine⟨of_decide_eq_true a,of_decide_eq_true b,fun y hy=>of_decide_eq_true (c y hy),fun y hy e1=>?_,fun y hy e1=>?_,of_decide_eq_true f,of_decide_eq_true g,i⟩
 . have:=d y hy;rw[decide_eq_true e1]at this;simpa using this
 . have:=e y hy;rw[decide_eq_true e1]at this;simpa using this
noncomputable def ZiE(N:List Str)(own:Str->Bool)(i:Nat)(e:Expr):Bool:=match asName e with
 |some x=>Wy (N[i]? = Wu x)&&own x
 |none=>Wx
noncomputable def Zev(N:List Str)(own:Str->Bool):List Nat->List Expr->Bool
 |[],[]=>Ww
 |i::is,e::es=>ZiE N own i e&&Zev N own is es
 |_,_=>Wx
noncomputable def ZoK(N:List Str)(own:Str->Bool)(i j:Nat)(e:Expr):Bool:=match ZoV e with
 |some [a,b]=>ZiE N own i a&&ZiE N own j b
 |_=>Wx
noncomputable def ZoJ(N:List Str)(own:Str->Bool)(is:List Nat)(e:Expr):Bool:=match ZoV e with
 |some es=>Zev N own is es
 |none=>Wx
noncomputable def ZkC(N:List Str)(own:Str->Bool)(g:Tg)(e:Expr):Bool:=match g with
 |.nm i=>ZiE N own i e
 |.two i j=>ZoK N own i j e
 |.many is=>ZoJ N own is e
theorem Za1{N:List Str}{own:Str->Bool}{i:Nat}{e:Expr}(h:ZiE N own i e=Ww):∃x p,e=.Name x p/\N[i]? = Wu x/\own x=Ww:=by
 unfold ZiE at h;cases q:asName e with
 |none=>rw[q]at h;cases h
 |some x=>rw[q]at h;rw[Oa]at h;obtain⟨p,rfl⟩:=Zd2 q;exact⟨x,p,rfl,of_decide_eq_true h.1,h.2⟩
theorem Zhh{N:List Str}{own:Str->Bool}{i j:Nat}{e:Expr}(h:ZkC N own (.two i j) e=Ww):∃x p y q k r,e=.Tuple [.Name x p,.Name y q] k r/\(N[i]? = Wu x/\own x=Ww)/\N[j]? = Wu y/\own y=Ww:=by
 replace h:ZoK N own i j e=Ww:=h
 unfold ZoK at h;split at h
 . rename_i a b q;rw[Oa]at h;obtain⟨k,r,rfl⟩:=Zhc q;obtain⟨x,p,rfl,e1⟩:=Za1 h.1;obtain⟨y,p2,rfl,e2⟩:=Za1 h.2;exact⟨x,p,y,p2,k,r,rfl,e1,e2⟩
 . cases h
theorem Zf1{N:List Str}{own:Str->Bool}{is:List Nat}{e:Expr}(h:ZkC N own (.many is) e=Ww):∃es k r,e=.Tuple es k r/\Zev N own is es=Ww:=by
 replace h:ZoJ N own is e=Ww:=h
 unfold ZoJ at h;split at h
 . rename_i es q;obtain⟨k,r,rfl⟩:=Zhc q;exact⟨es,k,r,rfl,h⟩
 . cases h
noncomputable def isTup:Expr->Bool
 |.Tuple _ _ _=>Ww
 |_=>Wx
noncomputable def tgk:Tg->Nat
 |.nm i=>i+1
 |.two i j=>max i j+1
 |.many is=>is.foldr max 0+1
noncomputable def ZvZ(sc:Scope)(x:Str):Bool:=Wy (sc.names.lookup x=Wu .local)
noncomputable def ownD(sc:Scope)(x:Str):Bool:=Wy (sc.names.lookup x=Wu .local) || Wy (sc.names.lookup x=Wu .cell)
noncomputable def ZeG:Expr->Bool
 |.Set _ _ _=>Wx
 |_=>Ww
noncomputable def Zf0:Expr->Bool
 |.Slice _ _ _ _=>Wx
 |_=>Ww
noncomputable def Z7:Expr->Bool
 |.Starred _ _=>Wx
 |_=>Ww
noncomputable def ZcX:Expr->Bool
 |.Call _ [] _ _=>Wx
 |_=>Ww
noncomputable def ZjP:Expr->Bool
 |.BoolOp _ _ _|.UnaryOp _ _ _|.IfExp _ _ _ _|.NamedExpr _ _ _=>Wx
 |_=>Ww
mutual
noncomputable def chk(Γ:Gm):Ex->Expr->Bool
 |.var i,e=>match e with
  |.Name x _=>Wy (Γ.N[i]? = Wu x)&&Zo8 Γ.sc x&&!(x==("__debug__" : Str))&&!(x==("__classdict__" : Str))
  |_=>Wx
 |.cst d,e=>ZmE Γ d e
 |.glo x,e=>match e with
  |.Name y _=>Wy (x=y)&&glb Γ x
  |_=>Wx
 |.bin op a b,e=>match e with
  |.BinOp l op' r _=>Wy (op=op')&&chk Γ a l&&chk Γ b r
  |_=>Wx
 |.cmp op a b,e=>match e with
  |.Compare l [op'] [r] _=>Wy (op=op')&&chk Γ a l&&chk Γ b r&&ZeG r
  |_=>Wx
 |.cmp2 _ _ _ _ _,_=>Wx
 |.neg a,e=>match e with
  |.UnaryOp .USub x _=>chk Γ a x
  |_=>Wx
 |.nt a,e=>match e with
  |.UnaryOp .Not x _=>chk Γ a x
  |_=>Wx
 |.ands es,e=>match e with
  |.BoolOp .And xs _=>chks Γ es xs
  |_=>Wx
 |.ors es,e=>match e with
  |.BoolOp .Or xs _=>chks Γ es xs
  |_=>Wx
 |.ite c a b,e=>match e with
  |.IfExp t x y _=>chkt Γ c t&&chk Γ a x&&chk Γ b y
  |_=>Wx
 |.tupl es,e=>match e with
  |.Tuple xs _ _=>chks Γ es xs
  |_=>Wx
 |.lstl es,e=>match e with
  |.List xs _=>chks Γ es xs
  |_=>Wx
 |.ix a i,e=>match e with
  |.Subscript x y _=>chk Γ a x&&chk Γ i y&&Zf0 y
  |_=>Wx
 |.sl a lo hi,e=>match e with
  |.Subscript x (.Slice l u Wv _) _=>chk Γ a x&&chko Γ lo l&&chko Γ hi u
  |_=>Wx
 |.blt f es,e=>match e with
  |.Call (.Name x _) (y::ys) [] _=>Wy (x=ZoQ f)&&(bok f&&glb Γ x)&&chks Γ es (y::ys)
  |_=>Wx
 |.call f es,e=>match e with
  |.Call (.Name x _) (y::ys) [] _=>Wy (x=f)&&Wy (f∈Γ.fs)&&glb Γ x&&chks Γ es (y::ys)
  |_=>Wx
 |.meth m o es,e=>match e with
  |.Call (.Attribute x n ap) ys [] cp=>Wy (n=Zrc m)&&chk Γ o x&&ZcX x&&chks Γ es ys&&Wy (ys.length<29)&&(ap.endLine==cp.line)
  |_=>Wx
 |.trev _,_=>Wx
 |.lrv _,_=>Wx
 |.tix _ _,_=>Wx
 |.lix _ _,_=>Wx
 |.lin _ _,_=>Wx
 |.comp NC js it g c e,x=>match x with
  |.ListComp elt [⟨tg,iter,ifs,0⟩] scope _=>Γ.top&&ZoI NC Γ.N js Γ.sc scope&&chki Γ it tg iter&&ZeG iter&&ZkC NC (ZvZ scope) g tg&&((List.range (tgk g)).all fun j=>Wy (js[j]? = Wu Wv)) &&
   chkf ⟨NC,scope,Γ.fs,Wx,Γ.kl⟩ c ifs&&chk ⟨NC,scope,Γ.fs,Wx,Γ.kl⟩ e elt
  |_=>Wx
 |.sorts _,_=>Wx
 |.maxd a d,e=>match e with
  |.Call (.Name x _) [y] [⟨Wu n,z,_⟩] _=>Wy (x = "max")&&Wy (n = "default")&&glb Γ x&&chk Γ a y&&Z7 y&&chk Γ d z
  |_=>Wx
 |.dictl ps,e=>match e with
  |.Dict keys values _=>Wy (keys.length<=15)&&chkp Γ ps keys values
  |_=>Wx
 |.att Cs o f,e=>match e with
  |.Attribute x n _=>Wy (n=f)&&chk Γ o x&&ZcX x&&(Cs.all fun C=>Wy (C∈Γ.kl.cs))&&Wy (f∈Γ.kl.ats)
  |_=>Wx
 |.mk C es,e=>match e with
  |.Call (.Name x _) ys [] _=>Wy (x=C)&&Wy (C∈Γ.kl.is)&&glb Γ x&&chks Γ es ys
  |_=>Wx
 |.mcl C m o es,e=>match e with
  |.Call (.Attribute x n ap) ys [] cp=>Wy (n=m)&&chk Γ o x&&ZcX x&&chks Γ es ys&&Wy ((C,m)∈Γ.kl.ms)&&Wy (ys.length<29)&&(ap.endLine==cp.line)
  |_=>Wx
 |.any,e=>match e with
  |.Compare _ _ _ _=>Wx
  |_=>Ww
noncomputable def chks(Γ:Gm):Exs->List Expr->Bool
 |.nil,es=>es.isEmpty
 |.cons e r,es=>match es with
  |x::xs=>chk Γ e x&&Z7 x&&chks Γ r xs
  |[]=>Wx
noncomputable def chkp(Γ:Gm):Exs->List (Option Expr)->List Expr->Bool
 |.nil,ks,vs=>ks.isEmpty&&vs.isEmpty
 |.cons k r,ks,vs=>match r with
  |.cons v r'=>match ks,vs with
   |some kx::ks,vx::vs=>chk Γ k kx&&chk Γ v vx&&chkp Γ r' ks vs
   |_,_=>Wx
  |.nil=>Wx
noncomputable def chko(Γ:Gm):Option Ex->Option Expr->Bool
 |none,x=>x.isNone
 |some a,x=>match x with
  |some x=>chk Γ a x
  |none=>Wx
noncomputable def chkf(Γ:Gm):Option Tx->List Expr->Bool
 |none,x=>x.isEmpty
 |some a,x=>match x with
  |[x]=>chkt Γ a x
  |_=>Wx
noncomputable def chkt(Γ:Gm):Tx->Expr->Bool
 |.ex e,x=>ZjP x&&chk Γ e x
 |.ands ts,x=>match x with
  |.BoolOp .And xs _=>chkts Γ ts xs
  |_=>Wx
 |.ors ts,x=>match x with
  |.BoolOp .Or xs _=>chkts Γ ts xs
  |_=>Wx
 |.nt t,x=>match x with
  |.UnaryOp .Not y _=>chkt Γ t y
  |_=>Wx
noncomputable def chkts(Γ:Gm):Txs->List Expr->Bool
 |.one t,xs=>match xs with
  |[x]=>chkt Γ t x
  |_=>Wx
 |.cons t ts,xs=>match xs with
  |x::y::r=>chkt Γ t x&&chkts Γ ts (y::r)
  |_=>Wx
noncomputable def chki(Γ:Gm):Ix->Expr->Expr->Bool
 |.pl e,_,x=>chk Γ e x
 |.rng e,_,x=>match x with
  |.Call (.Name f _) [y] [] _=>Wy (f = "range")&&glb Γ f&&chk Γ e y&&Z7 y
  |_=>Wx
 |.rng2 _ _,_,_=>Wx
 |.enu e,tg,x=>match x with
  |.Call (.Name f _) [y] [] _=>Wy (f = "enumerate")&&glb Γ f&&chk Γ e y&&Z7 y&&isTup tg
  |_=>Wx
 |.rev e,_,x=>match x with
  |.Call (.Name f _) [y] [] _=>Wy (f = "reversed")&&glb Γ f&&chk Γ e y&&Z7 y
  |_=>Wx
 |.en1 e,tg,x=>match x with
  |.Call (.Name f _) [y] [⟨Wu kw,.Constant (.int 1) _ _,_⟩] _=>Wy (f = "enumerate")&&Wy (kw = "start")&&glb Γ f&&chk Γ e y&&Z7 y&&isTup tg
  |_=>Wx
 |.en0 _,_,_=>Wx
 |.dk e,_,x=>chk Γ e x
end
end IV
end
section
namespace IV
open PySem PySem.Spec PyProof.Rows L2
def leS(a b:Str):Prop:=¬ b.cps.toList<a.cps.toList
theorem ZgZ{a b c:Str}(h:leS a b)(q:leS b c):leS a c:=by unfold leS at *;rw[List.not_lt]at *;exact List.le_trans h q
theorem Zn1{a b:Str}(h:leS a b)(q:leS b a):a=b:=by unfold leS at *;rw[List.not_lt]at *;have e:=List.le_antisymm h q;obtain⟨⟨a⟩⟩:=a;obtain⟨⟨b⟩⟩:=b;simp at e;subst e;rfl
theorem Zii:∀{ss:List Str},sortedS ss=Ww->ss.Pairwise leS:=by
 have gen:∀(r:List Str) (p:Str),risingS p r=Ww->(∀x∈r,leS p x)/\r.Pairwise leS:=by
  intro r;induction r with
  |nil=>intro p _;exact⟨by simp,.nil⟩
  |cons x r ih=>
   intro p h;rw[risingS,Oa]at h;obtain⟨h1,h2⟩:=ih x h.2;have hx:leS p x:=by have:=h.1;rw[ltCps_eq]at this;unfold leS;simpa using this
   refine⟨fun y hy=>?_,.cons h1 h2⟩;rcases O2.mp hy with rfl|hy
   . exact hx
   . exact ZgZ hx (h1 y hy)
 intro ss h;cases ss with
 |nil=>exact .nil
 |cons x r=>obtain⟨h1,h2⟩:=gen r x h;exact .cons h1 h2
theorem ZfU(x:Str):∀r:List Str,(Zl2 x r).Perm (x::r)
 |[]=>.refl _
 |y::r=>by
  unfold Zl2;split
  . exact((ZfU x r).cons y).trans (.swap x y r)
  . exact .refl _
theorem Zdq:∀r:List Str,(Zcc r).Perm r
 |[]=>.refl _
 |x::r=>(ZfU x _).trans ((Zdq r).cons x)
theorem Zix(x:Str):∀r:List Str,r.Pairwise leS->(Zl2 x r).Pairwise leS
 |[],_=>.cons (by simp) .nil
 |y::r,h=>by
  cases h with
  |cons h1 h2=>
   unfold Zl2;split
   . rename_i hlt;rw[ltCps_eq]at hlt;have hlt:=of_decide_eq_true hlt;refine .cons (fun z hz=>?_) (Zix x r h2);rcases O2.mp ((ZfU x r).mem_iff.mp hz)with rfl|hz
     . unfold leS;rw[List.not_lt];exact List.le_of_lt hlt
     . exact h1 z hz
   . rename_i hlt;have hxy:leS x y:=by unfold leS;rw[ltCps_eq]at hlt;simpa using hlt
     refine .cons (fun z hz=>?_) (.cons h1 h2);rcases O2.mp hz with rfl|hz
     . exact hxy
     . exact ZgZ hxy (h1 z hz)
theorem ZgK:∀r:List Str,(Zcc r).Pairwise leS
 |[]=>.nil
 |x::r=>Zix x _ (ZgK r)
theorem ZlU{ss ss':List Str}(hp:ss'.Perm ss)(hs:sortedS ss'=Ww):ss'=Zcc ss:=(hp.trans (Zdq ss).symm).eq_of_pairwise (fun _ _ _ _ h q=>Zn1 h q) (Zii hs) (ZgK ss)
section
variable {X:Cx}{Y:Yx}{E:XK}{T:Tb}{H:Hp}{B:List Yi}{h:Hd}
theorem Ze5:∀{ds:List (Key×D)}{vs:List (Key×V)}{ss:List Str},RKs Y H B ds vs->Zdu ds=Wu ss->vs.map (·.1)=ss.map YE
 |_,_,_,.nil,e=>by cases e;rfl
 |_,_,_,.cons (k:=k) a s,e=>by
  cases k with
  |inl i=>cases e
  |inr x=>rw[Zdu]at e;obtain⟨z,e1,rfl⟩:=Oo.mp e;rw[Op,Op,Ze5 s e1]
theorem Zk3:∀(ss:List Str),(∀x∈ss,Yp x=Ww)->RDs Y H B (ss.map D.str) (ss.map V.str)
 |[],_=>.nil
 |x::r,h=>.cons (.str x (h x (by simp))) (Zk3 r fun y hy=>h y (by simp[hy]))
theorem ZqQ(hc:X.A.handled=Wv)(G:Gk X Y T):Zcr X (.builtin "sorted") (rF Y E (Zey T.GD)):=by
 intro pins s Z H xs us Q I r hh;obtain⟨ds,h,B,rh,rs,f⟩:=hh;unfold Zey at f;split at f
 . split at f
   . rename_i ss e2;obtain⟨hz,f⟩:=f.iff;obtain⟨kvs,e3,e4⟩:=Option.bind_eq_some_iff.mp e2;obtain⟨x,rfl,r1⟩:=rs.one;obtain⟨a,kvs',rfl,hd,rk⟩:=r1.dicOf G rh e3;obtain⟨hz,hok⟩:=hz;refine ZhW hc pins s Z H _ us Q I r ⟨a,kvs',ss,rfl,hd,Ze5 rk e4,hz,fun p ss' hp h1 h2=>?_⟩;rw[ZlU h1 h2];refine f.new rh hp ⟨_,Zi,Zk3 _ fun y hy=>?_⟩;rw[OC]at hok;exact hok y ((Zdq ss).mem_iff.mp hy)
   . exact f.elim
 . exact f.elim
end
end IV
end
section
set_option tactic.hygienic false
namespace IV
open PySem PySem.Spec PyProof.Rows L2
def RS(Y:Yx)(H:Hp)(B:List Yi)(S:Ev)(Z:L2.St):Prop:=Z.length=S.length/\∀(i:Nat) (d:D),S[i]? = Wu (Wu d)->∃v,Z[i]? = Wu (Wu v)/\RD Y H B d v
section
variable {Y:Yx}{H H':Hp}{B μ':List Yi}{h:Hd}{S:Ev}{Z:L2.St}
theorem RS.mono(rh:RH Y H B h)(g:Gr H B H' μ')(r:RS Y H B S Z):RS Y H' μ' S Z:=⟨r.1,fun i d e=>let ⟨v,h1,h2⟩:=r.2 i d e;⟨v,h1,h2.mono rh g⟩⟩
theorem RS.var(r:RS Y H B S Z){i:Nat}{d:D}(e:(S[i]?).join=Wu d):∃v,Z[i]? = Wu (Wu v)/\RD Y H B d v:=by
 refine r.2 i d ?_;cases q:S[i]? with
 |none=>rw[q]at e;cases e
 |some o=>rw[q]at e;cases o with
  |none=>cases e
  |some d'=>cases e;rfl
theorem RS.set(r:RS Y H B S Z){i:Nat}{d:D}{v:V}(q:RD Y H B d v):RS Y H B (S.set i (Wu d)) (Z.set i (Wu v)):=by
 refine⟨by simp[r.1],fun j e he=>?_⟩;by_cases hj:i=j
 . subst hj;have hl:i<S.length:=by have:=(Ob.mp he).1;simpa using this
   rw[Ol hl]at he;cases he;exact⟨v,by rw[Ol (by rw[r.1];exact hl)],q⟩
 . rw[Oc hj]at he;obtain⟨w,h1,h2⟩:=r.2 j e he;exact⟨w,by rw[Oc hj];exact h1,h2⟩
theorem RS.capt(r:RS Y H B S Z)(js:List (Option Nat)):RS Y H B (Zbq js S) (capt js Z):=by
 refine⟨by simp[Zbq,L2.capt],fun i d e=>?_⟩;unfold Zbq at e;unfold L2.capt;rw[On]at e ⊢;cases q:js[i]? with
 |none=>rw[q]at e;cases e
 |some o=>
  rw[q]at e;cases o with
  |none=>cases e
  |some j=>
   have e':(S[j]?).join=Wu d:=by simpa using e
   obtain⟨v,h1,h2⟩:=r.var e';exact⟨v,by simp[h1],h2⟩
end
section
variable (T:Tb) (Y:Yx) (E:XK)
noncomputable def ZbO(e:Ex):TE:=fun Z H Q=>∃S h B,RH Y H B h/\RS Y H B S Z/\Fin Y (RD Y) H B (ev T e S h) Q E
noncomputable def Zpn(e:Exs):TA:=fun Z H Q=>∃S h B,RH Y H B h/\RS Y H B S Z/\Fin Y (RDs Y) H B (evs T e S h) Q E
noncomputable def Zm7(e:Tx):TT:=fun Z H Q=>∃S h B,RH Y H B h/\RS Y H B S Z/\Fin Y (fun _ _ (a b:Bool)=>a=b) H B (tst T e S h) Q E
noncomputable def ZvH(e:Option Ex):TO:=fun Z H Q=>∃S h B,RH Y H B h/\RS Y H B S Z/\Fin Y (fun _ _ (a b:Option Int)=>a=b) H B (evo T e S h) Q E
noncomputable def ZvI(e:Ix):TI:=fun Z H Q=>∃S h B,RH Y H B h/\RS Y H B S Z/\Fin Y (WJ Y) H B (evi T e S h) Q E
noncomputable def Zfa(f:Str):Sp:=fun vs H Q E=>∃ds h B,RH Y H B h/\RDs Y H B ds vs/\Fin Y (RD Y) H B (T.C f ds h) Q E
end
structure Gd(T:Tb)(Γ:Gm)(X:Cx)(Y:Yx)(E:XK)(k:Nat):Prop where
 gk:Gk X Y T
 N:X.N=Γ.N
 sc:Γ.top=Ww->X.env.scope=Γ.sc
 vis:∀x,Zo8 Γ.sc x=Ww->Vis X.env.scope x
 glo:∀x,Γ.sc.names.lookup x=Wu .globalImplicit->Gl X x
 nd:X.N.Nodup
 calm:X.calm=Ww
 room:Room k X.A
 h60:60<=k
 pass:ZbM (CXF X.prog X.w) X E
 defs:∀f∈Γ.fs,∃ps,Def X.prog X.w X.K X.mg X.base k f ps (Zfa T Y f)
 blt:∀x∈(["len", "isinstance", "int", "tuple", "list", "sum", "all", "sorted", "range", "enumerate", "reversed", "str", "bool", "max"]:List Str),X.mg x=Wv
 room1:Room (k+1) X.A
 cls:∀C∈Γ.kl.cs,∃a,X.mg C=Wu (.ref a)/\Cls X.K a/\∀f∈Γ.kl.ats,ZaQ X.K a f
 mts:∀p∈Γ.kl.ms,∃a f fd ps,X.mg p.1=Wu (.ref a)/\Cls X.K a/\Meth X.K a p.2 f/\FnOk X.prog X.w X.K X.mg X.base (CXF X.prog X.w) k f fd ps (Zfa T Y (mnm p.1 p.2))/\Binds X.K fd ps []
 mks:∀C∈Γ.kl.is,∃a f fd ps,X.mg C=Wu (.ref a)/\Mk X.K a f/\FnOk X.prog X.w X.K X.mg X.base (CXF X.prog X.w) k f fd ps (Zfa T Y (mnm C (O "__init__")))/\Binds X.K fd ps []
theorem _root_.L2.PE.imp{X:Cx}{e:Expr}{t t':TE}(h:PE X e t)(i:∀Z H Q,t' Z H Q->t Z H Q):PE X e t':=fun pins s Z H Q I q=>h pins s Z H Q I (i Z H Q q)
theorem _root_.L2.PT.imp{X:Cx}{e:Expr}{t t':TT}(h:PT X e t)(i:∀Z H Q,t' Z H Q->t Z H Q):PT X e t':=fun pins s Z H Q I q=>h pins s Z H Q I (i Z H Q q)
theorem _root_.L2.PW.imp{X:Cx}{e:Expr}{t t':TT}(h:PW X e t)(i:∀Z H Q,t' Z H Q->t Z H Q):PW X e t':=fun w pins s Z H Q I q=>h w pins s Z H Q I (i Z H Q q)
theorem _root_.L2.PA.imp{X:Cx}{e:List Expr}{t t':TA}(h:PA X e t)(i:∀Z H Q,t' Z H Q->t Z H Q):PA X e t':=fun p pins s Z H Q I q=>h p pins s Z H Q I (i Z H Q q)
theorem _root_.L2.PO.imp{X:Cx}{e:Option Expr}{t t':TO}(h:PO X e t)(i:∀Z H Q,t' Z H Q->t Z H Q):PO X e t':=fun pins s Z H Q I q=>h pins s Z H Q I (i Z H Q q)
theorem _root_.L2.PI.imp{X:Cx}{tg:Expr}{e:Expr}{t t':TI}(h:PI X tg e t)(i:∀Z H Q,t' Z H Q->t Z H Q):PI X tg e t':=fun pins s Z H Q I q=>h pins s Z H Q I (i Z H Q q)
theorem Zo{x:Expr}{xs:List Expr}(env:Env)(h:Z7 x=Ww):YA (x::xs) env=(Wx,eval x env)::YA xs env:=by cases x<;>first|rfl|cases h
theorem ZjB{x:Expr}(env:Env)(h:ZeG x=Ww):∀v,foldedSetIterable x env v=pure v:=by cases x<;>first|(intro _;rfl)|cases h
theorem Zll{x:Expr}{op:CmpOp}(h:ZeG x=Ww):behindInMarks op x=Wx:=by cases x<;>first|rfl|cases h
theorem Zm2{x:Expr}(h:Zf0 x=Ww):ZlJ x:=by cases x<;>first|(intro _ _;rfl)|cases h
theorem Zfp{x:Expr}{n:Str}{env:Env}(h:ZcX x=Ww):attributeBase x n env (eval x env)=eval x env:=by
 cases x with
 |Call f as ks p=>
  cases as with
  |nil=>cases h
  |cons a as=>cases f<;>rfl
 |_=>rfl
theorem Znx{x:Expr}{env:Env}(h:ZjP x=Ww)(hc:∀l o r p,x≠.Compare l o r p):∀whole,isTrue x env whole=(do let v <- whole;standAt x.pos;holding [v] (truthy v)):=by cases x<;>first|(intro _;rfl)|exact absurd rfl (hc _ _ _ _)|cases h
theorem Zbv(Γ:Gm)(env:Env):∀(es:Exs) (xs:List Expr),chks Γ es xs=Ww->∀pos,(YS pos (YA xs env)).any (·.1)=Wx
 |.nil,xs,h,pos=>by
  rw[chks]at h;cases xs with
  |nil=>rfl
  |cons a b=>cases h
 |.cons e r,xs,h,pos=>by
  cases xs with
  |nil=>rw[chks]at h;cases h
  |cons x xs=>rw[chks,Oa,Oa]at h;rw[Zo env h.1.2];have:=Zbv Γ env r xs h.2 pos;show((Wx,_)::YS pos (YA xs env)).any (·.1)=Wx;rw[We,this];rfl
theorem ZeD(Γ:Gm)(env:Env):∀(es:Exs) (xs:List Expr),chks Γ es xs=Ww->∀pos,(YS pos (YA xs env)).all (fun x=>!x.1)=Ww
 |.nil,xs,h,pos=>by
  rw[chks]at h;cases xs with
  |nil=>rfl
  |cons a b=>cases h
 |.cons e r,xs,h,pos=>by
  cases xs with
  |nil=>rw[chks]at h;cases h
  |cons x xs=>rw[chks,Oa,Oa]at h;rw[Zo env h.1.2];have:=ZeD Γ env r xs h.2 pos;show((Wx,_)::YS pos (YA xs env)).all (fun x=>!x.1)=Ww;rw[List.all_cons,this];rfl
theorem Gd.gl{T:Tb}{Γ:Gm}{X:Cx}{Y:Yx}{E:XK}{k:Nat}(G:Gd T Γ X Y E k){x:Str}(h:glb Γ x=Ww):Gl X x/\(x==("__debug__" : Str))=Wx:=by unfold glb at h;rw[Oa]at h;exact⟨G.glo x (of_decide_eq_true h.1),by simpa using h.2⟩
theorem Zf2{f:Str->NameKind->NameKind}(x:Str):∀names:List (Str×NameKind),(names.map fun p=>(p.1,f p.1 p.2)).lookup x=(names.lookup x).map (f x)
 |[]=>rfl
 |(n,k)::r=>by
  rw[Op,OF,OF];by_cases e:x=n
  . subst e;simp
  . have:(x==n)=Wx:=by simpa using e
    simp only[this];exact Zf2 x r
theorem ZaF(scope:Scope)(env:Env)(x:Str):(relabel scope env).names.lookup x=(scope.names.lookup x).map fun k=>if (k==Yo&&env.scope.kind==.function&&env.kindOf x==Wu .cell)then NameKind.cell else k:=by
 have e:(relabel scope env).names=scope.names.map fun p=>(p.1,(fun(n:Str) (k:NameKind)=>if (k==Yo&&env.scope.kind==.function&&env.kindOf n==Wu .cell)then NameKind.cell else k) p.1 p.2):=by unfold relabel;simp only;refine List.map_congr_left fun p _=>?_;obtain⟨n,k⟩:=p;simp only;split<;>rfl
 rw[e];exact Zf2 (f:=fun(n:Str) (k:NameKind)=>if (k==Yo&&env.scope.kind==.function&&env.kindOf n==Wu .cell)then NameKind.cell else k) x scope.names
theorem Gd.comp{T:Tb}{Γ:Gm}{X:Cx}{Y:Yx}{E:XK}{k:Nat}(G:Gd T Γ X Y E k)(NC:List Str)(scope:Scope)(C:Yi)(s3:Yb)(H3:Hp)(fp:List Yi)(nd:NC.Nodup):Gd T ⟨NC,scope,Γ.fs,Wx,Γ.kl⟩ (ZK X NC scope C s3 H3 fp) Y E0 k:=by
 refine⟨⟨G.gk.K,G.gk.mg,G.gk.gd,G.gk.g,G.gk.bare⟩,rfl,(fun h=>by cases h),fun x hx=>?_,fun x hx=>?_,nd,rfl,G.room,G.h60,ZgU,G.defs,G.blt,G.room1,G.cls,G.mts,G.mks⟩
 . show Vis (relabel scope X.env) x;unfold Vis;rw[ZaF];unfold Zo8 at hx;rw[Ws,Ws]at hx;rcases hx with (hx|hx)|hx
   . rw[of_decide_eq_true hx];exact .inl rfl
   . rw[of_decide_eq_true hx];exact .inr (.inl rfl)
   . rw[of_decide_eq_true hx];by_cases q:(X.env.scope.kind==.function&&X.env.kindOf x==Wu .cell)=Ww
     . refine .inr (.inl ?_);have:(Yo==Yo&&X.env.scope.kind==.function&&X.env.kindOf x==Wu .cell)=Ww:=by simpa using q
       simp only[Yv,this,if_true]
     . refine .inr (.inr ?_);have:¬ ((Yo==Yo&&X.env.scope.kind==.function&&X.env.kindOf x==Wu .cell)=Ww):=by simpa using q
       simp only[Yv,this,if_false];rfl
 . show(relabel scope X.env).names.lookup x=Wu .globalImplicit;rw[ZaF,hx];rfl
section
variable {T:Tb}{Y:Yx}{E:XK}{Z:L2.St}{H:Hp}{Q:VK}
theorem Zpo{a b:Ex}{f:D->D->Hd->R D}{S:Ev}{h:Hd}{B:List Yi}(rh:RH Y H B h)(rs:RS Y H B S Z)(q:Fin Y (RD Y) H B ((ev T a S h).bind fun x h1=>(ev T b S h1).bind fun y h2=>f x y h2) Q E):
 ZbO T Y E a Z H fun x H1=>ZbO T Y E b Z H1 fun y H2=>rB Y E f x y H2 Q:=
 ⟨S,h,B,rh,rs,q.bind fun d h1 x H1 μ1 _ g rh1 rd f1=>⟨S,h1,μ1,rh1,rs.mono rh g,f1.bind fun e h2 y H2 μ2 _ g2 rh2 re f2=>⟨d,e,h2,μ2,rh2,rd.mono rh1 g2,re,f2⟩⟩⟩
end
theorem Ztc{T:Tb}{Γ:Gm}{X:Cx}{Y:Yx}{E:XK}{k:Nat}(G:Gd T Γ X Y E k)(f:Bf)(hb:bok f=Ww){e:Expr}{es:List Expr}{t:TA}{p pos:Pos}(hg:Gl X (ZoQ f))(ha:PA X (e::es) t)
 (he:YA (e::es) X.env=(Wx,eval e X.env)::YA es X.env) (hpl:(YS pos (YA es X.env)).any (·.1)=Wx):PE X (.Call (.Name (ZoQ f) p) (e::es) [] pos) (tCB (rF Y E (Zbl T.GD f)) t):=by
 have hY:=G.gk.K;cases f with
 |len=>exact Zef (ZqR hY) hg (G.blt _ (by decide)) (by decide +kernel) ha (by decide) (by decide) he hpl
 |isi=>exact Zef (ZqS hY) hg (G.blt _ (by decide)) (by decide +kernel) ha (by decide) (by decide) he hpl
 |int=>cases hb
 |tup=>exact Zma (ZqO hY) hg (G.blt _ (by decide)) (by decide +kernel) ha (by decide) (by decide) he hpl
 |lst=>cases hb
 |sum=>exact Zef (ZqP G.room.hd hY) hg (G.blt _ (by decide)) (by decide +kernel) ha (by decide) (by decide) he hpl
 |all=>cases hb
 |mx=>cases hb
 |srt=>exact Zef (ZqQ G.room.hd G.gk) hg (G.blt _ (by decide)) (by decide +kernel) ha (by decide) (by decide) he hpl
end IV
end
section
namespace IV
open PySem PySem.Spec PyProof.Rows L2
theorem ZoH{T:Tb}{Γ:Gm}{X:Cx}{Y:Yx}{E:XK}{k:Nat}(G:Gd T Γ X Y E k){d:D}{x:Expr}(h:ZmE Γ d x=Ww):PE X x (ZbO T Y E (.cst d)):=by
 have go:∀{v:V},(∀H B,RD Y H B d v)->PE X x (tC v)->PE X x (ZbO T Y E (.cst d)):=fun {v} rd p=>PE.imp p fun Z H Q ⟨S,h,B,rh,rs,f⟩=>Fin.ok (r:=rd H B) (show Fin Y (RD Y) H B (.ok d h) Q E from f) rh;unfold ZmE at h;split at h
 . rename_i c q;obtain⟨k,p,rfl⟩:=Zhd q;unfold Zu4 at h;split at h
   . have e:=of_decide_eq_true h;subst e;exact go (fun _ _=>.int _) ZnF
   . rw[Oa]at h;have e:=of_decide_eq_true h.1;subst e;exact go (fun _ _=>.str _ h.2) Zsh
   . have e:=of_decide_eq_true h;subst e;exact go (fun _ _=>.bl _) Zuj
   . exact go (fun _ _=>.non) ZnC
   . cases h
 . cases d with
   |ty n=>
    simp only at h;cases q:asName x with
    |none=>rw[q]at h;cases h
    |some y=>
     rw[q]at h;rw[Oa,Oa]at h;obtain⟨⟨h1,h2⟩,h3⟩:=h;obtain⟨p,rfl⟩:=Zd2 q;have e:=of_decide_eq_true h2;subst e;obtain⟨g1,g2⟩:=G.gl h3;have hn:=of_decide_eq_true h1;have all:(ZkY.all fun n=>Wy (bootBuiltins (Str.ofString n)=Wu (.type n))&&Wy (Str.ofString n ≠ "__name__")&&Wy (Str.ofString n∈(["len", "isinstance", "int", "tuple", "list", "sum", "all", "sorted", "range", "enumerate", "reversed", "str", "bool", "max"]:List Str)))=Ww:=by decide +kernel
     rw[OC]at all;have a:=all n hn;rw[Oa,Oa]at a;exact go (fun _ _=>.ty _) (ZpW g1 (G.blt _ (of_decide_eq_true a.2)) (of_decide_eq_true a.1.1) rfl (of_decide_eq_true a.1.2) g2)
   |_=>cases h
theorem R.bind_eq{α β:Type}{r:R α}{k:α->Hd->R β}{b:β}{h:Hd}(e:r.bind k=.ok b h):∃a h1,r=.ok a h1/\k a h1=.ok b h:=by
 cases r with
 |bad=>cases e
 |ok a h1=>exact⟨a,h1,rfl,e⟩
 |exc c h1=>cases e
theorem R.bind_assoc{α β γ:Type}{r:R α}{k:α->Hd->R β}{l:β->Hd->R γ}:(r.bind k).bind l=r.bind fun a h=>(k a h).bind l:=by cases r<;>rfl
theorem Zsx{GD:Str->Option (List (Key×D))}{op:CmpOp}{x y r:D}{h h':Hd}(e:opC GD op x y h=.ok r h'):∃b,r=.bl b:=by
 have i2:∀{f:Int->Int->Bool},Zhy f x y h=.ok r h'->∃b,r=.bl b:=fun e=>by
  unfold Zhy at e;split at e
  . cases e;exact⟨_,rfl⟩
  . cases e
 have eq:∀{n:Bool},Zb2 n x y h=.ok r h'->∃b,r=.bl b:=fun e=>by
  unfold IV.Zb2 at e;split at e
  . split at e
    . cases e;exact⟨_,rfl⟩
    . cases e
  . cases e
 have inn:∀{n:Bool},ZbQ GD n x y h=.ok r h'->∃b,r=.bl b:=fun e=>by
  unfold ZbQ at e;split at e
  . split at e
    . cases e;exact⟨_,rfl⟩
    . cases e
  . split at e
    . cases e;exact⟨_,rfl⟩
    . cases e
 have n1:∀{n:Bool},opN n x y h=.ok r h'->∃b,r=.bl b:=fun e=>by
  unfold opN at e;split at e
  . cases e;exact⟨_,rfl⟩
  . cases e
 unfold opC at e;split at e
 . exact eq e
 . exact eq e
 . exact i2 e
 . exact i2 e
 . exact i2 e
 . exact i2 e
 . exact inn e
 . exact inn e
 . exact n1 e
 . exact n1 e
theorem Zuy(m:Mf):Slot "list" (Zrc m) (mid m)/\typeOf (.builtin (mid m))=pure (.type "method_descriptor"):=by
 cases m with
 |app=>exact⟨PySem.F.slot_list_append,PySem.F.type_list_append⟩
 |ext=>exact⟨PySem.F.slot_list_extend,PySem.F.type_list_extend⟩
 |pop=>exact⟨PySem.F.slot_list_pop,PySem.F.type_list_pop⟩
 |rev=>exact⟨PySem.F.slot_list_reverse,PySem.F.type_list_reverse⟩
 |clr=>exact⟨PySem.F.slot_list_clear,PySem.F.type_list_clear⟩
section
variable {Y:Yx}{α β α' β':Type}{rel:Hp->List Yi->α->β->Prop}{rel':Hp->List Yi->α'->β'->Prop}{H0 H H1:Hp}{μ0 B μ1:List Yi}{E:XK}
theorem Fin.bindB{r:R α}{k:α->Hd->R α'}{Q:β'->Hp->Prop}{Q1:β->Hp->Prop}(g0:Gr H0 μ0 H B)(f:Fin Y rel' H0 μ0 (r.bind k) Q E)
 (hk:∀a h1 b H1 μ1,r=.ok a h1->Gr H B H1 μ1->RH Y H1 μ1 h1->rel H1 μ1 a b->Fin Y rel' H0 μ0 (k a h1) Q E->Q1 b H1):Fin Y rel H B r Q1 E:=by
 cases r with
 |bad=>exact f
 |ok a h=>exact fun b H' μ' g' rh rl=>hk a h b H' μ' rfl g' rh rl f
 |exc c h=>exact fun H' μ' C g'=>f H' μ' C (g0.trans g')
theorem Fin.plain{r:R α}{k:α->Hd->R α'}{Q:β'->Hp->Prop}{Q1:β->Hp->Prop}(f:Fin Y rel' H0 μ0 (r.plain.bind k) Q E)
 (hk:∀a h1 b H1 μ1,r=.ok a h1->Gr H B H1 μ1->RH Y H1 μ1 h1->rel H1 μ1 a b->Fin Y rel' H0 μ0 (k a h1) Q E->Q1 b H1):Fin Y rel H B r Q1 E0:=by
 cases r with
 |bad=>exact f
 |ok a h=>exact fun b H' μ' g' rh rl=>hk a h b H' μ' rfl g' rh rl f
 |exc c h=>exact f.elim
end
noncomputable def ZiZ:List Nat->TGs
 |[]=>Zqw
 |i::is=>Zi0 (Zc4 i) (ZiZ is)
noncomputable def tgR(K:Yk):Tg->TG
 |.nm i=>Zc4 i
 |.two i j=>Zqv K 2 (Zi0 (Zc4 i) (Zi0 (Zc4 j) Zqw))
 |.many is=>Zqv K is.length (ZiZ is)
theorem Zif{k:Nat}:∀is:List Nat,is.foldr max 0<k->Zjt k (ZiZ is)
 |[],_=>Zk2
 |i::is,h=>by simp only[List.foldr_cons]at h;exact Zfz (by omega) (Zif is (by omega))
theorem ZtF(K:Yk)(g:Tg):ZmJ (tgk g) (tgR K g):=by
 cases g with
 |nm i=>exact Zpe (OH i)
 |two i j=>exact ZmU (Zfz (show i<max i j+1 by omega) (Zfz (show j<max i j+1 by omega) Zk2))
 |many is=>exact ZmU (Zif is (OH _))
theorem ZeM{env:Env}{N:List Str}{own:Str->Bool}:∀(is:List Nat) (es:List Expr),Zev N own is es=Ww->(assignEach es env).length=is.length/\List.findIdx? (fun x=>x.fst) (assignEach es env)=Wv
 |[],[],_=>⟨rfl,rfl⟩
 |i::is,e::es,h=>by
  unfold Zev at h;rw[Oa]at h;obtain⟨x,p,rfl,_⟩:=Za1 h.1;obtain⟨a,b⟩:=ZeM (env:=env) is _ h.2;constructor
  . simp[assignEach,a]
  . simp only[assignEach,List.findIdx?_cons,b];rfl
 |[],_::_,h=>by cases h
 |_::_,[],h=>by simp[Zev]at h
theorem ZiA{X:Cx}{N:List Str}{own:Str->Bool}(hN:X.N=N)(nd:X.N.Nodup)(ho:∀x,own x=Ww->Loc X.env.scope x/\(X.fn x=Ww\/X.env.scope.names.lookup x=Wu .local)):∀(is:List Nat) (es:List Expr),Zev N own is es=Ww->PGs X es (ZiZ is)
 |[],[],_=>Zlf
 |i::is,e::es,h=>by unfold Zev at h;rw[Oa]at h;obtain⟨x,p,rfl,e1,e2⟩:=Za1 h.1;obtain⟨o1,o2⟩:=ho _ e2;exact ZfW (Zfk nd (by rw[hN];exact e1) o1 o2) (ZiA hN nd ho is _ h.2)
 |[],_::_,h=>by cases h
 |_::_,[],h=>by simp[Zev]at h
theorem Zlg{X:Cx}{N:List Str}{own:Str->Bool}{g:Tg}{tg:Expr}(hN:X.N=N)(nd:X.N.Nodup)(hc:X.calm=Ww)(ho:∀x,own x=Ww->Loc X.env.scope x/\(X.fn x=Ww\/X.env.scope.names.lookup x=Wu .local))(h:ZkC N own g tg=Ww):PG X tg (tgR X.K g):=by
 cases g with
 |nm i=>obtain⟨x,p,rfl,e1,e2⟩:=Za1 h;obtain⟨o1,o2⟩:=ho _ e2;exact Zfk nd (by rw[hN];exact e1) o1 o2
 |two i j=>obtain⟨x,p,y,q,k,r,rfl,⟨a1,a2⟩,b1,b2⟩:=Zhh h;obtain⟨o1,o2⟩:=ho _ a2;obtain⟨p1,p2⟩:=ho _ b2;exact Znz hc (ZfW (Zfk nd (by rw[hN];exact a1) o1 o2) (ZfW (Zfk nd (by rw[hN];exact b1) p1 p2) Zlf))
 |many is=>obtain⟨es,k,r,rfl,h⟩:=Zf1 h;exact Znz (hn:=(ZeM _ _ h).1) (hst:=(ZeM _ _ h).2) hc (ZiA hN nd ho _ _ h)
theorem Zlm{Y:Yx}{H:Hp}{B:List Yi}{Q:L2.St->Hp->Prop}:∀(is:List Nat) {ds:List D}{vs:List V}{S:Ev}{Z:L2.St},RDs Y H B ds vs->RS Y H B S Z->ds.length=is.length->(∀σ1,RS Y H B (ZjC is ds S) σ1->Q σ1 H)->ZiZ is vs Z H Q
 |[],ds,vs,S,Z,r,rs,hl,q=>by
  cases r with
  |nil=>exact⟨rfl,q _ rs⟩
  |cons a s=>simp at hl
 |i::is,ds,vs,S,Z,r,rs,hl,q=>by
  cases r with
  |nil=>simp at hl
  |cons a s=>exact⟨_,_,rfl,Zlm is s (rs.set a) (by simpa using hl) q⟩
theorem ZhZ{Y:Yx}{K:Yk}{H:Hp}{B:List Yi}{g:Tg}{d:D}{v:V}{S ρ1:Ev}{Z:L2.St}{Q:L2.St->Hp->Prop}(hY:Y.K=K)(r:RD Y H B d v)(rs:RS Y H B S Z)(e:ZbG g d S=Wu ρ1)(q:∀σ1,RS Y H B ρ1 σ1->Q σ1 H):tgR K g v Z H Q:=by
 cases g with
 |nm i=>cases e;exact q _ (rs.set r)
 |two i j=>
  unfold ZbG at e;simp only at e;split at e
  . cases e;obtain⟨a,vs,rfl,t,s⟩:=r.tup_inv;obtain⟨x,y,rfl,r1,r2⟩:=s.two;exact⟨a,_,rfl,hY ▸ t,rfl,x,_,rfl,y,_,rfl,rfl,q _ ((rs.set r1).set r2)⟩
  . cases e
 |many is=>
  unfold ZbG at e;simp only at e;split at e
  . split at e
    . rename_i hl;cases e;obtain⟨a,vs,rfl,t,s⟩:=r.tup_inv;exact⟨a,vs,rfl,hY ▸ t,by rw[<- s.length,hl],Zlm is s rs hl q⟩
    . cases e
  . cases e
section
variable {Y:Yx}{H:Hp}{B:List Yi}{h:Hd}{Dd:Yi}{ys zs:List V}
theorem Zm0{K:Yk}(hD:H Dd=Wu (.lst ys)){a:Yi}{vs:List V}(t:SqT K H a vs):SqT K (upd H Dd (.lst zs)) a vs:=by
 rcases t with t|t
 . rcases t with t|⟨o,t⟩
   . exact .inl (.inl (by rw[Zg (fun z=>by rw[z,hD]at t;cases t)];exact t))
   . exact .inl (.inr ⟨o,by rw[Zg (fun z=>by rw[z,hD]at t;cases t)];exact t⟩)
 . exact .inr t
theorem Zoq{K:Yk}(hD:H Dd=Wu (.lst ys)){a:Yi}{vs:List V}(t:FzL K H a vs):FzL K (upd H Dd (.lst zs)) a vs:=by
 rcases t with ⟨o,t⟩|t
 . exact .inl ⟨o,by rw[Zg (fun z=>by rw[z,hD]at t;cases t)];exact t⟩
 . exact .inr t
mutual
theorem RD.swap(hD:H Dd=Wu (.lst ys)):∀{d:D}{v:V},RD Y H B d v->RD Y (upd H Dd (.lst zs)) B d v
 |_,_,.non=>.non
 |_,_,.bl b=>.bl b
 |_,_,.int i=>.int i
 |_,_,.str x ok=>.str x ok
 |_,_,.tup t s=>.tup (Zm0 hD t) (RDs.swap hD s)
 |_,_,.ref e=>.ref e
 |_,_,.ty n=>.ty n
 |_,_,.ro t s=>.ro (Zoq hD t) (RDs.swap hD s)
 |_,_,.kd e=>.kd e
theorem RDs.swap(hD:H Dd=Wu (.lst ys)):∀{d:List D}{v:List V},RDs Y H B d v->RDs Y (upd H Dd (.lst zs)) B d v
 |_,_,.nil=>.nil
 |_,_,.cons a s=>.cons (RD.swap hD a) (RDs.swap hD s)
end
theorem RKs.swap{κ:Type}(hD:H Dd=Wu (.lst ys)):∀{d:List (κ×D)}{v:List (κ×V)},RKs Y H B d v->RKs Y (upd H Dd (.lst zs)) B d v
 |_,_,.nil=>.nil
 |_,_,.cons a s=>.cons (a.swap hD) (s.swap hD)
theorem RH.swap(hD:H Dd=Wu (.lst ys))(hn:Dd ∉ B)(r:RH Y H B h):RH Y (upd H Dd (.lst zs)) B h:=by
 refine⟨r.len,r.nd,fun i o a e1 e2=>?_,r.ks⟩;have ne:a≠Dd:=fun z=>hn (z ▸ O1 e2);have q:=r.ob i o a e1 e2;cases o with
 |lst ds=>obtain⟨vs,z,s⟩:=q;exact⟨vs,by rw[Zg ne];exact z,s.swap hD⟩
 |dic ds=>obtain⟨vs,z,s⟩:=q;exact⟨vs,by rw[Zg ne];exact z,s.swap hD⟩
 |ins C ds=>obtain⟨a1,a2,a3,z,m,s⟩:=q;exact⟨a1,a2,a3,by rw[Zg ne];exact z,m,s.swap hD⟩
 |fdic ds=>obtain⟨o,vs,z,s⟩:=q;exact⟨o,vs,by rw[Zg ne];exact z,s.swap hD⟩
theorem Gr.out{H':Hp}{μ':List Yi}(g:Gr H B H' μ'){o:HO}(hD:H Dd=Wu o)(hn:Dd ∉ B):H' Dd=Wu o/\Dd ∉ μ':=⟨g.keep _ _ hn hD,fun hm=>(g.new _ hm).elim hn fun z=>by rw[hD]at z;cases z⟩
end
section
variable {Y:Yx}{H:Hp}{B:List Yi}{p:Yi}
mutual
theorem RD.more:∀{d:D}{v:V},RD Y H B d v->RD Y H (B++[p]) d v
 |_,_,.non=>.non
 |_,_,.bl b=>.bl b
 |_,_,.int i=>.int i
 |_,_,.str x ok=>.str x ok
 |_,_,.tup t s=>.tup t (RDs.more s)
 |_,_,.ref e=>.ref (by rw[Oe (Ob.mp e).1];exact e)
 |_,_,.ty n=>.ty n
 |_,_,.ro t s=>.ro t (RDs.more s)
 |_,_,.kd e=>.kd e
theorem RDs.more:∀{d:List D}{v:List V},RDs Y H B d v->RDs Y H (B++[p]) d v
 |_,_,.nil=>.nil
 |_,_,.cons a s=>.cons (RD.more a) (RDs.more s)
end
theorem RKs.more{κ:Type}:∀{d:List (κ×D)}{v:List (κ×V)},RKs Y H B d v->RKs Y H (B++[p]) d v
 |_,_,.nil=>.nil
 |_,_,.cons a s=>.cons a.more s.more
theorem RO.more{a:Yi}{o:DO}(q:RO Y H B a o):RO Y H (B++[p]) a o:=by
 cases o with
 |lst ds=>obtain⟨vs,z,s⟩:=q;exact⟨vs,z,s.more⟩
 |dic ds=>obtain⟨vs,z,s⟩:=q;exact⟨vs,z,s.more⟩
 |ins C ds=>obtain⟨a1,a2,a3,z,m,s⟩:=q;exact⟨a1,a2,a3,z,m,s.more⟩
 |fdic ds=>obtain⟨o,vs,z,s⟩:=q;exact⟨o,vs,z,s.more⟩
end
theorem ZlD{T:Tb}{Y:Yx}{E:XK}{K:Yk}(hY:Y.K=K){js:List (Option Nat)}{g:Tg}{c:Option Tx}{e:Ex}{tc:TT}{J:It}{w:Wk}{H1:Hp}{μ1:List Yi}{h1:Hd}{S:Ev}{Z:L2.St}{Q:VK}{Dd:Yi}
 (htc:∀Z H Q,(∃S h B,RH Y H B h/\RS Y H B S Z/\Fin Y (fun _ _ (a b:Bool)=>a=b) H B (tsto T c S h) Q E0)->tc Z H Q)
 (rh:RH Y H1 μ1 h1) (rs:RS Y H1 μ1 S Z) (wj:WJ Y H1 μ1 w J) (f:Fin Y (RD Y) H1 μ1 ((ZN w.src g (tsto T c) (ev T e) w.xs (Zbq js S) [] h1).bind fun xs h2=>ZcP (.lst xs) h2) Q E) (hD:H1 Dd=Wv) :
 ∃W:Nat->Nat->List V->Hp->Prop,(∃m,W 0 m [] (upd H1 Dd (.lst []))) /\
  ∀i m ys H,W i m ys H->H Dd=Wu (.lst ys)->(J.stop i H/\Q (.ref Dd) H) \/
   (J.go i H/\ys.length<sizeLine/\∀x H',J.yld i H x H'->tgR K g x (capt js Z) H' fun σ2 H2=>tc σ2 H2 fun b H3=>
    if b=Ww then ZbO T Y E0 e σ2 H3 fun y H4=>H4 Dd=Wu (.lst ys)/\∃m',m'<m/\W (i+1) m' (ys++[y]) (upd H4 Dd (.lst (ys++[y])))
    else H3 Dd=Wu (.lst ys)/\∃m',m'<m/\W (i+1) m' ys H3):=by
 have n1:Dd ∉ μ1:=fun z=>by have:=rh.mut z;rw[hD]at this;exact this
 refine⟨fun i m ys H=>∃acc h B,i<=w.xs.length/\m=w.xs.length - i/\Gr H1 μ1 H B/\RH Y H B h/\RDs Y H B acc ys/\Dd ∉ B /\
  Fin Y (RD Y) H1 μ1 ((ZN w.src g (tsto T c) (ev T e) (w.xs.drop i) (Zbq js S) acc h).bind fun xs h2=>ZcP (.lst xs) h2) Q E,⟨w.xs.length,[],h1,μ1,Yy _,by simp,Gr.lay0 hD,rh.lay0 hD,.nil,n1,f⟩,?_⟩
 rintro i m ys H ⟨acc,h,B,hi,rfl,g1,rh1,ra,nD,f1⟩ hl;by_cases hlt:i<w.xs.length
 . obtain⟨d,hd⟩:∃d,w.xs[i]? = Wu d:=⟨_,Og hlt⟩
   have hdrop:w.xs.drop i=d::w.xs.drop (i+1):=by rw[List.drop_eq_getElem_cons hlt];have:=Og hlt;rw[hd]at this;rw[<- YF this]
   rw[hdrop,ZN]at f1;by_cases hs:Wk.stays w.src h=Ww/\acc.length<sizeLine
   . rw[if_pos hs]at f1;obtain⟨go,yl⟩:=(wj H B h g1 rh1 hs.1).1 i d hd;refine .inr ⟨go,by rw[<- ra.length];exact hs.2,fun x H' hy=>?_⟩;obtain⟨g2,rh2,rx⟩:=yl x H' hy;obtain⟨hl2,nD2⟩:=g2.out hl nD;have g02:=g1.trans g2;split at f1
     . exact f1.elim
     . rename_i ρ1 hb;refine ZhZ hY rx ((rs.mono rh g02).capt js) hb fun σ1 rs1=>htc σ1 H' _ ⟨ρ1,h,B,rh2,rs1,?_⟩;rw[R.bind_assoc]at f1;refine Fin.plain f1 fun b h3 b' H3 μ3 _ g3 rh3 eb f3=>?_;subst eb;obtain⟨hl3,nD3⟩:=g3.out hl2 nD2;have g03:=g02.trans g3;cases b with
       |true=>
        rw[if_pos rfl]at f3 ⊢;rw[R.bind_assoc]at f3;refine⟨ρ1,h3,μ3,rh3,rs1.mono rh2 g3,Fin.plain f3 fun y h4 y' H4 μ4 _ g4 rh4 ry f4=>?_⟩;obtain⟨hl4,nD4⟩:=g4.out hl3 nD3;refine⟨hl4,_,Nat.sub_lt_sub_left hlt (OH i),acc++[y],h4,μ4,hlt,rfl,?_,rh4.swap hl4 nD4,?_,nD4,f4⟩
        . have g04:=g03.trans g4;exact⟨g04.pre,g04.new,fun b o hb e=>by rw[Zg (fun z=>by rw[z,hD]at e;cases e)];exact g04.keep b o hb e,fun b u v e=>by rw[Zg (fun z=>by rw[z,hD]at e;cases e)];exact g04.fz b u v e⟩
        . exact((((ra.mono rh1 g2).mono rh2 g3).mono rh3 g4).append (.cons ry .nil)).swap hl4
       |false=>rw[if_neg (by decide)]at f3 ⊢;exact⟨hl3,_,Nat.sub_lt_sub_left hlt (OH i),acc,h3,μ3,hlt,rfl,g03,rh3,(ra.mono rh1 g2).mono rh2 g3,nD3,f3⟩
   . rw[if_neg hs]at f1;exact f1.elim
 . have he:i=w.xs.length:=by omega
   subst he;rw[List.drop_eq_nil_of_le (Oq _),ZN]at f1;by_cases hs:Wk.stays w.src h=Ww
   . rw[if_pos hs]at f1;refine .inl ⟨(wj H B h g1 rh1 hs).2,?_⟩;have f2:Fin Y (RD Y) H1 μ1 (.ok (.ref h.length) (h++[.lst acc])) Q E:=f1;have gg:Gr H B H (B++[Dd])->True:=fun _=>trivial;have g3:Gr H1 μ1 H (B++[Dd]):=by
      refine⟨fun j a e=>?_,fun a ha=>?_,g1.keep,g1.fz⟩
      . have:=g1.pre j a e;rw[Oe (Ob.mp this).1];exact this
      . rcases OD.mp ha with z|z
        . exact g1.new a z
        . rw[Ox.mp z];exact .inr hD
     refine f2.at g3 ?_ (.ref (by rw[rh1.len];simp));have pre:∀{d:D}{v:V},RD Y H B d v->RD Y H (B++[Dd]) d v:=fun r=>r.more;refine⟨by simp[rh1.len],?_,fun j o a e1 e2=>?_,Zj8 rh1.ks trivial⟩
     . rw[List.nodup_append];refine⟨rh1.nd,by simp,fun a ha b hb=>?_⟩;rw[Ox.mp hb];intro z;exact nD (z ▸ ha)
     . by_cases hj:j<h.length
       . rw[Oe hj]at e1;rw[Oe (by rw[<- rh1.len];exact hj)]at e2;exact(rh1.ob j o a e1 e2).more
       . have hj':j=h.length:=by have:=(Ob.mp e1).1;simp at this;omega
         subst hj';rw[Om (Oq _)]at e1;rw[Om (by rw[rh1.len];exact Oq _)]at e2;simp[rh1.len]at e1 e2;subst e1;subst e2;exact⟨ys,hl,ra.more⟩
   . rw[if_neg hs]at f1;exact f1.elim
end IV
end
section
namespace IV
open PySem PySem.Spec PyProof.Rows L2
section
variable {Y:Yx}{H:Hp}{B:List Yi}{h:Hd}
theorem RKs.look{f:Str}:∀{fs:List (Str×D)}{gs:List (Str×V)},RKs Y H B fs gs->(∀d,fs.lookup f=Wu d->∃v,gs.lookup f=Wu v/\RD Y H B d v)/\(fs.lookup f=Wv->gs.lookup f=Wv)
 |_,_,.nil=>⟨fun d e=>by simp at e,fun _=>rfl⟩
 |_,_,.cons (k:=k) (d:=d0) (v:=v0) a s=>by
  by_cases e:f=k
  . subst e;exact⟨fun d z=>by simp at z;subst z;exact⟨_,by simp,a⟩,fun z=>by simp at z⟩
  . have b:(f==k)=Wx:=by simpa using e
    obtain⟨q1,q2⟩:=RKs.look (f:=f) s;refine⟨fun d z=>?_,fun z=>?_⟩
    . rw[OF,b]at z ⊢;exact q1 d z
    . rw[OF,b]at z ⊢;exact q2 z
theorem RKs.putAF{f:Str}{d:D}{v:V}(r:RD Y H B d v):∀{fs:List (Str×D)}{gs:List (Str×V)},RKs Y H B fs gs->RKs Y H B (Zl3 f d fs) (Zb0 f v gs)
 |_,_,.nil=>.cons r .nil
 |_,_,.cons (k:=k) a s=>by
  unfold Zl3 Zb0;by_cases e:k=f
  . rw[if_pos e,if_pos e];exact .cons r s
  . rw[if_neg e,if_neg e];exact .cons a (RKs.putAF r s)
theorem Zga(rh:RH Y H B h){d:D}{v:V}{C:Str}{fs:List (Str×D)}(r:RD Y H B d v)(e:ZZ d h=Wu (C,fs)):∃i a Ca dx gs,d=.ref i/\v=.ref a/\B[i]? = Wu a/\h[i]? = Wu (.ins C fs)/\H a=Wu (.ins Ca dx gs)/\Y.mg C=Wu (.ref Ca)/\RKs Y H B fs gs:=by
 unfold ZZ at e;split at e
 . rename_i i;split at e
   . rename_i C' fs' hi;cases e;cases r with
     |ref q=>rename_i a;obtain⟨Ca,dx,gs,z,m,s⟩:=rh.ob i _ a hi q;exact⟨i,a,Ca,dx,gs,rfl,rfl,q,hi,z,m,s⟩
   . cases e
 . cases e
theorem Zqi{C:Str}{x dx Ca:Yi}(rh:RH Y H B h)(hx:H x=Wv)(hd:H dx=Wv)(ne:dx≠x)(m:Y.mg C=Wu (.ref Ca)):RH Y (upd (upd H dx (.own x)) x (.ins Ca dx [])) (B++[x]) (h++[.ins C []])/\Gr H B (upd (upd H dx (.own x)) x (.ins Ca dx [])) (B++[x]):=by
 have hx':upd H dx (.own x) x=Wv:=by rw[Zg (fun z=>ne z.symm)];exact hx
 exact⟨(rh.lay0 hd).lay hx' ⟨Ca,dx,[],Zi,m,.nil⟩,(Gr.lay0 hd).trans (Gr.lay hx')⟩
end
theorem Zmj{o:Expr}{name:Str}{apos pos:Pos}{args:List Expr}{env:Env}(hbase:attributeBase o name env (eval o env)=eval o env)
 (hform:methodCallForm (args.length+([]:List Keyword).length) (YS pos (YA args env)) (backToKw pos (Wb [] env))=Ww) (hline:(apos.endLine==pos.line)=Ww) :
 eval (.Call (.Attribute o name apos) args [] pos) env=(do
  let ov <- eval o env
  standAt apos.atName
  let (f,first) <- holding [ov] (getMethod ov name (do return (<- importBound o env).getD Ww))
  callWith pos f first (YS pos (YA args env)) (backToKw pos (Wb [] env))):=by
 have hpos:methodCallPos Ww o env apos pos=pure pos:=by unfold methodCallPos;simp[hline]
 rw[arm_eval_Call,hbase];unfold methodCall;simp only[hform,hpos];rfl
section
variable {T:Tb}{Γ:Gm}{X:Cx}{Y:Yx}{E:XK}{k:Nat}
theorem Ztg(G:Gd T Γ X Y E k){Cs:List Str}{f:Str}(hc:(Cs.all fun C=>Wy (C∈Γ.kl.cs))=Ww)(hf:f∈Γ.kl.ats){H:Hp}{B:List Yi}{h:Hd}{d:D}{x:V}{Q:VK}(rh:RH Y H B h)(rd:RD Y H B d x)(ff:Fin Y (RD Y) H B (ZgD Cs f d h) Q E):
 ∃a C dx fs v,x=.ref a/\H a=Wu (.ins C dx fs)/\Cls X.K C/\ZaQ X.K C f/\fs.lookup f=Wu v/\Q v H:=by
 unfold ZgD at ff;split at ff
 . rename_i C fs e;obtain⟨hC,ff⟩:=ff.iff;obtain⟨i,a,Ca,dx,gs,rfl,rfl,q,hi,z,m,s⟩:=Zga rh rd e;obtain⟨w,e1,ff⟩:=ff.ofO;obtain⟨v,l,rv⟩:=(s.look (f:=f)).1 w e1;rw[OC]at hc;obtain⟨Ca',m',cl,na⟩:=G.cls C (of_decide_eq_true (hc C hC));rw[G.gk.mg,m']at m;cases m;exact⟨a,Ca,dx,gs,v,rfl,z,cl,na f hf,l,ff.ok rh rv⟩
 . exact ff.elim
theorem Zm5(G:Gd T Γ X Y E k){Cs:List Str}{f:Str}(hc:(Cs.all fun C=>Wy (C∈Γ.kl.cs))=Ww)(hf:f∈Γ.kl.ats){H:Hp}{B:List Yi}{h:Hd}{d e:D}{x y:V}{Q:VK}(rh:RH Y H B h)(rd:RD Y H B d x)(re:RD Y H B e y)(ff:Fin Y (RD Y) H B (Zhq Cs f d e h) Q E):
 ∃a C dx fs,x=.ref a/\H a=Wu (.ins C dx fs)/\Cls X.K C/\ZaQ X.K C f/\fs.length<1000/\Q .non (upd H a (.ins C dx (Zb0 f y fs))):=by
 unfold Zhq at ff;split at ff
 . rename_i i;split at ff
   . rename_i C fs hi;obtain⟨⟨hC,hl⟩,ff⟩:=ff.iff;obtain⟨i',a,Ca,dx,gs,e1,rfl,q,hi',z,m,s⟩:=Zga rh rd (show ZZ (.ref i) h=Wu (C,fs) by simp[ZZ,hi]);cases e1;rw[OC]at hc;obtain⟨Ca',m',cl,na⟩:=G.cls C (of_decide_eq_true (hc C hC));have m0:=m;rw[G.gk.mg,m']at m;cases m;refine⟨a,Ca,dx,gs,rfl,z,cl,na f hf,by rw[<- s.length];exact hl,ff.at (Gr.write (O1 q) (by rw[z];trivial)) (rh.write q ?_ (by rw[z];trivial)) .non⟩;exact⟨Ca,dx,_,Zi,m0,(RKs.putAF re s).mono rh (Gr.write (O1 q) (by rw[z];trivial))⟩
   . exact ff.elim
 . exact ff.elim
theorem Zuz(G:Gd T Γ X Y E k){C:Str}{es:Exs}{ys:List Expr}{p pos:Pos}(h2:C∈Γ.kl.is)(h3:glb Γ C=Ww)(h4:chks Γ es ys=Ww)(ha:PA X ys (Zpn T Y E es)):PE X (.Call (.Name C p) ys [] pos) (ZbO T Y E (.mk C es)):=by
 obtain⟨a,f,fd,ps,m,M,F,B_⟩:=G.mks _ h2;obtain⟨g1,g2⟩:=G.gl h3;have key:∀(ds:List D) (h1:Hd) (xs:List V) (H1:Hp) (μ1:List Yi) (Q:VK),RH Y H1 μ1 h1->RDs Y H1 μ1 ds xs->Fin Y (RD Y) H1 μ1 (ZnS T.C C ds h1) Q E->∀x dx,H1 x=Wv->H1 dx=Wv->dx≠x ->
  Zfa T Y (mnm C (O "__init__")) (.ref x::(xs++[])) (upd (upd H1 dx (.own x)) x (.ins a dx [])) (fun v H2=>v=.non/\Q (.ref x) H2) E:=by
  intro ds h1 xs H1 μ1 Q rh1 rds f1 x dx hx hd ne;obtain⟨rh2,g2⟩:=Zqi (C:=C) (Ca:=a) rh1 hx hd ne (by rw[G.gk.mg];exact m);have px:(μ1++[x])[h1.length]? = Wu x:=by rw[rh1.len];simp
  refine⟨.ref h1.length::ds,h1++[.ins C []],μ1++[x],rh2,.cons (.ref px) (by rw[Yt];exact rds.mono rh1 g2),?_⟩;refine Fin.bind (Fin.mono g2 f1) fun d h3 v H3 μ3 _ g3 rh3 rd3 f3=>?_;cases d with
  |non=>cases rd3;exact⟨rfl,f3.ok rh3 (.ref (g3.pre _ _ px))⟩
  |_=>exact f3.elim
 cases ys with
 |nil=>
  cases es with
  |nil=>exact(ZnE M F G.room1 g1 m B_ .nil G.pass g2).imp fun Z H Q ⟨S,h,B,rh,rs,f⟩=>key [] h [] H B Q rh .nil f
  |cons e r=>unfold chks at h4;cases h4
 |cons y ys=>
  have st:Z7 y=Ww:=by
   cases es with
   |nil=>unfold chks at h4;cases h4
   |cons e r=>unfold chks at h4;rw[Oa,Oa]at h4;exact h4.1.2
  have sp:∀pos,(YS pos (YA ys X.env)).any (·.1)=Wx:=by
   cases es with
   |nil=>unfold chks at h4;cases h4
   |cons e r=>unfold chks at h4;rw[Oa,Oa]at h4;exact Zbv Γ X.env r ys h4.2
  exact(ZpQ M F G.room1 g1 m B_ .nil G.pass ha g2 (Zo X.env st) (sp _)).imp fun Z H Q ⟨S,h,B,rh,rs,f⟩=>⟨S,h,B,rh,rs,Fin.bind f fun ds h1 xs H1 μ1 _ g rh1 rds f1=>key ds h1 xs H1 μ1 Q rh1 rds f1⟩
theorem ZsF(G:Gd T Γ X Y E k){C n:Str}{o:Ex}{es:Exs}{xo:Expr}{ys:List Expr}{ap cp:Pos}(h5:(C,n)∈Γ.kl.ms)(h3:ZcX xo=Ww)(h4:chks Γ es ys=Ww)(h6:ys.length<29)(h7:(ap.endLine==cp.line)=Ww)(ho:PE X xo (ZbO T Y E o))(ha:PA X ys (Zpn T Y E es)):
 PE X (.Call (.Attribute xo n ap) ys [] cp) (ZbO T Y E (.mcl C n o es)):=by
 obtain⟨a,f,fd,ps,mm,c,hm,F,B_⟩:=G.mts _ h5;have hform:methodCallForm (ys.length+([]:List Keyword).length) (YS cp (YA ys X.env)) (backToKw cp (Wb [] X.env))=Ww:=by
  unfold methodCallForm;rw[ZeD Γ X.env es ys h4];have h30:Wy (ys.length+([]:List Keyword).length+(if (backToKw cp (Wb [] X.env)).isEmpty then 0 else 1)<30)=Ww:=by rw[decide_eq_true_eq];show ys.length+0+0<30;omega
  rw[h30];rfl
 have ht:=Zmj (o:=xo) (name:=n) (apos:=ap) (pos:=cp) (args:=ys) (env:=X.env) (Zfp h3) hform h7;have key:∀(d:D) (h1:Hd) (x:V) (H1:Hp) (μ1:List Yi) (S:Ev) (Z:L2.St) (Q:VK),RH Y H1 μ1 h1->RS Y H1 μ1 S Z->RD Y H1 μ1 d x->Fin Y (RD Y) H1 μ1 (match ZZ d h1 with
  |some (C',fs)=>if C'=C/\fs.lookup n=Wv then(evs T es S h1).bind fun xs h2=>T.C (mnm C n) (d::xs) h2 else .bad
  |none=>.bad) Q E->∃b dx fs,x=.ref b/\H1 b=Wu (.ins a dx fs)/\fs.lookup n=Wv/\Zpn T Y E es Z H1 fun vs H2=>Zfa T Y (mnm C n) (x::(vs++[])) H2 Q E:=by
  intro d h1 x H1 μ1 S Z Q rh1 rs1 rd f1;split at f1
  . rename_i C' fs e;obtain⟨⟨e1,e2⟩,f1⟩:=f1.iff;subst e1;obtain⟨i,b,Ca,dx,gs,rfl,rfl,q,hi,z,m',s⟩:=Zga rh1 rd e;rw[G.gk.mg,mm]at m';cases m';refine⟨b,dx,gs,rfl,z,(s.look (f:=n)).2 e2,S,h1,μ1,rh1,rs1,f1.bind fun ds h2 vs H2 μ2 _ g2 rh2 rds f2=>⟨_,h2,μ2,rh2,.cons (rd.mono rh1 g2) (by rw[Yt];exact rds),f2⟩⟩
  . exact f1.elim
 cases ys with
 |nil=>
  cases es with
  |nil=>
   refine(ZnD ho c hm F G.room B_ .nil G.pass ht).imp fun Z H Q ⟨S,h,B,rh,rs,f⟩=>⟨S,h,B,rh,rs,Fin.bind f fun d h1 x H1 μ1 _ g rh1 rd f1=>?_⟩
   obtain⟨b,dx,fs,e1,e2,e3,ρ',h',μ',rh',rs',f'⟩:=key d h1 x H1 μ1 S Z Q rh1 (rs.mono rh g) rd f1;exact⟨b,dx,fs,e1,e2,e3,f'.ok rh' .nil⟩
  |cons e r=>unfold chks at h4;cases h4
 |cons y ys=>
  have st:Z7 y=Ww:=by
   cases es with
   |nil=>unfold chks at h4;cases h4
   |cons e r=>unfold chks at h4;rw[Oa,Oa]at h4;exact h4.1.2
  have sp:∀pos,(YS pos (YA ys X.env)).any (·.1)=Wx:=by
   cases es with
   |nil=>unfold chks at h4;cases h4
   |cons e r=>unfold chks at h4;rw[Oa,Oa]at h4;exact Zbv Γ X.env r ys h4.2
  exact(ZpO ho c hm F G.room B_ .nil G.pass ha (Zo X.env st) (sp _) ht).imp fun Z H Q ⟨S,h,B,rh,rs,f⟩=>⟨S,h,B,rh,rs,Fin.bind f fun d h1 x H1 μ1 _ g rh1 rd f1=>key d h1 x H1 μ1 S Z Q rh1 (rs.mono rh g) rd f1⟩
end
end IV
end
section
namespace IV
open PySem PySem.Spec PyProof.Rows L2
theorem ZqJ{T:Tb}{Γ:Gm}{X:Cx}{Y:Yx}{E:XK}{k:Nat}(G:Gd T Γ X Y E k){op:CmpOp}{a b:Ex}{l r:Expr}{pos:Pos}(ha:PE X l (ZbO T Y E a))(hb:PE X r (ZbO T Y E b))(hm:ZeG r=Ww):PT X (.Compare l [op] [r] pos) (Zm7 T Y E (.ex (.cmp op a b))):=by refine(ZpC (ZnL (E:=E) G.room G.h60 G.gk op) ha hb (Zll hm)).imp fun Z H Q ⟨S,h,B,rh,rs,f⟩=>Zpo (f:=opC T.GD op) rh rs ?_;refine Fin.bind (show Fin Y _ H B ((ev T (.cmp op a b) S h).bind fun x h1=>R.ofO (ZdR T.GD x h1) h1) Q E from f) fun d h1 x H1 μ1 er g rh1 rd f1=>?_;obtain⟨_,_,_,er⟩:=R.bind_eq (show(ev T a S h).bind _=.ok d h1 from er);obtain⟨_,_,_,er⟩:=R.bind_eq er;obtain⟨c,rfl⟩:=Zsx er;cases rd;exact⟨c,rfl,Fin.ok (show Fin Y _ H1 μ1 (.ok c h1) Q E from f1) rh1 rfl⟩
theorem ZqL{Γ:Gm}{e:Ex}{l:Expr}{o:List CmpOp}{r:List Expr}{p:Pos}(h:chk Γ e (.Compare l o r p)=Ww):(∃op a b,e=.cmp op a b)\/(∃o1 o2 a b c,e=.cmp2 o1 o2 a b c)\/(∃a b,e=.lin a b):=by
 cases e with
 |lin a b=>exact .inr (.inr ⟨a,b,rfl⟩)
 |cmp op a b=>exact .inl ⟨op,a,b,rfl⟩
 |cmp2 o1 o2 a b c=>exact .inr (.inl ⟨o1,o2,a,b,c,rfl⟩)
 |cst d=>cases d<;>(unfold chk ZmE at h;cases h)
 |_=>unfold chk at h;cases h
theorem Zl7{T:Tb}{Γ:Gm}{X:Cx}{Y:Yx}{E:XK}{k:Nat}(G:Gd T Γ X Y E k){e:Ex}{x:Expr}(he:PE X x (ZbO T Y E e))(h1:ZjP x=Ww)(hx:∀l o r p,x≠.Compare l o r p):PT X x (Zm7 T Y E (.ex e)):=by
 refine(Znq he (Znx h1 hx)).imp fun Z H Q ⟨S,h,B,rh,rs,f⟩=>⟨S,h,B,rh,rs,Fin.bind (show Fin Y _ H B ((ev T e S h).bind fun x h1=>R.ofO (ZdR T.GD x h1) h1) Q E from f) fun d h1 x H1 μ1 er g rh1 rd f1=>?_⟩
 obtain⟨b,eb,f1⟩:=f1.ofO;exact⟨b,Zpc G.gk.K rh1 rd eb,f1.ok rh1 rfl⟩
noncomputable def Zk1(T:Tb)(Y:Yx)(E:XK):Exs->List (TE×TE)
 |.nil=>[]
 |.cons k r=>match r with
  |.nil=>[]
  |.cons v r'=>(ZbO T Y E k,ZbO T Y E v)::Zk1 T Y E r'
section
variable {Y:Yx}{H:Hp}{B:List Yi}{h:Hd}{Dd:Yi}{ys zs:List (Key×V)}
theorem ZlT{K:Yk}(hD:H Dd=Wu (.dK ys)){a:Yi}{vs:List V}(t:SqT K H a vs):SqT K (upd H Dd (.dK zs)) a vs:=by
 rcases t with t|t
 . rcases t with t|⟨o,t⟩
   . exact .inl (.inl (by rw[Zg (fun z=>by rw[z,hD]at t;cases t)];exact t))
   . exact .inl (.inr ⟨o,by rw[Zg (fun z=>by rw[z,hD]at t;cases t)];exact t⟩)
 . exact .inr t
theorem Zmz{K:Yk}(hD:H Dd=Wu (.dK ys)){a:Yi}{vs:List V}(t:FzL K H a vs):FzL K (upd H Dd (.dK zs)) a vs:=by
 rcases t with ⟨o,t⟩|t
 . exact .inl ⟨o,by rw[Zg (fun z=>by rw[z,hD]at t;cases t)];exact t⟩
 . exact .inr t
mutual
theorem RD.swapD(hD:H Dd=Wu (.dK ys)):∀{d:D}{v:V},RD Y H B d v->RD Y (upd H Dd (.dK zs)) B d v
 |_,_,.non=>.non
 |_,_,.bl b=>.bl b
 |_,_,.int i=>.int i
 |_,_,.str x ok=>.str x ok
 |_,_,.tup t s=>.tup (ZlT hD t) (RDs.swapD hD s)
 |_,_,.ref e=>.ref e
 |_,_,.ty n=>.ty n
 |_,_,.ro t s=>.ro (Zmz hD t) (RDs.swapD hD s)
 |_,_,.kd e=>.kd e
theorem RDs.swapD(hD:H Dd=Wu (.dK ys)):∀{d:List D}{v:List V},RDs Y H B d v->RDs Y (upd H Dd (.dK zs)) B d v
 |_,_,.nil=>.nil
 |_,_,.cons a s=>.cons (RD.swapD hD a) (RDs.swapD hD s)
end
theorem RKs.swapD{κ:Type}(hD:H Dd=Wu (.dK ys)):∀{d:List (κ×D)}{v:List (κ×V)},RKs Y H B d v->RKs Y (upd H Dd (.dK zs)) B d v
 |_,_,.nil=>.nil
 |_,_,.cons a s=>.cons (a.swapD hD) (s.swapD hD)
theorem RO.swapD{a:Yi}{o:DO}(hD:H Dd=Wu (.dK ys))(ne:a≠Dd)(q:RO Y H B a o):RO Y (upd H Dd (.dK zs)) B a o:=by
 cases o with
 |lst ds=>obtain⟨vs,z,s⟩:=q;exact⟨vs,by rw[Zg ne];exact z,s.swapD hD⟩
 |dic ds=>obtain⟨vs,z,s⟩:=q;exact⟨vs,by rw[Zg ne];exact z,s.swapD hD⟩
 |ins C ds=>obtain⟨a1,a2,a3,z,m,s⟩:=q;exact⟨a1,a2,a3,by rw[Zg ne];exact z,m,s.swapD hD⟩
 |fdic ds=>obtain⟨o,vs,z,s⟩:=q;exact⟨o,vs,by rw[Zg ne];exact z,s.swapD hD⟩
end
inductive RPs(Y:Yx)(H:Hp)(B:List Yi):List D->List (V×V)->Prop
 |nil:RPs Y H B [] []
 |cons {k v:D}{r:List D}{x y:V}{ps:List (V×V)}:RD Y H B k x->RD Y H B v y->RPs Y H B r ps->RPs Y H B (k::v::r) ((x,y)::ps)
theorem RPs.pairs{Y:Yx}{H:Hp}{B:List Yi}:∀{ds:List D}{ps:List (V×V)}{kvs:List (Key×D)},RPs Y H B ds ps->ZcW ds=Wu kvs->∃kvs':List (Key×V),ps=kvs'.map (fun kv=>(kV kv.1,kv.2))/\RKs Y H B kvs kvs'
 |_,_,_,.nil,e=>by cases e;exact⟨[],rfl,.nil⟩
 |_,_,_,.cons a b s,e=>by
  rw[ZcW]at e;split at e
  . rename_i k r e1 e2;cases e;obtain⟨kvs',rfl,rk⟩:=s.pairs e2;have:=Zdv a e1;subst this;exact⟨(k,_)::kvs',rfl,.cons b rk⟩
  . cases e
theorem RPs.keysOk{Y:Yx}{H:Hp}{B:List Yi}:∀{ds:List D}{ps:List (V×V)}{kvs:List (Key×D)},RPs Y H B ds ps->ZcW ds=Wu kvs->Zbo kvs
 |_,_,_,.nil,e=>by cases e;intro p hp;cases hp
 |_,_,_,.cons a b s,e=>by
  rw[ZcW]at e;split at e
  . rename_i k r e1 e2;cases e;intro p hp x z;rcases O2.mp hp with rfl|hp
    . exact Zn8 a e1 x z
    . exact s.keysOk e2 p hp x z
  . cases e
theorem Zem:∀{more kvs:List (Key×D)},Zbo more->Zbo kvs->Zbo (Zb3 kvs more)
 |[],kvs,_,h=>h
 |(k,d)::r,kvs,hm,h=>Zem (more:=r) (kvs:=putD kvs k d) (fun p hp=>hm p (Oh _ hp)) (Zf3 h (fun x e=>hm (k,d) Oi x e))
theorem RKs.merge{Y:Yx}{H:Hp}{B:List Yi}:∀{more:List (Key×D)}{more':List (Key×V)}{kvs:List (Key×D)}{kvs':List (Key×V)},RKs Y H B more more'->RKs Y H B kvs kvs'->RKs Y H B (Zb3 kvs more) (ZdT kvs' more')
 |_,_,_,_,.nil,s=>s
 |_,_,_,_,.cons (k:=k) a r,s=>by have z:=RKs.merge r (s.put k a);exact z
theorem ZnI{T:Tb}{Y:Yx}{E:XK}{H0:Hp}{μ0:List Yi}{Q:VK}{S:Ev}{Z:L2.St}:∀(n:Nat) (ps:Exs) {K:List D->Hd->R D}{H:Hp}{B:List Yi}{h:Hd}{Q1:List (V×V)->Hp->Prop}{Γ:Gm}{ks:List (Option Expr)}{vs:List Expr},ks.length<=n->chkp Γ ps ks vs=Ww ->
 Gr H0 μ0 H B->RH Y H B h->RS Y H B S Z->Fin Y (RD Y) H0 μ0 ((evs T ps S h).bind K) Q E ->
 (∀ds h1 qs H1 μ1,Gr H B H1 μ1->RH Y H1 μ1 h1->RPs Y H1 μ1 ds qs->Fin Y (RD Y) H0 μ0 (K ds h1) Q E->Q1 qs H1)->Zhn (Zk1 T Y E ps) Z H Q1:=by
 intro n;induction n with
 |zero=>
  intro ps K H B h Q1 Γ ks vs hl hc g0 rh rs f hq;cases ps with
  |nil=>exact hq [] h [] H B Gr.refl rh .nil f
  |cons k r=>
   cases r with
   |nil=>unfold chkp at hc;cases hc
   |cons v r'=>
    unfold chkp at hc;simp only at hc;split at hc
    . simp at hl
    . cases hc
 |succ n ih=>
  intro ps K H B h Q1 Γ ks vs hl hc g0 rh rs f hq;cases ps with
  |nil=>exact hq [] h [] H B Gr.refl rh .nil f
  |cons k r=>
   cases r with
   |nil=>unfold chkp at hc;cases hc
   |cons v r'=>
    unfold chkp at hc;simp only at hc;split at hc
    . rw[Oa]at hc;have f1:Fin Y (RD Y) H0 μ0 ((ev T k S h).bind fun x h1=>(ev T v S h1).bind fun y h2=>(evs T r' S h2).bind fun xs h3=>K (x::y::xs) h3) Q E:=by
       have e:(evs T (.cons k (.cons v r')) S h).bind K=(ev T k S h).bind fun x h1=>(ev T v S h1).bind fun y h2=>(evs T r' S h2).bind fun xs h3=>K (x::y::xs) h3:=by show((ev T k S h).bind fun x h1=>((ev T v S h1).bind fun y h2=>(evs T r' S h2).bind fun xs h3=>R.ok (y::xs) h3).bind fun xs h2=>R.ok (x::xs) h2).bind K=_;simp only[R.bind_assoc,R.bind_ok]
       rw[<- e];exact f
      refine⟨S,h,B,rh,rs,Fin.bindB g0 f1 fun d h1 x H1 μ1 _ g1 rh1 rd f2=>?_⟩;refine⟨S,h1,μ1,rh1,rs.mono rh g1,Fin.bindB (g0.trans g1) f2 fun e h2 y H2 μ2 _ g2 rh2 re f3=>?_⟩;refine ih r' (by simpa using hl) hc.2 ((g0.trans g1).trans g2) rh2 ((rs.mono rh g1).mono rh1 g2) f3 fun ds h3 qs H3 μ3 g3 rh3 rp f4=>?_;exact hq (d::e::ds) h3 ((x,y)::qs) H3 μ3 ((g1.trans g2).trans g3) rh3 (.cons ((rd.mono rh1 g2).mono rh2 g3) (re.mono rh2 g3) rp) f4
    . cases hc
theorem ZqH{T:Tb}{Y:Yx}(ps:Exs){Γ:Gm}{X:Cx}{E:XK}{k:Nat}{ks:List (Option Expr)}{vs:List Expr}{pos:Pos}(G:Gd T Γ X Y E k)(h15:ks.length<=15)(hc:chkp Γ ps ks vs=Ww)(hp:PPs X pos ks vs (Zk1 T Y E ps))(hall:ks.all (·.isSome)=Ww)(hl:ks.length=vs.length):PE X (.Dict ks vs pos) (ZbO T Y E (.dictl ps)):=by
 by_cases h0:ks=[]
 . subst h0;cases vs with
   |cons a b=>cases hl
   |nil=>
    cases ps with
    |cons k r=>
     cases r with
     |nil=>unfold chkp at hc;cases hc
     |cons v r'=>unfold chkp at hc;cases hc
    |nil=>refine ZnH.imp fun Z H Q ⟨S,h,B,rh,rs,f⟩ p hp=>?_;have f:Fin Y (RD Y) H B (ZcP (.dic []) h) Q E:=f;exact f.new rh hp ⟨[],Zi,.nil⟩ (fun p hp=>by cases hp)
 . refine(ZpS hp hall hl h0 h15).imp fun Z H Q ⟨S,h,B,rh,rs,f⟩ p hp=>?_;have np:p ∉ B:=fun z=>by have:=rh.mut z;rw[hp]at this;exact this
   refine ZnI ks.length ps (Oq _) hc (Gr.lay0 hp) (rh.lay0 hp) (rs.mono rh (Gr.lay0 hp)) f fun ds h1 qs H1 μ1 g1 rh1 rp f1=>?_;obtain⟨hl1,nD⟩:=g1.out (Zi (H:=H)) np;have g01:Gr H B H1 μ1:=(Gr.lay0 hp).trans g1;split at f1
   . rename_i kvs ek;obtain⟨hz,f1⟩:=f1.iff;obtain⟨kvs',rfl,rk⟩:=rp.pairs ek;refine⟨hl1,kvs',rfl,by rw[<- rk.length];exact hz,?_⟩;have f2:Fin Y (RD Y) H B (.ok (.ref h1.length) (h1++[.dic (Zb3 [] kvs)])) Q E:=f1;have g3:Gr H B (upd H1 p (.dK (ZdT [] kvs'))) (μ1++[p]):=by
      refine⟨fun j a e=>?_,fun a ha=>?_,fun b o hb e=>?_,fun b u v e=>by rw[Zg (fun z=>by rw[z,hp]at e;cases e)];exact g01.fz b u v e⟩
      . have:=g01.pre j a e;rw[Oe (Ob.mp this).1];exact this
      . rcases OD.mp ha with z|z
        . exact g01.new a z
        . rw[Ox.mp z];exact .inr hp
      . rw[Zg (fun z=>by rw[z,hp]at e;cases e)];exact g01.keep b o hb e
     refine f2.at g3 ?_ (.ref (by rw[rh1.len];simp));refine⟨by simp[rh1.len],?_,fun j o a e1 e2=>?_,Zj8 rh1.ks (show Zbo (Zb3 [] kvs)from Zem (rp.keysOk ek) (fun p hp=>by cases hp))⟩
     . rw[List.nodup_append];refine⟨rh1.nd,by simp,fun a ha b hb=>?_⟩;rw[Ox.mp hb];intro z;exact nD (z ▸ ha)
     . by_cases hj:j<h1.length
       . rw[Oe hj]at e1;rw[Oe (by rw[<- rh1.len];exact hj)]at e2;exact((rh1.ob j o a e1 e2).swapD hl1 (fun z=>nD (z ▸ O1 e2))).more
       . have hj':j=h1.length:=by have:=(Ob.mp e1).1;simp at this;omega
         subst hj';rw[Om (Oq _)]at e1;rw[Om (by rw[rh1.len];exact Oq _)]at e2;simp[rh1.len]at e1 e2;subst e1;subst e2;exact⟨_,Zi,((rk.merge .nil).swapD hl1).more⟩
   . exact f1.elim
mutual
theorem Zm{T:Tb}{Y:Yx}:∀(e:Ex) {Γ:Gm}{X:Cx}{E:XK}{k:Nat}{x:Expr},Gd T Γ X Y E k->chk Γ e x=Ww->PE X x (ZbO T Y E e)
 |.var i,Γ,X,E,k,x,G,h=>by
  unfold chk at h;split at h
  . rw[Oa,Oa,Oa]at h;obtain⟨⟨⟨h1,h2⟩,h3⟩,h4⟩:=h;refine(Zsf (by rw[G.N];exact of_decide_eq_true h1) (G.vis _ h2) (by simpa using h3) (by simpa using h4)).imp fun Z H Q ⟨S,h,B,rh,rs,f⟩=>?_;obtain⟨d,e,f⟩:=Fin.ofO (show Fin Y (RD Y) H B (R.ofO (S[i]?).join h) Q E from f);obtain⟨v,e1,rd⟩:=rs.var e;exact⟨v,e1,f.ok rh rd⟩
  . cases h
 |.cst d,Γ,X,E,k,x,G,h=>ZoH G (by unfold chk at h;exact h)
 |.glo y,Γ,X,E,k,x,G,h=>by
  unfold chk at h;split at h
  . rw[Oa]at h;have e:=of_decide_eq_true h.1;subst e;obtain⟨g1,g2⟩:=G.gl h.2;intro pins s Z H Q I ⟨S,h,B,rh,rs,f⟩;obtain⟨d,e,f⟩:=Fin.ofO (show Fin Y (RD Y) H B (R.ofO (T.G y) h) Q E from f);obtain⟨v,u,hm,rv,rd⟩:=G.gk.g y d e;exact ZpR g1 hm rv g2 pins s Z H Q I (f.ok rh (rd H B))
  . cases h
 |.bin op a b,Γ,X,E,k,x,G,h=>by
  unfold chk at h;split at h
  . rw[Oa,Oa]at h;have e:=of_decide_eq_true h.1.1;subst e;exact(Zug (Zsy G.gk.K op) (Zm a G h.1.2) (Zm b G h.2)).imp fun Z H Q ⟨S,h,B,rh,rs,f⟩=>Zpo rh rs f
  . cases h
 |.cmp op a b,Γ,X,E,k,x,G,h=>by
  unfold chk at h;split at h
  . rw[Oa,Oa,Oa]at h;have e:=of_decide_eq_true h.1.1.1;subst e;exact(ZpU (ZnL G.room G.h60 G.gk op) (Zm a G h.1.1.2) (Zm b G h.1.2) (Zll h.2)).imp fun Z H Q ⟨S,h,B,rh,rs,f⟩=>Zpo rh rs f
  . cases h
 |.cmp2 o1 o2 a b c,Γ,X,E,k,x,G,h=>by unfold chk at h;cases h
 |.neg a,Γ,X,E,k,x,G,h=>by
  unfold chk at h;split at h
  . refine(Zue ZrB (Zm a G h)).imp fun Z H Q ⟨S,h,B,rh,rs,f⟩=>⟨S,h,B,rh,rs,Fin.bind f fun d h1 x H1 μ1 _ g rh1 rd f1=>?_⟩
    cases rd with
    |int i=>exact⟨i,rfl,Fin.ok f1 rh1 (.int _)⟩
    |_=>exact f1.elim
  . cases h
 |.nt a,Γ,X,E,k,x,G,h=>by
  unfold chk at h;split at h
  . refine(Zsi (Zm a G h)).imp fun Z H Q ⟨S,h,B,rh,rs,f⟩=>⟨S,h,B,rh,rs,Fin.bind f fun d h1 x H1 μ1 _ g rh1 rd f1=>?_⟩
    cases rd with
    |bl i=>exact⟨i,rfl,Fin.ok f1 rh1 (.bl _)⟩
    |_=>exact f1.elim
  . cases h
 |.ands es,Γ,X,E,k,x,G,h=>by
  unfold chk at h;split at h
  . exact and_ok es G h
  . cases h
 |.ors es,Γ,X,E,k,x,G,h=>by
  unfold chk at h;split at h
  . exact or_ok es G h
  . cases h
 |.ite c a b,Γ,X,E,k,x,G,h=>by
  unfold chk at h;split at h
  . rw[Oa,Oa]at h;refine(ZnG (tst_ok c G h.1.1) (Zm a G h.1.2) (Zm b G h.2)).imp fun Z H Q ⟨S,h,B,rh,rs,f⟩=>⟨S,h,B,rh,rs,Fin.bind f fun d h1 x H1 μ1 _ g rh1 rd f1=>?_⟩
    subst rd;cases d with
    |true=>exact Zkm ⟨S,h1,μ1,rh1,rs.mono rh g,f1⟩
    |false=>exact Zkn ⟨S,h1,μ1,rh1,rs.mono rh g,f1⟩
  . cases h
 |.tupl es,Γ,X,E,k,x,G,h=>by
  unfold chk at h;split at h
  . refine(Zsg (evs_ok es G h)).imp fun Z H Q ⟨S,h,B,rh,rs,f⟩=>⟨S,h,B,rh,rs,Fin.bind f fun d h1 x H1 μ1 _ g rh1 rd f1=>?_⟩
    obtain⟨hz,f1⟩:=f1.iff;exact⟨by rw[<- rd.length];exact hz,fun p hp=>f1.tup rh1 hp rd⟩
  . cases h
 |.lstl es,Γ,X,E,k,x,G,h=>by
  unfold chk at h;split at h
  . refine(Zsj (evs_ok es G h)).imp fun Z H Q ⟨S,h,B,rh,rs,f⟩=>⟨S,h,B,rh,rs,Fin.bind f fun d h1 x H1 μ1 _ g rh1 rd f1=>?_⟩
    obtain⟨hz,f1⟩:=f1.iff;exact⟨by rw[<- rd.length];exact hz,fun p hp=>f1.new rh1 hp ⟨_,Zi,rd.mono rh1 (Gr.lay hp)⟩⟩
  . cases h
 |.ix a i,Γ,X,E,k,x,G,h=>by
  unfold chk at h;split at h
  . rw[Oa,Oa]at h;exact(Zuh (Zp5 G.gk) (Zm a G h.1.1) (Zm i G h.1.2) (Zm2 h.2)).imp fun Z H Q ⟨S,h,B,rh,rs,f⟩=>Zpo rh rs f
  . cases h
 |.sl a lo hi,Γ,X,E,k,x,G,h=>by
  unfold chk at h;split at h
  . rw[Oa,Oa]at h;refine(ZnA (Zp3 (E:=E) G.gk.K) (Zm a G h.1.1) (evo_ok lo G h.1.2) (evo_ok hi G h.2)).imp fun Z H Q ⟨S,h,B,rh,rs,f⟩=>⟨S,h,B,rh,rs,Fin.bind f fun d h1 x H1 μ1 _ g rh1 rd f1=>⟨S,h1,μ1,rh1,rs.mono rh g,Fin.bind f1 fun l h2 l' H2 μ2 _ g2 rh2 rl f2=>⟨S,h2,μ2,rh2,(rs.mono rh g).mono rh1 g2,Fin.bind f2 fun u h3 u' H3 μ3 _ g3 rh3 ru f3=>?_⟩⟩⟩
    subst rl ru;exact⟨d,h3,μ3,rh3,(rd.mono rh1 g2).mono rh2 g3,f3⟩
  . cases h
 |.blt f es,Γ,X,E,k,x,G,h=>by
  unfold chk at h;split at h
  . rename_i y ys _;rw[Oa,Oa]at h;have e:=of_decide_eq_true h.1.1;subst e;have hs:=h.2;have st:Z7 y=Ww:=by
     cases es with
     |nil=>rw[chks]at hs;cases hs
     |cons e r=>rw[chks,Oa,Oa]at hs;exact hs.1.2
    have sp:∀pos,(YS pos (YA ys X.env)).any (·.1)=Wx:=by
     cases es with
     |nil=>rw[chks]at hs;cases hs
     |cons e r=>rw[chks,Oa,Oa]at hs;exact Zbv Γ X.env r ys hs.2
    exact(Ztc G f ((Oa _ _).mp h.1.2).1 (G.gl ((Oa _ _).mp h.1.2).2).1 (evs_ok es G h.2) (Zo X.env st) (sp _)).imp fun Z H Q ⟨S,h,B,rh,rs,f⟩=>⟨S,h,B,rh,rs,Fin.bind f fun d h1 x H1 μ1 _ g rh1 rd f1=>⟨d,h1,μ1,rh1,rd,f1⟩⟩
  . cases h
 |.call f es,Γ,X,E,k,x,G,h=>by
  unfold chk at h;split at h
  . rename_i y ys _;rw[Oa,Oa,Oa]at h;have e:=of_decide_eq_true h.1.1.1;subst e;obtain⟨ps,hd⟩:=G.defs _ (of_decide_eq_true h.1.1.2);obtain⟨g1,g2⟩:=G.gl h.1.2;have hs:=h.2;have st:Z7 y=Ww:=by
     cases es with
     |nil=>rw[chks]at hs;cases hs
     |cons e r=>rw[chks,Oa,Oa]at hs;exact hs.1.2
    have sp:∀pos,(YS pos (YA ys X.env)).any (·.1)=Wx:=by
     cases es with
     |nil=>rw[chks]at hs;cases hs
     |cons e r=>rw[chks,Oa,Oa]at hs;exact Zbv Γ X.env r ys hs.2
    exact(Zsl hd G.room g1 G.pass (evs_ok es G h.2) g2 (Zo X.env st) (sp _)).imp fun Z H Q ⟨S,h,B,rh,rs,f⟩=>⟨S,h,B,rh,rs,Fin.bind f fun d h1 x H1 μ1 _ g rh1 rd f1=>⟨d,h1,μ1,rh1,rd,f1⟩⟩
  . cases h
 |.meth m o es,Γ,X,E,k,x,G,h=>by
  unfold chk at h;split at h
  . rename_i xo n ap ys cp;rw[Oa,Oa,Oa,Oa,Oa]at h;obtain⟨⟨⟨⟨⟨h1,h2⟩,h3⟩,h4⟩,h5⟩,h6⟩:=h;have e:=of_decide_eq_true h1;subst e;obtain⟨sl,ty⟩:=Zuy m;have tyl:∀{H1:Hp}{μ1:List Yi}{h1:Hd}{d:D}{v:V},RH Y H1 μ1 h1->RD Y H1 μ1 d v->ZcI d h1=Ww->tyV X.K "list" v H1:=by
     intro H1 μ1 h1 d v rh r il;cases r with
     |ref q=>
      rename_i i a;have:∃xs,h1[i]? = Wu (.lst xs):=by
       unfold ZcI at il;simp only at il;split at il
       . exact⟨_,by assumption⟩
       . cases il
      obtain⟨xs,hx⟩:=this;obtain⟨vs,hl,_⟩:=rh.ob i _ a hx q;exact .inl ⟨rfl,vs,.of hl⟩
     |_=>cases il
    cases ys with
    |nil=>
     refine(Zsm PySem.F.plainAttrs_list sl ty (Zlk (Y:=Y) (E:=E) G.gk.K m) (Zm o G h2) (Zfp h3) h6).imp fun Z H Q ⟨S,h,B,rh,rs,f⟩=>⟨S,h,B,rh,rs,Fin.bind f fun d h1 x H1 μ1 _ g rh1 rd f1=>?_⟩
     obtain⟨il,f1⟩:=f1.iff;refine⟨tyl rh1 rd il,?_⟩;cases es with
     |nil=>exact⟨d,[],h1,μ1,rh1,rd,.nil,f1⟩
     |cons e r=>unfold chks at h4;cases h4
    |cons y ys=>
     have st:Z7 y=Ww:=by
      cases es with
      |nil=>unfold chks at h4;cases h4
      |cons e r=>unfold chks at h4;rw[Oa,Oa]at h4;exact h4.1.2
     have sp:∀pos,(YS pos (YA ys X.env)).any (·.1)=Wx:=by
      cases es with
      |nil=>unfold chks at h4;cases h4
      |cons e r=>unfold chks at h4;rw[Oa,Oa]at h4;exact Zbv Γ X.env r ys h4.2
     refine(Zui PySem.F.plainAttrs_list sl ty (Zlk (Y:=Y) (E:=E) G.gk.K m) (Zm o G h2) (evs_ok es G h4) (Zfp h3) ?_ h6 (Zo X.env st) (sp _)).imp fun Z H Q ⟨S,h,B,rh,rs,f⟩=>⟨S,h,B,rh,rs,Fin.bind f fun d h1 x H1 μ1 _ g rh1 rd f1=>?_⟩
     . rw[ZeD Γ X.env es (y::ys) h4];have:=of_decide_eq_true h5;have h30:Wy ((y::ys).length+([]:List Keyword).length+(if ([]:List Keyword).isEmpty then 0 else 1)<30)=Ww:=by rw[decide_eq_true_eq];simp only[List.isEmpty_nil,List.length_nil,if_true];omega
       rw[h30];rfl
     . obtain⟨il,f1⟩:=f1.iff;exact⟨tyl rh1 rd il,S,h1,μ1,rh1,rs.mono rh g,f1.bind fun ds h2 xs H2 μ2 _ g2 rh2 rds f2=>⟨d,ds,h2,μ2,rh2,rd.mono rh1 g2,rds,f2⟩⟩
  . cases h
 |.comp NC js it g c e,Γ,X,E,k,x,G,h=>by
  unfold chk at h;split at h
  . rename_i scope _;rw[Oa,Oa,Oa,Oa,Oa,Oa,Oa]at h;obtain⟨⟨⟨⟨⟨⟨⟨h0,h1⟩,h2⟩,h3⟩,h4⟩,h5⟩,h6⟩,h7⟩:=h;have S_:=Zjd h1;rw[<- G.N,<- G.sc h0]at S_;have Gc:=fun(C:Yi) (s3:Yb) (H3:Hp) (fp:List Yi)=>G.comp NC scope C s3 H3 fp S_.nd;rw[OC]at h5;refine(ZpT (g:=tgR X.K g) (tc:=fun Z H Q=>∃S h B,RH Y H B h/\RS Y H B S Z/\Fin Y (fun _ _ (a b:Bool)=>a=b) H B (tsto T c S h) Q E0) (te:=ZbO T Y E0 e) S_ rfl G.calm (evi_ok it G h2) (fun C s3 H3 fp=>⟨Zlg rfl S_.nd rfl (fun x hx=>?_) h4,?_,Zm e (Gc C s3 H3 fp) h7⟩) (ZtF X.K g) (fun j hj=>of_decide_eq_true (h5 j (List.mem_range.mpr hj))) (ZjB X.env h3)).imp
     fun Z H Q ⟨S,h,B,rh,rs,f⟩=>⟨S,h,B,rh,rs,Fin.bind f fun w h1 J H1 μ1 _ g1 rh1 wj f1 D hD=>ZlD G.gk.K (fun _ _ _ z=>z) rh1 (rs.mono rh g1) wj f1 hD⟩
    . have hl:=of_decide_eq_true hx;have:(relabel scope X.env).names.lookup x=Wu .local:=by rw[ZaF,hl];rfl
      exact⟨.inl this,.inr this⟩
    . exact ifs_ok c (Gc C s3 H3 fp) h6
  . cases h
 |.sorts e,Γ,X,E,k,x,G,h=>by unfold chk at h;cases h
 |.trev e,Γ,X,E,k,x,G,h=>by unfold chk at h;cases h
 |.lrv e,Γ,X,E,k,x,G,h=>by unfold chk at h;cases h
 |.tix o e,Γ,X,E,k,x,G,h=>by unfold chk at h;cases h
 |.lix o e,Γ,X,E,k,x,G,h=>by unfold chk at h;cases h
 |.lin a b,Γ,X,E,k,x,G,h=>by unfold chk at h;cases h
 |.any,Γ,X,E,k,x,G,h=>fun pins s Z H Q I ⟨S,h,B,rh,rs,f⟩=>f.elim
 |.att Cs o f,Γ,X,E,k,x,G,h=>by
  unfold chk at h;split at h
  . rw[Oa,Oa,Oa,Oa]at h;obtain⟨⟨⟨⟨h1,h2⟩,h3⟩,h4⟩,h5⟩:=h;have e:=of_decide_eq_true h1;subst e;exact(Zsk (Zm o G h2) (Zfp h3)).imp fun Z H Q ⟨S,h,B,rh,rs,f⟩=>⟨S,h,B,rh,rs,Fin.bind f fun d h1 x H1 μ1 _ g rh1 rd f1=>Ztg G h4 (of_decide_eq_true h5) rh1 rd f1⟩
  . cases h
 |.mk C es,Γ,X,E,k,x,G,h=>by
  unfold chk at h;split at h
  . rw[Oa,Oa,Oa]at h;obtain⟨⟨⟨h1,h2⟩,h3⟩,h4⟩:=h;have e:=of_decide_eq_true h1;subst e;exact Zuz G (of_decide_eq_true h2) h3 h4 (evs_ok es G h4)
  . cases h
 |.mcl C m o es,Γ,X,E,k,x,G,h=>by
  unfold chk at h;split at h
  . rw[Oa,Oa,Oa,Oa,Oa,Oa]at h;obtain⟨⟨⟨⟨⟨⟨h1,h2⟩,h3⟩,h4⟩,h5⟩,h6⟩,h7⟩:=h;have e:=of_decide_eq_true h1;subst e;exact ZsF G (of_decide_eq_true h5) h3 h4 (of_decide_eq_true h6) h7 (Zm o G h2) (evs_ok es G h4)
  . cases h
 |.maxd a d,Γ,X,E,k,x,G,h=>by
  unfold chk at h;split at h
  . rw[Oa,Oa,Oa,Oa,Oa]at h;obtain⟨⟨⟨⟨⟨h1,h2⟩,h3⟩,h4⟩,h5⟩,h6⟩:=h;have e1:=of_decide_eq_true h1;have e2:=of_decide_eq_true h2;subst e1 e2;refine(ZpP (G.gl h3).1 (G.blt _ (by decide)) G.calm (Zm a G h4) (Zm d G h6) (Zo X.env h5)).imp fun Z H Q ⟨S,h,B,rh,rs,f⟩=>⟨S,h,B,rh,rs,Fin.bind f fun x h1 v H1 μ1 _ g rh1 rx f1=>⟨S,h1,μ1,rh1,rs.mono rh g,Fin.bind f1 fun y h2 u H2 μ2 _ g2 rh2 ry f2=>?_⟩⟩
    cases ry with
    |int d=>obtain⟨r,er,f2⟩:=Fin.ofO (show Fin Y (RD Y) H2 μ2 (R.ofO (((lstOf x h2).bind intsOf).map fun ns=>.int (Zc0 ns d)) h2) Q E from f2);obtain⟨ns,e2,rfl⟩:=Oo.mp er;obtain⟨zs,e3,e4⟩:=Option.bind_eq_some_iff.mp e2;obtain⟨a,vs,rfl,hl,rv⟩:=(rx.mono rh1 g2).lstOf rh2 e3;rw[Zf9 rv e4]at hl;exact⟨a,ns,d,rfl,rfl,G.gk.K ▸ hl,f2.ok rh2 (.int _)⟩
    |_=>exact f2.elim
  . cases h
 |.dictl ps,Γ,X,E,k,x,G,h=>by
  unfold chk at h;split at h
  . rw[Oa]at h;obtain⟨p1,p2,p3⟩:=pairs_ok ps G h.2;exact ZqH ps G (of_decide_eq_true h.1) h.2 p1 p2 p3
  . cases h
theorem evs_ok{T:Tb}{Y:Yx}:∀(e:Exs) {Γ:Gm}{X:Cx}{E:XK}{k:Nat}{x:List Expr},Gd T Γ X Y E k->chks Γ e x=Ww->PA X x (Zpn T Y E e)
 |.nil,Γ,X,E,k,x,G,h=>by
  rw[chks]at h;cases x with
  |nil=>exact ZfY.imp fun Z H Q ⟨S,h,B,rh,rs,f⟩=>Fin.ok (show Fin Y (RDs Y) H B (.ok [] h) Q E from f) rh .nil
  |cons a b=>cases h
 |.cons e r,Γ,X,E,k,x,G,h=>by
  cases x with
  |nil=>rw[chks]at h;cases h
  |cons y ys=>
   rw[chks,Oa,Oa]at h;exact(Zeg (Zm e G h.1.1) (evs_ok r G h.2) (Zo X.env h.1.2)).imp fun Z H Q ⟨S,h,B,rh,rs,f⟩=>⟨S,h,B,rh,rs,Fin.bind f fun d h1 x H1 μ1 _ g rh1 rd f1=>⟨S,h1,μ1,rh1,rs.mono rh g,f1.bind fun ds h2 xs H2 μ2 _ g2 rh2 rds f2=>f2.ok rh2 (.cons (rd.mono rh1 g2) rds)⟩⟩
theorem and_ok{T:Tb}{Y:Yx}:∀(e:Exs) {Γ:Gm}{X:Cx}{E:XK}{k:Nat}{x:List Expr}{pos:Pos},Gd T Γ X Y E k->chks Γ e x=Ww->PE X (.BoolOp .And x pos) (ZbO T Y E (.ands e))
 |.nil,Γ,X,E,k,x,pos,G,h=>fun pins s Z H Q I ⟨S,h,B,rh,rs,f⟩=>f.elim
 |.cons e r,Γ,X,E,k,x,pos,G,h=>by
  cases x with
  |nil=>rw[chks]at h;cases h
  |cons y ys=>
   rw[chks,Oa,Oa]at h;cases r with
   |nil=>
    have h2:=h.2;rw[chks]at h2;cases ys with
    |nil=>exact(ZnB (Zm e G h.1.1)).imp fun Z H Q q=>q
    |cons a b=>cases h2
   |cons e' r'=>
    cases ys with
    |nil=>have h2:=h.2;rw[chks]at h2;cases h2
    |cons z zs=>
     refine(Zsn (Zm e G h.1.1) (and_ok (.cons e' r') G h.2)).imp fun Z H Q ⟨S,h,B,rh,rs,f⟩=>⟨S,h,B,rh,rs,Fin.bind f fun d h1 x H1 μ1 _ g rh1 rd f1=>?_⟩
     cases rd with
     |bl c=>
      refine⟨c,rfl,?_⟩;cases c with
      |true=>exact Zkm ⟨S,h1,μ1,rh1,rs.mono rh g,f1⟩
      |false=>exact Zkn (Fin.ok f1 rh1 (.bl _))
     |_=>exact f1.elim
theorem or_ok{T:Tb}{Y:Yx}:∀(e:Exs) {Γ:Gm}{X:Cx}{E:XK}{k:Nat}{x:List Expr}{pos:Pos},Gd T Γ X Y E k->chks Γ e x=Ww->PE X (.BoolOp .Or x pos) (ZbO T Y E (.ors e))
 |.nil,Γ,X,E,k,x,pos,G,h=>fun pins s Z H Q I ⟨S,h,B,rh,rs,f⟩=>f.elim
 |.cons e r,Γ,X,E,k,x,pos,G,h=>by
  cases x with
  |nil=>rw[chks]at h;cases h
  |cons y ys=>
   rw[chks,Oa,Oa]at h;cases r with
   |nil=>
    have h2:=h.2;rw[chks]at h2;cases ys with
    |nil=>exact(ZnB (Zm e G h.1.1)).imp fun Z H Q q=>q
    |cons a b=>cases h2
   |cons e' r'=>
    cases ys with
    |nil=>have h2:=h.2;rw[chks]at h2;cases h2
    |cons z zs=>
     refine(Zuf (Zm e G h.1.1) (or_ok (.cons e' r') G h.2)).imp fun Z H Q ⟨S,h,B,rh,rs,f⟩=>⟨S,h,B,rh,rs,Fin.bind f fun d h1 x H1 μ1 _ g rh1 rd f1=>?_⟩
     cases rd with
     |bl c=>
      refine⟨c,rfl,?_⟩;cases c with
      |true=>exact Zkm (Fin.ok f1 rh1 (.bl _))
      |false=>exact Zkn ⟨S,h1,μ1,rh1,rs.mono rh g,f1⟩
     |_=>exact f1.elim
theorem evo_ok{T:Tb}{Y:Yx}:∀(e:Option Ex) {Γ:Gm}{X:Cx}{E:XK}{k:Nat}{x:Option Expr},Gd T Γ X Y E k->chko Γ e x=Ww->PO X x (ZvH T Y E e)
 |none,Γ,X,E,k,x,G,h=>by
  unfold chko at h;cases x with
  |none=>exact ZpJ.imp fun Z H Q ⟨S,h,B,rh,rs,f⟩=>Fin.ok (show Fin Y _ H B (.ok Wv h) Q E from f) rh rfl
  |some a=>cases h
 |some e,Γ,X,E,k,x,G,h=>by
  unfold chko at h;cases x with
  |none=>cases h
  |some a=>
   refine(ZpI (Zm e G h)).imp fun Z H Q ⟨S,h,B,rh,rs,f⟩=>⟨S,h,B,rh,rs,Fin.bind f fun d h1 x H1 μ1 _ g rh1 rd f1=>?_⟩
   cases rd with
   |int i=>exact⟨i,rfl,Fin.ok f1 rh1 rfl⟩
   |_=>exact f1.elim
theorem tst_ok{T:Tb}{Y:Yx}:∀ (e:Tx) {Γ:Gm}{X:Cx}{E:XK}{k:Nat}{x:Expr},Gd T Γ X Y E k->chkt Γ e x=Ww->PT X x (Zm7 T Y E e)
 | .ex e,Γ,X,E,k,x,G,h=>by
   unfold chkt at h;rw [Oa] at h;have pl:=Zl7 G (Zm e G h.2) h.1;by_cases hx:∀ l o r p,x≠.Compare l o r p
   . exact pl hx
   . have h2:=h.2;cases e with
     | cmp op a b =>
       unfold chk at h2;split at h2
       . rw [Oa,Oa,Oa] at h2;have e:=of_decide_eq_true h2.1.1.1;subst e;exact ZqJ G (Zm a G h2.1.1.2) (Zm b G h2.1.2) h2.2
       . cases h2
     | lin a b=>unfold chk at h2;cases h2
     | cmp2 o1 o2 a b c=>unfold chk at h2;cases h2
     | _ =>
       refine pl fun l o r p z=>?_;subst z;rcases ZqL h2 with ⟨_,_,_,q⟩|⟨_,_,_,_,_,q⟩|⟨_,_,q⟩<;>cases q
 | .ands ts,Γ,X,E,k,x,G,h=>by
   unfold chkt at h;split at h
   . exact (tand_ok ts G h).pt
   . cases h
 | .ors ts,Γ,X,E,k,x,G,h=>by
   unfold chkt at h;split at h
   . exact (tor_ok ts G h).pt
   . cases h
 | .nt t,Γ,X,E,k,x,G,h=>by
   unfold chkt at h;split at h
   . exact (Zr5 (tst_ok t G h)).imp fun Z H Q ⟨S,h,B,rh,rs,f⟩=>⟨S,h,B,rh,rs,Fin.bind (show Fin Y _ H B ((tst T t S h).bind fun c h1=>.ok (!c) h1) Q E from f) fun d h1 x H1 μ1 er g rh1 rd f1=>by
       subst rd;exact Fin.ok f1 rh1 rfl⟩
   . cases h
theorem tand_ok{T:Tb}{Y:Yx}:∀(e:Txs) {Γ:Gm}{X:Cx}{E:XK}{k:Nat}{x:List Expr}{pos:Pos},Gd T Γ X Y E k->chkts Γ e x=Ww->PW X (.BoolOp .And x pos) (Zm7 T Y E (.ands e))
 |.one t,Γ,X,E,k,x,pos,G,h=>by
  unfold chkts at h;split at h
  . exact(ZpA (tst_ok t G h)).imp fun Z H Q q=>q
  . cases h
 |.cons t ts,Γ,X,E,k,x,pos,G,h=>by
  unfold chkts at h;split at h
  . rw[Oa]at h;refine(Zr3 (tst_ok t G h.1) (tand_ok ts G h.2)).imp fun Z H Q ⟨S,h,B,rh,rs,f⟩=>⟨S,h,B,rh,rs,Fin.bind (show Fin Y _ H B ((tst T t S h).bind fun c h1=>if c then tstAnd T ts S h1 else .ok Wx h1) Q E from f) fun d h1 x H1 μ1 er g rh1 rd f1=>?_⟩
    subst rd;cases d with
    |true=>exact Zkm ⟨S,h1,μ1,rh1,rs.mono rh g,f1⟩
    |false=>exact Zkn (Fin.ok f1 rh1 rfl)
  . cases h
theorem tor_ok{T:Tb}{Y:Yx}:∀(e:Txs) {Γ:Gm}{X:Cx}{E:XK}{k:Nat}{x:List Expr}{pos:Pos},Gd T Γ X Y E k->chkts Γ e x=Ww->PW X (.BoolOp .Or x pos) (Zm7 T Y E (.ors e))
 |.one t,Γ,X,E,k,x,pos,G,h=>by
  unfold chkts at h;split at h
  . exact(Zr2 (tst_ok t G h)).imp fun Z H Q q=>q
  . cases h
 |.cons t ts,Γ,X,E,k,x,pos,G,h=>by
  unfold chkts at h;split at h
  . rw[Oa]at h;refine(Zt9 (tst_ok t G h.1) (tor_ok ts G h.2)).imp fun Z H Q ⟨S,h,B,rh,rs,f⟩=>⟨S,h,B,rh,rs,Fin.bind (show Fin Y _ H B ((tst T t S h).bind fun c h1=>if c then .ok Ww h1 else tstOr T ts S h1) Q E from f) fun d h1 x H1 μ1 er g rh1 rd f1=>?_⟩
    subst rd;cases d with
    |true=>exact Zkm (Fin.ok f1 rh1 rfl)
    |false=>exact Zkn ⟨S,h1,μ1,rh1,rs.mono rh g,f1⟩
  . cases h
theorem ifs_ok{T:Tb}{Y:Yx}:∀(c:Option Tx) {Γ:Gm}{X:Cx}{E:XK}{k:Nat}{x:List Expr},Gd T Γ X Y E k->chkf Γ c x=Ww->PIf X x (fun Z H Q=>∃S h B,RH Y H B h/\RS Y H B S Z/\Fin Y (fun _ _ (a b:Bool)=>a=b) H B (tsto T c S h) Q E)
 |none,Γ,X,E,k,x,G,h=>by
  unfold chkf at h;cases x with
  |nil=>intro pins s Z H Q I ⟨S,h,B,rh,rs,f⟩;exact ZpL pins s Z H Q I (Fin.ok (show Fin Y (fun _ _ (a b:Bool)=>a=b) H B (.ok Ww h) Q E from f) rh rfl)
  |cons a b=>cases h
 |some t,Γ,X,E,k,x,G,h=>by
  unfold chkf at h;split at h
  . exact ZpK (tst_ok t G h)
  . cases h
theorem evi_ok{T:Tb}{Y:Yx}:∀(e:Ix) {Γ:Gm}{X:Cx}{E:XK}{k:Nat}{x tg:Expr},Gd T Γ X Y E k->chki Γ e tg x=Ww->PI X tg x (ZvI T Y E e)
 |.pl e,Γ,X,E,k,x,tg,G,h=>by
  unfold chki at h;refine(Zsd (Zm e G h)).imp fun Z H Q ⟨S,h,B,rh,rs,f⟩=>⟨S,h,B,rh,rs,Fin.bind (show Fin Y _ H B ((ev T e S h).bind fun x h1=>R.ofO (Zar x h1) h1) Q E from f) fun d h1 x H1 μ1 er g rh1 rd f1=>?_⟩
  obtain⟨w,ew,f1⟩:=f1.ofO;exact Zo6 G.gk.K rh1 rd ew fun J wj=>f1.ok rh1 wj
 |.rng e,Γ,X,E,k,x,tg,G,h=>by
  unfold chki at h;split at h
  . rw[Oa,Oa,Oa]at h;obtain⟨⟨⟨h1,h2⟩,h3⟩,h4⟩:=h;have e1:=of_decide_eq_true h1;subst e1;refine(Zl9 (G.gl h2).1 (G.blt _ (by decide)) (Zeg (Zm e G h3) ZfY (Zo X.env h4)) (Zo X.env h4)).imp fun Z H Q ⟨S,h,B,rh,rs,f⟩=>⟨S,h,B,rh,rs,Fin.bind f fun d h1 x H1 μ1 er g rh1 rd f1=>?_⟩
    cases rd with
    |int j=>obtain⟨hz,f1⟩:=Fin.iff (show Fin Y (WJ Y) H1 μ1 (if Zan j=Ww then .ok ⟨Wv,ZC 0 j.toNat⟩ h1 else .bad) Q E from f1);unfold Zan at hz;rw[Oa]at hz;exact⟨j,rfl,of_decide_eq_true hz.1,of_decide_eq_true hz.2,f1.ok rh1 Zrx⟩
    |_=>exact f1.elim
  . cases h
 |.rng2 a b,Γ,X,E,k,x,tg,G,h=>by unfold chki at h;cases h
 |.enu e,Γ,X,E,k,x,tg,G,h=>by
  unfold chki at h;split at h
  . rw[Oa,Oa,Oa,Oa]at h;obtain⟨⟨⟨⟨h1,h2⟩,h3⟩,h4⟩,h5⟩:=h;have e1:=of_decide_eq_true h1;subst e1;have:∃es kk tp,tg=.Tuple es kk tp:=by cases tg<;>first|exact⟨_,_,_,rfl⟩|cases h5
    obtain⟨es,kk,tp,rfl⟩:=this;refine(ZpN (G.gl h2).1 (G.blt _ (by decide)) (Zeg (Zm e G h3) ZfY (Zo X.env h4)) (Zo X.env h4)).imp fun Z H Q ⟨S,h,B,rh,rs,f⟩=>⟨S,h,B,rh,rs,Fin.bind f fun d h1 x H1 μ1 er g rh1 rd f1=>?_⟩
    obtain⟨w,ew,f1⟩:=f1.ofO;obtain⟨w0,ew0,rfl⟩:=Oo.mp ew;cases d with
    |ro xs=>
     cases ew0;cases rd with
     |ro t s=>refine⟨_,rfl,⟨_,G.gk.K ▸ t.sq⟩,f1.ok rh1 (ZkU (ZqZ G.gk.K rh1 t s) fun H2 μ2 h2 g2 rh2 st=>⟨_,G.gk.K ▸ (g2.rdF rh1 t).sq,s.mono rh1 g2⟩)⟩
    |ref i=>
     unfold ZkV at ew0;simp only at ew0;split at ew0
     . rename_i xs hi;cases ew0;obtain⟨a,vs,rfl,hm,hl,s⟩:=rd.lst rh1 hi;refine⟨a,rfl,⟨vs,.of hl⟩,f1.ok rh1 (ZkU (ZmN hm) fun H2 μ2 h2 g2 rh2 st=>?_)⟩;obtain⟨vs2,hl2,s2⟩:=rh2.ob i _ a (ZfB st) (g2.pre i a hm);exact⟨vs2,.of hl2,s2⟩
     . cases ew0
    |_=>cases ew0
  . cases h
 |.rev e,Γ,X,E,k,x,tg,G,h=>by
  unfold chki at h;split at h
  . rw[Oa,Oa,Oa]at h;obtain⟨⟨⟨h1,h2⟩,h3⟩,h4⟩:=h;have e1:=of_decide_eq_true h1;subst e1;refine(ZpM (G.gl h2).1 (G.blt _ (by decide)) (Zeg (Zm e G h3) ZfY (Zo X.env h4)) (Zo X.env h4)).imp fun Z H Q ⟨S,h,B,rh,rs,f⟩=>⟨S,h,B,rh,rs,Fin.bind f fun d h1 x H1 μ1 er g rh1 rd f1=>?_⟩
    obtain⟨w,ew,f1⟩:=f1.ofO;obtain⟨w0,ew0,rfl⟩:=Oo.mp ew;cases d with
    |tup xs=>cases ew0;obtain⟨a,vs,rfl,t,s⟩:=rd.tup_inv;exact⟨a,vs,rfl,.inl ⟨G.gk.K ▸ t,f1.ok rh1 (Zry G.gk.K rh1 t s)⟩⟩
    |ref i=>
     unfold Zfw at ew0;simp only at ew0;split at ew0
     . rename_i xs ex;cases ew0;obtain⟨a,vs,rfl,hi,hl,s⟩:=rd.lst rh1 ex;exact⟨a,vs,rfl,.inr ⟨.of hl,by rw[<- s.length];exact f1.ok rh1 (Zo2 hi)⟩⟩
     . cases ew0
    |_=>cases ew0
  . cases h
 |.en1 e,Γ,X,E,k,x,tg,G,h=>by
  unfold chki at h;split at h
  . rw[Oa,Oa,Oa,Oa,Oa]at h;obtain⟨⟨⟨⟨⟨h1,h0⟩,h2⟩,h3⟩,h4⟩,h5⟩:=h;have e1:=of_decide_eq_true h1;have e0:=of_decide_eq_true h0;subst e1 e0;have:∃es kk tp,tg=.Tuple es kk tp:=by cases tg<;>first|exact⟨_,_,_,rfl⟩|cases h5
    obtain⟨es,kk,tp,rfl⟩:=this;refine(Zsc (G.gl h2).1 (G.blt _ (by decide)) (Zm e G h3) ZnF (Zo X.env h4)).imp fun Z H Q ⟨S,h,B,rh,rs,f⟩=>⟨S,h,B,rh,rs,Fin.bind f fun d h1 x H1 μ1 er g rh1 rd f1=>?_⟩
    cases d with
    |tup xs=>obtain⟨a,vs,rfl,t,s⟩:=rd.tup_inv;exact⟨a,rfl,rfl,⟨vs,G.gk.K ▸ t⟩,f1.ok rh1 (Zrz G.gk.K rh1 t s)⟩
    |_=>exact f1.elim
  . cases h
 |.en0 e,Γ,X,E,k,x,tg,G,h=>by unfold chki at h;cases h
 |.dk e,Γ,X,E,k,x,tg,G,h=>by unfold chki at h;exact(Zud (Zm e G h)).imp fun Z H Q ⟨S,h,B,rh,rs,f⟩=>⟨S,h,B,rh,rs,Fin.bind f fun d h1 x H1 μ1 er g rh1 rd f1=>Zs0 rh1 rd f1⟩
theorem pairs_ok{T:Tb}{Y:Yx}:∀(ps:Exs) {Γ:Gm}{X:Cx}{E:XK}{k:Nat}{ks:List (Option Expr)}{vs:List Expr}{pos:Pos},Gd T Γ X Y E k->chkp Γ ps ks vs=Ww->PPs X pos ks vs (Zk1 T Y E ps)/\ks.all (·.isSome)=Ww/\ks.length=vs.length
 |.nil,Γ,X,E,k,ks,vs,pos,G,h=>by
  unfold chkp at h;rw[Oa]at h;cases ks with
  |nil=>cases vs with
   |nil=>exact⟨ZpH,rfl,rfl⟩
   |cons a b=>cases h.2
  |cons a b=>cases h.1
 |.cons e r,Γ,X,E,k,ks,vs,pos,G,h=>by
  cases r with
  |nil=>unfold chkp at h;cases h
  |cons v r'=>
   unfold chkp at h;simp only at h;split at h
   . rw[Oa,Oa]at h;obtain⟨p1,p2,p3⟩:=pairs_ok r' (pos:=pos) G h.2;refine⟨Znv (Zm e G h.1.1) (Zm v G h.1.2) p1,?_,?_⟩
     . rw[List.all_cons,p2];rfl
     . rw[Os,Os,p3]
   . cases h
end
end IV
end
section
namespace IV
open PySem PySem.Spec PyProof.Rows L2
noncomputable def Zej:Expr->Bool
 |.ListComp _ _ _ _|.SetComp _ _ _ _|.DictComp _ _ _ _ _=>Wx
 |_=>Ww
noncomputable def ZnP:Expr->Bool
 |.Tuple _ _ _=>Wx
 |_=>Ww
noncomputable def ZiX:Expr->Expr->Bool
 |.Name _ _,.ListComp _ _ _ _=>Ww
 |_,_=>Wx
noncomputable def ZqM(Γ:Gm)(C:Str)(e:Expr):Bool:=match asName e with
 |some c=>Wy (c=C)&&Wy (C∈Γ.kl.xs)&&glb Γ c
 |none=>Wx
noncomputable def Zrm(Γ:Gm)(C:Str)(e:Ex)(x:Expr):Bool:=match x with
 |.Call g as ks _=>ZqM Γ C g&&ks.isEmpty&&chks Γ (.cons e .nil) as
 |_=>Wx
noncomputable def ZlG(Γ:Gm)(i:Nat)(e:Ex)(b:List Stmt):Bool:=match b with
 |[s]=>match s with
  |.Assign ts x _=>(match ts with
   |[g]=>ZkC Γ.N (ownD Γ.sc) (.nm i) g
   |_=>Wx)&&chk Γ e x
  |_=>Wx
 |_=>Wx
noncomputable def Zrl(Γ:Gm)(i:Nat)(C:Str)(hs:List ExceptHandler):Bool:=match hs with
 |[.ExceptHandler (Wu t) Wv b _]=>ZqM Γ C t&&ZlG Γ i (.cst .non) b
 |_=>Wx
theorem ZlF{Γ:Gm}{C:Str}{e:Expr}(h:ZqM Γ C e=Ww):(∃p,e=.Name C p)/\C∈Γ.kl.xs/\glb Γ C=Ww:=by
 unfold ZqM at h;cases q:asName e with
 |none=>rw[q]at h;cases h
 |some c=>rw[q]at h;rw[Oa,Oa]at h;obtain⟨p,rfl⟩:=Zd2 q;have e:=of_decide_eq_true h.1.1;subst e;exact⟨⟨p,rfl⟩,of_decide_eq_true h.1.2,h.2⟩
theorem Zjj{Γ:Gm}{i:Nat}{e:Ex}{b:List Stmt}(h:ZlG Γ i e b=Ww):∃n p x q,b=[.Assign [.Name n p] x q]/\Γ.N[i]? = Wu n/\ownD Γ.sc n=Ww/\chk Γ e x=Ww:=by
 unfold ZlG at h;cases b with
 |nil=>cases h
 |cons s r=>
  cases r with
  |cons _ _=>cases h
  |nil=>
   cases s with
   |Assign ts x q=>
    simp only[Oa]at h;obtain⟨h1,h2⟩:=h;cases ts with
    |nil=>cases h1
    |cons g r=>
     cases r with
     |cons _ _=>cases h1
     |nil=>obtain⟨n,p,rfl,e1,e2⟩:=Za1 h1;exact⟨n,p,x,q,rfl,e1,e2,h2⟩
   |_=>cases h
mutual
noncomputable def Zda(Γ:Gm):Sx->Stmt->Bool
 |.ret e,s=>match s with
  |.Return (Wu x) _=>chk Γ e x
  |_=>Wx
 |.set g e,s=>match s with
  |.Assign [tg] x _=>ZkC Γ.N (ownD Γ.sc) g tg&&chk Γ e x&&((Zej x&&(!isTup tg || ZnP x)) || ZiX tg x)
  |_=>Wx
 |.put o i e,s=>match s with
  |.Assign [.Subscript xo xi _] x _=>chk Γ o xo&&chk Γ i xi&&chk Γ e x&&Zf0 xi&&Zej x
  |_=>Wx
 |.aug i op e,s=>match s with
  |.AugAssign (.Name y _) op' x _=>Wy (op=.Add)&&Wy (op'=.Add)&&Wy (Γ.N[i]? = Wu y)&&ownD Γ.sc y&&chk Γ e x
  |_=>Wx
 |.drp e,s=>match s with
  |.Expr x _=>chk Γ e x&&Zej x
  |_=>Wx
 |.iff c a b,s=>match s with
  |.If t xs ys _=>chkt Γ c t&&chkSs Γ a xs&&chkSs Γ b ys
  |_=>Wx
 |.whl c b,s=>match s with
  |.While t xs [] _=>chkt Γ c t&&chkSs Γ b xs
  |_=>Wx
 |.forr g it b,s=>match s with
  |.For tg x xs [] _=>chki Γ it tg x&&ZeG x&&ZkC Γ.N (ownD Γ.sc) g tg&&chkSs Γ b xs
  |_=>Wx
 |.pas,s=>match s with
  |.Pass _=>Ww
  |_=>Wx
 |.brk,s=>match s with
  |.Break _=>Ww
  |_=>Wx
 |.cnt,s=>match s with
  |.Continue _=>Ww
  |_=>Wx
 |.seta Cs o f e,s=>match s with
  |.Assign [.Attribute xo n _] x _=>Wy (n=f)&&chk Γ o xo&&chk Γ e x&&Zej x&&(Cs.all fun C=>Wy (C∈Γ.kl.cs))&&Wy (f∈Γ.kl.ats)
  |_=>Wx
 |.auga Cs o f e,s=>match s with
  |.AugAssign (.Attribute xo n _) op x _=>Wy (op=.Add)&&Wy (n=f)&&chk Γ o xo&&chk Γ e x&&(Cs.all fun C=>Wy (C∈Γ.kl.cs))&&Wy (f∈Γ.kl.ats)
  |_=>Wx
 |.any,_=>Ww
 |.rai C e,s=>match s with
  |.Raise (Wu x) Wv _=>Zrm Γ C e x
  |_=>Wx
 |.trs i f es C,s=>match s with
  |.Try b hs o q _=>o.isEmpty&&q.isEmpty&&ZlG Γ i (.call f es) b&&Zrl Γ i C hs
  |_=>Wx
noncomputable def chkSs(Γ:Gm):Sxs->List Stmt->Bool
 |.nil,ss=>ss.isEmpty
 |.cons s r,ss=>match ss with
  |x::xs=>Zda Γ s x&&chkSs Γ r xs
  |[]=>Wx
end
def ZB(Y:Yx)(H:Hp)(B:List Yi)(r:R (Fl×Ev))(D:Ends)(E:XK):Prop:=match r with
 |.bad=>False
 |.ok p h'=>∀H' μ',Gr H B H' μ'->RH Y H' μ' h'->match p.1 with
  |.nx=>∀σ',RS Y H' μ' p.2 σ'->D.nx σ' H'
  |.bk=>∀σ',RS Y H' μ' p.2 σ'->D.bk σ' H'
  |.ct=>∀σ',RS Y H' μ' p.2 σ'->D.ct σ' H'
  |.rt d=>∀v,RD Y H' μ' d v->D.rt v H'
 |.exc c h'=>∀H' μ' C,Gr H B H' μ'->RH Y H' μ' h'->Y.mg c=Wu (.ref C)->E (.ref C) Wv H'
section
variable {Y:Yx}{α β:Type}{rel:Hp->List Yi->α->β->Prop}{H H1:Hp}{B μ1:List Yi}{E:XK}{D:Ends}
theorem ZB.mono{r:R (Fl×Ev)}(g:Gr H B H1 μ1)(f:ZB Y H B r D E):ZB Y H1 μ1 r D E:=by
 cases r with
 |bad=>exact f
 |ok a h=>exact fun H' μ' g'=>f H' μ' (g.trans g')
 |exc c h=>exact fun H' μ' C g'=>f H' μ' C (g.trans g')
theorem ZB.bind{r:R α}{k:α->Hd->R (Fl×Ev)}{Q1:β->Hp->Prop}(f:ZB Y H B (r.bind k) D E)
 (hk:∀a h1 b H1 μ1,r=.ok a h1->Gr H B H1 μ1->RH Y H1 μ1 h1->rel H1 μ1 a b->ZB Y H1 μ1 (k a h1) D E->Q1 b H1):Fin Y rel H B r Q1 E:=by
 cases r with
 |bad=>exact f
 |ok a h=>exact fun b H' μ' g' rh rl=>hk a h b H' μ' rfl g' rh rl (ZB.mono g' f)
 |exc c h=>exact f
theorem ZB.ofO{o:Option α}{h:Hd}{k:α->Hd->R (Fl×Ev)}(f:ZB Y H B ((R.ofO o h).bind k) D E):∃a,o=Wu a/\ZB Y H B (k a h) D E:=by
 cases o with
 |none=>exact f.elim
 |some a=>exact⟨a,rfl,f⟩
theorem ZB.nx{S:Ev}{Z:L2.St}{h:Hd}(f:ZB Y H B (.ok (.nx,S) h) D E)(rh:RH Y H B h)(rs:RS Y H B S Z):D.nx Z H:=f H B Gr.refl rh Z rs
theorem ZB.part{r:R (Fl×Ev)}{k:(Fl×Ev)->Hd->R (Fl×Ev)}{D1:Ends}(f:ZB Y H B (r.bind k) D E)
 (hk:∀p h1 H1 μ1,r=.ok p h1->Gr H B H1 μ1->RH Y H1 μ1 h1->ZB Y H1 μ1 (k p h1) D E->match p.1 with
  |.nx=>∀σ',RS Y H1 μ1 p.2 σ'->D1.nx σ' H1
  |.bk=>∀σ',RS Y H1 μ1 p.2 σ'->D1.bk σ' H1
  |.ct=>∀σ',RS Y H1 μ1 p.2 σ'->D1.ct σ' H1
  |.rt d=>∀v,RD Y H1 μ1 d v->D1.rt v H1):ZB Y H B r D1 E:=by
 cases r with
 |bad=>exact f
 |ok p h=>exact fun H' μ' g' rh=>hk p h H' μ' rfl g' rh (ZB.mono g' f)
 |exc c h=>exact f
end
noncomputable def ZtT(T:Tb)(Y:Yx)(E:XK)(s:Sx):TS:=fun D Z H=>∃S h B,RH Y H B h/\RS Y H B S Z/\ZB Y H B (xs1 T s S h) D E
noncomputable def Zq6(T:Tb)(Y:Yx)(E:XK)(s:Sxs):TS:=fun D Z H=>∃S h B,RH Y H B h/\RS Y H B S Z/\ZB Y H B (xs2 T s S h) D E
theorem _root_.L2.PS.imp{X:Cx}{s:Stmt}{t t':TS}(h:PS X s t)(i:∀D Z H,t' D Z H->t D Z H):PS X s t':=fun pins s Z H D I q=>h pins s Z H D I (i D Z H q)
theorem _root_.L2.PSs.imp{X:Cx}{s:List Stmt}{t t':TS}(h:PSs X s t)(i:∀D Z H,t' D Z H->t D Z H):PSs X s t':=fun pins s Z H D I q=>h pins s Z H D I (i D Z H q)
structure XOk(K:Yk)(a:Yi):Prop extends ExcN K a where
 own:PySem.W.excIn K a [.type "ValueError",.type "Exception",.type "BaseException",.type "object"] "ValueError.__new__" = Ww
 sub:YV K (.ref a) (.ref a)=Wu Ww
structure GdS(T:Tb)(Γ:Gm)(X:Cx)(Y:Yx)(E:XK)(k:Nat):Prop extends Gd T Γ X Y E k where
 top:Γ.top=Ww
 fnt:∀x,X.fn x=Ww
 own:PassesOwn (model X.prog X.w) X.A X.env X.xe
 bk:X.env.blockKind=.function
 rz:Zia X E
 stk:X.stack=X.env::X.outer
 frm:X.env.frame=Wu X.env.locals
 xcs:∀C∈Γ.kl.xs,∃a,X.mg C=Wu (.ref a)/\XOk X.K a
theorem GdS.ownD{T:Tb}{Γ:Gm}{X:Cx}{Y:Yx}{E:XK}{k:Nat}(G:GdS T Γ X Y E k):∀x,ownD Γ.sc x=Ww->Loc X.env.scope x/\(X.fn x=Ww\/X.env.scope.names.lookup x=Wu .local):=by intro x h;refine⟨?_,.inl (G.fnt x)⟩;unfold IV.ownD at h;rw[G.sc G.top];rw[Ws]at h;exact h.imp of_decide_eq_true of_decide_eq_true
theorem Zdp{x:Expr}{t:Option Expr}{n:Nat}{env:Env}(h:Zej x=Ww):swapsWith x t n env=pure Wx:=by cases x<;>first|rfl|cases h
theorem ZeC{tg x:Expr}{env:Env}(h:(!isTup tg || ZnP x)=Ww)(hg:∀es p,tg≠.List es p):swappedStores [tg] x env=pure Wv:=by
 cases tg with
 |List es p=>exact absurd rfl (hg es p)
 |Tuple es k p=>cases x<;>first|rfl|cases h
 |_=>rfl
theorem Zm6{T:Tb}{Γ:Gm}{X:Cx}{Y:Yx}{E:XK}{k:Nat}(G:GdS T Γ X Y E k){i:Nat}{y:Str}{py pos spos:Pos}{elt:Expr}{gs:List Comprehension}{scope:Scope}{e:Ex}
 (hi:Γ.N[i]? = Wu y) (ho:ownD Γ.sc y=Ww) (h:chk Γ e (.ListComp elt gs scope pos)=Ww):PS X (.Assign [.Name y py] (.ListComp elt gs scope pos) spos) (ZmY (ZbO T Y E e) (Zc4 i)):=by
 obtain⟨o1,o2⟩:=G.ownD y ho;have hy:X.N[i]? = Wu y:=by rw[G.N];exact hi
 by_cases sw:swapsWith (.ListComp elt gs scope pos) (Wu (.Name y py)) spos.line X.env=pure Ww
 . cases e with
   |comp NC js it g c e=>
    unfold chk at h;split at h
    . rename_i heq;cases heq;rw[Oa,Oa,Oa,Oa,Oa,Oa,Oa]at h;obtain⟨⟨⟨⟨⟨⟨⟨h0,h1⟩,h2⟩,h3⟩,h4⟩,h5⟩,h6⟩,h7⟩:=h;have S_:=Zjd h1;rw[<- G.N,<- G.sc h0]at S_;have Gc:=fun(C:Yi) (s3:Yb) (H3:Hp) (fp:List Yi)=>G.toGd.comp NC scope C s3 H3 fp S_.nd;rw[OC]at h5;refine(ZjM (g:=tgR X.K g) (tc:=fun Z H Q=>∃S h B,RH Y H B h/\RS Y H B S Z/\Fin Y (fun _ _ (a b:Bool)=>a=b) H B (tsto T c S h) Q E0) (te:=ZbO T Y E0 e) G.nd hy o1 o2 S_ rfl G.calm (evi_ok it G.toGd h2) (fun C s3 H3 fp=>⟨Zlg rfl S_.nd rfl (fun x hx=>?_) h4,?_,Zm e (Gc C s3 H3 fp) h7⟩) (ZtF X.K g) (fun j hj=>of_decide_eq_true (h5 j (List.mem_range.mpr hj))) (ZjB X.env h3) sw).imp
       fun D Z H q=>?_
      . have hl:=of_decide_eq_true hx;have:(relabel scope X.env).names.lookup x=Wu .local:=by rw[ZaF,hl];rfl
        exact⟨.inl this,.inr this⟩
      . exact ifs_ok c (Gc C s3 H3 fp) h6
      . obtain⟨S,h,B,rh,rs,f⟩:=q;exact⟨S,h,B,rh,rs,Fin.bind f fun w h1 J H1 μ1 _ g1 rh1 wj f1 D hD=>ZlD G.gk.K (fun _ _ _ z=>z) rh1 (rs.mono rh g1) wj f1 hD⟩
    . cases h
   |cst d=>cases d<;>(unfold chk ZmE at h;cases h)
   |any=>exact fun pins s Z H D I ⟨S,h,B,rh,rs,f⟩=>f.elim
   |_=>unfold chk at h;cases h
 . refine ZjN G.nd hy o1 (Zm e G.toGd h) ?_ o2;have e1:swapsWith (.ListComp elt gs scope pos) (Wu (.Name y py)) spos.line X.env=pure (X.env.blockKind==.function&&X.env.kindOf y==Wu .local&&py.line==pos.line&&!(scope.names.any fun(n,k)=>n==y&&(k==.local || k==.cell))):=rfl;cases q:(X.env.blockKind==.function&&X.env.kindOf y==Wu .local&&py.line==pos.line&&!(scope.names.any fun(n,k)=>n==y&&(k==.local || k==.cell)))with
   |true=>rw[q]at e1;exact absurd e1 sw
   |false=>rw[q]at e1;exact e1
theorem Ztf{T:Tb}{Γ:Gm}{X:Cx}{Y:Yx}{E:XK}{k:Nat}(G:Gd T Γ X Y E k){Cs:List Str}{f:Str}{e:Ex}(hc:(Cs.all fun C=>Wy (C∈Γ.kl.cs))=Ww)(hf:f∈Γ.kl.ats){H1:Hp}{μ1:List Yi}{h1:Hd}{d:D}{x:V}{S:Ev}{Z:L2.St}{D:Ends}(rh1:RH Y H1 μ1 h1)(rs1:RS Y H1 μ1 S Z)(rd:RD Y H1 μ1 d x)
 (f1:ZB Y H1 μ1 ((ZgD Cs f d h1).bind fun v h2=>(ev T e S h2).bind fun y h3=>match v,y with
  |.int a,.int b=>if (ZZ d h1).map (·.1)=(ZZ d h3).map (·.1)then(Zhq Cs f d (.int (a+b)) h3).bind fun _ h4=>.ok (.nx,S) h4 else .bad
  |_,_=>.bad) D E) :
 ∃a C dx fs v,x=.ref a/\H1 a=Wu (.ins C dx fs)/\Cls X.K C/\ZaQ X.K C f/\fs.lookup f=Wu v /\
  ZbO T Y E e Z H1 fun y H2=>Zt8 v y H2 fun z H3=>∃dx' fs',H3 a=Wu (.ins C dx' fs')/\fs'.length<1000/\D.nx Z (upd H3 a (.ins C dx' (Zb0 f z fs'))):=by
 unfold ZgD at f1;cases ei:ZZ d h1 with
 |none=>rw[ei]at f1;exact f1.elim
 |some p=>
  obtain⟨C,fs⟩:=p;rw[ei]at f1;simp only at f1;by_cases hC:C∈Cs
  . rw[if_pos hC]at f1;obtain⟨w,e1,f1⟩:=f1.ofO;obtain⟨i,a,Ca,dx,gs,rfl,rfl,q,hi,z,m,s⟩:=Zga rh1 rd ei;obtain⟨v,l,rv⟩:=(s.look (f:=f)).1 w e1;have hc':=hc;rw[OC]at hc';obtain⟨Ca',m',cl,na⟩:=G.cls C (of_decide_eq_true (hc' C hC));have m0:=m;rw[G.gk.mg,m']at m;cases m;refine⟨a,Ca,dx,gs,v,rfl,z,cl,na f hf,l,S,h1,μ1,rh1,rs1,ZB.bind f1 fun y h3 u H3 μ3 _ g3 rh3 ry f3=>?_⟩;cases w with
    |int p=>
     cases y with
     |int r=>
      cases rv;cases ry;refine⟨p,r,rfl,rfl,?_⟩;simp only at f3;by_cases hk:Option.map (·.1) (Wu (C,fs))=(ZZ (.ref i) h3).map (·.1)
      . rw[if_pos hk]at f3;obtain⟨a',C',dx',fs',e4,z',_,_,l',nx⟩:=Zm5 (Q:=fun _ H'=>D.nx Z H') G hc hf rh3 (rd.mono rh1 g3) (.int _) (ZB.bind f3 fun _ h4 _ H4 μ4 _ g4 rh4 _ f4=>f4.nx rh4 ((rs1.mono rh1 g3).mono rh3 g4));cases e4;cases e5:ZZ (.ref i) h3 with
        |none=>rw[e5]at hk;cases hk
        |some p3=>obtain⟨C3,fs3⟩:=p3;rw[e5]at hk;cases hk;obtain⟨i3,a3,Ca3,dx3,gs3,e6,e7,_,_,z3,m3,_⟩:=Zga rh3 (rd.mono rh1 g3) e5;cases e7;rw[m0]at m3;cases m3;rw[z']at z3;cases z3;exact⟨dx',fs',z',l',nx⟩
      . rw[if_neg hk]at f3;exact f3.elim
     |_=>exact f3.elim
    |_=>exact f3.elim
  . rw[if_neg hC]at f1;exact f1.elim
theorem _root_.IV.Gd.nox{T:Tb}{Γ:Gm}{X:Cx}{Y:Yx}{E:XK}{k:Nat}(G:Gd T Γ X Y E k):Gd T Γ X.nox Y E0 k:=⟨⟨G.gk.K,G.gk.mg,G.gk.gd,G.gk.g,G.gk.bare⟩,G.N,G.sc,G.vis,G.glo,G.nd,G.calm,G.room,G.h60,ZgU,G.defs,G.blt,G.room1,G.cls,G.mts,G.mks⟩
theorem ZmL{Y:Yx}{α β:Type}{rel:Hp->List Yi->α->β->Prop}{H:Hp}{B:List Yi}{r:R α}{Q:β->Hp->Prop}{E:XK}(f:Fin Y rel H B r.plain Q E):Fin Y rel H B r Q E0:=by
 cases r with
 |bad=>exact f.elim
 |ok a h=>exact f
 |exc c h=>exact f.elim
theorem ZsA{X:Cx}{a:Yi}{oe:Obj}{n:Str}{i:Nat}{px pos:Pos}{v:Expr}{Γ:Gm}(hN:X.N.Nodup)(hi:X.N[i]? = Wu n)(hx:Loc X.env.scope n)(hf:X.fn n=Ww\/X.env.scope.names.lookup n=Wu .local)(hv:chk Γ (.cst .non) v=Ww):
 PSs (cxH X a oe) [.Assign [.Name n px] v pos] (fun D Z H=>D.nx (Z.set i (Wu .non)) H):=by
 unfold chk ZmE at hv;split at hv
 . rename_i c q;obtain⟨k,p,rfl⟩:=Zhd q;cases c with
   |none=>exact(ZpD (ZjN (X:=cxH X a oe) hN hi hx ZnC rfl hf)).imp fun D Z H q=>q
   |_=>cases hv
 . cases hv
mutual
theorem ZtS{T:Tb}{Y:Yx}:∀ (s:Sx) {Γ:Gm}{X:Cx}{E:XK}{k:Nat}{x:Stmt},GdS T Γ X Y E k->Zda Γ s x=Ww->PS X x (ZtT T Y E s)
 | .ret e,Γ,X,E,k,x,G,h=>by
   unfold Zda at h;split at h
   . exact (Zr6 (Zm e G.toGd h)).imp fun D Z H ⟨S,h,B,rh,rs,f⟩=>⟨S,h,B,rh,rs,ZB.bind f fun d h1 v H1 μ1 _ g rh1 rd f1=>f1 H1 μ1 Gr.refl rh1 v rd⟩
   . cases h
 | .set g e,Γ,X,E,k,x,G,h=>by
   unfold Zda at h;split at h
   . rename_i tg xe pos;rw [Oa,Oa] at h;obtain ⟨⟨h1,h2⟩,h3⟩:=h;have fin:∀ {D:Ends}{Z:L2.St}{H:Hp},ZtT T Y E (.set g e) D Z H->ZmY (ZbO T Y E e) (tgR X.K g) D Z H:=fun {D Z H} ⟨S,h,B,rh,rs,f⟩=>⟨S,h,B,rh,rs,ZB.bind f fun d h1 v H1 μ1 _ g1 rh1 rd f1=>by
       obtain ⟨ρ1,eb,f1⟩:=f1.ofO;exact ZhZ G.gk.K rd (rs.mono rh g1) eb fun σ1 rs1=>f1.nx rh1 rs1⟩
     rw [Ws,Oa] at h3;have pg:=Zlg (X:=X) G.N G.nd G.calm G.ownD h1;rcases h3 with ⟨h3,h4⟩|h3
     . cases g with
       | nm i =>
         obtain ⟨y,py,rfl,e1,e2⟩:=Za1 (show ZiE Γ.N (ownD Γ.sc) i tg=Ww from h1);obtain ⟨o1,o2⟩:=G.ownD y e2;exact (ZjN G.nd (by rw [G.N];exact e1) o1 (Zm e G.toGd h2) (Zdp h3) o2).imp fun D Z H q=>fin q
       | two i j =>
         obtain ⟨x,p,y,q,k,r,rfl,_⟩:=Zhh h1;exact (ZjO (pos:=pos) (Zm e G.toGd h2) pg (by unfold swapsWithSole;exact Zdp h3) (ZeC h4 (fun _ _ z=>by cases z)) rfl).imp fun D Z H q=>fin q
       | many is =>
         obtain ⟨es,k,r,rfl,_⟩:=Zf1 h1;exact (ZjO (pos:=pos) (Zm e G.toGd h2) pg (by unfold swapsWithSole;exact Zdp h3) (ZeC h4 (fun _ _ z=>by cases z)) rfl).imp fun D Z H q=>fin q
     . unfold ZiX at h3;split at h3
       . rename_i y0 p0 _ _ _ _;cases g with
         | nm i =>
           obtain ⟨y,py,q,e1,e2⟩:=Za1 (show ZiE Γ.N (ownD Γ.sc) i (.Name y0 p0)=Ww from h1);cases q;exact (Zm6 G e1 e2 h2).imp fun D Z H q=>fin q
         | two i j=>obtain ⟨x,p,y,q,k,r,z,_⟩:=Zhh h1;cases z
         | many is=>obtain ⟨es,k,r,z,_⟩:=Zf1 h1;cases z
       . cases h3
   . cases h
 | .put o i e,Γ,X,E,k,x,G,h=>by
   unfold Zda at h;split at h
   . rename_i xo xi p1 xe p2;rw [Oa,Oa,Oa,Oa] at h;obtain ⟨⟨⟨⟨h1,h2⟩,h3⟩,h4⟩,h5⟩:=h;refine (ZjO (pos:=p2) (Zm e G.toGd h3) (Zse (pos:=p1) (Zm o G.toGd h1) (Zm i G.toGd h2) (Zr4 (Y:=Y) (E:=E)) ?_) (by unfold swapsWithSole;exact Zdp h5) (ZeC rfl (fun _ _ z=>by cases z)) rfl).imp fun D Z H ⟨S,h,B,rh,rs,f⟩=>⟨S,h,B,rh,rs,ZB.bind f fun d h1 v H1 μ1 _ g1 rh1 rd f1 =>
       ⟨S,h1,μ1,rh1,rs.mono rh g1,f1.bind fun d2 h2 v2 H2 μ2 _ g2 rh2 rd2 f2=>⟨S,h2,μ2,rh2,(rs.mono rh g1).mono rh1 g2,f2.bind fun d3 h3 v3 H3 μ3 _ g3 rh3 rd3 f3 =>
         ⟨d2,d3,d,h3,μ3,rh3,rd2.mono rh2 g3,rd3,(rd.mono rh1 g2).mono rh2 g3,f3.bind fun _ h4 _ H4 μ4 _ g4 rh4 _ f4=>f4.nx rh4 ((((rs.mono rh g1).mono rh1 g2).mono rh2 g3).mono rh3 g4)⟩⟩⟩⟩
     cases xi<;>first|(intro _;rfl)|cases h4
   . cases h
 | .aug i op e,Γ,X,E,k,x,G,h=>by
   unfold Zda at h;split at h
   . rw [Oa,Oa,Oa,Oa] at h;obtain ⟨⟨⟨⟨h1,h2⟩,h3⟩,h4⟩,h5⟩:=h;have e1:=of_decide_eq_true h1;have e2:=of_decide_eq_true h2;subst e1 e2;obtain ⟨o1,o2⟩:=G.ownD _ h4;refine (Zr9 G.nd (by rw [G.N];exact of_decide_eq_true h3) o1 (Zm e G.toGd h5) ZsV o2).imp fun D Z H ⟨S,h,B,rh,rs,f⟩=>?_;obtain ⟨d,ed,f⟩:=ZB.ofO f;obtain ⟨v,ev,rd⟩:=rs.var ed;refine ⟨v,ev,S,h,B,rh,rs,ZB.bind f fun d2 h2 v2 H2 μ2 _ g2 rh2 rd2 f2=>?_⟩;cases rd with
     | int a =>
       cases rd2 with
       | int b=>exact ⟨a,b,rfl,rfl,ZB.nx f2 rh2 ((rs.mono rh g2).set (.int _))⟩
       | _=>exact f2.elim
     | _=>exact f2.elim
   . cases h
 | .drp e,Γ,X,E,k,x,G,h=>by
   unfold Zda at h;split at h
   . rw [Oa] at h;exact (ZpG (Zm e G.toGd h.1) (Zdp h.2)).imp fun D Z H ⟨S,h,B,rh,rs,f⟩=>⟨S,h,B,rh,rs,ZB.bind f fun d h1 v H1 μ1 _ g1 rh1 rd f1=>f1.nx rh1 (rs.mono rh g1)⟩
   . cases h
 | .iff c a b,Γ,X,E,k,x,G,h=>by
   unfold Zda at h;split at h
   . rw [Oa,Oa] at h;refine (Zua (tst_ok c G.toGd h.1.1) (sts_ok a G h.1.2) (sts_ok b G h.2)).imp fun D Z H ⟨S,h,B,rh,rs,f⟩=>⟨S,h,B,rh,rs,ZB.bind f fun t h1 v H1 μ1 _ g1 rh1 rd f1=>?_⟩
     subst rd;cases t with
     | true=>exact Zkm ⟨S,h1,μ1,rh1,rs.mono rh g1,f1⟩
     | false=>exact Zkn ⟨S,h1,μ1,rh1,rs.mono rh g1,f1⟩
   . cases h
 | .whl c b,Γ,X,E,k,x,G,h=>by
   unfold Zda at h;split at h
   . rw [Oa] at h;refine (Zns G.own (tst_ok c G.toGd h.1) (sts_ok b G h.2)).imp fun D Z H ⟨S,h,B,rh,rs,f⟩=>?_;refine ⟨fun m Z H=>∃ S h B,RH Y H B h/\RS Y H B S Z/\ZB Y H B (ZO (tst T c) (xs2 T b) m S h) D E,⟨T.L,S,h,B,rh,rs,f⟩,?_⟩;rintro m Z H ⟨S,h,B,rh,rs,f⟩;cases m with
     | zero=>exact f.elim
     | succ m =>
       refine ⟨S,h,B,rh,rs,ZB.bind f fun t h1 v H1 μ1 _ g1 rh1 rd f1=>?_⟩;subst rd;cases t with
       | false=>exact Zkn (ZB.nx f1 rh1 (rs.mono rh g1))
       | true =>
         refine Zkm ⟨fun σ' H'=>∃ S h B,RH Y H' B h/\RS Y H' B S σ'/\ZB Y H' B (ZO (tst T c) (xs2 T b) m S h) D E,fun σ' H' q=>⟨m,OH m,q⟩,S,h1,μ1,rh1,rs.mono rh g1,?_⟩;refine ZB.part f1 fun p h2 H2 μ2 _ g2 rh2 f2=>?_;obtain ⟨fl,ρ2⟩:=p;cases fl with
         | nx=>exact fun σ' rs'=>⟨ρ2,h2,μ2,rh2,rs',f2⟩
         | ct=>exact fun σ' rs'=>⟨ρ2,h2,μ2,rh2,rs',f2⟩
         | bk=>exact fun σ' rs'=>ZB.nx f2 rh2 rs'
         | rt d=>exact fun v rv=>f2 H2 μ2 Gr.refl rh2 v rv
   . cases h
 | .forr g it b,Γ,X,E,k,x,G,h=>by
   unfold Zda at h;split at h
   . rw [Oa,Oa,Oa] at h;obtain ⟨⟨⟨h1,h2⟩,h3⟩,h4⟩:=h;refine (Zr7 G.own G.calm (evi_ok it G.toGd h1) (Zlg (X:=X) G.N G.nd G.calm G.ownD h3) (sts_ok b G h4) (ZjB X.env h2)).imp fun D Z H ⟨S,h,B,rh,rs,f⟩=>⟨S,h,B,rh,rs,ZB.bind f fun w h1 J H1 μ1 _ g1 rh1 wj f1=>?_⟩
     refine ⟨fun i m Z H=>∃ S h B,i<=w.xs.length/\m=w.xs.length - i/\Gr H1 μ1 H B/\RH Y H B h/\RS Y H B S Z/\ZB Y H B (ZL w.src g (xs2 T b) (w.xs.drop i) S h) D E,⟨w.xs.length,S,h1,μ1,Yy _,by simp,Gr.refl,rh1,rs.mono rh g1,f1⟩,?_⟩;rintro i m Z H ⟨S,h,B,hi,rfl,g0,rh,rs,f⟩;by_cases hlt:i<w.xs.length
     . obtain ⟨d,hd⟩:∃ d,w.xs[i]? = Wu d:=⟨_,Og hlt⟩
       have hdrop:w.xs.drop i=d::w.xs.drop (i+1):=by
         rw [List.drop_eq_getElem_cons hlt];have:=Og hlt;rw [hd] at this;rw [<- YF this]
       rw [hdrop,ZL] at f;by_cases hs:Wk.stays w.src h=Ww
       . rw [if_pos hs] at f;obtain ⟨go,yl⟩:=(wj H B h g0 rh hs).1 i d hd;refine .inr ⟨go,fun σ' H'=>∃ S h B,i+1<=w.xs.length/\Gr H1 μ1 H' B/\RH Y H' B h/\RS Y H' B S σ'/\ZB Y H' B (ZL w.src g (xs2 T b) (w.xs.drop (i+1)) S h) D E,fun σ' H' ⟨S,h,B,q1,q2,q3,q4,q5⟩=>⟨_,Nat.sub_lt_sub_left hlt (OH i),S,h,B,q1,rfl,q2,q3,q4,q5⟩,fun x H' hy=>?_⟩;obtain ⟨g2,rh2,rx⟩:=yl x H' hy;split at f
         . exact f.elim
         . rename_i ρ1 hb;refine ZhZ G.gk.K rx (rs.mono rh g2) hb fun σ1 rs1=>⟨ρ1,h,B,rh2,rs1,ZB.part (ZB.mono g2 f) fun p h3 H3 μ3 _ g3 rh3 f3=>?_⟩
           have g03:=(g0.trans g2).trans g3;obtain ⟨fl,ρ2⟩:=p;cases fl with
           | nx=>exact fun σ' rs'=>⟨ρ2,h3,μ3,hlt,g03,rh3,rs',f3⟩
           | ct=>exact fun σ' rs'=>⟨ρ2,h3,μ3,hlt,g03,rh3,rs',f3⟩
           | bk=>exact fun σ' rs'=>ZB.nx f3 rh3 rs'
           | rt d=>exact fun v rv=>f3 H3 μ3 Gr.refl rh3 v rv
       . rw [if_neg hs] at f;exact f.elim
     . have he:i=w.xs.length:=by omega
       subst he;rw [List.drop_eq_nil_of_le (Oq _),ZL] at f;by_cases hs:Wk.stays w.src h=Ww
       . rw [if_pos hs] at f;exact .inl ⟨(wj H B h g0 rh hs).2,ZB.nx f rh rs⟩
       . rw [if_neg hs] at f;exact f.elim
   . cases h
 | .pas,Γ,X,E,k,x,G,h=>by
   unfold Zda at h;split at h
   . exact ZpF.imp fun D Z H ⟨S,h,B,rh,rs,f⟩=>ZB.nx f rh rs
   . cases h
 | .brk,Γ,X,E,k,x,G,h=>by
   unfold Zda at h;split at h
   . exact Znu.imp fun D Z H ⟨S,h,B,rh,rs,f⟩=>f H B Gr.refl rh Z rs
   . cases h
 | .cnt,Γ,X,E,k,x,G,h=>by
   unfold Zda at h;split at h
   . exact Ziz.imp fun D Z H ⟨S,h,B,rh,rs,f⟩=>f H B Gr.refl rh Z rs
   . cases h
 | .any,Γ,X,E,k,x,G,h=>fun pins s Z H D I ⟨S,h,B,rh,rs,f⟩=>f.elim
 | .rai C e,Γ,X,E,k,x,G,h=>by
   unfold Zda at h;split at h
   . rename_i x pos;cases x with
     | Call g as ks cp =>
       unfold Zrm at h;rw [Oa,Oa] at h;obtain ⟨⟨h1,h2⟩,h3⟩:=h;obtain ⟨⟨np,rfl⟩,hx,hg⟩:=ZlF h1;cases ks with
       | cons _ _=>cases h2
       | nil =>
         cases as with
         | nil=>rw [chks] at h3;cases h3
         | cons y ys =>
           rw [chks,Oa,Oa] at h3;cases ys with
           | cons _ _=>rw [chks] at h3;cases h3.2
           | nil =>
             obtain ⟨ca,m,xo⟩:=G.xcs _ hx;obtain ⟨g1,g2⟩:=G.gl hg;exact (Znt G.rz G.calm PySem.F.excBase_ValueError g1 m xo.own (Zeg (Zm e G.toGd h3.1.1) ZfY (Zo X.env h3.1.2)) g2 (Zo X.env h3.1.2) rfl).imp fun D Z H ⟨S,h,B,rh,rs,f⟩=>⟨S,h,B,rh,rs,ZB.bind f fun d h1 v H1 μ1 _ g1 rh1 rd f1 =>
               ⟨by show 1<=sizeLine;decide,f1 H1 μ1 ca Gr.refl rh1 (by rw [G.gk.mg];exact m)⟩⟩
     | _=>cases h
   . cases h
 | .trs i f es C,Γ,X,E,k,x,G,h=>by
   unfold Zda at h;split at h
   . rename_i b hs o q pos;rw [Oa,Oa,Oa] at h;obtain ⟨⟨⟨h1,h2⟩,h3⟩,h4⟩:=h;cases o with
     | cons _ _=>cases h1
     | nil =>
     cases q with
     | cons _ _=>cases h2
     | nil =>
     obtain ⟨n,px,xe,ap,rfl,hn,hown,h5⟩:=Zjj h3;unfold Zrl at h4;split at h4
     . rename_i t bd hp;rw [Oa] at h4;obtain ⟨⟨np,rfl⟩,hxs,hg⟩:=ZlF h4.1;obtain ⟨n',px',v,pos',rfl,hn',_,h11⟩:=Zjj h4.2;cases hn.symm.trans hn';unfold chk at h5;split at h5
       . rename_i fx p y ys cp;rw [Oa,Oa,Oa] at h5;obtain ⟨⟨⟨h6,h7⟩,h8⟩,h4⟩:=h5;have e1:=of_decide_eq_true h6;subst e1;obtain ⟨ps,hd⟩:=G.defs _ (of_decide_eq_true h7);obtain ⟨g1,g2⟩:=G.gl h8;obtain ⟨c1,c2⟩:=G.gl hg;obtain ⟨ca,m,xo⟩:=G.xcs _ hxs;obtain ⟨o1,o2⟩:=G.ownD _ hown;have hi:X.N[i]? = Wu n:=by rw [G.N];exact hn
         have hs:=h4;have st:Z7 y=Ww:=by
           cases es with
           | nil=>rw [chks] at hs;cases hs
           | cons e r=>rw [chks,Oa,Oa] at hs;exact hs.1.2
         have sp:∀ pos,(YS pos (YA ys X.env)).any (·.1)=Wx:=by
           cases es with
           | nil=>rw [chks] at hs;cases hs
           | cons e r=>rw [chks,Oa,Oa] at hs;exact Zbv Γ X.env r ys hs.2
         refine (Zl4 hd G.room g1 (evs_ok es G.toGd.nox h4) c1 m xo.toExcN G.nd hi o1 o2 G.stk G.frm (fun a oe=>ZsA G.nd hi o1 o2 h11) g2 c2 (Zo X.env st) (sp _) rfl).imp fun D Z H ⟨S,h,B,rh,rs,f⟩=>⟨S,h,B,rh,rs,ZmL (ZB.bind f fun ds h1 vs H1 μ1 _ g1 rh1 rds f1=>⟨ds,h1,μ1,rh1,rds,?_⟩)⟩
         have rs1:=rs.mono rh g1;cases q:T.C fx ds h1 with
         | bad=>rw [q] at f1;exact f1.elim
         | ok w h2 =>
           rw [q] at f1;exact fun b H' μ' g2 rh2 rb=>f1 H' μ' g2 rh2 _ ((rs1.mono rh1 g2).set rb)
         | exc w h2 =>
           rw [q] at f1;unfold Zgn at f1;by_cases e:w=C
           . subst e;simp only [if_true] at f1;intro H' μ' C' g2 rh2 mc;rw [G.gk.mg,m] at mc;cases mc;exact ⟨ca,rfl,xo.sub,fun a oe=>f1 H' μ' g2 rh2 _ ((rs1.mono rh1 g2).set .non)⟩
           . simp only [if_neg e] at f1;exact f1.elim
       . cases h5
     . cases h4
   . cases h
 | .seta Cs o f e,Γ,X,E,k,x,G,h=>by
   unfold Zda at h;split at h
   . rw [Oa,Oa,Oa,Oa,Oa] at h;obtain ⟨⟨⟨⟨⟨h1,h2⟩,h3⟩,h4⟩,h5⟩,h6⟩:=h;have en:=of_decide_eq_true h1;subst en;exact (Zr8 (Zm o G.toGd h2) (Zm e G.toGd h3) (Zdp h4)).imp fun D Z H ⟨S,h,B,rh,rs,f⟩=>⟨S,h,B,rh,rs,ZB.bind f fun d h1 v H1 μ1 _ g1 rh1 rd f1=>⟨S,h1,μ1,rh1,rs.mono rh g1,ZB.bind f1 fun d2 h2 v2 H2 μ2 _ g2 rh2 rd2 f2 =>
       Zm5 (Q:=fun _ H'=>D.nx Z H') G.toGd h5 (of_decide_eq_true h6) rh2 rd2 (rd.mono rh1 g2) (ZB.bind f2 fun _ h3 _ H3 μ3 _ g3 rh3 _ f3=>f3.nx rh3 (((rs.mono rh g1).mono rh1 g2).mono rh2 g3))⟩⟩
   . cases h
 | .auga Cs o f e,Γ,X,E,k,x,G,h=>by
   unfold Zda at h;split at h
   . rw [Oa,Oa,Oa,Oa,Oa] at h;obtain ⟨⟨⟨⟨⟨h0,h1⟩,h2⟩,h3⟩,h5⟩,h6⟩:=h;have eo:=of_decide_eq_true h0;have en:=of_decide_eq_true h1;subst eo;subst en;exact (Zl5 (Zm o G.toGd h2) (Zm e G.toGd h3) ZsW).imp fun D Z H ⟨S,h,B,rh,rs,f⟩=>⟨S,h,B,rh,rs,ZB.bind f fun d h1 x H1 μ1 _ g1 rh1 rd f1=>Ztf G.toGd h5 (of_decide_eq_true h6) rh1 (rs.mono rh g1) rd f1⟩
   . cases h
theorem sts_ok{T:Tb}{Y:Yx}:∀(s:Sxs) {Γ:Gm}{X:Cx}{E:XK}{k:Nat}{x:List Stmt},GdS T Γ X Y E k->chkSs Γ s x=Ww->PSs X x (Zq6 T Y E s)
 |.nil,Γ,X,E,k,x,G,h=>by
  unfold chkSs at h;cases x with
  |nil=>exact ZpE.imp fun D Z H ⟨S,h,B,rh,rs,f⟩=>ZB.nx f rh rs
  |cons a b=>cases h
 |.cons s r,Γ,X,E,k,x,G,h=>by
  unfold chkSs at h;split at h
  . rw[Oa]at h;refine(Znr (ZtS s G h.1) (sts_ok r G h.2)).imp fun D Z H ⟨S,h,B,rh,rs,f⟩=>⟨S,h,B,rh,rs,ZB.part f fun p h1 H1 μ1 _ g1 rh1 f1=>?_⟩
    obtain⟨fl,ρ1⟩:=p;cases fl with
    |nx=>exact fun σ' rs'=>⟨ρ1,h1,μ1,rh1,rs',f1⟩
    |bk=>exact fun σ' rs'=>f1 H1 μ1 Gr.refl rh1 σ' rs'
    |ct=>exact fun σ' rs'=>f1 H1 μ1 Gr.refl rh1 σ' rs'
    |rt d=>exact fun v rv=>f1 H1 μ1 Gr.refl rh1 v rv
  . cases h
end
end IV
end
section
set_option tactic.hygienic false
namespace IV
open PySem PySem.Spec PyProof.Rows L2
structure BodyOk(K:Yk)(kl:Kl)(fs:List Str)(x q:Str)(fd:Fd)(st:Stmt)(f:Yi)(fdd:FuncData):Prop where
 fn:Fun K x q st f fdd
 sc:FnScope fd.N fd.ps (ZT st)
 hb:∀(kV doc pm:Yj) (an:Option Yi) (cdv ct:Yj) (us:List Yj),us.length=fd.ps.length->bindArgs (PySem.W.fnOf x q (Zdx st) (ZbS st) (ZT st) .none kV doc pm an cdv ct) ⟨us,[]⟩=pure (fd.ps.zip us)
 ck:chkSs ⟨fd.N,ZT st,fs,Ww,kl⟩ fd.body (ZbS st)=Ww
structure DefOk(K:Yk)(mg:Str->Option Yj)(kl:Kl)(fs:List Str)(x:Str)(fd:Fd)(st:Stmt)(f:Yi)(fdd:FuncData):Prop where
 bd:BodyOk K kl fs x x fd st f fdd
 mg:mg x=Wu (.ref f)
structure Md(Pr:Yh)(w:Yg)(K:Yk)(mg:Str->Option Yj)(P:Pg)(kl:Kl):Prop where
 bare:Zfx K=Ww
 gd:∀x kvs,P.GD x=Wu kvs->∃a kvs',mg x=Wu (.ref a)/\DkK Pr w K a kvs'/\∀H B,RKs ⟨K,mg⟩ H B kvs kvs'
 g:∀x d,P.G x=Wu d->∃v u,mg x=Wu u/\RelV v u/\∀H B,RD ⟨K,mg⟩ H B d v
 blt:∀x∈(["len", "isinstance", "int", "tuple", "list", "sum", "all", "sorted", "range", "enumerate", "reversed", "str", "bool", "max"]:List Str),mg x=Wv
 defs:∀x fd,P.tb.lookup x=Wu fd->∃st f fdd,DefOk K mg kl (P.tb.map (·.1)) x fd st f fdd
 cls:∀C∈kl.cs,∃a,mg C=Wu (.ref a)/\Cls K a/\∀f∈kl.ats,ZaQ K a f
 mts:∀p∈kl.ms,∃a f fdd fd st q,mg p.1=Wu (.ref a)/\Cls K a/\Meth K a p.2 f/\P.look (mnm p.1 p.2)=Wu fd/\BodyOk K kl (P.tb.map (·.1)) p.2 q fd st f fdd
 mks:∀C∈kl.is,∃a f fdd fd st q,mg C=Wu (.ref a)/\Mk K a f/\P.look (mnm C (O "__init__"))=Wu fd/\BodyOk K kl (P.tb.map (·.1)) (O "__init__") q fd st f fdd
 xcs:∀C∈kl.xs,∃a,mg C=Wu (.ref a)/\XOk K a
theorem ZmZ{Y:Yx}{H:Hp}{B:List Yi}{N:List Str}{ds:List D}{vs:List V}(r:RDs Y H B ds vs):RS Y H B (Zn N ds) (L2.start N vs):=by
 refine⟨by simp[Zn,L2.start,r.length],fun i d e=>?_⟩;unfold Zn at e;unfold L2.start;by_cases hi:i<ds.length
 . rw[Oe (by simpa using hi),On]at e;rw[Oe (by simpa[<- r.length]using hi),On];obtain⟨d',e1,e2⟩:=Oo.mp e;cases e2;obtain⟨v,h1,h2⟩:=r.get e1;exact⟨v,by rw[h1];rfl,h2⟩
 . rw[Om (by simpa using hi)]at e;have:=O1 e;rw[List.mem_replicate]at this;cases this.2
theorem Zpq{Y:Yx}{H:Hp}{B:List Yi}{r:R (Fl×Ev)}{Q:VK}{E:XK}(f:Fin Y (RD Y) H B (Zh r) Q E):ZB Y H B r {nx:=fun _ H'=>Q .non H',rt:=Q} E:=by
 cases r with
 |bad=>exact f.elim
 |exc c h=>exact f
 |ok p h=>
  obtain⟨fl,S⟩:=p;cases fl with
  |nx=>exact fun H' μ' g rh σ' _=>f .non H' μ' g rh .non
  |bk=>exact f.elim
  |ct=>exact f.elim
  |rt d=>exact fun H' μ' g rh v rv=>f v H' μ' g rh rv
section
variable {Pr:Yh}{w:Yg}{K:Yk}{mg:Str->Option Yj}{base:YG}{P:Pg}{kl:Kl}
theorem ZhD{x:Str}{fd:Fd}(h:P.tb.lookup x=Wu fd):P.look x=Wu fd:=by unfold Pg.look;rw[h]
theorem Zm1{n:Nat}{x:Str}{fd:Fd}(hl:P.look x=Wu fd){vs:List V}{H:Hp}{Q:VK}{E:XK}(h:Zfa (P.tbl n) ⟨K,mg⟩ x vs H Q E):vs.length=fd.ps.length:=by
 obtain⟨ds,h,B,rh,rs,f⟩:=h;cases n with
 |zero=>exact f.elim
 |succ n=>have f:Fin ⟨K,mg⟩ (RD ⟨K,mg⟩) H B (run P (n+1) x ds h) Q E:=f;rw[run,hl]at f;obtain⟨hz,_⟩:=f.iff;rw[<- rs.length];exact hz
structure Lev(Pr:Yh)(w:Yg)(K:Yk)(mg:Str->Option Yj)(base:YG)(P:Pg)(kl:Kl)(n:Nat):Prop where
 defs:∀y∈P.tb.map (·.1),∃ps,Def Pr w K mg base (2 * n+61) y ps (Zfa (P.tbl n) ⟨K,mg⟩ y)
 mts:∀p∈kl.ms,∃a f fd ps,mg p.1=Wu (.ref a)/\Cls K a/\Meth K a p.2 f/\FnOk Pr w K mg base (CXF Pr w) (2 * n+61) f fd ps (Zfa (P.tbl n) ⟨K,mg⟩ (mnm p.1 p.2))/\Binds K fd ps []
 mks:∀C∈kl.is,∃a f fd ps,mg C=Wu (.ref a)/\Mk K a f/\FnOk Pr w K mg base (CXF Pr w) (2 * n+61) f fd ps (Zfa (P.tbl n) ⟨K,mg⟩ (mnm C (O "__init__")))/\Binds K fd ps []
theorem ZhT(M:Md Pr w K mg P kl){x nm q:Str}{fd:Fd}{st:Stmt}{f:Yi}{fdd:FuncData}(hl:P.look x=Wu fd)(o:BodyOk K kl (P.tb.map (·.1)) nm q fd st f fdd):
 ∀n,Lev Pr w K mg base P kl n->FnOk Pr w K mg base (CXF Pr w) (2 * (n+1)+61) f fdd fd.ps (Zfa (P.tbl (n+1)) ⟨K,mg⟩ x):=by
 intro n ih;obtain⟨oc,od,kV,doc,pm,an,cdv,ct,osl,rfl,lk,hcd⟩:=o.fn.ex;have S_:=o.sc;rw[show 2 * (n+1)+61=(2 * n+61+1)+1 by omega];refine ZuS lk hcd S_ (fun vs H Q E h=>Zm1 hl h) fun A outer s H vs Q E hr hsp=>?_;refine body_of (t:=Zq6 (P.tbl n) ⟨K,mg⟩ E fd.body) (sts_ok fd.body (k:=2 * n+61) (Γ:=⟨fd.N,ZT st,P.tb.map (·.1),Ww,kl⟩) ⟨⟨⟨rfl,rfl,M.gd,M.g,M.bare⟩,rfl,fun _=>rfl,fun y hy=>?_,fun y hy=>hy,S_.nd,rfl,hr.mono (by omega),by omega,ZpX fun _ _ z=>z,ih.defs,M.blt,hr,M.cls,ih.mts,ih.mks⟩,rfl,fun _=>rfl,PassesOwn.leaving,?_,Znc,rfl,rfl,M.xcs⟩ o.ck) ?_
 . unfold Zo8 at hy;rw[Ws,Ws]at hy;rcases hy with (hy|hy)|hy
   . exact .inl (of_decide_eq_true hy)
   . exact .inr (.inl (of_decide_eq_true hy))
   . exact .inr (.inr (of_decide_eq_true hy))
 . show(if (ZT st).kind.isAnnotationScope then ScopeKind.function else(ZT st).kind)=.function;rw[S_.kind];rfl
 . obtain⟨ds,h,B,rh,rs,f⟩:=hsp;have f:Fin ⟨K,mg⟩ (RD ⟨K,mg⟩) H B (run P (n+1) x ds h) Q E:=f;rw[run,hl]at f;obtain⟨hz,f⟩:=f.iff;exact⟨Zn fd.N ds,h,B,rh,ZmZ rs,Zpq f⟩
theorem mem_lookup{α:Type}{l:List (Str×α)}{x:Str}(h:x∈l.map (·.1)):∃a,l.lookup x=Wu a:=by
 induction l with
 |nil=>simp at h
 |cons p r ih=>
  rw[OF];by_cases e:x=p.1
  . have:(x==p.1)=Ww:=by simpa using e
    rw[this];exact⟨_,rfl⟩
  . have:(x==p.1)=Wx:=by simpa using e
    rw[this];exact ih (by simpa[e]using h)
theorem ZhN{x:Str}{fd:Fd}{f:Yi}{fdd:FuncData}(hl:P.look x=Wu fd):FnOk Pr w K mg base (CXF Pr w) (2 * 0+61) f fdd fd.ps (Zfa (P.tbl 0) ⟨K,mg⟩ x):=⟨fun vs H Q E h=>Zm1 hl h,fun A outer s H args us vs Q E _ _ _ _ h=>by obtain⟨ds,h,B,rh,rs,f⟩:=h;exact f.elim⟩
theorem ZoZ(M:Md Pr w K mg P kl):∀n,Lev Pr w K mg base P kl n:=by
 intro n;induction n with
 |zero=>
  refine⟨fun y hy=>?_,fun p hp=>?_,fun C hC=>?_⟩
  . obtain⟨fd,hl⟩:=mem_lookup hy;obtain⟨st,f,fdd,o⟩:=M.defs y fd hl;exact⟨fd.ps,f,fdd,o.mg,o.bd.fn.kp,o.bd.fn.binds o.bd.hb,ZhN (ZhD hl)⟩
  . obtain⟨a,f,fdd,fd,st,q,m,c,me,hl,o⟩:=M.mts p hp;exact⟨a,f,fdd,fd.ps,m,c,me,ZhN hl,o.fn.binds o.hb⟩
  . obtain⟨a,f,fdd,fd,st,q,m,me,hl,o⟩:=M.mks C hC;exact⟨a,f,fdd,fd.ps,m,me,ZhN hl,o.fn.binds o.hb⟩
 |succ n ih=>
  refine⟨fun y hy=>?_,fun p hp=>?_,fun C hC=>?_⟩
  . obtain⟨fd,hl⟩:=mem_lookup hy;obtain⟨st,f,fdd,o⟩:=M.defs y fd hl;exact⟨fd.ps,f,fdd,o.mg,o.bd.fn.kp,o.bd.fn.binds o.bd.hb,ZhT M (ZhD hl) o.bd n ih⟩
  . obtain⟨a,f,fdd,fd,st,q,m,c,me,hl,o⟩:=M.mts p hp;exact⟨a,f,fdd,fd.ps,m,c,me,ZhT M hl o n ih,o.fn.binds o.hb⟩
  . obtain⟨a,f,fdd,fd,st,q,m,me,hl,o⟩:=M.mks C hC;exact⟨a,f,fdd,fd.ps,m,me,ZhT M hl o n ih,o.fn.binds o.hb⟩
theorem ZsJ(M:Md Pr w K mg P kl){x:Str}{a:Str}{fd:Fd}{fa:Yi}(n:Nat)(hl:P.tb.lookup x=Wu fd)(hps:fd.ps=[a])(hm:mg x=Wu (.ref fa)):
 ∃fdd:FuncData,(∀(s:Yb) (v:Yj),BindsTo s fdd ⟨[v],[]⟩ [(a,v)])/\∀base:YG,FnOk Pr w K mg base (CXF Pr w) (2 * (n+1)+61) fa fdd [a] (Zfa (P.tbl (n+1)) ⟨K,mg⟩ x):=by
 obtain⟨st,f,fdd,o⟩:=M.defs x fd hl;have e:=hm.symm.trans o.mg;cases e;refine⟨fdd,fun s v=>?_,fun base=>hps ▸ ZhT M (ZhD hl) o.bd n (ZoZ M n)⟩;obtain⟨oc,od,kV,doc,pm,an,cdv,ct,osl,rfl,lk,hcd⟩:=o.bd.fn.ex;have:=o.bd.hb kV doc pm an cdv ct [v] (by rw[hps];rfl);rw[hps]at this;exact BindsTo.of_eq this
end
theorem Zty{α:Type}{us:List α}(h:us.length=0):us=[]:=List.length_eq_zero_iff.mp h
theorem ZlL{α:Type}{us:List α}{n:Nat}(h:us.length=n+1):∃a r,us=a::r/\r.length=n:=by
 cases us with
 |nil=>cases h
 |cons a r=>exact⟨a,r,rfl,Nat.succ.inj h⟩
theorem Ztx{α:Type}{us:List α}(h:us.length=1):∃a0,us=[a0]:=by obtain⟨a0,r,rfl,h2⟩:=ZlL h;exact⟨a0,by rw[Zty h2]⟩
theorem Ztw{α:Type}{us:List α}(h:us.length=2):∃a0 a1,us=[a0,a1]:=by obtain⟨a0,r,rfl,h2⟩:=ZlL h;obtain⟨a1,rfl⟩:=Ztx h2;exact⟨a0,a1,rfl⟩
theorem Ztv{α:Type}{us:List α}(h:us.length=3):∃a0 a1 a2,us=[a0,a1,a2]:=by obtain⟨a0,r,rfl,h2⟩:=ZlL h;obtain⟨a1,a2,rfl⟩:=Ztw h2;exact⟨a0,a1,a2,rfl⟩
theorem Ztu{α:Type}{us:List α}(h:us.length=4):∃a0 a1 a2 a3,us=[a0,a1,a2,a3]:=by obtain⟨a0,r,rfl,h2⟩:=ZlL h;obtain⟨a1,a2,a3,rfl⟩:=Ztv h2;exact⟨a0,a1,a2,a3,rfl⟩
theorem Ztt{α:Type}{us:List α}(h:us.length=5):∃a0 a1 a2 a3 a4,us=[a0,a1,a2,a3,a4]:=by obtain⟨a0,r,rfl,h2⟩:=ZlL h;obtain⟨a1,a2,a3,a4,rfl⟩:=Ztu h2;exact⟨a0,a1,a2,a3,a4,rfl⟩
theorem Zvq{α:Type}{us:List α}(h:us.length=6):∃a0 a1 a2 a3 a4 a5,us=[a0,a1,a2,a3,a4,a5]:=by obtain⟨a0,r,rfl,h2⟩:=ZlL h;obtain⟨a1,a2,a3,a4,a5,rfl⟩:=Ztt h2;exact⟨a0,a1,a2,a3,a4,a5,rfl⟩
end IV
end
section
namespace IV
open PySem PySem.Spec PyProof.Rows L2
def All{α:Type}(p:α->Prop):List α->Prop
 |[]=>True
 |a::l=>p a/\All p l
theorem All.mem{α:Type}{p:α->Prop}:∀{l:List α},All p l->∀a∈l,p a
 |[],_,a,h=>by simp at h
 |b::l,⟨h1,h2⟩,a,h=>by
  rcases O2.mp h with rfl|h
  . exact h1
  . exact All.mem h2 a h
theorem lookup_mem{α:Type}{l:List (Str×α)}{x:Str}{a:α}(h:l.lookup x=Wu a):(x,a)∈l:=by
 induction l with
 |nil=>cases h
 |cons p r ih=>
  rw[OF]at h;by_cases e:x=p.1
  . have:(x==p.1)=Ww:=by simpa using e
    rw[this]at h;cases h;subst e;exact Oi
  . have:(x==p.1)=Wx:=by simpa using e
    rw[this]at h;exact Oh _ (ih h)
noncomputable def spL(K:Yk):Sp:=fun vs H Q _=>∃(a:Yi) (ns:List Int),vs=[.ref a]/\SqL K H a (ns.map V.int)/\ns.length<=63/\ZqY H/\∀H',Q (.bl Ww) H'
theorem Zlu{Y:Yx}{H:Hp}{B:List Yi}:∀ns:List Int,RDs Y H B (ns.map D.int) (ns.map V.int)
 |[]=>.nil
 |n::r=>.cons (.int n) (Zlu r)
theorem Zts{l:PySem.W.OpenLaw}{q:Yh}{loose:List Str}{XP:(Str->Option Yj)->YG->Prop}{YP:Yg->YG->Prop}{d:DefRec}{K:Params->Yk}{P:Pg}{kl:Kl}{fd:Fd}(n:Nat)(hn:l.most=Wu 63)(hdf:d.params.defaults=[])(hd:d.name=O "law")(hr:Room (2 * (n+1)+61) callerA)
 (hY:∀(w:Yg) (h:YG),YP w h->(K w.params).In h) (hl:P.tb.lookup (O "law")=Wu fd) (hps:fd.ps=[O "_law_script"])
 (hrun:∀ns:List Int,ns.length<=63->∃h',run P (n+1) (O "law") [.ro (ns.map .int)] []=.ok (.bl Ww) h')
 (M:∀(w:Yg) (mg:Str->Option Yj) (h:YG),(K w.params).In h->h.Ns Yd mg->Md l.prog w (K w.params) mg P kl) :
 PySem.W.WalkO q loose XP YP l.row.toRowW d [] (fun f vs=>PySem.call f vs):=by
 refine L2.Zo7 (n:=63) (k:=2 * (n+1)+61) (x := "_law_script") (CX:=fun w=>CXF l.prog w) (sp:=fun w=>spL (K w.params)) hn (by decide) hdf hr hY (fun w mg fa h KX G hmg=>?_) (fun _ _ a ns hl hO hS=>⟨a,ns,rfl,hS,hl,hO,fun _=>rfl⟩) fun _ _ _ _ _ z=>by obtain⟨_,_,_,_,_,_,_,_,_,_,_,_,_,z⟩:=z;exact z
 rw[hd]at hmg;obtain⟨fdd,hb,F⟩:=ZsJ (M w mg h KX G) n hl hps hmg;refine⟨fdd,hb,fun base _ _=>(F base).imp fun vs H Q E hsp=>?_⟩;obtain⟨a,ns,rfl,hS,hz,hO,hq⟩:=hsp;obtain⟨h',e⟩:=hrun ns hz;refine⟨[.ro (ns.map .int)],[],[],⟨rfl,.nil,fun i o a e=>by simp at e,fun i o e=>by simp at e⟩,.cons (.ro ?_ (Zlu ns)) .nil,?_⟩
 . rcases hS with hS|hS
   . rcases hS with hS|hS
     . rcases hO a with z|⟨o,xs,z⟩<;>(rw[z]at hS;cases hS)
     . exact .inl hS
   . exact .inr hS
 . show Fin _ _ H [] (run P (n+1) (O "law") [.ro (ns.map .int)] []) Q E;rw[e];exact fun b H' μ' _ _ r=>by cases r;exact hq H'
theorem ZdB{K:Yk}{H:Hp}{a:Yi}{od:Option Yi}{its:Array Yj}{n:Nat}{sl:Array (Option Yj)}{vs:List V}(h:K.lookup a=Wu ⟨.type "tuple",od,.seq its n,sl⟩)(hz:its.size<=sizeLine)(r:Zl vs its.toList):SqT K H a vs:=
 .inr ⟨_,its,n,h,rfl,rfl,hz,r⟩
end IV
end
section
namespace IV
open PySem L2 PyProof.Rows
structure Chk(kl:Kl)(fs:List Str)(x q:Str)(fd:Fd)(st:Stmt):Prop where
 sc:FnScope fd.N fd.ps (ZT st)
 hb:∀(kV doc pm:Yj) (an:Option Yi) (cdv ct:Yj) (us:List Yj),us.length=fd.ps.length->bindArgs (PySem.W.fnOf x q (Zdx st) (ZbS st) (ZT st) .none kV doc pm an cdv ct) ⟨us,[]⟩=pure (fd.ps.zip us)
 ck:chkSs ⟨fd.N,ZT st,fs,Ww,kl⟩ fd.body (ZbS st)=Ww
variable {K:Yk}{h:YG}{mg:Str->Option Yj}{kl:Kl}{fs:List Str}{x q C:Str}{fd:Fd}{st:Stmt}{ca:Yi}{P:Pg}
theorem Chk.bd(c:Chk kl fs x q fd st){f:Yi}{fdd:FuncData}(F:Fun K x q st f fdd):BodyOk K kl fs x q fd st f fdd:=⟨F,c.sc,c.hb,c.ck⟩
def ZA(K:Yk)(x:Str)(st:Stmt):Prop:=∃f fdd,Yl K Yd x=Wu (Wu (.ref f))/\Fun K x x st f fdd
def ZkS(K:Yk)(ca:Yi)(x q:Str)(st:Stmt):Prop:=∃f fdd,YJ K (.ref ca) x=Wu (Wu (.ref f))/\PySem.W.isFn K (.ref f)=Ww/\Wf K (.ref f)=Ww/\Fun K x q st f fdd
theorem Zf(X:K.In h)(G:h.Ns Yd mg)(d:ZA K x st)(c:Chk kl fs x x fd st):∃st f fdd,DefOk K mg kl fs x fd st f fdd:=by obtain⟨f,fdd,a,F⟩:=d;exact⟨st,f,fdd,c.bd F,YO X G a⟩
theorem Zfm(X:K.In h)(G:h.Ns Yd mg)(y:Yl K Yd C=Wu (Wu (.ref ca)))(cl:Cls K ca)(d:ZkS K ca x q st)(c:Chk kl (P.tb.map (·.1)) x q fd st)(e:P.look (mnm C x)=Wu fd):∃a f fdd fd st q,mg C=Wu (.ref a)/\Cls K a/\Meth K a x f/\P.look (mnm C x)=Wu fd/\BodyOk K kl (P.tb.map (·.1)) x q fd st f fdd:=by obtain⟨f,fdd,u1,u2,u3,F⟩:=d;exact⟨ca,f,fdd,fd,st,q,YO X G y,cl,⟨u1,u2,u3⟩,e,c.bd F⟩
theorem ZsE(X:K.In h)(G:h.Ns Yd mg)(y:Yl K Yd C=Wu (Wu (.ref ca)))(m:PySem.W.makesIn K ca=Ww)(k:Wf K (.ref ca)=Ww)(d:ZkS K ca (O "__init__") q st)(c:Chk kl (P.tb.map (·.1)) (O "__init__") q fd st)(e:P.look (mnm C (O "__init__"))=Wu fd):∃a f fdd fd st q,mg C=Wu (.ref a)/\Mk K a f/\P.look (mnm C (O "__init__"))=Wu fd/\BodyOk K kl (P.tb.map (·.1)) (O "__init__") q fd st f fdd:=by obtain⟨f,fdd,u1,u2,u3,F⟩:=d;exact⟨ca,f,fdd,fd,st,q,YO X G y,⟨m,u1,u2,k⟩,e,c.bd F⟩
end IV
end
section
set_option tactic.hygienic false
namespace IV
open PySem L2
theorem ZhA{a b:String}(h:Str.ofString a=Str.ofString b):a=b:=by
 have e:∀s:String,(Str.ofString s).cps.toList=s.toList.map Char.toNat:=fun s=>by show(cpsOfBytes 0 0 s.toByteArray.data.toList).toArray.toList=_;rw[cpsOfBytes_string]
 have h1:=congrArg (fun s:Str=>s.cps.toList) h;simp only[e]at h1;have h2:a.toList=b.toList:=by
  have inj:∀{x y:Char},x.toNat=y.toNat->x=y:=fun {x y} q=>by have:x.val=y.val:=UInt32.toNat_inj.mp q;exact Char.ext this
  exact(List.map_inj_right fun x y q=>inj q).mp h1
 exact String.toList_inj.mp h2
@[simp] theorem ofString_eq(a b:String):(Str.ofString a=Str.ofString b)↔a=b:=⟨ZhA,fun h=>h ▸ rfl⟩
@[simp] theorem Zqe(a b:String):(Str.ofString a==Str.ofString b)=(a==b):=by rw[Bool.eq_iff_iff];simp
def Un{γ:Type}(k:γ):Type:=Unit
noncomputable def un{γ:Type}{k:γ}:Un k:=()
noncomputable def R.bnd{α β:Type}(r:R α)(k:α->Hd->R β)(u:Un k:=un):R β:=r.bind k
@[simp] theorem Zk{α β:Type}{a:α}{h:Hd}{k:α->Hd->R β}{u:Un k}:R.bnd (.ok a h) k u=k a h:=rfl
@[simp] theorem Zvn{α β:Type}{k:α->Hd->R β}{u:Un k}:R.bnd (R.bad:R α) k u=.bad:=rfl
section
variable {T:Tb}{S:Ev}{h:Hd}
@[simp] theorem bind_ok{α β:Type}{a:α}{h:Hd}{k:α->Hd->R β}:(R.ok a h).bind k=k a h:=rfl
@[simp] theorem bind_bad{α β:Type}{k:α->Hd->R β}:(R.bad:R α).bind k=.bad:=rfl
@[simp] theorem ofO_some{α:Type}{a:α}{h:Hd}:R.ofO (Wu a) h=.ok a h:=rfl
@[simp] theorem Zl8{α:Type}{a:α}{h:Hd}:(R.ok a h).plain=.ok a h:=rfl
@[simp] theorem ZhP{i}:ev T (.var i) S h=R.ofO (S[i]?).join h:=rfl
@[simp] theorem Zkx{d}:ev T (.cst d) S h=.ok d h:=rfl
@[simp] theorem ZoA{x}:ev T (.glo x) S h=R.ofO (T.G x) h:=rfl
@[simp] theorem ZoB{op a b}:ev T (.bin op a b) S h=(ev T a S h).bnd fun x h1=>(ev T b S h1).bnd fun y h2=>opB op x y h2:=rfl
@[simp] theorem Zky{op a b}:ev T (.cmp op a b) S h=(ev T a S h).bnd fun x h1=>(ev T b S h1).bnd fun y h2=>opC T.GD op x y h2:=rfl
@[simp] theorem Zwd{a}:ev T (.neg a) S h=(ev T a S h).bnd fun x h1=>match x with
 |.int i=>.ok (.int (-i)) h1
 |_=>.bad:=rfl
@[simp] theorem Zww{a}:ev T (.nt a) S h=(ev T a S h).bnd fun x h1=>match x with
 |.bl b=>.ok (.bl (!b)) h1
 |_=>.bad:=rfl
@[simp] theorem ZqG{es}:ev T (.ands es) S h=evAnd T es S h:=rfl
@[simp] theorem Zoy{es}:ev T (.ors es) S h=evOr T es S h:=rfl
@[simp] theorem Zto{e}:evAnd T (.cons e .nil) S h=ev T e S h:=rfl
@[simp] theorem ZmA{e e' r}:evAnd T (.cons e (.cons e' r)) S h=(ev T e S h).bnd fun x h1=>match x with
 |.bl Ww=>evAnd T (.cons e' r) S h1
 |.bl Wx=>.ok (.bl Wx) h1
 |_=>.bad:=rfl
@[simp] theorem ZuZ{e}:evOr T (.cons e .nil) S h=ev T e S h:=rfl
@[simp] theorem Zi8{e e' r}:evOr T (.cons e (.cons e' r)) S h=(ev T e S h).bnd fun x h1=>match x with
 |.bl Ww=>.ok (.bl Ww) h1
 |.bl Wx=>evOr T (.cons e' r) S h1
 |_=>.bad:=rfl
@[simp] theorem Zwh{c a b}:ev T (.ite c a b) S h=(tst T c S h).bnd fun c h1=>if c then ev T a S h1 else ev T b S h1:=rfl
@[simp] theorem Zfn{es}:ev T (.tupl es) S h=(evs T es S h).bnd fun xs h1=>if xs.length<=sizeLine then .ok (.tup xs) h1 else .bad:=rfl
@[simp] theorem ZlB{es}:ev T (.lstl es) S h=(evs T es S h).bnd fun xs h1=>if xs.length<=sizeLine then ZcP (.lst xs) h1 else .bad:=rfl
@[simp] theorem Zi7{a i}:ev T (.ix a i) S h=(ev T a S h).bnd fun x h1=>(ev T i S h1).bnd fun y h2=>ZaS T.GD x y h2:=rfl
@[simp] theorem ZuV{a lo hi}:ev T (.sl a lo hi) S h=(ev T a S h).bnd fun x h1=>(evo T lo S h1).bnd fun l h2=>(evo T hi S h2).bnd fun u h3=>Zgw x l u h3:=rfl
@[simp] theorem Zs3{f es}:ev T (.blt f es) S h=(evs T es S h).bnd fun xs h1=>Zbl T.GD f xs h1:=rfl
@[simp] theorem ZhR{f es}:ev T (.call f es) S h=(evs T es S h).bnd fun xs h1=>T.C f xs h1:=rfl
@[simp] theorem ZqE{m o es}:ev T (.meth m o es) S h=(ev T o S h).bnd fun x h1=>if ZcI x h1 then(evs T es S h1).bnd fun xs h2=>ZaT m x xs h2 else .bad:=rfl
@[simp] theorem Zfo{NC js it g c e}:ev T (.comp NC js it g c e) S h=(evi T it S h).bnd fun w h1=>(ZN w.src g (tsto T c) (ev T e) w.xs (Zbq js S) [] h1).bnd fun xs h2=>ZcP (.lst xs) h2:=rfl
@[simp] theorem Zvm{e d}:ev T (.maxd e d) S h=(ev T e S h).bnd fun x h1=>(ev T d S h1).bnd fun y h2=>ZlI x y h2:=rfl
@[simp] theorem ZuY{ps}:ev T (.dictl ps) S h=(evs T ps S h).bnd fun xs h1=>match ZcW xs with
 |some kvs=>if kvs.length<=15 then ZcP (.dic (Zb3 [] kvs)) h1 else .bad
 |none=>.bad:=rfl
@[simp] theorem Zwi{Cs o f}:ev T (.att Cs o f) S h=(ev T o S h).bnd fun x h1=>ZgD Cs f x h1:=rfl
@[simp] theorem ZuX{C es}:ev T (.mk C es) S h=(evs T es S h).bnd fun xs h1=>ZnS T.C C xs h1:=rfl
@[simp] theorem Zoz{C m o es}:ev T (.mcl C m o es) S h=(ev T o S h).bnd fun x h1=>match ZZ x h1 with
 |some (C',fs)=>if C'=C/\fs.lookup m=Wv then(evs T es S h1).bnd fun xs h2=>T.C (mnm C m) (x::xs) h2 else .bad
 |none=>.bad:=rfl
@[simp] theorem Zvl{e}:ev T (.trev e) S h=(ev T e S h).bnd fun x h1=>Zrq x h1:=rfl
@[simp] theorem Zwe{e}:ev T (.lrv e) S h=(ev T e S h).bnd fun x h1=>Zu8 x h1:=rfl
@[simp] theorem Zwc{o e}:ev T (.tix o e) S h=(ev T o S h).bnd fun x h1=>if ZuK x then(ev T e S h1).bnd fun y h2=>Zu7 x y h2 else .bad:=rfl
@[simp] theorem Zwf{o e}:ev T (.lix o e) S h=(ev T o S h).bnd fun x h1=>if ZcI x h1 then(ev T e S h1).bnd fun y h2=>Zu9 x y h2 else .bad:=rfl
@[simp] theorem Zwg{a b}:ev T (.lin a b) S h=(ev T a S h).bnd fun x h1=>(ev T b S h1).bnd fun y h2=>Zva x y h2:=rfl
@[simp] theorem Ztq{Cs o f e}:xs1 T (.seta Cs o f e) S h=(ev T e S h).bnd fun d h1=>(ev T o S h1).bnd fun x h2=>(Zhq Cs f x d h2).bnd fun _ h3=>.ok (.nx,S) h3:=rfl
@[simp] theorem Ztr{Cs o f e}:xs1 T (.auga Cs o f e) S h=(ev T o S h).bnd fun x h1=>(ZgD Cs f x h1).bnd fun v h2=>(ev T e S h2).bnd fun y h3=>match v,y with
 |.int a,.int b=>if (ZZ x h1).map (·.1)=(ZZ x h3).map (·.1)then(Zhq Cs f x (.int (a+b)) h3).bnd fun _ h4=>.ok (.nx,S) h4 else .bad
 |_,_=>.bad:=rfl
@[simp] theorem Zeq:evs T .nil S h=.ok [] h:=rfl
@[simp] theorem Za8{e es}:evs T (.cons e es) S h=(ev T e S h).bnd fun x h1=>(evs T es S h1).bnd fun xs h2=>.ok (x::xs) h2:=rfl
@[simp] theorem ZuU:evo T Wv S h=.ok Wv h:=rfl
@[simp] theorem Zox{e}:evo T (Wu e) S h=(ev T e S h).bnd fun x h1=>match x with
 |.int i=>.ok (Wu i) h1
 |_=>.bad:=rfl
@[simp] theorem Zhi{e}:tst T (.ex e) S h=(ev T e S h).bnd fun x h1=>R.ofO (ZdR T.GD x h1) h1:=rfl
@[simp] theorem Zie{ts}:tst T (.ands ts) S h=tstAnd T ts S h:=rfl
@[simp] theorem ZkZ{ts}:tst T (.ors ts) S h=tstOr T ts S h:=rfl
@[simp] theorem Zvr{a}:tst T (.nt a) S h=(tst T a S h).bnd fun c h1=>.ok (!c) h1:=rfl
@[simp] theorem ZrC{t}:tstAnd T (.one t) S h=tst T t S h:=rfl
@[simp] theorem ZeP{t ts}:tstAnd T (.cons t ts) S h=(tst T t S h).bnd fun c h1=>if c then tstAnd T ts S h1 else .ok Wx h1:=rfl
@[simp] theorem Ztl{t}:tstOr T (.one t) S h=tst T t S h:=rfl
@[simp] theorem Zfy{t ts}:tstOr T (.cons t ts) S h=(tst T t S h).bnd fun c h1=>if c then .ok Ww h1 else tstOr T ts S h1:=rfl
@[simp] theorem ZlP:tsto T Wv S h=.ok Ww h:=rfl
@[simp] theorem Ztk{t}:tsto T (Wu t) S h=tst T t S h:=rfl
@[simp] theorem Zs2{e}:evi T (.pl e) S h=(ev T e S h).bnd fun x h1=>R.ofO (Zar x h1) h1:=rfl
@[simp] theorem Zlz{e}:evi T (.rng e) S h=(ev T e S h).bnd fun x h1=>match x with
 |.int j=>if Zan j then .ok ⟨Wv,ZC 0 j.toNat⟩ h1 else .bad
 |_=>.bad:=rfl
@[simp] theorem ZqC{e}:evi T (.enu e) S h=(ev T e S h).bnd fun x h1=>R.ofO ((ZkV x h1).map fun w=>⟨w.src,ZcJ w.xs⟩) h1:=rfl
@[simp] theorem ZqB{e}:evi T (.rev e) S h=(ev T e S h).bnd fun x h1=>R.ofO ((Zfw x h1).map fun w=>⟨w.src,w.xs.reverse⟩) h1:=rfl
@[simp] theorem ZqD{e}:evi T (.en1 e) S h=(ev T e S h).bnd fun x h1=>match x with
 |.tup xs=>.ok ⟨Wv,ZdX xs⟩ h1
 |_=>.bad:=rfl
@[simp] theorem Zvk{e}:evi T (.en0 e) S h=(ev T e S h).bnd fun x h1=>match x with
 |.tup xs=>.ok ⟨Wv,ZcJ xs⟩ h1
 |_=>.bad:=rfl
@[simp] theorem Zwb{e}:evi T (.dk e) S h=(ev T e S h).bnd fun x h1=>Zos x h1:=rfl
@[simp] theorem Zhf{e}:xs1 T (.ret e) S h=(ev T e S h).bnd fun x h1=>.ok (.rt x,S) h1:=rfl
@[simp] theorem Zd4{g e}:xs1 T (.set g e) S h=(ev T e S h).bnd fun x h1=>(R.ofO (ZbG g x S) h1).bnd fun ρ1 h2=>.ok (.nx,ρ1) h2:=rfl
@[simp] theorem Zvf{o i e}:xs1 T (.put o i e) S h=(ev T e S h).bnd fun x h1=>(ev T o S h1).bnd fun y h2=>(ev T i S h2).bnd fun z h3=>(ZbP y z x h3).bnd fun _ h4=>.ok (.nx,S) h4:=rfl
@[simp] theorem ZkT{e}:xs1 T (.drp e) S h=(ev T e S h).bnd fun _ h1=>.ok (.nx,S) h1:=rfl
@[simp] theorem Zff{c a b}:xs1 T (.iff c a b) S h=(tst T c S h).bnd fun t h1=>if t then xs2 T a S h1 else xs2 T b S h1:=rfl
@[simp] theorem Zve{c b}:xs1 T (.whl c b) S h=ZO (tst T c) (xs2 T b) T.L S h:=rfl
@[simp] theorem Zft{g it b}:xs1 T (.forr g it b) S h=(evi T it S h).bnd fun w h1=>ZL w.src g (xs2 T b) w.xs S h1:=rfl
@[simp] theorem Zo1:xs2 T .nil S h=.ok (.nx,S) h:=rfl
@[simp] theorem Zca{s r}:xs2 T (.cons s r) S h=(xs1 T s S h).bnd fun p h1=>match p with
 |(.nx,ρ1)=>xs2 T r ρ1 h1
 |p=>.ok p h1:=rfl
theorem Za{s:Sx}{r:Sxs}{ρ1:Ev}{h1:Hd}(e:xs1 T s S h=.ok (.nx,ρ1) h1):xs2 T (.cons s r) S h=xs2 T r ρ1 h1:=by rw[Zca,e];rfl
theorem Ze{s:Sx}{r:Sxs}{ρ1:Ev}{h1:Hd}{d:D}(e:xs1 T s S h=.ok (.rt d,ρ1) h1):xs2 T (.cons s r) S h=.ok (.rt d,ρ1) h1:=by rw[Zca,e];rfl
@[simp] theorem ZqT{i d}:ZbG (.nm i) d S=Wu (S.set i (Wu d)):=rfl
@[simp] theorem Zjm{i j a b}:ZbG (.two i j) (.tup [a,b]) S=Wu ((S.set i (Wu a)).set j (Wu b)):=rfl
@[simp] theorem ZvK{d:D}:Zh (.ok (.rt d,S) h)=.ok d h:=rfl
@[simp] theorem ZvL:Zh (.ok (.nx,S) h)=.ok .non h:=rfl
end
@[simp] theorem ZlV{xs:List D}{h:Hd}:seqOf (.tup xs) h=Wu xs:=rfl
@[simp] theorem Zuq{f:Int->Int->Bool}{i j:Int}{h:Hd}:Zhy f (.int i) (.int j) h=.ok (.bl (f i j)) h:=rfl
section
variable {GD:Str->Option (List (Key×D))}{h:Hd}
@[simp] theorem ZjV{x y}:opC GD .Eq x y h=Zb2 Wx x y h:=rfl
@[simp] theorem Zsw{x y}:opC GD .NotEq x y h=Zb2 Ww x y h:=rfl
@[simp] theorem Zv0{i j}:opC GD .Lt (.int i) (.int j) h=.ok (.bl (Wy (i<j))) h:=rfl
@[simp] theorem Zv1{i j}:opC GD .LtE (.int i) (.int j) h=.ok (.bl (Wy (i<=j))) h:=rfl
@[simp] theorem Zv2{i j}:opC GD .Gt (.int i) (.int j) h=.ok (.bl (Wy (j<i))) h:=rfl
@[simp] theorem Zv3{i j}:opC GD .GtE (.int i) (.int j) h=.ok (.bl (Wy (j<=i))) h:=rfl
@[simp] theorem ZjU{x}:opC GD .Is x .non h=.ok (.bl (Wy (x=.non))) h:=rfl
@[simp] theorem ZnM{x}:opC GD .IsNot x .non h=.ok (.bl (!Wy (x=.non))) h:=rfl
@[simp] theorem Ztn{s n}:opC GD .In (.str s) (.kd n) h=match GD n with
 |some kvs=>.ok (.bl (Zad kvs (.inr s)).isSome) h
 |none=>.bad:=by
 show ZbQ GD Wx (.str s) (.kd n) h=_;unfold ZbQ;simp only[seqOf,lstOf,dicOf,keyOf];cases GD n<;>rfl
@[simp] theorem Zhz{s n}:opC GD .NotIn (.str s) (.kd n) h=match GD n with
 |some kvs=>.ok (.bl (!(Zad kvs (.inr s)).isSome)) h
 |none=>.bad:=by
 show ZbQ GD Ww (.str s) (.kd n) h=_;unfold ZbQ;simp only[seqOf,lstOf,dicOf,keyOf];cases GD n<;>rfl
theorem Zjv(ss:List Str):(ss.map D.str).all D.flat=Ww:=by rw[OC];intro x hx;obtain⟨s,_,rfl⟩:=List.mem_map.mp hx;rfl
theorem any_words(ss:List Str)(x:Str):((ss.map D.str).any fun z=>eqF z (.str x))=Wy (x∈ss):=by
 induction ss with
 |nil=>rfl
 |cons s r ih=>
  rw[Op,We,ih];show((s==x) || Wy (x∈r))=_;by_cases e:s=x
  . subst e;simp
  . have:(s==x)=Wx:=by simpa using e
    rw[this];have e':¬ x=s:=fun q=>e q.symm;simp[e']
theorem Zeh{ss:List Str}{x:Str}:opC GD .In (.str x) (.tup (ss.map .str)) h=.ok (.bl (Wy (x∈ss))) h:=by show ZbQ GD Wx (.str x) (.tup (ss.map .str)) h=_;unfold ZbQ;rw[ZlV];simp only[Zjv,any_words];rfl
@[simp] theorem Zup{xs i}:ZaS GD (.tup xs) (.int i) h=R.ofO (atI xs i) h:=rfl
@[simp] theorem Zvi{xs i}:ZaS GD (.ro xs) (.int i) h=R.ofO (atI xs i) h:=rfl
@[simp] theorem Zp6{n s}:ZaS GD (.kd n) (.str s) h=match GD n with
 |some kvs=>R.ofO (Zad kvs (.inr s)) h
 |none=>.bad:=rfl
theorem ZD{i k xs}(e:h[i]? = Wu (.lst xs)):ZaS GD (.ref i) (.int k) h=R.ofO (atI xs k) h:=by unfold ZaS;simp only[seqOf,lstOf,e]
@[simp] theorem Zrr{α:Type}{x:α}{l:List α}:atI (x::l) 0=Wu x:=by simp[atI,ixN]
theorem ZbX{α:Type}{l:List α}{k:Nat}:atI l (k:Int)=l[k]? := by
 unfold atI ixN;by_cases hk:k<l.length
 . simp[hk]
 . simp[hk]
@[simp] theorem Zwz{α:Type}{x y:α}{l:List α}:atI (x::y::l) 1=Wu y:=ZbX (k:=1)
@[simp] theorem Zwy{α:Type}{x y z:α}{l:List α}:atI (x::y::z::l) 2=Wu z:=ZbX (k:=2)
@[simp] theorem Zwx{α:Type}{x y z w:α}{l:List α}:atI (x::y::z::w::l) 3=Wu w:=ZbX (k:=3)
theorem ZoU{α:Type}{l:List α}{x:α}:atI (l++[x]) (-1)=Wu x:=by
 unfold atI ixN;rw[if_neg (by decide),if_pos (by simp;omega)];have:(-1+((l++[x]).length:Int)).toNat=l.length:=by simp;omega
 simp only[Yz,this];simp
@[simp] theorem Zuo{xs l u}:Zgw (.tup xs) l u h=.ok (.tup (cutD xs l u)) h:=rfl
@[simp] theorem ZmC{x:D}{l:List D}:cutD (x::l) (Wu 1) Wv=l:=by simp[cutD,HT.sIx]
@[simp] theorem Zk0{b}:ZdR GD (.bl b) h=Wu b:=rfl
@[simp] theorem ZtE{i}:ZdR GD (.int i) h=Wu (i != 0):=rfl
@[simp] theorem ZtC{xs}:ZdR GD (.tup xs) h=Wu (!xs.isEmpty):=rfl
@[simp] theorem ZtD:ZdR GD .non h=Wu Wx:=rfl
@[simp] theorem Zqa{i j}:opB .Add (.int i) (.int j) h=.ok (.int (i+j)) h:=rfl
@[simp] theorem Zvj{i j}:opB .Sub (.int i) (.int j) h=.ok (.int (i - j)) h:=rfl
theorem ZR{i j:Int}(hj:0<j):opB .Mod (.int i) (.int j) h=.ok (.int (i % j)) h:=if_pos hj
theorem Zcs{i j:Int}(hj:0<j/\j<1073741824):opB .FloorDiv (.int i) (.int j) h=.ok (.int (i / j)) h:=if_pos hj
theorem Zei{i j:Int}(hj:i.natAbs<2 ^ 2000/\j.natAbs<2 ^ 2000):opB .Mult (.int i) (.int j) h=.ok (.int (i * j)) h:=if_pos hj
theorem Zds{xs ys:List D}(hl:xs.length+ys.length<=sizeLine):opB .Add (.tup xs) (.tup ys) h=.ok (.tup (xs++ys)) h:=if_pos hl
@[simp] theorem ZfZ{n:Bool}{x y:Str}:Zb2 n (.str x) (.str y) h=.ok (.bl (if n then !Wy (x=y)else Wy (x=y))) h:=by
 have e:YQ (.str x) (.str y)=Wy (x=y):=by show(x==y)=_;rw[Bool.beq_eq_decide_eq]
 have q:Zb2 n (.str x) (.str y) h=if min (PyData.str x).depth (PyData.str y).depth<=1100 then .ok (.bl (if n then !YQ (.str x) (.str y)else YQ (.str x) (.str y))) h else .bad:=rfl;rw[q,if_pos (by simp[PyData.depth]),e]
@[simp] theorem ZnK{n:Bool}{x y:Int}:Zb2 n (.int x) (.int y) h=.ok (.bl (if n then !Wy (x=y)else Wy (x=y))) h:=by
 have e:YQ (.int x) (.int y)=Wy (x=y):=by show(x==y)=_;rw[Bool.beq_eq_decide_eq]
 have q:Zb2 n (.int x) (.int y) h=if min (PyData.int x).depth (PyData.int y).depth<=1100 then .ok (.bl (if n then !YQ (.int x) (.int y)else YQ (.int x) (.int y))) h else .bad:=rfl;rw[q,if_pos (by simp[PyData.depth]),e]
end
@[simp] theorem Ztm{xs:List D}(h:xs.length<=1000):xs.length<=sizeLine:=OE h (by decide)
theorem Zc{P:Pg}{n:Nat}{f:Str}{fd:Fd}{ds:List D}{h:Hd}(e:P.tb.lookup f=Wu fd)(hl:ds.length=fd.ps.length):run P (n+1) f ds h=Zh (xs2 ⟨P.G,P.GD,run P n,P.L⟩ fd.body (Zn fd.N ds) h):=by rw[run,show P.look f=Wu fd by unfold Pg.look;rw[e]];simp only;rw[if_pos hl]
theorem ZdS{P:Pg}{n:Nat}{f:Str}{fd:Fd}{ds:List D}{h:Hd}(hn:P.tb.lookup f=Wv)(e:P.ms.lookup f=Wu fd)(hl:ds.length=fd.ps.length):run P (n+1) f ds h=Zh (xs2 ⟨P.G,P.GD,run P n,P.L⟩ fd.body (Zn fd.N ds) h):=by rw[run,show P.look f=Wu fd by unfold Pg.look;rw[hn];exact e];simp only;rw[if_pos hl]
section
variable {h:Hd}{x y z w:DO}{r:List DO}
@[simp] theorem ZcQ:(h++x::r)[h.length]? = Wu x:=by simp
@[simp] theorem ZwC:(h++x::y::r)[h.length+1]? = Wu y:=by simp
@[simp] theorem ZwB:(h++x::y::z::r)[h.length+2]? = Wu z:=by simp
@[simp] theorem ZwA:(h++x::y::z::w::r)[h.length+3]? = Wu w:=by simp
@[simp] theorem Zno{o:DO}:(h++x::r).set h.length o=h++o::r:=by simp
@[simp] theorem Zwv{o:DO}:(h++x::y::r).set (h.length+1) o=h++x::o::r:=by simp
@[simp] theorem Zwu{o:DO}:(h++x::y::z::r).set (h.length+2) o=h++x::y::o::r:=by simp
end
@[simp] theorem Zqf{o:DO}{h:Hd}:ZcP o h=.ok (.ref h.length) (h++[o]):=rfl
section
variable {h:Hd}
theorem ZcY{i:Nat}{ys:List D}{d:D}(e:h[i]? = Wu (.lst ys))(hz:ys.length<sizeLine):ZaT .app (.ref i) [d] h=.ok .non (h.set i (.lst (ys++[d]))):=by simp only[ZaT,e,ZeH,Zj2];rw[if_pos hz]
theorem ZiI{i:Nat}{ys:List D}{d:D}(e:h[i]? = Wu (.lst (ys++[d]))):ZaT .pop (.ref i) [] h=.ok d (h.set i (.lst ys)):=by simp only[ZaT,e,ZeH,Zqj];simp
theorem ZeK{i:Nat}{ys:List D}(e:h[i]? = Wu (.lst ys)):ZcI (.ref i) h=Ww:=by simp[ZcI,e]
theorem Zpb{GD:Str->Option (List (Key×D))}{i:Nat}{ys:List D}(e:h[i]? = Wu (.lst ys)):ZdR GD (.ref i) h=Wu (!ys.isEmpty):=by simp[ZdR,e]
@[simp] theorem ZuR{g:Tg}{body:Ev->Hd->R (Fl×Ev)}{S:Ev}:ZL Wv g body [] S h=.ok (.nx,S) h:=rfl
theorem Z8{g:Tg}{body:Ev->Hd->R (Fl×Ev)}{d:D}{ds:List D}{S:Ev}:ZL Wv g body (d::ds) S h=match ZbG g d S with
 |none=>.bad
 |some ρ1=>(body ρ1 h).bnd fun p h2=>match p with
  |(.nx,ρ2)=>ZL Wv g body ds ρ2 h2
  |(.ct,ρ2)=>ZL Wv g body ds ρ2 h2
  |(.bk,ρ2)=>.ok (.nx,ρ2) h2
  |(.rt d,ρ2)=>.ok (.rt d,ρ2) h2:=rfl
theorem ZX{src:Option (Nat×List D)}{g:Tg}{test:Ev->Hd->R Bool}{elt:Ev->Hd->R D}{d:D}{ds:List D}{S:Ev}{acc:List D}:ZN src g test elt (d::ds) S acc h=if Wk.stays src h/\acc.length<sizeLine then match ZbG g d S with
 |none=>.bad
 |some ρ1=>(test ρ1 h).plain.bnd fun b h1=>if b then(elt ρ1 h1).plain.bnd fun x h2=>ZN src g test elt ds S (acc++[x]) h2 else ZN src g test elt ds S acc h1
 else .bad:=rfl
theorem Zay{test:Ev->Hd->R Bool}{body:Ev->Hd->R (Fl×Ev)}{n:Nat}{S:Ev}:ZO test body (n+1) S h=(test S h).bnd fun b h1=>if b then(body S h1).bnd fun p h2=>match p with
 |(.nx,ρ2)=>ZO test body n ρ2 h2
 |(.ct,ρ2)=>ZO test body n ρ2 h2
 |(.bk,ρ2)=>.ok (.nx,ρ2) h2
 |(.rt d,ρ2)=>.ok (.rt d,ρ2) h2
 else .ok (.nx,S) h1:=rfl
end
inductive Wd where
 |add|sub|mul|lt
 deriving DecidableEq
noncomputable def Wd.s:Wd->Str
 |.add=>O "+"
 |.sub=>O "-"
 |.mul=>O "*"
 |.lt=>O "<"
inductive T where
 |num (n:Int)|name (x:Str)|fn (x:Str) (e:T)|rcc (f x:Str) (e:T)|call (f a:T)|iff (c t e:T)|op (w:Wd) (a b:T)
noncomputable def T.d:T->D
 |.num n=>.tup [.str (O "num"),.int n]
 |.name x=>.tup [.str (O "name"),.str x]
 |.fn x e=>.tup [.str (O "fn"),.str x,e.d]
 |.rcc f x e=>.tup [.str (O "rec"),.str f,.str x,e.d]
 |.call f a=>.tup [.str (O "call"),f.d,a.d]
 |.iff c t e=>.tup [.str (O "if"),c.d,t.d,e.d]
 |.op w a b=>.tup [.str w.s,a.d,b.d]
noncomputable def T.parts:T->List T
 |.num _|.name _=>[]
 |.fn _ e|.rcc _ _ e=>[e]
 |.call f a=>[f,a]
 |.iff c t e=>[c,t,e]
 |.op _ a b=>[a,b]
noncomputable def T.places:T->List T
 |.num n=>[.num n]
 |.name x=>[.name x]
 |.fn x e=>.fn x e::e.places
 |.rcc f x e=>.rcc f x e::e.places
 |.call f a=>.call f a::(f.places++a.places)
 |.iff c t e=>.iff c t e::(c.places++(t.places++e.places))
 |.op w a b=>.op w a b::(a.places++b.places)
noncomputable def T.size(t:T):Nat:=t.places.length
theorem T.places_parts(t:T):t.places=t::t.parts.flatMap T.places:=by cases t<;>simp[T.places,T.parts]
end IV
end
section
namespace IV
open PySem L2
section
variable {U:Tb}{S:Ev}{h h1:Hd}{f:Str}{as:List D}{r:R D}
noncomputable abbrev Tb.say(U:Tb)(r:R D):Tb:=⟨U.G,U.GD,fun _ _ _=>r,U.L⟩
theorem Zj{s:Sx}{y:R (Fl×Ev)}(e:U.C f as h1=r)(q:xs1 U s S h=xs1 (U.say (U.C f as h1)) s S h)(z:xs1 (U.say r) s S h=y):xs1 U s S h=y:=by rw[q,e,z]
theorem ZoP{s:Ex}{y:R D}(e:U.C f as h1=r)(q:ev U s S h=ev (U.say (U.C f as h1)) s S h)(z:ev (U.say r) s S h=y):ev U s S h=y:=by rw[q,e,z]
theorem Zs{c:Tx}{a b:Sxs}(e:tst U c S h=.ok Ww h1):xs1 U (.iff c a b) S h=xs2 U a S h1:=by rw[Zff,e];rfl
theorem Zw{c:Tx}{a b:Sxs}(e:tst U c S h=.ok Wx h1):xs1 U (.iff c a b) S h=xs2 U b S h1:=by rw[Zff,e];rfl
theorem Zx{e:Ex}{d:D}(q:ev U e S h=.ok d h1):xs1 U (.ret e) S h=.ok (.rt d,S) h1:=by rw[Zhf,q];rfl
theorem Zu{i:Nat}{e:Ex}{d:D}(q:ev U e S h=.ok d h1):xs1 U (.set (.nm i) e) S h=.ok (.nx,S.set i (Wu d)) h1:=by rw[Zd4,q];rfl
theorem Zcx{g:Tg}{it:Ix}{b:Sxs}{w:Wk}(q:evi U it S h=.ok w h1):xs1 U (.forr g it b) S h=ZL w.src g (xs2 U b) w.xs S h1:=by rw[Zft,q];rfl
theorem Zao{op:Operator}{a b:Ex}{x y:D}{h2:Hd}(p:ev U a S h=.ok x h1)(q:ev U b S h1=.ok y h2):ev U (.bin op a b) S h=opB op x y h2:=by rw[ZoB,p];simp only[Zk,q]
theorem ZE{op:CmpOp}{a b:Ex}{x y:D}{h2:Hd}(p:ev U a S h=.ok x h1)(q:ev U b S h1=.ok y h2):ev U (.cmp op a b) S h=opC U.GD op x y h2:=by rw[Zky,p];simp only[Zk,q]
theorem ZdW{e:Ex}{b:Bool}(q:ev U e S h=.ok (.bl b) h1):tst U (.ex e) S h=.ok b h1:=by rw[Zhi,q];rfl
theorem Zq{b c:Bool}{y:R Bool}(q:y=.ok b h1)(e:b=c):y=.ok c h1:=e ▸ q
noncomputable def hdS:Sxs->Sx
 |.cons s _=>s
 |.nil=>.pas
noncomputable def tlS:Sxs->Sxs
 |.cons _ r=>r
 |.nil=>.nil
theorem rt1{ss:Sxs}{ρ1:Ev}{d:D}{h2:Hd}(e:xs1 U (hdS ss) S h=.ok (.rt d,ρ1) h2)(hs:ss=.cons (hdS ss) (tlS ss)):Zh (xs2 U ss S h)=.ok d h2:=by rw[hs,Ze e];rfl
theorem nx1{ss:Sxs}{ρ1:Ev}{h2:Hd}(e:xs1 U (hdS ss) S h=.ok (.nx,ρ1) h2)(hs:ss=.cons (hdS ss) (tlS ss)):xs2 U ss S h=xs2 U (tlS ss) ρ1 h2:=by rw[hs,Za e];rfl
theorem Zd{a:Ex}{es:Exs}{x:D}{xs:List D}{h2:Hd}(p:ev U a S h=.ok x h1)(q:evs U es S h1=.ok xs h2):evs U (.cons a es) S h=.ok (x::xs) h2:=by rw[Za8,p,Zk,q];rfl
theorem ZqF{g:Str}{es:Exs}{xs:List D}(p:evs U es S h=.ok xs h1):ev U (.call g es) S h=U.C g xs h1:=by rw[ZhR,p];rfl
theorem ZoO{es:Exs}{e:Ex}{xs:List D}{z:Int}{d:D}(a:atI xs z=Wu d)(p:evs U es S h=.ok xs h)(q:ev U e S (h++[.lst xs])=.ok (.int z) (h++[.lst xs]))(hz:xs.length<=1000):ev U (.ix (.lstl es) e) S h=.ok d (h++[.lst xs]):=by rw[Zi7,ZlB,p,Zk,if_pos (OE hz (by decide)),Zqf,Zk,q,Zk,ZD (xs:=xs) (by simp),a];rfl
theorem Zr{g:Str}{es:Exs}{xs:List D}{y:R D}(e:U.C g xs h1=y)(p:evs U es S h=.ok xs h1):ev U (.call g es) S h=y:=(ZqF p).trans e
theorem Za9{es:Exs}{xs:List D}(p:evs U es S h=.ok xs h1)(hz:xs.length<=1000):ev U (.tupl es) S h=.ok (.tup xs) h1:=by rw[Zfn,p,Zk,if_pos (OE hz (by decide))]
theorem Zol{e:Ex}{x:D}(p:ev U e S h=.ok x h1)(n:x≠.non):tst U (.ex (.cmp .Is e (.cst .non))) S h=.ok Wx h1:=ZdW ((ZE p rfl).trans (by rw[ZjU,decide_eq_false n]))
theorem Zmv{e:Ex}(p:ev U e S h=.ok .non h1):tst U (.ex (.cmp .Is e (.cst .non))) S h=.ok Ww h1:=ZdW ((ZE p rfl).trans (by rw[ZjU,decide_eq_true rfl]))
theorem Zer{a b:Ex}{x y:Str}{h2:Hd}(p:ev U a S h=.ok (.str x) h1)(q:ev U b S h1=.ok (.str y) h2):tst U (.ex (.cmp .Eq a b)) S h=.ok (Wy (x=y)) h2:=ZdW ((ZE p q).trans (by rw[ZjV,ZfZ];rfl))
theorem Zgh{a b:Ex}{x y:Int}{h2:Hd}(p:ev U a S h=.ok (.int x) h1)(q:ev U b S h1=.ok (.int y) h2):tst U (.ex (.cmp .Eq a b)) S h=.ok (Wy (x=y)) h2:=ZdW ((ZE p q).trans (by rw[ZjV,ZnK];rfl))
theorem ZaV{a b:Ex}{x y:D}{h2:Hd}(p:ev U a S h=.ok x h1)(q:ev U b S h1=.ok y h2):ev U (.ix a b) S h=ZaS U.GD x y h2:=by rw[Zi7,p,Zk,q,Zk]
theorem Zrt{a b:Tx}{c:Bool}{h2:Hd}(p:tst U a S h=.ok Ww h1)(q:tst U b S h1=.ok c h2):tst U (.ands (.cons a (.one b))) S h=.ok c h2:=by rw[Zie,ZeP,p];exact q
theorem Zvb{a b:Tx}(p:tst U a S h=.ok Wx h1):tst U (.ands (.cons a (.one b))) S h=.ok Wx h1:=by rw[Zie,ZeP,p];rfl
theorem Zso{a b:Tx}(p:tst U a S h=.ok Ww h1):tst U (.ors (.cons a (.one b))) S h=.ok Ww h1:=by rw[ZkZ,Zfy,p];rfl
theorem Zmc{a b:Tx}{c:Bool}{h2:Hd}(p:tst U a S h=.ok Wx h1)(q:tst U b S h1=.ok c h2):tst U (.ors (.cons a (.one b))) S h=.ok c h2:=by rw[ZkZ,Zfy,p];exact q
theorem Zgp{β:Type}(A:Tb->β){y:β}(e:U.C f as h1=r)(q:A U=A (U.say (U.C f as h1)))(z:A (U.say r)=y):A U=y:=by rw[q,e,z]
theorem Zu5{β:Type}(A:Tb->β){x:Str}{d:D}{y:β}(eg:U.G x=Wu d)(q:A U=A ⟨fun _=>U.G x,U.GD,U.C,U.L⟩)(z:A ⟨fun _=>Wu d,U.GD,U.C,U.L⟩=y):A U=y:=by rw[q,eg,z]
end
end IV
end
section
set_option tactic.hygienic false
namespace Gn
open PySem L2 IV
noncomputable def ZbI:Sxs:=(.cons (.iff (.ex (.cmp .NotIn (.ix (.var 0) (.cst (.int 0))) (.glo (O "FORMS")))) (.cons (.ret (.tupl .nil)) .nil) .nil) (.cons (.ret (.sl (.var 0) (Wu (.bin .Add (.cst (.int 1)) (.ix (.ix (.glo (O "FORMS")) (.ix (.var 0) (.cst (.int 0)))) (.cst (.int 0))))) Wv)) .nil))
noncomputable def ZbC:Fd:=⟨[(O "E")],[(O "E")],ZbI⟩
noncomputable def Zjq:Sxs:=(.cons (.set (.nm 1) (.lstl .nil)) (.cons (.set (.nm 2) (.lstl (.cons (.var 0) .nil))) (.cons (.whl (.ex (.var 2)) (.cons (.set (.nm 3) (.meth .pop (.var 2) .nil)) (.cons (.drp (.meth .app (.var 1) (.cons (.var 3) .nil))) (.cons (.forr (.nm 4) (.rev (.call (O "parts_of") (.cons (.var 3) .nil))) (.cons (.drp (.meth .app (.var 2) (.cons (.var 4) .nil))) .nil)) .nil)))) (.cons (.ret (.var 1)) .nil))))
noncomputable def ZbB:Fd:=⟨[(O "E")],[(O "E"),(O "found"),(O "waiting"),(O "place"),(O "part")],Zjq⟩
noncomputable def Zb8:Sxs:=(.cons (.iff (.ex (.cmp .Lt (.var 1) (.blt .len (.cons (.var 0) .nil)))) (.cons (.ret (.ix (.var 0) (.var 1))) .nil) .nil) (.cons (.ret (.cst (.int 0))) .nil))
noncomputable def ZQ:Fd:=⟨[(O "_law_script"),(O "_law_k")],[(O "_law_script"),(O "_law_k")],Zb8⟩
noncomputable def Ze9:Sxs:=(.cons (.set (.nm 2) (.bin .Add (.bin .Pow (.cst (.int 10)) (.cst (.int 30))) (.cst (.int 57)))) (.cons (.set (.nm 3) (.bin .Mult (.bin .Mod (.var 0) (.var 2)) (.cst (.int 271828182845904523536028747135)))) (.cons (.set (.nm 3) (.bin .Add (.var 3) (.bin .Mult (.bin .Mult (.var 1) (.var 1)) (.cst (.int 314159265358979323846264338327))))) (.cons (.ret (.bin .Mod (.bin .Add (.var 3) (.cst (.int 577215664901532860606512090082))) (.var 2))) .nil))))
noncomputable def ZaB:Fd:=⟨[(O "_law_cell"),(O "_law_k")],[(O "_law_cell"),(O "_law_k"),(O "_law_big"),(O "_law_number_here")],Ze9⟩
noncomputable def ZdZ:Sxs:=(.cons (.set (.nm 1) (.ix (.var 0) (.cst (.int 1)))) (.cons (.put (.var 0) (.cst (.int 1)) (.bin .Add (.var 1) (.cst (.int 1)))) (.cons (.iff (.ex (.cmp .Lt (.var 1) (.blt .len (.cons (.ix (.var 0) (.cst (.int 0))) .nil)))) (.cons (.ret (.ix (.ix (.var 0) (.cst (.int 0))) (.var 1))) .nil) .nil) (.cons (.ret (.call (O "_law_mixed") (.cons (.var 1) (.cons (.cst (.int 7)) .nil)))) .nil))))
noncomputable def Zat:Fd:=⟨[(O "_law_state")],[(O "_law_state"),(O "_law_at")],ZdZ⟩
noncomputable def Ze8:Sxs:=(.cons (.set (.nm 1) (.cst (.str (O "abcdefghijklmnopqrstuvwxyz")))) (.cons (.set (.nm 2) (.bin .Add (.cst (.int 1)) (.bin .Mod (.var 0) (.cst (.int 8))))) (.cons (.set (.nm 3) (.bin .Mod (.bin .FloorDiv (.var 0) (.cst (.int 8))) (.var 2))) (.cons (.set (.nm 4) (.bin .FloorDiv (.var 0) (.cst (.int 64)))) (.cons (.set (.nm 5) (.cst (.str (O "")))) (.cons (.forr (.nm 6) (.rng (.cst (.int 8))) (.cons (.set (.nm 5) (.bin .Add (.var 5) (.ix (.var 1) (.bin .Mod (.var 4) (.cst (.int 26)))))) (.cons (.set (.nm 4) (.bin .FloorDiv (.var 4) (.cst (.int 26)))) .nil))) (.cons (.set (.nm 7) (.lstl .nil)) (.cons (.forr (.nm 6) (.rng (.cst (.int 5))) (.cons (.set (.nm 8) (.ix (.var 1) (.bin .Mod (.bin .Add (.var 4) (.bin .Mult (.cst (.int 5)) (.var 6))) (.cst (.int 26))))) (.cons (.set (.nm 9) (.bin .Add (.bin .Add (.sl (.var 5) Wv (Wu (.var 3))) (.var 8)) (.sl (.var 5) (Wu (.bin .Add (.var 3) (.cst (.int 1)))) (Wu (.var 2))))) (.cons (.iff (.ex (.cmp .Eq (.bin .Mod (.bin .FloorDiv (.var 4) (.cst (.int 26))) (.cst (.int 4))) (.cst (.int 1)))) (.cons (.set (.nm 9) (.sl (.var 5) Wv (Wu (.bin .Sub (.cst (.int 8)) (.var 6))))) .nil) .nil) (.cons (.iff (.ex (.cmp .In (.var 9) (.tupl (.cons (.cst (.str (O "fn"))) (.cons (.cst (.str (O "rec"))) (.cons (.cst (.str (O "call"))) (.cons (.cst (.str (O "if"))) .nil))))))) (.cons (.set (.nm 9) (.bin .Mult (.cst (.str (O "q"))) (.blt .len (.cons (.var 9) .nil)))) .nil) .nil) (.cons (.drp (.meth .app (.var 7) (.cons (.var 9) .nil))) .nil)))))) (.cons (.ret (.var 7)) .nil)))))))))
noncomputable def ZaA:Fd:=⟨[(O "_law_number_here")],[(O "_law_number_here"),(O "_law_letters"),(O "_law_long"),(O "_law_place"),(O "_law_rest"),(O "_law_base"),(O "_law_k"),(O "_law_found"),(O "_law_sign"),(O "_law_word")],Ze8⟩
noncomputable def Ze7:Sxs:=(.cons (.set (.nm 2) (.dictl .nil)) (.cons (.forr (.two 3 4) (.pl (.var 0)) (.cons (.put (.var 2) (.var 3) (.var 4)) .nil)) (.cons (.ret (.comp [(O "_law_name"),(O "_law_wish"),(O "_law_known")] [Wv,Wu 1,Wu 2] (.pl (.blt .srt (.cons (.var 2) .nil))) (.nm 0) (Wu (.ex (.cmp .Eq (.ix (.var 2) (.var 0)) (.var 1)))) (.var 0))) .nil)))
noncomputable def Zaz:Fd:=⟨[(O "_law_scope"),(O "_law_wish")],[(O "_law_scope"),(O "_law_wish"),(O "_law_known"),(O "_law_name"),(O "_law_held")],Ze7⟩
noncomputable def ZbV:Sxs:=(.cons (.iff (.ex (.cmp .Eq (.var 0) (.cst (.str (O "n"))))) (.cons (.ret (.tupl (.cons (.cst (.str (O "num"))) (.cons (.ix (.lstl (.cons (.cst (.int 0)) (.cons (.cst (.int 1)) (.cons (.cst (.int 2)) (.cons (.bin .Mod (.bin .FloorDiv (.var 1) (.cst (.int 7))) (.cst (.int 1000000))) .nil))))) (.bin .Mod (.var 1) (.cst (.int 4)))) .nil)))) .nil) .nil) (.cons (.iff (.ex (.cmp .Eq (.var 0) (.cst (.str (O "f"))))) (.cons (.ret (.tupl (.cons (.cst (.str (O "fn"))) (.cons (.cst (.str (O "w"))) (.cons (.tupl (.cons (.cst (.str (O "-"))) (.cons (.tupl (.cons (.cst (.str (O "name"))) (.cons (.cst (.str (O "w"))) .nil))) (.cons (.tupl (.cons (.cst (.str (O "num"))) (.cons (.bin .Mod (.var 1) (.cst (.int 3))) .nil))) .nil)))) .nil))))) .nil) .nil) (.cons (.ret (.tupl (.cons (.cst (.str (O "fn"))) (.cons (.cst (.str (O "w"))) (.cons (.tupl (.cons (.cst (.str (O "call"))) (.cons (.tupl (.cons (.cst (.str (O "name"))) (.cons (.cst (.str (O "w"))) .nil))) (.cons (.tupl (.cons (.cst (.str (O "num"))) (.cons (.bin .Mod (.var 1) (.cst (.int 5))) .nil))) .nil)))) .nil))))) .nil)))
noncomputable def ZV:Fd:=⟨[(O "_law_wish"),(O "_law_number_here")],[(O "_law_wish"),(O "_law_number_here")],ZbV⟩
noncomputable def ZaZ:Sx:=(.set (.nm 6) (.ix (.var 4) (.bin .Mod (.var 1) (.cst (.int 5)))))
noncomputable def Zac:Sx:=(.iff (.ex (.cmp .Eq (.var 0) (.cst (.str (O "g"))))) (.cons (.ret (.tupl (.cons (.cst (.str (O "fn"))) (.cons (.var 6) (.cons (.call (O "_law_any") (.cons (.cst (.str (O "n"))) (.cons (.bin .Add (.var 2) (.lstl (.cons (.tupl (.cons (.var 6) (.cons (.cst (.str (O "f"))) .nil))) .nil))) (.cons (.var 3) (.cons (.var 4) (.cons (.var 5) .nil)))))) .nil))))) .nil) .nil)
noncomputable def Zab:Sx:=(.iff (.ex (.cmp .Eq (.bin .Mod (.bin .FloorDiv (.var 1) (.cst (.int 5))) (.cst (.int 3))) (.cst (.int 0)))) (.cons (.ret (.tupl (.cons (.cst (.str (O "fn"))) (.cons (.var 6) (.cons (.call (O "_law_any") (.cons (.cst (.str (O "n"))) (.cons (.bin .Add (.var 2) (.lstl (.cons (.tupl (.cons (.var 6) (.cons (.cst (.str (O "n"))) .nil))) .nil))) (.cons (.var 3) (.cons (.var 4) (.cons (.var 5) .nil)))))) .nil))))) .nil) .nil)
noncomputable def ZaY:Sx:=(.set (.nm 7) (.ix (.var 4) (.bin .Mod (.bin .Add (.bin .Add (.bin .Mod (.var 1) (.cst (.int 5))) (.cst (.int 1))) (.bin .Mod (.bin .FloorDiv (.var 1) (.cst (.int 15))) (.cst (.int 4)))) (.cst (.int 5)))))
noncomputable def ZaX:Sx:=(.set (.nm 8) (.bin .Add (.var 2) (.lstl (.cons (.tupl (.cons (.var 7) (.cons (.cst (.str (O "f"))) .nil))) (.cons (.tupl (.cons (.var 6) (.cons (.cst (.str (O "n"))) .nil))) .nil)))))
noncomputable def ZaW:Sx:=(.set (.nm 9) (.tupl (.cons (.cst (.str (O "call"))) (.cons (.tupl (.cons (.cst (.str (O "name"))) (.cons (.var 7) .nil))) (.cons (.tupl (.cons (.cst (.str (O "-"))) (.cons (.tupl (.cons (.cst (.str (O "name"))) (.cons (.var 6) .nil))) (.cons (.tupl (.cons (.cst (.str (O "num"))) (.cons (.cst (.int 1)) .nil))) .nil)))) .nil)))))
noncomputable def Zaa:Sx:=(.iff (.ex (.cmp .Eq (.bin .Mod (.bin .FloorDiv (.var 1) (.cst (.int 60))) (.cst (.int 3))) (.cst (.int 0)))) (.cons (.set (.nm 9) (.call (O "_law_any") (.cons (.cst (.str (O "n"))) (.cons (.var 8) (.cons (.var 3) (.cons (.var 4) (.cons (.var 5) .nil))))))) .nil) (.cons (.iff (.ex (.cmp .Eq (.bin .Mod (.bin .FloorDiv (.var 1) (.cst (.int 60))) (.cst (.int 3))) (.cst (.int 1)))) (.cons (.set (.nm 9) (.tupl (.cons (.ix (.lstl (.cons (.cst (.str (O "+"))) (.cons (.cst (.str (O "*"))) .nil))) (.bin .Mod (.bin .FloorDiv (.var 1) (.cst (.int 180))) (.cst (.int 2)))) (.cons (.call (O "_law_any") (.cons (.cst (.str (O "n"))) (.cons (.var 8) (.cons (.var 3) (.cons (.var 4) (.cons (.bin .Sub (.var 5) (.cst (.int 1))) .nil)))))) (.cons (.var 9) .nil))))) .nil) .nil) .nil))
noncomputable def Z9:Sx:=(.ret (.tupl (.cons (.cst (.str (O "rec"))) (.cons (.var 7) (.cons (.var 6) (.cons (.tupl (.cons (.cst (.str (O "if"))) (.cons (.tupl (.cons (.cst (.str (O "name"))) (.cons (.var 6) .nil))) (.cons (.var 9) (.cons (.call (O "_law_any") (.cons (.cst (.str (O "n"))) (.cons (.var 8) (.cons (.var 3) (.cons (.var 4) (.cons (.bin .Sub (.var 5) (.cst (.int 1))) .nil)))))) .nil))))) .nil))))))
noncomputable def Zgu:Sxs:=(.cons ZaZ (.cons Zac (.cons Zab (.cons ZaY (.cons ZaX (.cons ZaW (.cons Zaa (.cons Z9 .nil))))))))
noncomputable def Z4:Fd:=⟨[(O "_law_wish"),(O "_law_rest"),(O "_law_scope"),(O "_law_state"),(O "_law_names_here"),(O "_law_room")],[(O "_law_wish"),(O "_law_rest"),(O "_law_scope"),(O "_law_state"),(O "_law_names_here"),(O "_law_room"),(O "_law_x"),(O "_law_f"),(O "_law_inner"),(O "_law_again")],Zgu⟩
noncomputable def Zdj:Sx:=(.set (.nm 5) (.bin .Mod (.var 0) (.cst (.int 6))))
noncomputable def ZbK:Sx:=(.iff (.ex (.cmp .Eq (.var 5) (.cst (.int 0)))) (.cons (.ret (.call (O "_law_plain") (.cons (.cst (.str (O "n"))) (.cons (.bin .FloorDiv (.var 0) (.cst (.int 6))) .nil)))) .nil) .nil)
noncomputable def ZbJ:Sx:=(.iff (.ex (.cmp .Lt (.var 5) (.cst (.int 3)))) (.cons (.set (.nm 6) (.call (O "_law_any") (.cons (.cst (.str (O "n"))) (.cons (.var 1) (.cons (.var 2) (.cons (.var 3) (.cons (.var 4) .nil))))))) (.cons (.ret (.tupl (.cons (.ix (.lstl (.cons (.cst (.str (O "+"))) (.cons (.cst (.str (O "-"))) (.cons (.cst (.str (O "*"))) (.cons (.cst (.str (O "<"))) .nil))))) (.bin .Mod (.bin .FloorDiv (.var 0) (.cst (.int 6))) (.cst (.int 4)))) (.cons (.var 6) (.cons (.call (O "_law_any") (.cons (.cst (.str (O "n"))) (.cons (.var 1) (.cons (.var 2) (.cons (.var 3) (.cons (.var 4) .nil)))))) .nil))))) .nil)) .nil)
noncomputable def Zdi:Sx:=(.set (.nm 7) (.ix (.lstl (.cons (.cst (.str (O "f"))) (.cons (.cst (.str (O "f"))) (.cons (.cst (.str (O "g"))) .nil)))) (.bin .Sub (.var 5) (.cst (.int 3)))))
noncomputable def Zdh:Sx:=(.set (.nm 8) (.call (O "_law_any") (.cons (.var 7) (.cons (.var 1) (.cons (.var 2) (.cons (.var 3) (.cons (.var 4) .nil)))))))
noncomputable def Zdg:Sx:=(.ret (.tupl (.cons (.cst (.str (O "call"))) (.cons (.var 8) (.cons (.call (O "_law_any") (.cons (.ix (.dictl (.cons (.cst (.str (O "f"))) (.cons (.cst (.str (O "n"))) (.cons (.cst (.str (O "g"))) (.cons (.cst (.str (O "f"))) .nil))))) (.var 7)) (.cons (.var 1) (.cons (.var 2) (.cons (.var 3) (.cons (.var 4) .nil)))))) .nil)))))
noncomputable def ZcE:Sxs:=(.cons Zdj (.cons ZbK (.cons ZbJ (.cons Zdi (.cons Zdh (.cons Zdg .nil))))))
noncomputable def ZaI:Fd:=⟨[(O "_law_rest"),(O "_law_scope"),(O "_law_state"),(O "_law_names_here"),(O "_law_room")],[(O "_law_rest"),(O "_law_scope"),(O "_law_state"),(O "_law_names_here"),(O "_law_room"),(O "_law_way"),(O "_law_one"),(O "_law_wish"),(O "_law_fun")],ZcE⟩
noncomputable def Zbh:Sx:=(.put (.var 2) (.cst (.int 2)) (.bin .Sub (.ix (.var 2) (.cst (.int 2))) (.cst (.int 1))))
noncomputable def Zbg:Sx:=(.set (.nm 5) (.call (O "_law_next") (.cons (.var 2) .nil)))
noncomputable def ZW:Sx:=(.iff (.ex (.cmp .Eq (.bin .Mod (.var 5) (.cst (.int 29))) (.cst (.int 0)))) (.cons (.set (.nm 0) (.ix (.lstl (.cons (.cst (.str (O "n"))) (.cons (.cst (.str (O "f"))) (.cons (.cst (.str (O "g"))) .nil)))) (.bin .Mod (.bin .FloorDiv (.var 5) (.cst (.int 29))) (.cst (.int 3))))) .nil) .nil)
noncomputable def Zbf:Sx:=(.set (.nm 6) (.bin .FloorDiv (.var 5) (.cst (.int 87))))
noncomputable def Zbe:Sx:=(.set (.nm 7) (.call (O "_law_there") (.cons (.var 1) (.cons (.var 0) .nil))))
noncomputable def Zbd:Sx:=(.iff (.ands (.cons (.ex (.cmp .NotEq (.var 7) (.lstl .nil))) (.one (.ex (.cmp .Eq (.bin .Mod (.var 6) (.cst (.int 3))) (.cst (.int 0))))))) (.cons (.ret (.tupl (.cons (.cst (.str (O "name"))) (.cons (.ix (.var 7) (.bin .Mod (.bin .FloorDiv (.var 6) (.cst (.int 3))) (.blt .len (.cons (.var 7) .nil)))) .nil)))) .nil) .nil)
noncomputable def ZaC:Sx:=(.iff (.ors (.cons (.ex (.cmp .Lt (.var 4) (.cst (.int 1)))) (.one (.ex (.cmp .Lt (.ix (.var 2) (.cst (.int 2))) (.cst (.int 0))))))) (.cons (.ret (.call (O "_law_plain") (.cons (.var 0) (.cons (.bin .FloorDiv (.var 6) (.cst (.int 3))) .nil)))) .nil) .nil)
noncomputable def ZbW:Sx:=(.set (.nm 6) (.bin .FloorDiv (.var 6) (.cst (.int 30))))
noncomputable def Zbc:Sx:=(.iff (.ex (.cmp .Eq (.bin .Mod (.var 6) (.cst (.int 8))) (.cst (.int 0)))) (.cons (.set (.nm 8) (.call (O "_law_any") (.cons (.cst (.str (O "n"))) (.cons (.var 1) (.cons (.var 2) (.cons (.var 3) (.cons (.bin .Sub (.var 4) (.cst (.int 1))) .nil))))))) (.cons (.set (.nm 9) (.call (O "_law_any") (.cons (.var 0) (.cons (.var 1) (.cons (.var 2) (.cons (.var 3) (.cons (.bin .Sub (.var 4) (.cst (.int 1))) .nil))))))) (.cons (.ret (.tupl (.cons (.cst (.str (O "if"))) (.cons (.var 8) (.cons (.var 9) (.cons (.call (O "_law_any") (.cons (.var 0) (.cons (.var 1) (.cons (.var 2) (.cons (.var 3) (.cons (.bin .Sub (.var 4) (.cst (.int 1))) .nil)))))) .nil)))))) .nil))) .nil)
noncomputable def ZaO:Sx:=(.iff (.ex (.cmp .Eq (.var 0) (.cst (.str (O "n"))))) (.cons (.ret (.call (O "_law_number") (.cons (.bin .FloorDiv (.var 6) (.cst (.int 8))) (.cons (.var 1) (.cons (.var 2) (.cons (.var 3) (.cons (.bin .Sub (.var 4) (.cst (.int 1))) .nil))))))) .nil) .nil)
noncomputable def Zbr:Sx:=(.ret (.call (O "_law_function") (.cons (.var 0) (.cons (.bin .FloorDiv (.var 6) (.cst (.int 8))) (.cons (.var 1) (.cons (.var 2) (.cons (.var 3) (.cons (.bin .Sub (.var 4) (.cst (.int 1))) .nil))))))))
noncomputable def ZmH:Sxs:=(.cons Zbh (.cons Zbg (.cons ZW (.cons Zbf (.cons Zbe (.cons Zbd (.cons ZaC (.cons ZbW (.cons Zbc (.cons ZaO (.cons Zbr .nil)))))))))))
noncomputable def ZaU:Fd:=⟨[(O "_law_wish"),(O "_law_scope"),(O "_law_state"),(O "_law_names_here"),(O "_law_room")],[(O "_law_wish"),(O "_law_scope"),(O "_law_state"),(O "_law_names_here"),(O "_law_room"),(O "_law_number_here"),(O "_law_rest"),(O "_law_there_here"),(O "_law_asked_of"),(O "_law_first")],ZmH⟩
noncomputable def Zdf:Sxs:=(.cons (.ret (.bin .Add (.cst (.int 1)) (.blt .sum (.cons (.comp [(O "_law_part")] [Wv] (.pl (.var 0)) (.nm 0) (Wu (.ex (.blt .isi (.cons (.var 0) (.cons (.cst (.ty "tuple")) .nil))))) (.call (O "_law_width") (.cons (.var 0) .nil))) .nil)))) .nil)
noncomputable def Z3:Fd:=⟨[(O "_law_told")],[(O "_law_told")],Zdf⟩
noncomputable def Zd0:Sxs:=(.cons (.ret (.maxd (.comp [(O "_law_part")] [Wv] (.pl (.var 0)) (.nm 0) (Wu (.ex (.blt .isi (.cons (.var 0) (.cons (.cst (.ty "tuple")) .nil))))) (.bin .Add (.cst (.int 1)) (.call (O "_law_deep") (.cons (.var 0) .nil)))) (.cst (.int 0)))) .nil)
noncomputable def Zau:Fd:=⟨[(O "_law_told")],[(O "_law_told")],Zd0⟩
noncomputable def Zaq:Sx:=(.set (.nm 2) (.comp [(O "_law_k"),(O "_law_cell")] [Wv,Wv] (.enu (.sl (.var 0) (Wu (.var 1)) Wv)) (.two 0 1) Wv (.call (O "_law_mixed") (.cons (.var 1) (.cons (.bin .Add (.var 0) (.cst (.int 2))) .nil)))))
noncomputable def ZcN:Sx:=(.set (.nm 3) (.lstl (.cons (.var 2) (.cons (.cst (.int 0)) (.cons (.cst (.int 26)) .nil)))))
noncomputable def ZcM:Sx:=(.set (.nm 4) (.call (O "_law_names") (.cons (.call (O "_law_next") (.cons (.var 3) .nil)) .nil)))
noncomputable def ZcL:Sx:=(.set (.nm 5) (.call (O "_law_any") (.cons (.cst (.str (O "n"))) (.cons (.lstl .nil) (.cons (.var 3) (.cons (.var 4) (.cons (.cst (.int 7)) .nil)))))))
noncomputable def Zbn:Sx:=(.forr (.nm 6) (.rng (.cst (.int 2))) (.cons (.iff (.ex (.cmp .Lt (.call (O "_law_width") (.cons (.var 5) .nil)) (.cst (.int 50)))) (.cons (.put (.var 3) (.cst (.int 2)) (.cst (.int 12))) (.cons (.set (.nm 5) (.tupl (.cons (.cst (.str (O "+"))) (.cons (.var 5) (.cons (.call (O "_law_any") (.cons (.cst (.str (O "n"))) (.cons (.lstl .nil) (.cons (.var 3) (.cons (.var 4) (.cons (.cst (.int 6)) .nil)))))) .nil))))) .nil)) .nil) .nil))
noncomputable def Zbm:Sx:=(.iff (.ors (.cons (.ex (.cmp .Gt (.call (O "_law_width") (.cons (.var 5) .nil)) (.cst (.int 100)))) (.one (.ex (.cmp .Gt (.call (O "_law_deep") (.cons (.var 5) .nil)) (.cst (.int 20))))))) (.cons (.set (.nm 5) (.call (O "_law_plain") (.cons (.cst (.str (O "n"))) (.cons (.call (O "_law_next") (.cons (.var 3) .nil)) .nil)))) .nil) .nil)
noncomputable def ZcK:Sx:=(.ret (.var 5))
noncomputable def ZgF:Sxs:=(.cons Zaq (.cons ZcN (.cons ZcM (.cons ZcL (.cons Zbn (.cons Zbm (.cons ZcK .nil)))))))
noncomputable def Zaf:Fd:=⟨[(O "_law_script"),(O "_law_start")],[(O "_law_script"),(O "_law_start"),(O "_law_cells"),(O "_law_state"),(O "_law_names_here"),(O "_law_told"),(O "_law_k")],ZgF⟩
noncomputable def Zch:List (Key×D):=[(.inr (O "fn"),.tup [.int 1,.int 1]),(.inr (O "rec"),.tup [.int 2,.int 1]),(.inr (O "call"),.tup [.int 0,.int 2]),(.inr (O "if"),.tup [.int 0,.int 3]),(.inr (O "+"),.tup [.int 0,.int 2]),(.inr (O "-"),.tup [.int 0,.int 2]),(.inr (O "*"),.tup [.int 0,.int 2]),(.inr (O "<"),.tup [.int 0,.int 2])]
structure Tre(P:Pg):Prop where
 parts:P.tb.lookup (O "parts_of")=Wu ZbC
 g:P.G (O "FORMS")=Wu (.kd (O "FORMS"))
 gd:P.GD (O "FORMS")=Wu Zch
 big:1000000<=P.L
theorem ZbR{P:Pg}(H:Tre P){U:Tb}(hU:U.G=P.G/\U.GD=P.GD){S:Ev}{e:Ex}{w:Str}{h:Hd}{x:Option D}(q:ev U e S h=.ok (.str w) h)(f:Zad Zch (.inr w)=x):tst U (.ex (.cmp .NotIn e (.glo (O "FORMS")))) S h=.ok (!x.isSome) h:=by
 have g:ev U (.glo (O "FORMS")) S h=.ok (.kd (O "FORMS")) h:=by rw[ZoA,hU.1,H.g];rfl
 refine ZdW ((ZE q g).trans ?_);rw[Zhz,hU.2,H.gd];simp only[f]
theorem Zly{P:Pg}(H:Tre P){U:Tb}(hU:U.G=P.G/\U.GD=P.GD){S:Ev}{e:Ex}{w:Str}{h:Hd}{x:D}(q:ev U e S h=.ok (.str w) h)(f:Zad Zch (.inr w)=Wu x):ev U (.ix (.glo (O "FORMS")) e) S h=.ok x h:=by
 have g:ev U (.glo (O "FORMS")) S h=.ok (.kd (O "FORMS")) h:=by rw[ZoA,hU.1,H.g];rfl
 rw[Zi7,g,Zk,q,Zk,Zp6,hU.2,H.gd];simp only[f];rfl
theorem Zc3{U:Tb}{S:Ev}{w:Str}{ds:List D}{h:Hd}:ev U (.ix (.var 0) (.cst (.int 0))) (Wu (.tup (.str w::ds))::S) h=.ok (.str w) h:=by show R.ofO (atI (D.str w::ds) 0) h=_;rw[Zrr];rfl
theorem Zks{P:Pg}(H:Tre P){U:Tb}(hU:U.G=P.G/\U.GD=P.GD){w:Str}{ds:List D}{h:Hd}{a b:Int}(e:Zad Zch (.inr w)=Wu (.tup [.int a,.int b])):ev U (.bin .Add (.cst (.int 1)) (.ix (.ix (.glo (O "FORMS")) (.ix (.var 0) (.cst (.int 0)))) (.cst (.int 0)))) [Wu (.tup (.str w::ds))] h=.ok (.int (1+a)) h:=by refine(Zao (x:=.int 1) (y:=.int a) rfl ?_).trans rfl;rw[Zi7,Zly H hU Zc3 e];rfl
theorem ZhQ{U:Tb}{S:Ev}{e:Ex}{l:Int}{h:Hd}(q:ev U e S h=.ok (.int l) h):evo U (Wu e) S h=.ok (Wu l) h:=by rw[Zox,q];rfl
theorem Zk4{U:Tb}{S:Ev}{a:Ex}{lo hi:Option Ex}{x:D}{l u:Option Int}{h:Hd}(p:ev U a S h=.ok x h)(q:evo U lo S h=.ok l h)(r:evo U hi S h=.ok u h):ev U (.sl a lo hi) S h=Zgw x l u h:=by simp only[ZuV,p,Zk,q,r]
theorem ZiB{P:Pg}(H:Tre P)(n:Nat)(h:Hd)(w:Str)(ds:List D)(e:Zad Zch (.inr w)=Wv):run P (n+1) (O "parts_of") [.tup (.str w::ds)] h=.ok (.tup []) h:=by rw[Zc H.parts rfl];show Zh (xs2 (P.tbl n) ZbI [Wu (.tup (.str w::ds))] h)=_;rw[ZbI,Ze ((Zs (ZbR H ⟨rfl,rfl⟩ Zc3 e)).trans (Ze (Zx (d:=.tup []) rfl)))];rfl
theorem Zcf{P:Pg}(H:Tre P)(n:Nat)(h:Hd)(w:Str)(ds:List D)(a b:Int)(e:Zad Zch (.inr w)=Wu (.tup [.int a,.int b])):run P (n+1) (O "parts_of") [.tup (.str w::ds)] h=.ok (.tup (cutD (.str w::ds) (Wu (1+a)) Wv)) h:=by
 rw[Zc H.parts rfl];show Zh (xs2 (P.tbl n) ZbI [Wu (.tup (.str w::ds))] h)=_;have q:=Zks H (U:=P.tbl n) ⟨rfl,rfl⟩ (ds:=ds) (h:=h) e;have r:ev (P.tbl n) (.sl (.var 0) (Wu (.bin .Add (.cst (.int 1)) (.ix (.ix (.glo (O "FORMS")) (.ix (.var 0) (.cst (.int 0)))) (.cst (.int 0))))) Wv) [Wu (.tup (.str w::ds))] h=.ok (.tup (cutD (.str w::ds) (Wu (1+a)) Wv)) h:=by exact(Zk4 (a:=.var 0) (x:=.tup (.str w::ds)) rfl (ZhQ q) rfl).trans rfl
 rw[ZbI,Za ((Zw (ZbR H ⟨rfl,rfl⟩ Zc3 e)).trans rfl),Ze (Zx r)];rfl
theorem Zfi{P:Pg}(H:Tre P)(n:Nat)(t:T)(h:Hd):run P (n+1) (O "parts_of") [t.d] h=.ok (.tup (t.parts.map T.d)) h:=by
 cases t with
 |num z=>exact ZiB H n h (O "num") _ rfl
 |name x=>exact ZiB H n h (O "name") _ rfl
 |fn x e=>exact Zcf H n h (O "fn") _ 1 1 rfl
 |rcc f x e=>exact Zcf H n h (O "rec") _ 2 1 rfl
 |call f a=>exact Zcf H n h (O "call") _ 0 2 rfl
 |iff c a b=>exact Zcf H n h (O "if") _ 0 3 rfl
 |op w a b=>exact Zcf H n h w.s _ 0 2 (by cases w<;>rfl)
theorem Ze4{U:Tb}{h:Hd}{F:List D}{E:D}(p:Option D):∀(ps:List D) (W:List D) (q:Option D),W.length+ps.length<=1000000->∃q',
 ZL Wv (.nm 4) (xs2 U (.cons (.drp (.meth .app (.var 2) (.cons (.var 4) .nil))) .nil)) ps [Wu E,Wu (.ref h.length),Wu (.ref (h.length+1)),p,q] (h++[.lst F,.lst W])
  = .ok (.nx,[Wu E,Wu (.ref h.length),Wu (.ref (h.length+1)),p,q']) (h++[.lst F,.lst (W++ps)])
 |[],W,q,hz=>⟨q,by simp⟩
 |d::ds,W,q,hz=>by
  obtain⟨q',e⟩:=Ze4 (U:=U) (h:=h) (F:=F) (E:=E) p ds (W++[d]) (Wu d) (by simp at hz ⊢;omega);refine⟨q',?_⟩;have hz2:W.length<sizeLine:=by simp at hz;rw[YC];omega
  rw[Z8];simp[ZcI,ZaT,ZeH,Zj2,hz2,e]
theorem ZjQ(t:T):1<=t.places.length:=by rw[T.places_parts];simp
theorem ZdK:∀W:List T,W.length<=(W.flatMap T.places).length
 |[]=>by simp
 |t::W=>by have:=ZjQ t;have:=ZdK W;rw[List.flatMap_cons,OA,Os];omega
theorem ZiL{P:Pg}(H:Tre P){h:Hd}{E:D}(n:Nat):∀(fuel:Nat) (W:List T) (F:List D) (p q:Option D),(W.flatMap T.places).length<fuel->F.length+(W.flatMap T.places).length<=900000->∃p' q',
 ZO (tst ⟨P.G,P.GD,run P (n+1),P.L⟩ (.ex (.var 2))) (xs2 ⟨P.G,P.GD,run P (n+1),P.L⟩ (.cons (.set (.nm 3) (.meth .pop (.var 2) .nil)) (.cons (.drp (.meth .app (.var 1) (.cons (.var 3) .nil))) (.cons (.forr (.nm 4) (.rev (.call (O "parts_of") (.cons (.var 3) .nil))) (.cons (.drp (.meth .app (.var 2) (.cons (.var 4) .nil))) .nil)) .nil))))
  fuel [Wu E,Wu (.ref h.length),Wu (.ref (h.length+1)),p,q] (h++[.lst F,.lst (W.map T.d).reverse])
  = .ok (.nx,[Wu E,Wu (.ref h.length),Wu (.ref (h.length+1)),p',q']) (h++[.lst (F++(W.flatMap T.places).map T.d),.lst []])
 |0,W,F,p,q,h1,h2=>by omega
 |fuel+1,[],F,p,q,h1,h2=>⟨p,q,by rw[Zay];simp[ZdR]⟩
 |fuel+1,t::W,F,p,q,h1,h2=>by
  have e0:((t::W).flatMap T.places)=t::((t.parts++W).flatMap T.places):=by rw[List.flatMap_cons,T.places_parts t,List.flatMap_append];simp
  rw[e0]at h1 h2 ⊢;have hp:t.parts.length<=3:=by cases t<;>simp[T.parts]
  simp only[Os]at h1 h2;have h3:=ZdK (t.parts++W);rw[OA]at h3;obtain⟨q1,e1⟩:=Ze4 (U:=⟨P.G,P.GD,run P (n+1),P.L⟩) (h:=h) (F:=F++[t.d]) (E:=E) (Wu t.d) (t.parts.map T.d).reverse (W.map T.d).reverse q (by simp;omega);obtain⟨p',q',e2⟩:=ZiL H (h:=h) (E:=E) n fuel (t.parts++W) (F++[t.d]) (Wu t.d) q1 (by omega) (by rw[OA,List.length_singleton];omega);refine⟨p',q',?_⟩;have hz2:F.length<sizeLine:=by rw[YC];omega
  rw[Zay];simp[ZdR,ZcI,ZaT,ZeH,Zj2,Zqj,hz2,Zfi H,Zfw,e1];simpa using e2
theorem Znf{P:Pg}(H:Tre P)(hp:P.tb.lookup (O "places")=Wu ZbB)(n:Nat)(t:T)(h:Hd)(hz:t.size<=800000):run P (n+2) (O "places") [t.d] h=.ok (.ref h.length) (h++[.lst (t.places.map T.d),.lst []]):=by rw[Zc hp (by rfl)];obtain⟨p',q',e⟩:=ZiL H (h:=h) (E:=t.d) n P.L [t] [] Wv Wv (by have:=H.big;unfold T.size at hz;simp;omega) (by unfold T.size at hz;simp;omega);simp at e;simp[ZbB,Zjq,Zn,YC,e]
end Gn
end
section
set_option tactic.hygienic false
set_option exponentiation.threshold 3000
namespace Gn
open PySem L2 IV
def Up(i:Nat)(h h':Hd):Prop:=h.length<=h'.length/\∀m,m<h.length->m≠i->h'[m]? = h[m]?
theorem Up.refl{i:Nat}{h:Hd}:Up i h h:=⟨Oq _,fun _ _ _=>rfl⟩
theorem Up.trans{i:Nat}{a b c:Hd}(x:Up i a b)(y:Up i b c):Up i a c:=⟨OE x.1 y.1,fun m h1 h2=>(y.2 m (O3 h1 x.1) h2).trans (x.2 m h1 h2)⟩
theorem Up.set{i:Nat}{h:Hd}{o:DO}:Up i h (h.set i o):=⟨by simp,fun m _ h2=>by rw[Oc (YL h2)]⟩
theorem Up.app{i:Nat}{h g:Hd}:Up i h (h++g):=⟨by simp,fun m h1 _=>Oe h1⟩
theorem ZM{h:Hd}{i:Nat}{o:DO}(e:h[i]? = Wu o):i<h.length:=(Ob.mp e).1
theorem Up.at{i m:Nat}{h h':Hd}{o:DO}(u:Up i h h')(e:h[m]? = Wu o)(ne:m≠i):h'[m]? = Wu o:=(u.2 m (ZM e) ne).trans e
def Alk(P:Pg)(f:Str)(fd:Fd):Prop:=∃ps N,ps.length=fd.ps.length/\N.length=fd.N.length/\P.tb.lookup f=Wu ⟨ps,N,fd.body⟩
theorem Alk.same{P:Pg}{f:Str}{fd:Fd}(e:P.tb.lookup f=Wu fd):Alk P f fd:=⟨fd.ps,fd.N,rfl,rfl,e⟩
theorem Zfh{P:Pg}{n:Nat}{f:Str}{fd:Fd}{ds:List D}{h:Hd}(e:Alk P f fd)(hl:ds.length=fd.ps.length):run P (n+1) f ds h=Zh (xs2 ⟨P.G,P.GD,run P n,P.L⟩ fd.body (Zn fd.N ds) h):=by obtain⟨ps,N,h1,h2,e⟩:=e;rw[Zc e (hl.trans h1.symm)];unfold Zn;rw[h2]
structure Mkr(P:Pg):Prop where
 mixed:P.tb.lookup (O "_law_mixed")=Wu ZaB
 next:P.tb.lookup (O "_law_next")=Wu Zat
 names:P.tb.lookup (O "_law_names")=Wu ZaA
 there:P.tb.lookup (O "_law_there")=Wu Zaz
 plain:P.tb.lookup (O "_law_plain")=Wu ZV
 function:Alk P (O "_law_function") Z4
 number:Alk P (O "_law_number") ZaI
 any:Alk P (O "_law_any") ZaU
 width:P.tb.lookup (O "_law_width")=Wu Z3
 deep:P.tb.lookup (O "_law_deep")=Wu Zau
 program:Alk P (O "_law_program") Zaf
structure Gen(P:Pg):Prop extends Tre P,Mkr P
noncomputable def big:Int:=1000000000000000000000000000057
noncomputable def mixed(c k:Int):Int:=(c % big * 271828182845904523536028747135+k * k * 314159265358979323846264338327+577215664901532860606512090082) % big
theorem Z1{i:Int}(h:-(2 ^ 128)<i)(h2:i<2 ^ 128):i.natAbs<2 ^ 2000:=by
 have:i.natAbs<2 ^ 128:=by omega
 exact O3 this (Nat.pow_le_pow_right (by decide) (by decide))
theorem ZlS{k:Int}(hk:-(2 ^ 60)<k/\k<2 ^ 60):0<=k * k/\k * k<2 ^ 120:=by
 have a:k.natAbs<2 ^ 60:=by omega
 have b:k.natAbs * k.natAbs<2 ^ 60 * 2 ^ 60:=Nat.mul_lt_mul'' a a;have c2:((k.natAbs * k.natAbs:Nat):Int)=k * k:=Int.natAbs_mul_self;rw[<- c2];constructor
 . omega
 . have:((k.natAbs * k.natAbs:Nat):Int)<((2 ^ 60 * 2 ^ 60:Nat):Int):=Int.ofNat_lt.mpr b;exact this
theorem Zht{P:Pg}(H:Mkr P)(n:Nat)(c k:Int)(h:Hd)(hk:-(2 ^ 60)<k/\k<2 ^ 60):run P (n+1) (O "_law_mixed") [.int c,.int k] h=.ok (.int (mixed c k)) h:=by
 rw[Zc H.mixed rfl];have hp:opB .Pow (.int 10) (.int 30) h=.ok (.int 1000000000000000000000000000000) h:=by show(if (0:Int)<=30/\(30:Int)<=1000000/\(10:Int).natAbs<2 ^ 64 then R.ok (D.int (10 ^ (30:Int).toNat)) h else R.bad)=_;rw[if_pos (by decide)];rfl
 have h1:0<=c % 1000000000000000000000000000057/\c % 1000000000000000000000000000057<1000000000000000000000000000057:=⟨Int.emod_nonneg _ (by decide),Int.emod_lt_of_pos _ (by decide)⟩
 have hkk:=ZlS hk;have e1:opB .Mod (.int c) (.int 1000000000000000000000000000057) h=.ok (.int (c % 1000000000000000000000000000057)) h:=ZR (by decide);have e2:opB .Mult (.int (c % 1000000000000000000000000000057)) (.int 271828182845904523536028747135) h=.ok (.int (c % 1000000000000000000000000000057 * 271828182845904523536028747135)) h:=Zei ⟨Z1 (by omega) (by omega),Z1 (by decide) (by decide)⟩;have e3:opB .Mult (.int k) (.int k) h=.ok (.int (k * k)) h:=Zei ⟨Z1 (by omega) (by omega),Z1 (by omega) (by omega)⟩;have e4:opB .Mult (.int (k * k)) (.int 314159265358979323846264338327) h=.ok (.int (k * k * 314159265358979323846264338327)) h:=Zei ⟨Z1 (by omega) (by omega),Z1 (by decide) (by decide)⟩;have e5:opB .Mod (.int (c % 1000000000000000000000000000057 * 271828182845904523536028747135+k * k * 314159265358979323846264338327+577215664901532860606512090082)) (.int 1000000000000000000000000000057) h=.ok (.int (mixed c k)) h:=ZR (by decide);simp[ZaB,Ze9,Zn,hp,e1,e2,e3,e4,e5]
def St3(h:Hd)(i j:Nat)(cs:List Int)(at' b:Int):Prop:=h[i]? = Wu (.lst [.ref j,.int at',.int b])/\h[j]? = Wu (.lst (cs.map .int))/\i≠j
theorem ZjH{P:Pg}(H:Mkr P)(n:Nat){h:Hd}{i j:Nat}{cs:List Int}{a b:Int}(st:St3 h i j cs a b)(ha:0<=a/\a<2 ^ 50):∃v,run P (n+2) (O "_law_next") [.ref i] h=.ok (.int v) (h.set i (.lst [.ref j,.int (a+1),.int b]))/\(v∈cs\/v=mixed a 7):=by
 obtain⟨h1,h2,ne⟩:=st;rw[Zc H.next rfl];have i1:=ZM h1;have i2:(h.set i (.lst [.ref j,.int (a+1),.int b]))[i]? = Wu (.lst [.ref j,.int (a+1),.int b]):=by rw[Ol i1]
 have i3:(h.set i (.lst [.ref j,.int (a+1),.int b]))[j]? = Wu (.lst (cs.map .int)):=by rw[Oc ne];exact h2
 have hput:ZbP (.ref i) (.int 1) (.int (a+1)) h=.ok () (h.set i (.lst [.ref j,.int (a+1),.int b])):=by simp only[ZbP,h1];rfl
 have hlen:Zbl P.GD .len [.ref j] (h.set i (.lst [.ref j,.int (a+1),.int b]))=.ok (.int cs.length) (h.set i (.lst [.ref j,.int (a+1),.int b])):=by simp only[Zbl,Zh8,seqOf,lstOf,i3];simp
 by_cases hc:a<cs.length
 . obtain⟨k,rfl⟩:∃k:Nat,a=k:=⟨a.toNat,by omega⟩
   have hk:k<cs.length:=by omega
   refine⟨cs[k],?_,.inl (List.getElem_mem hk)⟩;have hat:atI (cs.map D.int) (k:Int)=Wu (.int cs[k]):=by rw[IV.ZbX,On,Og hk];rfl
   simp[Zat,ZdZ,Zn,ZD h1,hput,ZD i2,hlen,hk,ZD i3,hat]
 . refine⟨mixed a 7,?_,.inr rfl⟩;simp[Zat,ZdZ,Zn,ZD h1,hput,ZD i2,hlen,hc,Zht H n a 7 _ (by decide)]
def Cl:List Str->T->Prop
 |_,.num n=>0<=n/\n<1000000
 |sc,.name x=>x∈sc
 |sc,.fn x e=>Cl (x::sc) e
 |sc,.rcc f x e=>Cl (x::f::sc) e/\f≠x
 |sc,.call f a=>Cl sc f/\Cl sc a
 |sc,.iff c t e=>Cl sc c/\Cl sc t/\Cl sc e
 |sc,.op _ a b=>Cl sc a/\Cl sc b
noncomputable def dep:T->Nat
 |.num _|.name _=>0
 |.fn _ e|.rcc _ _ e=>dep e+1
 |.call f a=>max (dep f) (dep a)+1
 |.iff c t e=>max (dep c) (max (dep t) (dep e))+1
 |.op _ a b=>max (dep a) (dep b)+1
theorem at4{a b c d:Int}(k:Int)(h0:0<=k)(h4:k<4):∃v,atI [D.int a,.int b,.int c,.int d] k=Wu (.int v)/\(v=a\/v=b\/v=c\/v=d):=by
 have:k=0\/k=1\/k=2\/k=3:=by omega
 rcases this with rfl|rfl|rfl|rfl
 . exact⟨a,by simp,.inl rfl⟩
 . exact⟨b,by simp,.inr (.inl rfl)⟩
 . exact⟨c,by simp,.inr (.inr (.inl rfl))⟩
 . exact⟨d,by simp,.inr (.inr (.inr rfl))⟩
theorem Zhs{P:Pg}(H:Mkr P)(n:Nat)(w:Str)(v:Int)(h:Hd)(sc:List Str):∃t g,run P (n+1) (O "_law_plain") [.str w,.int v] h=.ok (T.d t) (h++g)/\Cl sc t/\dep t<=2/\t.size<=4:=by
 rw[Zc H.plain rfl];have m4:opB .Mod (.int v) (.int 4)=fun h=>.ok (.int (v % 4)) h:=by funext h;exact ZR (by decide)
 have m3:opB .Mod (.int v) (.int 3)=fun h=>.ok (.int (v % 3)) h:=by funext h;exact ZR (by decide)
 have m5:opB .Mod (.int v) (.int 5)=fun h=>.ok (.int (v % 5)) h:=by funext h;exact ZR (by decide)
 have d7:opB .FloorDiv (.int v) (.int 7)=fun h=>.ok (.int (v / 7)) h:=by funext h;exact Zcs (by decide)
 have mm:opB .Mod (.int (v / 7)) (.int 1000000)=fun h=>.ok (.int (v / 7 % 1000000)) h:=by funext h;exact ZR (by decide)
 by_cases w1:w=O "n"
 . obtain⟨u,e,hu⟩:=at4 (a:=0) (b:=1) (c:=2) (d:=v / 7 % 1000000) (v % 4) (by omega) (by omega);refine⟨.num u,[.lst [.int 0,.int 1,.int 2,.int (v / 7 % 1000000)]],?_,by show 0<=u/\u<1000000;omega,by show 0<=2;omega,by show 1<=4;omega⟩;have ix:ZaS P.GD (.ref h.length) (.int (v % 4)) (h++[.lst [.int 0,.int 1,.int 2,.int (v / 7 % 1000000)]])=R.ofO (atI [.int 0,.int 1,.int 2,.int (v / 7 % 1000000)] (v % 4)) _:=ZD ZcQ;simp[ZV,ZbV,Zn,w1,m4,d7,mm,YC,ix,e,T.d]
 . by_cases w2:w=O "f"
   . refine⟨.fn (O "w") (.op .sub (.name (O "w")) (.num (v % 3))),[],?_,?_,by simp only[dep];omega,by show 4<=4;omega⟩
     . simp[ZV,ZbV,Zn,w2,m3,YC,T.d,Wd.s]
     . exact⟨Oi,by show 0<=v % 3/\v % 3<1000000;omega⟩
   . refine⟨.fn (O "w") (.call (.name (O "w")) (.num (v % 5))),[],?_,?_,by simp only[dep];omega,by show 4<=4;omega⟩
     . simp[ZV,ZbV,Zn,w1,w2,m5,YC,T.d]
     . exact⟨Oi,by show 0<=v % 5/\v % 5<1000000;omega⟩
noncomputable def Zv:Str:=O "abcdefghijklmnopqrstuvwxyz"
theorem ZiK:Zv.length=26:=by decide +kernel
theorem Zj4:Yp Zv=Ww:=by decide +kernel
def Wl(n:Nat)(x:Str):Prop:=Yp x=Ww/\x.length<=n
noncomputable def ltr(k:Int):Nat:=Zv.cps.toList.getD k.toNat 0
noncomputable def lt1(k:Int):Str:=⟨#[ltr k]⟩
theorem Zj5{GD:Str->Option (List (Key×D))}{h:Hd}(k:Int)(h0:0<=k)(h1:k<26):ZaS GD (.str Zv) (.int k) h=.ok (.str (lt1 k)) h/\Wl 1 (lt1 k):=by
 obtain⟨m,rfl⟩:∃m:Nat,k=m:=⟨k.toNat,by omega⟩
 have hl:Zv.cps.toList.length=26:=by decide +kernel
 have hm:m<Zv.cps.toList.length:=by omega
 have el:ltr m=Zv.cps.toList[m]:=by show Zv.cps.toList.getD (m:Int).toNat 0=_;rw[Int.toNat_natCast,List.getD_eq_getElem?_getD,Og hm];rfl
 have e:atI Zv.cps.toList (m:Int)=Wu Zv.cps.toList[m]:=by rw[IV.ZbX,Og hm]
 unfold lt1;rw[el];refine⟨?_,ZjW Zj4 (List.getElem_mem hm),by show(#[Zv.cps.toList[m]]:Array Nat).size<=1;simp⟩;have q:ZaS GD (.str Zv) (.int (m:Int)) h=if Zv.length<=sizeLine then R.ofO ((atI Zv.cps.toList (m:Int)).map fun c=>.str ⟨#[c]⟩) h else .bad:=rfl;rw[q,if_pos (by rw[ZiK,YC];decide),e];rfl
theorem len_cat{x y:Str}:(x++y).length=x.length+y.length:=by show(x.cps++y.cps).size=_;rw[Array.size_append];rfl
theorem Zew{x y:Str}{a b:Nat}{h:Hd}(hx:Wl a x)(hy:Wl b y)(hz:a+b<=1000):opB .Add (.str x) (.str y) h=.ok (.str (x++y)) h/\Wl (a+b) (x++y):=by have hl:(x++y).length=x.length+y.length:=len_cat;refine⟨if_pos (by rw[YC];have:=hx.2;have:=hy.2;omega),ZgW hx.1 hy.1,by rw[hl];have:=hx.2;have:=hy.2;omega⟩
theorem Zn5{U:Tb}{h:Hd}{a l p f sg wd:Option D}:∀(ks:List Int) (r:Int) (x:Str) (m:Nat) (k:Option D),Wl m x->x.length=m->m+ks.length<=100->∃r' x' k',Wl (m+ks.length) x'/\x'.length=m+ks.length /\
 ZL Wv (.nm 6) (xs2 U (.cons (.set (.nm 5) (.bin .Add (.var 5) (.ix (.var 1) (.bin .Mod (.var 4) (.cst (.int 26)))))) (.cons (.set (.nm 4) (.bin .FloorDiv (.var 4) (.cst (.int 26)))) .nil))) (ks.map D.int) [a,Wu (.str Zv),l,p,Wu (.int r),Wu (.str x),k,f,sg,wd] h
  = .ok (.nx,[a,Wu (.str Zv),l,p,Wu (.int r'),Wu (.str x'),k',f,sg,wd]) h
 |[],r,x,m,k,hx,hn,hm=>⟨r,x,k,hx,hn,rfl⟩
 |c::cs,r,x,m,k,hx,hn,hm=>by
  obtain⟨e1,hy⟩:=Zj5 (GD:=U.GD) (h:=h) (r % 26) (by omega) (by omega);obtain⟨e2,hxy⟩:=Zew (h:=h) hx hy (by simp at hm;omega);obtain⟨r',x',k',h1,h2,e3⟩:=Zn5 (U:=U) (h:=h) (a:=a) (l:=l) (p:=p) (f:=f) (sg:=sg) (wd:=wd) cs (r / 26) (x++lt1 (r % 26)) (m+1) (Wu (.int c)) hxy (by rw[len_cat,hn];rfl) (by simp at hm ⊢;omega);have hcl:m+(c::cs).length=m+1+cs.length:=by rw[Os];omega
  refine⟨r',x',k',by rw[hcl];exact h1,by rw[hcl];exact h2,?_⟩;have e4:opB .Mod (.int r) (.int 26) h=.ok (.int (r % 26)) h:=ZR (by decide);have e5:opB .FloorDiv (.int r) (.int 26) h=.ok (.int (r / 26)) h:=Zcs (by decide);rw[Op,Z8];simp[e4,e1,e2,e5,e3]
theorem ZrR(x:Str)(l u:Option Int):(Yq x l u).length<=x.length:=by
 unfold Yq;split
 . exact Oq _
 . show((Builtin.Str.strSliceIndices l u 1 x.length).filterMap (x.cps[·]?)).toArray.size<=_;rw[Of];refine OE (List.length_filterMap_le _ _) ?_;unfold Builtin.Str.strSliceIndices;refine PySem.sliceRange_length_le _ _ _ _ (fun _=>?_) (fun z=>absurd (by decide) z);cases l<;>cases u<;>simp<;>omega
theorem Zdr{x:Str}{m:Nat}{h:Hd}(hx:Wl m x)(hm:m<=1000)(l u:Option Int):Zgw (.str x) l u h=.ok (.str (Yq x l u)) h/\Wl m (Yq x l u):=by refine⟨if_pos (by rw[YC];have:=hx.2;omega),ZnN hx.1 (ZfD _ _ _),?_⟩;have:=hx.2;have q:(Yq x l u).length<=x.length:=ZrR x l u;omega
theorem in4{GD:Str->Option (List (Key×D))}{h:Hd}{x:Str}:opC GD .In (.str x) (.tup [.str (O "fn"),.str (O "rec"),.str (O "call"),.str (O "if")]) h=.ok (.bl (Wy (x∈[O "fn",O "rec",O "call",O "if"]))) h:=Zeh (ss:=[O "fn",O "rec",O "call",O "if"])
theorem len_str{GD:Str->Option (List (Key×D))}{h:Hd}{x:Str}{m:Nat}(hx:Wl m x)(hm:m<=1000):Zbl GD .len [.str x] h=.ok (.int x.length) h:=by show(if x.length<=sizeLine then _ else _)=_;exact if_pos (by rw[YC];have:=hx.2;omega)
theorem Zq8{x:Str}{h:Hd}{m:Nat}(hx:Wl m x)(hm:m<=1000):opB .Mult (.str (O "q")) (.int x.length) h=.ok (.str (ZeE (O "q") x.length)) h/\Wl m (ZeE (O "q") x.length):=by
 have hq:(O "q").length=1:=by decide +kernel
 have:=hx.2;refine⟨if_pos ⟨by omega,by omega,by rw[hq];decide⟩,ZnO (by decide +kernel) _,?_⟩;rw[Zed,hq];omega
noncomputable def nmW(b:Str)(l p r c:Int):Str:=if r / 26 % 4=1 then Yq b Wv (Wu (8 - c))else Yq b Wv (Wu p)++lt1 ((r+5 * c) % 26)++Yq b (Wu (p+1)) (Wu l)
noncomputable def nmQ(w:Str):Str:=if w∈[O "fn",O "rec",O "call",O "if"]then ZeE (O "q") w.length else w
noncomputable def nm(b:Str)(l p r c:Int):Str:=nmQ (nmW b l p r c)
theorem ZnR{b:Str}(hb:Wl 8 b)(l p r c:Int):Wl 20 (nmW b l p r c):=by
 unfold nmW;split
 . have q:=(Zdr (h:=[]) hb (by decide) Wv (Wu (8 - c))).2;exact⟨q.1,by have:=q.2;omega⟩
 . have q1:=(Zdr (h:=[]) hb (by decide) Wv (Wu p)).2;have q2:=(Zj5 (GD:=fun _=>Wv) (h:=[]) ((r+5 * c) % 26) (by omega) (by omega)).2;have q3:=(Zdr (h:=[]) hb (by decide) (Wu (p+1)) (Wu l)).2;have q:=(Zew (h:=[]) (Zew (h:=[]) q1 q2 (by decide)).2 q3 (by decide)).2;exact⟨q.1,by have:=q.2;omega⟩
theorem Zut{b:Str}(hb:Wl 8 b)(l p r c:Int):Wl 20 (nm b l p r c):=by
 unfold nm nmQ;split
 . exact(Zq8 (h:=[]) (ZnR hb l p r c) (by decide)).2
 . exact ZnR hb l p r c
theorem Zlo{U:Tb}{h:Hd}{a:Option D}{l p r:Int}{b:Str}(hb:Wl 8 b):∀(ks:List Int) (fo:List Str) (k sg wd:Option D),fo.length+ks.length<=100->(∀c∈ks,0<=c/\c<100)->∃k' sg' wd',
 ZL Wv (.nm 6) (xs2 U (.cons (.set (.nm 8) (.ix (.var 1) (.bin .Mod (.bin .Add (.var 4) (.bin .Mult (.cst (.int 5)) (.var 6))) (.cst (.int 26))))) (.cons (.set (.nm 9) (.bin .Add (.bin .Add (.sl (.var 5) Wv (Wu (.var 3))) (.var 8)) (.sl (.var 5) (Wu (.bin .Add (.var 3) (.cst (.int 1)))) (Wu (.var 2))))) (.cons (.iff (.ex (.cmp .Eq (.bin .Mod (.bin .FloorDiv (.var 4) (.cst (.int 26))) (.cst (.int 4))) (.cst (.int 1)))) (.cons (.set (.nm 9) (.sl (.var 5) Wv (Wu (.bin .Sub (.cst (.int 8)) (.var 6))))) .nil) .nil) (.cons (.iff (.ex (.cmp .In (.var 9) (.tupl (.cons (.cst (.str (O "fn"))) (.cons (.cst (.str (O "rec"))) (.cons (.cst (.str (O "call"))) (.cons (.cst (.str (O "if"))) .nil))))))) (.cons (.set (.nm 9) (.bin .Mult (.cst (.str (O "q"))) (.blt .len (.cons (.var 9) .nil)))) .nil) .nil) (.cons (.drp (.meth .app (.var 7) (.cons (.var 9) .nil))) .nil))))))
  (ks.map D.int) [a,Wu (.str Zv),Wu (.int l),Wu (.int p),Wu (.int r),Wu (.str b),k,Wu (.ref h.length),sg,wd] (h++[.lst (fo.map .str)])
  = .ok (.nx,[a,Wu (.str Zv),Wu (.int l),Wu (.int p),Wu (.int r),Wu (.str b),k',Wu (.ref h.length),sg',wd']) (h++[.lst ((fo++ks.map (nm b l p r)).map .str)])
 |[],fo,k,sg,wd,h2,h3=>⟨k,sg,wd,by simp⟩
 |c::cs,fo,k,sg,wd,h2,h3=>by
  have hc:=h3 c (by simp);obtain⟨e1,hy⟩:=Zj5 (GD:=U.GD) (h:=h++[.lst (fo.map .str)]) ((r+5 * c) % 26) (by omega) (by omega);have m5:opB .Mult (.int 5) (.int c) (h++[.lst (fo.map .str)])=.ok (.int (5 * c)) (h++[.lst (fo.map .str)]):=Zei ⟨Z1 (by decide) (by decide),Z1 (by omega) (by omega)⟩;have m26:opB .Mod (.int (r+5 * c)) (.int 26) (h++[.lst (fo.map .str)])=.ok (.int ((r+5 * c) % 26)) (h++[.lst (fo.map .str)]):=ZR (by decide);obtain⟨f1,w1⟩:=Zdr (h:=h++[.lst (fo.map .str)]) hb (by decide) Wv (Wu p);obtain⟨f2,w2⟩:=Zdr (h:=h++[.lst (fo.map .str)]) hb (by decide) (Wu (p+1)) (Wu l);obtain⟨f3,w3⟩:=Zdr (h:=h++[.lst (fo.map .str)]) hb (by decide) Wv (Wu (8 - c));obtain⟨c1,v1⟩:=Zew (h:=h++[.lst (fo.map .str)]) w1 hy (by decide);obtain⟨c2,v2⟩:=Zew (h:=h++[.lst (fo.map .str)]) v1 w2 (by decide);have d26:opB .FloorDiv (.int r) (.int 26) (h++[.lst (fo.map .str)])=.ok (.int (r / 26)) (h++[.lst (fo.map .str)]):=Zcs (by decide);have m4:opB .Mod (.int (r / 26)) (.int 4) (h++[.lst (fo.map .str)])=.ok (.int (r / 26 % 4)) (h++[.lst (fo.map .str)]):=ZR (by decide);have hz:fo.length<16777216:=by simp at h2;omega
  generalize hy':lt1 ((r+5 * c) % 26)=y at *;have fin:∀(wd1:Str),Wl 20 wd1->(xs2 U (.cons (.iff (.ex (.cmp .In (.var 9) (.tupl (.cons (.cst (.str (O "fn"))) (.cons (.cst (.str (O "rec"))) (.cons (.cst (.str (O "call"))) (.cons (.cst (.str (O "if"))) .nil))))))) (.cons (.set (.nm 9) (.bin .Mult (.cst (.str (O "q"))) (.blt .len (.cons (.var 9) .nil)))) .nil) .nil) (.cons (.drp (.meth .app (.var 7) (.cons (.var 9) .nil))) .nil))
   [a,Wu (.str Zv),Wu (.int l),Wu (.int p),Wu (.int r),Wu (.str b),Wu (.int c),Wu (.ref h.length),Wu (.str y),Wu (.str wd1)] (h++[.lst (fo.map .str)]))
   = .ok (.nx,[a,Wu (.str Zv),Wu (.int l),Wu (.int p),Wu (.int r),Wu (.str b),Wu (.int c),Wu (.ref h.length),Wu (.str y),Wu (.str (nmQ wd1))]) (h++[.lst (fo.map .str++[.str (nmQ wd1)])]):=by
   intro wd1 hw;unfold nmQ;obtain⟨eq,wq⟩:=Zq8 (h:=h++[.lst (fo.map .str)]) hw (by decide);by_cases hin:wd1∈[O "fn",O "rec",O "call",O "if"]
   . rw[if_pos hin];have i4:=in4 (GD:=U.GD) (h:=h++[.lst (fo.map .str)]) (x:=wd1);rw[decide_eq_true hin]at i4;simp only[Zca,Zff,Zhi,Zky,ZhP,Zfn,Za8,Zeq,Zkx,O0,OJ,Option.join_some,ofO_some,Zk,bind_ok];rw[if_pos (by rw[YC];decide)];simp only[Zk,bind_ok,i4,Zk0,ofO_some,if_true];simp[len_str hw,eq,ZcI,ZaT,ZeH,Zj2,YC,hz]
   . rw[if_neg hin];have i4:=in4 (GD:=U.GD) (h:=h++[.lst (fo.map .str)]) (x:=wd1);rw[decide_eq_false hin]at i4;simp only[Zca,Zff,Zhi,Zky,ZhP,Zfn,Za8,Zeq,Zkx,O0,OJ,Option.join_some,ofO_some,Zk,bind_ok];rw[if_pos (by rw[YC];decide)];simp only[Zk,bind_ok,i4,Zk0,ofO_some];simp[ZcI,ZaT,ZeH,Zj2,YC,hz]
  have go:xs2 U (.cons (.set (.nm 8) (.ix (.var 1) (.bin .Mod (.bin .Add (.var 4) (.bin .Mult (.cst (.int 5)) (.var 6))) (.cst (.int 26))))) (.cons (.set (.nm 9) (.bin .Add (.bin .Add (.sl (.var 5) Wv (Wu (.var 3))) (.var 8)) (.sl (.var 5) (Wu (.bin .Add (.var 3) (.cst (.int 1)))) (Wu (.var 2))))) (.cons (.iff (.ex (.cmp .Eq (.bin .Mod (.bin .FloorDiv (.var 4) (.cst (.int 26))) (.cst (.int 4))) (.cst (.int 1)))) (.cons (.set (.nm 9) (.sl (.var 5) Wv (Wu (.bin .Sub (.cst (.int 8)) (.var 6))))) .nil) .nil) (.cons (.iff (.ex (.cmp .In (.var 9) (.tupl (.cons (.cst (.str (O "fn"))) (.cons (.cst (.str (O "rec"))) (.cons (.cst (.str (O "call"))) (.cons (.cst (.str (O "if"))) .nil))))))) (.cons (.set (.nm 9) (.bin .Mult (.cst (.str (O "q"))) (.blt .len (.cons (.var 9) .nil)))) .nil) .nil) (.cons (.drp (.meth .app (.var 7) (.cons (.var 9) .nil))) .nil)))))
   [a,Wu (.str Zv),Wu (.int l),Wu (.int p),Wu (.int r),Wu (.str b),Wu (.int c),Wu (.ref h.length),sg,wd] (h++[.lst (fo.map .str)])
   = .ok (.nx,[a,Wu (.str Zv),Wu (.int l),Wu (.int p),Wu (.int r),Wu (.str b),Wu (.int c),Wu (.ref h.length),Wu (.str y),Wu (.str (nm b l p r c))]) (h++[.lst (fo.map .str++[.str (nm b l p r c)])]):=by
   unfold nm nmW;rw[hy'];by_cases hr:r / 26 % 4=1
   . have q2:=fin _ ⟨w3.1,by have:=w3.2;omega⟩;rw[if_pos hr,<- q2];simp[m5,m26,e1,f1,c1,f2,c2,d26,m4,hr,f3]
   . have q2:=fin _ ⟨v2.1,by have:=v2.2;omega⟩;rw[if_neg hr,<- q2];simp[m5,m26,e1,f1,c1,f2,c2,d26,m4,hr]
  obtain⟨k',sg',wd',e3⟩:=Zlo (U:=U) (h:=h) (a:=a) (l:=l) (p:=p) (r:=r) hb cs (fo++[nm b l p r c]) (Wu (.int c)) (Wu (.str y)) (Wu (.str (nm b l p r c))) (by simp at h2 ⊢;omega) (fun z hz=>h3 z (by simp[hz]));refine⟨k',sg',wd',?_⟩;rw[Op,Z8];simp only[ZqT,List.set_cons_succ,List.set_cons_zero];rw[go];simp only[Zk,bind_ok];have:(fo++[nm b l p r c]).map D.str=fo.map .str++[.str (nm b l p r c)]:=by simp
  rw[<- this,e3];simp
theorem ZsL:∀k∈[[102,110],[114,101,99],[99,97,108,108],[105,102]],∀l∈[[102,110],[114,101,99],[99,97,108,108],[105,102],YK k.length 113],k=l\/k.length≠l.length\/∀i,i<4->∃j,j<4/\j≠i/\k[j]?≠l[j]? := by decide +kernel
theorem Zlq{b:List Nat}{x y:Nat}(ne:x≠y)(a:List Nat)(h:a++x::b∈[[102,110],[114,101,99],[99,97,108,108],[105,102]]):a++y::b ∉ [[102,110],[114,101,99],[99,97,108,108],[105,102]]/\a++y::b≠YK (a++x::b).length 113:=by
 have l4:(a++x::b).length<=4:=by
  have:∀k∈[[102,110],[114,101,99],[99,97,108,108],[105,102]],k.length<=4:=by decide
  exact this _ h
 have sl:(a++x::b).length=(a++y::b).length:=by simp
 have no:∀l∈[[102,110],[114,101,99],[99,97,108,108],[105,102],YK (a++x::b).length 113],a++y::b≠l:=fun l hl e=>by
  rcases ZsL _ h l hl with q|q|q
  . rw[<- e]at q;exact ne (List.cons.inj (List.append_cancel_left q)).1
  . exact q (by rw[<- e];exact sl)
  . obtain⟨j,_,nj,d⟩:=q a.length (by simp at l4;omega);rw[<- e]at d;rcases Nat.lt_or_ge j a.length with z|z
    . exact d (by rw[Oe z,Oe z])
    . rw[Om z,Om z]at d;obtain⟨m,hm⟩:∃m,j - a.length=m+1:=⟨j - a.length - 1,by omega⟩
      rw[hm]at d;exact d rfl
 refine⟨fun m=>no _ (Ys [YK (a++x::b).length 113] m) rfl,no _ (Ov [[102,110],[114,101,99],[99,97,108,108],[105,102]] (Ox.mpr rfl))⟩
theorem Zn7{w:Str}:w∈[O "fn",O "rec",O "call",O "if"]↔w.cps.toList∈[[102,110],[114,101,99],[99,97,108,108],[105,102]]:=by
 have e:[[102,110],[114,101,99],[99,97,108,108],[105,102]]=[O "fn",O "rec",O "call",O "if"].map (·.cps.toList):=by decide +kernel
 rw[e];refine⟨fun h=>List.mem_map_of_mem h,fun h=>?_⟩;obtain⟨v,hv,q⟩:=List.mem_map.mp h;have:v=w:=by obtain⟨⟨v⟩⟩:=v;obtain⟨⟨w⟩⟩:=w;cases q;rfl
 exact this ▸ hv
theorem Zit:∀n,(ZeE (O "q") n).cps.toList=YK n 113
 |n=>by
  have:∀(n:Nat) (a:Array Nat),((YK n (O "q").cps).foldl (·++·) a).toList=a.toList++YK n 113:=by
   intro n;induction n with
   |zero=>intro a;simp
   |succ n ih=>intro a;rw[List.replicate_succ,Wq,ih,Array.toList_append,Oz,List.replicate_succ];rfl
  have q:=this n #[];simpa[ZeE]using q
theorem nq{a b:List Nat}{x y:Nat}{v w:Str}(hv:v.cps.toList=a++x::b)(hw:w.cps.toList=a++y::b)(ne:x≠y):nmQ v≠nmQ w:=by
 have hl:v.length=(a++x::b).length/\w.length=(a++y::b).length:=by rw[<- hv,<- hw];exact⟨by simp[Str.length],by simp[Str.length]⟩
 unfold nmQ;intro e;have e':=congrArg (·.cps.toList) e;simp only[Zn7]at e';split at e'
 . rename_i kv;rw[hv]at kv;obtain⟨k1,k2⟩:=Zlq ne a kv;rw[if_neg (by rw[hw];exact k1),Zit,hw,hl.1]at e';exact k2 e'.symm
 . split at e'
   . rename_i kw;rw[hw]at kw;obtain⟨k1,k2⟩:=Zlq (YL ne) a kw;rw[Zit,hv,hl.2]at e';exact k2 e'
   . rw[hv,hw]at e';have:=List.append_cancel_left e';exact ne (List.cons.inj this).1
theorem Zli(w:Str):(nmQ w).length=w.length:=by
 unfold nmQ;split
 . rw[Zed,show(O "q").length=1 by decide +kernel,Nat.mul_one]
 . rfl
theorem Zqk:∀i j:Fin 26,ltr (i.val:Int)=ltr (j.val:Int)->i=j:=by decide +kernel
theorem Zuu{b:Str}{l p r:Int}(hb:b.length=8){c d:Int}(hc:0<=c/\c<5)(hd:0<=d/\d<5)(ne:c≠d):nm b l p r c≠nm b l p r d:=by
 unfold nm nmW;split
 . intro e;have e':=congrArg Str.length e;have len:∀ z:Int,0<=z/\z<5->(Yq b Wv (Wu (8 - z))).length=(8 - z).toNat:=fun z hz=>by
     have h8:b.cps.toList.length=8:=by simpa [Str.length] using hb
     rw [StrLaws.sliceText_to ⟨by omega,by omega⟩];show (List.take (8 - z - 0).toNat (List.drop 0 b.cps.toList)).toArray.size=_;rw [Of,List.length_take,List.drop_zero,h8];omega
   rw [Zli,Zli,len c hc,len d hd] at e';omega
 . refine nq (a:=(Yq b Wv (Wu p)).cps.toList) (b:=(Yq b (Wu (p+1)) (Wu l)).cps.toList) (x:=ltr ((r+5 * c) % 26)) (y:=ltr ((r+5 * d) % 26)) ?_ ?_ ?_
   . show (_++#[ltr ((r+5 * c) % 26)]++_:Array Nat).toList=_;simp
   . show (_++#[ltr ((r+5 * d) % 26)]++_:Array Nat).toList=_;simp
   . intro e;have q:=Zqk ⟨((r+5 * c) % 26).toNat,by omega⟩ ⟨((r+5 * d) % 26).toNat,by omega⟩ (by
       show ltr (((r+5 * c) % 26).toNat:Int)=ltr (((r+5 * d) % 26).toNat:Int);rw [Int.toNat_of_nonneg (by omega),Int.toNat_of_nonneg (by omega)];exact e)
     have q:=Fin.mk.inj q;omega
theorem ZnQ{b:Str}{l p r:Int}(hb:b.length=8):(([0,1,2,3,4]:List Int).map (nm b l p r)).Nodup:=by
 refine List.pairwise_map.mpr (List.Pairwise.imp_of_mem (R:=fun x y=>x≠y) (fun {x y} hx hy ne=>Zuu hb ?_ ?_ ne) (by decide))
 . simp at hx;omega
 . simp at hy;omega
theorem Zpu{P:Pg}(H:Mkr P)(n:Nat)(v:Int)(h:Hd):∃ns:List Str,ns.length=5/\(∀x∈ns,Wl 20 x)/\ns.Nodup/\run P (n+1) (O "_law_names") [.int v] h=.ok (.ref h.length) (h++[.lst (ns.map .str)]):=by
 rw[Zc H.names rfl];have u8:ZC 0 8=[0,1,2,3,4,5,6,7].map D.int:=by rfl
 have u5:ZC 0 5=[0,1,2,3,4].map D.int:=by rfl
 have m8:opB .Mod (.int v) (.int 8) h=.ok (.int (v % 8)) h:=ZR (by decide);have d8:opB .FloorDiv (.int v) (.int 8) h=.ok (.int (v / 8)) h:=Zcs (by decide);have mp:opB .Mod (.int (v / 8)) (.int (1+v % 8)) h=.ok (.int (v / 8 % (1+v % 8))) h:=ZR (by omega);have d64:opB .FloorDiv (.int v) (.int 64) h=.ok (.int (v / 64)) h:=Zcs (by decide);obtain⟨r',b,k',hb,hb8,e1⟩:=Zn5 (U:=⟨P.G,P.GD,run P n,P.L⟩) (h:=h) (a:=Wu (.int v)) (l:=Wu (.int (1+v % 8))) (p:=Wu (.int (v / 8 % (1+v % 8)))) (f:=Wv) (sg:=Wv) (wd:=Wv) [0,1,2,3,4,5,6,7] (v / 64) (O "") 0 Wv ⟨by decide +kernel,by decide +kernel⟩ (by decide +kernel) (by decide);obtain⟨k2,sg',wd',e2⟩:=Zlo (U:=⟨P.G,P.GD,run P n,P.L⟩) (h:=h) (a:=Wu (.int v)) (l:=1+v % 8) (p:=v / 8 % (1+v % 8)) (r:=r') hb [0,1,2,3,4] [] k' Wv Wv (by decide) (by decide);refine⟨[0,1,2,3,4].map (nm b (1+v % 8) (v / 8 % (1+v % 8)) r'),rfl,fun x hx=>?_,ZnQ hb8,?_⟩
 . obtain⟨c,_,rfl⟩:=List.mem_map.mp hx;exact Zut hb _ _ _ _
 generalize nm b (1+v % 8) (v / 8 % (1+v % 8)) r'=F at e2 ⊢;simp only[Oy,OB]at e2;have s8:Zan 8=Ww:=by decide
 have s5:Zan 5=Ww:=by decide
 unfold Zv at e1 e2;rw[<- u8]at e1;rw[<- u5]at e2
 try simp at e1
 try simp at e2
 simp[ZaA,Ze8,Zn,m8,d8,mp,d64,s8,s5,e1,e2,YC]
end Gn
end
section
set_option tactic.hygienic false
namespace Gn
open PySem L2 IV
noncomputable abbrev Scp:=List (Str×Str)
noncomputable def pairOf(p:Str×Str):D:=.tup [.str p.1,.str p.2]
def ZmK(h:Hd)(k:Nat)(sc:Scp):Prop:=h[k]? = Wu (.lst (sc.map pairOf))
structure KnOk(sc:Scp)(kn:List (Key×D)):Prop where
 key:∀p∈kn,∃x,p.1=YE x/\x∈sc.map (·.1)
 val:∀p∈kn,∃s,p.2=D.str s
theorem Ziy{kn:List (Key×D)}{k:Key}{v:D}{p:Key×D}(h:p∈putD kn k v):p∈kn\/p=(k,v):=by
 unfold putD at h;split at h
 . obtain⟨q,hq,e⟩:=List.mem_map.mp h;split at e
   . rename_i ek;right;rw[<- e,ek]
   . left;rw[<- e];exact hq
 . rcases OD.mp h with z|z
   . exact .inl z
   . exact .inr (Ox.mp z)
theorem Znp{kn:List (Key×D)}{k:Key}{v:D}:(putD kn k v).length<=kn.length+1:=by unfold putD;split<;>simp
theorem ZpB{h:Hd}{kn:List (Key×D)}{x:Str}{v:D}(hz:kn.length<1000):ZbP (.ref h.length) (.str x) v (h++[.dic kn])=.ok () (h++[.dic (putD kn (.inr x) v)]):=by simp only[ZbP,ZcQ,keyOf];rw[if_pos (by rw[YC];omega)];simp
theorem Zln{U:Tb}{h:Hd}{k:Nat}{sc0:Scp}{w:Option D}(hs:ZmK h k sc0):∀(sc:Scp) (kn:List (Key×D)) (a b:Option D),(∀p∈sc,p∈sc0)->KnOk sc0 kn->kn.length+sc.length<=500->∃kn' a' b',KnOk sc0 kn'/\kn'.length<=kn.length+sc.length /\
 ZL (Wu (k,sc0.map pairOf)) (.two 3 4) (xs2 U (.cons (.put (.var 2) (.var 3) (.var 4)) .nil)) (sc.map pairOf) [Wu (.ref k),w,Wu (.ref h.length),a,b] (h++[.dic kn])
  = .ok (.nx,[Wu (.ref k),w,Wu (.ref h.length),a',b']) (h++[.dic kn'])
 |[],kn,a,b,h1,h2,h3=>by
  refine⟨kn,a,b,h2,by simp,?_⟩;have:(h++[DO.dic kn])[k]? = Wu (.lst (sc0.map pairOf)):=by rw[Oe (ZM hs)];exact hs
  simp[ZL,Wk.stays,this]
 |(x,s)::sc,kn,a,b,h1,h2,h3=>by
  simp only[Os]at h3;have st:(h++[DO.dic kn])[k]? = Wu (.lst (sc0.map pairOf)):=by rw[Oe (ZM hs)];exact hs
  have hk:KnOk sc0 (putD kn (.inr x) (.str s)):=by
   refine⟨fun p hp=>?_,fun p hp=>?_⟩
   . rcases Ziy hp with z|rfl
     . exact h2.key p z
     . exact⟨x,rfl,List.mem_map.mpr ⟨(x,s),h1 _ (by simp),rfl⟩⟩
   . rcases Ziy hp with z|rfl
     . exact h2.val p z
     . exact⟨s,rfl⟩
  have pl:=Znp (kn:=kn) (k:=.inr x) (v:=.str s);obtain⟨kn',a',b',q1,q2,e⟩:=Zln (U:=U) (w:=w) hs sc (putD kn (.inr x) (.str s)) (Wu (.str x)) (Wu (.str s)) (fun p hp=>h1 p (by simp[hp])) hk (by omega);refine⟨kn',a',b',q1,by simp only[Os];omega,?_⟩;rw[Op,ZL];simp only[Wk.stays,st,decide_true,if_true];have e2:=ZpB (h:=h) (kn:=kn) (x:=x) (v:=.str s) (by omega);simp[pairOf,e2];simpa[pairOf]using e
theorem find_key{kn:List (Key×D)}{x:Str}(hx:YE x∈kn.map (·.1)):∃v,Zad kn (.inr x)=Wu v/\(YE x,v)∈kn:=by
 induction kn with
 |nil=>simp at hx
 |cons p r ih=>
  unfold Zad;by_cases e:p.1=YE x
  . refine⟨p.2,?_,?_⟩
    . simp[Wr,e]
    . rw[<- e];exact Oi
  . obtain⟨v,h1,h2⟩:=ih (by simpa[YL e]using hx);refine⟨v,?_,Oh _ h2⟩;simpa[Wr,e,Zad]using h1
theorem Zls{sc:Scp}:∀{kn:List (Key×D)},(∀p∈kn,∃x,p.1=YE x/\x∈sc.map (·.1))->∃ss,Zdu kn=Wu ss/\ss.length=kn.length/\(∀x∈ss,x∈sc.map (·.1)/\YE x∈kn.map (·.1))
 |[],_=>⟨[],rfl,rfl,by simp⟩
 |(k,v)::r,h=>by
  obtain⟨x,e,hx⟩:=h (k,v) (by simp);cases e;obtain⟨ss,e1,e2,e3⟩:=Zls (kn:=r) fun p hp=>h p (by simp[hp]);refine⟨x::ss,by rw[Zdu,e1];rfl,by simp[e2],fun y hy=>?_⟩;rcases O2.mp hy with rfl|hy
  . exact⟨hx,by simp⟩
  . exact⟨(e3 y hy).1,by simp[(e3 y hy).2]⟩
theorem Zj7{U:Tb}{h:Hd}{kn:List (Key×D)}{w:Str}{so:List Str}(hv:∀p∈kn,∃s,p.2=D.str s):∀(xs:List Str) (acc:List Str),(∀x∈xs,YE x∈kn.map (·.1))->acc.length+xs.length<=1000->∃ys,(∀y∈ys,y∈xs) /\
 ZN (Wu (h.length+1,so.map D.str)) (.nm 0) (tsto U (Wu (.ex (.cmp .Eq (.ix (.var 2) (.var 0)) (.var 1))))) (ev U (.var 0)) (xs.map D.str) [Wv,Wu (.str w),Wu (.ref h.length)] (acc.map .str) (h++[.dic kn,.lst (so.map .str)])
  = .ok ((acc++ys).map .str) (h++[.dic kn,.lst (so.map .str)])
 |[],acc,h1,h2=>⟨[],by simp,by simp[ZN,Wk.stays]⟩
 |x::xs,acc,h1,h2=>by
  simp only[Os]at h2;obtain⟨v,e1,hm⟩:=find_key (h1 x (by simp));obtain⟨s,rfl⟩:∃s,v=D.str s:=hv _ hm;have ix:ZaS U.GD (.ref h.length) (.str x) (h++[.dic kn,.lst (so.map .str)])=.ok (.str s) (h++[.dic kn,.lst (so.map .str)]):=by simp[ZaS,dicOf,e1]
  have hz:acc.length<sizeLine:=by rw[YC];omega
  by_cases hw:s=w
  . obtain⟨ys,q1,q2⟩:=Zj7 (U:=U) (h:=h) (w:=w) (so:=so) hv xs (acc++[x]) (fun y hy=>h1 y (by simp[hy])) (by simp;omega);refine⟨x::ys,fun y hy=>?_,?_⟩
    . rcases O2.mp hy with rfl|hy
      . simp
      . simp[q1 y hy]
    . rw[Op,ZX];simp at q2;simp[Wk.stays,hz,ix,hw,q2]
  . obtain⟨ys,q1,q2⟩:=Zj7 (U:=U) (h:=h) (w:=w) (so:=so) hv xs acc (fun y hy=>h1 y (by simp[hy])) (by omega);refine⟨ys,fun y hy=>by simp[q1 y hy],?_⟩;rw[Op,ZX];simp at q2;simp[Wk.stays,hz,ix,hw,q2]
theorem Zpt{P:Pg}(H:Mkr P)(n:Nat){h:Hd}{k:Nat}{sc:Scp}(w:Str)(hs:ZmK h k sc)(hl:sc.length<=60)(hok:∀p∈sc,Yp p.1=Ww):∃(ys:List Str) (g:Hd),(∀y∈ys,y∈sc.map (·.1))/\g.length=2 /\
 run P (n+1) (O "_law_there") [.ref k,.str w] h=.ok (.ref (h.length+2)) (h++g++[.lst (ys.map .str)]):=by
 rw[Zc H.there rfl];obtain⟨kn,a',b',hk,hkl,e1⟩:=Zln (U:=⟨P.G,P.GD,run P n,P.L⟩) (w:=Wu (.str w)) hs sc [] Wv Wv (fun _ hp=>hp) ⟨by simp,by simp⟩ (by simp;omega);obtain⟨ss,e2,e3,e4⟩:=Zls hk.key;have all:ss.all Yp=Ww:=by rw[OC];intro x hx;obtain⟨p,hp,rfl⟩:=List.mem_map.mp (e4 x hx).1;exact hok p hp
 have perm:=Zdq ss;obtain⟨ys,q1,q2⟩:=Zj7 (U:=⟨P.G,P.GD,run P n,P.L⟩) (h:=h) (kn:=kn) (w:=w) (so:=Zcc ss) hk.val (Zcc ss) [] (fun x hx=>(e4 x (perm.mem_iff.mp hx)).2) (by rw[perm.length_eq];simp at hkl ⊢;omega);refine⟨ys,[.dic kn,.lst ((Zcc ss).map .str)],fun y hy=>(e4 y (perm.mem_iff.mp (q1 y hy))).1,rfl,?_⟩;have hsrt:Zbl P.GD .srt [.ref h.length] (h++[.dic kn])=.ok (.ref (h.length+1)) (h++[.dic kn,.lst ((Zcc ss).map .str)]):=by show Zey P.GD [.ref h.length] (h++[.dic kn])=_;simp only[Zey,dicOf,ZcQ,Yz,e2];rw[if_pos ⟨by simp at hkl;omega,all⟩];simp
 have hw1:Zar (.ref k) (h++[DO.dic []])=Wu ⟨Wu (k,sc.map pairOf),sc.map pairOf⟩:=by
  have:(h++[DO.dic []])[k]? = Wu (.lst (sc.map pairOf)):=by rw[Oe (ZM hs)];exact hs
  simp[Zar,this]
 have hw2:Zar (.ref (h.length+1)) (h++[DO.dic kn,.lst ((Zcc ss).map .str)])=Wu ⟨Wu (h.length+1,(Zcc ss).map .str),(Zcc ss).map .str⟩:=by simp[Zar]
 simp at q2 e1;simp[Zaz,Ze7,Zn,ZcW,Zb3,hw1,e1,hsrt,hw2,Zbq,q2]
end Gn
end
section
namespace Gn
open PySem L2 IV
structure Ctx(cs:List Int)(ns:List Str)(h:Hd)(i j m k:Nat)(sc:Scp)(a b:Int):Prop where
 st:St3 h i j cs a b
 nm:h[m]? = Wu (.lst (ns.map .str))
 n5:ns.length=5
 nok:∀x∈ns,Wl 20 x
 nd:ns.Nodup
 sca:ZmK h k sc
 sco:∀p∈sc,Wl 20 p.1
 im:i≠m
 ik:i≠k
 ab:0<=a
variable {P:Pg}{cs:List Int}{ns:List Str}{h h':Hd}{i j m k:Nat}{sc:Scp}{a b a' b':Int}
theorem Ctx.up(c:Ctx cs ns h i j m k sc a b)(u:Up i h h')(st:St3 h' i j cs a' b')(ab:0<=a'):Ctx cs ns h' i j m k sc a' b':=⟨st,u.at c.nm (YL c.im),c.n5,c.nok,c.nd,u.at c.sca (YL c.ik),c.sco,c.im,c.ik,ab⟩
theorem St3.app{g:Hd}(s:St3 h i j cs a b):St3 (h++g) i j cs a b:=⟨by rw[Oe (ZM s.1)];exact s.1,by rw[Oe (ZM s.2.1)];exact s.2.1,s.2.2⟩
theorem Ctx.app{g:Hd}(c:Ctx cs ns h i j m k sc a b):Ctx cs ns (h++g) i j m k sc a b:=c.up Up.app c.st.app c.ab
theorem Ctx.name(c:Ctx cs ns h i j m k sc a b){GD:Str->Option (List (Key×D))}(v:Int)(h0:0<=v)(h5:v<5):∃x,ZaS GD (.ref m) (.int v) h=.ok (.str x) h/\Wl 20 x/\ns[v.toNat]? = Wu x:=by
 obtain⟨q,rfl⟩:∃q:Nat,v=q:=⟨v.toNat,by omega⟩
 have hq:q<ns.length:=by have:=c.n5;omega
 refine⟨ns[q],?_,c.nok _ (List.getElem_mem hq),Og hq⟩;rw[ZD c.nm,IV.ZbX,On,Og hq];rfl
noncomputable def A(r:Nat):Int:=4 ^ (r+1)
theorem Zju(r:Nat):0<A r:=Int.pow_pos (by decide)
theorem Ztj(r:Nat):A (r+1)=4 * A r:=by unfold A;rw[Int.pow_succ];omega
inductive Made(cs:List Int)(h:Hd)(i j:Nat)(sc:Scp)(a mx:Int)(dm:Nat)(r:R D):Prop
 |mk (t:T) (h':Hd) (a' b':Int) (e:r=.ok (T.d t) h') (u:Up i h h') (s:St3 h' i j cs a' b') (l1:a<=a') (l2:a'<=a+mx) (c:Cl (sc.map (·.1)) t) (p:dep t<=dm)
def ZlK(P:Pg)(r n0:Nat):Prop:=∀(n:Nat) (cs:List Int) (ns:List Str) (h:Hd) (i j m k:Nat) (sc:Scp) (a b:Int) (w:Str) (room:Int),room<=r->Ctx cs ns h i j m k sc a b->sc.length+2 * r<=50->a+A r<2 ^ 50 ->
 Made cs h i j sc a (A r) (3 * r+3) (run P (n+n0) (O "_law_any") [.str w,.ref k,.ref i,.ref m,.int room] h)
theorem ZoX(H:Mkr P)(n:Nat)(c:Ctx cs ns h i j m k sc a b)(w:Str)(room:Int)(hl:sc.length<=50)(ha:a<2 ^ 50)(T1 T2 T3:Option D):∃(v:Int) (w':Str) (ys:List Str) (h':Hd) (l:Nat),
 xs2 ⟨P.G,P.GD,run P (n+2),P.L⟩ (.cons Zbh (.cons Zbg (.cons ZW (.cons Zbf (.cons Zbe .nil))))) [Wu (.str w),Wu (.ref k),Wu (.ref i),Wu (.ref m),Wu (.int room),T1,T2,T3,Wv,Wv] h
  = .ok (.nx,[Wu (.str w'),Wu (.ref k),Wu (.ref i),Wu (.ref m),Wu (.int room),Wu (.int v),Wu (.int (v / 87)),Wu (.ref l),Wv,Wv]) h'/\Up i h h'/\Ctx cs ns h' i j m k sc (a+1) (b - 1)/\h'[l]? = Wu (.lst (ys.map .str))/\(∀y∈ys,y∈sc.map (·.1)):=by
 have i1:=c.st.1;have lt:=ZM i1;have p1:ZbP (.ref i) (.int 2) (.int (b - 1)) h=.ok () (h.set i (.lst [.ref j,.int a,.int (b - 1)])):=by simp only[ZbP,i1];rfl
 have s1:St3 (h.set i (.lst [.ref j,.int a,.int (b - 1)])) i j cs a (b - 1):=⟨by rw[Ol lt],by rw[Oc c.st.2.2];exact c.st.2.1,c.st.2.2⟩
 have c1:=c.up Up.set s1 c.ab;obtain⟨v,e2,_⟩:=ZjH H n s1 ⟨c.ab,ha⟩;have lt1:i<(h.set i (.lst [.ref j,.int a,.int (b - 1)])).length:=by simpa using lt
 have s2:St3 ((h.set i (.lst [.ref j,.int a,.int (b - 1)])).set i (.lst [.ref j,.int (a+1),.int (b - 1)])) i j cs (a+1) (b - 1):=⟨by rw[Ol lt1],by rw[Oc c.st.2.2];exact s1.2.1,c.st.2.2⟩
 have c2:=c1.up Up.set s2 (by have:=c.ab;omega);generalize hh2:(h.set i (.lst [.ref j,.int a,.int (b - 1)])).set i (.lst [.ref j,.int (a+1),.int (b - 1)])=h2 at e2 s2 c2;have u2:Up i h h2:=hh2 ▸ Up.set.trans Up.set;have m29:∀h,opB .Mod (.int v) (.int 29) h=.ok (.int (v % 29)) h:=fun h=>ZR (by decide);have d29:∀h,opB .FloorDiv (.int v) (.int 29) h=.ok (.int (v / 29)) h:=fun h=>Zcs (by decide);have m3:∀h,opB .Mod (.int (v / 29)) (.int 3) h=.ok (.int (v / 29 % 3)) h:=fun h=>ZR (by decide);have d87:∀h,opB .FloorDiv (.int v) (.int 87) h=.ok (.int (v / 87)) h:=fun h=>Zcs (by decide);have hix:ZaS P.GD (.ref i) (.int 2) h=.ok (.int b) h:=by rw[ZD i1];simp
 have step3:∃(w':Str) (h3:Hd),xs1 ⟨P.G,P.GD,run P (n+2),P.L⟩ ZW [Wu (.str w),Wu (.ref k),Wu (.ref i),Wu (.ref m),Wu (.int room),Wu (.int v),T2,T3,Wv,Wv] h2
  = .ok (.nx,[Wu (.str w'),Wu (.ref k),Wu (.ref i),Wu (.ref m),Wu (.int room),Wu (.int v),T2,T3,Wv,Wv]) h3/\Up i h2 h3/\Ctx cs ns h3 i j m k sc (a+1) (b - 1):=by
  by_cases hv:v % 29=0
  . have q:v / 29 % 3=0\/v / 29 % 3=1\/v / 29 % 3=2:=by omega
    have ix:∀z:Int,ZaS P.GD (.ref h2.length) (.int z) (h2++[.lst [.str (O "n"),.str (O "f"),.str (O "g")]])=R.ofO (atI [.str (O "n"),.str (O "f"),.str (O "g")] z) _:=fun z=>ZD ZcQ;rcases q with q|q|q
    . exact⟨O "n",h2++[.lst [.str (O "n"),.str (O "f"),.str (O "g")]],by simp[ZW,m29,hv,d29,m3,YC,ix,q],Up.app,c2.app⟩
    . exact⟨O "f",h2++[.lst [.str (O "n"),.str (O "f"),.str (O "g")]],by simp[ZW,m29,hv,d29,m3,YC,ix,q],Up.app,c2.app⟩
    . exact⟨O "g",h2++[.lst [.str (O "n"),.str (O "f"),.str (O "g")]],by simp[ZW,m29,hv,d29,m3,YC,ix,q],Up.app,c2.app⟩
  . exact⟨w,h2,by simp[ZW,m29,hv],Up.refl,c2⟩
 obtain⟨w',h3,e3,u3,c3⟩:=step3;obtain⟨ys,g,hy,hg,e5⟩:=Zpt H (n+1) w' c3.sca (by omega) (fun p hp=>(c3.sco p hp).1);refine⟨v,w',ys,h3++g++[.lst (ys.map .str)],h3.length+2,?_,(u2.trans u3).trans (Up.app.trans Up.app),c3.app.app,?_,hy⟩
 . have x1:xs1 ⟨P.G,P.GD,run P (n+2),P.L⟩ Zbh [Wu (.str w),Wu (.ref k),Wu (.ref i),Wu (.ref m),Wu (.int room),T1,T2,T3,Wv,Wv] h=.ok (.nx,[Wu (.str w),Wu (.ref k),Wu (.ref i),Wu (.ref m),Wu (.int room),T1,T2,T3,Wv,Wv]) (h.set i (.lst [.ref j,.int a,.int (b - 1)])):=by simp[Zbh,hix,p1]
   have x2:xs1 ⟨P.G,P.GD,run P (n+2),P.L⟩ Zbg [Wu (.str w),Wu (.ref k),Wu (.ref i),Wu (.ref m),Wu (.int room),T1,T2,T3,Wv,Wv] (h.set i (.lst [.ref j,.int a,.int (b - 1)]))=.ok (.nx,[Wu (.str w),Wu (.ref k),Wu (.ref i),Wu (.ref m),Wu (.int room),Wu (.int v),T2,T3,Wv,Wv]) h2:=by simp[Zbg,e2]
   have x4:∀q,xs1 ⟨P.G,P.GD,run P (n+2),P.L⟩ Zbf [Wu (.str w'),Wu (.ref k),Wu (.ref i),Wu (.ref m),Wu (.int room),Wu (.int v),q,T3,Wv,Wv] h3=.ok (.nx,[Wu (.str w'),Wu (.ref k),Wu (.ref i),Wu (.ref m),Wu (.int room),Wu (.int v),Wu (.int (v / 87)),T3,Wv,Wv]) h3:=by intro q;simp[Zbf,d87]
   have x5:xs1 ⟨P.G,P.GD,run P (n+2),P.L⟩ Zbe [Wu (.str w'),Wu (.ref k),Wu (.ref i),Wu (.ref m),Wu (.int room),Wu (.int v),Wu (.int (v / 87)),T3,Wv,Wv] h3=.ok (.nx,[Wu (.str w'),Wu (.ref k),Wu (.ref i),Wu (.ref m),Wu (.int room),Wu (.int v),Wu (.int (v / 87)),Wu (.ref (h3.length+2)),Wv,Wv]) (h3++g++[.lst (ys.map .str)]):=by simp only[Zbe,Zd4,ZhR,Za8,Zeq,ZhP,O0,OJ,Option.join_some,ofO_some,Zk,bind_ok,e5];rfl
   simp only[Zca,x1,Zk,bind_ok,x2,e3,x4,x5,Zo1]
 . have:h3.length+2=(h3++g).length:=by simp[hg]
   rw[this];simp
end Gn
end
section
set_option tactic.hygienic false
namespace Gn
open PySem L2 IV
variable {P:Pg}{cs:List Int}{ns:List Str}{h h':Hd}{i j m k:Nat}{sc:Scp}{a b a' b':Int}
theorem Cl.mono{sc sc':List Str}:∀ {t:T},(∀ x∈sc,x∈sc')->Cl sc t->Cl sc' t
 | .num n,_,c=>c
 | .name x,s,c=>s x c
 | .fn x e,s,c=>Cl.mono (t:=e) (fun y hy=>by
     rcases O2.mp hy with z|z
     . rw [z];exact Oi
     . exact Oh _ (s y z)) c
 | .rcc f x e,s,c=>⟨Cl.mono (t:=e) (fun y hy=>by
     rcases O2.mp hy with z|z
     . rw [z];exact Oi
     . rcases O2.mp z with q|q
       . rw [q];exact Oh _ Oi
       . exact Oh _ (Oh _ (s y q))) c.1,c.2⟩
 | .call f e,s,c=>⟨Cl.mono s c.1,Cl.mono s c.2⟩
 | .iff p q r,s,c=>⟨Cl.mono s c.1,Cl.mono s c.2.1,Cl.mono s c.2.2⟩
 | .op w p q,s,c=>⟨Cl.mono s c.1,Cl.mono s c.2⟩
noncomputable def Zo4(z:Int):Wd:=if z=0 then .add else if z=1 then .sub else if z=2 then .mul else .lt
theorem wd4(z:Int)(h0:0<=z)(h4:z<4):atI [D.str (O "+"),.str (O "-"),.str (O "*"),.str (O "<")] z=Wu (.str (Zo4 z).s):=by
 have:z=0\/z=1\/z=2\/z=3:=by omega
 rcases this with rfl|rfl|rfl|rfl<;>simp[Zo4,Wd.s]
noncomputable def me(rest:Int)(k i m:Nat)(room:Int)(a b c d:Option D):Ev:=[Wu (.int rest),Wu (.ref k),Wu (.ref i),Wu (.ref m),Wu (.int room),a,b,c,d]
theorem Zsz(H:Mkr P){r n0:Nat}(ih:ZlK P r n0)(hn:1<=n0)(n:Nat)(c:Ctx cs ns h i j m k sc a b)(rest:Int)(room:Int)(hr:room<=r)(hl:sc.length+2 * r<=50)(ha:a+2 * A r<2 ^ 50):
 Made cs h i j sc a (2 * A r) (3 * r+4) (run P (n+n0+1) (O "_law_number") [.int rest,.ref k,.ref i,.ref m,.int room] h):=by
 have Ap:=Zju r;rw[Zfh H.number rfl];show Made cs h i j sc a (2 * A r) (3 * r+4) (Zh (xs2 (P.tbl (n+n0)) ZcE (me rest k i m room Wv Wv Wv Wv) h));have x1:∀h,xs1 (P.tbl (n+n0)) Zdj (me rest k i m room Wv Wv Wv Wv) h=.ok (.nx,me rest k i m room (Wu (.int (rest % 6))) Wv Wv Wv) h:=fun h=>rfl;rw[ZcE,Za (x1 h)];obtain⟨n1,e1⟩:∃n1,n+n0=n1+1:=⟨n+n0 - 1,by omega⟩
 by_cases h0:rest % 6=0
 . obtain⟨t,g,e2,ct,pt⟩:=Zhs H n1 (O "n") (rest / 6) h (sc.map (·.1));refine⟨t,h++g,a,b,?_,Up.app,c.st.app,by omega,by omega,ct,by omega⟩;rw[<- e1]at e2;have x2:xs1 (P.tbl (n+n0)) ZbK (me rest k i m room (Wu (.int (rest % 6))) Wv Wv Wv) h=.ok (.rt t.d,me rest k i m room (Wu (.int (rest % 6))) Wv Wv Wv) (h++g):=(Zs (Zq (Zgh rfl rfl) (decide_eq_true h0))).trans (Ze (Zj e2 rfl rfl));rw[Ze x2];rfl
 . have x2:xs1 (P.tbl (n+n0)) ZbK (me rest k i m room (Wu (.int (rest % 6))) Wv Wv Wv) h=.ok (.nx,me rest k i m room (Wu (.int (rest % 6))) Wv Wv Wv) h:=(Zw (Zq (Zgh rfl rfl) (decide_eq_false h0))).trans rfl;rw[Za x2];have lt:tst (P.tbl (n+n0)) (.ex (.cmp .Lt (.var 5) (.cst (.int 3)))) (me rest k i m room (Wu (.int (rest % 6))) Wv Wv Wv) h=.ok (Wy (rest % 6<3)) h:=rfl;by_cases h3:rest % 6<3
   . obtain⟨t1,g1,a1,b1,e2,u1,s1,l1,l2,c1,p1⟩:=ih n cs ns h i j m k sc a b (O "n") room hr c hl (by omega);have cc:=c.up u1 s1 (by have:=c.ab;omega);obtain⟨t2,g2,a2,b2,e3,u2,s2,l3,l4,c2,p2⟩:=ih n cs ns (g1++[.lst [.str (O "+"),.str (O "-"),.str (O "*"),.str (O "<")]]) i j m k sc a1 b1 (O "n") room hr cc.app hl (by omega);refine⟨.op (Zo4 (rest / 6 % 4)) t1 t2,g2,a2,b2,?_,u1.trans (Up.app.trans u2),s2,by omega,by omega,⟨c1,c2⟩,by simp only[dep];omega⟩;have w4:=wd4 (rest / 6 % 4) (by omega) (by omega);have x3:xs1 (P.tbl (n+n0)) ZbJ (me rest k i m room (Wu (.int (rest % 6))) Wv Wv Wv) h=.ok (.rt (T.op (Zo4 (rest / 6 % 4)) t1 t2).d,me rest k i m room (Wu (.int (rest % 6))) (Wu t1.d) Wv Wv) g2:=by refine(Zs (Zq lt (decide_eq_true h3))).trans ?_;refine(Za (ρ1:=me rest k i m room (Wu (.int (rest % 6))) (Wu t1.d) Wv Wv) (h1:=g1) (Zj e2 rfl rfl)).trans ?_;exact Ze (Zx (Za9 (Zd (ZoO w4 rfl rfl (by simp)) (Zd rfl (Zd (Zr e3 rfl) rfl))) (by simp)))
     rw[Ze x3];rfl
   . have w3:∃ws,(ws=O "f" \/ ws=O "g")/\atI [D.str (O "f"),.str (O "f"),.str (O "g")] (rest % 6 - 3)=Wu (.str ws):=by
      have:rest % 6 - 3=0\/rest % 6 - 3=1\/rest % 6 - 3=2:=by omega
      rcases this with q|q|q<;>rw[q]<;>simp
     obtain⟨ws,hws,w3⟩:=w3;obtain⟨t1,g1,a1,b1,e2,u1,s1,l1,l2,c1,p1⟩:=ih n cs ns (h++[.lst [.str (O "f"),.str (O "f"),.str (O "g")]]) i j m k sc a b ws room hr c.app hl (by omega);have cc:=c.app.up u1 s1 (by have:=c.ab;omega);have dd:∃ws',ZaS P.GD (.ref g1.length) (.str ws) (g1++[.dic [(.inr (O "f"),.str (O "n")),(.inr (O "g"),.str (O "f"))]])=.ok (.str ws') (g1++[.dic [(.inr (O "f"),.str (O "n")),(.inr (O "g"),.str (O "f"))]]):=by
      rcases hws with rfl|rfl
      . exact⟨O "n",by simp[ZaS,dicOf,Zad]⟩
      . exact⟨O "f",by simp[ZaS,dicOf,Zad]⟩
     obtain⟨ws',dd⟩:=dd;obtain⟨t2,g2,a2,b2,e3,u2,s2,l3,l4,c2,p2⟩:=ih n cs ns (g1++[.dic [(.inr (O "f"),.str (O "n")),(.inr (O "g"),.str (O "f"))]]) i j m k sc a1 b1 ws' room hr cc.app hl (by omega);refine⟨.call t1 t2,g2,a2,b2,?_,Up.app.trans (u1.trans (Up.app.trans u2)),s2,by omega,by omega,⟨c1,c2⟩,by simp only[dep];omega⟩;have x3:xs1 (P.tbl (n+n0)) ZbJ (me rest k i m room (Wu (.int (rest % 6))) Wv Wv Wv) h=.ok (.nx,me rest k i m room (Wu (.int (rest % 6))) Wv Wv Wv) h:=(Zw (Zq lt (decide_eq_false h3))).trans rfl;have x4:xs1 (P.tbl (n+n0)) Zdi (me rest k i m room (Wu (.int (rest % 6))) Wv Wv Wv) h=.ok (.nx,me rest k i m room (Wu (.int (rest % 6))) Wv (Wu (.str ws)) Wv) (h++[.lst [.str (O "f"),.str (O "f"),.str (O "g")]]):=Zu (i:=7) (ZoO w3 rfl rfl (by simp));have x5:xs1 (P.tbl (n+n0)) Zdh (me rest k i m room (Wu (.int (rest % 6))) Wv (Wu (.str ws)) Wv) (h++[.lst [.str (O "f"),.str (O "f"),.str (O "g")]])=.ok (.nx,me rest k i m room (Wu (.int (rest % 6))) Wv (Wu (.str ws)) (Wu t1.d)) g1:=Zj e2 rfl rfl;have p6:ev (P.tbl (n+n0)) (.ix (.dictl (.cons (.cst (.str (O "f"))) (.cons (.cst (.str (O "n"))) (.cons (.cst (.str (O "g"))) (.cons (.cst (.str (O "f"))) .nil))))) (.var 7)) (me rest k i m room (Wu (.int (rest % 6))) Wv (Wu (.str ws)) (Wu t1.d)) g1=.ok (.str ws') (g1++[.dic [(.inr (O "f"),.str (O "n")),(.inr (O "g"),.str (O "f"))]]):=dd;have x6:xs1 (P.tbl (n+n0)) Zdg (me rest k i m room (Wu (.int (rest % 6))) Wv (Wu (.str ws)) (Wu t1.d)) g1=.ok (.rt (T.call t1 t2).d,me rest k i m room (Wu (.int (rest % 6))) Wv (Wu (.str ws)) (Wu t1.d)) g2:=Zx (Za9 (Zd rfl (Zd rfl (Zd ((ZqF (Zd p6 rfl)).trans e3) rfl))) (by simp));rw[Za x3,Za x4,Za x5,Ze x6];rfl
end Gn
end
section
set_option tactic.hygienic false
namespace Gn
open PySem L2 IV
variable {P:Pg}{cs:List Int}{ns:List Str}{h h':Hd}{i j m k:Nat}{sc:Scp}{a b a' b':Int}
theorem Ctx.wider(c:Ctx cs ns h i j m k sc a b)(more:Scp)(hm:∀p∈more,Wl 20 p.1):Ctx cs ns (h++[.lst (more.map pairOf),.lst ((sc++more).map pairOf)]) i j m (h.length+1) (sc++more) a b:=by
 have c1:=c.app (g:=[.lst (more.map pairOf),.lst ((sc++more).map pairOf)]);refine⟨c1.st,c1.nm,c1.n5,c1.nok,c1.nd,by unfold ZmK;simp,fun p hp=>?_,c1.im,?_,c1.ab⟩
 . rcases OD.mp hp with z|z
   . exact c.sco p z
   . exact hm p z
 . have:=ZM c.st.1;omega
theorem ZhV(c:Ctx cs ns h i j m k sc a b)(more:Scp)(hz:sc.length+more.length<=100):opB .Add (.ref k) (.ref h.length) (h++[.lst (more.map pairOf)])=.ok (.ref (h.length+1)) (h++[.lst (more.map pairOf),.lst ((sc++more).map pairOf)]):=by
 have hk:(h++[DO.lst (more.map pairOf)])[k]? = Wu (.lst (sc.map pairOf)):=by rw[Oe (ZM c.sca)];exact c.sca
 simp only[opB,ZqW,hk,ZcQ];rw[if_pos (by simp;rw[YC];omega)];simp
theorem ZtR{sc:Scp}{x s:Str}:∀y∈(sc++[(x,s)]).map (·.1),y∈x::sc.map (·.1):=fun y hy=>by
 rw[List.map_append]at hy;rcases OD.mp hy with z|z
 . exact Oh _ z
 . have:y=x:=by simpa using z
   rw[this];exact Oi
theorem unlike{ns:List Str}(n5:ns.length=5)(nd:ns.Nodup){x f:Str}{rest:Int}(ax:ns[(rest % 5).toNat]? = Wu x)(af:ns[((rest % 5+1+rest / 15 % 4) % 5).toNat]? = Wu f):f≠x:=fun e=>by have q:=(List.getElem?_inj (i:=(rest % 5).toNat) (j:=((rest % 5+1+rest / 15 % 4) % 5).toNat) (by rw[n5];omega) nd).mp (by rw[ax,af,e]);omega
noncomputable def fe(w:Str)(rest:Int)(k i m:Nat)(room:Int)(a b c d:Option D):Ev:=[Wu (.str w),Wu (.int rest),Wu (.ref k),Wu (.ref i),Wu (.ref m),Wu (.int room),a,b,c,d]
theorem ZuT{N:Nat}{s:Str}{w:Str}{rest:Int}{room:Int}{x:Str}{t1:T}{g1 h1:Hd}(hc:opB .Add (.ref k) (.ref h.length) (h++[.lst ([(x,s)].map pairOf)])=.ok (.ref (h.length+1)) h1)(e1:run P N (O "_law_any") [.str (O "n"),.ref (h.length+1),.ref i,.ref m,.int room] h1=.ok t1.d g1):ev (P.tbl N) (.tupl (.cons (.cst (.str (O "fn"))) (.cons (.var 6) (.cons (.call (O "_law_any") (.cons (.cst (.str (O "n"))) (.cons (.bin .Add (.var 2) (.lstl (.cons (.tupl (.cons (.var 6) (.cons (.cst (.str s)) .nil))) .nil))) (.cons (.var 3) (.cons (.var 4) (.cons (.var 5) .nil)))))) .nil)))) (fe w rest k i m room (Wu (.str x)) Wv Wv Wv) h=.ok (T.fn x t1).d g1:=by have b:ev (P.tbl N) (.bin .Add (.var 2) (.lstl (.cons (.tupl (.cons (.var 6) (.cons (.cst (.str s)) .nil))) .nil))) (fe w rest k i m room (Wu (.str x)) Wv Wv Wv) h=.ok (.ref (h.length+1)) h1:=(Zao (x:=.ref k) (y:=.ref h.length) (h1:=h) (h2:=h++[.lst ([(x,s)].map pairOf)]) rfl rfl).trans hc;exact Za9 (Zd rfl (Zd rfl (Zd ((ZqF (Zd rfl (Zd b rfl))).trans e1) rfl))) (by simp)
theorem ZsZ(H:Mkr P){r n0:Nat}(ih:ZlK P r n0)(n:Nat)(c:Ctx cs ns h i j m k sc a b)(w:Str)(rest:Int)(room:Int)(hr:room<=r)(hl:sc.length+2+2 * r<=50)(ha:a+2 * A r<2 ^ 50):
 Made cs h i j sc a (2 * A r) (3 * r+6) (run P (n+n0+1) (O "_law_function") [.str w,.int rest,.ref k,.ref i,.ref m,.int room] h):=by
 have Ap:=Zju r;have hab:=c.ab;rw[Zfh H.function rfl];obtain⟨x,ex,wx,ax⟩:=c.name (GD:=P.GD) (rest % 5) (by clear ih ha hab hl hr;omega) (by clear ih ha hab hl hr;omega);show Made cs h i j sc a (2 * A r) (3 * r+6) (Zh (xs2 (P.tbl (n+n0)) (.cons ZaZ (.cons Zac (.cons Zab (.cons ZaY (.cons ZaX (.cons ZaW (.cons Zaa (.cons Z9 .nil)))))))) (fe w rest k i m room Wv Wv Wv Wv) h));have x1:xs1 (P.tbl (n+n0)) ZaZ (fe w rest k i m room Wv Wv Wv Wv) h=.ok (.nx,fe w rest k i m room (Wu (.str x)) Wv Wv Wv) h:=by exact Zu (i:=6) ex
 rw[Za x1];by_cases hg:w=O "g"
 . have hc:=ZhV c [(x,O "f")] (by simp;omega);obtain⟨t1,g1,a1,b1,e1,u1,s1,l1,l2,c1,p1⟩:=ih n cs ns _ i j m (h.length+1) (sc++[(x,O "f")]) a b (O "n") room hr (c.wider [(x,O "f")] (by simp[wx])) (by simp;omega) (by omega);refine⟨.fn x t1,g1,a1,b1,?_,Up.app.trans u1,s1,l1,by omega,Cl.mono (t:=t1) ZtR c1,by simp only[dep];omega⟩;have e:xs1 (P.tbl (n+n0)) Zac (fe w rest k i m room (Wu (.str x)) Wv Wv Wv) h=.ok (.rt (T.fn x t1).d,fe w rest k i m room (Wu (.str x)) Wv Wv Wv) g1:=by subst hg;exact(Zs rfl).trans (Ze (Zx (ZuT hc e1)))
   rw[Ze e];rfl
 have x2:xs1 (P.tbl (n+n0)) Zac (fe w rest k i m room (Wu (.str x)) Wv Wv Wv) h=.ok (.nx,fe w rest k i m room (Wu (.str x)) Wv Wv Wv) h:=by exact(Zw (Zq (Zer rfl rfl) (decide_eq_false hg))).trans rfl
 rw[Za x2];by_cases h3:rest / 5 % 3=0
 . have hc:=ZhV c [(x,O "n")] (by simp;omega);obtain⟨t1,g1,a1,b1,e1,u1,s1,l1,l2,c1,p1⟩:=ih n cs ns _ i j m (h.length+1) (sc++[(x,O "n")]) a b (O "n") room hr (c.wider [(x,O "n")] (by simp[wx])) (by simp;omega) (by omega);refine⟨.fn x t1,g1,a1,b1,?_,Up.app.trans u1,s1,l1,by omega,Cl.mono (t:=t1) ZtR c1,by simp only[dep];omega⟩;have e:xs1 (P.tbl (n+n0)) Zab (fe w rest k i m room (Wu (.str x)) Wv Wv Wv) h=.ok (.rt (T.fn x t1).d,fe w rest k i m room (Wu (.str x)) Wv Wv Wv) g1:=(Zs (Zq (Zgh (x:=rest / 5 % 3) rfl rfl) (decide_eq_true h3))).trans (Ze (Zx (ZuT hc e1)));rw[Ze e];rfl
 have x3:xs1 (P.tbl (n+n0)) Zab (fe w rest k i m room (Wu (.str x)) Wv Wv Wv) h=.ok (.nx,fe w rest k i m room (Wu (.str x)) Wv Wv Wv) h:=by exact(Zw (Zq (Zgh (x:=rest / 5 % 3) rfl rfl) (decide_eq_false h3))).trans rfl
 obtain⟨f,ef,wf,af⟩:=c.name (GD:=P.GD) ((rest % 5+1+rest / 15 % 4) % 5) (by clear ih ha hab hl hr;omega) (by clear ih ha hab hl hr;omega);have nfx:f≠x:=unlike c.n5 c.nd ax af;have x4:xs1 (P.tbl (n+n0)) ZaY (fe w rest k i m room (Wu (.str x)) Wv Wv Wv) h=.ok (.nx,fe w rest k i m room (Wu (.str x)) (Wu (.str f)) Wv Wv) h:=by exact Zu (i:=7) ef
 have hc:=ZhV c [(f,O "f"),(x,O "n")] (by simp;omega);have cw:=c.wider [(f,O "f"),(x,O "n")] (by simp[wx,wf]);have sub:∀y∈(sc++[(f,O "f"),(x,O "n")]).map (·.1),y∈x::f::sc.map (·.1):=fun y hy=>by simp at hy ⊢;rcases hy with z|z|z<;>simp[z]
 generalize hh1:(h++[DO.lst ([(f,O "f"),(x,O "n")].map pairOf),.lst ((sc++[(f,O "f"),(x,O "n")]).map pairOf)])=h1 at hc cw;have ug:Up i h h1:=by rw[<- hh1];exact Up.app
 have hl1:h1.length=h.length+2:=by rw[<- hh1];simp
 have x5:xs1 (P.tbl (n+n0)) ZaX (fe w rest k i m room (Wu (.str x)) (Wu (.str f)) Wv Wv) h=.ok (.nx,fe w rest k i m room (Wu (.str x)) (Wu (.str f)) (Wu (.ref (h.length+1))) Wv) h1:=by exact Zu (i:=8) ((Zao (x:=.ref k) (y:=.ref h.length) (h1:=h) (h2:=h++[.lst ([(f,O "f"),(x,O "n")].map pairOf)]) rfl rfl).trans hc)
 have x6:xs1 (P.tbl (n+n0)) ZaW (fe w rest k i m room (Wu (.str x)) (Wu (.str f)) (Wu (.ref (h.length+1))) Wv) h1=.ok (.nx,fe w rest k i m room (Wu (.str x)) (Wu (.str f)) (Wu (.ref (h.length+1))) (Wu (T.call (.name f) (.op .sub (.name x) (.num 1))).d)) h1:=by exact rfl
 rw[Za x3,Za x4,Za x5,Za x6];generalize hsc:sc++[(f,O "f"),(x,O "n")]=sc1 at cw sub hh1;have hsl:sc1.length=sc.length+2:=by rw[<- hsc];simp
 clear x1 x2 x3 x4 x5 x6 hc hh1 hsc ex ef;have last:∀(t1:T) (g1:Hd) (a1 b1:Int),Up i h1 g1->St3 g1 i j cs a1 b1->a<=a1->a1<=a+A r->Cl (x::f::sc.map (·.1)) t1->dep t1<=3 * r+4 ->
  xs1 (P.tbl (n+n0)) Zaa (fe w rest k i m room (Wu (.str x)) (Wu (.str f)) (Wu (.ref (h.length+1))) (Wu (T.call (.name f) (.op .sub (.name x) (.num 1))).d)) h1=.ok (.nx,fe w rest k i m room (Wu (.str x)) (Wu (.str f)) (Wu (.ref (h.length+1))) (Wu t1.d)) g1 ->
  Made cs h i j sc a (2 * A r) (3 * r+6) (Zh (xs2 (P.tbl (n+n0)) (.cons Zaa (.cons Z9 .nil)) (fe w rest k i m room (Wu (.str x)) (Wu (.str f)) (Wu (.ref (h.length+1))) (Wu (T.call (.name f) (.op .sub (.name x) (.num 1))).d)) h1)):=by
  intro t1 g1 a1 b1 u1 s1 l1 l2 c1 p1 x7;rw[Za x7];obtain⟨t2,g2,a2,b2,e2,u2,s2,l3,l4,c2,p2⟩:=ih n cs ns g1 i j m (h.length+1) sc1 a1 b1 (O "n") (room - 1) (by clear ha;omega) (cw.up u1 s1 (by clear hl ha hr;omega)) (by clear ha hr;omega) (by clear hl hr;omega);refine⟨.rcc f x (.iff (.name x) t1 t2),g2,a2,b2,?_,ug.trans (u1.trans u2),s2,Int.le_trans l1 l3,by clear hl hr ha;omega,⟨⟨Oi,c1,Cl.mono sub c2⟩,nfx⟩,by simp only[dep];clear hl hr ha;omega⟩;have e:xs1 (P.tbl (n+n0)) Z9 (fe w rest k i m room (Wu (.str x)) (Wu (.str f)) (Wu (.ref (h.length+1))) (Wu t1.d)) g1=.ok (.rt (T.rcc f x (.iff (.name x) t1 t2)).d,fe w rest k i m room (Wu (.str x)) (Wu (.str f)) (Wu (.ref (h.length+1))) (Wu t1.d)) g2:=by exact Zx (Za9 (Zd rfl (Zd rfl (Zd rfl (Zd (Za9 (Zd rfl (Zd rfl (Zd rfl (Zd (Zr e2 rfl) rfl)))) (by simp)) rfl)))) (by simp))
  rw[Ze e];rfl
 by_cases q0:rest / 60 % 3=0
 . obtain⟨t1,g1,a1,b1,e1,u1,s1,l1,l2,c1,p1⟩:=ih n cs ns h1 i j m (h.length+1) sc1 a b (O "n") room hr cw (by clear ha hr;omega) (by clear hl hr;omega);refine last t1 g1 a1 b1 u1 s1 l1 l2 (Cl.mono sub c1) (by omega) ?_;exact(Zs (Zq (Zgh (x:=rest / 60 % 3) rfl rfl) (decide_eq_true q0))).trans (Za (Zj e1 rfl rfl))
 . by_cases q1:rest / 60 % 3=1
   . have w2:∃wd:Wd,atI [D.str (O "+"),.str (O "*")] (rest / 180 % 2)=Wu (.str wd.s):=by
      have:rest / 180 % 2=0\/rest / 180 % 2=1:=by clear ih ha hl hr q0 q1;omega
      rcases this with z|z<;>rw[z]
      . exact⟨.add,by simp[Wd.s]⟩
      . exact⟨.mul,by simp[Wd.s]⟩
     obtain⟨wd,w2⟩:=w2;obtain⟨t1,g1,a1,b1,e1,u1,s1,l1,l2,c1,p1⟩:=ih n cs ns _ i j m (h.length+1) sc1 a b (O "n") (room - 1) (by clear ha;omega) (cw.app (g:=[.lst [.str (O "+"),.str (O "*")]])) (by clear ha hr;omega) (by clear hl hr;omega);refine last (.op wd t1 (.call (.name f) (.op .sub (.name x) (.num 1)))) g1 a1 b1 (Up.app.trans u1) s1 l1 l2 ⟨Cl.mono sub c1,Oh _ Oi,Oi,by show(0:Int)<=1/\(1:Int)<1000000;decide⟩ (by simp only[dep];clear hl hr ha;omega) ?_;exact(Zw (Zq (Zgh (x:=rest / 60 % 3) rfl rfl) (decide_eq_false q0))).trans (Za ((Zs (Zq (Zgh (x:=rest / 60 % 3) rfl rfl) (decide_eq_true q1))).trans (Za (Zu (i:=9) (Za9 (Zd (ZoO w2 rfl rfl (by simp)) (Zd (Zr e1 rfl) rfl)) (by simp))))))
   . refine last (.call (.name f) (.op .sub (.name x) (.num 1))) h1 a b Up.refl cw.st (Int.le_refl _) (by omega) ⟨Oh _ Oi,Oi,by show(0:Int)<=1/\(1:Int)<1000000;decide⟩ (by simp only[dep];omega) ?_;exact(Zw (Zq (Zgh (x:=rest / 60 % 3) rfl rfl) (decide_eq_false q0))).trans (Za ((Zw (Zq (Zgh (x:=rest / 60 % 3) rfl rfl) (decide_eq_false q1))).trans rfl))
end Gn
end
section
set_option tactic.hygienic false
namespace Gn
open PySem L2 IV
variable {P:Pg}{cs:List Int}{ns:List Str}{h h':Hd}{i j m k:Nat}{sc:Scp}{a b a' b':Int}
theorem Zld(rd:Nat->Option PyData):∀ys:List Str,D.pys rd (ys.map D.str)=Wu (ys.map PyData.str)
 |[]=>rfl
 |y::ys=>by rw[Op,D.pys,Zld rd ys];rfl
theorem ZsB{l:Nat}{ys:List Str}(e:h[l]? = Wu (.lst (ys.map .str))):Zb2 Ww (.ref l) (.ref h.length) (h++[.lst []])=.ok (.bl (!ys.isEmpty)) (h++[.lst []]):=by
 have e1:(h++[DO.lst []])[l]? = Wu (.lst (ys.map .str)):=by rw[Oe (ZM e)];exact e
 have p1:Ziw (h++[.lst []]) (.ref l)=Wu (.list (ys.map .str)):=by show Zhr (h++[.lst []]) 4 l=_;rw[Zhr,e1];simp[Zld]
 have p2:Ziw (h++[DO.lst []]) (.ref h.length)=Wu (.list []):=by show Zhr (h++[.lst []]) 4 h.length=_;rw[Zhr,ZcQ];rfl
 unfold IV.Zb2;rw[p1,p2];simp only;have d0:min (PyData.list (ys.map .str)).depth (PyData.list []).depth<=1100:=by
  have:(PyData.list []).depth<=1:=by decide +kernel
  omega
 rw[if_pos d0];cases ys with
 |nil=>rfl
 |cons y r=>rfl
theorem Zd3{U:Tb}{R:Sxs}{ρ':Ev}{h':Hd}{s:Sx}{A B_:Sxs}{S:Ev}{h:Hd}(e:xs2 U (.cons s A) S h=.ok (.nx,ρ') h')(q:∀ρ1 h1,xs2 U A ρ1 h1=.ok (.nx,ρ') h'->xs2 U B_ ρ1 h1=xs2 U R ρ' h'):xs2 U (.cons s B_) S h=xs2 U R ρ' h':=by
 rw[Zca]at e ⊢;cases r1:xs1 U s S h with
 |bad=>rw[r1]at e;cases e
 |exc c h1=>rw[r1]at e;cases e
 |ok p h1=>
  rw[r1]at e;obtain⟨fl,ρ1⟩:=p;cases fl with
  |nx=>exact q ρ1 h1 e
  |bk=>cases e
  |ct=>cases e
  |rt d=>cases e
theorem Ztp{U:Tb}{s1 s2 s3 s4 s5:Sx}{S ρ':Ev}{h h':Hd}(R:Sxs)(e:xs2 U (.cons s1 (.cons s2 (.cons s3 (.cons s4 (.cons s5 .nil))))) S h=.ok (.nx,ρ') h'):xs2 U (.cons s1 (.cons s2 (.cons s3 (.cons s4 (.cons s5 R))))) S h=xs2 U R ρ' h':=Zd3 e fun _ _ e=>Zd3 e fun _ _ e=>Zd3 e fun _ _ e=>Zd3 e fun _ _ e=>Zd3 e fun _ _ e=>by cases e;rfl
noncomputable def ae(w:Str)(k i m:Nat)(room v q:Int)(l:Nat)(a b:Option D):Ev:=[Wu (.str w),Wu (.ref k),Wu (.ref i),Wu (.ref m),Wu (.int room),Wu (.int v),Wu (.int q),Wu (.ref l),a,b]
theorem any_gen(H:Mkr P)(n1:Nat)(c:Ctx cs ns h i j m k sc a b)(w:Str)(room:Int)(mx:Int)(dm:Nat)(hdm:2<=dm)(hl:sc.length<=50)(ha:a<2 ^ 50)(hmx:1<=mx)
 (rc:1<=room->∃r n0 n',room - 1<=(r:Nat)/\ZlK P r n0/\n1+2=n'+n0+1/\1<=n0/\sc.length+2+2 * r<=50/\1+3 * A r<=mx/\a+mx<2 ^ 50/\3 * r+6<=dm) :
 Made cs h i j sc a mx dm (run P (n1+3) (O "_law_any") [.str w,.ref k,.ref i,.ref m,.int room] h):=by
 have hab:=c.ab;rw[Zfh H.any rfl];obtain⟨v,w',ys,h5,l,e5,u5,c5,hy,hys⟩:=ZoX H n1 c w room hl ha Wv Wv Wv;have st:Zn ZaU.N [.str w,.ref k,.ref i,.ref m,.int room]=[Wu (.str w),Wu (.ref k),Wu (.ref i),Wu (.ref m),Wu (.int room),Wv,Wv,Wv,Wv,Wv]:=rfl;rw[st,show ZaU.body=.cons Zbh (.cons Zbg (.cons ZW (.cons Zbf (.cons Zbe (.cons Zbd (.cons ZaC (.cons ZbW (.cons Zbc (.cons ZaO (.cons Zbr .nil))))))))))from rfl,Ztp _ e5];show Made cs h i j sc a mx dm (Zh (xs2 (P.tbl (n1+2)) (.cons Zbd (.cons ZaC (.cons ZbW (.cons Zbc (.cons ZaO (.cons Zbr .nil)))))) (ae w' k i m room v (v / 87) l Wv Wv) h5));have nn:=ZsB hy;have t1:tst (P.tbl (n1+2)) (.ex (.cmp .NotEq (.var 7) (.lstl .nil))) (ae w' k i m room v (v / 87) l Wv Wv) h5=.ok (!ys.isEmpty) (h5++[.lst []]):=ZdW ((ZE (x:=.ref l) (y:=.ref h5.length) (h1:=h5) (h2:=h5++[DO.lst []]) rfl rfl).trans nn);have t2:∀h,tst (P.tbl (n1+2)) (.ex (.cmp .Eq (.bin .Mod (.var 6) (.cst (.int 3))) (.cst (.int 0)))) (ae w' k i m room v (v / 87) l Wv Wv) h=.ok (Wy (v / 87 % 3=0)) h:=fun h=>Zgh rfl rfl;have t8:∀h,tst (P.tbl (n1+2)) (.ex (.cmp .Eq (.bin .Mod (.var 6) (.cst (.int 8))) (.cst (.int 0)))) (ae w' k i m room v (v / 87 / 30) l Wv Wv) h=.ok (Wy (v / 87 / 30 % 8=0)) h:=fun h=>Zgh rfl rfl;by_cases hn:ys.isEmpty=Wx/\v / 87 % 3=0
 ·
  have hp:0<ys.length:=by
   cases ys with
   |nil=>simp at hn
   |cons y r=>simp
  have ix:opB .Mod (.int (v / 87 / 3)) (.int ys.length) (h5++[.lst []])=.ok (.int (v / 87 / 3 % ys.length)) (h5++[.lst []]):=ZR (by omega);have hb:(0:Int)<=v / 87 / 3 % ys.length/\v / 87 / 3 % ys.length<ys.length:=⟨Int.emod_nonneg _ (by omega),Int.emod_lt_of_pos _ (by omega)⟩
  obtain⟨q,hq⟩:∃q:Nat,v / 87 / 3 % ys.length=q:=⟨(v / 87 / 3 % ys.length).toNat,by omega⟩
  have hql:q<ys.length:=by omega
  have hl5:(h5++[DO.lst []])[l]? = Wu (.lst (ys.map .str)):=by rw[Oe (ZM hy)];exact hy
  have len:Zbl P.GD .len [.ref l] (h5++[.lst []])=.ok (.int ys.length) (h5++[.lst []]):=by simp only[Zbl,Zh8,seqOf,lstOf,hl5];simp
  have at5:ZaS P.GD (.ref l) (.int (q:Int)) (h5++[.lst []])=.ok (.str ys[q]) (h5++[.lst []]):=by rw[ZD hl5,IV.ZbX,On,Og hql];rfl
  refine⟨.name ys[q],h5++[.lst []],a+1,b - 1,?_,u5.trans Up.app,c5.st.app,by omega,by omega,hys _ (List.getElem_mem hql),Yy _⟩;have x6:xs1 (P.tbl (n1+2)) Zbd (ae w' k i m room v (v / 87) l Wv Wv) h5=.ok (.rt (T.name ys[q]).d,(ae w' k i m room v (v / 87) l Wv Wv)) (h5++[.lst []]):=by have el:ev (P.tbl (n1+2)) (.blt .len (.cons (.var 7) .nil)) (ae w' k i m room v (v / 87) l Wv Wv) (h5++[.lst []])=.ok (.int ys.length) (h5++[.lst []]):=len;have ei:ev (P.tbl (n1+2)) (.bin .Mod (.bin .FloorDiv (.var 6) (.cst (.int 3))) (.blt .len (.cons (.var 7) .nil))) (ae w' k i m room v (v / 87) l Wv Wv) (h5++[.lst []])=.ok (.int (q:Int)) (h5++[.lst []]):=(Zao (x:=.int (v / 87 / 3)) rfl el).trans (ix.trans (by rw[hq]));rw[hn.1]at t1;exact(Zs (Zrt t1 (Zq (t2 _) (decide_eq_true hn.2)))).trans (Ze (Zx (Za9 (Zd rfl (Zd ((ZaV (x:=.ref l) rfl ei).trans at5) rfl)) (by simp))))
  rw[Ze x6];rfl
 . have x6:xs1 (P.tbl (n1+2)) Zbd (ae w' k i m room v (v / 87) l Wv Wv) h5
    = .ok (.nx,(ae w' k i m room v (v / 87) l Wv Wv)) (h5++[.lst []]):=by
    cases q:ys.isEmpty with
    |true=>rw[q]at t1;exact(Zw (Zvb t1)).trans rfl
    |false=>rw[q]at t1;have h3:¬ v / 87 % 3=0:=fun z=>hn ⟨q,z⟩;exact(Zw (Zrt t1 (Zq (t2 _) (decide_eq_false h3)))).trans rfl
   have c6:=c5.app (g:=[.lst []]);have u6:=u5.trans (Up.app (i:=i) (g:=[.lst []]));clear t1 nn;generalize hh6:h5++[.lst []]=h6 at x6 c6 u6;rw[Za x6];have ix2:ZaS P.GD (.ref i) (.int 2) h6=.ok (.int (b - 1)) h6:=by rw[ZD c6.st.1];simp
   have r1:tst (P.tbl (n1+2)) (.ex (.cmp .Lt (.var 4) (.cst (.int 1)))) (ae w' k i m room v (v / 87) l Wv Wv) h6=.ok (Wy (room<1)) h6:=rfl;have r2:tst (P.tbl (n1+2)) (.ex (.cmp .Lt (.ix (.var 2) (.cst (.int 2))) (.cst (.int 0)))) (ae w' k i m room v (v / 87) l Wv Wv) h6=.ok (Wy (b - 1<0)) h6:=ZdW ((ZE (y:=.int 0) (h2:=h6) ((ZaV (x:=.ref i) (y:=.int 2) rfl rfl).trans ix2) rfl).trans rfl);obtain⟨t,g,ep,ct,pt⟩:=Zhs H (n1+1) w' (v / 87 / 3) h6 (sc.map (·.1));by_cases hr:room<1
   . refine⟨t,h6++g,a+1,b - 1,?_,u6.trans Up.app,c6.st.app,by omega,by omega,ct,by omega⟩;have x7:xs1 (P.tbl (n1+2)) ZaC (ae w' k i m room v (v / 87) l Wv Wv) h6=.ok (.rt t.d,(ae w' k i m room v (v / 87) l Wv Wv)) (h6++g):=(Zs (Zso (Zq r1 (decide_eq_true hr)))).trans (Ze (Zj ep rfl rfl));rw[Ze x7];rfl
   . by_cases hb:b - 1<0
     . refine⟨t,h6++g,a+1,b - 1,?_,u6.trans Up.app,c6.st.app,by omega,by omega,ct,by omega⟩;have x7:xs1 (P.tbl (n1+2)) ZaC (ae w' k i m room v (v / 87) l Wv Wv) h6=.ok (.rt t.d,(ae w' k i m room v (v / 87) l Wv Wv)) (h6++g):=(Zs (Zmc (Zq r1 (decide_eq_false hr)) (Zq r2 (decide_eq_true hb)))).trans (Ze (Zj ep rfl rfl));rw[Ze x7];rfl
     . obtain⟨r,n0,n',q1,ih,q2,q3,q4,q5,q6,q7⟩:=rc (by omega);have Ap:=Zju r;have x7:xs1 (P.tbl (n1+2)) ZaC (ae w' k i m room v (v / 87) l Wv Wv) h6
        = .ok (.nx,(ae w' k i m room v (v / 87) l Wv Wv)) h6:=by
        exact(Zw (Zmc (Zq r1 (decide_eq_false hr)) (Zq r2 (decide_eq_false hb)))).trans rfl
       have x8:xs1 (P.tbl (n1+2)) ZbW (ae w' k i m room v (v / 87) l Wv Wv) h6
        = .ok (.nx,(ae w' k i m room v (v / 87 / 30) l Wv Wv)) h6:=by
        exact rfl
       rw[Za x7,Za x8];by_cases h8:v / 87 / 30 % 8=0
       . obtain⟨t1,g1,a1,b1,e1,u1,s1,l1,l2,c1,p1⟩:=ih (n'+1) cs ns h6 i j m k sc (a+1) (b - 1) (O "n") (room - 1) q1 c6 (by omega) (by omega);have cc1:=c6.up u1 s1 (by omega);obtain⟨t2,g2,a2,b2,e2,u2,s2,l3,l4,c2,p2⟩:=ih (n'+1) cs ns g1 i j m k sc a1 b1 w' (room - 1) q1 cc1 (by omega) (by omega);have cc2:=cc1.up u2 s2 (by omega);obtain⟨t3,g3,a3,b3,e3,u3,s3,l5,l6,c3,p3⟩:=ih (n'+1) cs ns g2 i j m k sc a2 b2 w' (room - 1) q1 cc2 (by omega) (by omega);rw[show n'+1+n0=n1+2 by omega]at e1 e2 e3;refine⟨.iff t1 t2 t3,g3,a3,b3,?_,u6.trans (u1.trans (u2.trans u3)),s3,by omega,by omega,⟨c1,c2,c3⟩,by simp only[dep];omega⟩;have x9:xs1 (P.tbl (n1+2)) Zbc (ae w' k i m room v (v / 87 / 30) l Wv Wv) h6=.ok (.rt (T.iff t1 t2 t3).d,(ae w' k i m room v (v / 87 / 30) l (Wu t1.d) (Wu t2.d))) g3:=by refine(Zs (Zq (t8 _) (decide_eq_true h8))).trans ?_;refine(Za (ρ1:=ae w' k i m room v (v / 87 / 30) l (Wu t1.d) Wv) (h1:=g1) (Zj e1 rfl rfl)).trans ?_;refine(Za (ρ1:=ae w' k i m room v (v / 87 / 30) l (Wu t1.d) (Wu t2.d)) (h1:=g2) (Zj e2 rfl rfl)).trans ?_;exact Ze (Zj e3 rfl rfl)
         rw[Ze x9];rfl
       . have x9:xs1 (P.tbl (n1+2)) Zbc (ae w' k i m room v (v / 87 / 30) l Wv Wv) h6=.ok (.nx,(ae w' k i m room v (v / 87 / 30) l Wv Wv)) h6:=(Zw (Zq (t8 _) (decide_eq_false h8))).trans rfl;rw[Za x9];by_cases hw:w'=O "n"
         . obtain⟨t1,g1,a1,b1,e1,u1,s1,l1,l2,c1,p1⟩:=Zsz H ih q3 n' c6 (v / 87 / 30 / 8) (room - 1) q1 (by omega) (by omega);rw[<- q2]at e1;refine⟨t1,g1,a1,b1,?_,u6.trans u1,s1,by omega,by omega,c1,by omega⟩;have x10:xs1 (P.tbl (n1+2)) ZaO (ae w' k i m room v (v / 87 / 30) l Wv Wv) h6=.ok (.rt t1.d,(ae w' k i m room v (v / 87 / 30) l Wv Wv)) g1:=(Zs (Zq (Zer rfl rfl) (decide_eq_true hw))).trans (Ze (Zj e1 rfl rfl));rw[Ze x10];rfl
         . obtain⟨t1,g1,a1,b1,e1,u1,s1,l1,l2,c1,p1⟩:=ZsZ H ih n' c6 w' (v / 87 / 30 / 8) (room - 1) q1 (by omega) (by omega);rw[<- q2]at e1;refine⟨t1,g1,a1,b1,?_,u6.trans u1,s1,by omega,by omega,c1,by omega⟩;have x10:xs1 (P.tbl (n1+2)) ZaO (ae w' k i m room v (v / 87 / 30) l Wv Wv) h6=.ok (.nx,(ae w' k i m room v (v / 87 / 30) l Wv Wv)) h6:=(Zw (Zq (Zer rfl rfl) (decide_eq_false hw))).trans rfl;have x11:xs1 (P.tbl (n1+2)) Zbr (ae w' k i m room v (v / 87 / 30) l Wv Wv) h6=.ok (.rt t1.d,(ae w' k i m room v (v / 87 / 30) l Wv Wv)) g1:=Zj e1 rfl rfl;rw[Za x10,Ze x11];rfl
theorem ZoW(H:Mkr P):∀r:Nat,ZlK P r (2 * r+3)
 |0=>fun n cs ns h i j m k sc a b w room hr c hl ha=>by have:=any_gen H n c w room (A 0) 3 (by decide) (by omega) (by have:=Zju 0;omega) (by decide) (fun z=>by omega);exact this
 |r+1=>fun n cs ns h i j m k sc a b w room hr c hl ha=>by have Ap:=Zju r;have As:=Ztj r;have:=any_gen H (n+2 * r+2) c w room (A (r+1)) (3 * (r+1)+3) (by omega) (by omega) (by omega) (by omega) (fun _=>⟨r,2 * r+3,n,by omega,ZoW H r,by omega,by omega,by omega,by omega,by omega,by omega⟩);rw[show n+(2 * (r+1)+3)=n+2 * r+2+3 by omega];exact this
end Gn
end
section
namespace Gn
open PySem L2 IV
noncomputable def front:T->List D
 |.num n=>[.str (O "num"),.int n]
 |.name x=>[.str (O "name"),.str x]
 |.fn x _=>[.str (O "fn"),.str x]
 |.rcc f x _=>[.str (O "rec"),.str f,.str x]
 |.call _ _=>[.str (O "call")]
 |.iff _ _ _=>[.str (O "if")]
 |.op w _ _=>[.str w.s]
theorem ZoG(t:T):t.d=.tup (front t++t.parts.map T.d):=by cases t<;>rfl
noncomputable def ZhK:D->Bool
 |.str _|.int _=>Ww
 |_=>Wx
theorem Zkr(t:T):∀d∈front t,ZhK d=Ww:=by cases t<;>simp[front,ZhK]
theorem Zok{GD:Str->Option (List (Key×D))}{d:D}{h:Hd}(hf:ZhK d=Ww):Zbl GD .isi [d,.ty "tuple"] h=.ok (.bl Wx) h:=by
 cases d with
 |str x=>rfl
 |int x=>rfl
 |_=>cases hf
theorem Zqs{GD:Str->Option (List (Key×D))}{xs:List D}{h:Hd}:Zbl GD .isi [.tup xs,.ty "tuple"] h=.ok (.bl Ww) h:=rfl
noncomputable abbrev isT:Tx:=.ex (.blt .isi (.cons (.var 0) (.cons (.cst (.ty "tuple")) .nil)))
theorem Zgm{U:Tb}{e:Ex}{h:Hd}{acc rest:List D}:∀ds:List D,(∀d∈ds,ZhK d=Ww)->acc.length<sizeLine->ZN Wv (.nm 0) (tsto U (Wu isT)) (ev U e) (ds++rest) [Wv] acc h=ZN Wv (.nm 0) (tsto U (Wu isT)) (ev U e) rest [Wv] acc h
 |[],_,_=>rfl
 |d::ds,hd,hz=>by have:=Zok (GD:=U.GD) (h:=h) (hd d (by simp));rw[List.cons_append,ZX];simp[Wk.stays,hz,this];exact Zgm ds (fun x hx=>hd x (by simp[hx])) hz
theorem Zgk{U:Tb}{e:Ex}{f:T->Int}:∀(ts:List T) (acc:List D) (h:Hd),(∀t∈ts,∀h,∃g,ev U e [Wu t.d] h=.ok (.int (f t)) (h++g))->acc.length+ts.length<=1000->∃g,ZN Wv (.nm 0) (tsto U (Wu isT)) (ev U e) (ts.map T.d) [Wv] acc h=.ok (acc++ts.map fun t=>.int (f t)) (h++g)
 |[],acc,h,_,_=>⟨[],by simp[ZN,Wk.stays]⟩
 |t::ts,acc,h,ht,hz=>by
  simp only[Os]at hz;obtain⟨g1,e1⟩:=ht t (by simp) h;obtain⟨g2,e2⟩:=Zgk (U:=U) (e:=e) (f:=f) ts (acc++[.int (f t)]) (h++g1) (fun x hx=>ht x (by simp[hx])) (by simp;omega);refine⟨g1++g2,?_⟩;have hz2:acc.length<sizeLine:=by rw[YC];omega
  have it:Zbl U.GD .isi [t.d,.ty "tuple"] h=.ok (.bl Ww) h:=by rw[ZoG];exact Zqs
  rw[Op,ZX];simp[Wk.stays,hz2,it,e1,e2]
theorem Zet{U:Tb}{e:Ex}{f:T->Int}(t:T)(h:Hd)(ht:∀s∈t.parts,∀h,∃g,ev U e [Wu s.d] h=.ok (.int (f s)) (h++g)):∃g,ZN Wv (.nm 0) (tsto U (Wu isT)) (ev U e) (front t++t.parts.map T.d) [Wv] [] h=.ok (t.parts.map fun s=>.int (f s)) (h++g):=by obtain⟨g,e1⟩:=Zgk (f:=f) t.parts [] h ht (by cases t<;>simp[T.parts]);refine⟨g,?_⟩;rw[Zgm _ (Zkr t) (by rw[YC];simp),e1];simp
theorem ints_map(f:T->Int):∀ts:List T,intsOf (ts.map fun s=>D.int (f s))=Wu (ts.map f)
 |[]=>rfl
 |t::ts=>by rw[Op,intsOf,ints_map f ts];rfl
variable {P:Pg}
theorem Zk5(t:T):(t.size:Int)=1+(t.parts.map fun s=>(s.size:Int)).sum:=by
 unfold T.size;rw[T.places_parts];have:∀ts:List T,((ts.flatMap T.places).length:Int)=(ts.map fun s=>(s.places.length:Int)).sum:=by
  intro ts;induction ts with
  |nil=>rfl
  |cons t ts ih=>rw[List.flatMap_cons,OA,Op,OI,<- ih];omega
 rw[Os,<- this];omega
theorem Zes{t s:T}(hs:s∈t.parts):dep s<dep t:=by
 cases t<;>simp[T.parts]at hs<;>simp only[dep]
 . subst hs;omega
 . subst hs;omega
 . rcases hs with rfl|rfl<;>omega
 . rcases hs with rfl|rfl|rfl<;>omega
 . rcases hs with rfl|rfl<;>omega
theorem Zpr (H:Mkr P):∀ (d n:Nat) (t:T) (h:Hd),dep t<=d->∃ g,run P (n+d+1) (O "_law_width") [t.d] h=.ok (.int t.size) (h++g):=by
 intro d;induction d with
 | zero =>
   intro n t h hd;rw [Zc H.width rfl];obtain ⟨g,e⟩:=Zet (U:=⟨P.G,P.GD,run P (n+0),P.L⟩) (e:=.call (O "_law_width") (.cons (.var 0) .nil)) (f:=fun s=>(s.size:Int)) t h (fun s hs=>by have:=Zes hs;omega);refine ⟨g++[.lst (t.parts.map fun s=>.int s.size)],?_⟩;rw [Zk5,ZoG];have sm:Zbl P.GD .sum [.ref (h++g).length] (h++g++[.lst (t.parts.map fun s=>D.int s.size)])=.ok (.int (t.parts.map fun s=>(s.size:Int)).sum) (h++g++[.lst (t.parts.map fun s=>D.int s.size)]):=by
     simp only [Zbl,ZoT,lstOf,ZcQ,Yz,ints_map];rfl
   simp at sm e;simp [Z3,Zdf,Zn,Zar,Zbq,e,sm]
 | succ d ih =>
   intro n t h hd;rw [Zc H.width rfl];obtain ⟨g,e⟩:=Zet (U:=⟨P.G,P.GD,run P (n+(d+1)),P.L⟩) (e:=.call (O "_law_width") (.cons (.var 0) .nil)) (f:=fun s=>(s.size:Int)) t h (fun s hs h1=>by
     have:=Zes hs;obtain ⟨g,e⟩:=ih n s h1 (by omega);refine ⟨g,?_⟩;have e':run P (n+(d+1)) (O "_law_width") [s.d] h1=.ok (.int s.size) (h1++g):=e;simp [e'])
   refine ⟨g++[.lst (t.parts.map fun s=>.int s.size)],?_⟩;rw [Zk5,ZoG];have sm:Zbl P.GD .sum [.ref (h++g).length] (h++g++[.lst (t.parts.map fun s=>D.int s.size)])=.ok (.int (t.parts.map fun s=>(s.size:Int)).sum) (h++g++[.lst (t.parts.map fun s=>D.int s.size)]):=by
     simp only [Zbl,ZoT,lstOf,ZcQ,Yz,ints_map];rfl
   simp at sm e;simp [Z3,Zdf,Zn,Zar,Zbq,e,sm]
end Gn
end
section
namespace Gn
open PySem L2 IV
variable {P:Pg}
theorem max2(x y:Nat):(if (1+(y:Int)) > 1+x then 1+(y:Int)else 1+x)=((max x y+1:Nat):Int):=by split<;>omega
theorem Zs9(t:T):Zc0 (t.parts.map fun s=>1+(dep s:Int)) 0=dep t:=by
 cases t with
 |num n=>rfl
 |name x=>rfl
 |fn x e=>simp[T.parts,Zc0,dep];omega
 |rcc f x e=>simp[T.parts,Zc0,dep];omega
 |call f a=>simp only[T.parts,Zc0,dep,Op,Oy,Wq,List.foldl_nil];rw[max2]
 |op w f a=>simp only[T.parts,Zc0,dep,Op,Oy,Wq,List.foldl_nil];rw[max2]
 |iff c t e=>simp only[T.parts,Zc0,dep,Op,Oy,Wq,List.foldl_nil];rw[max2];split<;>omega
theorem ZrZ (H:Mkr P):∀ (d n:Nat) (t:T) (h:Hd),dep t<=d->∃ g,run P (n+d+1) (O "_law_deep") [t.d] h=.ok (.int (dep t)) (h++g):=by
 have fin:∀ (t:T) (h g:Hd),ZlI (.ref (h++g).length) (.int 0) (h++g++[.lst (t.parts.map fun s=>D.int (1+(dep s:Int)))])=.ok (.int (dep t)) (h++g++[.lst (t.parts.map fun s=>D.int (1+(dep s:Int)))]):=by
   intro t h g;have q:intsOf (t.parts.map fun s=>D.int (1+(dep s:Int)))=Wu (t.parts.map fun s=>1+(dep s:Int)):=ints_map (fun s=>1+(dep s:Int)) t.parts;simp only [ZlI,lstOf,ZcQ,Yz,q,Yv,Zs9,ofO_some]
 intro d;induction d with
 | zero =>
   intro n t h hd;rw [Zc H.deep rfl];obtain ⟨g,e⟩:=Zet (U:=⟨P.G,P.GD,run P (n+0),P.L⟩) (e:=.bin .Add (.cst (.int 1)) (.call (O "_law_deep") (.cons (.var 0) .nil))) (f:=fun s=>1+(dep s:Int)) t h (fun s hs=>by have:=Zes hs;omega);refine ⟨g++[.lst (t.parts.map fun s=>.int (1+(dep s:Int)))],?_⟩;have sm:=fin t h g;rw [ZoG];simp at sm e;simp [Zau,Zd0,Zn,Zar,Zbq,e,sm]
 | succ d ih =>
   intro n t h hd;rw [Zc H.deep rfl];obtain ⟨g,e⟩:=Zet (U:=⟨P.G,P.GD,run P (n+(d+1)),P.L⟩) (e:=.bin .Add (.cst (.int 1)) (.call (O "_law_deep") (.cons (.var 0) .nil))) (f:=fun s=>1+(dep s:Int)) t h (fun s hs h1=>by
     have:=Zes hs;obtain ⟨g,e⟩:=ih n s h1 (by omega);refine ⟨g,?_⟩;have e':run P (n+(d+1)) (O "_law_deep") [s.d] h1=.ok (.int (dep s)) (h1++g):=e;simp [e'])
   refine ⟨g++[.lst (t.parts.map fun s=>.int (1+(dep s:Int)))],?_⟩;have sm:=fin t h g;rw [ZoG];simp at sm e;simp [Zau,Zd0,Zn,Zar,Zbq,e,sm]
theorem Zgl(H:Mkr P){n:Nat}{h:Hd}{k:Nat}{xs0:List D}(hk:h[k]? = Wu (.lst xs0)):∀(xs:List Int) (j:Nat) (acc:List Int),acc.length+xs.length<=1000->j+xs.length<=1000->∃cs:List Int,cs.length=acc.length+xs.length /\
 ZN (Wu (k,xs0)) (.two 0 1) (tsto ⟨P.G,P.GD,run P (n+1),P.L⟩ Wv) (ev ⟨P.G,P.GD,run P (n+1),P.L⟩ (.call (O "_law_mixed") (.cons (.var 1) (.cons (.bin .Add (.var 0) (.cst (.int 2))) .nil)))) (xs.mapIdx fun q x=>D.tup [.int ((q+j:Nat):Int),.int x]) [Wv,Wv] (acc.map .int) h
  = .ok (cs.map .int) h
 |[],j,acc,_,_=>⟨acc,by simp,by simp[ZN,Wk.stays,hk]⟩
 |x::xs,j,acc,h1,h2=>by
  simp only[Os]at h1 h2;obtain⟨cs,q1,q2⟩:=Zgl H hk xs (j+1) (acc++[mixed x ((j:Int)+2)]) (by simp;omega) (by omega);refine⟨cs,by simp at q1;simp;omega,?_⟩;have e1:=Zht H n x ((j:Int)+2) h ⟨by omega,by omega⟩;have hz:acc.length<sizeLine:=by rw[YC];omega
  have ei:(fun(q:Nat) (x:Int)=>D.tup [.int ((q+1+j:Nat):Int),.int x])=fun q x=>D.tup [.int ((q+(j+1):Nat):Int),.int x]:=by funext q x;rw[show q+1+j=q+(j+1) by omega]
  rw[List.mapIdx_cons,ZX];simp only[Wk.stays,hk,decide_true,true_and,Yu,hz,if_true,Zjm,List.set_cons_zero,List.set_cons_succ,ZlP,Zl8,Zk,bind_ok,ZhR,Za8,Zeq,ZhP,O0,OJ,Option.join_some,ofO_some,ZoB,Zkx,Zqa,Nat.zero_add,e1];rw[ei];have:=q2;rw[List.map_append]at this;exact this
end Gn
end
section
namespace IV
open PySem L2
section
variable {U:Tb}{S:Ev}{h h1 h2 h3:Hd}
theorem Zi6{m:Mf}{o:Ex}{es:Exs}{i:Nat}{ys xs:List D}{r:R D}(p:ev U o S h=.ok (.ref i) h1)(l:h1[i]? = Wu (.lst ys))(q:evs U es S h1=.ok xs h2)(e:ZaT m (.ref i) xs h2=r):ev U (.meth m o es) S h=r:=by rw[ZqE,p,Zk,ZeK l,if_pos rfl,q];exact e
theorem Zgj{e:Ex}{d:D}(q:ev U e S h=.ok d h1):xs1 U (.drp e) S h=.ok (.nx,S) h1:=by rw[ZkT,q];rfl
theorem Zba{C m:Str}{o:Ex}{es:Exs}{i:Nat}{fs:List (Str×D)}{xs:List D}{r:R D}(p:ev U o S h=.ok (.ref i) h1)(l:h1[i]? = Wu (.ins C fs))(f:fs.lookup m=Wv)(q:evs U es S h1=.ok xs h2)(e:U.C (mnm C m) (.ref i::xs) h2=r):ev U (.mcl C m o es) S h=r:=by rw[Zoz,p,Zk,show ZZ (.ref i) h1=Wu (C,fs) by simp[ZZ,l]];simp only[f,and_self,if_true,q];exact e
theorem Zrg{NC:List Str}{js:List (Option Nat)}{it:Ix}{g:Tg}{c:Option Tx}{e:Ex}{w:Wk}{xs:List D}(p:evi U it S h=.ok w h1)(q:ZN w.src g (tsto U c) (ev U e) w.xs (Zbq js S) [] h1=.ok xs h2):ev U (.comp NC js it g c e) S h=.ok (.ref h2.length) (h2++[.lst xs]):=by rw[Zfo,p,Zk,q];rfl
theorem Zs1{e:Ex}{xs:List D}(p:ev U e S h=.ok (.tup xs) h1):evi U (.rev e) S h=.ok ⟨Wv,xs.reverse⟩ h1:=by rw[ZqB,p];rfl
theorem ZhO{e:Ex}{xs:List D}(p:ev U e S h=.ok (.tup xs) h1):evi U (.pl e) S h=.ok ⟨Wv,xs⟩ h1:=by rw[Zs2,p];rfl
theorem Zkw{es:Exs}{xs:List D}(p:evs U es S h=.ok xs h1)(hz:xs.length<=1000):ev U (.lstl es) S h=.ok (.ref h1.length) (h1++[.lst xs]):=by rw[ZlB,p,Zk,if_pos (OE hz (by decide))];rfl
theorem Zs4{f:Bf}{es:Exs}{xs:List D}{r:R D}(p:evs U es S h=.ok xs h1)(q:Zbl U.GD f xs h1=r):ev U (.blt f es) S h=r:=by rw[Zs3,p];exact q
theorem Zn0{GD:Str->Option (List (Key×D))}{i:Nat}{ys:List D}(e:h[i]? = Wu (.lst ys)):Zbl GD .len [.ref i] h=.ok (.int ys.length) h:=by simp only[Zbl,Zh8,seqOf,lstOf,e];rfl
theorem Zq1{e:Ex}{i:Nat}{ys:List D}(p:ev U e S h=.ok (.ref i) h1)(l:h1[i]? = Wu (.lst ys)):tst U (.ex e) S h=.ok (!ys.isEmpty) h1:=by rw[Zhi,p,Zk,Zpb l];rfl
theorem Zfg{test:Ev->Hd->R Bool}{body:Ev->Hd->R (Fl×Ev)}{n:Nat}{ρ1:Ev}(e:test S h=.ok Ww h1)(q:body S h1=.ok (.nx,ρ1) h2):ZO test body (n+1) S h=ZO test body n ρ1 h2:=by rw[Zay,e,Zk,if_pos rfl,q];rfl
theorem Zhg{test:Ev->Hd->R Bool}{body:Ev->Hd->R (Fl×Ev)}{n:Nat}(e:test S h=.ok Wx h1):ZO test body (n+1) S h=.ok (.nx,S) h1:=by rw[Zay,e];rfl
theorem ZsX{a b:Ex}{x y:Int}(p:ev U a S h=.ok (.int x) h1)(q:ev U b S h1=.ok (.int y) h2):tst U (.ex (.cmp .Gt a b)) S h=.ok (Wy (y<x)) h2:=ZdW (ZE p q)
theorem ZuC{a b:Ex}{x y:Int}(p:ev U a S h=.ok (.int x) h1)(q:ev U b S h1=.ok (.int y) h2):tst U (.ex (.cmp .Lt a b)) S h=.ok (Wy (x<y)) h2:=ZdW (ZE p q)
theorem ZdV{g:Tg}{body:Ev->Hd->R (Fl×Ev)}{d:D}{ds:List D}{ρ1 ρ2:Ev}(b:ZbG g d S=Wu ρ1)(q:body ρ1 h=.ok (.nx,ρ2) h2):ZL Wv g body (d::ds) S h=ZL Wv g body ds ρ2 h2:=by rw[Z8,b];simp only;rw[q];rfl
theorem Zic{test:Ev->Hd->R Bool}{body:Ev->Hd->R (Fl×Ev)}{n:Nat}{ρ1:Ev}{d:D}(e:test S h=.ok Ww h1)(q:body S h1=.ok (.rt d,ρ1) h2):ZO test body (n+1) S h=.ok (.rt d,ρ1) h2:=by rw[Zay,e,Zk,if_pos rfl,q];rfl
theorem Zoj{e:Ex}{x:D}(p:ev U e S h=.ok x h1):tst U (.ex (.cmp .IsNot e (.cst .non))) S h=.ok (!Wy (x=.non)) h1:=ZdW ((ZE p rfl).trans ZnM)
theorem Zot{g:Tg}{body:Ev->Hd->R (Fl×Ev)}{d x:D}{ds:List D}{ρ1 ρ2:Ev}(b:ZbG g d S=Wu ρ1)(q:body ρ1 h=.ok (.rt x,ρ2) h2):ZL Wv g body (d::ds) S h=.ok (.rt x,ρ2) h2:=by rw[Z8,b];simp only;rw[q];rfl
variable {c:Str}
theorem ZcR{s:Sx}{r:Sxs}(q:xs1 U s S h=.exc c h1):xs2 U (.cons s r) S h=.exc c h1:=by rw[xs2,q];rfl
theorem Zri{e:Ex}(q:ev U e S h=.exc c h1):xs1 U (.drp e) S h=.exc c h1:=by rw[ZkT,q];rfl
theorem Zm4{i:Nat}{e:Ex}(q:ev U e S h=.exc c h1):xs1 U (.set (.nm i) e) S h=.exc c h1:=by rw[Zd4,q];rfl
theorem ZtW{e:Ex}{d:D}(q:ev U e S h=.ok d h1):xs1 U (.rai c e) S h=.exc c h1:=by rw[xs1,q];rfl
theorem Zo3{test:Ev->Hd->R Bool}{body:Ev->Hd->R (Fl×Ev)}{n:Nat}(e:test S h=.ok Ww h1)(q:body S h1=.exc c h2):ZO test body (n+1) S h=.exc c h2:=by rw[Zay,e,Zk,if_pos rfl,q];rfl
theorem ZuQ{g:Tg}{body:Ev->Hd->R (Fl×Ev)}{d:D}{ds:List D}{ρ1:Ev}(b:ZbG g d S=Wu ρ1)(q:body ρ1 h=.exc c h2):ZL Wv g body (d::ds) S h=.exc c h2:=by rw[Z8,b];simp only;rw[q];rfl
theorem Zi5{a:Ex}{es:Exs}(p:ev U a S h=.exc c h1):evs U (.cons a es) S h=.exc c h1:=by rw[Za8,p];rfl
theorem Zgg{a:Ex}{es:Exs}{x:D}(p:ev U a S h=.ok x h1)(q:evs U es S h1=.exc c h2):evs U (.cons a es) S h=.exc c h2:=by rw[Za8,p,Zk,q];rfl
theorem ZlA{es:Exs}(p:evs U es S h=.exc c h1):ev U (.tupl es) S h=.exc c h1:=by rw[Zfn,p];rfl
theorem ZuW{C m:Str}{o:Ex}{es:Exs}{i:Nat}{fs:List (Str×D)}(p:ev U o S h=.ok (.ref i) h1)(l:h1[i]? = Wu (.ins C fs))(f:fs.lookup m=Wv)(q:evs U es S h1=.exc c h2):ev U (.mcl C m o es) S h=.exc c h2:=by rw[Zoz,p,Zk,show ZZ (.ref i) h1=Wu (C,fs) by simp[ZZ,l]];simp only[f,and_self,if_true,q];rfl
theorem ZrD{f:Str}{es:Exs}{i:Nat}{xs:List D}{d:D}(p:evs U es S h=.ok xs h1)(q:U.C f xs h1=.ok d h2):xs1 U (.trs i f es c) S h=.ok (.nx,S.set i (Wu d)) h2:=by rw[xs1,p];show Zgn c i S (U.C f xs h1)=_;rw[q];rfl
theorem ZtB{f:Str}{es:Exs}{i:Nat}{xs:List D}(p:evs U es S h=.ok xs h1)(q:U.C f xs h1=.exc c h2):xs1 U (.trs i f es c) S h=.ok (.nx,S.set i (Wu .non)) h2:=by rw[xs1,p];show Zgn c i S (U.C f xs h1)=_;rw[q];simp[Zgn]
end
end IV
end
section
set_option tactic.hygienic false
namespace Gn
open PySem L2 IV
variable {P:Pg}{cs:List Int}{ns:List Str}{h h':Hd}{i j m:Nat}{a b:Int}
theorem ZoY(H:Mkr P)(r N:Nat)(hN:2 * r+3<=N){k:Nat}{sc:Scp}(c:Ctx cs ns h i j m k sc a b)(w:Str)(room:Int)(hr:room<=r)(hl:sc.length+2 * r<=50)(ha:a+A r<2 ^ 50):
 Made cs h i j sc a (A r) (3 * r+3) (run P N (O "_law_any") [.str w,.ref k,.ref i,.ref m,.int room] h):=by
 have:=ZoW H r (N - (2 * r+3)) cs ns h i j m k sc a b w room hr c hl ha;rw[show N - (2 * r+3)+(2 * r+3)=N by omega]at this;exact this
theorem Zib(H:Mkr P)(N:Nat)(t:T)(h:Hd)(hd:dep t<N):∃g,run P N (O "_law_width") [t.d] h=.ok (.int t.size) (h++g):=by obtain⟨g,e⟩:=Zpr H (dep t) (N - dep t - 1) t h (Oq _);rw[show N - dep t - 1+dep t+1=N by omega]at e;exact⟨g,e⟩
theorem ZqI(H:Mkr P)(N:Nat)(t:T)(h:Hd)(hd:dep t<N):∃g,run P N (O "_law_deep") [t.d] h=.ok (.int (dep t)) (h++g):=by obtain⟨g,e⟩:=ZrZ H (dep t) (N - dep t - 1) t h (Oq _);rw[show N - dep t - 1+dep t+1=N by omega]at e;exact⟨g,e⟩
theorem Ctx.bare{k:Nat}{sc:Scp}(c:Ctx cs ns h i j m k sc a b):Ctx cs ns (h++[.lst []]) i j m h.length [] a b:=by have c1:=c.app (g:=[.lst []]);refine⟨c1.st,c1.nm,c1.n5,c1.nok,c1.nd,by unfold ZmK;simp,by simp,c1.im,?_,c1.ab⟩;have:=ZM c.st.1;omega
noncomputable def vp(ro:D)(st:Int)(o2 o3 o4 o5 o6:Option D):Ev:=[Wu ro,Wu (.int st),o2,o3,o4,o5,o6]
noncomputable def Zql:Sxs:=(.cons (.iff (.ex (.cmp .Lt (.call (O "_law_width") (.cons (.var 5) .nil)) (.cst (.int 50)))) (.cons (.put (.var 3) (.cst (.int 2)) (.cst (.int 12))) (.cons (.set (.nm 5) (.tupl (.cons (.cst (.str (O "+"))) (.cons (.var 5) (.cons (.call (O "_law_any") (.cons (.cst (.str (O "n"))) (.cons (.lstl .nil) (.cons (.var 3) (.cons (.var 4) (.cons (.cst (.int 6)) .nil)))))) .nil))))) .nil)) .nil) .nil)
inductive Turned(cs:List Int)(ns:List Str)(h:Hd)(i j m k:Nat)(sc:Scp)(a:Int)(dm:Nat)(S:Option D->Ev)(r:R (Fl×Ev)):Prop
 |mk (t:T) (h':Hd) (a' b':Int) (e:r=.ok (.nx,S (Wu t.d)) h') (c:Cl [] t) (d:dep t<=dm) (u:Up i h h') (x:Ctx cs ns h' i j m k sc a' b') (l:a'<=a+65536)
theorem turn(H:Mkr P){N:Nat}(hN:40<=N){k:Nat}{sc:Scp}(c:Ctx cs ns h i j m k sc a b){t:T}(ct:Cl [] t)(hd:dep t<=30)(ha:a<2 ^ 45)(ro:D)(st:Int)(o2 o6:Option D):Turned cs ns h i j m k sc a (max (dep t) 21+1) (fun o=>vp ro st o2 (Wu (.ref i)) (Wu (.ref m)) o o6)
 (xs2 (P.tbl N) Zql (vp ro st o2 (Wu (.ref i)) (Wu (.ref m)) (Wu t.d) o6) h):=by
 have A6:A 6=16384:=by decide
 obtain⟨g,ew⟩:=Zib H N t h (by omega);have c1:=c.app (g:=g);have te:tst (P.tbl N) (.ex (.cmp .Lt (.call (O "_law_width") (.cons (.var 5) .nil)) (.cst (.int 50)))) (vp ro st o2 (Wu (.ref i)) (Wu (.ref m)) (Wu t.d) o6) h=.ok (Wy ((t.size:Int)<50)) (h++g):=ZuC (Zr ew rfl) rfl;by_cases hw:(t.size:Int)<50
 . have p1:ZbP (.ref i) (.int 2) (.int 12) (h++g)=.ok () ((h++g).set i (.lst [.ref j,.int a,.int 12])):=by simp only[ZbP,c1.st.1];rfl
   have s1:St3 ((h++g).set i (.lst [.ref j,.int a,.int 12])) i j cs a 12:=⟨by rw[Ol (ZM c1.st.1)],by rw[Oc c1.st.2.2];exact c1.st.2.1,c1.st.2.2⟩
   obtain⟨h2,p1,u1,c2⟩:∃h2,ZbP (.ref i) (.int 2) (.int 12) (h++g)=.ok () h2/\Up i h h2/\Ctx cs ns h2 i j m k sc a 12:=⟨_,p1,Up.app.trans Up.set,c1.up Up.set s1 c.ab⟩
   obtain⟨t1,h3,a1,b1,e1,u3,s3,l1,l2,c3,p3⟩:=ZoY H 6 N (by omega) c2.bare (O "n") 6 (by decide) (by simp) (by rw[A6];omega);have u4:=u1.trans ((Up.app (i:=i) (g:=[.lst []])).trans u3);have x1:xs1 (P.tbl N) (.put (.var 3) (.cst (.int 2)) (.cst (.int 12))) (vp ro st o2 (Wu (.ref i)) (Wu (.ref m)) (Wu t.d) o6) (h++g)=.ok (.nx,vp ro st o2 (Wu (.ref i)) (Wu (.ref m)) (Wu t.d) o6) h2:=by show R.bnd (ZbP (.ref i) (.int 2) (.int 12) (h++g)) _=_;rw[p1];rfl
   refine⟨.op .add t t1,h3,a1,b1,?_,⟨ct,c3⟩,by simp only[dep];omega,u4,c.up u4 s3 (by have:=c.ab;omega),by rw[A6]at l2;omega⟩;refine(Za ((Zs (Zq te (decide_eq_true hw))).trans ((Za x1).trans ((Za (Zu (Za9 (Zd rfl (Zd rfl (Zd (Zr e1 (Zd rfl (Zd (Zkw rfl (by simp)) rfl))) rfl))) (by simp)))).trans rfl)))).trans rfl
 . exact⟨t,h++g,a,b,(Za ((Zw (Zq te (decide_eq_false hw))).trans rfl)).trans rfl,ct,by omega,Up.app,c1,by omega⟩
theorem Zt3(zs:List Int)(st:Int)(hz:zs.length<=100):∃ys:List Int,ys.length<=100/\∀h:Hd,Zgw (.ro (zs.map D.int)) (Wu st) Wv h=.ok (.ref h.length) (h++[.lst (ys.map .int)]):=by
 refine⟨(zs.drop (HT.sIx zs.length 0 (Wu st))).take (HT.sIx zs.length zs.length Wv - HT.sIx zs.length 0 (Wu st)),?_,fun h=>?_⟩
 . rw[List.length_take,List.length_drop];omega
 . show ZcP (.lst (cutD (zs.map D.int) (Wu st) Wv)) h=_;simp[cutD,List.map_drop,List.map_take]
inductive Begun(h:Hd)(S:Option D->Option D->Option D->Ev)(r:Sxs->R (Fl×Ev))(U:Tb):Prop
 |mk (cs:List Int) (ns:List Str) (h':Hd) (i j m:Nat) (e:∀s,r s=xs2 U s (S (Wu (.ref j)) (Wu (.ref i)) (Wu (.ref m))) h') (c:Ctx cs ns (h'++[.lst []]) i j m h'.length [] 1 26) (l:h.length<=i) (u:Up i h h')
theorem Zsb(H:Mkr P){N:Nat}(hN:40<=N)(zs:List Int)(st:Int)(h:Hd)(hz:zs.length<=100):Begun h (fun o2 o3 o4=>vp (.ro (zs.map .int)) st o2 o3 o4 Wv Wv) (fun s=>xs2 (P.tbl N) (.cons Zaq (.cons ZcN (.cons ZcM s))) (vp (.ro (zs.map .int)) st Wv Wv Wv Wv Wv) h) (P.tbl N):=by
 obtain⟨N,rfl⟩:∃N3,N=N3+2:=⟨N - 2,by omega⟩
 obtain⟨ys,hyl,osl⟩:=Zt3 zs st hz;obtain⟨cs,hcl,ec⟩:=Zgl H (n:=N+1) (h:=h++[.lst (ys.map .int)]) (k:=h.length) (xs0:=ys.map .int) (by simp) ys 0 [] (by simp;omega) (by omega);have en:ZcJ (ys.map D.int)=ys.mapIdx fun q x=>D.tup [.int ((q+0:Nat):Int),.int x]:=by unfold ZcJ;apply List.ext_getElem?;intro q;simp[List.getElem?_mapIdx];cases ys[q]?<;>rfl
 have ei:evi (P.tbl (N+2)) (.enu (.sl (.var 0) (Wu (.var 1)) Wv)) (vp (.ro (zs.map .int)) st Wv Wv Wv Wv Wv) h=.ok ⟨Wu (h.length,ys.map .int),ZcJ (ys.map D.int)⟩ (h++[.lst (ys.map .int)]):=by rw[ZqC,show ev (P.tbl (N+2)) (.sl (.var 0) (Wu (.var 1)) Wv) (vp (.ro (zs.map .int)) st Wv Wv Wv Wv Wv) h=.ok (.ref h.length) (h++[.lst (ys.map .int)])from osl h,Zk];simp[ZkV]
 rw[<- en]at ec;have x1:xs1 (P.tbl (N+2)) Zaq (vp (.ro (zs.map .int)) st Wv Wv Wv Wv Wv) h=.ok (.nx,vp (.ro (zs.map .int)) st (Wu (.ref (h++[DO.lst (ys.map .int)]).length)) Wv Wv Wv Wv) (h++[.lst (ys.map .int)]++[.lst (cs.map .int)]):=Zu (Zrg ei ec);generalize D.ro (zs.map .int)=ro at *;obtain⟨h1,j,u1,k1,lj,x1⟩:∃(h1:Hd) (j:Nat),Up h1.length h h1/\h1[j]? = Wu (.lst (cs.map .int))/\j<h1.length/\xs1 (P.tbl (N+2)) Zaq (vp ro st Wv Wv Wv Wv Wv) h=.ok (.nx,vp ro st (Wu (.ref j)) Wv Wv Wv Wv) h1:=⟨_,_,Up.app.trans Up.app,ZcQ,by simp,x1⟩
 have s2:St3 (h1++[.lst [.ref j,.int 0,.int 26]]) h1.length j cs 0 26:=⟨ZcQ,by rw[Oe lj];exact k1,by omega⟩
 obtain⟨v,e3,_⟩:=ZjH H N s2 (by decide);rw[Zno]at e3;obtain⟨ns,n5,nok,nnd,e4⟩:=Zpu H (N+1) v (h1++[.lst [.ref j,.int 1,.int 26]]);have hle:=u1.1;refine⟨cs,ns,h1++[.lst [.ref j,.int 1,.int 26]]++[.lst (ns.map .str)],h1.length,j,(h1++[DO.lst [.ref j,.int 1,.int 26]]).length,fun s=>?_,⟨⟨by simp,by simp[Oe lj,k1],by omega⟩,by simp,n5,nok,nnd,by unfold ZmK;simp,by simp,by simp,by simp,by decide⟩,hle,?_⟩
 . exact(Za x1).trans ((Za (Zu (Zkw (Zd rfl (Zd rfl (Zd rfl rfl))) (by simp)))).trans ((Za (Zu (Zr e4 (Zd (Zr e3 rfl) rfl)))).trans rfl))
 . rw[Oz];exact⟨by simp;omega,fun m a n=>by rw[Oe (by omega)];exact u1.2 m a n⟩
inductive Sixth(h:Hd)(i:Nat)(S:Option D->Ev)(r:R (Fl×Ev)):Prop
 |mk (t:T) (h':Hd) (e:r=.ok (.nx,S (Wu t.d)) h') (c:Cl [] t) (s:t.size<=100) (d:dep t<=20) (u:Up i h h')
theorem Zsa(H:Mkr P){N:Nat}(hN:40<=N){k:Nat}{sc:Scp}(c:Ctx cs ns h i j m k sc a b){t:T}(ct:Cl [] t)(hd:dep t<=26)(ha:a<2 ^ 50)(ro:D)(st:Int)(o2 o4 o6:Option D):Sixth h i (fun o=>vp ro st o2 (Wu (.ref i)) o4 o o6) (xs1 (P.tbl N) Zbm (vp ro st o2 (Wu (.ref i)) o4 (Wu t.d) o6) h):=by
 obtain⟨g1,ew⟩:=Zib H N t h (by omega);obtain⟨g2,ed⟩:=ZqI H N t (h++g1) (by omega);have tw:tst (P.tbl N) (.ex (.cmp .Gt (.call (O "_law_width") (.cons (.var 5) .nil)) (.cst (.int 100)))) (vp ro st o2 (Wu (.ref i)) o4 (Wu t.d) o6) h=.ok (Wy ((100:Int)<t.size)) (h++g1):=ZsX (Zr ew rfl) rfl;have td:tst (P.tbl N) (.ex (.cmp .Gt (.call (O "_law_deep") (.cons (.var 5) .nil)) (.cst (.int 20)))) (vp ro st o2 (Wu (.ref i)) o4 (Wu t.d) o6) (h++g1)=.ok (Wy ((20:Int)<dep t)) (h++g1++g2):=ZsX (Zr ed rfl) rfl;have plain:∀{q:Sxs} (g:Hd),∃t' h',xs2 (P.tbl N) (.cons (.set (.nm 5) (.call (O "_law_plain") (.cons (.cst (.str (O "n"))) (.cons (.call (O "_law_next") (.cons (.var 3) .nil)) .nil)))) .nil) (vp ro st o2 (Wu (.ref i)) o4 (Wu t.d) o6) (h++g)=.ok (.nx,vp ro st o2 (Wu (.ref i)) o4 (Wu (T.d t')) o6) h'/\Cl [] t'/\dep t'<=2/\t'.size<=4/\Up i h h':=fun g=>by
  obtain⟨N,rfl⟩:∃N3,N=N3+2:=⟨N - 2,by omega⟩
  obtain⟨v,e8,_⟩:=ZjH H N (c.app (g:=g)).st ⟨c.ab,ha⟩;obtain⟨tp,gp,e9,q1,q2,q3⟩:=Zhs H (N+1) (O "n") v ((h++g).set i (.lst [.ref j,.int (a+1),.int b])) [];exact⟨tp,_,(Za (Zu (Zr e9 (Zd rfl (Zd (Zr e8 rfl) rfl))))).trans rfl,q1,q2,q3,(Up.app.trans Up.set).trans Up.app⟩
 by_cases hw:(100:Int)<t.size
 . obtain⟨t',h',e,q1,q2,q3,u⟩:=plain (q:=.nil) g1;exact⟨t',h',(Zs (Zso (Zq tw (decide_eq_true hw)))).trans e,q1,by omega,by omega,u⟩
 . have tw':=Zq tw (decide_eq_false hw);by_cases hq:(20:Int)<dep t
   . obtain⟨t',h',e,q1,q2,q3,u⟩:=plain (q:=.nil) (g1++g2);rw[<- Oz]at e;exact⟨t',h',(Zs (Zmc tw' (Zq td (decide_eq_true hq)))).trans e,q1,by omega,by omega,u⟩
   . exact⟨t,_,(Zw (Zmc tw' (Zq td (decide_eq_false hq)))).trans rfl,ct,by omega,by omega,Up.app.trans Up.app⟩
theorem ZlY(H:Mkr P){N:Nat}(hN:40<=N)(zs:List Int)(st:Int)(h:Hd)(hz:zs.length<=100):∃t h',run P (N+1) (O "_law_program") [.ro (zs.map .int),.int st] h=.ok (T.d t) h'/\Cl [] t/\t.size<=100/\dep t<=20/\h.length<=h'.length/\∀q,q<h.length->h'[q]? = h[q]? := by
 rw[Zfh H.program rfl];have A7:A 7=65536:=by decide
 cases Zsb H hN zs st h hz with
 |mk cs ns h3 i j m e3 c4 li u3=>
 cases ZoY H 7 N (by omega) c4 (O "n") 7 (by decide) (by decide) (by rw[A7];decide)with
 |mk t4 h4 a4 b4 e5 u4 s4 l1 l2 ct4 d4=>
 rw[A7]at l2;cases turn H hN (c4.up u4 s4 (by omega)) ct4 (by omega) (by omega) (.ro (zs.map .int)) st (Wu (.ref j)) (Wu (.int 0))with
 |mk t5 h5 a5 b5 e6 ct5 d5 u5 c6 l4=>
 cases turn H hN c6 ct5 (by omega) (by omega) (.ro (zs.map .int)) st (Wu (.ref j)) (Wu (.int 1))with
 |mk t6 h6 a6 b6 e7 ct6 d6 u6 c7 l6=>
 cases Zsa H hN c7 ct6 (by omega) (by omega) (.ro (zs.map .int)) st (Wu (.ref j)) (Wu (.ref m)) (Wu (.int 1))with
 |mk t hh x6 ct sz dt u=>
 have u8:=(u3.trans ((Up.app (i:=i) (g:=[.lst []])).trans ((u4.trans u5).trans u6))).trans u;refine⟨t,hh,?_,ct,sz,dt,u8.1,fun q hq=>u8.2 q hq (by omega)⟩;have x5:xs1 (P.tbl N) Zbn (vp (.ro (zs.map .int)) st (Wu (.ref j)) (Wu (.ref i)) (Wu (.ref m)) (Wu t4.d) Wv) h4=.ok (.nx,vp (.ro (zs.map .int)) st (Wu (.ref j)) (Wu (.ref i)) (Wu (.ref m)) (Wu t6.d) (Wu (.int 1))) h6:=(Zcx (w:=⟨Wv,[.int 0,.int 1]⟩) rfl).trans ((ZdV rfl e6).trans ((ZdV rfl e7).trans rfl));exact(congrArg Zh ((e3 (.cons ZcL (.cons Zbn (.cons Zbm (.cons ZcK .nil))))).trans ((Za (Zu (Zr e5 (Zd rfl (Zd (Zkw rfl (by simp)) rfl))))).trans ((Za x5).trans ((Za x6).trans rfl))))).trans rfl
end Gn
end
section
namespace Rw
open PySem L2 IV Gn
noncomputable def Z6:Sxs:=(.cons (.forr (.two 2 3) (.pl (.var 1)) (.cons (.iff (.ex (.cmp .Eq (.var 2) (.var 0))) (.cons (.ret (.var 3)) .nil) .nil) .nil)) (.cons (.ret (.cst .non)) .nil))
noncomputable def Zaw:Fd:=⟨[(O "name"),(O "around")],[(O "name"),(O "around"),(O "known"),(O "thing")],Z6⟩
noncomputable def ZcA:Sxs:=(.cons (.iff (.ex (.cmp .Eq (.ix (.var 0) (.cst (.int 0))) (.cst (.str (O "num"))))) (.cons (.ret (.var 0)) .nil) .nil) (.cons (.iff (.ex (.cmp .Eq (.ix (.var 0) (.cst (.int 0))) (.cst (.str (O "name"))))) (.cons (.ret (.call (O "bound_to") (.cons (.ix (.var 0) (.cst (.int 1))) (.cons (.var 1) .nil)))) .nil) .nil) (.cons (.ret (.tupl (.cons (.cst (.str (O "clo"))) (.cons (.var 0) (.cons (.var 1) .nil))))) .nil)))
noncomputable def Zby:Fd:=⟨[(O "E"),(O "around")],[(O "E"),(O "around")],ZcA⟩
noncomputable def Zhb:Sxs:=(.cons (.ret (.ix (.call (O "parts_of") (.cons (.ix (.var 0) (.cst (.int 1))) .nil)) (.cst (.int 0)))) .nil)
noncomputable def Zcm:Fd:=⟨[(O "W")],[(O "W")],Zhb⟩
noncomputable def Zcq:Sxs:=(.cons (.iff (.ex (.cmp .Eq (.ix (.ix (.var 0) (.cst (.int 1))) (.cst (.int 0))) (.cst (.str (O "fn"))))) (.cons (.ret (.bin .Add (.tupl (.cons (.tupl (.cons (.ix (.ix (.var 0) (.cst (.int 1))) (.cst (.int 1))) (.cons (.var 1) .nil))) .nil)) (.ix (.var 0) (.cst (.int 2))))) .nil) .nil) (.cons (.ret (.bin .Add (.tupl (.cons (.tupl (.cons (.ix (.ix (.var 0) (.cst (.int 1))) (.cst (.int 2))) (.cons (.var 1) .nil))) (.cons (.tupl (.cons (.ix (.ix (.var 0) (.cst (.int 1))) (.cst (.int 1))) (.cons (.var 0) .nil))) .nil))) (.ix (.var 0) (.cst (.int 2))))) .nil))
noncomputable def Zcl:Fd:=⟨[(O "W"),(O "V")],[(O "W"),(O "V")],Zcq⟩
noncomputable def Zap:Sxs:=(.cons (.iff (.ex (.cmp .Is (.var 0) (.cst .non))) (.cons (.ret (.tupl (.cons (.cst (.str (O "stuck"))) .nil))) .nil) .nil) (.cons (.ret (.tupl (.cons (.cst (.str (O "loud"))) (.cons (.var 0) .nil)))) .nil))
noncomputable def Z0:Fd:=⟨[(O "state")],[(O "state")],Zap⟩
noncomputable def Zdk:Sxs:=(.cons (.iff (.ex (.cmp .NotEq (.ix (.var 0) (.cst (.int 0))) (.cst (.str (O "num"))))) (.cons (.ret (.cst .non)) .nil) .nil) (.cons (.ret (.ite (.ex (.cmp .Eq (.ix (.var 0) (.cst (.int 1))) (.cst (.int 0)))) (.var 2) (.var 1))) .nil))
noncomputable def ZaK:Fd:=⟨[(O "C"),(O "T"),(O "E")],[(O "C"),(O "T"),(O "E")],Zdk⟩
noncomputable def ZF:Sxs:=(.cons (.iff (.ors (.cons (.ex (.cmp .NotEq (.ix (.var 1) (.cst (.int 0))) (.cst (.str (O "num"))))) (.one (.ex (.cmp .NotEq (.ix (.var 2) (.cst (.int 0))) (.cst (.str (O "num")))))))) (.cons (.ret (.cst .non)) .nil) .nil) (.cons (.iff (.ex (.cmp .Eq (.var 0) (.cst (.str (O "<"))))) (.cons (.ret (.tupl (.cons (.cst (.str (O "num"))) (.cons (.ite (.ex (.cmp .Lt (.ix (.var 1) (.cst (.int 1))) (.ix (.var 2) (.cst (.int 1))))) (.cst (.int 1)) (.cst (.int 0))) .nil)))) .nil) .nil) (.cons (.iff (.ex (.cmp .Eq (.var 0) (.cst (.str (O "+"))))) (.cons (.ret (.tupl (.cons (.cst (.str (O "num"))) (.cons (.bin .Mod (.bin .Add (.ix (.var 1) (.cst (.int 1))) (.ix (.var 2) (.cst (.int 1)))) (.glo (O "BEYOND"))) .nil)))) .nil) .nil) (.cons (.iff (.ex (.cmp .Eq (.var 0) (.cst (.str (O "-"))))) (.cons (.ret (.tupl (.cons (.cst (.str (O "num"))) (.cons (.bin .Mod (.bin .Sub (.ix (.var 1) (.cst (.int 1))) (.ix (.var 2) (.cst (.int 1)))) (.glo (O "BEYOND"))) .nil)))) .nil) .nil) (.cons (.ret (.tupl (.cons (.cst (.str (O "num"))) (.cons (.bin .Mod (.bin .Mult (.ix (.var 1) (.cst (.int 1))) (.ix (.var 2) (.cst (.int 1)))) (.glo (O "BEYOND"))) .nil)))) .nil)))))
noncomputable def Za3:Fd:=⟨[(O "word"),(O "first"),(O "second")],[(O "word"),(O "first"),(O "second")],ZF⟩
noncomputable def Zh0:Sxs:=(.cons (.ret (.tupl (.cons (.cst (.str (O "go"))) (.cons (.var 0) (.cons (.tupl .nil) (.cons (.tupl .nil) .nil)))))) .nil)
noncomputable def ZaG:Fd:=⟨[(O "E")],[(O "E")],Zh0⟩
noncomputable def Zgt:Sxs:=(.cons (.iff (.ex (.cmp .Eq (.ix (.var 0) (.cst (.int 0))) (.cst (.str (O "call"))))) (.cons (.ret (.tupl (.cons (.cst (.str (O "arg"))) (.cons (.ix (.var 0) (.cst (.int 2))) (.cons (.var 1) .nil))))) .nil) .nil) (.cons (.iff (.ex (.cmp .Eq (.ix (.var 0) (.cst (.int 0))) (.cst (.str (O "if"))))) (.cons (.ret (.tupl (.cons (.cst (.str (O "if"))) (.cons (.ix (.var 0) (.cst (.int 2))) (.cons (.ix (.var 0) (.cst (.int 3))) (.cons (.var 1) .nil)))))) .nil) .nil) (.cons (.ret (.tupl (.cons (.cst (.str (O "right"))) (.cons (.ix (.var 0) (.cst (.int 0))) (.cons (.ix (.var 0) (.cst (.int 2))) (.cons (.var 1) .nil)))))) .nil)))
noncomputable def Z2:Fd:=⟨[(O "E"),(O "around")],[(O "E"),(O "around")],Zgt⟩
noncomputable def Zh6:Sxs:=(.cons (.iff (.ex (.cmp .In (.ix (.var 0) (.cst (.int 0))) (.glo (O "AT_ONCE")))) (.cons (.ret (.tupl (.cons (.cst (.str (O "back"))) (.cons (.call (O "thing_of") (.cons (.var 0) (.cons (.var 1) .nil))) (.cons (.var 2) .nil))))) .nil) .nil) (.cons (.ret (.tupl (.cons (.cst (.str (O "go"))) (.cons (.ix (.var 0) (.cst (.int 1))) (.cons (.var 1) (.cons (.bin .Add (.tupl (.cons (.call (O "left_waiting") (.cons (.var 0) (.cons (.var 1) .nil))) .nil)) (.var 2)) .nil)))))) .nil))
noncomputable def Zgf:Fd:=⟨[(O "E"),(O "around"),(O "rest")],[(O "E"),(O "around"),(O "rest")],Zh6⟩
noncomputable def Zdy:Sxs:=(.cons (.iff (.ex (.cmp .Eq (.ix (.var 1) (.cst (.int 0))) (.cst (.str (O "num"))))) (.cons (.ret (.cst .non)) .nil) .nil) (.cons (.ret (.tupl (.cons (.cst (.str (O "go"))) (.cons (.call (O "body_of") (.cons (.var 1) .nil)) (.cons (.call (O "entered") (.cons (.var 1) (.cons (.var 0) .nil))) (.cons (.var 2) .nil)))))) .nil))
noncomputable def Zcn:Fd:=⟨[(O "V"),(O "W"),(O "rest")],[(O "V"),(O "W"),(O "rest")],Zdy⟩
noncomputable def Za0:Sxs:=(.cons (.set (.nm 3) (.call (O "chosen") (.cons (.var 0) (.cons (.ix (.var 1) (.cst (.int 1))) (.cons (.ix (.var 1) (.cst (.int 2))) .nil))))) (.cons (.iff (.ex (.cmp .Is (.var 3) (.cst .non))) (.cons (.ret (.cst .non)) .nil) .nil) (.cons (.ret (.tupl (.cons (.cst (.str (O "go"))) (.cons (.var 3) (.cons (.ix (.var 1) (.cst (.int 3))) (.cons (.var 2) .nil)))))) .nil)))
noncomputable def Zck:Fd:=⟨[(O "V"),(O "wait"),(O "rest")],[(O "V"),(O "wait"),(O "rest"),(O "E")],Za0⟩
noncomputable def Zax:Sxs:=(.cons (.set (.nm 3) (.call (O "worked") (.cons (.ix (.var 1) (.cst (.int 1))) (.cons (.ix (.var 1) (.cst (.int 2))) (.cons (.var 0) .nil))))) (.cons (.iff (.ex (.cmp .Is (.var 3) (.cst .non))) (.cons (.ret (.cst .non)) .nil) .nil) (.cons (.ret (.tupl (.cons (.cst (.str (O "back"))) (.cons (.var 3) (.cons (.var 2) .nil))))) .nil)))
noncomputable def Zbz:Fd:=⟨[(O "V"),(O "wait"),(O "rest")],[(O "V"),(O "wait"),(O "rest"),(O "N")],Zax⟩
noncomputable def ZJ:Sxs:=(.cons (.iff (.ex (.cmp .Eq (.ix (.var 1) (.cst (.int 0))) (.cst (.str (O "fun"))))) (.cons (.set (.nm 3) (.call (O "applied") (.cons (.var 0) (.cons (.ix (.var 1) (.cst (.int 1))) (.cons (.var 2) .nil))))) .nil) (.cons (.iff (.ex (.cmp .Eq (.ix (.var 1) (.cst (.int 0))) (.cst (.str (O "if"))))) (.cons (.set (.nm 3) (.call (O "gone_on") (.cons (.var 0) (.cons (.var 1) (.cons (.var 2) .nil))))) .nil) (.cons (.set (.nm 3) (.call (O "reckoned") (.cons (.var 0) (.cons (.var 1) (.cons (.var 2) .nil))))) .nil)) .nil)) (.cons (.ret (.call (O "loud_or_stuck") (.cons (.var 3) .nil))) .nil))
noncomputable def Za6:Fd:=⟨[(O "V"),(O "wait"),(O "rest")],[(O "V"),(O "wait"),(O "rest"),(O "state")],ZJ⟩
noncomputable def Zp:Sxs:=(.cons (.iff (.nt (.ex (.var 1))) (.cons (.ret (.tupl (.cons (.cst (.str (O "value"))) .nil))) .nil) .nil) (.cons (.set (.nm 2) (.ix (.var 1) (.cst (.int 0)))) (.cons (.iff (.ex (.cmp .Eq (.ix (.var 2) (.cst (.int 0))) (.cst (.str (O "arg"))))) (.cons (.ret (.tupl (.cons (.cst (.str (O "quiet"))) (.cons (.tupl (.cons (.cst (.str (O "go"))) (.cons (.ix (.var 2) (.cst (.int 1))) (.cons (.ix (.var 2) (.cst (.int 2))) (.cons (.bin .Add (.tupl (.cons (.tupl (.cons (.cst (.str (O "fun"))) (.cons (.var 0) .nil))) .nil)) (.sl (.var 1) (Wu (.cst (.int 1))) Wv)) .nil))))) .nil)))) .nil) .nil) (.cons (.iff (.ex (.cmp .Eq (.ix (.var 2) (.cst (.int 0))) (.cst (.str (O "right"))))) (.cons (.ret (.tupl (.cons (.cst (.str (O "quiet"))) (.cons (.tupl (.cons (.cst (.str (O "go"))) (.cons (.ix (.var 2) (.cst (.int 2))) (.cons (.ix (.var 2) (.cst (.int 3))) (.cons (.bin .Add (.tupl (.cons (.tupl (.cons (.cst (.str (O "left"))) (.cons (.ix (.var 2) (.cst (.int 1))) (.cons (.var 0) .nil)))) .nil)) (.sl (.var 1) (Wu (.cst (.int 1))) Wv)) .nil))))) .nil)))) .nil) .nil) (.cons (.ret (.call (O "loud_step") (.cons (.var 0) (.cons (.var 2) (.cons (.sl (.var 1) (Wu (.cst (.int 1))) Wv) .nil))))) .nil)))))
noncomputable def Za7:Fd:=⟨[(O "V"),(O "rest")],[(O "V"),(O "rest"),(O "wait")],Zp⟩
noncomputable def Zbb:Sxs:=(.cons (.iff (.ex (.cmp .Eq (.ix (.var 0) (.cst (.int 0))) (.cst (.str (O "go"))))) (.cons (.ret (.tupl (.cons (.cst (.str (O "quiet"))) (.cons (.call (O "gone") (.cons (.ix (.var 0) (.cst (.int 1))) (.cons (.ix (.var 0) (.cst (.int 2))) (.cons (.ix (.var 0) (.cst (.int 3))) .nil)))) .nil)))) .nil) .nil) (.cons (.ret (.call (O "back_step") (.cons (.ix (.var 0) (.cst (.int 1))) (.cons (.ix (.var 0) (.cst (.int 2))) .nil)))) .nil))
noncomputable def Za4:Fd:=⟨[(O "state")],[(O "state")],Zbb⟩
mutual
inductive Th where
 |num (n:Int)|clo (E:T) (ar:Ar)
inductive Ar where
 |nil|cons (x:Str) (v:Th) (r:Ar)
end
mutual
noncomputable def Th.d:Th->D
 |.num n=>.tup [.str (O "num"),.int n]
 |.clo E ar=>.tup [.str (O "clo"),E.d,.tup ar.ds]
noncomputable def Ar.ds:Ar->List D
 |.nil=>[]
 |.cons x v r=>.tup [.str x,v.d]::r.ds
end
inductive Wt where
 |arg (A:T) (ar:Ar)|fn (V:Th)|iff (t e:T) (ar:Ar)|right (w:Wd) (F:T) (ar:Ar)|left (w:Wd) (V:Th)
noncomputable def Wt.d:Wt->D
 |.arg A ar=>.tup [.str (O "arg"),A.d,.tup ar.ds]
 |.fn V=>.tup [.str (O "fun"),V.d]
 |.iff t e ar=>.tup [.str (O "if"),t.d,e.d,.tup ar.ds]
 |.right w F ar=>.tup [.str (O "right"),.str w.s,F.d,.tup ar.ds]
 |.left w V=>.tup [.str (O "left"),.str w.s,V.d]
inductive Sta where
 |go (E:T) (ar:Ar) (rest:List Wt)|back (V:Th) (rest:List Wt)
noncomputable def Sta.d:Sta->D
 |.go E ar rest=>.tup [.str (O "go"),E.d,.tup ar.ds,.tup (rest.map Wt.d)]
 |.back V rest=>.tup [.str (O "back"),V.d,.tup (rest.map Wt.d)]
inductive Ans where
 |quiet (s:Sta)|loud (s:Sta)|value|stuck
noncomputable def Ans.d:Ans->D
 |.quiet s=>.tup [.str (O "quiet"),s.d]
 |.loud s=>.tup [.str (O "loud"),s.d]
 |.value=>.tup [.str (O "value")]
 |.stuck=>.tup [.str (O "stuck")]
noncomputable def Ar.get(x:Str):Ar->Option Th
 |.nil=>Wv
 |.cons y v r=>if y=x then Wu v else r.get x
noncomputable def Ar.len:Ar->Nat
 |.nil=>0
 |.cons _ _ r=>r.len+1
theorem Ar.ds_len:∀ar:Ar,ar.ds.length=ar.len
 |.nil=>by simp[Ar.ds,Ar.len]
 |.cons x v r=>by simp[Ar.ds,Ar.len,Ar.ds_len r]
noncomputable def thD:Option Th->D
 |none=>.non
 |some v=>v.d
structure Thg(P:Pg):Prop extends Gen P where
 bound_to:P.tb.lookup (O "bound_to")=Wu Zaw
 thing_of:P.tb.lookup (O "thing_of")=Wu Zby
 body_of:P.tb.lookup (O "body_of")=Wu Zcm
 entered:P.tb.lookup (O "entered")=Wu Zcl
 loud_or_stuck:P.tb.lookup (O "loud_or_stuck")=Wu Z0
 chosen:P.tb.lookup (O "chosen")=Wu ZaK
 worked:P.tb.lookup (O "worked")=Wu Za3
 once:P.G (O "AT_ONCE")=Wu (.tup [.str (O "num"),.str (O "name"),.str (O "fn"),.str (O "rec")])
 beyond:P.G (O "BEYOND")=Wu (.int 1000000)
structure Row0(P:Pg):Prop extends Thg P where
 rows_begun:P.tb.lookup (O "rows_begun")=Wu ZaG
 left_waiting:P.tb.lookup (O "left_waiting")=Wu Z2
 gone:P.tb.lookup (O "gone")=Wu Zgf
 applied:P.tb.lookup (O "applied")=Wu Zcn
 gone_on:P.tb.lookup (O "gone_on")=Wu Zck
 reckoned:P.tb.lookup (O "reckoned")=Wu Zbz
 loud_step:P.tb.lookup (O "loud_step")=Wu Za6
 back_step:P.tb.lookup (O "back_step")=Wu Za7
 rows_step:P.tb.lookup (O "rows_step")=Wu Za4
variable {P:Pg}{h:Hd}
theorem Zlp{U:Tb}{x:Str}{A:Option D}:∀(ar:Ar) (k v:Option D),∃k' v',ZL Wv (.two 2 3) (xs2 U (.cons (.iff (.ex (.cmp .Eq (.var 2) (.var 0))) (.cons (.ret (.var 3)) .nil) .nil) .nil)) ar.ds [Wu (.str x),A,k,v] h
 = match ar.get x with
  |some th=>.ok (.rt th.d,[Wu (.str x),A,k',v']) h
  |none=>.ok (.nx,[Wu (.str x),A,k',v']) h
 |.nil,k,v=>⟨k,v,rfl⟩
 |.cons y th r,k,v=>by
  by_cases e:y=x
  . refine⟨Wu (.str y),Wu th.d,?_⟩;rw[Ar.ds,Z8];simp[Ar.get,e]
  . obtain⟨k',v',q⟩:=Zlp (U:=U) (x:=x) (A:=A) r (Wu (.str y)) (Wu th.d);refine⟨k',v',?_⟩;rw[Ar.ds,Z8];simp[Ar.get,e,q]
theorem Zhv(H:Thg P)(n:Nat)(x:Str)(ar:Ar):run P (n+1) (O "bound_to") [.str x,.tup ar.ds] h=.ok (thD (ar.get x)) h:=by
 rw[Zc H.bound_to rfl];obtain⟨k',v',q⟩:=Zlp (h:=h) (U:=⟨P.G,P.GD,run P n,P.L⟩) (x:=x) (A:=Wu (.tup ar.ds)) ar Wv Wv;cases e:ar.get x with
 |none=>rw[e]at q;show Zh (xs2 (P.tbl n) Z6 [Wu (.str x),Wu (.tup ar.ds),Wv,Wv] h)=_;rw[nx1 (U:=P.tbl n) (ss:=Z6) (ρ1:=[Wu (.str x),Wu (.tup ar.ds),k',v']) (h2:=h) ((Zcx rfl).trans q) rfl];rfl
 |some th=>rw[e]at q;exact rt1 (U:=P.tbl n) (ss:=Z6) (S:=[Wu (.str x),Wu (.tup ar.ds),Wv,Wv]) ((Zcx rfl).trans q) rfl
theorem ZfT(H:Thg P)(n:Nat)(V:Th)(T E:D):run P (n+1) (O "chosen") [V.d,T,E] h=.ok (match V with|.num z=>if z=0 then E else T|_=>.non) h:=by
 rw[Zc H.chosen (by cases V<;>rfl)];cases V with
 |num z=>by_cases e:z=0<;>simp[ZaK,Zdk,Zn,Th.d,e]
 |clo E ar=>exact rfl
noncomputable def wk(w:Wd)(a b:Int):Int:=match w with
 |.lt=>if a<b then 1 else 0
 |.add=>(a+b) % 1000000
 |.sub=>(a - b) % 1000000
 |.mul=>a * b % 1000000
noncomputable def wkD(w:Wd):Th->Th->D
 |.num a,.num b=>(Th.num (wk w a b)).d
 |_,_=>.non
theorem worked_nn(hw:P.tb.lookup (O "worked")=Wu Za3)(hb:P.G (O "BEYOND")=Wu (.int 1000000))(n:Nat)(w:Wd){x y:Int}(hx:0<=x/\x<1000000)(hy:0<=y/\y<1000000):run P (n+1) (O "worked") [.str w.s,(T.num x).d,(T.num y).d] h=.ok (T.num (wk w x y)).d h:=by
 rw[Zc hw (by rfl)];have gb:∀S,ev (P.tbl n) (.glo (O "BEYOND")) S h=.ok (.int 1000000) h:=fun S=>by show R.ofO (P.G (O "BEYOND")) h=_;rw[hb];rfl
 have m2:opB .Mult (.int x) (.int y) h=.ok (.int (x * y)) h:=Zei ⟨Z1 (by omega) (by omega),Z1 (by omega) (by omega)⟩;have fin:∀(S:Ev) (e:Ex) (z:Int),ev (P.tbl n) e S h=.ok (.int z) h->xs1 (P.tbl n) (.ret (.tupl (.cons (.cst (.str (O "num"))) (.cons (.bin .Mod e (.glo (O "BEYOND"))) .nil)))) S h=.ok (.rt (T.num (z % 1000000)).d,S) h:=fun S e z q=>Zx (Za9 (Zd rfl (Zd ((Zao q (gb S)).trans (ZR (by decide))) rfl)) (by simp))
 show Zh (xs2 (P.tbl n) ZF [Wu (.str w.s),Wu (T.num x).d,Wu (T.num y).d] h)=_;rw[nx1 (U:=P.tbl n) (ss:=ZF) (ρ1:=[Wu (.str w.s),Wu (T.num x).d,Wu (T.num y).d]) (h2:=h) rfl rfl];cases w with
 |lt=>by_cases e:x<y<;>simp[ZF,tlS,T.d,Wd.s,wk,e,YC]
 |add=>rw[nx1 (U:=P.tbl n) (ss:=tlS ZF) (ρ1:=[Wu (.str Wd.add.s),Wu (T.num x).d,Wu (T.num y).d]) (h2:=h) rfl rfl];exact rt1 (U:=P.tbl n) (ss:=tlS (tlS ZF)) ((Zs rfl).trans (Ze (fin _ _ (x+y) rfl))) rfl
 |sub=>rw[nx1 (U:=P.tbl n) (ss:=tlS ZF) (ρ1:=[Wu (.str Wd.sub.s),Wu (T.num x).d,Wu (T.num y).d]) (h2:=h) rfl rfl,nx1 (U:=P.tbl n) (ss:=tlS (tlS ZF)) (ρ1:=[Wu (.str Wd.sub.s),Wu (T.num x).d,Wu (T.num y).d]) (h2:=h) rfl rfl];exact rt1 (U:=P.tbl n) (ss:=tlS (tlS (tlS ZF))) ((Zs rfl).trans (Ze (fin _ _ (x - y) rfl))) rfl
 |mul=>rw[nx1 (U:=P.tbl n) (ss:=tlS ZF) (ρ1:=[Wu (.str Wd.mul.s),Wu (T.num x).d,Wu (T.num y).d]) (h2:=h) rfl rfl,nx1 (U:=P.tbl n) (ss:=tlS (tlS ZF)) (ρ1:=[Wu (.str Wd.mul.s),Wu (T.num x).d,Wu (T.num y).d]) (h2:=h) rfl rfl,nx1 (U:=P.tbl n) (ss:=tlS (tlS (tlS ZF))) (ρ1:=[Wu (.str Wd.mul.s),Wu (T.num x).d,Wu (T.num y).d]) (h2:=h) rfl rfl];exact rt1 (U:=P.tbl n) (ss:=tlS (tlS (tlS (tlS ZF)))) (fin _ _ (x * y) m2) rfl
theorem ZfS(H:Thg P)(n:Nat)(w:Wd)(V W:Th)(hv:∀z,V=.num z->0<=z/\z<1000000)(hw:∀z,W=.num z->0<=z/\z<1000000):
 run P (n+1) (O "worked") [.str w.s,V.d,W.d] h=.ok (wkD w V W) h:=by
 cases V with
 |clo E ar=>rw[Zc H.worked (by cases W<;>rfl)];exact rfl
 |num a=>
  cases W with
  |clo E ar=>rw[Zc H.worked (by rfl)];exact rfl
  |num b=>exact worked_nn H.worked H.beyond n w (hv a rfl) (hw b rfl)
end Rw
end
section
namespace Rw
open PySem L2 IV Gn
variable {P:Pg}{h:Hd}
noncomputable def isFn:T->Bool
 |.fn _ _|.rcc _ _ _=>Ww
 |_=>Wx
noncomputable def Ar.keys:Ar->List Str
 |.nil=>[]
 |.cons x _ r=>x::r.keys
theorem Ar.get_some{x:Str}:∀{ar:Ar},x∈ar.keys->∃v,ar.get x=Wu v
 |.nil,h=>by simp[Ar.keys]at h
 |.cons y v r,h=>by
  by_cases e:y=x
  . exact⟨v,by simp[Ar.get,e]⟩
  . have:x∈r.keys:=by
     simp[Ar.keys]at h;rcases h with z|z
     . exact absurd z.symm e
     . exact z
    obtain⟨u,q⟩:=Ar.get_some this;exact⟨u,by simp[Ar.get,e,q]⟩
mutual
def ZeO:Th->Prop
 |.num n=>0<=n/\n<1000000
 |.clo E ar=>isFn E=Ww/\Cl ar.keys E/\ArOk ar
def ArOk:Ar->Prop
 |.nil=>True
 |.cons _ v r=>ZeO v/\ArOk r
end
noncomputable def thing(E:T)(ar:Ar):Option Th:=match E with
 |.num n=>Wu (.num n)
 |.name x=>ar.get x
 |.fn x e=>Wu (.clo (.fn x e) ar)
 |.rcc f x e=>Wu (.clo (.rcc f x e) ar)
 |_=>Wv
noncomputable def step:Sta->Ans
 |.go E ar rest=>match E with
  |.call F A=>.quiet (.go F ar (.arg A ar::rest))
  |.iff C t e=>.quiet (.go C ar (.iff t e ar::rest))
  |.op w x y=>.quiet (.go x ar (.right w y ar::rest))
  |E=>match thing E ar with
   |some v=>.quiet (.back v rest)
   |none=>.stuck
 |.back V rest=>match rest with
  |[]=>.value
  |.arg A ar::r=>.quiet (.go A ar (.fn V::r))
  |.right w F ar::r=>.quiet (.go F ar (.left w V::r))
  |.fn W::r=>match W with
   |.clo (.fn x e) ar=>.loud (.go e (.cons x V ar) r)
   |.clo (.rcc f x e) ar=>.loud (.go e (.cons x V (.cons f (.clo (.rcc f x e) ar) ar)) r)
   |_=>.stuck
  |.iff t e ar::r=>match V with
   |.num z=>.loud (.go (if z=0 then e else t) ar r)
   |_=>.stuck
  |.left w W::r=>match W,V with
   |.num a,.num b=>.loud (.back (.num (wk w a b)) r)
   |_,_=>.stuck
theorem Zps(H:Thg P)(n:Nat)(E:T)(ar:Ar)(v:Th)(e:thing E ar=Wu v):run P (n+2) (O "thing_of") [E.d,.tup ar.ds] h=.ok v.d h:=by
 rw[Zc H.thing_of (by cases E<;>rfl)];cases E with
 |num z=>cases e;exact rfl
 |name x=>have q:=Zhv H n (h:=h) x ar;rw[show ar.get x=Wu v from e]at q;show Zh (xs2 (P.tbl (n+1)) ZcA [Wu (T.name x).d,Wu (.tup ar.ds)] h)=_;rw[nx1 (U:=P.tbl (n+1)) (ss:=ZcA) (ρ1:=[Wu (T.name x).d,Wu (.tup ar.ds)]) (h2:=h) rfl rfl];exact rt1 (U:=P.tbl (n+1)) (ss:=tlS ZcA) (Zj q rfl rfl) rfl
 |fn x b=>cases e;exact rfl
 |rcc f x b=>cases e;exact rfl
 |_=>cases e
theorem Zqc(w:Str):opC P.GD .In (.str w) (.tup [.str (O "num"),.str (O "name"),.str (O "fn"),.str (O "rec")]) h=.ok (.bl (Wy (w∈[O "num",O "name",O "fn",O "rec"]))) h:=Zeh (ss:=[O "num",O "name",O "fn",O "rec"])
theorem ZjJ(H:Row0 P)(n:Nat)(E:T)(ar:Ar)(w:Wt)(e:(∃F A,E=.call F A/\w=.arg A ar)\/(∃C t f,E=.iff C t f/\w=.iff t f ar)\/∃o x y,E=.op o x y/\w=.right o y ar):run P (n+1) (O "left_waiting") [E.d,.tup ar.ds] h=.ok w.d h:=by
 rw[Zc H.left_waiting (by cases E<;>rfl)];rcases e with ⟨F,A,rfl,rfl⟩|⟨C,t,f,rfl,rfl⟩|⟨o,x,y,rfl,rfl⟩
 . exact rfl
 . exact rfl
 . cases o<;>exact rfl
theorem Ztb(d:D)(ds:List D)(hz:ds.length<=1000000):opB .Add (.tup [d]) (.tup ds) h=.ok (.tup (d::ds)) h:=Zds (by rw[YC];simp;omega)
noncomputable def gn1:Tx:=(.ex (.cmp .In (.ix (.var 0) (.cst (.int 0))) (.glo (O "AT_ONCE"))))
noncomputable def gn2:Ex:=(.tupl (.cons (.cst (.str (O "back"))) (.cons (.call (O "thing_of") (.cons (.var 0) (.cons (.var 1) .nil))) (.cons (.var 2) .nil))))
noncomputable def gn3:Ex:=(.tupl (.cons (.cst (.str (O "go"))) (.cons (.ix (.var 0) (.cst (.int 1))) (.cons (.var 1) (.cons (.bin .Add (.tupl (.cons (.call (O "left_waiting") (.cons (.var 0) (.cons (.var 1) .nil))) .nil)) (.var 2)) .nil)))))
theorem Zlw:Zh6=.cons (.iff gn1 (.cons (.ret gn2) .nil) .nil) (.cons (.ret gn3) .nil):=rfl
theorem ZjK(H:Row0 P)(n:Nat)(E:T)(ar:Ar)(rest:List Wt)(hc:Cl ar.keys E)(hz:rest.length<=1000000):∃s,step (.go E ar rest)=.quiet s/\run P (n+3) (O "gone") [E.d,.tup ar.ds,.tup (rest.map Wt.d)] h=.ok s.d h:=by
 rw[Zc H.gone (by cases E<;>rfl)];have ts:∀(x:Str) (ds:List D),E.d=.tup (.str x::ds)->tst (P.tbl (n+2)) gn1 [Wu E.d,Wu (.tup ar.ds),Wu (.tup (rest.map Wt.d))] h=.ok (Wy (x∈[O "num",O "name",O "fn",O "rec"])) h:=fun x ds e=>by
  have q:ev (P.tbl (n+2)) (.glo (O "AT_ONCE")) [Wu E.d,Wu (.tup ar.ds),Wu (.tup (rest.map Wt.d))] h=.ok (.tup [.str (O "num"),.str (O "name"),.str (O "fn"),.str (O "rec")]) h:=by show R.ofO (P.G (O "AT_ONCE")) h=_;rw[H.once];rfl
  rw[e]at q ⊢;exact ZdW ((ZE Zc3 q).trans (Zqc x))
 have ret:∀v,thing E ar=Wu v->tst (P.tbl (n+2)) gn1 [Wu E.d,Wu (.tup ar.ds),Wu (.tup (rest.map Wt.d))] h=.ok Ww h->Zh (xs2 (P.tbl (n+2)) Zh6 [Wu E.d,Wu (.tup ar.ds),Wu (.tup (rest.map Wt.d))] h)=.ok (Sta.back v rest).d h:=fun v e q=>by have e2:ev (P.tbl (n+2)) gn2 [Wu E.d,Wu (.tup ar.ds),Wu (.tup (rest.map Wt.d))] h=.ok (Sta.back v rest).d h:=ZoP (Zps H.toThg n (h:=h) E ar v e) rfl rfl;rw[Zlw,Ze ((Zs q).trans (Ze (Zx e2)))];rfl
 have go:∀(w:Wt) (p:T),run P (n+2) (O "left_waiting") [E.d,.tup ar.ds] h=.ok w.d h->ZaS P.GD E.d (.int 1) h=.ok p.d h->tst (P.tbl (n+2)) gn1 [Wu E.d,Wu (.tup ar.ds),Wu (.tup (rest.map Wt.d))] h=.ok Wx h->Zh (xs2 (P.tbl (n+2)) Zh6 [Wu E.d,Wu (.tup ar.ds),Wu (.tup (rest.map Wt.d))] h)=.ok (Sta.go p ar (w::rest)).d h:=fun w p ew ep q=>by have p1:ev (P.tbl (n+2)) (.ix (.var 0) (.cst (.int 1))) [Wu E.d,Wu (.tup ar.ds),Wu (.tup (rest.map Wt.d))] h=.ok p.d h:=ep;have b1:ev (P.tbl (n+2)) (.bin .Add (.tupl (.cons (.call (O "left_waiting") (.cons (.var 0) (.cons (.var 1) .nil))) .nil)) (.var 2)) [Wu E.d,Wu (.tup ar.ds),Wu (.tup (rest.map Wt.d))] h=.ok (.tup (w.d::rest.map Wt.d)) h:=(Zao (Za9 (Zd (Zr ew rfl) rfl) (by simp)) rfl).trans (Ztb w.d (rest.map Wt.d) (by simpa using hz));have e3:ev (P.tbl (n+2)) gn3 [Wu E.d,Wu (.tup ar.ds),Wu (.tup (rest.map Wt.d))] h=.ok (Sta.go p ar (w::rest)).d h:=Za9 (Zd rfl (Zd p1 (Zd rfl (Zd b1 rfl)))) (by simp);rw[Zlw,Za ((Zw q).trans rfl),Ze (Zx e3)];rfl
 cases E with
 |num z=>exact⟨.back (.num z) rest,rfl,ret _ rfl (ts (O "num") _ rfl)⟩
 |name x=>obtain⟨v,e⟩:=Ar.get_some (show x∈ar.keys from hc);exact⟨.back v rest,by show(match thing (.name x) ar with|some v=>Ans.quiet (.back v rest)|none=>.stuck)=_;rw[show thing (.name x) ar=Wu v from e],ret _ e (ts (O "name") _ rfl)⟩
 |fn x b=>exact⟨.back (.clo (.fn x b) ar) rest,rfl,ret _ rfl (ts (O "fn") _ rfl)⟩
 |rcc f x b=>exact⟨.back (.clo (.rcc f x b) ar) rest,rfl,ret _ rfl (ts (O "rec") _ rfl)⟩
 |call F A=>exact⟨.go F ar (.arg A ar::rest),rfl,go _ F (ZjJ H (n+1) (h:=h) (.call F A) ar (.arg A ar) (.inl ⟨F,A,rfl,rfl⟩)) rfl (ts (O "call") _ rfl)⟩
 |iff C t e=>exact⟨.go C ar (.iff t e ar::rest),rfl,go _ C (ZjJ H (n+1) (h:=h) (.iff C t e) ar (.iff t e ar) (.inr (.inl ⟨C,t,e,rfl,rfl⟩))) rfl (ts (O "if") _ rfl)⟩
 |op w x y=>exact⟨.go x ar (.right w y ar::rest),rfl,go _ x (ZjJ H (n+1) (h:=h) (.op w x y) ar (.right w y ar) (.inr (.inr ⟨w,x,y,rfl,rfl⟩))) rfl ((ts w.s _ rfl).trans (by cases w<;>rfl))⟩
end Rw
end
section
set_option maxHeartbeats 2000000
namespace Rw
open PySem L2 IV Gn
variable {P:Pg}{h:Hd}
def Zfe:Wt->Prop
 |.arg A ar=>Cl ar.keys A/\ArOk ar
 |.fn V=>ZeO V
 |.iff t e ar=>Cl ar.keys t/\Cl ar.keys e/\ArOk ar
 |.right _ F ar=>Cl ar.keys F/\ArOk ar
 |.left _ V=>ZeO V
def Zb9:Sta->Prop
 |.go E ar rest=>Cl ar.keys E/\ArOk ar/\∀w∈rest,Zfe w
 |.back V rest=>ZeO V/\∀w∈rest,Zfe w
theorem Znj(H:Thg P)(n:Nat)(E e:T)(ar:Ar)(he:E.parts=[e]):run P (n+2) (O "body_of") [(Th.clo E ar).d] h=.ok e.d h:=by rw[Zc H.body_of rfl];have q:=Zfi H.toTre n E h;rw[he]at q;exact rt1 (U:=P.tbl (n+1)) (ss:=Zhb) (S:=[Wu (Th.clo E ar).d]) (Zj q rfl rfl) rfl
theorem ZgT(H:Thg P)(n:Nat)(E e:T)(ar ar':Ar)(V:Th)(hz:ar.len<=1000000)(he:(∃x,E=.fn x e/\ar'=.cons x V ar)\/∃f x,E=.rcc f x e/\ar'=.cons x V (.cons f (.clo E ar) ar)):run P (n+1) (O "entered") [(Th.clo E ar).d,V.d] h=.ok (.tup ar'.ds) h:=by
 rw[Zc H.entered rfl];have hl:ar.ds.length<=1000000:=by rw[Ar.ds_len];exact hz
 rcases he with ⟨x,rfl,rfl⟩|⟨f,x,rfl,rfl⟩
 . exact rt1 (U:=P.tbl n) (ss:=Zcq) (S:=[Wu (Th.clo (.fn x e) ar).d,Wu V.d]) ((Zs rfl).trans (Ze (Zx ((Zao (x:=.tup [.tup [.str x,V.d]]) (y:=.tup ar.ds) rfl rfl).trans (Ztb _ ar.ds hl))))) rfl
 . show Zh (xs2 (P.tbl n) Zcq [Wu (Th.clo (.rcc f x e) ar).d,Wu V.d] h)=_;rw[nx1 (U:=P.tbl n) (ss:=Zcq) (ρ1:=[Wu (Th.clo (.rcc f x e) ar).d,Wu V.d]) (h2:=h) rfl rfl];exact rt1 (U:=P.tbl n) (ss:=tlS Zcq) (Zx ((Zao (x:=.tup [.tup [.str x,V.d],.tup [.str f,(Th.clo (.rcc f x e) ar).d]]) (y:=.tup ar.ds) rfl rfl).trans (Zds (by rw[YC];simp;omega)))) rfl
theorem Zt0(H:Thg P)(n:Nat)(s:Sta):run P (n+1) (O "loud_or_stuck") [s.d] h=.ok (Ans.loud s).d h:=by rw[Zc H.loud_or_stuck (by rfl)];show Zh (xs2 (P.tbl n) Zap [Wu s.d] h)=_;rw[nx1 (U:=P.tbl n) (ss:=Zap) (ρ1:=[Wu s.d]) (h2:=h) ((Zw (Zol (x:=s.d) (h1:=h) rfl (by cases s<;>simp[Sta.d]))).trans rfl) rfl];rfl
theorem ZrY(H:Thg P)(n:Nat):run P (n+1) (O "loud_or_stuck") [.non] h=.ok Ans.stuck.d h:=by rw[Zc H.loud_or_stuck (by rfl)];exact rt1 (U:=P.tbl n) (ss:=Zap) (S:=[Wu .non]) ((Zs (Zmv (h1:=h) rfl)).trans (Ze rfl)) rfl
noncomputable def oS:Option Sta->D
 |none=>.non
 |some s=>s.d
noncomputable def oA:Option Sta->Ans
 |none=>.stuck
 |some s=>.loud s
theorem ZjI(H:Thg P)(n:Nat)(o:Option Sta):run P (n+1) (O "loud_or_stuck") [oS o] h=.ok (oA o).d h:=by
 cases o with
 |none=>exact ZrY H n
 |some s=>exact Zt0 H n s
theorem Zl1(H:Row0 P)(n:Nat)(V W:Th)(r:List Wt)(ok:ZeO W)(ha:∀E ar,W=.clo E ar->ar.len<=1000000):∃o,run P (n+3) (O "applied") [V.d,W.d,.tup (r.map Wt.d)] h=.ok (oS o) h/\step (.back V (.fn W::r))=oA o:=by
 cases W with
 |num z=>exact⟨Wv,by rw[Zc H.applied rfl];exact rfl,rfl⟩
 |clo E ar=>
  have hz2:=ha E ar rfl;have fin:∀(e:T) (ar':Ar),run P (n+2) (O "body_of") [(Th.clo E ar).d] h=.ok e.d h->run P (n+2) (O "entered") [(Th.clo E ar).d,V.d] h=.ok (.tup ar'.ds) h->run P (n+3) (O "applied") [V.d,(Th.clo E ar).d,.tup (r.map Wt.d)] h=.ok (Sta.go e ar' r).d h:=fun e ar' q1 q2=>by rw[Zc H.applied rfl];show Zh (xs2 (P.tbl (n+2)) Zdy [Wu V.d,Wu (Th.clo E ar).d,Wu (.tup (r.map Wt.d))] h)=_;rw[nx1 (U:=P.tbl (n+2)) (ss:=Zdy) (ρ1:=[Wu V.d,Wu (Th.clo E ar).d,Wu (.tup (r.map Wt.d))]) (h2:=h) rfl rfl];exact rt1 (U:=P.tbl (n+2)) (ss:=tlS Zdy) (Zx (Za9 (Zd rfl (Zd (Zr q1 rfl) (Zd (Zr q2 rfl) rfl))) (by simp))) rfl
  cases E with
  |fn x e=>exact⟨Wu (.go e (.cons x V ar) r),fin e _ (Znj H.toThg n (h:=h) (.fn x e) e ar rfl) (ZgT H.toThg (n+1) (h:=h) (.fn x e) e ar (.cons x V ar) V hz2 (.inl ⟨x,rfl,rfl⟩)),rfl⟩
  |rcc f x e=>exact⟨Wu (.go e (.cons x V (.cons f (.clo (.rcc f x e) ar) ar)) r),fin e _ (Znj H.toThg n (h:=h) (.rcc f x e) e ar rfl) (ZgT H.toThg (n+1) (h:=h) (.rcc f x e) e ar (.cons x V (.cons f (.clo (.rcc f x e) ar) ar)) V hz2 (.inr ⟨f,x,rfl,rfl⟩)),rfl⟩
  |_=>cases ok.1
theorem Zl0(H:Row0 P)(n:Nat)(V:Th)(t e:T)(ar:Ar)(r:List Wt):∃o,run P (n+3) (O "gone_on") [V.d,(Wt.iff t e ar).d,.tup (r.map Wt.d)] h=.ok (oS o) h/\step (.back V (.iff t e ar::r))=oA o:=by
 have q:=ZfT H.toThg (n+1) (h:=h) V t.d e.d;cases V with
 |num z=>
  refine⟨Wu (.go (if z=0 then e else t) ar r),?_,rfl⟩;have q':run P (n+2) (O "chosen") [(Th.num z).d,t.d,e.d] h=.ok (if z=0 then e else t).d h:=by rw[q];simp only;split<;>rfl
  generalize (if z=0 then e else t)=u at q' ⊢;rw[Zc H.gone_on rfl];show Zh (xs2 (P.tbl (n+2)) Za0 [Wu (Th.num z).d,Wu (Wt.iff t e ar).d,Wu (.tup (r.map Wt.d)),Wv] h)=_;rw[nx1 (U:=P.tbl (n+2)) (ss:=Za0) (ρ1:=[Wu (Th.num z).d,Wu (Wt.iff t e ar).d,Wu (.tup (r.map Wt.d)),Wu u.d]) (h2:=h) (Zj q' rfl rfl) rfl,nx1 (U:=P.tbl (n+2)) (ss:=tlS Za0) (ρ1:=[Wu (Th.num z).d,Wu (Wt.iff t e ar).d,Wu (.tup (r.map Wt.d)),Wu u.d]) (h2:=h) ((Zw (Zol (x:=u.d) (h1:=h) rfl (by cases u<;>simp[T.d]))).trans rfl) rfl];rfl
 |clo E ar2=>refine⟨Wv,?_,rfl⟩;rw[Zc H.gone_on rfl];show Zh (xs2 (P.tbl (n+2)) Za0 [Wu (Th.clo E ar2).d,Wu (Wt.iff t e ar).d,Wu (.tup (r.map Wt.d)),Wv] h)=_;rw[nx1 (U:=P.tbl (n+2)) (ss:=Za0) (ρ1:=[Wu (Th.clo E ar2).d,Wu (Wt.iff t e ar).d,Wu (.tup (r.map Wt.d)),Wu .non]) (h2:=h) (Zj q rfl rfl) rfl];exact rt1 (U:=P.tbl (n+2)) (ss:=tlS Za0) ((Zs (Zmv (h1:=h) rfl)).trans (Ze rfl)) rfl
theorem ZjG(H:Row0 P)(n:Nat)(V W:Th)(o:Wd)(r:List Wt)(okV:ZeO V)(okW:ZeO W):∃u,run P (n+3) (O "reckoned") [V.d,(Wt.left o W).d,.tup (r.map Wt.d)] h=.ok (oS u) h/\step (.back V (.left o W::r))=oA u:=by
 have q:=ZfS H.toThg (n+1) (h:=h) o W V (fun z e=>by subst e;exact okW) (fun z e=>by subst e;exact okV);have no:wkD o W V=.non->run P (n+3) (O "reckoned") [V.d,(Wt.left o W).d,.tup (r.map Wt.d)] h=.ok .non h:=fun e=>by rw[e]at q;rw[Zc H.reckoned rfl];show Zh (xs2 (P.tbl (n+2)) Zax [Wu V.d,Wu (Wt.left o W).d,Wu (.tup (r.map Wt.d)),Wv] h)=_;rw[nx1 (U:=P.tbl (n+2)) (ss:=Zax) (ρ1:=[Wu V.d,Wu (Wt.left o W).d,Wu (.tup (r.map Wt.d)),Wu .non]) (h2:=h) (Zj q rfl rfl) rfl];exact rt1 (U:=P.tbl (n+2)) (ss:=tlS Zax) ((Zs (Zmv (h1:=h) rfl)).trans (Ze rfl)) rfl
 cases W with
 |clo E ar=>exact⟨Wv,no rfl,rfl⟩
 |num x=>
  cases V with
  |clo E ar=>exact⟨Wv,no rfl,rfl⟩
  |num y=>refine⟨Wu (.back (.num (wk o x y)) r),?_,rfl⟩;have q':run P (n+2) (O "worked") [.str o.s,(Th.num x).d,(Th.num y).d] h=.ok (Th.num (wk o x y)).d h:=q;rw[Zc H.reckoned rfl];show Zh (xs2 (P.tbl (n+2)) Zax [Wu (Th.num y).d,Wu (Wt.left o (.num x)).d,Wu (.tup (r.map Wt.d)),Wv] h)=_;rw[nx1 (U:=P.tbl (n+2)) (ss:=Zax) (ρ1:=[Wu (Th.num y).d,Wu (Wt.left o (.num x)).d,Wu (.tup (r.map Wt.d)),Wu (Th.num (wk o x y)).d]) (h2:=h) (Zj q' rfl rfl) rfl,nx1 (U:=P.tbl (n+2)) (ss:=tlS Zax) (ρ1:=[Wu (Th.num y).d,Wu (Wt.left o (.num x)).d,Wu (.tup (r.map Wt.d)),Wu (Th.num (wk o x y)).d]) (h2:=h) ((Zw (Zol (x:=(Th.num (wk o x y)).d) (h1:=h) rfl (by simp[Th.d]))).trans rfl) rfl];rfl
theorem ZjL (H:Row0 P) (n:Nat) (V:Th) (rest:List Wt) (ok:Zb9 (.back V rest)) (hz:rest.length<=1000000) (ha:∀ W r,rest=.fn W::r->∀ E ar,W=.clo E ar->ar.len<=1000000):run P (n+5) (O "back_step") [V.d,.tup (rest.map Wt.d)] h=.ok (step (.back V rest)).d h:=by
 rw [Zc H.back_step rfl];cases rest with
 | nil=>exact rfl
 | cons w r =>
   have hr:r.length<=1000000:=by simp at hz;omega
   have okw:=ok.2 w (by simp);show Zh (xs2 (P.tbl (n+4)) Zp [Wu V.d,Wu (.tup (w.d::r.map Wt.d)),Wv] h)=_;have x2:xs1 (P.tbl (n+4)) (hdS (tlS Zp)) [Wu V.d,Wu (.tup (w.d::r.map Wt.d)),Wv] h=.ok (.nx,[Wu V.d,Wu (.tup (w.d::r.map Wt.d)),Wu w.d]) h:=Zu (i:=2) (by
     show R.ofO (atI (w.d::r.map Wt.d) 0) h=_;rw [Zrr];rfl)
   rw [nx1 (U:=P.tbl (n+4)) (ss:=Zp) (ρ1:=[Wu V.d,Wu (.tup (w.d::r.map Wt.d)),Wv]) (h2:=h) rfl rfl,nx1 (U:=P.tbl (n+4)) (ss:=tlS Zp) x2 rfl];have es:ev (P.tbl (n+4)) (.sl (.var 1) (Wu (.cst (.int 1))) Wv) [Wu V.d,Wu (.tup (w.d::r.map Wt.d)),Wu w.d] h=.ok (.tup (r.map Wt.d)) h:=by
     show R.ok (D.tup (cutD (w.d::r.map Wt.d) (Wu 1) Wv)) h=_;rw [ZmC]
   have eb:∀ (e:Ex) (d:D),ev (P.tbl (n+4)) e [Wu V.d,Wu (.tup (w.d::r.map Wt.d)),Wu w.d] h=.ok (.tup [d]) h->ev (P.tbl (n+4)) (.bin .Add e (.sl (.var 1) (Wu (.cst (.int 1))) Wv)) [Wu V.d,Wu (.tup (w.d::r.map Wt.d)),Wu w.d] h=.ok (.tup (d::r.map Wt.d)) h:=fun e d q=>(Zao q es).trans (Ztb d (r.map Wt.d) (by simpa using hr));have lo:∀ o,run P (n+4) (O "loud_step") [V.d,w.d,.tup (r.map Wt.d)] h=.ok (oA o).d h->step (.back V (w::r))=oA o->xs1 (P.tbl (n+4)) (hdS (tlS (tlS Zp))) [Wu V.d,Wu (.tup (w.d::r.map Wt.d)),Wu w.d] h=.ok (.nx,[Wu V.d,Wu (.tup (w.d::r.map Wt.d)),Wu w.d]) h->xs1 (P.tbl (n+4)) (hdS (tlS (tlS (tlS Zp)))) [Wu V.d,Wu (.tup (w.d::r.map Wt.d)),Wu w.d] h=.ok (.nx,[Wu V.d,Wu (.tup (w.d::r.map Wt.d)),Wu w.d]) h->Zh (xs2 (P.tbl (n+4)) (tlS (tlS Zp)) [Wu V.d,Wu (.tup (w.d::r.map Wt.d)),Wu w.d] h)=.ok (step (.back V (w::r))).d h:=fun o e1 e2 y3 y4=>by
     rw [nx1 (U:=P.tbl (n+4)) (ss:=tlS (tlS Zp)) y3 rfl,nx1 (U:=P.tbl (n+4)) (ss:=tlS (tlS (tlS Zp))) y4 rfl,e2];exact rt1 (U:=P.tbl (n+4)) (ss:=tlS (tlS (tlS (tlS Zp)))) (Zx ((ZqF (Zd rfl (Zd rfl (Zd es rfl)))).trans e1)) rfl
   cases w with
   | arg A ar =>
     have b1:=eb (.tupl (.cons (.tupl (.cons (.cst (.str (O "fun"))) (.cons (.var 0) .nil))) .nil)) (Wt.fn V).d rfl;exact rt1 (U:=P.tbl (n+4)) (ss:=tlS (tlS Zp)) ((Zs rfl).trans (Ze (Zx (Za9 (Zd rfl (Zd (Za9 (Zd rfl (Zd rfl (Zd rfl (Zd b1 rfl)))) (by simp)) rfl)) (by simp))))) rfl
   | right o F ar =>
     have b1:=eb (.tupl (.cons (.tupl (.cons (.cst (.str (O "left"))) (.cons (.ix (.var 2) (.cst (.int 1))) (.cons (.var 0) .nil)))) .nil)) (Wt.left o V).d rfl;rw [nx1 (U:=P.tbl (n+4)) (ss:=tlS (tlS Zp)) (ρ1:=[Wu V.d,Wu (.tup ((Wt.right o F ar).d::r.map Wt.d)),Wu (Wt.right o F ar).d]) (h2:=h) rfl rfl];exact rt1 (U:=P.tbl (n+4)) (ss:=tlS (tlS (tlS Zp))) ((Zs rfl).trans (Ze (Zx (Za9 (Zd rfl (Zd (Za9 (Zd rfl (Zd rfl (Zd rfl (Zd b1 rfl)))) (by simp)) rfl)) (by simp))))) rfl
   | fn W =>
     obtain ⟨o,e1,e2⟩:=Zl1 H n (h:=h) V W r okw (ha W r rfl);refine lo o ?_ e2 rfl rfl;rw [Zc H.loud_step rfl];show Zh (xs2 (P.tbl (n+3)) ZJ [Wu V.d,Wu (Wt.fn W).d,Wu (.tup (r.map Wt.d)),Wv] h)=_;rw [nx1 (U:=P.tbl (n+3)) (ss:=ZJ) (ρ1:=[Wu V.d,Wu (Wt.fn W).d,Wu (.tup (r.map Wt.d)),Wu (oS o)]) (h2:=h) ((Zs rfl).trans (Za (Zj e1 rfl rfl))) rfl];exact rt1 (U:=P.tbl (n+3)) (ss:=tlS ZJ) (Zj (ZjI H.toThg (n+2) o) rfl rfl) rfl
   | iff t e ar =>
     obtain ⟨o,e1,e2⟩:=Zl0 H n (h:=h) V t e ar r;refine lo o ?_ e2 rfl rfl;rw [Zc H.loud_step rfl];show Zh (xs2 (P.tbl (n+3)) ZJ [Wu V.d,Wu (Wt.iff t e ar).d,Wu (.tup (r.map Wt.d)),Wv] h)=_;rw [nx1 (U:=P.tbl (n+3)) (ss:=ZJ) (ρ1:=[Wu V.d,Wu (Wt.iff t e ar).d,Wu (.tup (r.map Wt.d)),Wu (oS o)]) (h2:=h) ((Zw rfl).trans (Za ((Zs rfl).trans (Za (Zj e1 rfl rfl))))) rfl];exact rt1 (U:=P.tbl (n+3)) (ss:=tlS ZJ) (Zj (ZjI H.toThg (n+2) o) rfl rfl) rfl
   | left o W =>
     obtain ⟨u,e1,e2⟩:=ZjG H n (h:=h) V W o r ok.1 okw;refine lo u ?_ e2 rfl rfl;rw [Zc H.loud_step rfl];show Zh (xs2 (P.tbl (n+3)) ZJ [Wu V.d,Wu (Wt.left o W).d,Wu (.tup (r.map Wt.d)),Wv] h)=_;rw [nx1 (U:=P.tbl (n+3)) (ss:=ZJ) (ρ1:=[Wu V.d,Wu (Wt.left o W).d,Wu (.tup (r.map Wt.d)),Wu (oS u)]) (h2:=h) ((Zw rfl).trans (Za ((Zw rfl).trans (Za (Zj e1 rfl rfl))))) rfl];exact rt1 (U:=P.tbl (n+3)) (ss:=tlS ZJ) (Zj (ZjI H.toThg (n+2) u) rfl rfl) rfl
theorem ZrW(H:Row0 P)(n:Nat)(s:Sta)(ok:Zb9 s)(hz:match s with|.go _ _ rest=>rest.length<=1000000|.back _ rest=>rest.length<=1000000/\∀W r,rest=.fn W::r->∀E ar,W=.clo E ar->ar.len<=1000000):run P (n+6) (O "rows_step") [s.d] h=.ok (step s).d h:=by
 rw[Zc H.rows_step (by cases s<;>rfl)];cases s with
 |go E ar rest=>obtain⟨s,e1,e2⟩:=ZjK H (n+2) (h:=h) E ar rest ok.1 hz;rw[e1];exact rt1 (U:=P.tbl (n+5)) (ss:=Zbb) (S:=[Wu (Sta.go E ar rest).d]) (Zj e2 rfl rfl) rfl
 |back V rest=>have e:=ZjL H n (h:=h) V rest ok hz.1 hz.2;show Zh (xs2 (P.tbl (n+5)) Zbb [Wu (Sta.back V rest).d] h)=_;rw[nx1 (U:=P.tbl (n+5)) (ss:=Zbb) (ρ1:=[Wu (Sta.back V rest).d]) (h2:=h) rfl rfl];exact rt1 (U:=P.tbl (n+5)) (ss:=tlS Zbb) (Zj e rfl rfl) rfl
end Rw
end
section
namespace IV
open PySem L2
mutual
noncomputable def D.pure:D->Bool
 |.non|.bl _|.int _|.str _=>Ww
 |.tup xs=>D.pures xs
 |_=>Wx
noncomputable def D.pures:List D->Bool
 |[]=>Ww
 |x::xs=>D.pure x&&D.pures xs
end
mutual
noncomputable def D.dp:D->Nat
 |.tup xs=>D.dps xs+1
 |_=>0
noncomputable def D.dps:List D->Nat
 |[]=>0
 |x::xs=>max (D.dp x) (D.dps xs)
end
mutual
theorem Zle{rd:Nat->Option PyData}:∀d:D,d.pure=Ww->∃p,D.py rd d=Wu p/\p.depth<=d.dp/\YQ p p=Ww
 |.non,_=>⟨.none,rfl,Oq _,rfl⟩
 |.bl b,_=>⟨.bool b,rfl,Oq _,by simp[YQ]⟩
 |.int b,_=>⟨.int b,rfl,Oq _,by simp[YQ]⟩
 |.str b,_=>⟨.str b,rfl,Oq _,by simp[YQ]⟩
 |.tup xs,h=>by
  obtain⟨ps,e1,e2,e3⟩:=pys_same (rd:=rd) xs (by simpa[D.pure]using h);refine⟨.tuple ps,by simp[D.py,e1],?_,?_⟩
  . simp only[PyData.depth,D.dp];omega
  . simpa[YQ]using e3
 |.ref _,h=>by cases h
 |.ty _,h=>by cases h
 |.ro _,h=>by cases h
 |.kd _,h=>by cases h
theorem pys_same{rd:Nat->Option PyData}:∀ds:List D,D.pures ds=Ww->∃ps,D.pys rd ds=Wu ps/\PyData.depthAll ps<=D.dps ds/\PyData.eqvAll ps ps=Ww
 |[],_=>⟨[],rfl,Oq _,by simp[PyData.eqvAll]⟩
 |x::xs,h=>by
  rw[D.pures,Oa]at h;obtain⟨p,a1,a2,a3⟩:=Zle (rd:=rd) x h.1;obtain⟨ps,b1,b2,b3⟩:=pys_same (rd:=rd) xs h.2;refine⟨p::ps,by simp[D.pys,a1,b1],?_,?_⟩
  . simp only[PyData.depthAll,D.dps];omega
  . simp[PyData.eqvAll,a3,b3]
end
theorem ZgV{n:Bool}{d:D}{h:Hd}(hp:d.pure=Ww)(hd:d.dp<=1100):Zb2 n d d h=.ok (.bl (!n)) h:=by obtain⟨p,e1,e2,e3⟩:=Zle (rd:=Zhr h 4) d hp;unfold Zb2;rw[show Ziw h d=Wu p from e1];simp only;rw[if_pos (by omega),e3];cases n<;>rfl
end IV
end
section
namespace Rw
open PySem L2 IV Gn
theorem T.pure_d:∀t:T,t.d.pure=Ww
 |.num _=>rfl
 |.name _=>rfl
 |.fn _ e=>by simp[T.d,D.pure,D.pures,T.pure_d e]
 |.rcc _ _ e=>by simp[T.d,D.pure,D.pures,T.pure_d e]
 |.call f a=>by simp[T.d,D.pure,D.pures,T.pure_d f,T.pure_d a]
 |.iff c t e=>by simp[T.d,D.pure,D.pures,T.pure_d c,T.pure_d t,T.pure_d e]
 |.op _ f a=>by simp[T.d,D.pure,D.pures,T.pure_d f,T.pure_d a]
theorem T.dp_d:∀t:T,t.d.dp=dep t+1
 |.num _=>rfl
 |.name _=>rfl
 |.fn _ e=>by simp[T.d,D.dp,D.dps,T.dp_d e,dep]
 |.rcc _ _ e=>by simp[T.d,D.dp,D.dps,T.dp_d e,dep]
 |.call f a=>by simp[T.d,D.dp,D.dps,T.dp_d f,T.dp_d a,dep]
 |.iff c t e=>by simp[T.d,D.dp,D.dps,T.dp_d c,T.dp_d t,T.dp_d e,dep]
 |.op _ f a=>by simp[T.d,D.dp,D.dps,T.dp_d f,T.dp_d a,dep]
theorem Zhe{x:Str}{v:Th}:∀{ar:Ar},ArOk ar->ar.get x=Wu v->ZeO v
 |.nil,_,h=>by simp[Ar.get]at h
 |.cons y u r,a,h=>by
  by_cases e:y=x
  . simp[Ar.get,e]at h;subst h;exact a.1
  . simp[Ar.get,e]at h;exact Zhe a.2 h
theorem wk_ok(w:Wd)(a b:Int):0<=wk w a b/\wk w a b<1000000:=by
 cases w<;>simp only[wk]
 . omega
 . omega
 . exact⟨Int.emod_nonneg _ (by decide),Int.emod_lt_of_pos _ (by decide)⟩
 . split<;>omega
theorem Zaj{α:Type}{p:α->Prop}{x:α}{xs:List α}(a:p x)(b:∀y∈xs,p y):∀y∈x::xs,p y:=by
 intro y hy;rcases O2.mp hy with rfl|hy
 . exact a
 . exact b y hy
end Rw
end
section
namespace Tm
open PySem L2 IV
noncomputable def Zal:Sxs:=(.cons (.iff (.ex (.cmp .NotIn (.ix (.var 0) (.cst (.int 0))) (.glo (O "FORMS")))) (.cons (.ret (.tupl .nil)) .nil) .nil) (.cons (.ret (.sl (.var 0) (Wu (.cst (.int 1))) (Wu (.bin .Add (.cst (.int 1)) (.ix (.ix (.glo (O "FORMS")) (.ix (.var 0) (.cst (.int 0)))) (.cst (.int 0))))))) .nil))
noncomputable def Zai:Fd:=⟨[(O "E")],[(O "E")],Zal⟩
noncomputable def ZbL:Sxs:=(.cons (.iff (.ex (.cmp .NotIn (.ix (.var 0) (.cst (.int 0))) (.glo (O "FORMS")))) (.cons (.ret (.var 0)) .nil) .nil) (.cons (.ret (.sl (.var 0) Wv (Wu (.bin .Add (.cst (.int 1)) (.ix (.ix (.glo (O "FORMS")) (.ix (.var 0) (.cst (.int 0)))) (.cst (.int 0))))))) .nil))
noncomputable def ZbE:Fd:=⟨[(O "E")],[(O "E")],ZbL⟩
noncomputable def Zak:Sxs:=(.cons (.iff (.ex (.cmp .NotIn (.ix (.var 0) (.cst (.int 0))) (.glo (O "FORMS")))) (.cons (.ret (.cst (.int 0))) .nil) .nil) (.cons (.ret (.ix (.ix (.glo (O "FORMS")) (.ix (.var 0) (.cst (.int 0)))) (.cst (.int 1)))) .nil))
noncomputable def Zah:Fd:=⟨[(O "front")],[(O "front")],Zak⟩
noncomputable def ZlH:Sxs:=(.cons (.set (.nm 1) (.lstl .nil)) (.cons (.forr (.nm 2) (.rev (.var 0)) (.cons (.set (.nm 3) (.comp [(O "k"),(O "done")] [Wv,Wu 1] (.rng (.call (O "count_parts") (.cons (.var 2) .nil))) (.nm 0) Wv (.meth .pop (.var 1) .nil))) (.cons (.drp (.meth .app (.var 1) (.cons (.bin .Add (.var 2) (.blt .tup (.cons (.var 3) .nil))) .nil))) .nil))) (.cons (.ret (.ix (.var 1) (.cst (.int 0)))) .nil)))
noncomputable def Zdw:Fd:=⟨[(O "fronts")],[(O "fronts"),(O "done"),(O "front"),(O "parts")],ZlH⟩
noncomputable def Zha:Sxs:=(.cons (.ret (.cmp .Gt (.blt .len (.cons (.call (O "places") (.cons (.var 0) .nil)) .nil)) (.glo (O "WIDEST")))) .nil)
noncomputable def Zbt:Fd:=⟨[(O "E")],[(O "E")],Zha⟩
noncomputable def Z6:Sxs:=(.cons (.forr (.two 2 3) (.pl (.var 1)) (.cons (.iff (.ex (.cmp .Eq (.var 2) (.var 0))) (.cons (.ret (.var 3)) .nil) .nil) .nil)) (.cons (.ret (.cst .non)) .nil))
noncomputable def Zaw:Fd:=⟨[(O "name"),(O "around")],[(O "name"),(O "around"),(O "known"),(O "thing")],Z6⟩
noncomputable def ZoS:Sxs:=(.cons (.iff (.ex (.cmp .Eq (.ix (.var 0) (.cst (.int 0))) (.cst (.str (O "clo"))))) (.cons (.ret (.sl (.var 0) (Wu (.cst (.int 1))) Wv)) .nil) .nil) (.cons (.ret (.tupl (.cons (.var 0) (.cons (.tupl .nil) .nil)))) .nil))
noncomputable def Zc7:Fd:=⟨[(O "thing")],[(O "thing")],ZoS⟩
noncomputable def ZkM:Sxs:=(.cons (.iff (.ex (.cmp .NotEq (.ix (.var 0) (.cst (.int 0))) (.cst (.str (O "name"))))) (.cons (.ret (.cst .non)) .nil) .nil) (.cons (.ret (.call (O "bound_to") (.cons (.ix (.var 0) (.cst (.int 1))) (.cons (.var 1) .nil)))) .nil))
noncomputable def Zas:Fd:=⟨[(O "place"),(O "around")],[(O "place"),(O "around")],ZkM⟩
noncomputable def Zjn:Sxs:=(.cons (.ret (.bin .Add (.blt .tup (.cons (.comp [(O "name")] [Wv] (.pl (.call (O "bound_names") (.cons (.var 0) .nil))) (.nm 0) Wv (.tupl (.cons (.var 0) (.cons (.cst .non) .nil)))) .nil)) (.var 1))) .nil)
noncomputable def Zci:Fd:=⟨[(O "place"),(O "around")],[(O "place"),(O "around")],Zjn⟩
noncomputable def ZkN:Sxs:=(.cons (.ret (.cmp .In (.ix (.var 0) (.cst (.int 0))) (.glo (O "VALUES")))) .nil)
noncomputable def Zav:Fd:=⟨[(O "E")],[(O "E")],ZkN⟩
noncomputable def ZcC:Sx:=(.set (.nm 2) (.blt .tup (.cons (.comp [(O "name"),(O "filling")] [Wv,Wu 1] (.dk (.var 1)) (.nm 0) Wv (.tupl (.cons (.var 0) (.cons (.tupl (.cons (.cst (.str (O "clo"))) (.cons (.ix (.var 1) (.var 0)) (.cons (.tupl .nil) .nil)))) .nil)))) .nil)))
noncomputable def ZcB:Sx:=(.ret (.mcl (O "Pen") (O "filled") (.mk (O "Pen") (.cons (.cst .non) .nil)) (.cons (.var 0) (.cons (.var 2) .nil))))
noncomputable def ZoR:Sxs:=(.cons ZcC (.cons ZcB .nil))
noncomputable def Zc6:Fd:=⟨[(O "E"),(O "filling")],[(O "E"),(O "filling"),(O "around")],ZoR⟩
noncomputable def ZgE:Sxs:=(.cons (.iff (.ex (.cmp .Eq (.ix (.var 0) (.cst (.int 0))) (.cst (.str (O "if"))))) (.cons (.ret (.sl (.var 0) (Wu (.cst (.int 1))) (Wu (.cst (.int 2))))) .nil) .nil) (.cons (.ret (.call (O "parts_of") (.cons (.var 0) .nil))) .nil))
noncomputable def Zz:Fd:=⟨[(O "E")],[(O "E")],ZgE⟩
noncomputable def Zh7:Sxs:=(.cons (.forr (.two 1 2) (.en1 (.call (O "parts_first") (.cons (.var 0) .nil))) (.cons (.iff (.nt (.ex (.call (O "is_value") (.cons (.var 2) .nil)))) (.cons (.ret (.var 1)) .nil) .nil) .nil)) (.cons (.ret (.cst .non)) .nil))
noncomputable def ZaJ:Fd:=⟨[(O "E")],[(O "E"),(O "k"),(O "part")],Zh7⟩
noncomputable def Zgr:Sxs:=(.cons (.set (.nm 1) (.lstl (.cons (.tupl (.cons (.var 0) (.cons (.call (O "first_open") (.cons (.var 0) .nil)) .nil))) .nil))) (.cons (.whl (.ex (.cmp .IsNot (.ix (.ix (.var 1) (.neg (.cst (.int 1)))) (.cst (.int 1))) (.cst .non))) (.cons (.set (.nm 2) (.ix (.ix (.ix (.var 1) (.neg (.cst (.int 1)))) (.cst (.int 0))) (.ix (.ix (.var 1) (.neg (.cst (.int 1)))) (.cst (.int 1))))) (.cons (.drp (.meth .app (.var 1) (.cons (.tupl (.cons (.var 2) (.cons (.call (O "first_open") (.cons (.var 2) .nil)) .nil))) .nil))) .nil))) (.cons (.ret (.var 1)) .nil)))
noncomputable def Zbx:Fd:=⟨[(O "E")],[(O "E"),(O "way"),(O "inner")],Zgr⟩
noncomputable def Zdl:Sxs:=(.cons (.iff (.ex (.cmp .Eq (.ix (.var 0) (.cst (.int 0))) (.cst (.str (O "fn"))))) (.cons (.ret (.call (O "put_in") (.cons (.ix (.var 0) (.cst (.int 2))) (.cons (.dictl (.cons (.ix (.var 0) (.cst (.int 1))) (.cons (.var 1) .nil))) .nil)))) .nil) .nil) (.cons (.iff (.ex (.cmp .Eq (.ix (.var 0) (.cst (.int 0))) (.cst (.str (O "rec"))))) (.cons (.ret (.call (O "put_in") (.cons (.ix (.var 0) (.cst (.int 3))) (.cons (.dictl (.cons (.ix (.var 0) (.cst (.int 1))) (.cons (.var 0) (.cons (.ix (.var 0) (.cst (.int 2))) (.cons (.var 1) .nil))))) .nil)))) .nil) .nil) (.cons (.ret (.cst .non)) .nil)))
noncomputable def Zc8:Fd:=⟨[(O "F"),(O "A")],[(O "F"),(O "A")],Zdl⟩
noncomputable def Zdk:Sxs:=(.cons (.iff (.ex (.cmp .NotEq (.ix (.var 0) (.cst (.int 0))) (.cst (.str (O "num"))))) (.cons (.ret (.cst .non)) .nil) .nil) (.cons (.ret (.ite (.ex (.cmp .Eq (.ix (.var 0) (.cst (.int 1))) (.cst (.int 0)))) (.var 2) (.var 1))) .nil))
noncomputable def ZaK:Fd:=⟨[(O "C"),(O "T"),(O "E")],[(O "C"),(O "T"),(O "E")],Zdk⟩
noncomputable def Zgq:Sx:=(.iff (.ors (.cons (.ex (.cmp .NotEq (.ix (.var 1) (.cst (.int 0))) (.cst (.str (O "num"))))) (.one (.ex (.cmp .NotEq (.ix (.var 2) (.cst (.int 0))) (.cst (.str (O "num")))))))) (.cons (.ret (.cst .non)) .nil) .nil)
noncomputable def ZkG:Sx:=(.iff (.ex (.cmp .Eq (.var 0) (.cst (.str (O "<"))))) (.cons (.ret (.tupl (.cons (.cst (.str (O "num"))) (.cons (.ite (.ex (.cmp .Lt (.ix (.var 1) (.cst (.int 1))) (.ix (.var 2) (.cst (.int 1))))) (.cst (.int 1)) (.cst (.int 0))) .nil)))) .nil) .nil)
noncomputable def ZkF:Sx:=(.iff (.ex (.cmp .Eq (.var 0) (.cst (.str (O "+"))))) (.cons (.ret (.tupl (.cons (.cst (.str (O "num"))) (.cons (.bin .Mod (.bin .Add (.ix (.var 1) (.cst (.int 1))) (.ix (.var 2) (.cst (.int 1)))) (.glo (O "BEYOND"))) .nil)))) .nil) .nil)
noncomputable def ZkE:Sx:=(.iff (.ex (.cmp .Eq (.var 0) (.cst (.str (O "-"))))) (.cons (.ret (.tupl (.cons (.cst (.str (O "num"))) (.cons (.bin .Mod (.bin .Sub (.ix (.var 1) (.cst (.int 1))) (.ix (.var 2) (.cst (.int 1)))) (.glo (O "BEYOND"))) .nil)))) .nil) .nil)
noncomputable def ZkD:Sx:=(.ret (.tupl (.cons (.cst (.str (O "num"))) (.cons (.bin .Mod (.bin .Mult (.ix (.var 1) (.cst (.int 1))) (.ix (.var 2) (.cst (.int 1)))) (.glo (O "BEYOND"))) .nil))))
noncomputable def ZF:Sxs:=(.cons Zgq (.cons ZkG (.cons ZkF (.cons ZkE (.cons ZkD .nil)))))
noncomputable def Za3:Fd:=⟨[(O "word"),(O "first"),(O "second")],[(O "word"),(O "first"),(O "second")],ZF⟩
noncomputable def ZkQ:Sx:=(.iff (.ex (.cmp .Eq (.ix (.var 0) (.cst (.int 0))) (.cst (.str (O "call"))))) (.cons (.ret (.call (O "called") (.cons (.ix (.var 0) (.cst (.int 1))) (.cons (.ix (.var 0) (.cst (.int 2))) .nil)))) .nil) .nil)
noncomputable def ZkP:Sx:=(.iff (.ex (.cmp .Eq (.ix (.var 0) (.cst (.int 0))) (.cst (.str (O "if"))))) (.cons (.ret (.call (O "chosen") (.cons (.ix (.var 0) (.cst (.int 1))) (.cons (.ix (.var 0) (.cst (.int 2))) (.cons (.ix (.var 0) (.cst (.int 3))) .nil))))) .nil) .nil)
noncomputable def ZkO:Sx:=(.ret (.call (O "worked") (.cons (.ix (.var 0) (.cst (.int 0))) (.cons (.ix (.var 0) (.cst (.int 1))) (.cons (.ix (.var 0) (.cst (.int 2))) .nil)))))
noncomputable def ZaP:Sxs:=(.cons ZkQ (.cons ZkP (.cons ZkO .nil)))
noncomputable def Zc9:Fd:=⟨[(O "E")],[(O "E")],ZaP⟩
noncomputable def Zgs:Sxs:=(.cons (.set (.nm 2) (.var 1)) (.cons (.forr (.two 3 4) (.rev (.var 0)) (.cons (.set (.nm 2) (.bin .Add (.bin .Add (.sl (.var 3) Wv (Wu (.var 4))) (.tupl (.cons (.var 2) .nil))) (.sl (.var 3) (Wu (.bin .Add (.var 4) (.cst (.int 1)))) Wv))) .nil)) (.cons (.ret (.var 2)) .nil)))
noncomputable def ZbA:Fd:=⟨[(O "way"),(O "E")],[(O "way"),(O "E"),(O "whole"),(O "place"),(O "inner")],Zgs⟩
noncomputable def ZbU:Sx:=(.iff (.ex (.call (O "is_value") (.cons (.var 0) .nil))) (.cons (.ret (.tupl (.cons (.cst (.str (O "value"))) .nil))) .nil) .nil)
noncomputable def Zdd:Sx:=(.set (.nm 1) (.call (O "way_down") (.cons (.var 0) .nil)))
noncomputable def Zdc:Sx:=(.set (.nm 2) (.call (O "become") (.cons (.ix (.ix (.var 1) (.neg (.cst (.int 1)))) (.cst (.int 0))) .nil)))
noncomputable def ZbT:Sx:=(.iff (.ex (.cmp .Is (.var 2) (.cst .non))) (.cons (.ret (.tupl (.cons (.cst (.str (O "stuck"))) .nil))) .nil) .nil)
noncomputable def Zdb:Sx:=(.ret (.tupl (.cons (.cst (.str (O "loud"))) (.cons (.call (O "put_back") (.cons (.sl (.var 1) Wv (Wu (.neg (.cst (.int 1))))) (.cons (.var 2) .nil))) .nil))))
noncomputable def ZmG:Sxs:=(.cons ZbU (.cons Zdd (.cons Zdc (.cons ZbT (.cons Zdb .nil)))))
noncomputable def Zcj:Fd:=⟨[(O "E")],[(O "E"),(O "way"),(O "F")],ZmG⟩
noncomputable def ZkL:Sx:=(.set (.nm 2) (.lstl (.cons (.var 0) .nil)))
noncomputable def ZkK:Sx:=(.set (.nm 3) (.call (O "stepped") (.cons (.var 0) .nil)))
noncomputable def ZkJ:Sx:=(.whl (.ex (.cmp .Eq (.ix (.var 3) (.cst (.int 0))) (.cst (.str (O "loud"))))) (.cons (.iff (.ex (.cmp .Gt (.blt .len (.cons (.var 2) .nil)) (.var 1))) (.cons (.ret (.tupl (.cons (.var 2) (.cons (.cst (.str (O "open"))) .nil)))) .nil) .nil) (.cons (.iff (.ex (.call (O "is_wide") (.cons (.ix (.var 3) (.cst (.int 1))) .nil))) (.cons (.ret (.tupl (.cons (.var 2) (.cons (.cst (.str (O "wide"))) .nil)))) .nil) .nil) (.cons (.drp (.meth .app (.var 2) (.cons (.ix (.var 3) (.cst (.int 1))) .nil))) (.cons (.set (.nm 3) (.call (O "stepped") (.cons (.ix (.var 3) (.cst (.int 1))) .nil))) .nil)))))
noncomputable def ZkI:Sx:=(.ret (.tupl (.cons (.var 2) (.cons (.ix (.var 3) (.cst (.int 0))) .nil))))
noncomputable def Zjp:Sxs:=(.cons ZkL (.cons ZkK (.cons ZkJ (.cons ZkI .nil))))
noncomputable def Zc5:Fd:=⟨[(O "E"),(O "most")],[(O "E"),(O "most"),(O "row"),(O "step")],Zjp⟩
noncomputable def Zdm:Sxs:=(.cons (.seta [(O "Pen")] (.var 0) (O "most") (.var 1)) (.cons (.seta [(O "Pen")] (.var 0) (O "used") (.cst (.int 0))) .nil))
noncomputable def ZS:Fd:=⟨[(O "self"),(O "most")],[(O "self"),(O "most")],Zdm⟩
noncomputable def ZkH(x:Sx):Sxs:=(.cons (.iff (.ex (.cmp .Eq (.att [(O "Pen")] (.var 0) (O "used")) (.att [(O "Pen")] (.var 0) (O "most")))) (.cons x .nil) .nil) (.cons (.auga [(O "Pen")] (.var 0) (O "used") (.cst (.int 1))) .nil))
noncomputable def Zku(x:Sx):Fd:=⟨[(O "self")],[(O "self")],ZkH x⟩
noncomputable def ZcF:Sxs:=(.cons (.set (.nm 3) (.lstl .nil)) (.cons (.set (.nm 4) (.lstl (.cons (.tupl (.cons (.var 1) (.cons (.var 2) .nil))) .nil))) (.cons (.whl (.ex (.var 4)) (.cons (.set (.nm 5) (.meth .pop (.var 4) .nil)) (.cons (.set (.nm 6) (.call (O "meant_by") (.cons (.ix (.var 5) (.cst (.int 0))) (.cons (.ix (.var 5) (.cst (.int 1))) .nil)))) (.cons (.iff (.ex (.cmp .Is (.var 6) (.cst .non))) (.cons (.drp (.mcl (O "Pen") (O "take_place") (.var 0) .nil)) (.cons (.drp (.meth .app (.var 3) (.cons (.call (O "front_of") (.cons (.ix (.var 5) (.cst (.int 0))) .nil)) .nil))) (.cons (.set (.nm 7) (.call (O "within") (.cons (.ix (.var 5) (.cst (.int 0))) (.cons (.ix (.var 5) (.cst (.int 1))) .nil)))) (.cons (.drp (.meth .ext (.var 4) (.cons (.comp [(O "part"),(O "inner")] [Wv,Wu 7] (.rev (.call (O "parts_of") (.cons (.ix (.var 5) (.cst (.int 0))) .nil))) (.nm 0) Wv (.tupl (.cons (.var 0) (.cons (.var 1) .nil)))) .nil))) .nil)))) (.cons (.drp (.meth .app (.var 4) (.cons (.call (O "opened") (.cons (.var 6) .nil)) .nil))) .nil)) .nil)))) (.cons (.ret (.call (O "built") (.cons (.var 3) .nil))) .nil))))
noncomputable def ZaM:Fd:=⟨[(O "self"),(O "E"),(O "around")],[(O "self"),(O "E"),(O "around"),(O "fronts"),(O "waiting"),(O "pair"),(O "thing"),(O "inner")],ZcF⟩
structure Trb(P:Pg):Prop extends Gn.Tre P where
 bound_names:P.tb.lookup (O "bound_names")=Wu Zai
 front_of:P.tb.lookup (O "front_of")=Wu ZbE
 count_parts:P.tb.lookup (O "count_parts")=Wu Zah
 built:P.tb.lookup (O "built")=Wu Zdw
 bound_to:P.tb.lookup (O "bound_to")=Wu Zaw
 opened:P.tb.lookup (O "opened")=Wu Zc7
 meant_by:P.tb.lookup (O "meant_by")=Wu Zas
 within:P.tb.lookup (O "within")=Wu Zci
 n_Pen___init__:P.tb.lookup (mnm (O "Pen") (O "__init__"))=Wv
 Pen___init__:P.ms.lookup (mnm (O "Pen") (O "__init__"))=Wu ZS
 n_Pen_take_place:P.tb.lookup (mnm (O "Pen") (O "take_place"))=Wv
 tk:∃x,P.ms.lookup (mnm (O "Pen") (O "take_place"))=Wu (Zku x)
 n_Pen_filled:P.tb.lookup (mnm (O "Pen") (O "filled"))=Wv
 Pen_filled:P.ms.lookup (mnm (O "Pen") (O "filled"))=Wu ZaM
structure Trm(P:Pg):Prop extends Trb P where
 is_value:P.tb.lookup (O "is_value")=Wu Zav
 put_in:P.tb.lookup (O "put_in")=Wu Zc6
 parts_first:P.tb.lookup (O "parts_first")=Wu Zz
 first_open:P.tb.lookup (O "first_open")=Wu ZaJ
 way_down:P.tb.lookup (O "way_down")=Wu Zbx
 called:P.tb.lookup (O "called")=Wu Zc8
 chosen:P.tb.lookup (O "chosen")=Wu ZaK
 worked:P.tb.lookup (O "worked")=Wu Za3
 become:P.tb.lookup (O "become")=Wu Zc9
 put_back:P.tb.lookup (O "put_back")=Wu ZbA
 stepped:P.tb.lookup (O "stepped")=Wu Zcj
 gv:P.G (O "VALUES")=Wu (.tup [.str (O "num"),.str (O "fn"),.str (O "rec")])
 gb:P.G (O "BEYOND")=Wu (.int 1000000)
structure Trw(P:Pg):Prop extends Trm P where
 is_wide:P.tb.lookup (O "is_wide")=Wu Zbt
 row_of:P.tb.lookup (O "row_of")=Wu Zc5
 gw:P.G (O "WIDEST")=Wu (.int 120)
 pl:P.tb.lookup (O "places")=Wu Gn.ZbB
end Tm
end
section
namespace Tm
open PySem L2 IV
variable {P:Pg}{h:Hd}
section
variable {w:Wd}
@[simp] theorem Zvp:(w.s=O "num")↔False:=by cases w<;>simp[Wd.s]
@[simp] theorem Zvg:(w.s=O "name")↔False:=by cases w<;>simp[Wd.s]
@[simp] theorem Zvh:(w.s=O "call")↔False:=by cases w<;>simp[Wd.s]
@[simp] theorem Zws:(w.s=O "if")↔False:=by cases w<;>simp[Wd.s]
@[simp] theorem Zwt:(w.s=O "fn")↔False:=by cases w<;>simp[Wd.s]
@[simp] theorem Zvo:(w.s=O "rec")↔False:=by cases w<;>simp[Wd.s]
@[simp] theorem Zfv:Zad Gn.Zch (.inr w.s)=Wu (.tup [.int 0,.int 2]):=by cases w<;>rfl
end
noncomputable def bnd:T->List Str
 |.fn x _=>[x]
 |.rcc f x _=>[f,x]
 |_=>[]
noncomputable def fr:T->List D
 |.num n=>[.str (O "num"),.int n]
 |.name x=>[.str (O "name"),.str x]
 |.fn x _=>[.str (O "fn"),.str x]
 |.rcc f x _=>[.str (O "rec"),.str f,.str x]
 |.call _ _=>[.str (O "call")]
 |.iff _ _ _=>[.str (O "if")]
 |.op w _ _=>[.str w.s]
theorem Zwj(t:T):t.d=.tup (fr t++t.parts.map T.d):=by cases t<;>rfl
theorem Zhv(H:Trb P)(n:Nat)(t:T)(h:Hd):run P (n+1) (O "bound_names") [t.d] h=.ok (.tup ((bnd t).map .str)) h:=by
 have no:∀(w:Str) (ds:List D),Zad Gn.Zch (.inr w)=Wv->run P (n+1) (O "bound_names") [.tup (.str w::ds)] h=.ok (.tup []) h:=fun w ds e=>by rw[Zc H.bound_names rfl];show Zh (xs2 (P.tbl n) Zal [Wu (.tup (.str w::ds))] h)=_;rw[Zal,Ze ((Zs (Gn.ZbR H.toTre ⟨rfl,rfl⟩ Gn.Zc3 e)).trans (Ze (Zx (d:=.tup []) rfl)))];rfl
 have yes:∀(w:Str) (ds:List D) (a b:Int),Zad Gn.Zch (.inr w)=Wu (.tup [.int a,.int b])->run P (n+1) (O "bound_names") [.tup (.str w::ds)] h=.ok (.tup (cutD (.str w::ds) (Wu 1) (Wu (1+a)))) h:=fun w ds a b e=>by rw[Zc H.bound_names rfl];show Zh (xs2 (P.tbl n) Zal [Wu (.tup (.str w::ds))] h)=_;have q:=Gn.Zks H.toTre (U:=P.tbl n) ⟨rfl,rfl⟩ (ds:=ds) (h:=h) e;have r:ev (P.tbl n) (.sl (.var 0) (Wu (.cst (.int 1))) (Wu (.bin .Add (.cst (.int 1)) (.ix (.ix (.glo (O "FORMS")) (.ix (.var 0) (.cst (.int 0)))) (.cst (.int 0)))))) [Wu (.tup (.str w::ds))] h=.ok (.tup (cutD (.str w::ds) (Wu 1) (Wu (1+a)))) h:=(Gn.Zk4 (a:=.var 0) (x:=.tup (.str w::ds)) rfl rfl (Gn.ZhQ q)).trans rfl;rw[Zal,Za ((Zw (Gn.ZbR H.toTre ⟨rfl,rfl⟩ Gn.Zc3 e)).trans rfl),Ze (Zx r)];rfl
 cases t with
 |num z=>exact no (O "num") _ rfl
 |name x=>exact no (O "name") _ rfl
 |fn x e=>exact yes (O "fn") _ 1 1 rfl
 |rcc f x e=>exact yes (O "rec") _ 2 1 rfl
 |call f a=>exact yes (O "call") _ 0 2 rfl
 |iff c a b=>exact yes (O "if") _ 0 3 rfl
 |op w a b=>exact yes w.s _ 0 2 Zfv
theorem Zi1(H:Trb P)(n:Nat)(h:Hd)(w:Str)(ds:List D)(e:Zad Gn.Zch (.inr w)=Wv):run P (n+1) (O "front_of") [.tup (.str w::ds)] h=.ok (.tup (.str w::ds)) h:=by rw[Zc H.front_of rfl];show Zh (xs2 (P.tbl n) ZbL [Wu (.tup (.str w::ds))] h)=_;rw[ZbL,Ze ((Zs (Gn.ZbR H.toTre ⟨rfl,rfl⟩ Gn.Zc3 e)).trans (Ze (Zx (d:=.tup (.str w::ds)) rfl)))];rfl
theorem Zcg(H:Trb P)(n:Nat)(h:Hd)(w:Str)(ds:List D)(a b:Int)(e:Zad Gn.Zch (.inr w)=Wu (.tup [.int a,.int b])):run P (n+1) (O "front_of") [.tup (.str w::ds)] h=.ok (.tup (cutD (.str w::ds) Wv (Wu (1+a)))) h:=by rw[Zc H.front_of rfl];show Zh (xs2 (P.tbl n) ZbL [Wu (.tup (.str w::ds))] h)=_;have q:=Gn.Zks H.toTre (U:=P.tbl n) ⟨rfl,rfl⟩ (ds:=ds) (h:=h) e;have r:ev (P.tbl n) (.sl (.var 0) Wv (Wu (.bin .Add (.cst (.int 1)) (.ix (.ix (.glo (O "FORMS")) (.ix (.var 0) (.cst (.int 0)))) (.cst (.int 0)))))) [Wu (.tup (.str w::ds))] h=.ok (.tup (cutD (.str w::ds) Wv (Wu (1+a)))) h:=(Gn.Zk4 (a:=.var 0) (x:=.tup (.str w::ds)) rfl rfl (Gn.ZhQ q)).trans rfl;rw[ZbL,Za ((Zw (Gn.ZbR H.toTre ⟨rfl,rfl⟩ Gn.Zc3 e)).trans rfl),Ze (Zx r)];rfl
theorem Zpv(H:Trb P)(n:Nat)(t:T)(h:Hd):run P (n+1) (O "front_of") [t.d] h=.ok (.tup (fr t)) h:=by
 cases t with
 |num z=>exact Zi1 H n h (O "num") _ rfl
 |name x=>exact Zi1 H n h (O "name") _ rfl
 |fn x e=>exact Zcg H n h (O "fn") _ 1 1 rfl
 |rcc f x e=>exact Zcg H n h (O "rec") _ 2 1 rfl
 |call f a=>exact Zcg H n h (O "call") _ 0 2 rfl
 |iff c a b=>exact Zcg H n h (O "if") _ 0 3 rfl
 |op w a b=>exact Zcg H n h w.s _ 0 2 Zfv
theorem Zpw(H:Trb P)(n:Nat)(t:T)(h:Hd):run P (n+1) (O "count_parts") [.tup (fr t)] h=.ok (.int t.parts.length) h:=by
 have no:∀(w:Str) (ds:List D),Zad Gn.Zch (.inr w)=Wv->run P (n+1) (O "count_parts") [.tup (.str w::ds)] h=.ok (.int 0) h:=fun w ds e=>by rw[Zc H.count_parts rfl];show Zh (xs2 (P.tbl n) Zak [Wu (.tup (.str w::ds))] h)=_;rw[Zak,Ze ((Zs (Gn.ZbR H.toTre ⟨rfl,rfl⟩ Gn.Zc3 e)).trans (Ze (Zx (d:=.int 0) rfl)))];rfl
 have yes:∀(w:Str) (ds:List D) (a b:Int),Zad Gn.Zch (.inr w)=Wu (.tup [.int a,.int b])->run P (n+1) (O "count_parts") [.tup (.str w::ds)] h=.ok (.int b) h:=fun w ds a b e=>by
  rw[Zc H.count_parts rfl];show Zh (xs2 (P.tbl n) Zak [Wu (.tup (.str w::ds))] h)=_;have r:ev (P.tbl n) (.ix (.ix (.glo (O "FORMS")) (.ix (.var 0) (.cst (.int 0)))) (.cst (.int 1))) [Wu (.tup (.str w::ds))] h=.ok (.int b) h:=by rw[Zi7,Gn.Zly H.toTre ⟨rfl,rfl⟩ Gn.Zc3 e];rfl
  rw[Zak,Za ((Zw (Gn.ZbR H.toTre ⟨rfl,rfl⟩ Gn.Zc3 e)).trans rfl),Ze (Zx r)];rfl
 cases t with
 |num z=>exact no (O "num") _ rfl
 |name x=>exact no (O "name") _ rfl
 |fn x e=>exact yes (O "fn") _ 1 1 rfl
 |rcc f x e=>exact yes (O "rec") _ 2 1 rfl
 |call f a=>exact yes (O "call") _ 0 2 rfl
 |iff c a b=>exact yes (O "if") _ 0 3 rfl
 |op w a b=>exact yes w.s _ 0 2 Zfv
noncomputable abbrev Ar:=List (Str×Option T)
noncomputable def thd(V:T):D:=.tup [.str (O "clo"),V.d,.tup []]
noncomputable def ard(p:Str×Option T):D:=.tup [.str p.1,match p.2 with|some V=>thd V|none=>.non]
noncomputable def get:Ar->Str->Option T
 |[],_=>Wv
 |(y,v)::r,x=>if y=x then v else get r x
noncomputable abbrev En:=List (Str×Option Rw.Th)
noncomputable def edd(p:Str×Option Rw.Th):D:=.tup [.str p.1,Rw.thD p.2]
noncomputable def ZdY:En->Str->Option Rw.Th
 |[],_=>Wv
 |(y,v)::r,x=>if y=x then v else ZdY r x
noncomputable def ZnY:Sxs:=(.cons (.iff (.ex (.cmp .Eq (.var 2) (.var 0))) (.cons (.ret (.var 3)) .nil) .nil) .nil)
theorem ZuG{U:Tb}{x:Str}{o:D}:∀(ar:En) (a b:Option D),(∃S,ZL Wv (.two 2 3) (xs2 U ZnY) (ar.map edd) [Wu (.str x),Wu o,a,b] h=.ok (.rt (Rw.thD (ZdY ar x)),S) h)\/(ZdY ar x=Wv/\∃S,ZL Wv (.two 2 3) (xs2 U ZnY) (ar.map edd) [Wu (.str x),Wu o,a,b] h=.ok (.nx,S) h)
 |[],a,b=>.inr ⟨rfl,_,rfl⟩
 |(y,v)::r,a,b=>by
  have tt:tst U (.ex (.cmp .Eq (.var 2) (.var 0))) [Wu (.str x),Wu o,Wu (.str y),Wu (Rw.thD v)] h=.ok (Wy (y=x)) h:=Zer rfl rfl;by_cases e:y=x
  . refine .inl ⟨[Wu (.str x),Wu o,Wu (.str y),Wu (Rw.thD v)],?_⟩;rw[ZdY,if_pos e];exact Zot rfl (Ze ((Zs (Zq tt (decide_eq_true e))).trans (Ze (Zx rfl))))
  . have b1:xs2 U ZnY [Wu (.str x),Wu o,Wu (.str y),Wu (Rw.thD v)] h=.ok (.nx,[Wu (.str x),Wu o,Wu (.str y),Wu (Rw.thD v)]) h:=(Za ((Zw (Zq tt (decide_eq_false e))).trans rfl)).trans rfl;have s1:=ZdV (g:=.two 2 3) (ds:=r.map edd) (S:=[Wu (.str x),Wu o,a,b]) (d:=edd (y,v)) rfl b1;rw[ZdY,if_neg e];rcases ZuG (U:=U) (x:=x) (o:=o) r (Wu (.str y)) (Wu (Rw.thD v))with ⟨S,q⟩|⟨q0,S,q⟩
    . exact .inl ⟨S,s1.trans q⟩
    . exact .inr ⟨q0,S,s1.trans q⟩
theorem ZvM(H:Trb P)(n:Nat)(x:Str)(ar:En):run P (n+1) (O "bound_to") [.str x,.tup (ar.map edd)] h=.ok (Rw.thD (ZdY ar x)) h:=by
 rw[Zc H.bound_to (by rfl)];rcases ZuG (U:=P.tbl n) (h:=h) (x:=x) (o:=.tup (ar.map edd)) ar Wv Wv with ⟨S,q⟩|⟨q0,S,q⟩
 . have w:xs2 (P.tbl n) Z6 [Wu (.str x),Wu (.tup (ar.map edd)),Wv,Wv] h=.ok (.rt (Rw.thD (ZdY ar x)),S) h:=Ze ((Zcx (ZhO rfl)).trans q);exact congrArg Zh w
 . have w:xs2 (P.tbl n) Z6 [Wu (.str x),Wu (.tup (ar.map edd)),Wv,Wv] h=.ok (.rt .non,S) h:=(Za ((Zcx (ZhO rfl)).trans q)).trans (Ze (Zx rfl));rw[q0];exact congrArg Zh w
noncomputable def mean(ar:Ar):T->Option T
 |.name x=>get ar x
 |_=>Wv
noncomputable def Zcp(ar:En):T->Option Rw.Th
 |.name x=>ZdY ar x
 |_=>Wv
theorem Zhu(H:Trb P)(n:Nat)(t:T)(ar:En):run P (n+2) (O "meant_by") [t.d,.tup (ar.map edd)] h=.ok (Rw.thD (Zcp ar t)) h:=by
 rw[Zc H.meant_by (by cases t<;>rfl)];cases t with
 |name x=>exact Zgp (U:=P.tbl (n+1)) (fun U=>Zh (xs2 U Zas.body (Zn Zas.N [(T.name x).d,.tup (ar.map edd)]) h)) (ZvM H n (h:=h) x ar) rfl rfl
 |op w a b=>cases w<;>exact rfl
 |_=>exact rfl
noncomputable def inn(t:T)(ar:Ar):Ar:=(bnd t).map (fun x=>(x,Wv))++ar
noncomputable def Zb4(t:T)(ar:En):En:=(bnd t).map (fun x=>(x,Wv))++ar
theorem Zjl{U:Tb}:∀(xs:List Str) (acc:List D),acc.length+xs.length<=1000->ZN Wv (.nm 0) (tsto U Wv) (ev U (.tupl (.cons (.var 0) (.cons (.cst .non) .nil)))) (xs.map .str) [Wv] acc h=.ok (acc++(xs.map fun x=>D.tup [.str x,.non])) h
 |[],acc,_=>by simp[ZN,Wk.stays]
 |x::xs,acc,hz=>by
  have ih:=Zjl (U:=U) xs (acc++[.tup [.str x,.non]]) (by simp at hz ⊢;omega);have hl:acc.length<16777216:=by simp at hz;omega
  rw[Op,ZX];simp[Wk.stays,hl,YC];simpa using ih
theorem Znd(H:Trb P)(n:Nat)(t:T)(ar:En)(hz:ar.length<=100000):run P (n+2) (O "within") [t.d,.tup (ar.map edd)] h=.ok (.tup ((Zb4 t ar).map edd)) (h++[.lst ((bnd t).map fun x=>.tup [.str x,.non])]):=by
 rw[Zc H.within (by cases t<;>rfl)];have e:=Zhv H n t h;have hb:(bnd t).length<=2:=by cases t<;>simp[bnd]
 have c:=Zjl (U:=⟨P.G,P.GD,run P (n+1),P.L⟩) (h:=h) (bnd t) [] (by simp;omega);have cat:∀h',opB .Add (.tup ((bnd t).map fun x=>D.tup [.str x,.non])) (.tup (ar.map edd)) h'=.ok (.tup ((Zb4 t ar).map edd)) h':=by intro h';rw[Zds (by rw[YC];simp;omega)];simp[Zb4,edd,Rw.thD,YZ]
 simp at c;simp[Zci,Zjn,Zn,e,Zar,Zbq,c,Zbl,ZmI,lstOf,cat]
noncomputable def opn:Rw.Th->T×Rw.Ar
 |.num n=>(.num n,.nil)
 |.clo E ar=>(E,ar)
theorem Ziv(H:Trb P)(n:Nat)(v:Rw.Th):run P (n+1) (O "opened") [v.d] h=.ok (.tup [(opn v).1.d,.tup (opn v).2.ds]) h:=by rw[Zc H.opened (by cases v<;>rfl)];cases v<;>exact rfl
end Tm
end
section
namespace Tm
open PySem L2 IV
variable {P:Pg}
noncomputable def sub:Ar->T->T
 |_,.num n=>.num n
 |ar,.name x=>(get ar x).getD (.name x)
 |ar,.fn x e=>.fn x (sub ((x,Wv)::ar) e)
 |ar,.rcc f x e=>.rcc f x (sub ((f,Wv)::(x,Wv)::ar) e)
 |ar,.call f a=>.call (sub ar f) (sub ar a)
 |ar,.iff c t e=>.iff (sub ar c) (sub ar t) (sub ar e)
 |ar,.op w a b=>.op w (sub ar a) (sub ar b)
def NN(ar:Ar):Prop:=∀x,get ar x=Wv
theorem NN.cons{ar:Ar}(h:NN ar)(y:Str):NN ((y,Wv)::ar):=fun x=>by
 unfold get;split
 . rfl
 . exact h x
theorem Zbu:∀(t:T) {ar:Ar},NN ar->sub ar t=t
 |.num _,_,_=>rfl
 |.name x,_,h=>by rw[sub,h x];rfl
 |.fn x e,_,h=>by rw[sub,Zbu e (h.cons x)]
 |.rcc f x e,_,h=>by rw[sub,Zbu e ((h.cons x).cons f)]
 |.call f a,_,h=>by rw[sub,Zbu f h,Zbu a h]
 |.iff c t e,_,h=>by rw[sub,Zbu c h,Zbu t h,Zbu e h]
 |.op w a b,_,h=>by rw[sub,Zbu a h,Zbu b h]
theorem Zb(t:T):t.size=1+(t.parts.map T.size).sum:=by unfold T.size;rw[T.places_parts];simp only[Os,List.length_flatMap];omega
theorem ZaE(t:T):1<=t.size:=by rw[Zb];omega
theorem ZlR(t:T)(ar:Ar)(h:mean ar t=Wv):(sub ar t).parts=t.parts.map (sub (inn t ar))/\fr (sub ar t)=fr t:=by
 cases t with
 |name x=>rw[sub,show get ar x=Wv from h];exact⟨rfl,rfl⟩
 |_=>exact⟨rfl,rfl⟩
theorem Zmk{t:T}{ar:Ar}{V:T}(h:mean ar t=Wu V):sub ar t=V:=by
 cases t with
 |name x=>rw[sub,show get ar x=Wu V from h];rfl
 |_=>cases h
end Tm
namespace Rw
open PySem L2 IV
mutual
noncomputable def rd:Th->T
 |.num n=>.num n
 |.clo E ar=>Tm.sub (ra ar) E
noncomputable def ra:Ar->List (Str×Option T)
 |.nil=>[]
 |.cons x v r=>(x,Wu (rd v))::ra r
end
end Rw
namespace Tm
open PySem L2 IV
variable {P:Pg}
noncomputable def er(e:En):Ar:=e.map fun p=>(p.1,p.2.map Rw.rd)
noncomputable def up:Rw.Ar->En
 |.nil=>[]
 |.cons x v r=>(x,Wu v)::up r
theorem ZkX:∀ar:Rw.Ar,(up ar).map edd=ar.ds
 |.nil=>by rw[up,Rw.Ar.ds];rfl
 |.cons x v r=>by rw[up,Rw.Ar.ds,Op,ZkX r];rfl
theorem ZoC:∀ar:Rw.Ar,er (up ar)=Rw.ra ar
 |.nil=>by rw[up,Rw.ra];rfl
 |.cons x v r=>by rw[up,Rw.ra,<- ZoC r];rfl
theorem Zjx:∀ar:Rw.Ar,(up ar).length=ar.len
 |.nil=>rfl
 |.cons x v r=>by rw[up,Rw.Ar.len,Os,Zjx r]
theorem Zkq(x:Str):∀e:En,get (er e) x=(ZdY e x).map Rw.rd
 |[]=>rfl
 |(y,v)::r=>by
  show(if y=x then v.map Rw.rd else get (er r) x)=(if y=x then v else ZdY r x).map Rw.rd;split
  . rfl
  . exact Zkq x r
theorem Zs5(t:T)(e:En):er (Zb4 t e)=inn t (er e):=by simp[er,Zb4,inn,YZ]
noncomputable def tel(p:T×En):T:=sub (er p.2) p.1
theorem ZkA{t:T}{e:En}(h:Zcp e t=Wv):mean (er e) t=Wv:=by
 cases t with
 |name x=>show get (er e) x=Wv;rw[Zkq,show ZdY e x=Wv from h];rfl
 |_=>rfl
theorem Zhm(v:Rw.Th):tel ((opn v).1,up (opn v).2)=Rw.rd v:=by
 cases v with
 |num n=>rw[Rw.rd];rfl
 |clo E ar=>show sub (er (up ar)) E=_;rw[ZoC,Rw.rd]
theorem Zgi{t:T}{e:En}{v:Rw.Th}(h:Zcp e t=Wu v):tel (t,e)=Rw.rd v:=by
 cases t with
 |name x=>refine Zmk ?_;show get (er e) x=_;rw[Zkq,show ZdY e x=Wu v from h];rfl
 |_=>cases h
theorem ZgH{t:T}{e:En}(h:Zcp e t=Wv):(tel (t,e)).parts=t.parts.map (fun s=>tel (s,Zb4 t e))/\fr (tel (t,e))=fr t:=by obtain⟨a,b⟩:=ZlR t (er e) (ZkA h);refine⟨a.trans ?_,b⟩;rw[<- Zs5];rfl
noncomputable def tf(t:T):D:=.tup (fr t)
theorem ZeZ{h:Hd}{i:Nat}{o:DO}(e:h[i]? = Wu o):i<h.length:=(Ob.mp e).1
theorem keep{h:Hd}{i:Nat}{o:DO}{g:Hd}(e:h[i]? = Wu o):(h++g)[i]? = Wu o:=by rw[Oe (ZeZ e)];exact e
structure B_(h0 h:Hd)(fk dk:Nat)(fs ds:List D):Prop where
 f:h[fk]? = Wu (.lst fs)
 d:h[dk]? = Wu (.lst ds)
 ne:dk≠fk
 o1:h0.length<=dk
 ol:h0.length<=h.length
 old:∀i,i<h0.length->h[i]? = h0[i]?
theorem B_.set{h0 h:Hd}{fk dk:Nat}{fs ds:List D}(b:B_ h0 h fk dk fs ds)(es:List D):B_ h0 (h.set dk (.lst es)) fk dk fs es:=⟨by rw[Oc b.ne];exact b.f,by rw[Ol (ZeZ b.d)],b.ne,b.o1,by simpa using b.ol,fun i hi=>by rw[Oc (by have:=b.o1;omega)];exact b.old i hi⟩
theorem B_.app{h0 h g:Hd}{fk dk:Nat}{fs ds:List D}(b:B_ h0 h fk dk fs ds):B_ h0 (h++g) fk dk fs ds:=⟨keep b.f,keep b.d,b.ne,b.o1,by have:=b.ol;simp;omega,fun i hi=>by rw[Oe (by have:=b.ol;omega)];exact b.old i hi⟩
theorem Zrn{U:Tb}{h0:Hd}{fk dk:Nat}{fs:List D}:∀(ks xs D0 acc:List D) (h:Hd),ks.length=xs.length->acc.length+xs.length<=1000->B_ h0 h fk dk fs (D0++xs.reverse)->∃h',
 ZN Wv (.nm 0) (tsto U Wv) (ev U (.meth .pop (.var 1) .nil)) ks [Wv,Wu (.ref dk)] acc h=.ok (acc++xs) h'/\B_ h0 h' fk dk fs D0
 |[],[],D0,acc,h,_,_,b=>⟨h,by simp[ZN,Wk.stays],by simpa using b⟩
 |[],_::_,_,_,_,e,_,_=>by cases e
 |_::_,[],_,_,_,e,_,_=>by cases e
 |k::ks,x::xs,D0,acc,h,e,hz,b=>by
  have b1:B_ h0 h fk dk fs ((D0++xs.reverse)++[x]):=by simpa using b
  obtain⟨h',q,b2⟩:=Zrn (U:=U) ks xs D0 (acc++[x]) _ (by simpa using e) (by simp at hz ⊢;omega) (b1.set (D0++xs.reverse));refine⟨h',?_,b2⟩;have pp:=ZiI b1.d;have il:=ZeK b1.d;have hl:acc.length<16777216:=by simp at hz;omega
  rw[ZX];simp[Wk.stays,hl,YC,il,pp];simpa using q
noncomputable def Zek:Sxs:=(.cons (.set (.nm 3) (.comp [(O "k"),(O "done")] [Wv,Wu 1] (.rng (.call (O "count_parts") (.cons (.var 2) .nil))) (.nm 0) Wv (.meth .pop (.var 1) .nil))) (.cons (.drp (.meth .app (.var 1) (.cons (.bin .Add (.var 2) (.blt .tup (.cons (.var 3) .nil))) .nil))) .nil))
theorem Zph(H:Trb P)(n:Nat){h0 h:Hd}{fk dk:Nat}{fs D0:List D}(t:T)(b:B_ h0 h fk dk fs (D0++(t.parts.map T.d).reverse))(hz:D0.length<=1000000)(o0 o3:Option D):∃h' o3',
 xs2 (P.tbl (n+1)) Zek [o0,Wu (.ref dk),Wu (tf t),o3] h=.ok (.nx,[o0,Wu (.ref dk),Wu (tf t),o3']) h'/\B_ h0 h' fk dk fs (D0++[t.d]):=by
 have hp:t.parts.length<=3:=by cases t<;>simp[T.parts]
 have hf:(fr t).length<=3:=by cases t<;>simp[fr]
 have ec:=Zpw H n t h;obtain⟨h1,q1,b1⟩:=Zrn (U:=P.tbl (n+1)) (ZC 0 t.parts.length) (t.parts.map T.d) D0 [] h (by simp[ZC]) (by simp;omega) b;have s62:Zan (t.parts.length:Int)=Ww:=by simp[Zan];omega
 have b2:=(b1.app (g:=[.lst (t.parts.map T.d)])).set (D0++[t.d]);refine⟨_,Wu (.ref h1.length),?_,b2⟩;have k1:(h1++[DO.lst (t.parts.map T.d)])[dk]? = Wu (.lst D0):=keep b1.d;have x1:xs1 (P.tbl (n+1)) (.set (.nm 3) (.comp [(O "k"),(O "done")] [Wv,Wu 1] (.rng (.call (O "count_parts") (.cons (.var 2) .nil))) (.nm 0) Wv (.meth .pop (.var 1) .nil))) [o0,Wu (.ref dk),Wu (tf t),o3] h=.ok (.nx,[o0,Wu (.ref dk),Wu (tf t),Wu (.ref h1.length)]) (h1++[.lst (t.parts.map T.d)]):=by
  have ei:evi (P.tbl (n+1)) (.rng (.call (O "count_parts") (.cons (.var 2) .nil))) [o0,Wu (.ref dk),Wu (tf t),o3] h=.ok ⟨Wv,ZC 0 t.parts.length⟩ h:=by have e1:ev (P.tbl (n+1)) (.call (O "count_parts") (.cons (.var 2) .nil)) [o0,Wu (.ref dk),Wu (tf t),o3] h=.ok (.int t.parts.length) h:=ec;rw[Zlz,e1,Zk];exact(if_pos s62).trans (by rw[Int.toNat_natCast])
  rw[Zd4,Zfo,ei,Zk];simp only[Zbq,Op,Oy,Option.bind_none,Yz];rw[show([o0,Wu (D.ref dk),Wu (tf t),o3][1]?).join=Wu (.ref dk)from rfl,q1];rfl
 have x2:xs1 (P.tbl (n+1)) (.drp (.meth .app (.var 1) (.cons (.bin .Add (.var 2) (.blt .tup (.cons (.var 3) .nil))) .nil))) [o0,Wu (.ref dk),Wu (tf t),Wu (.ref h1.length)] (h1++[.lst (t.parts.map T.d)])=.ok (.nx,[o0,Wu (.ref dk),Wu (tf t),Wu (.ref h1.length)]) (List.set (h1++[.lst (t.parts.map T.d)]) dk (.lst (D0++[t.d]))):=by
  have ap:=ZcY (d:=t.d) k1 (by rw[YC];omega);have il:=ZeK k1;have ad:∀h',opB .Add (tf t) (.tup (t.parts.map T.d)) h'=.ok t.d h':=fun h'=>by rw[Zwj];exact Zds (by rw[YC];simp;omega)
  simp[il,Zbl,ZmI,lstOf,ad,ap]
 rw[Zek,Za x1,Za x2];rfl
end Tm
end
section
namespace Tm
open PySem L2 IV
variable {P:Pg}
theorem Zi2{j:Nat}{L:List D}{g:Tg}{body:Ev->Hd->R (Fl×Ev)}{d:D}{ds:List D}{S ρ1 ρ2:Ev}{h h2:Hd}(e:h[j]? = Wu (.lst L))(b:ZbG g d S=Wu ρ1)(q:body ρ1 h=.ok (.nx,ρ2) h2):ZL (Wu (j,L)) g body (d::ds) S h=ZL (Wu (j,L)) g body ds ρ2 h2:=by
 have:Wk.stays (Wu (j,L)) h=Ww:=by simp[Wk.stays,e]
 rw[ZL,if_pos this,b];simp only;rw[q];rfl
theorem Zi3{j:Nat}{L:List D}{g:Tg}{body:Ev->Hd->R (Fl×Ev)}{S:Ev}{h:Hd}(e:h[j]? = Wu (.lst L)):ZL (Wu (j,L)) g body [] S h=.ok (.nx,S) h:=by
 have:Wk.stays (Wu (j,L)) h=Ww:=by simp[Wk.stays,e]
 rw[ZL,if_pos this]
noncomputable def wb(P:Pg)(n fk dk:Nat)(fs:List D)(o0:Option D)(rest:List D)(o2 o3:Option D)(h:Hd):R (Fl×Ev):=ZL (Wu (fk,fs)) (.nm 2) (xs2 (P.tbl (n+1)) Zek) rest [o0,Wu (.ref dk),o2,o3] h
def Bt(P:Pg)(n:Nat)(h0:Hd)(fk dk:Nat)(fs:List D)(o0:Option D)(xs D0 D1:List D):Prop:=∀(rest:List D) (h:Hd) (o2 o3:Option D),B_ h0 h fk dk fs D0->∃h' o2' o3',wb P n fk dk fs o0 (xs++rest) o2 o3 h=wb P n fk dk fs o0 rest o2' o3' h'/\B_ h0 h' fk dk fs D1
section
variable {n:Nat}{h0:Hd}{fk dk:Nat}{fs:List D}{o0:Option D}{xs ys D0 D1 D2:List D}
theorem Bt.trans(a:Bt P n h0 fk dk fs o0 xs D0 D1)(b:Bt P n h0 fk dk fs o0 ys D1 D2):Bt P n h0 fk dk fs o0 (xs++ys) D0 D2:=fun rest h o2 o3 q=>by obtain⟨h1,o21,o31,e1,q1⟩:=a (ys++rest) h o2 o3 q;obtain⟨h2,o22,o32,e2,q2⟩:=b rest h1 o21 o31 q1;exact⟨h2,o22,o32,by rw[Oz,e1,e2],q2⟩
theorem Bt.front(H:Trb P)(t:T)(hz:D0.length<=1000000):Bt P n h0 fk dk fs o0 [tf t] (D0++(t.parts.map T.d).reverse) (D0++[t.d]):=fun rest h o2 o3 b=>by obtain⟨h',o3',e,b'⟩:=Zph H n t b hz o0 o3;exact⟨h',Wu (tf t),o3',Zi2 b.f rfl e,b'⟩
end
theorem Zb1(H:Trb P){n:Nat}{h0:Hd}{fk dk:Nat}{fs:List D}{o0:Option D}:∀(t:T) (D0:List D),D0.length+t.size<=1000000->Bt P n h0 fk dk fs o0 (t.places.map tf).reverse D0 (D0++[t.d])
 |.num m,D0,hz=>by simpa[T.places,T.parts]using Bt.front (P:=P) (n:=n) (h0:=h0) (fk:=fk) (dk:=dk) (fs:=fs) (o0:=o0) (D0:=D0) H (.num m) (by omega)
 |.name m,D0,hz=>by simpa[T.places,T.parts]using Bt.front (P:=P) (n:=n) (h0:=h0) (fk:=fk) (dk:=dk) (fs:=fs) (o0:=o0) (D0:=D0) H (.name m) (by omega)
 |.fn x e,D0,hz=>by rw[Zb]at hz;simp only[T.parts,Op,Oy,OI,List.sum_nil]at hz;have a:=(Zb1 H (n:=n) (h0:=h0) (fk:=fk) (dk:=dk) (fs:=fs) (o0:=o0) e D0 (by omega)).trans (Bt.front H (.fn x e) (by omega));simpa[T.places,T.parts]using a
 |.rcc f x e,D0,hz=>by rw[Zb]at hz;simp only[T.parts,Op,Oy,OI,List.sum_nil]at hz;have a:=(Zb1 H (n:=n) (h0:=h0) (fk:=fk) (dk:=dk) (fs:=fs) (o0:=o0) e D0 (by omega)).trans (Bt.front H (.rcc f x e) (by omega));simpa[T.places,T.parts]using a
 |.call f a,D0,hz=>by rw[Zb]at hz;simp only[T.parts,Op,Oy,OI,List.sum_nil]at hz;have s1:=ZaE f;have q:=(Zb1 H (n:=n) (h0:=h0) (fk:=fk) (dk:=dk) (fs:=fs) (o0:=o0) a D0 (by omega)).trans (Zb1 H f (D0++[a.d]) (by simp;omega));have r:=Bt.front (P:=P) (n:=n) (h0:=h0) (fk:=fk) (dk:=dk) (fs:=fs) (o0:=o0) (D0:=D0) H (.call f a) (by omega);simp only[T.parts,Op,Oy,List.reverse_cons,List.reverse_nil,OB]at r;rw[<- Oz]at r;simpa[T.places]using q.trans r
 |.op w f a,D0,hz=>by rw[Zb]at hz;simp only[T.parts,Op,Oy,OI,List.sum_nil]at hz;have s1:=ZaE f;have q:=(Zb1 H (n:=n) (h0:=h0) (fk:=fk) (dk:=dk) (fs:=fs) (o0:=o0) a D0 (by omega)).trans (Zb1 H f (D0++[a.d]) (by simp;omega));have r:=Bt.front (P:=P) (n:=n) (h0:=h0) (fk:=fk) (dk:=dk) (fs:=fs) (o0:=o0) (D0:=D0) H (.op w f a) (by omega);simp only[T.parts,Op,Oy,List.reverse_cons,List.reverse_nil,OB]at r;rw[<- Oz]at r;simpa[T.places]using q.trans r
 |.iff c t e,D0,hz=>by rw[Zb]at hz;simp only[T.parts,Op,Oy,OI,List.sum_nil]at hz;have s1:=ZaE c;have s2:=ZaE t;have q:=((Zb1 H (n:=n) (h0:=h0) (fk:=fk) (dk:=dk) (fs:=fs) (o0:=o0) e D0 (by omega)).trans (Zb1 H t (D0++[e.d]) (by simp;omega))).trans (Zb1 H c (D0++[e.d]++[t.d]) (by simp;omega));have r:=Bt.front (P:=P) (n:=n) (h0:=h0) (fk:=fk) (dk:=dk) (fs:=fs) (o0:=o0) (D0:=D0) H (.iff c t e) (by omega);simp only[T.parts,Op,Oy,List.reverse_cons,List.reverse_nil,OB]at r;rw[<- Oz,<- Oz]at r;simpa[T.places]using q.trans r
theorem Zpx (H:Trb P) (n:Nat) (t:T) {h:Hd}{fk:Nat} (hf:h[fk]? = Wu (.lst (t.places.map tf))) (hz:t.size<=500000):∃ g,run P (n+2) (O "built") [.ref fk] h=.ok t.d (h++g):=by
 rw [Zc H.built (by rfl)];have b0:B_ h (h++[.lst []]) fk h.length (t.places.map tf) []:=⟨keep hf,by simp,by have:=ZeZ hf;omega,Oq _,by simp,fun i hi=>Oe hi⟩
 obtain ⟨h1,o2,o3,e1,b1⟩:=Zb1 H (n:=n) (o0:=Wu (.ref fk)) t [] (by simp;omega) [] _ Wv Wv b0;have e2:wb P n fk h.length (t.places.map tf) (Wu (.ref fk)) [] o2 o3 h1=.ok (.nx,[Wu (.ref fk),Wu (.ref h.length),o2,o3]) h1:=Zi3 b1.f;rw [e2,Yt] at e1;have ex:∃ g,h1=h++g:=⟨h1.drop h.length,by
   apply List.ext_getElem?;intro i;rcases Nat.lt_or_ge i h.length with q|q
   . rw [b1.old i q,Oe q]
   . rw [Om q,List.getElem?_drop];congr 1;omega⟩
 obtain ⟨g,rfl⟩:=ex;refine ⟨g,?_⟩;have x0:=ZD (GD:=P.GD) (k:=0) b1.d;have hw:Zfw (.ref fk) (h++[.lst []])=Wu ⟨Wu (fk,t.places.map tf),t.places.map tf⟩:=by simp [Zfw,b0.f]
 unfold wb Zek at e1;simp only [Pg.tbl] at e1;simp only [OB] at x0;simp [Zdw,ZlH,Zn,YC,hw,e1,x0]
end Tm
end
section
namespace Tm
open PySem L2 IV
variable {P:Pg}
noncomputable def ZaR(mo:D)(u:Int):DO:=.ins (O "Pen") [(O "most",mo),(O "used",.int u)]
def Lim(mo:D)(z:Int):Prop:=mo=.non\/∃m:Int,mo=.int m/\z<=m
theorem Zra(H:Trb P)(n:Nat)(mo:D)(h:Hd):ZnS (run P (n+1)) (O "Pen") [mo] h=.ok (.ref h.length) (h++[ZaR mo 0]):=by unfold ZnS;rw[ZdS H.n_Pen___init__ H.Pen___init__ (by rfl)];simp[ZS,Zdm,Zn,Zhq,Zl3,YC,ZaR]
theorem Zqt{u:Int}{h:Hd}:IV.Zb2 Wx (D.int u) D.non h=.ok (D.bl Wx) h:=by
 have e:YQ (.int u) .none=Wx:=by simp[YQ]
 show(if min (PyData.int u).depth PyData.none.depth<=1100 then R.ok (D.bl (if Wx then !YQ (.int u) .none else YQ (.int u) .none)) h else .bad)=_;rw[if_pos (by simp[PyData.depth]),e];rfl
theorem Zne(H:Trb P)(n:Nat){h:Hd}{pk:Nat}{mo:D}{u:Int}(lm:Lim mo (u+1))(hp:h[pk]? = Wu (ZaR mo u)):run P (n+1) (mnm (O "Pen") (O "take_place")) [.ref pk] h=.ok .non (h.set pk (ZaR mo (u+1))):=by
 obtain⟨x,ht⟩:=H.tk;rw[ZdS H.n_Pen_take_place ht (by rfl)];have ne:IV.Zb2 Wx (D.int u) mo h=.ok (D.bl Wx) h:=by
  rcases lm with rfl|⟨m,rfl,q⟩
  . exact Zqt
  . have:¬ u=m:=by omega
    simp[this]
 unfold ZaR at hp ⊢;simp[Zku,ZkH,Zn,ZgD,ZZ,hp,Wj,ne,Zhq,Zl3]
def Wid(P:Pg):Prop:=∃m,P.ms.lookup (mnm (O "Pen") (O "take_place"))=Wu (Zku (.rai (O "Wide") (.cst m)))
theorem Ziu(H:Trb P)(w:Wid P)(n:Nat){h:Hd}{pk:Nat}{u:Int}(hp:h[pk]? = Wu (ZaR (.int u) u)):run P (n+1) (mnm (O "Pen") (O "take_place")) [.ref pk] h=.exc (O "Wide") h:=by
 obtain⟨m,ht⟩:=w;rw[ZdS H.n_Pen_take_place ht (by rfl)];have t1:tst (P.tbl n) (.ex (.cmp .Eq (.att [(O "Pen")] (.var 0) (O "used")) (.att [(O "Pen")] (.var 0) (O "most")))) [Wu (.ref pk)] h=.ok Ww h:=by unfold ZaR at hp;simp[ZgD,ZZ,hp,Wj]
 exact congrArg Zh (ZcR (r:=tlS (ZkH (.rai (O "Wide") (.cst m)))) ((Zs t1).trans (ZcR (ZtW rfl))))
noncomputable def pr(p:T×En):D:=.tup [p.1.d,.tup (p.2.map edd)]
structure Fi(mo:D)(h0 h:Hd)(pk fk wk:Nat)(u:Int)(F:List D)(W:List D):Prop where
 p:h[pk]? = Wu (ZaR mo u)
 f:h[fk]? = Wu (.lst F)
 w:h[wk]? = Wu (.lst W)
 ne:fk≠wk
 o2:h0.length<=fk
 o3:h0.length<=wk
 ol:h0.length<=h.length
 old:∀i,i<h0.length->i≠pk->h[i]? = h0[i]?
section
variable {mo:D}{h0 h g:Hd}{pk fk wk:Nat}{u:Int}{F W:List D}
theorem Fi.app(q:Fi mo h0 h pk fk wk u F W):Fi mo h0 (h++g) pk fk wk u F W:=⟨keep q.p,keep q.f,keep q.w,q.ne,q.o2,q.o3,by have:=q.ol;simp;omega,fun i hi hn=>by rw[Oe (by have:=q.ol;omega)];exact q.old i hi hn⟩
theorem ZhB{i j:Nat}{l:List D}(a:h[i]? = Wu (ZaR mo u))(b:h[j]? = Wu (.lst l)):i≠j:=fun z=>by rw[z,b]at a;cases a
theorem Fi.setP(q:Fi mo h0 h pk fk wk u F W)(v:Int):Fi mo h0 (h.set pk (ZaR mo v)) pk fk wk v F W:=⟨by rw[Ol (ZeZ q.p)],by rw[Oc (ZhB q.p q.f)];exact q.f,by rw[Oc (ZhB q.p q.w)];exact q.w,q.ne,q.o2,q.o3,by simpa using q.ol,fun i hi hn=>by rw[Oc (YL hn)];exact q.old i hi hn⟩
theorem Fi.setF(q:Fi mo h0 h pk fk wk u F W)(G:List D):Fi mo h0 (h.set fk (.lst G)) pk fk wk u G W:=⟨by rw[Oc (ZhB q.p q.f).symm];exact q.p,by rw[Ol (ZeZ q.f)],by rw[Oc q.ne];exact q.w,q.ne,q.o2,q.o3,by simpa using q.ol,fun i hi hn=>by rw[Oc (by have:=q.o2;omega)];exact q.old i hi hn⟩
theorem Fi.setW(q:Fi mo h0 h pk fk wk u F W)(G:List D):Fi mo h0 (h.set wk (.lst G)) pk fk wk u F G:=⟨by rw[Oc (ZhB q.p q.w).symm];exact q.p,by rw[Oc q.ne.symm];exact q.f,by rw[Ol (ZeZ q.w)],q.ne,q.o2,q.o3,by simpa using q.ol,fun i hi hn=>by rw[Oc (by have:=q.o3;omega)];exact q.old i hi hn⟩
theorem Fi.pop{d:D}(q:Fi mo h0 h pk fk wk u F (W++[d])):∃h1,ZaT .pop (.ref wk) [] h=.ok d h1/\Fi mo h0 h1 pk fk wk u F W:=⟨_,ZiI q.w,q.setW W⟩
theorem Fi.push(q:Fi mo h0 h pk fk wk u F W)(d:D)(hF:F.length<=1000000):∃h1,ZaT .app (.ref fk) [d] h=.ok .non h1/\Fi mo h0 h1 pk fk wk u (F++[d]) W:=⟨_,ZcY q.f (by rw[YC];omega),q.setF _⟩
theorem Fi.wait(q:Fi mo h0 h pk fk wk u F W)(d:D)(hW:W.length<=1000000):∃h1,ZaT .app (.ref wk) [d] h=.ok .non h1/\Fi mo h0 h1 pk fk wk u F (W++[d]):=⟨_,ZcY q.w (by rw[YC];omega),q.setW _⟩
theorem Fi.ext(q:Fi mo h0 h pk fk wk u F W)(xs:List D)(hW:W.length+xs.length<=1001000):∃h1,ZaT .ext (.ref wk) [.ref h.length] (h++[.lst xs])=.ok .non h1/\Fi mo h0 h1 pk fk wk u F (W++xs):=by have q1:=q.app (g:=[.lst xs]);refine⟨_,?_,q1.setW (W++xs)⟩;simp only[ZaT,q1.w,ZeH,ZsG,ZcQ];rw[if_pos (by rw[YC];omega)]
theorem Fi.take(H:Trb P)(n:Nat)(lm:Lim mo (u+1))(q:Fi mo h0 h pk fk wk u F W):∃h1,run P (n+1) (mnm (O "Pen") (O "take_place")) [.ref pk] h=.ok .non h1/\Fi mo h0 h1 pk fk wk (u+1) F W:=⟨_,Zne H n lm q.p,q.setP _⟩
end
noncomputable def ve(pk fk wk:Nat)(o1 o2 o5 o6 o7:Option D):Ev:=[Wu (.ref pk),o1,o2,Wu (.ref fk),Wu (.ref wk),o5,o6,o7]
noncomputable def fl1:Sx:=(.set (.nm 5) (.meth .pop (.var 4) .nil))
noncomputable def fl2:Sx:=(.set (.nm 6) (.call (O "meant_by") (.cons (.ix (.var 5) (.cst (.int 0))) (.cons (.ix (.var 5) (.cst (.int 1))) .nil))))
noncomputable def fa1:Sx:=(.drp (.mcl (O "Pen") (O "take_place") (.var 0) .nil))
noncomputable def fa2:Sx:=(.drp (.meth .app (.var 3) (.cons (.call (O "front_of") (.cons (.ix (.var 5) (.cst (.int 0))) .nil)) .nil)))
noncomputable def fa3:Sx:=(.set (.nm 7) (.call (O "within") (.cons (.ix (.var 5) (.cst (.int 0))) (.cons (.ix (.var 5) (.cst (.int 1))) .nil))))
noncomputable def fa4:Sx:=(.drp (.meth .ext (.var 4) (.cons (.comp [(O "part"),(O "inner")] [Wv,Wu 7] (.rev (.call (O "parts_of") (.cons (.ix (.var 5) (.cst (.int 0))) .nil))) (.nm 0) Wv (.tupl (.cons (.var 0) (.cons (.var 1) .nil)))) .nil)))
noncomputable def fb1:Sx:=(.drp (.meth .app (.var 4) (.cons (.call (O "opened") (.cons (.var 6) .nil)) .nil)))
noncomputable def fl3:Sx:=(.iff (.ex (.cmp .Is (.var 6) (.cst .non))) (.cons fa1 (.cons fa2 (.cons fa3 (.cons fa4 .nil)))) (.cons fb1 .nil))
noncomputable def Zdt:Sxs:=.cons fl1 (.cons fl2 (.cons fl3 .nil))
theorem Zqy:ZcF=.cons (.set (.nm 3) (.lstl .nil)) (.cons (.set (.nm 4) (.lstl (.cons (.tupl (.cons (.var 1) (.cons (.var 2) .nil))) .nil))) (.cons (.whl (.ex (.var 4)) Zdt) (.cons (.ret (.call (O "built") (.cons (.var 3) .nil))) .nil))):=rfl
theorem ZoN{U:Tb}{h:Hd}{a:D}:∀(ds acc:List D),acc.length+ds.length<=1000->ZN Wv (.nm 0) (tsto U Wv) (ev U (.tupl (.cons (.var 0) (.cons (.var 1) .nil)))) ds [Wv,Wu a] acc h=.ok (acc++ds.map fun d=>D.tup [d,a]) h
 |[],acc,_=>by simp[ZN,Wk.stays]
 |x::xs,acc,hz=>by
  have ih:=ZoN (U:=U) (h:=h) (a:=a) xs (acc++[.tup [x,a]]) (by simp at hz ⊢;omega);have hl:acc.length<16777216:=by simp at hz;omega
  rw[ZX];simp[Wk.stays,hl,YC];simpa using ih
theorem Zpg(H:Trb P)(n:Nat){mo:D}{h0 h:Hd}{pk fk wk:Nat}{u:Int}{F W:List D}(t:T)(ar:En)(hm:Zcp ar t=Wv)(lm:Lim mo (u+1))(q:Fi mo h0 h pk fk wk u F (W++[pr (t,ar)]))(hF:F.length<=1000000)(hW:W.length<=1000000)(ha:ar.length<=90000)(o1 o2 o5 o6 o7:Option D):∃h' o5' o6' o7',
 xs2 (P.tbl (n+2)) Zdt (ve pk fk wk o1 o2 o5 o6 o7) h=.ok (.nx,ve pk fk wk o1 o2 o5' o6' o7') h'/\Fi mo h0 h' pk fk wk (u+1) (F++[tf t]) (W++(t.parts.reverse.map fun s=>pr (s,Zb4 t ar))):=by
 obtain⟨h1,pp,q1⟩:=q.pop;have em:=Zhu H n (h:=h1) t ar;rw[hm]at em;obtain⟨h2,e2,q2⟩:=q1.take H (n+1) lm;obtain⟨h3,e3,q3⟩:=q2.push (tf t) hF;obtain⟨h4,e4,q4⟩:∃h4,run P (n+2) (O "within") [t.d,.tup (ar.map edd)] h3=.ok (.tup ((Zb4 t ar).map edd)) h4/\Fi mo h0 h4 pk fk wk (u+1) (F++[tf t]) W:=⟨_,Znd H n t ar (by omega),q3.app⟩
 have hp:t.parts.length<=3:=by cases t<;>simp[T.parts]
 obtain⟨h5,e5,q5⟩:=q4.ext ((t.parts.map T.d).reverse.map fun d=>D.tup [d,.tup ((Zb4 t ar).map edd)]) (by simp;omega);have ec:=ZoN (U:=P.tbl (n+2)) (h:=h4) (a:=.tup ((Zb4 t ar).map edd)) (t.parts.map T.d).reverse [] (by simp;omega);refine⟨h5,Wu (pr (t,ar)),Wu .non,Wu (.tup ((Zb4 t ar).map edd)),?_,by simpa[pr,List.map_reverse,YZ]using q5⟩;refine(Za (Zu (Zi6 rfl q.w rfl pp))).trans ((Za (Zu (Zr em rfl))).trans ((Za ((Zs (Zmv rfl)).trans ?_)).trans rfl));refine(Za (Zgj (Zba rfl q1.p rfl rfl e2))).trans ((Za (Zgj (Zi6 rfl q2.f (Zd (Zr (Zpv H (n+1) t h2) rfl) rfl) e3))).trans ?_);exact(Za (Zu (Zr e4 rfl))).trans ((Za (Zgj (Zi6 rfl q4.w (Zd (Zrg (Zs1 (Zr (Gn.Zfi H.toTre (n+1) t h4) rfl)) ec) rfl) e5))).trans rfl)
theorem ZrG(H:Trb P)(w:Wid P)(n:Nat){h0 h:Hd}{pk fk wk:Nat}{u:Int}{F W:List D}(t:T)(ar:En)(hm:Zcp ar t=Wv)(q:Fi (.int u) h0 h pk fk wk u F (W++[pr (t,ar)]))(o1 o2 o5 o6 o7:Option D):∃h',
 xs2 (P.tbl (n+2)) Zdt (ve pk fk wk o1 o2 o5 o6 o7) h=.exc (O "Wide") h'/\Fi (.int u) h0 h' pk fk wk u F W:=by
 obtain⟨h1,pp,q1⟩:=q.pop;have em:=Zhu H n (h:=h1) t ar;rw[hm]at em;refine⟨h1,?_,q1⟩;exact(Za (Zu (Zi6 rfl q.w rfl pp))).trans ((Za (Zu (Zr em rfl))).trans (ZcR ((Zs (Zmv rfl)).trans (ZcR (Zri (Zba rfl q1.p rfl rfl (Ziu H w (n+1) q1.p)))))))
theorem Zpf(H:Trb P)(n:Nat){mo:D}{h0 h:Hd}{pk fk wk:Nat}{u:Int}{F W:List D}(t:T)(ar:En){v:Rw.Th}(hm:Zcp ar t=Wu v)(q:Fi mo h0 h pk fk wk u F (W++[pr (t,ar)]))(hW:W.length<=1000000)(o1 o2 o5 o6 o7:Option D):∃h' o5' o6' o7',
 xs2 (P.tbl (n+2)) Zdt (ve pk fk wk o1 o2 o5 o6 o7) h=.ok (.nx,ve pk fk wk o1 o2 o5' o6' o7') h'/\Fi mo h0 h' pk fk wk u F (W++[pr ((opn v).1,up (opn v).2)]):=by
 obtain⟨h1,pp,q1⟩:=q.pop;have em:=Zhu H n (h:=h1) t ar;rw[hm]at em;obtain⟨h2,e2,q2⟩:=q1.wait (pr ((opn v).1,up (opn v).2)) hW;have eo:=Ziv H (n+1) (h:=h1) v;rw[<- ZkX]at eo;refine⟨h2,Wu (pr (t,ar)),Wu v.d,o7,?_,q2⟩;refine(Za (Zu (Zi6 rfl q.w rfl pp))).trans ((Za (Zu (Zr em rfl))).trans ((Za ((Zw (Zol rfl (fun z=>by cases v<;>cases z))).trans ?_)).trans rfl));exact(Za (Zgj (Zi6 rfl q1.w (Zd (Zr eo rfl) rfl) e2))).trans rfl
end Tm
end
section
namespace Rw
open PySem L2 IV
mutual
def ThG(N:Nat):Th->Prop
 |.num _=>True
 |.clo E ar=>(∀x,E≠.name x)/\ar.len+2 * E.size<=2 * N/\ArG N ar
def ArG(N:Nat):Ar->Prop
 |.nil=>True
 |.cons _ v r=>ThG N v/\ArG N r
end
end Rw
namespace Tm
open PySem L2 IV
variable {P:Pg}
theorem Zcw:∀(xs:List Str) (ar:Ar) {x:Str}{V:T},get (xs.map (fun y=>(y,Wv))++ar) x=Wu V->get ar x=Wu V
 |[],ar,x,V,e=>e
 |y::xs,ar,x,V,e=>by
  rw[Op,List.cons_append,get]at e;split at e
  . cases e
  . exact Zcw xs ar e
theorem Zhw{t s:T}(hs:s∈t.parts):s.size+1<=t.size:=by
 rw[Zb t];have:∀l:List T,s∈l->s.size<=(l.map T.size).sum:=by
  intro l;induction l with
  |nil=>intro z;cases z
  |cons a r ih=>
   intro z;rw[Op,OI];rcases O2.mp z with rfl|z
   . omega
   . have:=ih z;omega
 have:=this _ hs;omega
def Wok(N:Nat)(p:T×En):Prop:=p.2.length+2 * p.1.size<=2 * N/\∀q∈p.2,∀v,q.2=Wu v->Rw.ThG N v
theorem Wok.part{N:Nat}{t s:T}{ar:En}(w:Wok N (t,ar))(hs:s∈t.parts):Wok N (s,Zb4 t ar):=by
 have h1:=Zhw hs;have hb:(bnd t).length<=2:=by cases t<;>simp[bnd]
 have h2:=w.1;have:(Zb4 t ar).length=(bnd t).length+ar.length:=by simp[Zb4]
 refine⟨?_,fun q hq v e=>?_⟩
 . simp only at h2 ⊢;omega
 . rcases OD.mp hq with hq|hq
   . obtain⟨y,_,rfl⟩:=List.mem_map.mp hq;cases e
   . exact w.2 q hq v e
theorem ZrA{N:Nat}:∀{ar:Rw.Ar},Rw.ArG N ar->∀q∈up ar,∀v,q.2=Wu v->Rw.ThG N v
 |.nil,_,q,hq,_,_=>by cases hq
 |.cons x w r,h,q,hq,v,e=>by
  rcases O2.mp hq with rfl|hq
  . cases e;exact h.1
  . exact ZrA h.2 q hq v e
theorem Wok.thing{N:Nat}(hN:1<=N){v:Rw.Th}(h:Rw.ThG N v):Wok N ((opn v).1,up (opn v).2):=by
 cases v with
 |num n=>refine⟨?_,fun q hq=>by cases hq⟩;show 0+2 * 1<=2 * N;omega
 |clo E ar=>refine⟨?_,ZrA h.2.2⟩;have:=h.2.1;show(up ar).length+2 * E.size<=2 * N;rw[Zjx];exact this
theorem Zi9{x:Str}{v:Rw.Th}:∀{e:En},ZdY e x=Wu v->∃q∈e,q.2=Wu v
 |[],h=>by cases h
 |(y,o)::r,h=>by
  rw[ZdY]at h;split at h
  . exact⟨_,Oi,h⟩
  . obtain⟨q,hq,e⟩:=Zi9 h;exact⟨q,Oh _ hq,e⟩
theorem Wok.mean{N:Nat}{t:T}{e:En}{v:Rw.Th}(w:Wok N (t,e))(h:Zcp e t=Wu v):Rw.ThG N v:=by
 cases t with
 |name x=>obtain⟨q,hq,e⟩:=Zi9 (show ZdY e x=Wu v from h);exact w.2 q hq v e
 |_=>cases h
theorem ZnJ{N:Nat}{v:Rw.Th}(h:Rw.ThG N v):Zcp (up (opn v).2) (opn v).1=Wv:=by
 cases v with
 |num n=>rfl
 |clo E ar=>cases E with
  |name x=>exact absurd rfl (h.1 x)
  |_=>rfl
noncomputable def tot(W:List (T×En)):Nat:=(W.map fun p=>(tel p).size).sum
theorem Zhk(A B_:List (T×En)):tot (A++B_)=tot A+tot B_:=by simp[tot]
theorem Zhj(p:T×En):tot [p]=(tel p).size:=by simp[tot]
theorem ZlQ{t:T}{e:En}(h:Zcp e t=Wv):(tel (t,e)).size=1+tot (t.parts.reverse.map fun s=>(s,Zb4 t e)):=by rw[Zb,(ZgH h).1];simp[tot,List.map_reverse,YZ]
noncomputable def com(W:List (T×En)):List D:=(W.reverse.flatMap fun p=>(tel p).places).map tf
theorem ZhU(W:List (T×En))(p:T×En):com (W++[p])=(tel p).places.map tf++com W:=by simp[com]
theorem ZmD(W:List (T×En)){t:T}{e:En}(h:Zcp e t=Wv):com (W++[(t,e)])=tf t::com (W++t.parts.reverse.map fun s=>(s,Zb4 t e)):=by obtain⟨h1,h2⟩:=ZgH h;rw[ZhU,T.places_parts,Op,show tf (tel (t,e))=tf t by unfold tf;rw[h2],h1];simp[com,List.flatMap_append,List.map_reverse,List.flatMap_map]
def Bud(P:Pg)(mo:D)(u:Int)(K n:Nat):Prop:=(mo=.non/\n<=K)\/(mo=.int (u+(K:Int))/\(n<=K\/Wid P))
noncomputable def nb(e:En)(t:T):Nat:=match Zcp e t with
 |some _=>1
 |none=>0
noncomputable def nbs(W:List (T×En)):Nat:=match W.getLast? with
 |some p=>nb p.2 p.1
 |none=>0
theorem Zuw(e:En)(t:T):nb e t<=1:=by unfold nb;split<;>omega
theorem ZnT(W:List (T×En)):nbs W<=1:=by unfold nbs;split;exact Zuw _ _;omega
theorem Zlj(W:List (T×En))(p:T×En):nbs (W++[p])=nb p.2 p.1:=by simp[nbs]
def Old(h0 h:Hd)(pk:Nat):Prop:=h0.length<=h.length/\∀i,i<h0.length->i≠pk->h[i]? = h0[i]?
inductive Fld(P:Pg)(n:Nat)(mo:D)(h0:Hd)(pk fk wk:Nat)(o1 o2:Option D)(u:Int)(F:List D)(W:List (T×En))(K:Nat):R (Fl×Ev)->Prop
 |ok {h':Hd}{o5 o6 o7:Option D} (le:tot W<=K) (q:Fi mo h0 h' pk fk wk (u+(tot W:Int)) (F++com W) []):Fld P n mo h0 pk fk wk o1 o2 u F W K (.ok (.nx,ve pk fk wk o1 o2 o5 o6 o7) h')
 |ex {h':Hd} (lt:K<tot W) (q:Old h0 h' pk):Fld P n mo h0 pk fk wk o1 o2 u F W K (.exc (O "Wide") h')
theorem Zj6(H:Trb P)(n:Nat){N:Nat}(hN:1<=N)(hN2:N<=45000){mo:D}{h0:Hd}{pk fk wk:Nat}{o1 o2:Option D}:∀ (fuel:Nat) (W:List (T×En)) (F:List D) (u:Int) (h:Hd) (o5 o6 o7:Option D) (K:Nat),Bud P mo u K (tot W)->2 * K+1+nbs W<=fuel->F.length+K<=400000->W.length+3 * K<=1000000->(∀ p∈W,Wok N p)->Fi mo h0 h pk fk wk u F (W.map pr) ->
   Fld P n mo h0 pk fk wk o1 o2 u F W K (ZO (tst (P.tbl (n+2)) (.ex (.var 4))) (xs2 (P.tbl (n+2)) Zdt) fuel (ve pk fk wk o1 o2 o5 o6 o7) h)
 | 0,W,F,u,h,o5,o6,o7,K,_,hf,_,_,_,_=>by omega
 | fuel+1,W,F,u,h,o5,o6,o7,K,bu,hf,hz,hw,ok,q=>by
   rcases List.eq_nil_or_concat W with rfl|⟨V,p,rfl⟩
   . rw [Zhg (Zq1 rfl q.w)];exact .ok (Yy _) (by simpa [com,tot] using q)
   . obtain ⟨t,ar⟩:=p;rw [List.concat_eq_append] at bu hf hw ok q ⊢;have q':Fi mo h0 h pk fk wk u F (V.map pr++[pr (t,ar)]):=by simpa using q
     have hW:=ok (t,ar) (by simp);have okV:∀ p∈V,Wok N p:=fun p hp=>ok p (by simp [hp]);rw [Zlj] at hf;simp only at hf;rw [OA,List.length_singleton] at hw;have hV:(V.map pr).length<=1000000:=by rw [Yu];omega
     have ha:ar.length<=90000:=by have:=hW.1;simp only at this;omega
     have tt:=Zq (Zq1 (U:=P.tbl (n+2)) (S:=ve pk fk wk o1 o2 o5 o6 o7) (e:=.var 4) rfl q'.w) (c:=true) (by simp);have e1:tot (V++[(t,ar)])=tot V+(tel (t,ar)).size:=by rw [Zhk,Zhj]
     cases hm:Zcp ar t with
     | none =>
       have t1:=ZlQ hm;rw [show nb ar t=0 by unfold nb;rw [hm]] at hf;cases K with
       | zero =>
         rcases bu with ⟨_,z⟩|⟨rfl,z⟩
         . omega
         . rcases z with z|z
           . omega
           . have q2:Fi (.int u) h0 h pk fk wk u F (V.map pr++[pr (t,ar)]):=by simpa using q'
             obtain ⟨h1,x,q1⟩:=ZrG H z n t ar hm q2 o1 o2 o5 o6 o7;rw [Zo3 tt x];exact .ex (by omega) ⟨q1.ol,q1.old⟩
       | succ K =>
         have lm:Lim mo (u+1):=by
           rcases bu with ⟨e,_⟩|⟨e,_⟩
           . exact .inl e
           . exact .inr ⟨_,e,by omega⟩
         obtain ⟨h1,o51,o61,o71,x,q1⟩:=Zpg H n t ar hm lm q' (by omega) hV ha o1 o2 o5 o6 o7;rw [Zfg tt x];have e2:tot (V++t.parts.reverse.map fun s=>(s,Zb4 t ar))=tot V+tot (t.parts.reverse.map fun s=>(s,Zb4 t ar)):=Zhk _ _;have hp:t.parts.length<=3:=by cases t<;>simp [T.parts]
         have nl:=ZnT (V++t.parts.reverse.map fun s=>(s,Zb4 t ar));have ih:=Zj6 H n hN hN2 (o1:=o1) (o2:=o2) fuel (V++t.parts.reverse.map fun s=>(s,Zb4 t ar)) (F++[tf t]) (u+1) h1 o51 o61 o71 K (by
           rcases bu with ⟨e,z⟩|⟨e,z⟩
           . exact .inl ⟨e,by omega⟩
           . exact .inr ⟨by rw [e];congr 1;omega,z.imp (fun z=>by omega) id⟩) (by omega) (by rw [OA,List.length_singleton];omega) (by rw [OA,Yu,List.length_reverse];omega) (fun p hp=>by
           rcases OD.mp hp with hp|hp
           . exact okV p hp
           . obtain ⟨s,hs,rfl⟩:=List.mem_map.mp hp;exact hW.part (by simpa using hs)) (by simpa [List.map_map,YZ] using q1)
         generalize ZO _ _ _ _ _=r at ih ⊢;cases ih with
         | ok le q =>
           refine .ok (by omega) ?_;rw [ZmD V hm,show u+((tot (V++[(t,ar)]):Nat):Int)=u+1+((tot (V++t.parts.reverse.map fun s=>(s,Zb4 t ar)):Nat):Int) by rw [e1,e2,t1];omega];simpa using q
         | ex lt q=>exact .ex (by omega) q
     | some v =>
       rw [show nb ar t=1 by unfold nb;rw [hm]] at hf;have g:=hW.mean hm;have s1:(tel (t,ar)).size=(tel ((opn v).1,up (opn v).2)).size:=by rw [Zgi hm,Zhm]
       have e2:tot (V++[((opn v).1,up (opn v).2)])=tot (V++[(t,ar)]):=by rw [e1,Zhk,Zhj,s1]
       obtain ⟨h1,o51,o61,o71,x,q1⟩:=Zpf H n t ar hm q' hV o1 o2 o5 o6 o7;rw [Zfg tt x];have ih:=Zj6 H n hN hN2 (o1:=o1) (o2:=o2) fuel (V++[((opn v).1,up (opn v).2)]) F u h1 o51 o61 o71 K (by rw [e2];exact bu) (by rw [Zlj];unfold nb;rw [ZnJ g];simp only;omega) hz (by rw [OA,List.length_singleton];omega) (fun p hp=>by
         rcases OD.mp hp with hp|hp
         . exact okV p hp
         . rw [Ox.mp hp];exact Wok.thing hN g) (by simpa using q1)
       have e3:com (V++[((opn v).1,up (opn v).2)])=com (V++[(t,ar)]):=by rw [ZhU,ZhU,Zgi hm,Zhm]
       generalize ZO _ _ _ _ _=r at ih ⊢;cases ih with
       | ok le q =>
         rw [e2,e3] at q;exact .ok (by omega) q
       | ex lt q=>exact .ex (by omega) q
end Tm
end
section
namespace Tm
open PySem L2 IV
variable {P:Pg}
theorem grown{h0 h:Hd}(hl:h0.length<=h.length)(old:∀ i,i<h0.length->h[i]? = h0[i]?):∃ g,h=h0++g:=⟨h.drop h0.length,by
 apply List.ext_getElem?;intro i;rcases Nat.lt_or_ge i h0.length with q|q
 . rw [old i q,Oe q]
 . rw [Om q,List.getElem?_drop];congr 1;omega⟩
def Aft(h0 h:Hd)(pk:Nat)(mo:D)(u:Int):Prop:=h[pk]? = Wu (ZaR mo u)/\h0.length<=h.length/\∀i,i<h0.length->i≠pk->h[i]? = h0[i]?
inductive Out(h0:Hd)(pk:Nat)(mo:D)(t:T)(u:Int)(K:Nat):R D->Prop
 |ok {h':Hd} (le:t.size<=K) (a:Aft h0 h' pk mo (u+(t.size:Int))):Out h0 pk mo t u K (.ok t.d h')
 |ex {h':Hd} (lt:K<t.size) (a:Old h0 h' pk):Out h0 pk mo t u K (.exc (O "Wide") h')
theorem Znh(H:Trb P)(n:Nat){N:Nat}(hN:1<=N)(hN2:N<=45000)(t:T)(e:En){mo:D}{h0 h:Hd}{pk K:Nat}{u:Int}(a:Aft h0 h pk mo u)(bu:Bud P mo u K (tel (t,e)).size)(hK:K<=300000)(hw:Wok N (t,e)):
 Out h0 pk mo (tel (t,e)) u K (run P (n+3) (mnm (O "Pen") (O "filled")) [.ref pk,t.d,.tup (e.map edd)] h):=by
 obtain⟨hp,hl,old⟩:=a;rw[ZdS H.n_Pen_filled H.Pen_filled (by rfl)];have q0:Fi mo h0 (h++[.lst [],.lst ([(t,e)].map pr)]) pk h.length (h.length+1) u [] ([(t,e)].map pr):=⟨keep hp,by simp,by simp,by omega,hl,by omega,by simp;omega,fun i hi hn=>by rw[Oe (by omega)];exact old i hi hn⟩
 have e1:=Zhj (t,e);have big:=H.big;have nl:=ZnT [(t,e)];have x:=Zj6 H n hN hN2 (o1:=Wu t.d) (o2:=Wu (.tup (e.map edd))) P.L [(t,e)] [] u _ Wv Wv Wv K (by rw[e1];exact bu) (by omega) (by simp only[List.length_nil];omega) (by simp only[Os,List.length_nil];omega) (fun p hp=>by rw[Ox.mp hp];exact hw) q0;have x1:xs1 (P.tbl (n+2)) (.set (.nm 3) (.lstl .nil)) [Wu (.ref pk),Wu t.d,Wu (.tup (e.map edd)),Wv,Wv,Wv,Wv,Wv] h=.ok (.nx,[Wu (.ref pk),Wu t.d,Wu (.tup (e.map edd)),Wu (.ref h.length),Wv,Wv,Wv,Wv]) (h++[.lst []]):=Zu (Zkw rfl (by decide));have x2:xs1 (P.tbl (n+2)) (.set (.nm 4) (.lstl (.cons (.tupl (.cons (.var 1) (.cons (.var 2) .nil))) .nil))) [Wu (.ref pk),Wu t.d,Wu (.tup (e.map edd)),Wu (.ref h.length),Wv,Wv,Wv,Wv] (h++[.lst []])=.ok (.nx,[Wu (.ref pk),Wu t.d,Wu (.tup (e.map edd)),Wu (.ref h.length),Wu (.ref (h.length+1)),Wv,Wv,Wv]) (h++[.lst [],.lst ([(t,e)].map pr)]):=by have:=Zu (U:=P.tbl (n+2)) (i:=4) (Zkw (S:=[Wu (.ref pk),Wu t.d,Wu (.tup (e.map edd)),Wu (.ref h.length),Wv,Wv,Wv,Wv]) (h:=h++[.lst []]) (es:=.cons (.tupl (.cons (.var 1) (.cons (.var 2) .nil))) .nil) (Zd (Za9 (Zd rfl (Zd rfl rfl)) (by simp)) rfl) (by simp));simpa[pr]using this
 have key:∀y,Fld P n mo h0 pk h.length (h.length+1) (Wu t.d) (Wu (.tup (e.map edd))) u [] [(t,e)] K y->xs1 (P.tbl (n+2)) (.whl (.ex (.var 4)) Zdt) [Wu (.ref pk),Wu t.d,Wu (.tup (e.map edd)),Wu (.ref h.length),Wu (.ref (h.length+1)),Wv,Wv,Wv] (h++[.lst [],.lst ([(t,e)].map pr)])=y->Out h0 pk mo (tel (t,e)) u K (Zh (xs2 (P.tbl (n+2)) ZcF [Wu (.ref pk),Wu t.d,Wu (.tup (e.map edd)),Wv,Wv,Wv,Wv,Wv] h)):=by
  intro y x z;rw[Zqy,Za x1,Za x2];cases x with
  |ex lt q=>rw[ZcR z];exact .ex (by rw[e1]at lt;exact lt) q
  |@ok h1 o5 o6 o7 le q1=>
   have qf:=q1.f;have ec:com [(t,e)]=(tel (t,e)).places.map tf:=by simp[com]
   rw[ec,OB]at qf;rw[e1]at le q1;obtain⟨g2,e3⟩:=Zpx H n (tel (t,e)) qf (by omega);have q2:=q1.app (g:=g2);have x4:xs1 (P.tbl (n+2)) (.ret (.call (O "built") (.cons (.var 3) .nil))) (ve pk h.length (h.length+1) (Wu t.d) (Wu (.tup (e.map edd))) o5 o6 o7) h1=.ok (.rt (tel (t,e)).d,ve pk h.length (h.length+1) (Wu t.d) (Wu (.tup (e.map edd))) o5 o6 o7) (h1++g2):=Zx (Zr e3 rfl);rw[Za z,Ze x4];exact .ok le ⟨q2.p,q2.ol,q2.old⟩
 exact key _ x rfl
noncomputable abbrev Fil:=List (Str×T)
noncomputable def Fil.ar(f:Fil):Ar:=f.map fun p=>(p.1,Wu p.2)
noncomputable def fen(f:Fil):En:=f.map fun p=>(p.1,Wu (Rw.Th.clo p.2 .nil))
theorem Zqz(f:Fil):f.ar.map ard=(fen f).map edd:=by simp[Fil.ar,fen,ard,edd,thd,Rw.thD,Rw.Th.d,Rw.Ar.ds,YZ]
theorem Zs6(f:Fil):er (fen f)=f.ar:=by simp[er,fen,Fil.ar,Rw.rd,Rw.ra,Zbu _ (show NN []from fun _=>rfl),YZ]
noncomputable def Fil.kv(f:Fil):List (Key×D):=f.map fun p=>(.inr p.1,p.2.d)
theorem ZkW:∀{f:Fil}{x:Str}{V:T},(f.map (·.1)).Nodup->(x,V)∈f->Zad f.kv (.inr x)=Wu V.d
 |(y,W)::r,x,V,nd,hm=>by
  rw[Op,List.nodup_cons]at nd;unfold Zad Fil.kv;rw[Op,Wr];rcases O2.mp hm with e|hm
  . cases e;simp
  . have ne:y≠x:=fun z=>nd.1 (by rw[z];exact List.mem_map.mpr ⟨(x,V),hm,rfl⟩);have:¬ (YE y:Key)=YE x:=fun z=>ne (Sum.inr.inj z);simp only[this,decide_false];exact ZkW nd.2 hm
noncomputable def fe1:Ex:=(.tupl (.cons (.var 0) (.cons (.tupl (.cons (.cst (.str (O "clo"))) (.cons (.ix (.var 1) (.var 0)) (.cons (.tupl .nil) .nil)))) .nil)))
theorem Zro{U:Tb}{h:Hd}{dk:Nat}{f:Fil}(nd:(f.map (·.1)).Nodup)(hd:h[dk]? = Wu (.fdic f.kv)):∀(r:Fil) (acc:List D),(∀p∈r,p∈f)->acc.length+r.length<=1000 ->
 ZN Wv (.nm 0) (tsto U Wv) (ev U fe1) (r.map fun p=>D.str p.1) [Wv,Wu (.ref dk)] acc h=.ok (acc++r.ar.map ard) h
 |[],acc,_,_=>by simp[ZN,Wk.stays,Fil.ar]
 |(x,V)::r,acc,hm,hz=>by
  have ih:=Zro (U:=U) nd hd r (acc++[ard (x,Wu V)]) (fun p hp=>hm p (Oh _ hp)) (by simp at hz ⊢;omega);have hl:acc.length<16777216:=by simp at hz;omega
  have hv:=ZkW nd (hm (x,V) Oi);have ix:ZaS U.GD (.ref dk) (.str x) h=.ok V.d h:=by simp[ZaS,dicOf,hd,hv]
  have ee:ev U fe1 [Wu (.str x),Wu (.ref dk)] h=.ok (ard (x,Wu V)) h:=by simp[fe1,ix,YC,ard,thd]
  rw[Op,ZX];simp[Wk.stays,hl,YC,ee];simpa[Fil.ar]using ih
theorem Zla(H:Trm P)(n:Nat)(t:T)(f:Fil){h0 h:Hd}{dk:Nat}(nd:(f.map (·.1)).Nodup)(hf:f.length<=100)(hd:h[dk]? = Wu (.dic f.kv))(ho:h0.length<=dk)(hl:h0.length<=h.length)(old:∀i,i<h0.length->h[i]? = h0[i]?){N:Nat}(hN:1<=N)(hN2:N<=45000)(hw:Wok N (t,fen f))(hz:(sub f.ar t).size<=300000):
 ∃g,run P (n+4) (O "put_in") [t.d,.ref dk] h=.ok (sub f.ar t).d (h0++g):=by
 rw[Zc H.put_in (by rfl)];have hdl:=ZeZ hd;generalize hh1:h.set dk (.fdic f.kv)=h1;have d1:h1[dk]? = Wu (.fdic f.kv):=by rw[<- hh1,Ol hdl]
 have l1:h1.length=h.length:=by rw[<- hh1];simp
 have old1:∀i,i<h0.length->h1[i]? = h0[i]? := fun i hi=>by rw[<- hh1,Oc (by omega)];exact old i hi
 have ec:=Zro (U:=P.tbl (n+3)) nd d1 f [] (fun p hp=>hp) (by simp;omega);have ks:(f.kv.map fun p=>Zn9 p.1)=f.map fun p=>D.str p.1:=by simp[Fil.kv,Zn9,YZ]
 have x1:xs1 (P.tbl (n+3)) ZcC [Wu t.d,Wu (.ref dk),Wv] h=.ok (.nx,[Wu t.d,Wu (.ref dk),Wu (.tup (f.ar.map ard))]) (h1++[.lst (f.ar.map ard)]):=by
  have ei:evi (P.tbl (n+3)) (.dk (.var 1)) [Wu t.d,Wu (.ref dk),Wv] h=.ok ⟨Wv,f.map fun p=>D.str p.1⟩ h1:=by simp[Zos,hd,hh1,ks]
  have ev1:ev (P.tbl (n+3)) (.comp [(O "name"),(O "filling")] [Wv,Wu 1] (.dk (.var 1)) (.nm 0) Wv fe1) [Wu t.d,Wu (.ref dk),Wv] h=.ok (.ref h1.length) (h1++[.lst (f.ar.map ard)]):=by rw[Zfo,ei,Zk];simp only[Zbq,Op,Oy,Option.bind_none,Yz];rw[show([Wu t.d,Wu (D.ref dk),Wv][1]?).join=Wu (.ref dk)from rfl,ec];rfl
  unfold fe1 at ev1;simp[-Zfo,ZcC,ev1,Zbl,ZmI,lstOf]
 generalize hh2:h1++[DO.lst (f.ar.map ard)]=h2 at x1;have l2:h2.length=h.length+1:=by rw[<- hh2];simp[l1]
 have old2:∀i,i<h0.length->(h2++[ZaR .non 0])[i]? = h0[i]? := fun i hi=>by rw[Oe (by omega),<- hh2,Oe (by omega)];exact old1 i hi
 have ep:=Zra H.toTrb (n+2) .non h2;have et:tel (t,fen f)=sub f.ar t:=by show sub (er (fen f)) t=_;rw[Zs6]
 have o:=Znh H.toTrb n hN hN2 t (fen f) (mo:=.non) (h0:=h0) (h:=h2++[ZaR .non 0]) (pk:=h2.length) (u:=0) (K:=(sub f.ar t).size) ⟨by simp,by simp;omega,fun i hi _=>old2 i hi⟩ (.inl ⟨rfl,by rw[et];exact Oq _⟩) hz hw;rw[et,<- Zqz]at o;obtain⟨h3,e,a3⟩:∃h3,run P (n+3) (mnm (O "Pen") (O "filled")) [.ref h2.length,t.d,.tup (f.ar.map ard)] (h2++[ZaR .non 0])=.ok (sub f.ar t).d h3/\Aft h0 h3 h2.length .non (0+((sub f.ar t).size:Int)):=by
  generalize run P (n+3) _ _ _=r at o;cases o with
  |ok le a=>exact⟨_,rfl,a⟩
  |ex lt a=>omega
 obtain⟨g,rfl⟩:=grown a3.2.1 (fun i hi=>a3.2.2 i hi (by omega));refine⟨g,?_⟩;have io:ZZ (.ref h2.length) (h2++[ZaR .non 0])=Wu (O "Pen",[(O "most",.non),(O "used",.int 0)]):=by simp[ZZ,ZaR]
 have x2:xs1 (P.tbl (n+3)) ZcB [Wu t.d,Wu (.ref dk),Wu (.tup (f.ar.map ard))] h2=.ok (.rt (sub f.ar t).d,[Wu t.d,Wu (.ref dk),Wu (.tup (f.ar.map ard))]) (h0++g):=by simp[ZcB,Pg.tbl,ep,io,Wj,e]
 show Zh (xs2 (P.tbl (n+3)) (.cons ZcC (.cons ZcB .nil)) [Wu t.d,Wu (.ref dk),Wv] h)=_;rw[Za x1,Ze x2];rfl
end Tm
end
section
namespace Tm
open PySem L2 IV
variable {P:Pg}{h:Hd}
noncomputable def isV:T->Bool
 |.num _|.fn _ _|.rcc _ _ _=>Ww
 |_=>Wx
noncomputable def pf:T->List T
 |.iff c _ _=>[c]
 |t=>t.parts
noncomputable def Zep:Nat->List T->Option Nat
 |_,[]=>Wv
 |k,t::r=>if isV t then Zep (k+1) r else Wu k
noncomputable def fo(t:T):Option Nat:=Zep 1 (pf t)
noncomputable def oN:Option Nat->D
 |some k=>.int (k:Int)
 |none=>.non
theorem Zrb(H:Trm P)(n:Nat)(t:T):run P (n+1) (O "is_value") [t.d] h=.ok (.bl (isV t)) h:=by
 rw[Zc H.is_value (by cases t<;>rfl)];refine Zu5 (U:=P.tbl n) (fun U=>Zh (xs2 U Zav.body (Zn Zav.N [t.d]) h)) H.gv ?_ ?_
 . cases t with
   |op w a b=>cases w<;>exact rfl
   |_=>exact rfl
 . cases t with
   |op w a b=>cases w<;>exact rfl
   |_=>exact rfl
theorem ZvN(H:Trm P)(n:Nat)(t:T):run P (n+2) (O "parts_first") [t.d] h=.ok (.tup ((pf t).map T.d)) h:=by
 rw[Zc H.parts_first (by cases t<;>rfl)];have ep:=Gn.Zfi H.toTre n t h;cases t with
 |iff c a b=>exact rfl
 |op w a b=>exact Zgp (U:=P.tbl (n+1)) (fun U=>Zh (xs2 U Zz.body (Zn Zz.N [(T.op w a b).d]) h)) ep (by cases w<;>rfl) (by cases w<;>rfl)
 |_=>exact Zgp (U:=P.tbl (n+1)) (fun U=>Zh (xs2 U Zz.body (Zn Zz.N [T.d _]) h)) ep rfl rfl
noncomputable def Ze0:Sxs:=(.cons (.iff (.nt (.ex (.call (O "is_value") (.cons (.var 2) .nil)))) (.cons (.ret (.var 1)) .nil) .nil) .nil)
noncomputable def cnt(k:Nat):List T->List D
 |[]=>[]
 |t::r=>.tup [.int ((k+1:Nat):Int),t.d]::cnt (k+1) r
theorem Zjg:∀(ts:List T) (k:Nat),((ts.map T.d).mapIdx fun i x=>D.tup [.int ((k+i+1:Nat):Int),x])=cnt k ts
 |[],_=>rfl
 |t::r,k=>by
  rw[Op,List.mapIdx_cons,cnt,<- Zjg r (k+1)];congr 1
  . congr 1;funext i x;congr 4;omega
theorem ZuI(H:Trm P)(n:Nat){E:D}:∀(ts:List T) (k:Nat) (a b:Option D),(∃S,ZL Wv (.two 1 2) (xs2 (P.tbl (n+1)) Ze0) (cnt k ts) [Wu E,a,b] h=.ok (.rt (oN (Zep (k+1) ts)),S) h)\/(Zep (k+1) ts=Wv/\∃S,ZL Wv (.two 1 2) (xs2 (P.tbl (n+1)) Ze0) (cnt k ts) [Wu E,a,b] h=.ok (.nx,S) h)
 |[],k,a,b=>.inr ⟨rfl,_,rfl⟩
 |t::r,k,a,b=>by
  have ev:=Zrb H n (h:=h) t;rw[cnt,Z8];cases hv:isV t with
  |false=>rw[hv]at ev;refine .inl ⟨[Wu E,Wu (.int ((k+1:Nat):Int)),Wu t.d],?_⟩;simp[Ze0,Pg.tbl,ev,Zep,hv,oN]
  |true=>
   rw[hv]at ev;have x:xs2 (P.tbl (n+1)) Ze0 [Wu E,Wu (.int ((k+1:Nat):Int)),Wu t.d] h=.ok (.nx,[Wu E,Wu (.int ((k+1:Nat):Int)),Wu t.d]) h:=by simp[Ze0,Pg.tbl,ev]
   have ih:=ZuI H n (E:=E) r (k+1) (Wu (.int ((k+1:Nat):Int))) (Wu t.d);simp only[Zjm,List.set_cons_zero,List.set_cons_succ,x,Zk,Zep,hv,if_true];exact ih
theorem Zt2(H:Trm P)(n:Nat)(t:T):run P (n+3) (O "first_open") [t.d] h=.ok (oN (fo t)) h:=by
 rw[Zc H.first_open (by cases t<;>rfl)];have ep:=ZvN H n (h:=h) t;have ei:evi (P.tbl (n+2)) (.en1 (.call (O "parts_first") (.cons (.var 0) .nil))) [Wu t.d,Wv,Wv] h=.ok ⟨Wv,cnt 0 (pf t)⟩ h:=by have e1:ev (P.tbl (n+2)) (.call (O "parts_first") (.cons (.var 0) .nil)) [Wu t.d,Wv,Wv] h=.ok (.tup ((pf t).map T.d)) h:=ep;rw[ZqD,e1,Zk];have:=Zjg (pf t) 0;simp only[Nat.zero_add]at this;simp only[ZdX,this]
 show Zh (xs2 (P.tbl (n+2)) (.cons (.forr (.two 1 2) (.en1 (.call (O "parts_first") (.cons (.var 0) .nil))) Ze0) (.cons (.ret (.cst .non)) .nil)) [Wu t.d,Wv,Wv] h)=_;rcases ZuI H (n+1) (E:=t.d) (h:=h) (pf t) 0 Wv Wv with ⟨S,q⟩|⟨q0,S,q⟩
 . have x:xs1 (P.tbl (n+2)) (.forr (.two 1 2) (.en1 (.call (O "parts_first") (.cons (.var 0) .nil))) Ze0) [Wu t.d,Wv,Wv] h=.ok (.rt (oN (fo t)),S) h:=by rw[Zft,ei,Zk];exact q
   rw[Ze x];rfl
 . have x:xs1 (P.tbl (n+2)) (.forr (.two 1 2) (.en1 (.call (O "parts_first") (.cons (.var 0) .nil))) Ze0) [Wu t.d,Wv,Wv] h=.ok (.nx,S) h:=by rw[Zft,ei,Zk];exact q
   rw[Za x];have:fo t=Wv:=q0;rw[this];rfl
noncomputable def pth:T->List (T×Nat)
 |.call f a=>if isV f then(if isV a then []else(.call f a,2)::pth a)else(.call f a,1)::pth f
 |.op w f a=>if isV f then(if isV a then []else(.op w f a,2)::pth a)else(.op w f a,1)::pth f
 |.iff c t e=>if isV c then []else(.iff c t e,1)::pth c
 |_=>[]
noncomputable def bot:T->T
 |.call f a=>if isV f then(if isV a then .call f a else bot a)else bot f
 |.op w f a=>if isV f then(if isV a then .op w f a else bot a)else bot f
 |.iff c t e=>if isV c then .iff c t e else bot c
 |t=>t
noncomputable def ZbN(t:T):List D:=(pth t).map (fun p=>D.tup [p.1.d,.int (p.2:Int)])++[.tup [(bot t).d,.non]]
theorem Zo5(t:T)(nv:isV t=Wx)(nn:∀x,t≠.name x):(fo t=Wv/\pth t=[]/\bot t=t)\/∃k s,fo t=Wu k/\pth t=(t,k)::pth s/\bot t=bot s/\isV s=Wx/\s∈t.parts/\(∀GD,ZaS GD t.d (.int (k:Int)) h=.ok s.d h):=by
 cases t with
 |num _=>cases nv
 |fn _ _=>cases nv
 |rcc _ _ _=>cases nv
 |name x=>exact absurd rfl (nn x)
 |call f a=>
  cases hf:isV f with
  |false=>exact .inr ⟨1,f,by simp[fo,pf,T.parts,Zep,hf],by simp[pth,hf],by simp[bot,hf],hf,by simp[T.parts],fun GD=>by simp[T.d]⟩
  |true=>
   cases ha:isV a with
   |false=>exact .inr ⟨2,a,by simp[fo,pf,T.parts,Zep,hf,ha],by simp[pth,hf,ha],by simp[bot,hf,ha],ha,by simp[T.parts],fun GD=>by simp[T.d]⟩
   |true=>exact .inl ⟨by simp[fo,pf,T.parts,Zep,hf,ha],by simp[pth,hf,ha],by simp[bot,hf,ha]⟩
 |op w f a=>
  cases hf:isV f with
  |false=>exact .inr ⟨1,f,by simp[fo,pf,T.parts,Zep,hf],by simp[pth,hf],by simp[bot,hf],hf,by simp[T.parts],fun GD=>by simp[T.d]⟩
  |true=>
   cases ha:isV a with
   |false=>exact .inr ⟨2,a,by simp[fo,pf,T.parts,Zep,hf,ha],by simp[pth,hf,ha],by simp[bot,hf,ha],ha,by simp[T.parts],fun GD=>by simp[T.d]⟩
   |true=>exact .inl ⟨by simp[fo,pf,T.parts,Zep,hf,ha],by simp[pth,hf,ha],by simp[bot,hf,ha]⟩
 |iff c a b=>
  cases hf:isV c with
  |false=>exact .inr ⟨1,c,by simp[fo,pf,Zep,hf],by simp[pth,hf],by simp[bot,hf],hf,by simp[T.parts],fun GD=>by simp[T.d]⟩
  |true=>exact .inl ⟨by simp[fo,pf,Zep,hf],by simp[pth,hf],by simp[bot,hf]⟩
end Tm
end
section
namespace Tm
open PySem L2 IV
variable {P:Pg}{h:Hd}
theorem Zrd{l:List D}{a:D}:atI (l++[a]) (-1)=Wu a:=ZoU
theorem Zta{l:List D}{a:D}:cutD (l++[a]) Wv (Wu (-1))=l:=by
 have e:HT.sIx (l++[a]).length (l++[a]).length (Wu (-1))=l.length:=by simp[HT.sIx];omega
 have e0:HT.sIx (l++[a]).length 0 Wv=0:=by simp[HT.sIx]
 unfold cutD;rw[e,e0];simp
theorem ZqK{t s:T}(c:Gn.Cl [] t)(nv:isV t=Wx)(hs:s∈t.parts):Gn.Cl [] s:=by
 cases t with
 |num _=>cases nv
 |fn _ _=>cases nv
 |rcc _ _ _=>cases nv
 |name _=>cases hs
 |call f a=>simp[T.parts]at hs;rcases hs with rfl|rfl;exact c.1;exact c.2
 |op w f a=>simp[T.parts]at hs;rcases hs with rfl|rfl;exact c.1;exact c.2
 |iff f a b=>simp[T.parts]at hs;rcases hs with rfl|rfl|rfl;exact c.1;exact c.2.1;exact c.2.2
theorem Zu3{t:T}(c:Gn.Cl [] t):∀x,t≠.name x:=fun x e=>by subst e;cases c
noncomputable def wd(t:T):D:=.tup [t.d,oN (fo t)]
noncomputable def wc:Tx:=(.ex (.cmp .IsNot (.ix (.ix (.var 1) (.neg (.cst (.int 1)))) (.cst (.int 1))) (.cst .non)))
noncomputable def ZnX:Sxs:=(.cons (.set (.nm 2) (.ix (.ix (.ix (.var 1) (.neg (.cst (.int 1)))) (.cst (.int 0))) (.ix (.ix (.var 1) (.neg (.cst (.int 1)))) (.cst (.int 1))))) (.cons (.drp (.meth .app (.var 1) (.cons (.tupl (.cons (.var 2) (.cons (.call (O "first_open") (.cons (.var 2) .nil)) .nil))) .nil))) .nil))
theorem Zre(H:Trm P)(n:Nat){E:D}:∀(fuel:Nat) (t:T) (A:List D) (o2:Option D),t.size<=fuel->A.length+t.size<=1000000->Gn.Cl [] t->isV t=Wx->∃o2',
 ZO (tst (P.tbl (n+3)) wc) (xs2 (P.tbl (n+3)) ZnX) fuel [Wu E,Wu (.ref h.length),o2] (h++[.lst (A++[wd t])])=.ok (.nx,[Wu E,Wu (.ref h.length),o2']) (h++[.lst (A++ZbN t)])
 |0,t,A,o2,hf,_,_,_=>by have:=ZaE t;omega
 |fuel+1,t,A,o2,hf,hz,c,nv=>by
  have e1:ev (P.tbl (n+3)) (.ix (.var 1) (.neg (.cst (.int 1)))) [Wu E,Wu (.ref h.length),o2] (h++[.lst (A++[wd t])])=.ok (wd t) (h++[.lst (A++[wd t])]):=(ZaV rfl rfl).trans (by rw[ZD ZcQ,Zrd];rfl);have e2:ev (P.tbl (n+3)) (.ix (.ix (.var 1) (.neg (.cst (.int 1)))) (.cst (.int 1))) [Wu E,Wu (.ref h.length),o2] (h++[.lst (A++[wd t])])=.ok (oN (fo t)) (h++[.lst (A++[wd t])]):=(ZaV e1 rfl).trans rfl;rcases Zo5 (h:=h++[.lst (A++[wd t])]) t nv (Zu3 c)with ⟨h1,h2,h3⟩|⟨k,s,h1,h2,h3,h4,h5,h6⟩
  . refine⟨o2,(Zhg (Zq (Zoj e2) (by rw[h1];simp[oN]))).trans ?_⟩;simp[ZbN,h2,h3,wd,h1,oN]
  . have sl:=Zhw h5;obtain⟨o2',e⟩:=Zre H n (E:=E) fuel s (A++[wd t]) (Wu s.d) (by omega) (by simp;omega) (ZqK c nv h5) h4;rw[h1]at e2;have ap:=ZcY (d:=wd s) (ZcQ (h:=h) (x:=.lst (A++[wd t])) (r:=[])) (by rw[YC];simp;omega);rw[Zno]at ap;refine⟨o2',(Zfg (Zq (Zoj e2) (by simp[oN])) ((Za (Zu ((ZaV ((ZaV e1 rfl).trans rfl) e2).trans (h6 P.GD)))).trans ((Za (Zgj (Zi6 rfl ZcQ (Zd (Za9 (Zd rfl (Zd (Zr (Zt2 H n s) rfl) rfl)) (by simp)) rfl) ap))).trans rfl))).trans (Eq.trans e ?_)⟩;simp[ZbN,h2,h3,wd,h1,oN]
theorem ZtX(H:Trm P)(n:Nat)(t:T)(c:Gn.Cl [] t)(nv:isV t=Wx)(hz:t.size<=100000):run P (n+4) (O "way_down") [t.d] h=.ok (.ref h.length) (h++[.lst (ZbN t)]):=by rw[Zc H.way_down (by rfl)];have big:=H.big;obtain⟨o2,e⟩:=Zre H n (h:=h) (E:=t.d) P.L t [] Wv (by omega) (by simp;omega) c nv;have w:xs2 (P.tbl (n+3)) Zgr [Wu t.d,Wv,Wv] h=.ok (.rt (.ref h.length),[Wu t.d,Wu (.ref h.length),o2]) (h++[.lst ([]++ZbN t)]):=(Za (Zu (Zkw (Zd (Za9 (Zd rfl (Zd (Zr (Zt2 H n t) rfl) rfl)) (by simp)) rfl) (by simp)))).trans ((Za (s:=.whl wc ZnX) e).trans (Ze (Zx rfl)));exact congrArg Zh w
noncomputable def ZcH:T->Nat->T->T
 |.call _ a,1,u=>.call u a
 |.call f _,2,u=>.call f u
 |.op w _ a,1,u=>.op w u a
 |.op w f _,2,u=>.op w f u
 |.iff _ t e,1,u=>.iff u t e
 |s,_,_=>s
noncomputable def Zbj:List (T×Nat)->T->T
 |[],u=>u
 |(s,k)::r,u=>ZcH s k (Zbj r u)
def Vp:T×Nat->Prop
 |(.call _ _,1)|(.call _ _,2)|(.op _ _ _,1)|(.op _ _ _,2)|(.iff _ _ _,1)=>True
 |_=>False
theorem ZeF:∀t:T,∀p∈pth t,Vp p
 |.num _,p,hp=>by cases hp
 |.name _,p,hp=>by cases hp
 |.fn _ _,p,hp=>by cases hp
 |.rcc _ _ _,p,hp=>by cases hp
 |.call f a,p,hp=>by
  simp only[pth]at hp;split at hp
  . split at hp
    . cases hp
    . rcases O2.mp hp with rfl|hp
      . trivial
      . exact ZeF a p hp
  . rcases O2.mp hp with rfl|hp
    . trivial
    . exact ZeF f p hp
 |.op w f a,p,hp=>by
  simp only[pth]at hp;split at hp
  . split at hp
    . cases hp
    . rcases O2.mp hp with rfl|hp
      . trivial
      . exact ZeF a p hp
  . rcases O2.mp hp with rfl|hp
    . trivial
    . exact ZeF f p hp
 |.iff c t e,p,hp=>by
  simp only[pth]at hp;split at hp
  . cases hp
  . rcases O2.mp hp with rfl|hp
    . trivial
    . exact ZeF c p hp
noncomputable def pd(p:T×Nat):D:=.tup [p.1.d,.int (p.2:Int)]
noncomputable def lb1:Sx:=(.set (.nm 2) (.bin .Add (.bin .Add (.sl (.var 3) Wv (Wu (.var 4))) (.tupl (.cons (.var 2) .nil))) (.sl (.var 3) (Wu (.bin .Add (.var 4) (.cst (.int 1)))) Wv)))
noncomputable def Zel:Sxs:=(.cons lb1 .nil)
theorem ZrI{U:Tb}{a b:D}(p:T×Nat)(v:Vp p)(u:T):xs2 U Zel [Wu a,Wu b,Wu u.d,Wu p.1.d,Wu (.int (p.2:Int))] h=.ok (.nx,[Wu a,Wu b,Wu (ZcH p.1 p.2 u).d,Wu p.1.d,Wu (.int (p.2:Int))]) h:=by
 have o:∀(xs ys:List D),xs.length+ys.length<=10->opB .Add (.tup xs) (.tup ys) h=.ok (.tup (xs++ys)) h:=fun xs ys q=>Zds (by rw[YC];omega);obtain⟨s,k⟩:=p;have go:∀r,xs1 U lb1 [Wu a,Wu b,Wu u.d,Wu s.d,Wu (.int (k:Int))] h=.ok (.nx,[Wu a,Wu b,Wu r,Wu s.d,Wu (.int (k:Int))]) h->xs2 U Zel [Wu a,Wu b,Wu u.d,Wu s.d,Wu (.int (k:Int))] h=.ok (.nx,[Wu a,Wu b,Wu r,Wu s.d,Wu (.int (k:Int))]) h:=fun r e=>by rw[Zel,Za e];rfl
 unfold Vp at v;split at v
 . rename_i e;cases e;exact go _ rfl
 . rename_i e;cases e;exact go _ rfl
 . rename_i e;cases e;exact go _ rfl
 . rename_i e;cases e;exact go _ rfl
 . rename_i e;cases e;exact go _ rfl
 . cases v
theorem Zn6{U:Tb}{a b:D}{wk:Nat}{L:List D}(hw:h[wk]? = Wu (.lst L)):∀(ps:List (T×Nat)) (rest:List D) (u:T) (o3 o4:Option D),(∀p∈ps,Vp p)->∃o3' o4',
 ZL (Wu (wk,L)) (.two 3 4) (xs2 U Zel) ((ps.map pd).reverse++rest) [Wu a,Wu b,Wu u.d,o3,o4] h=ZL (Wu (wk,L)) (.two 3 4) (xs2 U Zel) rest [Wu a,Wu b,Wu (Zbj ps u).d,o3',o4'] h
 |[],rest,u,o3,o4,_=>⟨o3,o4,rfl⟩
 |p::ps,rest,u,o3,o4,v=>by obtain⟨o31,o41,e⟩:=Zn6 (U:=U) (a:=a) (b:=b) hw ps (pd p::rest) u o3 o4 (fun q hq=>v q (Oh _ hq));refine⟨Wu p.1.d,Wu (.int (p.2:Int)),?_⟩;rw[Op,List.reverse_cons,Oz,List.cons_append,OB,e];exact Zi2 hw rfl (ZrI p (v p Oi) (Zbj ps u))
theorem ZjL(H:Trm P)(n:Nat){wk:Nat}(ps:List (T×Nat))(u:T)(hw:h[wk]? = Wu (.lst (ps.map pd)))(v:∀p∈ps,Vp p):run P (n+1) (O "put_back") [.ref wk,u.d] h=.ok (Zbj ps u).d h:=by
 rw[Zc H.put_back (by rfl)];obtain⟨o3,o4,e⟩:=Zn6 (U:=P.tbl n) (a:=.ref wk) (b:=u.d) hw ps [] u Wv Wv v;rw[Yt,Zi3 hw]at e;have ei:evi (P.tbl n) (.rev (.var 0)) [Wu (.ref wk),Wu u.d,Wu u.d,Wv,Wv] h=.ok ⟨Wu (wk,ps.map pd),(ps.map pd).reverse⟩ h:=by simp[Zfw,hw]
 have w:xs2 (P.tbl n) Zgs [Wu (.ref wk),Wu u.d,Wv,Wv,Wv] h=.ok (.rt (Zbj ps u).d,[Wu (.ref wk),Wu u.d,Wu (Zbj ps u).d,o3,o4]) h:=(Za (Zu rfl)).trans ((Za ((Zcx ei).trans e)).trans (Ze (Zx rfl)));exact congrArg Zh w
end Tm
end
section
namespace Tm
open PySem L2 IV
variable {P:Pg}{h:Hd}
noncomputable def Za2(f:Str)(F:T)(x:Str)(A:T):Fil:=if f=x then [(x,A)]else [(f,F),(x,A)]
noncomputable def bec:T->Option T
 |.call F A=>match F with
  |.fn x e=>Wu (sub (Fil.ar [(x,A)]) e)
  |.rcc f x e=>Wu (sub (Fil.ar (Za2 f (.rcc f x e) x A)) e)
  |_=>Wv
 |.iff c t e=>match c with
  |.num z=>Wu (if z=0 then e else t)
  |_=>Wv
 |.op w a b=>match a,b with
  |.num a,.num b=>Wu (.num (_root_.Rw.wk w a b))
  |_,_=>Wv
 |_=>Wv
noncomputable def next(t:T):Option T:=(bec (bot t)).map (Zbj (pth t))
noncomputable def oT:Option T->D
 |some t=>t.d
 |none=>.non
theorem ZbY{M:Nat}(hM:1<=M):∀(t:T) (ar:Ar),(∀x V,get ar x=Wu V->V.size<=M)->(sub ar t).size<=t.size * M
 |.num _,_,_=>by simp[sub,T.size,T.places];omega
 |.name x,ar,hv=>by
  cases e:get ar x with
  |none=>simp[sub,e,T.size,T.places];omega
  |some V=>have:=hv x V e;simp[sub,e];simp[T.size,T.places]at *;omega
 |.fn x e,ar,hv=>by have ih:=ZbY hM e ((x,Wv)::ar) (fun y V q=>hv y V (Zcw [x] ar q));rw[sub,Zb,Zb (.fn x e)];simp[T.parts,Nat.add_mul]at ih ⊢;omega
 |.rcc f x e,ar,hv=>by have ih:=ZbY hM e ((f,Wv)::(x,Wv)::ar) (fun y V q=>hv y V (Zcw [f,x] ar q));rw[sub,Zb,Zb (.rcc f x e)];simp[T.parts,Nat.add_mul]at ih ⊢;omega
 |.call f a,ar,hv=>by have i1:=ZbY hM f ar hv;have i2:=ZbY hM a ar hv;rw[sub,Zb,Zb (.call f a)];simp[T.parts,Nat.add_mul]at i1 i2 ⊢;omega
 |.op w f a,ar,hv=>by have i1:=ZbY hM f ar hv;have i2:=ZbY hM a ar hv;rw[sub,Zb,Zb (.op w f a)];simp[T.parts,Nat.add_mul]at i1 i2 ⊢;omega
 |.iff c t e,ar,hv=>by have i1:=ZbY hM c ar hv;have i2:=ZbY hM t ar hv;have i3:=ZbY hM e ar hv;rw[sub,Zb,Zb (.iff c t e)];simp[T.parts,Nat.add_mul]at i1 i2 i3 ⊢;omega
theorem Zop:∀(f:Fil) {x:Str}{V:T},get f.ar x=Wu V->(x,V)∈f
 |[],x,V,e=>by cases e
 |(y,W)::r,x,V,e=>by
  rw[Fil.ar,Op,get]at e;split at e
  . rename_i q;cases e;rw[<- q];exact Oi
  . exact Oh _ (Zop r e)
theorem Zkt{t:T}{f:Fil}(hs:∀p∈f,p.2.size<=300):(sub f.ar t).size<=t.size * 300:=ZbY (M:=300) (by omega) t f.ar fun x V e=>hs (x,V) (Zop f e)
theorem Zov{t:T}{f:Fil}(ht:t.size<=300)(hf:f.length<=2)(hs:∀p∈f,p.2.size<=300/\∀x,p.2≠.name x):Wok 301 (t,fen f)/\(sub f.ar t).size<=300000:=by
 have:=Zkt (t:=t) (f:=f) fun p hp=>(hs p hp).1;refine⟨⟨?_,fun q hq v e=>?_⟩,by omega⟩
 . have:(fen f).length=f.length:=by simp[fen]
   simp only;omega
 . obtain⟨p,hp,rfl⟩:=List.mem_map.mp hq;cases e;refine⟨(hs p hp).2,?_,trivial⟩;have:=(hs p hp).1;show 0+2 * p.2.size<=602;omega
theorem Zni (H:Trm P) (n:Nat) (F A:T) (hv:isV F=Ww) (hF:F.size<=300) (hA:A.size<=300) (nA:∀ x,A≠.name x):∃ g,run P (n+5) (O "called") [F.d,A.d] h=.ok (oT (bec (.call F A))) (h++g):=by
 rw [Zc H.called (by cases F<;>rfl)];have gr:∀ (f:Fil),∃ k,k=h.length/\(h++[DO.dic f.kv])[k]? = Wu (.dic f.kv):=fun f=>⟨_,rfl,by simp⟩
 cases F with
 | num z=>exact ⟨[],by rw [Yt];exact rfl⟩
 | fn x e =>
   have he:e.size<=300:=by rw [Zb] at hF;simp [T.parts] at hF;omega
   obtain ⟨w1,w2⟩:=Zov (t:=e) (f:=[(x,A)]) he (by simp) (by simp;exact ⟨by omega,nA⟩);obtain ⟨g,q⟩:=Zla H n e [(x,A)] (h0:=h) (h:=h++[.dic (Fil.kv [(x,A)])]) (dk:=h.length) (by simp) (by simp) (by simp) (Oq _) (by simp) (fun i hi=>Oe hi) (by omega) (by omega) w1 w2;refine ⟨g,?_⟩;exact rt1 (U:=P.tbl (n+4)) (ss:=Zdl) (S:=[Wu (T.fn x e).d,Wu A.d]) (Zj q rfl rfl) rfl
 | rcc f x e =>
   have he:e.size<=300:=by rw [Zb] at hF;simp [T.parts] at hF;omega
   have hlen:(Za2 f (.rcc f x e) x A).length<=2:=by unfold Za2;split<;>simp
   have hnd:((Za2 f (.rcc f x e) x A).map (·.1)).Nodup:=by
     unfold Za2;split
     . simp
     . simpa using (by assumption)
   obtain ⟨w1,w2⟩:=Zov (t:=e) (f:=Za2 f (.rcc f x e) x A) he hlen (by
     unfold Za2;split
     . simp;exact ⟨by omega,nA⟩
     . simp;exact ⟨hF,hA,nA⟩)
   obtain ⟨g,q⟩:=Zla H n e (Za2 f (.rcc f x e) x A) (h0:=h) (h:=h++[.dic (Fil.kv (Za2 f (.rcc f x e) x A))]) (dk:=h.length) hnd (by omega) (by simp) (Oq _) (by simp) (fun i hi=>Oe hi) (by omega) (by omega) w1 w2;refine ⟨g,?_⟩;have mg:Zb3 [] [(YE f,(T.rcc f x e).d),(YE x,A.d)]=Fil.kv (Za2 f (.rcc f x e) x A):=by
     unfold Za2;by_cases z:f=x
     . subst z;simp [Zb3,putD,Fil.kv]
     . have:¬ (YE f:Key)=YE x:=fun q=>z (Sum.inr.inj q);simp [Zb3,putD,Fil.kv,z]
   rw [<- mg] at q;show Zh (xs2 (P.tbl (n+4)) Zdl [Wu (T.rcc f x e).d,Wu A.d] h)=_;rw [nx1 (U:=P.tbl (n+4)) (ss:=Zdl) (S:=[Wu (T.rcc f x e).d,Wu A.d]) (ρ1:=[Wu (T.rcc f x e).d,Wu A.d]) (h2:=h) rfl rfl];exact rt1 (U:=P.tbl (n+4)) (ss:=tlS Zdl) (Zj q rfl rfl) rfl
 | _=>cases hv
theorem ZfT(H:Trm P)(n:Nat)(c a b:T)(hv:isV c=Ww):run P (n+1) (O "chosen") [c.d,a.d,b.d] h=.ok (oT (bec (.iff c a b))) h:=by
 rw[Zc H.chosen (by rfl)];cases c with
 |num z=>by_cases e:z=0<;>simp[ZaK,Zdk,Zn,T.d,bec,oT,e]
 |fn x e=>exact rfl
 |rcc f x e=>exact rfl
 |_=>cases hv
theorem ZfS(H:Trm P)(n:Nat)(w:Wd)(a b:T)(va:isV a=Ww)(vb:isV b=Ww)(ca:Gn.Cl [] a)(cb:Gn.Cl [] b):run P (n+1) (O "worked") [.str w.s,a.d,b.d] h=.ok (oT (bec (.op w a b))) h:=by
 have no:∀(a b:T),xs1 (P.tbl n) Zgq [Wu (.str w.s),Wu a.d,Wu b.d] h=.ok (.rt .non,[Wu (.str w.s),Wu a.d,Wu b.d]) h->run P (n+1) (O "worked") [.str w.s,a.d,b.d] h=.ok .non h:=fun a b e=>by rw[Zc H.worked (by rfl)];exact rt1 (U:=P.tbl n) (ss:=ZF) e rfl
 cases a with
 |num x=>
  cases b with
  |num y=>exact _root_.Rw.worked_nn H.worked H.gb n w ca cb
  |fn _ _=>exact no (.num x) (.fn _ _) rfl
  |rcc _ _ _=>exact no (.num x) (.rcc _ _ _) rfl
  |_=>cases vb
 |fn _ _=>exact no (.fn _ _) b rfl
 |rcc _ _ _=>exact no (.rcc _ _ _) b rfl
 |_=>cases va
def Red:T->Prop
 |.call f a=>isV f=Ww/\isV a=Ww
 |.op _ f a=>isV f=Ww/\isV a=Ww
 |.iff c _ _=>isV c=Ww
 |_=>False
theorem Zcy:∀t:T,isV t=Wx->Gn.Cl [] t->Red (bot t)/\Gn.Cl [] (bot t)/\(bot t).size<=t.size
 |.num _,nv,_=>by cases nv
 |.name x,_,c=>by cases c
 |.fn _ _,nv,_=>by cases nv
 |.rcc _ _ _,nv,_=>by cases nv
 |.call f a,_,c=>by
  have z:(T.call f a).size=1+(f.size+a.size):=by rw[Zb];simp[T.parts]
  simp only[bot];split
  . split
    . exact⟨⟨by assumption,by assumption⟩,c,Oq _⟩
    . rename_i q;have ih:=Zcy a (by simpa using q) c.2;exact⟨ih.1,ih.2.1,by omega⟩
  . rename_i q;have ih:=Zcy f (by simpa using q) c.1;exact⟨ih.1,ih.2.1,by omega⟩
 |.op w f a,_,c=>by
  have z:(T.op w f a).size=1+(f.size+a.size):=by rw[Zb];simp[T.parts]
  simp only[bot];split
  . split
    . exact⟨⟨by assumption,by assumption⟩,c,Oq _⟩
    . rename_i q;have ih:=Zcy a (by simpa using q) c.2;exact⟨ih.1,ih.2.1,by omega⟩
  . rename_i q;have ih:=Zcy f (by simpa using q) c.1;exact⟨ih.1,ih.2.1,by omega⟩
 |.iff f a b,_,c=>by
  have z:(T.iff f a b).size=1+(f.size+(a.size+b.size)):=by rw[Zb];simp[T.parts]
  simp only[bot];split
  . exact⟨by assumption,c,Oq _⟩
  . rename_i q;have ih:=Zcy f (by simpa using q) c.1;exact⟨ih.1,ih.2.1,by omega⟩
theorem Znk (H:Trm P) (n:Nat) (t:T) (r:Red t) (c:Gn.Cl [] t) (hz:t.size<=300):∃ g,run P (n+6) (O "become") [t.d] h=.ok (oT (bec t)) (h++g):=by
 rw [Zc H.become (by rfl)];cases t with
 | call F A =>
   have z:(T.call F A).size=1+(F.size+A.size):=by rw [Zb];simp [T.parts]
   obtain ⟨g,e⟩:=Zni H n (h:=h) F A r.1 (by omega) (by omega) (fun x z=>by have:=r.2;rw [z] at this;cases this);exact ⟨g,rt1 (U:=P.tbl (n+5)) (ss:=ZaP) (S:=[Wu (T.call F A).d]) (Zj e rfl rfl) rfl⟩
 | iff a b d =>
   have e:=ZfT H (n+4) (h:=h) a b d r;exact ⟨[],by
     rw [Yt];show Zh (xs2 (P.tbl (n+5)) ZaP [Wu (T.iff a b d).d] h)=_;rw [nx1 (U:=P.tbl (n+5)) (ss:=ZaP) (S:=[Wu (T.iff a b d).d]) (ρ1:=[Wu (T.iff a b d).d]) (h2:=h) rfl rfl];exact rt1 (U:=P.tbl (n+5)) (ss:=tlS ZaP) (Zj e rfl rfl) rfl⟩
 | op w a b =>
   have e:=ZfS H (n+4) (h:=h) w a b r.1 r.2 c.1 c.2;exact ⟨[],by
     rw [Yt];show Zh (xs2 (P.tbl (n+5)) ZaP [Wu (T.op w a b).d] h)=_;rw [nx1 (U:=P.tbl (n+5)) (ss:=ZaP) (S:=[Wu (T.op w a b).d]) (ρ1:=[Wu (T.op w a b).d]) (h2:=h) (by cases w<;>rfl) rfl,nx1 (U:=P.tbl (n+5)) (ss:=tlS ZaP) (S:=[Wu (T.op w a b).d]) (ρ1:=[Wu (T.op w a b).d]) (h2:=h) (by cases w<;>rfl) rfl];exact rt1 (U:=P.tbl (n+5)) (ss:=tlS (tlS ZaP)) (Zj e rfl rfl) rfl⟩
 | _=>cases r
noncomputable def ans(t:T):D:=if isV t then .tup [.str (O "value")]else match next t with
 |some u=>.tup [.str (O "loud"),u.d]
 |none=>.tup [.str (O "stuck")]
theorem ZgS(H:Trm P)(n:Nat)(t:T)(c:Gn.Cl [] t)(hz:t.size<=300):∃g,run P (n+7) (O "stepped") [t.d] h=.ok (ans t) (h++g):=by
 rw[Zc H.stepped (by rfl)];have ev:=Zrb H (n+5) (h:=h) t;show ∃g,Zh (xs2 (P.tbl (n+6)) (.cons ZbU (.cons Zdd (.cons Zdc (.cons ZbT (.cons Zdb .nil))))) [Wu t.d,Wv,Wv] h)=_;cases nv:isV t with
 |true=>rw[nv]at ev;refine⟨[],?_⟩;have x1:xs1 (P.tbl (n+6)) ZbU [Wu t.d,Wv,Wv] h=.ok (.rt (.tup [.str (O "value")]),[Wu t.d,Wv,Wv]) h:=Zj ev rfl rfl;rw[Ze x1,Yt,ans,nv];rfl
 |false=>
  rw[nv]at ev;have x1:xs1 (P.tbl (n+6)) ZbU [Wu t.d,Wv,Wv] h=.ok (.nx,[Wu t.d,Wv,Wv]) h:=Zj ev rfl rfl;have ew:=ZtX H (n+2) (h:=h) t c nv (by omega);have x2:xs1 (P.tbl (n+6)) Zdd [Wu t.d,Wv,Wv] h=.ok (.nx,[Wu t.d,Wu (.ref h.length),Wv]) (h++[.lst (ZbN t)]):=Zj ew rfl rfl;obtain⟨r1,r2,r3⟩:=Zcy t nv c;obtain⟨g,eb⟩:=Znk H n (h:=h++[.lst (ZbN t)]) (bot t) r1 r2 (by omega);have ix:ZaS P.GD (.ref h.length) (.int (-1)) (h++[.lst (ZbN t)])=.ok (.tup [(bot t).d,.non]) (h++[.lst (ZbN t)]):=by rw[ZD (xs:=ZbN t) (by simp),ZbN,Zrd];rfl
  have x3:xs1 (P.tbl (n+6)) Zdc [Wu t.d,Wu (.ref h.length),Wv] (h++[.lst (ZbN t)])=.ok (.nx,[Wu t.d,Wu (.ref h.length),Wu (oT (bec (bot t)))]) (h++[.lst (ZbN t)]++g):=Zu (Zr eb (Zd ((ZaV ((ZaV rfl rfl).trans ix) rfl).trans rfl) rfl));rw[Za x1,Za x2,Za x3];have kw:(h++[DO.lst (ZbN t)]++g)[h.length]? = Wu (.lst (ZbN t)):=by simp
  cases hb:bec (bot t)with
  |none=>refine⟨[.lst (ZbN t)]++g,?_⟩;have x4:xs1 (P.tbl (n+6)) ZbT [Wu t.d,Wu (.ref h.length),Wu (oT Wv)] (h++[.lst (ZbN t)]++g)=.ok (.rt (.tup [.str (O "stuck")]),[Wu t.d,Wu (.ref h.length),Wu (oT Wv)]) (h++[.lst (ZbN t)]++g):=(Zs (Zmv rfl)).trans (Ze (Zx rfl));rw[Ze x4,ans,nv,next,hb,<- Oz];rfl
  |some u=>
   generalize hh:h++[DO.lst (ZbN t)]++g=h1 at *;have nn:u.d≠.non:=by cases u<;>simp[T.d]
   have x4:xs1 (P.tbl (n+6)) ZbT [Wu t.d,Wu (.ref h.length),Wu (oT (Wu u))] h1=.ok (.nx,[Wu t.d,Wu (.ref h.length),Wu (oT (Wu u))]) h1:=(Zw (Zol rfl nn)).trans rfl;have ep:=ZjL H (n+5) (h:=h1++[.lst ((pth t).map pd)]) (wk:=h1.length) (pth t) u (by simp) (ZeF t);have sl:Zgw (.ref h.length) Wv (Wu (-1)) h1=.ok (.ref h1.length) (h1++[.lst ((pth t).map pd)]):=by
    have:cutD (ZbN t) Wv (Wu (-1))=(pth t).map pd:=by rw[ZbN,Zta];rfl
    simp[Zgw,lstOf,kw,this]
   refine⟨[.lst (ZbN t)]++g++[.lst ((pth t).map pd)],?_⟩;have x5:xs1 (P.tbl (n+6)) Zdb [Wu t.d,Wu (.ref h.length),Wu (oT (Wu u))] h1=.ok (.rt (.tup [.str (O "loud"),(Zbj (pth t) u).d]),[Wu t.d,Wu (.ref h.length),Wu (oT (Wu u))]) (h1++[.lst ((pth t).map pd)]):=Zx (Za9 (Zd rfl (Zd (Zr ep (Zd ((Gn.Zk4 rfl rfl rfl).trans sl) rfl)) rfl)) (by simp));rw[Za x4,Ze x5,ans,nv,next,hb,<- Oz,<- Oz,hh];rfl
end Tm
end
section
namespace Tm
open PySem L2 IV
variable {P:Pg}{h:Hd}
def Kp(ar:Ar)(sc sc':List Str):Prop:=∀x∈sc,(∃V,get ar x=Wu V/\Gn.Cl [] V)\/(get ar x=Wv/\x∈sc')
theorem Kp.bind{ar:Ar}{sc sc':List Str}(k:Kp ar sc sc')(y:Str):Kp ((y,Wv)::ar) (y::sc) (y::sc'):=fun x hx=>by
 unfold get;by_cases e:y=x
 . rw[if_pos e];exact .inr ⟨rfl,by rw[e];exact Oi⟩
 . rw[if_neg e];rcases O2.mp hx with z|z
   . exact absurd z.symm e
   . rcases k x z with q|q
     . exact .inl q
     . exact .inr ⟨q.1,Oh _ q.2⟩
theorem Kp.two{ar:Ar}{sc sc':List Str}(k:Kp ar sc sc')(f x:Str):Kp ((f,Wv)::(x,Wv)::ar) (x::f::sc) (x::f::sc'):=fun z hz=>by
 have q:=(k.bind x).bind f z (by simp at hz ⊢;rcases hz with h|h|h<;>simp[h]);rcases q with q|q
 . exact .inl q
 . exact .inr ⟨q.1,by have:=q.2;simp at this ⊢;rcases this with h|h|h<;>simp[h]⟩
theorem Zbk:∀(t:T) {ar:Ar}{sc sc':List Str},Kp ar sc sc'->Gn.Cl sc t->Gn.Cl sc' (sub ar t)
 |.num _,_,_,_,_,c=>c
 |.name x,ar,sc,sc',k,c=>by
  rcases k x c with ⟨V,e,cv⟩|⟨e,m⟩
  . rw[sub,e];exact Gn.Cl.mono (fun y hy=>by cases hy) cv
  . rw[sub,e];exact m
 |.fn x e,_,_,_,k,c=>Zbk e (k.bind x) c
 |.rcc f x e,_,_,_,k,c=>⟨Zbk e (k.two f x) c.1,c.2⟩
 |.call f a,_,_,_,k,c=>⟨Zbk f k c.1,Zbk a k c.2⟩
 |.iff f a b,_,_,_,k,c=>⟨Zbk f k c.1,Zbk a k c.2.1,Zbk b k c.2.2⟩
 |.op _ f a,_,_,_,k,c=>⟨Zbk f k c.1,Zbk a k c.2⟩
theorem Zb5:∀t:T,Gn.dep t<t.size
 |.num _=>by simp[Gn.dep,T.size,T.places]
 |.name _=>by simp[Gn.dep,T.size,T.places]
 |.fn x e=>by have:=Zb5 e;rw[Zb];simp[Gn.dep,T.parts];omega
 |.rcc f x e=>by have:=Zb5 e;rw[Zb];simp[Gn.dep,T.parts];omega
 |.call f a=>by have:=Zb5 f;have:=Zb5 a;rw[Zb];simp[Gn.dep,T.parts];omega
 |.op w f a=>by have:=Zb5 f;have:=Zb5 a;rw[Zb];simp[Gn.dep,T.parts];omega
 |.iff c t e=>by have:=Zb5 c;have:=Zb5 t;have:=Zb5 e;rw[Zb];simp[Gn.dep,T.parts];omega
theorem Zow{f:Fil}(hc:∀p∈f,Gn.Cl [] p.2)(sc:List Str)(hk:∀x∈sc,x∈f.map (·.1)):Kp f.ar sc []:=fun x hx=>by
 have:∀(f:Fil),(∀p∈f,Gn.Cl [] p.2)->x∈f.map (·.1)->∃V,get f.ar x=Wu V/\Gn.Cl [] V:=by
  intro f;induction f with
  |nil=>intro _ z;cases z
  |cons p r ih=>
   intro hc z;rw[Fil.ar,Op,get];by_cases e:p.1=x
   . rw[if_pos e];exact⟨p.2,rfl,hc p Oi⟩
   . rw[if_neg e];rw[Op]at z;rcases O2.mp z with q|q
     . exact absurd q.symm e
     . exact ih (fun p hp=>hc p (Oh _ hp)) q
 exact .inl (this f hc (hk x hx))
theorem ZqU(t u:T)(r:Red t)(c:Gn.Cl [] t)(hz:t.size<=300)(e:bec t=Wu u):Gn.Cl [] u/\u.size<=t.size * 300:=by
 cases t with
 |call F A=>
  have z:(T.call F A).size=1+(F.size+A.size):=by rw[Zb];simp[T.parts]
  cases F with
  |fn x b=>
   cases e;have zb:(T.fn x b).size=1+b.size:=by rw[Zb];simp[T.parts]
   have fo:=Zkt (t:=b) (f:=[(x,A)]) (by simp;omega);refine⟨Zbk b (Zow (by simp;exact c.2) [x] (by simp)) c.1,OE fo (Nat.mul_le_mul_right _ (by rw[z,zb];omega))⟩
  |rcc f x b=>
   cases e;have zb:(T.rcc f x b).size=1+b.size:=by rw[Zb];simp[T.parts]
   have mem:∀p∈Za2 f (.rcc f x b) x A,p.2=.rcc f x b\/p.2=A:=by
    intro p hp;unfold Za2 at hp;split at hp
    . simp at hp;rw[hp];exact .inr rfl
    . simp at hp;rcases hp with rfl|rfl
      . exact .inl rfl
      . exact .inr rfl
   have fo:=Zkt (t:=b) (f:=Za2 f (.rcc f x b) x A) (fun p hp=>by rcases mem p hp with q|q<;>rw[q]<;>omega);refine⟨Zbk b (Zow (fun p hp=>by rcases mem p hp with q|q<;>rw[q];exact c.1;exact c.2) [x,f] (by unfold Za2;split<;>simp_all)) c.1.1,OE fo (Nat.mul_le_mul_right _ (by rw[z,zb];omega))⟩
  |_=>cases e
 |iff a b d=>
  have z:(T.iff a b d).size=1+(a.size+(b.size+d.size)):=by rw[Zb];simp[T.parts]
  cases a with
  |num m=>
   simp only[bec,Option.some.injEq]at e;subst e;split
   . exact⟨c.2.2,by omega⟩
   . exact⟨c.2.1,by omega⟩
  |_=>cases e
 |op w a b=>
  cases a with
  |num x=>
   cases b with
   |num y=>cases e;have:=_root_.Rw.wk_ok w x y;exact⟨this,by simp[T.size,T.places]⟩
   |_=>cases e
  |_=>cases e
 |_=>cases r
theorem Znw:∀(t:T) (u:T),Gn.Cl [] t->Gn.Cl [] u->Gn.Cl [] (Zbj (pth t) u)/\(Zbj (pth t) u).size<=t.size+u.size:=by
 have two:∀a b c u:Nat,a<=b+u->1+(a+c)<=1+(b+c)+u:=fun a b c u q=>by omega
 have two':∀a b c u:Nat,a<=b+u->1+(c+a)<=1+(c+b)+u:=fun a b c u q=>by omega
 have z2:∀f a,(T.call f a).size=1+(f.size+a.size):=fun f a=>by rw[Zb];simp[T.parts]
 have o2:∀w f a,(T.op w f a).size=1+(f.size+a.size):=fun w f a=>by rw[Zb];simp[T.parts]
 have i2:∀f a b,(T.iff f a b).size=1+(f.size+(a.size+b.size)):=fun f a b=>by rw[Zb];simp[T.parts]
 intro t u;induction t with
 |num _=>exact fun _ cu=>⟨cu,Wa _ _⟩
 |name _=>exact fun _ cu=>⟨cu,Wa _ _⟩
 |fn _ _ _=>exact fun _ cu=>⟨cu,Wa _ _⟩
 |rcc _ _ _ _=>exact fun _ cu=>⟨cu,Wa _ _⟩
 |call f a q1 q2=>
  intro c cu;cases hf:isV f with
  |false=>simp only[pth,hf,Zbj,ZcH,OG,if_false];exact⟨⟨(q1 c.1 cu).1,c.2⟩,by rw[z2,z2];exact two _ _ _ _ (q1 c.1 cu).2⟩
  |true=>
   cases ha:isV a with
   |false=>simp only[pth,hf,ha,Zbj,ZcH,OG,if_false,if_true];exact⟨⟨c.1,(q2 c.2 cu).1⟩,by rw[z2,z2];exact two' _ _ _ _ (q2 c.2 cu).2⟩
   |true=>simp only[pth,hf,ha,Zbj,if_true];exact⟨cu,Wa _ _⟩
 |op w f a q1 q2=>
  intro c cu;cases hf:isV f with
  |false=>simp only[pth,hf,Zbj,ZcH,OG,if_false];exact⟨⟨(q1 c.1 cu).1,c.2⟩,by rw[o2,o2];exact two _ _ _ _ (q1 c.1 cu).2⟩
  |true=>
   cases ha:isV a with
   |false=>simp only[pth,hf,ha,Zbj,ZcH,OG,if_false,if_true];exact⟨⟨c.1,(q2 c.2 cu).1⟩,by rw[o2,o2];exact two' _ _ _ _ (q2 c.2 cu).2⟩
   |true=>simp only[pth,hf,ha,Zbj,if_true];exact⟨cu,Wa _ _⟩
 |iff f a b q1 q2 q3=>
  intro c cu;cases hf:isV f with
  |false=>simp only[pth,hf,Zbj,ZcH,OG,if_false];exact⟨⟨(q1 c.1 cu).1,c.2.1,c.2.2⟩,by rw[i2,i2];exact two _ _ _ _ (q1 c.1 cu).2⟩
  |true=>simp only[pth,hf,Zbj,if_true];exact⟨cu,Wa _ _⟩
theorem ZiF{t u:T}(nv:isV t=Wx)(c:Gn.Cl [] t)(hz:t.size<=120)(e:next t=Wu u):Gn.Cl [] u/\u.size<=40000:=by obtain⟨v,e1,rfl⟩:=Oo.mp e;obtain⟨r1,r2,r3⟩:=Zcy t nv c;obtain⟨b1,b2⟩:=ZqU (bot t) v r1 r2 (by omega) e1;obtain⟨p1,p2⟩:=Znw t v c b1;have:(bot t).size * 300<=120 * 300:=Nat.mul_le_mul_right _ (by omega);exact⟨p1,by omega⟩
end Tm
end
section
namespace Tm
open PySem L2 IV
variable {P:Pg}
noncomputable def row:Nat->T->List T×Str
 |0,t=>([t],if isV t then O "value" else match next t with
  |none=>O "stuck"
  |some _=>O "open")
 |m+1,t=>if isV t then([t],O "value")else match next t with
  |none=>([t],O "stuck")
  |some u=>if 120<u.size then([t],O "wide")else(t::(row m u).1,(row m u).2)
theorem ZrV(H:Trw P)(n:Nat)(t:T)(hz:t.size<=800000)(h:Hd):run P (n+3) (O "is_wide") [t.d] h=.ok (.bl (Wy (120<t.size))) (h++[.lst (t.places.map T.d),.lst []]):=by
 rw[Zc H.is_wide (by rfl)];have e:=Gn.Znf H.toTrm.toTre H.pl n t h hz;have gw:=H.gw;generalize P.G=PG at gw;have l:(h++[DO.lst (t.places.map T.d),.lst []])[h.length]? = Wu (.lst (t.places.map T.d)):=by simp
 have c:Wy ((120:Int)<(t.places.length:Int))=Wy (120<t.size):=by rw[Bool.eq_iff_iff];simp only[decide_eq_true_eq];unfold T.size;omega
 simp[Zbt,Zha,Zn,e,gw,Zbl,Zh8,seqOf,lstOf,c]
noncomputable def rw1:Sx:=(.iff (.ex (.cmp .Gt (.blt .len (.cons (.var 2) .nil)) (.var 1))) (.cons (.ret (.tupl (.cons (.var 2) (.cons (.cst (.str (O "open"))) .nil)))) .nil) .nil)
noncomputable def rw2:Sx:=(.iff (.ex (.call (O "is_wide") (.cons (.ix (.var 3) (.cst (.int 1))) .nil))) (.cons (.ret (.tupl (.cons (.var 2) (.cons (.cst (.str (O "wide"))) .nil)))) .nil) .nil)
noncomputable def rw3:Sx:=(.drp (.meth .app (.var 2) (.cons (.ix (.var 3) (.cst (.int 1))) .nil)))
noncomputable def rw4:Sx:=(.set (.nm 3) (.call (O "stepped") (.cons (.ix (.var 3) (.cst (.int 1))) .nil)))
noncomputable def Zj3:Sxs:=.cons rw1 (.cons rw2 (.cons rw3 (.cons rw4 .nil)))
noncomputable def rwc:Tx:=(.ex (.cmp .Eq (.ix (.var 3) (.cst (.int 0))) (.cst (.str (O "loud")))))
noncomputable def rwR:Sxs:=(.cons (.ret (.tupl (.cons (.var 2) (.cons (.ix (.var 3) (.cst (.int 0))) .nil)))) .nil)
noncomputable def rwF(U:Tb)(r:R (Fl×Ev)):R D:=Zh (r.bnd fun p h1=>match p with
 |(.nx,ρ1)=>xs2 U rwR ρ1 h1
 |p=>.ok p h1)
noncomputable def vr(E:D)(M rk:Nat)(a:D):Ev:=[Wu E,Wu (.int (M:Int)),Wu (.ref rk),Wu a]
theorem Zrf(H:Trw P)(n:Nat){h:Hd}{E:D}(M:Nat)(hM:M<=1000):∀(m:Nat) (t:T) (A:List T) (g:Hd) (fuel:Nat),A.length+m=M->m<fuel->Gn.Cl [] t->t.size<=120->∃g',
 rwF (P.tbl (n+7)) (ZO (tst (P.tbl (n+7)) rwc) (xs2 (P.tbl (n+7)) Zj3) fuel (vr E M h.length (ans t)) (h++.lst ((A++[t]).map T.d)::g))=.ok (.tup [.ref h.length,.str (row m t).2]) (h++.lst ((A++(row m t).1).map T.d)::g')
 |m,t,A,g,0,_,hf,_,_=>by omega
 |m,t,A,g,fuel+1,hA,hf,c,hz=>by
  have stop:∀w:Str,w≠O "loud" -> ans t=.tup [.str w]->row m t=([t],w)->∃g',rwF (P.tbl (n+7)) (ZO (tst (P.tbl (n+7)) rwc) (xs2 (P.tbl (n+7)) Zj3) (fuel+1) (vr E M h.length (ans t)) (h++.lst ((A++[t]).map T.d)::g))=.ok (.tup [.ref h.length,.str (row m t).2]) (h++.lst ((A++(row m t).1).map T.d)::g'):=by intro w hw e1 e2;rw[e1,e2];exact⟨g,(congrArg (rwF _) (Zhg (Zq (Zer rfl rfl) (decide_eq_false hw)))).trans rfl⟩
  cases nv:isV t with
  |true=>exact stop (O "value") (by simp) (by simp[ans,nv]) (by cases m<;>simp[row,nv])
  |false=>
   cases hn:next t with
   |none=>exact stop (O "stuck") (by simp) (by simp[ans,nv,hn]) (by cases m<;>simp[row,nv,hn])
   |some u=>
    obtain⟨cu,su⟩:=ZiF nv c hz hn;rw[show ans t=.tup [.str (O "loud"),u.d] by simp[ans,nv,hn]];have te:∀h',tst (P.tbl (n+7)) rwc (vr E M h.length (.tup [.str (O "loud"),u.d])) h'=.ok Ww h':=fun h'=>Zq (Zer rfl rfl) (decide_eq_true rfl);have tl:∀g,tst (P.tbl (n+7)) (.ex (.cmp .Gt (.blt .len (.cons (.var 2) .nil)) (.var 1))) (vr E M h.length (.tup [.str (O "loud"),u.d])) (h++.lst ((A++[t]).map T.d)::g)=.ok (Wy ((M:Int)<((A++[t]).map T.d).length)) (h++.lst ((A++[t]).map T.d)::g):=fun g=>ZsX (Zs4 rfl (Zn0 ZcQ)) rfl;cases m with
    |zero=>
     have e:row 0 t=([t],O "open"):=by simp[row,nv,hn]
     rw[e];exact⟨g,(congrArg (rwF _) (Zic (te _) (Ze ((Zs (Zq (tl g) (decide_eq_true (by simp;omega)))).trans (Ze (Zx (Za9 (Zd rfl (Zd rfl rfl)) (by simp)))))))).trans rfl⟩
    |succ m=>
     have x1:=(Zw (U:=P.tbl (n+7)) (a:=.cons (.ret (.tupl (.cons (.var 2) (.cons (.cst (.str (O "open"))) .nil)))) .nil) (b:=.nil) (Zq (tl g) (decide_eq_false (by simp;omega)))).trans rfl;obtain⟨g1,ew⟩:∃g1,run P (n+7) (O "is_wide") [u.d] (h++.lst ((A++[t]).map T.d)::g)=.ok (.bl (Wy (120<u.size))) (h++.lst ((A++[t]).map T.d)::g1):=⟨_,(ZrV H (n+4) u (by omega) _).trans (by rw[Oz];rfl)⟩
     by_cases hw:120<u.size
     . have e:row (m+1) t=([t],O "wide"):=by simp[row,nv,hn,hw]
       rw[e];rw[decide_eq_true hw]at ew;exact⟨g1,(congrArg (rwF _) (Zic (te _) ((Za x1).trans (Ze ((Zs (ZdW (Zr ew rfl))).trans (Ze (Zx (Za9 (Zd rfl (Zd rfl rfl)) (by simp))))))))).trans rfl⟩
     . have er:row (m+1) t=(t::(row m u).1,(row m u).2):=by simp[row,nv,hn,hw]
       rw[decide_eq_false hw]at ew;have ap:=ZcY (d:=u.d) (ZcQ (h:=h) (x:=.lst ((A++[t]).map T.d)) (r:=g1)) (by rw[YC];simp;omega);rw[Zno,show(A++[t]).map T.d++[u.d]=(A++[t]++[u]).map T.d by simp]at ap;obtain⟨g2,es⟩:=ZgS H.toTrm n (h:=h++.lst ((A++[t]++[u]).map T.d)::g1) u cu (by omega);obtain⟨g',e⟩:=Zrf H n (h:=h) (E:=E) M hM m u (A++[t]) (g1++g2) fuel (by simp;omega) (by omega) cu (by omega);rw[er,show A++(t::(row m u).1,(row m u).2).1=A++[t]++(row m u).1 by simp];refine⟨g',(congrArg (rwF _) (Zfg (te _) ((Za x1).trans ((Za ((Zw (ZdW (Zr ew rfl))).trans rfl)).trans ((Za (Zgj (Zi6 rfl ZcQ (Zd rfl rfl) ap))).trans ((Za (Zu (Zr es rfl))).trans rfl)))))).trans ?_⟩;rw[Oz h];exact e
theorem ZtZ(H:Trw P)(n:Nat)(t:T)(M:Nat)(hM:M<=1000)(c:Gn.Cl [] t)(hz:t.size<=120)(h:Hd):∃g,run P (n+8) (O "row_of") [t.d,.int (M:Int)] h=.ok (.tup [.ref h.length,.str (row M t).2]) (h++.lst ((row M t).1.map T.d)::g):=by rw[Zc H.row_of (by rfl)];obtain⟨g1,es⟩:=ZgS H.toTrm n (h:=h++[.lst [t.d]]) t c (by omega);have big:=H.big;obtain⟨g',e⟩:=Zrf H n (h:=h) (E:=t.d) M hM M t [] g1 P.L (by simp) (by omega) c hz;refine⟨g',Eq.trans ?_ e⟩;have w:xs2 (P.tbl (n+7)) Zjp [Wu t.d,Wu (.int (M:Int)),Wv,Wv] h=xs2 (P.tbl (n+7)) (.cons (.whl rwc Zj3) rwR) (vr t.d M h.length (ans t)) (h++.lst [t.d]::g1):=(Za (Zu (Zkw (Zd rfl rfl) (by simp)))).trans ((Za (Zu (Zr es rfl))).trans (by rw[Oz];rfl));exact congrArg Zh w
end Tm
end
section
namespace Rw
open PySem L2 IV Gn
theorem Zon(x:Str):∀ar:Ar,Tm.get (ra ar) x=(ar.get x).map rd
 |.nil=>rfl
 |.cons y v r=>by
  rw[ra,Tm.get,Ar.get];split
  . rfl
  . exact Zon x r
mutual
theorem Zq9:∀v:Th,ZeO v->Cl [] (rd v)
 |.num n,h=>by rw[rd];exact h
 |.clo E ar,h=>by rw[rd];exact Tm.Zbk E (kp_ra ar h.2.2) h.2.1
theorem kp_ra:∀ar:Ar,ArOk ar->Tm.Kp (ra ar) ar.keys []
 |.nil,_=>fun x hx=>by cases hx
 |.cons y v r,h=>fun x hx=>by
  rw[ra,Tm.get];split
  . exact .inl ⟨rd v,rfl,Zq9 v h.1⟩
  . rename_i ne;rcases O2.mp hx with e|hx
    . exact absurd e.symm ne
    . exact kp_ra r h.2 x hx
end
theorem Zjw:∀{ar:Ar}{x:Str}{V:T},ArOk ar->Tm.get (ra ar) x=Wu V->Cl [] V
 |.nil,x,V,_,e=>by cases e
 |.cons y v r,x,V,h,e=>by
  rw[ra,Tm.get]at e;split at e
  . cases e;exact Zq9 v h.1
  . exact Zjw h.2 e
theorem ZlX{v:Th}(h:ZeO v):Tm.isV (rd v)=Ww:=by
 cases v with
 |num n=>rfl
 |clo E ar=>
  cases E with
  |fn x e=>rfl
  |rcc f x e=>rfl
  |_=>cases h.1
theorem ZbZ:∀(t:T) {sc:List Str}{ar:List (Str×Option T)},Cl sc t->(∀y∈sc,Tm.get ar y=Wv)->Tm.sub ar t=t
 |.num _,_,_,_,_=>rfl
 |.name x,_,_,c,n=>by rw[Tm.sub,n x c];rfl
 |.fn x e,sc,ar,c,n=>by
  rw[Tm.sub,ZbZ e (sc:=x::sc) c fun y hy=>?_];rw[Tm.get];split
  . rfl
  . rename_i ne;rcases O2.mp hy with q|q
    . exact absurd q.symm ne
    . exact n y q
 |.rcc f x e,sc,ar,c,n=>by
  rw[Tm.sub,ZbZ e (sc:=x::f::sc) c.1 fun y hy=>?_];rw[Tm.get];split
  . rfl
  . rename_i nf;rw[Tm.get];split
    . rfl
    . rename_i nx;rcases O2.mp hy with q|q
      . exact absurd q.symm nx
      . rcases O2.mp q with q|q
        . exact absurd q.symm nf
        . exact n y q
 |.call f a,_,_,c,n=>by rw[Tm.sub,ZbZ f c.1 n,ZbZ a c.2 n]
 |.iff p q r,_,_,c,n=>by rw[Tm.sub,ZbZ p c.1 n,ZbZ q c.2.1 n,ZbZ r c.2.2 n]
 |.op w f a,_,_,c,n=>by rw[Tm.sub,ZbZ f c.1 n,ZbZ a c.2 n]
def Cmp(r t k:List (Str×Option T)):Prop:=∀x,(∃V,Tm.get r x=Wu V/\Tm.get k x=Wu V/\Cl [] V)\/(Tm.get r x=Wv/\Tm.get k x=Tm.get t x)
theorem Cmp.none{r t k:List (Str×Option T)}(c:Cmp r t k)(y:Str):Cmp ((y,Wv)::r) ((y,Wv)::t) ((y,Wv)::k):=fun x=>by
 simp only[Tm.get];split
 . exact .inr ⟨rfl,rfl⟩
 . exact c x
theorem ZaD:∀(e:T) {r t k:List (Str×Option T)},Cmp r t k->Tm.sub t (Tm.sub r e)=Tm.sub k e
 |.num _,_,_,_,_=>rfl
 |.name x,r,t,k,c=>by
  rcases c x with ⟨V,e1,e2,cl⟩|⟨e1,e2⟩
  . simp only[Tm.sub,e1,e2,Option.getD_some];exact ZbZ V cl (fun y hy=>by cases hy)
  . simp only[Tm.sub,e1,e2,Option.getD_none]
 |.fn x e,_,_,_,c=>by rw[Tm.sub,Tm.sub,Tm.sub,ZaD e (c.none x)]
 |.rcc f x e,_,_,_,c=>by rw[Tm.sub,Tm.sub,Tm.sub,ZaD e ((c.none x).none f)]
 |.call f a,_,_,_,c=>by rw[Tm.sub,Tm.sub,Tm.sub,ZaD f c,ZaD a c]
 |.iff p q s,_,_,_,c=>by rw[Tm.sub,Tm.sub,Tm.sub,ZaD p c,ZaD q c,ZaD s c]
 |.op w f a,_,_,_,c=>by rw[Tm.sub,Tm.sub,Tm.sub,ZaD f c,ZaD a c]
theorem ZrO{x:Str}{e:T}{ar:Ar}{A:T}(ok:ArOk ar):Tm.sub [(x,Wu A)] (Tm.sub ((x,Wv)::ra ar) e)=Tm.sub ((x,Wu A)::ra ar) e:=by
 refine ZaD e fun y=>?_;simp only[Tm.get];split
 . exact .inr ⟨rfl,rfl⟩
 . cases q:Tm.get (ra ar) y with
   |none=>exact .inr ⟨rfl,rfl⟩
   |some V=>exact .inl ⟨V,rfl,rfl,Zjw ok q⟩
theorem Zpj{f x:Str}(ne:f≠x){e:T}{ar:Ar}{F A:T}(ok:ArOk ar):Tm.sub [(f,Wu F),(x,Wu A)] (Tm.sub ((f,Wv)::(x,Wv)::ra ar) e)=Tm.sub ((x,Wu A)::(f,Wu F)::ra ar) e:=by
 refine ZaD e fun y=>?_;simp only[Tm.get];by_cases q1:f=y
 . subst q1;rw[if_pos rfl,if_neg (YL ne),if_pos rfl,if_pos rfl];exact .inr ⟨rfl,rfl⟩
 . rw[if_neg q1,if_neg q1,if_neg q1];by_cases q2:x=y
   . rw[if_pos q2,if_pos q2,if_pos q2];exact .inr ⟨rfl,rfl⟩
   . rw[if_neg q2,if_neg q2,if_neg q2];cases q:Tm.get (ra ar) y with
     |none=>exact .inr ⟨rfl,rfl⟩
     |some V=>exact .inl ⟨V,rfl,rfl,Zjw ok q⟩
noncomputable def fw:Wt->T->T
 |.arg A ar,t=>.call t (Tm.sub (ra ar) A)
 |.fn V,t=>.call (rd V) t
 |.iff a b ar,t=>.iff t (Tm.sub (ra ar) a) (Tm.sub (ra ar) b)
 |.right w F ar,t=>.op w t (Tm.sub (ra ar) F)
 |.left w V,t=>.op w (rd V) t
noncomputable def rnd(ws:List Wt)(t:T):T:=ws.foldl (fun t w=>fw w t) t
noncomputable def read:Sta->T
 |.go E ar ws=>rnd ws (Tm.sub (ra ar) E)
 |.back V ws=>rnd ws (rd V)
structure Wn(t t':T)(k:Nat)(f:T->T):Prop where
 v:Tm.isV t'=Wx
 l:(Tm.pth t').length=(Tm.pth t).length+k
 b:Tm.bot t'=Tm.bot t
 p:∀u,Tm.Zbj (Tm.pth t') u=f (Tm.Zbj (Tm.pth t) u)
theorem ZuO{w:Wt}(ok:Zfe w){t:T}(nv:Tm.isV t=Wx):Wn t (fw w t) 1 (fw w):=by
 cases w with
 |arg A ar=>exact⟨rfl,by simp[fw,Tm.pth,nv],by simp[fw,Tm.bot,nv],fun u=>by simp[fw,Tm.pth,nv,Tm.Zbj,Tm.ZcH]⟩
 |fn V=>have v:=ZlX ok;exact⟨rfl,by simp[fw,Tm.pth,nv,v],by simp[fw,Tm.bot,nv,v],fun u=>by simp[fw,Tm.pth,nv,v,Tm.Zbj,Tm.ZcH]⟩
 |iff a b ar=>exact⟨rfl,by simp[fw,Tm.pth,nv],by simp[fw,Tm.bot,nv],fun u=>by simp[fw,Tm.pth,nv,Tm.Zbj,Tm.ZcH]⟩
 |right w F ar=>exact⟨rfl,by simp[fw,Tm.pth,nv],by simp[fw,Tm.bot,nv],fun u=>by simp[fw,Tm.pth,nv,Tm.Zbj,Tm.ZcH]⟩
 |left w V=>have v:=ZlX ok;exact⟨rfl,by simp[fw,Tm.pth,nv,v],by simp[fw,Tm.bot,nv,v],fun u=>by simp[fw,Tm.pth,nv,v,Tm.Zbj,Tm.ZcH]⟩
theorem Zm9:∀(ws:List Wt) {t:T},(∀w∈ws,Zfe w)->Tm.isV t=Wx->Wn t (rnd ws t) ws.length (rnd ws)
 |[],t,_,nv=>⟨nv,rfl,rfl,fun _=>rfl⟩
 |w::ws,t,ok,nv=>by have a:=ZuO (ok w Oi) nv;have b:=Zm9 ws (fun x hx=>ok x (Oh _ hx)) a.v;exact⟨b.v,by rw[show rnd (w::ws) t=rnd ws (fw w t)from rfl,b.l,a.l,Os];omega,b.b.trans a.b,fun u=>by rw[show rnd (w::ws) t=rnd ws (fw w t)from rfl,b.p,a.p];rfl⟩
theorem ZrU{ws:List Wt}{t:T}(ok:∀w∈ws,Zfe w)(nv:Tm.isV t=Wx)(hp:Tm.pth t=[])(hb:Tm.bot t=t):Tm.isV (rnd ws t)=Wx/\Tm.next (rnd ws t)=(Tm.bec t).map (rnd ws)/\(Tm.pth (rnd ws t)).length=ws.length:=by have a:=Zm9 ws ok nv;refine⟨a.v,?_,by rw[a.l,hp];exact Nat.zero_add _⟩;unfold Tm.next;rw[a.b,hb];refine congrArg (fun f=>(Tm.bec t).map f) ?_;funext u;rw[a.p,hp];rfl
def At(s:Sta):Prop:=Tm.isV (read s)=Wx/\∃V ws,s=.back V ws/\(Tm.pth (read s)).length+1=ws.length
def Sim(s:Sta):Ans->Prop
 |.quiet s'=>read s'=read s
 |.loud s'=>At s/\Tm.next (read s)=Wu (read s')
 |.value=>∃V,s=.back V []/\Tm.isV (read s)=Ww
 |.stuck=>At s/\Tm.next (read s)=Wv
theorem Zig(s:Sta)(ok:Zb9 s):Sim s (step s):=by
 cases s with
 |go E ar ws=>
  cases E with
  |num z=>exact rfl
  |name x=>
   obtain⟨v,e⟩:=Ar.get_some (ar:=ar) ok.1;have:step (.go (.name x) ar ws)=.quiet (.back v ws):=by simp only[step,thing,e]
   rw[this];show rnd ws (rd v)=rnd ws (Tm.sub (ra ar) (.name x));rw[Tm.sub,Zon,e];rfl
  |fn x e=>exact rfl
  |rcc f x e=>exact rfl
  |call F A=>exact rfl
  |iff C t e=>exact rfl
  |op w x y=>exact rfl
 |back V ws=>
  cases ws with
  |nil=>exact⟨V,rfl,ZlX ok.1⟩
  |cons w r=>
   have okr:∀x∈r,Zfe x:=fun x hx=>ok.2 x (Oh _ hx);have okw:=ok.2 w Oi;have vV:=ZlX ok.1;have at':∀t:T,fw w (rd V)=t->Tm.isV t=Wx->Tm.pth t=[]->Tm.bot t=t->At (.back V (w::r))/\Tm.next (read (.back V (w::r)))=(Tm.bec t).map (rnd r):=fun t e nv hp hb=>by
    have q:=ZrU okr nv hp hb;have e2:read (.back V (w::r))=rnd r t:=by rw[<- e];rfl
    exact⟨⟨by rw[e2];exact q.1,V,w::r,rfl,by rw[e2,q.2.2];rfl⟩,by rw[e2];exact q.2.1⟩
   cases w with
   |arg A ar=>exact rfl
   |right w F ar=>exact rfl
   |fn W=>
    have vW:=ZlX okw;obtain⟨a,n⟩:=at' _ rfl rfl (by simp[fw,Tm.pth,vV,vW]) (by simp[fw,Tm.bot,vV,vW]);cases W with
    |num z=>exact⟨a,n⟩
    |clo E ar=>
     cases E with
     |fn x e=>refine⟨a,n.trans ?_⟩;show Wu (rnd r (Tm.sub [(x,Wu (rd V))] (Tm.sub ((x,Wv)::ra ar) e)))=Wu (rnd r (Tm.sub ((x,Wu (rd V))::ra ar) e));rw[ZrO okw.2.2]
     |rcc f x e=>refine⟨a,n.trans ?_⟩;have ne:=okw.2.1.2;show Wu (rnd r (Tm.sub (Tm.Fil.ar (Tm.Za2 f (rd (.clo (.rcc f x e) ar)) x (rd V))) (Tm.sub ((f,Wv)::(x,Wv)::ra ar) e)))=Wu (rnd r (Tm.sub ((x,Wu (rd V))::(f,Wu (rd (.clo (.rcc f x e) ar)))::ra ar) e));rw[<- Zpj ne okw.2.2,Tm.Za2,if_neg ne];rfl
     |_=>cases okw.1
   |iff t e ar=>
    obtain⟨a,n⟩:=at' _ rfl rfl (by simp[fw,Tm.pth,vV]) (by simp[fw,Tm.bot,vV]);cases V with
    |num z=>refine⟨a,n.trans ?_⟩;show Wu (rnd r (if z=0 then Tm.sub (ra ar) e else Tm.sub (ra ar) t))=Wu (rnd r (Tm.sub (ra ar) (if z=0 then e else t)));split<;>rfl
    |clo E ar'=>
     cases E with
     |fn x e=>exact⟨a,n⟩
     |rcc f x e=>exact⟨a,n⟩
     |_=>cases ok.1.1
   |left w W=>
    have vW:=ZlX okw;obtain⟨a,n⟩:=at' _ rfl rfl (by simp[fw,Tm.pth,vV,vW]) (by simp[fw,Tm.bot,vV,vW]);cases W with
    |num y=>
     cases V with
     |num z=>exact⟨a,n⟩
     |clo E ar'=>
      cases E with
      |fn x e=>exact⟨a,n⟩
      |rcc f x e=>exact⟨a,n⟩
      |_=>cases ok.1.1
    |clo E ar'=>
     cases E with
     |fn x e=>exact⟨a,n⟩
     |rcc f x e=>exact⟨a,n⟩
     |_=>cases okw.1
end Rw
end
section
namespace Rw
open PySem L2 IV Gn
section
variable {N:Nat}
def Bd(N:Nat)(E:T)(ar:Ar):Prop:=ar.len+2 * E.size<=2 * N
mutual
def ThN(N:Nat):Th->Prop
 |.num _=>True
 |.clo E ar=>Bd N E ar/\ArN N ar
def ArN(N:Nat):Ar->Prop
 |.nil=>True
 |.cons _ v r=>ThN N v/\ArN N r
end
def WtN(N:Nat):Wt->Prop
 |.arg A ar=>Bd N A ar/\ArN N ar
 |.fn V=>ThN N V
 |.iff t e ar=>(Bd N t ar/\Bd N e ar)/\ArN N ar
 |.right _ F ar=>Bd N F ar/\ArN N ar
 |.left _ V=>ThN N V
def StN(N:Nat):Sta->Prop
 |.go E ar ws=>Bd N E ar/\ArN N ar/\∀w∈ws,WtN N w
 |.back V ws=>ThN N V/\∀w∈ws,WtN N w
theorem Zjs{x:Str}{v:Th}:∀{ar:Ar},ArN N ar->ar.get x=Wu v->ThN N v
 |.nil,_,e=>by cases e
 |.cons y u r,h,e=>by
  rw[Ar.get]at e;split at e
  . cases e;exact h.1
  . exact Zjs h.2 e
theorem Zcz{E F:T}{ar:Ar}(h:Bd N E ar)(hf:F∈E.parts):Bd N F ar:=by have:=Tm.Zhw hf;unfold Bd at *;omega
theorem Zih{s s':Sta}(ok:Zb9 s)(b:StN N s)(e:step s=.quiet s'\/step s=.loud s'):Zb9 s'/\StN N s':=by
 cases s with
 |go E ar ws=>
  cases E with
  |num z=>rcases e with e|e<;>cases e;exact⟨⟨ok.1,ok.2.2⟩,trivial,b.2.2⟩
  |name x=>
   obtain⟨v,q⟩:=Ar.get_some (ar:=ar) ok.1;have:step (.go (.name x) ar ws)=.quiet (.back v ws):=by simp only[step,thing,q]
   rw[this]at e;rcases e with e|e<;>cases e;exact⟨⟨Zhe ok.2.1 q,ok.2.2⟩,Zjs b.2.1 q,b.2.2⟩
  |fn x f=>rcases e with e|e<;>cases e;exact⟨⟨⟨rfl,ok.1,ok.2.1⟩,ok.2.2⟩,⟨b.1,b.2.1⟩,b.2.2⟩
  |rcc g x f=>rcases e with e|e<;>cases e;exact⟨⟨⟨rfl,ok.1,ok.2.1⟩,ok.2.2⟩,⟨b.1,b.2.1⟩,b.2.2⟩
  |call F A=>rcases e with e|e<;>cases e;exact⟨⟨ok.1.1,ok.2.1,Zaj ⟨ok.1.2,ok.2.1⟩ ok.2.2⟩,Zcz b.1 (by simp[T.parts]),b.2.1,Zaj ⟨Zcz b.1 (by simp[T.parts]),b.2.1⟩ b.2.2⟩
  |iff C t f=>rcases e with e|e<;>cases e;exact⟨⟨ok.1.1,ok.2.1,Zaj ⟨ok.1.2.1,ok.1.2.2,ok.2.1⟩ ok.2.2⟩,Zcz b.1 (by simp[T.parts]),b.2.1,Zaj ⟨⟨Zcz b.1 (by simp[T.parts]),Zcz b.1 (by simp[T.parts])⟩,b.2.1⟩ b.2.2⟩
  |op w x y=>rcases e with e|e<;>cases e;exact⟨⟨ok.1.1,ok.2.1,Zaj ⟨ok.1.2,ok.2.1⟩ ok.2.2⟩,Zcz b.1 (by simp[T.parts]),b.2.1,Zaj ⟨Zcz b.1 (by simp[T.parts]),b.2.1⟩ b.2.2⟩
 |back V ws=>
  cases ws with
  |nil=>rcases e with e|e<;>cases e
  |cons w r=>
   have okr:∀x∈r,Zfe x:=fun x hx=>ok.2 x (Oh _ hx);have br:∀x∈r,WtN N x:=fun x hx=>b.2 x (Oh _ hx);have okw:=ok.2 w Oi;have bw:=b.2 w Oi;cases w with
   |arg A ar=>rcases e with e|e<;>cases e;exact⟨⟨okw.1,okw.2,Zaj ok.1 okr⟩,bw.1,bw.2,Zaj b.1 br⟩
   |right w F ar=>rcases e with e|e<;>cases e;exact⟨⟨okw.1,okw.2,Zaj ok.1 okr⟩,bw.1,bw.2,Zaj b.1 br⟩
   |fn W=>
    cases W with
    |num z=>rcases e with e|e<;>cases e
    |clo E ar=>
     cases E with
     |fn x f=>rcases e with e|e<;>cases e;refine⟨⟨okw.2.1,⟨ok.1,okw.2.2⟩,okr⟩,?_,⟨b.1,bw.2⟩,br⟩;have h1:=bw.1;have h2:=Tm.Zb (.fn x f);simp only[T.parts,Op,Oy,OI,List.sum_nil]at h2;unfold Bd at *;rw[Ar.len];omega
     |rcc g x f=>rcases e with e|e<;>cases e;refine⟨⟨okw.2.1.1,⟨ok.1,okw,okw.2.2⟩,okr⟩,?_,⟨b.1,bw,bw.2⟩,br⟩;have h1:=bw.1;have h2:=Tm.Zb (.rcc g x f);simp only[T.parts,Op,Oy,OI,List.sum_nil]at h2;unfold Bd at *;rw[Ar.len,Ar.len];omega
     |_=>cases okw.1
   |iff t f ar=>
    cases V with
    |num z=>
     rcases e with e|e<;>cases e;by_cases q:z=0
     . simp only[q,if_true];exact⟨⟨okw.2.1,okw.2.2,okr⟩,bw.1.2,bw.2,br⟩
     . simp only[if_neg q];exact⟨⟨okw.1,okw.2.2,okr⟩,bw.1.1,bw.2,br⟩
    |clo E ar'=>rcases e with e|e<;>cases e
   |left w W=>
    cases W with
    |num y=>
     cases V with
     |num z=>rcases e with e|e<;>cases e;exact⟨⟨wk_ok w y z,okr⟩,trivial,br⟩
     |clo E ar'=>rcases e with e|e<;>cases e
    |clo E ar'=>rcases e with e|e<;>cases e
noncomputable def wm:Wt->Nat
 |.arg A _=>2 * A.size+1
 |.right _ F _=>2 * F.size+1
 |_=>0
noncomputable def wms(ws:List Wt):Nat:=(ws.map wm).sum
noncomputable def ms:Sta->Nat
 |.go E _ ws=>2 * E.size+wms ws
 |.back _ ws=>wms ws
theorem Zcb(w:Wt)(ws:List Wt):wms (w::ws)=wm w+wms ws:=by simp[wms]
theorem ZsD{s s':Sta}(ok:Zb9 s)(e:step s=.quiet s'):ms s'<ms s:=by
 cases s with
 |go E ar ws=>
  have sp:=Tm.ZaE E;have sc:=Tm.Zb E;cases E with
  |name x=>
   obtain⟨v,q⟩:=Ar.get_some (ar:=ar) ok.1;have:step (.go (.name x) ar ws)=.quiet (.back v ws):=by simp only[step,thing,q]
   rw[this]at e;cases e;simp only[ms];omega
  |num z=>cases e;simp only[ms];omega
  |fn x f=>cases e;simp only[ms];omega
  |rcc g x f=>cases e;simp only[ms];omega
  |call F A=>cases e;simp only[ms,Zcb,wm];simp[T.parts]at sc;omega
  |iff C t f=>cases e;simp only[ms,Zcb,wm];simp[T.parts]at sc;omega
  |op w x y=>cases e;simp only[ms,Zcb,wm];simp[T.parts]at sc;omega
 |back V ws=>
  cases ws with
  |nil=>cases e
  |cons w r=>
   cases w with
   |arg A ar=>cases e;simp only[ms,Zcb,wm];omega
   |right w F ar=>cases e;simp only[ms,Zcb,wm];omega
   |fn W=>
    cases W with
    |num z=>cases e
    |clo E ar=>cases E<;>cases e
   |iff t f ar=>cases V<;>cases e
   |left w W=>cases W<;>cases V<;>cases e
theorem Zqx(w:Wt)(t:T):t.size+1<=(fw w t).size:=by
 cases w with
 |arg A ar=>rw[fw,Tm.Zb (.call _ _)];simp[T.parts];omega
 |fn V=>rw[fw,Tm.Zb (.call _ _)];simp[T.parts];omega
 |iff a b ar=>rw[fw,Tm.Zb (.iff _ _ _)];simp[T.parts];omega
 |right w F ar=>rw[fw,Tm.Zb (.op _ _ _)];simp[T.parts];omega
 |left w V=>rw[fw,Tm.Zb (.op _ _ _)];simp[T.parts];omega
theorem ZcV:∀(ws:List Wt) (t:T),t.size+ws.length<=(rnd ws t).size
 |[],_=>Oq _
 |w::ws,t=>by have a:=Zqx w t;have b:=ZcV ws (fw w t);rw[Os,show rnd (w::ws) t=rnd ws (fw w t)from rfl];omega
noncomputable def wts:Sta->List Wt
 |.go _ _ ws=>ws
 |.back _ ws=>ws
theorem ZmM(s:Sta):(wts s).length<=(read s).size:=by
 cases s with
 |go E ar ws=>have:=ZcV ws (Tm.sub (ra ar) E);exact OE (Wa _ _) this
 |back V ws=>have:=ZcV ws (rd V);exact OE (Wa _ _) this
end
end Rw
end
section
namespace Pw
open PySem L2 IV
noncomputable def Zbs:Sxs:=(.cons (.drp (.mcl (O "Pen") (O "take_place") (.var 0) .nil)) (.cons (.ret (.bin .Add (.var 1) (.var 2))) .nil))
noncomputable def ZaL:Fd:=⟨[(O "self"),(O "front"),(O "parts")],[(O "self"),(O "front"),(O "parts")],Zbs⟩
noncomputable def Zd1:Sxs:=(.cons (.set (.nm 2) (.call (O "opened") (.cons (.var 1) .nil))) (.cons (.ret (.mcl (O "Pen") (O "filled") (.var 0) (.cons (.ix (.var 2) (.cst (.int 0))) (.cons (.ix (.var 2) (.cst (.int 1))) .nil)))) .nil))
noncomputable def ZbF:Fd:=⟨[(O "self"),(O "thing")],[(O "self"),(O "thing"),(O "pair")],Zd1⟩
structure Pnw(P:Pg):Prop where
 t:Tm.Trb P
 wd:Tm.Wid P
 gw:P.G (O "WIDEST")=Wu (.int 120)
 n_Pen_joined:P.tb.lookup (mnm (O "Pen") (O "joined"))=Wv
 Pen_joined:P.ms.lookup (mnm (O "Pen") (O "joined"))=Wu ZaL
 n_Pen_told:P.tb.lookup (mnm (O "Pen") (O "told"))=Wv
 Pen_told:P.ms.lookup (mnm (O "Pen") (O "told"))=Wu ZbF
end Pw
end
section
namespace Pw
open PySem L2 IV Tm
variable {P:Pg}{h0 h:Hd}{pk:Nat}
theorem Zna{U:Tb}{e:Ex}{S:Ev}{r:R D}(q:ev U e S h=r):Zh (xs2 U (.cons (.ret e) .nil) S h)=r:=by rw[xs2,Zhf,q];cases r<;>rfl
theorem Aft.set{mo:D}{u:Int}(a:Aft h0 h pk mo u)(v:Int):Aft h0 (h.set pk (ZaR mo v)) pk mo v:=⟨by rw[Ol (ZeZ a.1)],by simpa using a.2.1,fun i hi hn=>by rw[Oc (YL hn)];exact a.2.2 i hi hn⟩
abbrev Ot(h0:Hd)(pk:Nat)(t:T)(u:Nat)(r:R D):Prop:=Out h0 pk (.int 120) t (u:Int) (120 - u) r
section
variable {u N:Nat} (H:Pnw P) (n:Nat) (hN:1<=N) (hN2:N<=45000)
include H hN hN2
theorem Zlc(t:T)(e:En)(a:Aft h0 h pk (.int 120) (u:Int))(hu:u<=120)(hw:Wok N (t,e)):Ot h0 pk (tel (t,e)) u (run P (n+3) (mnm (O "Pen") (O "filled")) [.ref pk,t.d,.tup (e.map edd)] h):=Znh H.t n hN hN2 t e a (.inr ⟨by congr 1;omega,.inr H.wd⟩) (by omega) hw
theorem Zee(t:T)(ar:Rw.Ar)(a:Aft h0 h pk (.int 120) (u:Int))(hu:u<=120)(hw:Wok N (t,up ar)):Ot h0 pk (sub (Rw.ra ar) t) u (run P (n+3) (mnm (O "Pen") (O "filled")) [.ref pk,t.d,.tup ar.ds] h):=by have:=Zlc H n hN hN2 t (up ar) a hu hw;rw[ZkX,show tel (t,up ar)=sub (Rw.ra ar) t by show sub (er (up ar)) t=_;rw[ZoC]]at this;exact this
theorem ZjF(v:Rw.Th)(a:Aft h0 h pk (.int 120) (u:Int))(hu:u<=120)(g:Rw.ThG N v):Ot h0 pk (Rw.rd v) u (run P (n+4) (mnm (O "Pen") (O "told")) [.ref pk,v.d] h):=by
 have o:=Zlc H n hN hN2 (opn v).1 (up (opn v).2) a hu (Wok.thing hN g);rw[Zhm,ZkX]at o;have x1:xs1 (P.tbl (n+3)) (hdS Zd1) [Wu (.ref pk),Wu v.d,Wv] h=.ok (.nx,[Wu (.ref pk),Wu v.d,Wu (.tup [(opn v).1.d,.tup (opn v).2.ds])]) h:=Zu (Zr (Ziv H.t (n+2) v) rfl);have e:run P (n+4) (mnm (O "Pen") (O "told")) [.ref pk,v.d] h=run P (n+3) (mnm (O "Pen") (O "filled")) [.ref pk,(opn v).1.d,.tup (opn v).2.ds] h:=by rw[ZdS H.n_Pen_told H.Pen_told (by rfl)];exact(congrArg Zh (nx1 (U:=P.tbl (n+3)) (ss:=Zd1) x1 rfl)).trans (Zna (Zba rfl a.1 rfl rfl rfl))
 rw[e];exact o
omit hN hN2
theorem ZlZ(fs ps:List D)(a:Aft h0 h pk (.int 120) (u:Int))(hu:u<120)(hz:fs.length+ps.length<=1000):run P (n+2) (mnm (O "Pen") (O "joined")) [.ref pk,.tup fs,.tup ps] h=.ok (.tup (fs++ps)) (h.set pk (ZaR (.int 120) ((u:Int)+1))):=by have e:=Zne H.t n (u:=(u:Int)) (.inr ⟨120,rfl,by omega⟩) a.1;rw[ZdS H.n_Pen_joined H.Pen_joined (by rfl)];have x1:xs1 (P.tbl (n+1)) (hdS Zbs) [Wu (.ref pk),Wu (.tup fs),Wu (.tup ps)] h=.ok (.nx,[Wu (.ref pk),Wu (.tup fs),Wu (.tup ps)]) (h.set pk (ZaR (.int 120) ((u:Int)+1))):=Zgj (Zba rfl a.1 rfl rfl e);exact(congrArg Zh (nx1 (U:=P.tbl (n+1)) (ss:=Zbs) x1 rfl)).trans (Zna ((Zao rfl rfl).trans (Zds (by rw[YC];omega))))
theorem Zng(fs ps:List D)(a:Aft h0 h pk (.int 120) (120:Int)):run P (n+2) (mnm (O "Pen") (O "joined")) [.ref pk,.tup fs,.tup ps] h=.exc (O "Wide") h:=by have e:=Ziu H.t H.wd n a.1;rw[ZdS H.n_Pen_joined H.Pen_joined (by rfl)];exact congrArg Zh (ZcR (U:=P.tbl (n+1)) (r:=tlS Zbs) (Zri (Zba rfl a.1 rfl rfl e)))
inductive Po(h0:Hd)(pk:Nat)(fs:List D)(t:T):R D->Prop
 |ok {h':Hd}{ps:List D}{u:Nat} (a:Aft h0 h' pk (.int 120) (u:Int)) (hu:u<=120) (e:t.d=.tup (fs++ps)) (z:t.size=u+1) (hz:fs.length+ps.length<=1000):Po h0 pk fs t (.ok (.tup ps) h')
 |ex {h':Hd} (lt:120<t.size) (o:Old h0 h' pk):Po h0 pk fs t (.exc (O "Wide") h')
theorem ZiW{S:Ev}{o fe pe:Ex}{w:Int}{fs:List D}{t:T}(eo:ev (P.tbl (n+2)) o S h=.ok (.ref pk) h)(hp:h[pk]? = Wu (ZaR (.int 120) w))(ef:ev (P.tbl (n+2)) fe S h=.ok (.tup fs) h)(po:Po h0 pk fs t (ev (P.tbl (n+2)) pe S h)):
 Ot h0 pk t 0 (ev (P.tbl (n+2)) (.mcl (O "Pen") (O "joined") o (.cons fe (.cons pe .nil))) S h):=by
 generalize hr:ev (P.tbl (n+2)) pe S h=r at po;cases po with
 |ex lt o=>rw[ZuW eo hp rfl (Zgg ef (Zi5 hr))];exact .ex lt o
 |@ok h' ps u a hu e z hz=>
  have es:evs (P.tbl (n+2)) (.cons fe (.cons pe .nil)) S h=.ok [.tup fs,.tup ps] h':=Zd ef (Zd hr rfl);by_cases q:u=120
  . subst q;rw[Zba eo hp rfl es (Zng H n fs ps a)];exact .ex (by omega) a.2
  . rw[Zba eo hp rfl es (ZlZ H n fs ps a (by omega) hz),<- e];refine .ok (by omega) ?_;have:=Aft.set a ((u:Int)+1);rw[show((0:Nat):Int)+(t.size:Int)=(u:Int)+1 by omega];exact this
end
section
variable {U:Tb}{S:Ev}{fs:List D}{t A B_:T}{u:Nat}{a b c:Ex}{x:D}
theorem Zub(hu:u<=120)(ea:ev U a S h=.ok x h)(ob:Ot h0 pk A u (ev U b S h))(e:t.d=.tup (fs++[x,A.d]))(z:t.size=1+(u+A.size))(hz:fs.length<=900):Po h0 pk fs t (ev U (.tupl (.cons a (.cons b .nil))) S h):=by
 generalize hr:ev U b S h=r at ob;cases ob with
 |ex lt o=>rw[ZlA (Zgg ea (Zi5 hr))];exact .ex (by omega) o
 |ok le q=>rw[Za9 (Zd ea (Zd hr rfl)) (by simp)];exact .ok (u:=u+A.size) q (by omega) e (by omega) (by simp;omega)
theorem Zuc(hu:u<=120)(oa:Ot h0 pk A u (ev U a S h))(eb:∀h',ev U b S h'=.ok x h')(e:t.d=.tup (fs++[A.d,x]))(z:t.size=1+(A.size+u))(hz:fs.length<=900):Po h0 pk fs t (ev U (.tupl (.cons a (.cons b .nil))) S h):=by
 generalize hr:ev U a S h=r at oa;cases oa with
 |ex lt o=>rw[ZlA (Zi5 hr)];exact .ex (by omega) o
 |ok le q=>rw[Za9 (Zd hr (Zd (eb _) rfl)) (by simp)];exact .ok (u:=u+A.size) q (by omega) e (by omega) (by simp;omega)
theorem ZvY(hu:u<=120)(ea:ev U a S h=.ok x h)(ob:Ot h0 pk A u (ev U b S h))(oc:∀h',Aft h0 h' pk (.int 120) ((u:Int)+(A.size:Int))->u+A.size<=120->Ot h0 pk B_ (u+A.size) (ev U c S h'))(e:t.d=.tup (fs++[x,A.d,B_.d]))(z:t.size=1+(u+(A.size+B_.size)))(hz:fs.length<=900):Po h0 pk fs t (ev U (.tupl (.cons a (.cons b (.cons c .nil)))) S h):=by
 generalize hr:ev U b S h=r at ob;cases ob with
 |ex lt o=>rw[ZlA (Zgg ea (Zi5 hr))];exact .ex (by omega) o
 |@ok h1 le q=>
  have oc:=oc h1 q (by omega);generalize hs:ev U c S h1=s at oc;cases oc with
  |ex lt o=>rw[ZlA (Zgg ea (Zgg hr (Zi5 hs)))];exact .ex (by omega) o
  |ok le2 q2=>rw[Za9 (Zd ea (Zd hr (Zd hs rfl))) (by simp)];exact .ok (u:=u+A.size+B_.size) q2 (by omega) e (by omega) (by simp;omega)
end
end Pw
end
section
namespace Rr
open PySem L2 IV
noncomputable def ZU:Sx:=(.iff (.ex (.cmp .Eq (.ix (.var 2) (.cst (.int 0))) (.cst (.str (O "arg"))))) (.cons (.ret (.mcl (O "Pen") (O "joined") (.var 0) (.cons (.tupl (.cons (.cst (.str (O "call"))) .nil)) (.cons (.tupl (.cons (.var 1) (.cons (.mcl (O "Pen") (O "filled") (.var 0) (.cons (.ix (.var 2) (.cst (.int 1))) (.cons (.ix (.var 2) (.cst (.int 2))) .nil))) .nil))) .nil)))) .nil) .nil)
noncomputable def Z5:Sx:=(.iff (.ex (.cmp .Eq (.ix (.var 2) (.cst (.int 0))) (.cst (.str (O "fun"))))) (.cons (.ret (.mcl (O "Pen") (O "joined") (.var 0) (.cons (.tupl (.cons (.cst (.str (O "call"))) .nil)) (.cons (.tupl (.cons (.mcl (O "Pen") (O "told") (.var 0) (.cons (.ix (.var 2) (.cst (.int 1))) .nil)) (.cons (.var 1) .nil))) .nil)))) .nil) .nil)
noncomputable def ZaN:Sx:=(.iff (.ex (.cmp .Eq (.ix (.var 2) (.cst (.int 0))) (.cst (.str (O "if"))))) (.cons (.ret (.mcl (O "Pen") (O "joined") (.var 0) (.cons (.tupl (.cons (.cst (.str (O "if"))) .nil)) (.cons (.tupl (.cons (.var 1) (.cons (.mcl (O "Pen") (O "filled") (.var 0) (.cons (.ix (.var 2) (.cst (.int 1))) (.cons (.ix (.var 2) (.cst (.int 3))) .nil))) (.cons (.mcl (O "Pen") (O "filled") (.var 0) (.cons (.ix (.var 2) (.cst (.int 2))) (.cons (.ix (.var 2) (.cst (.int 3))) .nil))) .nil)))) .nil)))) .nil) .nil)
noncomputable def ZbH:Sx:=(.iff (.ex (.cmp .Eq (.ix (.var 2) (.cst (.int 0))) (.cst (.str (O "right"))))) (.cons (.ret (.mcl (O "Pen") (O "joined") (.var 0) (.cons (.tupl (.cons (.ix (.var 2) (.cst (.int 1))) .nil)) (.cons (.tupl (.cons (.var 1) (.cons (.mcl (O "Pen") (O "filled") (.var 0) (.cons (.ix (.var 2) (.cst (.int 2))) (.cons (.ix (.var 2) (.cst (.int 3))) .nil))) .nil))) .nil)))) .nil) .nil)
noncomputable def Zde:Sx:=(.ret (.mcl (O "Pen") (O "joined") (.var 0) (.cons (.tupl (.cons (.ix (.var 2) (.cst (.int 1))) .nil)) (.cons (.tupl (.cons (.mcl (O "Pen") (O "told") (.var 0) (.cons (.ix (.var 2) (.cst (.int 2))) .nil)) (.cons (.var 1) .nil))) .nil))))
noncomputable def ZY:Sxs:=(.cons ZU (.cons Z5 (.cons ZaN (.cons ZbH (.cons Zde .nil)))))
noncomputable def ZaH:Fd:=⟨[(O "pen"),(O "E"),(O "wait")],[(O "pen"),(O "E"),(O "wait")],ZY⟩
noncomputable def Zb7:Sx:=(.set (.nm 1) (.mk (O "Pen") (.cons (.glo (O "WIDEST")) .nil)))
noncomputable def ZI:Sx:=(.iff (.ex (.cmp .Eq (.ix (.var 0) (.cst (.int 0))) (.cst (.str (O "go"))))) (.cons (.set (.nm 2) (.mcl (O "Pen") (O "filled") (.var 1) (.cons (.ix (.var 0) (.cst (.int 1))) (.cons (.ix (.var 0) (.cst (.int 2))) .nil)))) .nil) (.cons (.set (.nm 2) (.mcl (O "Pen") (O "told") (.var 1) (.cons (.ix (.var 0) (.cst (.int 1))) .nil))) .nil))
noncomputable def Zb6:Sx:=(.forr (.nm 3) (.pl (.ix (.var 0) (.neg (.cst (.int 1))))) (.cons (.set (.nm 2) (.call (O "put_around") (.cons (.var 1) (.cons (.var 2) (.cons (.var 3) .nil))))) .nil))
noncomputable def ZdP:Sx:=(.ret (.var 2))
noncomputable def Zjo:Sxs:=(.cons Zb7 (.cons ZI (.cons Zb6 (.cons ZdP .nil))))
noncomputable def Za5:Fd:=⟨[(O "state")],[(O "state"),(O "pen"),(O "E"),(O "wait")],Zjo⟩
noncomputable def Zh3:Sx:=(.set (.nm 1) (.cst .non))
noncomputable def Zh2:Sx:=(.trs 1 (O "rows_read") (.cons (.var 0) .nil) (O "Wide"))
noncomputable def Zh1:Sx:=(.ret (.var 1))
noncomputable def ZcD:Sxs:=(.cons Zh3 (.cons Zh2 (.cons Zh1 .nil)))
noncomputable def ZbD:Fd:=⟨[(O "_law_state")],[(O "_law_state"),(O "_law_told")],ZcD⟩
structure Rrd(P:Pg):Prop where
 r:Rw.Row0 P
 p:Pw.Pnw P
 put_around:P.tb.lookup (O "put_around")=Wu ZaH
 rows_read:P.tb.lookup (O "rows_read")=Wu Za5
 law_read:P.tb.lookup (O "_law_read")=Wu ZbD
end Rr
end
section
namespace Rr
open PySem L2 IV Tm Pw
open Rw (Th Wt Sta ZeO ArOk Zfe Zb9 ThN ArN WtN StN ThG ArG Bd rd ra fw rnd read)
variable {P:Pg}{h0 h:Hd}{pk N:Nat}
mutual
theorem Zhl:∀v:Th,ZeO v->ThN N v->ThG N v
 |.num _,_,_=>trivial
 |.clo E ar,ok,b=>⟨fun x z=>by (have q:=ok.1;rw[z]at q;cases q),b.1,arg_of ar ok.2.2 b.2⟩
theorem arg_of:∀ar:Rw.Ar,ArOk ar->ArN N ar->ArG N ar
 |.nil,_,_=>trivial
 |.cons _ v r,ok,b=>⟨Zhl v ok.1 b.1,arg_of r ok.2 b.2⟩
end
theorem Zfu{E:T}{ar:Rw.Ar}(ok:ArOk ar)(b:Bd N E ar)(a:ArN N ar):Wok N (E,up ar):=⟨by show(up ar).length+2 * E.size<=2 * N;rw[Zjx];exact b,ZrA (arg_of ar ok a)⟩
section
variable {U:Tb}{S:Ev}
theorem Zlv{c:Tx}{e:Ex}{b r:Sxs}(t:tst U c S h=.ok Ww h):Zh (xs2 U (.cons (.iff c (.cons (.ret e) .nil) b) r) S h)=ev U e S h:=by rw[xs2,Zs t,xs2,Zhf];cases ev U e S h<;>rfl
theorem ZdL{c:Tx}{a r:Sxs}(t:tst U c S h=.ok Wx h):xs2 U (.cons (.iff c a .nil) r) S h=xs2 U r S h:=Za ((Zw t).trans rfl)
end
theorem Zdo(f a:T):(T.call f a).size=1+(f.size+a.size):=by rw[Zb];simp[T.parts]
theorem ZgI(w:Wd)(f a:T):(T.op w f a).size=1+(f.size+a.size):=by rw[Zb];simp[T.parts]
theorem Zho(c t e:T):(T.iff c t e).size=1+(c.size+(t.size+e.size)):=by rw[Zb];simp[T.parts]
theorem Zla(H:Rrd P)(n:Nat)(hN:1<=N)(hN2:N<=45000)(w:Wt)(ok:Zfe w)(b:WtN N w)(E:T)(hE:E.size<=120)(a:Aft h0 h pk (.int 120) (E.size:Int)):Ot h0 pk (fw w E) 0 (run P (n+5) (O "put_around") [.ref pk,E.d,w.d] h):=by
 rw[Zc H.put_around (by rfl)];have tt:∀(s v:Str) (ds:List D),w.d=.tup (.str v::ds)->tst (P.tbl (n+4)) (.ex (.cmp .Eq (.ix (.var 2) (.cst (.int 0))) (.cst (.str s)))) [Wu (.ref pk),Wu E.d,Wu w.d] h=.ok (Wy (v=s)) h:=fun s v ds e=>Zer ((ZaV (x:=w.d) rfl rfl).trans (by rw[e];simp)) rfl;show Ot h0 pk (fw w E) 0 (Zh (xs2 (P.tbl (n+4)) ZY [Wu (.ref pk),Wu E.d,Wu w.d] h));cases w with
 |arg A ar=>unfold ZY ZU;rw[Zlv (Zq (tt _ _ _ rfl) (by decide))];have ob:=Zee H.p (n+1) hN hN2 A ar a hE (Zfu ok.2 b.1 b.2);refine ZiW H.p (n+2) rfl a.1 rfl (Zub hE rfl (A:=sub (ra ar) A) ?_ rfl (Zdo _ _) (by simp));rw[Zba (xs:=[A.d,.tup ar.ds]) rfl a.1 rfl rfl rfl];exact ob
 |fn V=>unfold ZY ZU Z5;rw[ZdL (Zq (tt _ _ _ rfl) (by decide)),Zlv (Zq (tt _ _ _ rfl) (by decide))];have oa:=Pw.ZjF H.p n hN hN2 V a hE (Zhl V ok b);refine ZiW H.p (n+2) rfl a.1 rfl (Zuc hE (A:=rd V) ?_ (fun _=>rfl) rfl (Zdo _ _) (by simp));rw[Zba (xs:=[V.d]) rfl a.1 rfl rfl rfl];exact oa
 |iff t e ar=>
  unfold ZY ZU Z5 ZaN;rw[ZdL (Zq (tt _ _ _ rfl) (by decide)),ZdL (Zq (tt _ _ _ rfl) (by decide)),Zlv (Zq (tt _ _ _ rfl) (by decide))];have ob:=Zee H.p (n+1) hN hN2 t ar a hE (Zfu ok.2.2 b.1.1 b.2);refine ZiW H.p (n+2) rfl a.1 rfl (ZvY hE rfl (A:=sub (ra ar) t) (B_:=sub (ra ar) e) ?_ (fun h' a' hu=>?_) rfl (Zho _ _ _) (by simp))
  . rw[Zba (xs:=[t.d,.tup ar.ds]) rfl a.1 rfl rfl rfl];exact ob
  . rw[Zba (xs:=[e.d,.tup ar.ds]) rfl a'.1 rfl rfl rfl];exact Zee H.p (n+1) hN hN2 e ar (u:=E.size+(sub (ra ar) t).size) a' hu (Zfu ok.2.2 b.1.2 b.2)
 |right o F ar=>unfold ZY ZU Z5 ZaN ZbH;rw[ZdL (Zq (tt _ _ _ rfl) (by decide)),ZdL (Zq (tt _ _ _ rfl) (by decide)),ZdL (Zq (tt _ _ _ rfl) (by decide)),Zlv (Zq (tt _ _ _ rfl) (by decide))];have ob:=Zee H.p (n+1) hN hN2 F ar a hE (Zfu ok.2 b.1 b.2);refine ZiW H.p (n+2) rfl a.1 rfl (Zub hE rfl (A:=sub (ra ar) F) ?_ rfl (ZgI _ _ _) (by simp));rw[Zba (xs:=[F.d,.tup ar.ds]) rfl a.1 rfl rfl rfl];exact ob
 |left o V=>unfold ZY ZU Z5 ZaN ZbH Zde;rw[ZdL (Zq (tt _ _ _ rfl) (by decide)),ZdL (Zq (tt _ _ _ rfl) (by decide)),ZdL (Zq (tt _ _ _ rfl) (by decide)),ZdL (Zq (tt _ _ _ rfl) (by decide)),Zna rfl];have oa:=Pw.ZjF H.p n hN hN2 V a hE (Zhl V ok b);refine ZiW H.p (n+2) rfl a.1 rfl (Zuc hE (A:=rd V) ?_ (fun _=>rfl) rfl (ZgI _ _ _) (by simp));rw[Zba (xs:=[V.d]) rfl a.1 rfl rfl rfl];exact oa
noncomputable def vr(s:D)(o1 o2 o3:Option D):Ev:=[Wu s,o1,o2,o3]
theorem rd1(H:Rrd P)(n:Nat)(s:D)(h:Hd):xs1 (P.tbl (n+1)) Zb7 (vr s Wv Wv Wv) h=.ok (.nx,vr s (Wu (.ref h.length)) Wv Wv) (h++[ZaR (.int 120) 0]):=by
 refine Zu (i:=1) ?_;have eg:ev (P.tbl (n+1)) (.glo (O "WIDEST")) (vr s Wv Wv Wv) h=.ok (.int 120) h:=by show R.ofO (P.G (O "WIDEST")) h=_;rw[H.p.gw];rfl
 simp only[ZuX,Za8,Zeq,eg,Zk];exact Zra H.p.t n (.int 120) h
noncomputable def ZiJ:Sxs:=(.cons (.set (.nm 2) (.call (O "put_around") (.cons (.var 1) (.cons (.var 2) (.cons (.var 3) .nil))))) .nil)
inductive Lr(h0:Hd)(pk:Nat)(s:D)(t:T):R (Fl×Ev)->Prop
 |ok {h':Hd}{o3:Option D} (le:t.size<=120) (a:Aft h0 h' pk (.int 120) (t.size:Int)):Lr h0 pk s t (.ok (.nx,vr s (Wu (.ref pk)) (Wu t.d) o3) h')
 |ex {h':Hd} (lt:120<t.size) (o:Old h0 h' pk):Lr h0 pk s t (.exc (O "Wide") h')
theorem Zn3(H:Rrd P)(n:Nat)(hN:1<=N)(hN2:N<=45000){s:D}:∀(ws:List Wt) (t:T) (h:Hd) (o3:Option D),(∀w∈ws,Zfe w)->(∀w∈ws,WtN N w)->t.size<=120->Aft h0 h pk (.int 120) (t.size:Int)->Lr h0 pk s (rnd ws t) (ZL Wv (.nm 3) (xs2 (P.tbl (n+5)) ZiJ) (ws.map Wt.d) (vr s (Wu (.ref pk)) (Wu t.d) o3) h)
 |[],t,h,o3,_,_,hz,a=>.ok hz a
 |w::ws,t,h,o3,ok,b,hz,a=>by
  have o:=Zla H n hN hN2 w (ok w Oi) (b w Oi) t hz a;generalize hr:run P (n+5) (O "put_around") [.ref pk,t.d,w.d] h=r at o;cases o with
  |ex lt o=>have e:ZL Wv (.nm 3) (xs2 (P.tbl (n+5)) ZiJ) ((w::ws).map Wt.d) (vr s (Wu (.ref pk)) (Wu t.d) o3) h=_:=ZuQ rfl (ZcR (Zm4 (Zr hr rfl)));rw[e];refine .ex ?_ o;have:=Rw.ZcV ws (fw w t);show 120<(rnd ws (fw w t)).size;omega
  |@ok h1 le a=>have e:ZL Wv (.nm 3) (xs2 (P.tbl (n+5)) ZiJ) ((w::ws).map Wt.d) (vr s (Wu (.ref pk)) (Wu t.d) o3) h=ZL Wv (.nm 3) (xs2 (P.tbl (n+5)) ZiJ) (ws.map Wt.d) (vr s (Wu (.ref pk)) (Wu (fw w t).d) (Wu w.d)) h1:=ZdV rfl ((Za (Zu (Zr hr rfl))).trans rfl);rw[e];exact Zn3 H n hN hN2 ws (fw w t) h1 _ (fun x hx=>ok x (Oh _ hx)) (fun x hx=>b x (Oh _ hx)) (by omega) (by simpa using a)
inductive Rs(h:Hd)(t:T):R D->Prop
 |ok {g:Hd} (le:t.size<=120):Rs h t (.ok t.d (h++g))
 |ex {g:Hd} (lt:120<t.size):Rs h t (.exc (O "Wide") (h++g))
theorem Old.grown{h0 h:Hd}{pk:Nat}(o:Old h0 h pk)(hp:h0.length<=pk):∃g,h=h0++g:=Tm.grown o.1 fun i hi=>o.2 i hi (by omega)
theorem Aft.new(h:Hd)(mo:D):Aft h (h++[ZaR mo 0]) h.length mo 0:=⟨by simp,by simp,fun i hi _=>Oe hi⟩
theorem Zk8(H:Rrd P)(n:Nat)(hN:1<=N)(hN2:N<=45000){s:D}{ws:List Wt}{t:T}{h:Hd}(ok:∀w∈ws,Zfe w)(b:∀w∈ws,WtN N w)
 (l0:Lr h h.length s t (xs1 (P.tbl (n+5)) ZI (vr s (Wu (.ref h.length)) Wv Wv) (h++[ZaR (.int 120) 0])))
 (ei:∀o1 o2 o3 h1,evi (P.tbl (n+5)) (.pl (.ix (.var 0) (.neg (.cst (.int 1))))) (vr s o1 o2 o3) h1=.ok ⟨Wv,ws.map Wt.d⟩ h1):Rs h (rnd ws t) (run P (n+6) (O "rows_read") [s] h):=by
 rw[Zc H.rows_read (by rfl)];show Rs h (rnd ws t) (Zh (xs2 (P.tbl (n+5)) (.cons Zb7 (.cons ZI (.cons Zb6 (.cons ZdP .nil)))) (vr s Wv Wv Wv) h));rw[Za (rd1 H (n+4) s h)];generalize hr:xs1 (P.tbl (n+5)) ZI (vr s (Wu (.ref h.length)) Wv Wv) (h++[ZaR (.int 120) 0])=r at l0;cases l0 with
 |ex lt o=>rw[ZcR hr];obtain⟨g,rfl⟩:=Old.grown o (Oq _);refine .ex ?_;have:=Rw.ZcV ws t;omega
 |@ok h1 o3 le a=>
  rw[Za hr];have l:=Zn3 H n hN hN2 (s:=s) ws t h1 o3 ok b le a;generalize hs:ZL Wv (.nm 3) (xs2 (P.tbl (n+5)) ZiJ) (ws.map Wt.d) (vr s (Wu (.ref h.length)) (Wu t.d) o3) h1=y at l;have hs:xs1 (P.tbl (n+5)) Zb6 (vr s (Wu (.ref h.length)) (Wu t.d) o3) h1=y:=(Zcx (ei _ _ _ _)).trans hs;cases l with
  |ex lt o=>rw[ZcR hs];obtain⟨g,rfl⟩:=Old.grown o (Oq _);exact .ex lt
  |ok le a=>rw[Za hs];obtain⟨g,rfl⟩:=Old.grown a.2 (Oq _);exact .ok le
theorem ZrX(H:Rrd P)(n:Nat)(hN:1<=N)(hN2:N<=45000)(s:Sta)(ok:Zb9 s)(b:StN N s)(h:Hd):Rs h (read s) (run P (n+6) (O "rows_read") [s.d] h):=by
 have a:=Aft.new h (.int 120);cases s with
 |go E ar ws=>
  refine Zk8 H n hN hN2 ok.2.2 b.2.2 ?_ fun o1 o2 o3 h1=>ZhO ((ZaV (y:=.int (-1)) rfl rfl).trans rfl);have o:=Zee H.p (n+2) hN hN2 E ar (u:=0) a (by omega) (Zfu ok.2.1 b.1 b.2.1);generalize hr:run P (n+2+3) _ _ _=r at o;have tt:tst (P.tbl (n+5)) (.ex (.cmp .Eq (.ix (.var 0) (.cst (.int 0))) (.cst (.str (O "go"))))) (vr (Sta.go E ar ws).d (Wu (.ref h.length)) Wv Wv) (h++[ZaR (.int 120) 0])=.ok Ww (h++[ZaR (.int 120) 0]):=Zq (Zer rfl rfl) (by decide);cases o with
  |ex lt o=>rw[show xs1 (P.tbl (n+5)) ZI _ _=_ from(Zs tt).trans (ZcR (Zm4 (Zba rfl a.1 rfl rfl hr)))];exact .ex lt o
  |ok le q=>rw[show xs1 (P.tbl (n+5)) ZI _ _=_ from(Zs tt).trans ((Za (Zu (Zba rfl a.1 rfl rfl hr))).trans rfl)];exact .ok (o3:=Wv) le (by simpa using q)
 |back V ws=>
  refine Zk8 H n hN hN2 ok.2 b.2 ?_ fun o1 o2 o3 h1=>ZhO ((ZaV (y:=.int (-1)) rfl rfl).trans rfl);have o:=Pw.ZjF H.p (n+1) hN hN2 V (u:=0) a (by omega) (Zhl V ok.1 b.1);generalize hr:run P (n+1+4) _ _ _=r at o;have tt:tst (P.tbl (n+5)) (.ex (.cmp .Eq (.ix (.var 0) (.cst (.int 0))) (.cst (.str (O "go"))))) (vr (Sta.back V ws).d (Wu (.ref h.length)) Wv Wv) (h++[ZaR (.int 120) 0])=.ok Wx (h++[ZaR (.int 120) 0]):=Zq (Zer rfl rfl) (by decide);cases o with
  |ex lt o=>rw[show xs1 (P.tbl (n+5)) ZI _ _=_ from(Zw tt).trans (ZcR (Zm4 (Zba rfl a.1 rfl rfl hr)))];exact .ex lt o
  |ok le q=>rw[show xs1 (P.tbl (n+5)) ZI _ _=_ from(Zw tt).trans ((Za (Zu (Zba rfl a.1 rfl rfl hr))).trans rfl)];exact .ok (o3:=Wv) le (by simpa using q)
noncomputable def rdo(t:T):D:=if t.size<=120 then t.d else .non
theorem Zlb(H:Rrd P)(n:Nat)(hN:1<=N)(hN2:N<=45000)(s:Sta)(ok:Zb9 s)(b:StN N s)(h:Hd):∃g,run P (n+7) (O "_law_read") [s.d] h=.ok (rdo (read s)) (h++g):=by
 have r:=ZrX H n hN hN2 s ok b h;rw[Zc H.law_read (by rfl)];show ∃g,Zh (xs2 (P.tbl (n+6)) ZcD [Wu s.d,Wv] h)=_;generalize hr:run P (n+6) (O "rows_read") [s.d] h=y at r;cases r with
 |@ok g le=>refine⟨g,?_⟩;have w:xs2 (P.tbl (n+6)) ZcD [Wu s.d,Wv] h=.ok (.rt (read s).d,[Wu s.d,Wu (read s).d]) (h++g):=(Za (Zu rfl)).trans ((Za (ZrD (Zd rfl rfl) hr)).trans (Ze (Zx rfl)));rw[w,rdo,if_pos le];rfl
 |@ex g lt=>refine⟨g,?_⟩;have w:xs2 (P.tbl (n+6)) ZcD [Wu s.d,Wv] h=.ok (.rt .non,[Wu s.d,Wu .non]) (h++g):=(Za (Zu rfl)).trans ((Za (ZtB (Zd rfl rfl) hr)).trans (Ze (Zx rfl)));rw[w,rdo,if_neg (by omega)];rfl
end Rr
end
section
namespace Rr
open PySem L2 IV Tm Pw
open Rw (Th Wt Sta Ans ZeO ArOk Zfe Zb9 ThN ArN WtN StN Bd rd ra fw rnd read step)
variable {P:Pg}{h:Hd}{N:Nat}
theorem ZtY (H:Rrd P) (n:Nat) (hN2:N<=45000) {s:Sta} (ok:Zb9 s) (b:StN N s) (hl:(Rw.wts s).length<=200):run P (n+6) (O "rows_step") [s.d] h=.ok (step s).d h:=Rw.ZrW H.r n s ok (by
 cases s with
 | go E ar ws=>simp only [Rw.wts] at hl;simp only;omega
 | back V ws =>
   simp only [Rw.wts] at hl;refine ⟨by omega,fun W r e E ar q=>?_⟩;subst e;subst q;have:=(b.2 _ Oi).1;unfold Rw.Bd at this;omega)
theorem ZrS(n:Bool)(t:T)(hz:t.size<=120)(h:Hd):IV.Zb2 n t.d t.d h=.ok (.bl (!n)) h:=ZgV (_root_.Rw.T.pure_d t) (by rw[_root_.Rw.T.dp_d];have:=Zb5 t;omega)
end Rr
end
section
namespace K25L
open PySem L2 IV
noncomputable def ZcO:Sx:=(.forr (.nm 1) (.rng (.cst (.int 400))) (.cons (.set (.nm 2) (.call (O "rows_step") (.cons (.var 0) .nil))) (.cons (.iff (.ex (.cmp .NotEq (.ix (.var 2) (.cst (.int 0))) (.cst (.str (O "quiet"))))) (.cons (.ret (.var 2)) .nil) .nil) (.cons (.set (.nm 0) (.ix (.var 2) (.cst (.int 1)))) .nil))))
noncomputable def Zfd:Sx:=(.ret (.tupl (.cons (.cst (.str (O "endless"))) .nil)))
noncomputable def ZdQ:Sxs:=(.cons ZcO (.cons Zfd .nil))
noncomputable def Zag:Fd:=⟨[(O "_law_state")],[(O "_law_state"),(O "_law_k"),(O "_law_answer")],ZdQ⟩
noncomputable def Zh5:Sx:=(.set (.nm 1) (.call (O "_law_program") (.cons (.var 0) (.cons (.cst (.int 1)) .nil))))
noncomputable def Zfs:Sx:=(.set (.two 2 3) (.call (O "row_of") (.cons (.var 1) (.cons (.bin .Mod (.call (O "_law_mixed") (.cons (.call (O "_law_cell_at") (.cons (.var 0) (.cons (.cst (.int 0)) .nil))) (.cons (.cst (.int 1)) .nil))) (.cst (.int 25))) .nil))))
noncomputable def Zh4:Sx:=(.set (.nm 4) (.call (O "rows_begun") (.cons (.var 1) .nil)))
noncomputable def Zfr:Sx:=(.forr (.nm 5) (.rng (.blt .len (.cons (.var 2) .nil))) (.cons (.iff (.ex (.cmp .NotEq (.call (O "_law_read") (.cons (.var 4) .nil)) (.ix (.var 2) (.var 5)))) (.cons (.ret (.cst (.bl Wx))) .nil) .nil) (.cons (.set (.nm 6) (.call (O "_law_gone_on") (.cons (.var 4) .nil))) (.cons (.iff (.ex (.cmp .Lt (.var 5) (.bin .Sub (.blt .len (.cons (.var 2) .nil)) (.cst (.int 1))))) (.cons (.iff (.ex (.cmp .NotEq (.ix (.var 6) (.cst (.int 0))) (.cst (.str (O "loud"))))) (.cons (.ret (.cst (.bl Wx))) .nil) .nil) (.cons (.set (.nm 4) (.ix (.var 6) (.cst (.int 1)))) .nil)) .nil) .nil))))
noncomputable def Zex:Sx:=(.iff (.ors (.cons (.ex (.cmp .Eq (.var 3) (.cst (.str (O "value"))))) (.one (.ex (.cmp .Eq (.var 3) (.cst (.str (O "stuck")))))))) (.cons (.ret (.cmp .Eq (.var 6) (.tupl (.cons (.var 3) .nil)))) .nil) .nil)
noncomputable def Zfq:Sx:=(.ret (.ands (.cons (.cmp .Eq (.ix (.var 6) (.cst (.int 0))) (.cst (.str (O "loud")))) (.cons (.ors (.cons (.cmp .Eq (.var 3) (.cst (.str (O "open")))) (.cons (.cmp .Is (.call (O "_law_read") (.cons (.ix (.var 6) (.cst (.int 1))) .nil)) (.cst .non)) .nil))) .nil))))
noncomputable def Zu6:Sxs:=(.cons Zh5 (.cons Zfs (.cons Zh4 (.cons Zfr (.cons Zex (.cons Zfq .nil))))))
noncomputable def Zg2:Fd:=⟨[(O "_law_script")],[(O "_law_script"),(O "_law_program_here"),(O "_law_terms"),(O "_law_word_of"),(O "_law_state"),(O "_law_k"),(O "_law_answer")],Zu6⟩
structure Lw(P:Pg):Prop where
 d:Rr.Rrd P
 t:Tm.Trw P
 cell:P.tb.lookup (O "_law_cell_at")=Wu Gn.ZQ
 law_gone_on:P.tb.lookup (O "_law_gone_on")=Wu Zag
 law:P.tb.lookup (O "law")=Wu Zg2
noncomputable def Zv4:Ix:=(.rng (.cst (.int 400)))
noncomputable def ZuD:Sx:=(.set (.nm 2) (.call (O "rows_step") (.cons (.var 0) .nil)))
noncomputable def Zv6:Sx:=(.iff (.ex (.cmp .NotEq (.ix (.var 2) (.cst (.int 0))) (.cst (.str (O "quiet"))))) (.cons (.ret (.var 2)) .nil) .nil)
noncomputable def Zv5:Sx:=(.set (.nm 0) (.ix (.var 2) (.cst (.int 1))))
noncomputable def ZnZ:Sxs:=(.cons ZuD (.cons Zv6 (.cons Zv5 .nil)))
noncomputable def ZsH:Ix:=(.rng (.blt .len (.cons (.var 2) .nil)))
noncomputable def ZuE:Sx:=(.iff (.ex (.cmp .NotEq (.call (O "_law_read") (.cons (.var 4) .nil)) (.ix (.var 2) (.var 5)))) (.cons (.ret (.cst (.bl Wx))) .nil) .nil)
noncomputable def ZsI:Sx:=(.set (.nm 6) (.call (O "_law_gone_on") (.cons (.var 4) .nil)))
noncomputable def Zv7:Sx:=(.iff (.ex (.cmp .Lt (.var 5) (.bin .Sub (.blt .len (.cons (.var 2) .nil)) (.cst (.int 1))))) (.cons (.iff (.ex (.cmp .NotEq (.ix (.var 6) (.cst (.int 0))) (.cst (.str (O "loud"))))) (.cons (.ret (.cst (.bl Wx))) .nil) .nil) (.cons (.set (.nm 4) (.ix (.var 6) (.cst (.int 1)))) .nil)) .nil)
noncomputable def ZgY:Sxs:=(.cons ZuE (.cons ZsI (.cons Zv7 .nil)))
theorem Zqm:Zfr=.forr (.nm 5) ZsH ZgY:=rfl
end K25L
end
section
namespace K25L
open PySem L2 IV Tm Pw Rr
open Rw (Th Wt Sta Ans Zb9 StN WtN read step ms wm wms rnd fw rd ra)
variable {P:Pg}{h:Hd}{N:Nat}
theorem Zbi:∀(t:T) (ar:Ar),t.size<=(sub ar t).size
 |.num _,_=>Oq _
 |.name x,ar=>ZaE _
 |.fn x e,ar=>by have:=Zbi e ((x,Wv)::ar);rw[sub,Zb (.fn x e),Zb (.fn x _)];simp[T.parts];omega
 |.rcc f x e,ar=>by have:=Zbi e ((f,Wv)::(x,Wv)::ar);rw[sub,Zb (.rcc f x e),Zb (.rcc f x _)];simp[T.parts];omega
 |.call f a,ar=>by have:=Zbi f ar;have:=Zbi a ar;rw[sub,Zdo,Zdo];omega
 |.iff c t e,ar=>by have:=Zbi c ar;have:=Zbi t ar;have:=Zbi e ar;rw[sub,Zho,Zho];omega
 |.op w f a,ar=>by have:=Zbi f ar;have:=Zbi a ar;rw[sub,ZgI,ZgI];omega
theorem ZuP(w:Wt)(t:T):2 * t.size+wm w<=2 * (fw w t).size:=by
 cases w with
 |arg A ar=>have:=Zbi A (ra ar);rw[fw,Zdo];simp only[wm];omega
 |right o F ar=>have:=Zbi F (ra ar);rw[fw,ZgI];simp only[wm];omega
 |fn V=>rw[fw,Zdo];simp only[wm];omega
 |iff a b ar=>rw[fw,Zho];simp only[wm];omega
 |left o V=>rw[fw,ZgI];simp only[wm];omega
theorem ZjE:∀(ws:List Wt) (t:T),2 * t.size+wms ws<=2 * (rnd ws t).size
 |[],t=>Oq _
 |w::ws,t=>by have h1:=ZjE ws (fw w t);have h2:=ZuP w t;rw[Rw.Zcb];show _<=2 * (rnd ws (fw w t)).size;omega
theorem Zqg(s:Sta):ms s<=2 * (read s).size:=by
 cases s with
 |go E ar ws=>have h1:=ZjE ws (sub (ra ar) E);have h2:=Zbi E (ra ar);show 2 * E.size+wms ws<=2 * (rnd ws (sub (ra ar) E)).size;omega
 |back V ws=>have h1:=ZjE ws (rd V);show wms ws<=2 * (rnd ws (rd V)).size;omega
theorem Zuv{U:Tb}{S:Ev}{h1 h2:Hd}{a b:Ex}{x y:Str}(p:ev U a S h=.ok (.str x) h1)(q:ev U b S h1=.ok (.str y) h2):tst U (.ex (.cmp .NotEq a b)) S h=.ok (!Wy (x=y)) h2:=ZdW ((ZE p q).trans (by rw[Zsw,ZfZ];rfl))
structure Gon(N:Nat)(s s':Sta):Prop where
 ok:Zb9 s'
 b:StN N s'
 r:read s'=read s
 q:∀s2,step s'≠.quiet s2
noncomputable def wrd:Ans->Str
 |.quiet _=>O "quiet"
 |.loud _=>O "loud"
 |.value=>O "value"
 |.stuck=>O "stuck"
theorem ZsR{U:Tb}{S:Ev}{e:Ex}{a:Ans}(p:ev U e S h=.ok a.d h):ev U (.ix e (.cst (.int 0))) S h=.ok (.str (wrd a)) h:=by refine(ZaV p rfl).trans ?_;cases a<;>rfl
noncomputable def vg(sd:D)(o1 o2:Option D):Ev:=[Wu sd,o1,o2]
theorem Zn4(H:Lw P)(n:Nat)(hN2:N<=45000):∀(ds:List D) (s:Sta) (o1 o2:Option D),Zb9 s->StN N s->(read s).size<=120->ms s<ds.length->∃s' S,ZL Wv (.nm 1) (xs2 (P.tbl (n+6)) ZnZ) ds (vg s.d o1 o2) h=.ok (.rt (step s').d,S) h/\Gon N s s'
 |[],s,o1,o2,_,_,_,hl=>by cases hl
 |d::ds,s,o1,o2,ok,b,hz,hl=>by
  have wl:=Rw.ZmM s;have x1:xs1 (P.tbl (n+6)) ZuD (vg s.d (Wu d) o2) h=.ok (.nx,vg s.d (Wu d) (Wu (step s).d)) h:=Zu (Zr (ZtY H.d n hN2 ok b (by omega)) rfl);have t1:tst (P.tbl (n+6)) (.ex (.cmp .NotEq (.ix (.var 2) (.cst (.int 0))) (.cst (.str (O "quiet"))))) (vg s.d (Wu d) (Wu (step s).d)) h=.ok (!Wy (wrd (step s)=O "quiet")) h:=Zuv (ZsR rfl) rfl;by_cases hq:∃s2,step s=.quiet s2
  . obtain⟨s2,hs⟩:=hq;have d2:=Rw.ZsD ok hs;have sim:=Rw.Zig s ok;obtain⟨ok2,b2⟩:=Rw.Zih ok b (.inl hs);rw[hs]at sim x1 t1;have sim:read s2=read s:=sim;rw[Os]at hl;obtain⟨s',S,e,g⟩:=Zn4 H n hN2 ds s2 (Wu d) (Wu (Ans.quiet s2).d) ok2 b2 (by rw[sim];exact hz) (by omega);have w:xs2 (P.tbl (n+6)) ZnZ (vg s.d (Wu d) o2) h=.ok (.nx,vg s2.d (Wu d) (Wu (Ans.quiet s2).d)) h:=(Za x1).trans ((Za ((Zw (Zq t1 (by simp[wrd]))).trans rfl)).trans rfl);exact⟨s',S,(ZdV rfl w).trans e,g.ok,g.b,g.r.trans sim,g.q⟩
  . have nq:wrd (step s)≠O "quiet" := by
     cases hs:step s with
     |quiet s2=>exact absurd ⟨s2,hs⟩ hq
     |loud s2=>show O "loud" ≠ O "quiet";decide
     |value=>decide
     |stuck=>decide
    have w:xs2 (P.tbl (n+6)) ZnZ (vg s.d (Wu d) o2) h=.ok (.rt (step s).d,vg s.d (Wu d) (Wu (step s).d)) h:=(Za x1).trans (Ze ((Zs (Zq t1 (by simp[nq]))).trans (Ze (Zx rfl))));exact⟨s,_,Zot rfl w,ok,b,rfl,fun s2 e=>hq ⟨s2,e⟩⟩
theorem ZjK(H:Lw P)(n:Nat)(hN2:N<=45000)(s:Sta)(ok:Zb9 s)(b:StN N s)(hz:(read s).size<=120)(h:Hd):∃s',run P (n+7) (O "_law_gone_on") [s.d] h=.ok (step s').d h/\Gon N s s':=by have m:=Zqg s;obtain⟨s',S,e,g⟩:=Zn4 H n (h:=h) hN2 (ZC 0 400) s Wv Wv ok b hz (by rw[ZC,Yu,List.length_range];omega);refine⟨s',?_,g⟩;rw[Zc H.law_gone_on (by rfl)];have ei:evi (P.tbl (n+6)) Zv4 (vg s.d Wv Wv) h=.ok ⟨Wv,ZC 0 400⟩ h:=rfl;have x1:xs1 (P.tbl (n+6)) ZcO (vg s.d Wv Wv) h=.ok (.rt (step s').d,S) h:=(Zcx ei).trans e;exact congrArg Zh (Ze (r:=tlS ZdQ) x1)
def Zwp(N:Nat)(w:Str)(a:Ans):Prop:=(w=O "value" /\ a=.value)\/(w=O "stuck" /\ a=.stuck)\/∃s,a=.loud s/\Zb9 s/\StN N s/\(w=O "open" \/ (w=O "wide" /\ 120<(read s).size))
theorem Zen{s s':Sta}(g:Gon N s s'):(step s'=.value/\isV (read s)=Ww)\/(step s'=.stuck/\isV (read s)=Wx/\next (read s)=Wv)\/∃s2,step s'=.loud s2/\isV (read s)=Wx/\next (read s)=Wu (read s2)/\Zb9 s2/\StN N s2:=by
 have sim:=Rw.Zig s' g.ok;have r:=g.r;cases hs:step s' with
 |quiet s2=>exact absurd hs (g.q s2)
 |loud s2=>rw[hs]at sim;obtain⟨⟨nv,_⟩,nx⟩:=sim;rw[r]at nv nx;obtain⟨o,b⟩:=Rw.Zih g.ok g.b (.inr hs);exact .inr (.inr ⟨s2,rfl,nv,nx,o,b⟩)
 |value=>rw[hs]at sim;obtain⟨V,_,vt⟩:=sim;rw[r]at vt;exact .inl ⟨rfl,vt⟩
 |stuck=>rw[hs]at sim;obtain⟨⟨nv,_⟩,nx⟩:=sim;rw[r]at nv nx;exact .inr (.inl ⟨rfl,nv,nx⟩)
noncomputable def vl(ro tp:D)(rk:Nat)(w sd:D)(o5 o6:Option D):Ev:=[Wu ro,Wu tp,Wu (.ref rk),Wu w,Wu sd,o5,o6]
section
variable {ro tp w:D}{rk:Nat}{ts:List T}
theorem ZmV(H:Lw P)(n:Nat)(hN:1<=N)(hN2:N<=45000){s:Sta}{i:Nat}(ok:Zb9 s)(b:StN N s)(hz:(read s).size<=120)(hk:h[rk]? = Wu (.lst (ts.map T.d)))(hi:ts[i]? = Wu (read s))(o6:Option D):∃g s',Gon N s s' /\
 (∀r,xs2 (P.tbl (n+7)) (.cons ZuE (.cons ZsI r)) (vl ro tp rk w s.d (Wu (.int (i:Nat))) o6) h=xs2 (P.tbl (n+7)) r (vl ro tp rk w s.d (Wu (.int (i:Nat))) (Wu (step s').d)) (h++g)) /\
 tst (P.tbl (n+7)) (.ex (.cmp .Lt (.var 5) (.bin .Sub (.blt .len (.cons (.var 2) .nil)) (.cst (.int 1))))) (vl ro tp rk w s.d (Wu (.int (i:Nat))) (Wu (step s').d)) (h++g)=.ok (Wy (i+1<ts.length)) (h++g):=by
 obtain⟨g,e1⟩:=Zlb H.d n hN hN2 s ok b h;obtain⟨s',e2,gon⟩:=ZjK H n hN2 s ok b hz (h++g);rw[rdo,if_pos hz]at e1;have kg:(h++g)[rk]? = Wu (.lst (ts.map T.d)):=keep hk;have ix:ev (P.tbl (n+7)) (.ix (.var 2) (.var 5)) (vl ro tp rk w s.d (Wu (.int (i:Nat))) o6) (h++g)=.ok (read s).d (h++g):=by refine(ZaV (x:=.ref rk) (y:=.int (i:Nat)) rfl rfl).trans ?_;rw[ZD kg,IV.ZbX,On,hi];rfl
 have t1:tst (P.tbl (n+7)) (.ex (.cmp .NotEq (.call (O "_law_read") (.cons (.var 4) .nil)) (.ix (.var 2) (.var 5)))) (vl ro tp rk w s.d (Wu (.int (i:Nat))) o6) h=.ok Wx (h++g):=ZdW (b:=false) ((ZE (Zr e1 rfl) ix).trans (ZrS Ww _ hz _));have x2:xs1 (P.tbl (n+7)) ZsI (vl ro tp rk w s.d (Wu (.int (i:Nat))) o6) (h++g)=.ok (.nx,vl ro tp rk w s.d (Wu (.int (i:Nat))) (Wu (step s').d)) (h++g):=Zu (Zr e2 rfl);refine⟨g,s',gon,fun r=>(Za ((Zw t1).trans rfl)).trans (Za x2),?_⟩;have el:ev (P.tbl (n+7)) (.blt .len (.cons (.var 2) .nil)) (vl ro tp rk w s.d (Wu (.int (i:Nat))) (Wu (step s').d)) (h++g)=.ok (.int (ts.length:Int)) (h++g):=(Zs4 (Zd rfl rfl) (Zn0 kg)).trans (by rw[Yu]);have es:ev (P.tbl (n+7)) (.bin .Sub (.blt .len (.cons (.var 2) .nil)) (.cst (.int 1))) (vl ro tp rk w s.d (Wu (.int (i:Nat))) (Wu (step s').d)) (h++g)=.ok (.int ((ts.length:Int) - 1)) (h++g):=(Zao el rfl).trans rfl;refine Zq (ZuC rfl es) ?_;rw[Bool.eq_iff_iff,decide_eq_true_iff,decide_eq_true_iff];omega
theorem ZmW(H:Lw P)(n:Nat)(hN:1<=N)(hN2:N<=45000){s:Sta}{i:Nat}(ok:Zb9 s)(b:StN N s)(hz:(read s).size<=120)(hk:h[rk]? = Wu (.lst (ts.map T.d)))(hi:ts[i]? = Wu (read s))(hl:i+1=ts.length)(o5 o6:Option D):∃g s',Gon N s s'/\ZL Wv (.nm 5) (xs2 (P.tbl (n+7)) ZgY) [.int (i:Nat)] (vl ro tp rk w s.d o5 o6) h=.ok (.nx,vl ro tp rk w s.d (Wu (.int (i:Nat))) (Wu (step s').d)) (h++g):=by obtain⟨g,s',gon,e,t⟩:=ZmV H n hN hN2 (ro:=ro) (tp:=tp) (w:=w) ok b hz hk hi o6;have x:xs2 (P.tbl (n+7)) ZgY (vl ro tp rk w s.d (Wu (.int (i:Nat))) o6) h=.ok (.nx,vl ro tp rk w s.d (Wu (.int (i:Nat))) (Wu (step s').d)) (h++g):=(e _).trans ((Za ((Zw (Zq t (decide_eq_false (by omega)))).trans rfl)).trans rfl);exact⟨g,s',gon,(ZdV rfl x).trans rfl⟩
theorem ZhS{ts r:List T}{i:Nat}{x:T}(h:ts.drop i=x::r):ts[i]? = Wu x:=by
 have q:(ts.drop i)[0]? = Wu x:=by rw[h];rfl
 simpa using q
theorem Zja{ts:List T}{i:Nat}{x:T}(h:ts.drop i=[x]):i+1=ts.length:=by
 have q:(ts.drop i).length=1:=by rw[h];rfl
 rw[List.length_drop]at q;omega
theorem ZmQ(i:Nat):ZC (i:Int) 1=[.int (i:Nat)]:=by simp[ZC]
theorem Zo9(i k:Nat):ZC (i:Int) (k+1)=.int (i:Nat)::ZC ((i+1:Nat):Int) k:=by unfold ZC;rw[List.range_succ_eq_map,Op,List.map_map];refine congr (congrArg _ (by simp)) (List.map_congr_left fun a _=>?_);simp only[Function.comp_apply];congr 1;omega
theorem ZuH(H:Lw P)(n:Nat)(hN:1<=N)(hN2:N<=45000):∀(m:Nat) (t:T) (s:Sta) (i:Nat) (h:Hd) (o5 o6:Option D),Gn.Cl [] t->t.size<=120->read s=t->Zb9 s->StN N s->h[rk]? = Wu (.lst (ts.map T.d))->ts.drop i=(row m t).1 ->
 ∃a sd o5' g,ZL Wv (.nm 5) (xs2 (P.tbl (n+7)) ZgY) (ZC (i:Int) (row m t).1.length) (vl ro tp rk w s.d o5 o6) h=.ok (.nx,vl ro tp rk w sd o5' (Wu (Ans.d a))) (h++g)/\Zwp N (row m t).2 a:=by
 intro m;induction m with
 |zero=>
  intro t s i h o5 o6 c hz rt ok b hk hd;subst rt;have hi:=ZhS (show ts.drop i=[read s]from hd);have hl:=Zja (show ts.drop i=[read s]from hd);obtain⟨g,s',gon,e⟩:=ZmW H n hN hN2 (ro:=ro) (tp:=tp) (w:=w) ok b hz hk hi hl o5 o6;refine⟨step s',s.d,_,g,by rw[show(row 0 (read s)).1.length=1 from rfl,ZmQ];exact e,?_⟩;rcases Zen gon with ⟨z,v⟩|⟨z,v,q⟩|⟨s2,z,v,q,o2,b2⟩
  . exact .inl ⟨by rw[row];simp only[v,if_true],z⟩
  . exact .inr (.inl ⟨by rw[row];simp only[v,q];rfl,z⟩)
  . exact .inr (.inr ⟨s2,z,o2,b2,.inl (by rw[row];simp only[v,q];rfl)⟩)
 |succ m ih=>
  intro t s i h o5 o6 c hz rt ok b hk hd;subst rt;have last:(row (m+1) (read s)).1=[read s]->∃a sd o5' g,ZL Wv (.nm 5) (xs2 (P.tbl (n+7)) ZgY) (ZC (i:Int) (row (m+1) (read s)).1.length) (vl ro tp rk w s.d o5 o6) h=.ok (.nx,vl ro tp rk w sd o5' (Wu (Ans.d a))) (h++g)/\∃s',a=Rw.step s'/\Gon N s s':=fun one=>by rw[one]at hd ⊢;have hi:=ZhS hd;have hl:=Zja hd;obtain⟨g,s',gon,e⟩:=ZmW H n hN hN2 (ro:=ro) (tp:=tp) (w:=w) ok b hz hk hi hl o5 o6;exact⟨step s',s.d,_,g,by rw[show [read s].length=1 from rfl,ZmQ];exact e,s',rfl,gon⟩
  cases nv:isV (read s)with
  |true=>
   have er:row (m+1) (read s)=([read s],O "value"):=by rw[row];simp only[nv,if_true]
   obtain⟨a,sd,o5',g,e,s',rfl,gon⟩:=last (by rw[er]);refine⟨_,sd,o5',g,e,?_⟩;rw[er];rcases Zen gon with ⟨z,v⟩|⟨z,v,q⟩|⟨s2,z,v,q,o2,b2⟩
   . exact .inl ⟨rfl,z⟩
   . rw[nv]at v;cases v
   . rw[nv]at v;cases v
  |false=>
   cases hn:next (read s)with
   |none=>
    have er:row (m+1) (read s)=([read s],O "stuck"):=by rw[row];simp only[nv,hn];rfl
    obtain⟨a,sd,o5',g,e,s',rfl,gon⟩:=last (by rw[er]);refine⟨_,sd,o5',g,e,?_⟩;rw[er];rcases Zen gon with ⟨z,v⟩|⟨z,v,q⟩|⟨s2,z,v,q,o2,b2⟩
    . rw[nv]at v;cases v
    . exact .inr (.inl ⟨rfl,z⟩)
    . rw[hn]at q;cases q
   |some u=>
    by_cases hu:120<u.size
    . have er:row (m+1) (read s)=([read s],O "wide"):=by rw[row];simp only[nv,hn,hu,if_true];rfl
      obtain⟨a,sd,o5',g,e,s',rfl,gon⟩:=last (by rw[er]);refine⟨_,sd,o5',g,e,?_⟩;rw[er];rcases Zen gon with ⟨z,v⟩|⟨z,v,q⟩|⟨s2,z,v,q,o2,b2⟩
      . rw[nv]at v;cases v
      . rw[hn]at q;cases q
      . rw[hn]at q;cases q;exact .inr (.inr ⟨s2,z,o2,b2,.inr ⟨rfl,hu⟩⟩)
    . have er:row (m+1) (read s)=(read s::(row m u).1,(row m u).2):=by rw[row];simp only[nv,hn,hu,if_false];rfl
      rw[er]at hd ⊢;obtain⟨⟨r,rr⟩⟩:Nonempty {r:List T // (row m u).1=u::r}:=by
       cases m with
       |zero=>exact⟨⟨[],rfl⟩⟩
       |succ m=>rw[row];split;exact⟨⟨[],rfl⟩⟩;split;exact⟨⟨[],rfl⟩⟩;split;exact⟨⟨[],rfl⟩⟩;exact⟨⟨_,rfl⟩⟩
      have hi:=ZhS hd;have hd1:ts.drop (i+1)=(row m u).1:=by rw[<- List.drop_drop,hd];rfl
      have hl:i+1<ts.length:=by have:=congrArg List.length hd1;rw[rr,List.length_drop,Os]at this;omega
      obtain⟨g,s',gon,e,t⟩:=ZmV H n hN hN2 (ro:=ro) (tp:=tp) (w:=w) ok b hz hk hi o6;rcases Zen gon with ⟨z,v⟩|⟨z,v,q⟩|⟨s2,z,v,q,o2,b2⟩
      . rw[nv]at v;cases v
      . rw[hn]at q;cases q
      . rw[hn]at q;cases q;rw[z]at e t;obtain⟨a,sd,o5',g2,e2,en⟩:=ih (read s2) s2 (i+1) (h++g) (Wu (.int (i:Nat))) (Wu (Ans.loud s2).d) (ZiF nv c hz hn).1 (by omega) rfl o2 b2 (keep hk) hd1;refine⟨a,sd,o5',g++g2,?_,en⟩;have x:xs2 (P.tbl (n+7)) ZgY (vl ro tp rk w s.d (Wu (.int (i:Nat))) o6) h=.ok (.nx,vl ro tp rk w s2.d (Wu (.int (i:Nat))) (Wu (Ans.loud s2).d)) (h++g):=(e _).trans ((Za ((Zs (Zq t (decide_eq_true hl))).trans ((Za ((Zw (Zq (Zuv rfl rfl) (by decide))).trans rfl)).trans rfl))).trans rfl);rw[Os,Zo9,<- Oz];exact(ZdV rfl x).trans e2
end
section
variable {ro tp:D}{rk:Nat}{sd:D}{o5:Option D}
theorem Zu0{U:Tb}{S:Ev}{a b:Ex}{x y:Str}(p:ev U a S h=.ok (.str x) h)(q:ev U b S h=.ok (.str y) h):ev U (.cmp .Eq a b) S h=.ok (.bl (Wy (x=y))) h:=(ZE p q).trans (by rw[ZjV,ZfZ];rfl)
theorem ZmX(n:Nat){w:Str}{a:Ans}(hw:w=O "value" \/ w=O "stuck")(ha:a.d=.tup [.str w]):xs1 (P.tbl n) Zex (vl ro tp rk (.str w) sd o5 (Wu a.d)) h=.ok (.rt (.bl Ww),vl ro tp rk (.str w) sd o5 (Wu a.d)) h:=by
 have t:tst (P.tbl n) (.ors (.cons (.ex (.cmp .Eq (.var 3) (.cst (.str (O "value"))))) (.one (.ex (.cmp .Eq (.var 3) (.cst (.str (O "stuck")))))))) (vl ro tp rk (.str w) sd o5 (Wu a.d)) h=.ok Ww h:=by
  rcases hw with rfl|rfl
  . exact Zso (Zq (Zer rfl rfl) (by decide))
  . exact Zmc (Zq (Zer rfl rfl) (by decide)) (Zq (Zer rfl rfl) (by decide))
 refine(Zs t).trans (Ze (Zx ((ZE (x:=a.d) (y:=.tup [.str w]) rfl (Za9 (Zd rfl rfl) (by simp))).trans ?_)));rw[ha];exact ZgV (n:=false) (d:=.tup [.str w]) rfl (by simp[D.dp,D.dps])
theorem ZrH(H:Lw P)(n:Nat)(hN:1<=N)(hN2:N<=45000){w:Str}{s:Sta}(ok:Zb9 s)(b:StN N s)(hw:w=O "open" \/ (w=O "wide" /\ 120<(read s).size))(h:Hd):∃g,xs2 (P.tbl (n+7)) (.cons Zex (.cons Zfq .nil)) (vl ro tp rk (.str w) sd o5 (Wu (Ans.loud s).d)) h=.ok (.rt (.bl Ww),vl ro tp rk (.str w) sd o5 (Wu (Ans.loud s).d)) (h++g):=by
 obtain⟨g,e⟩:=Zlb H.d n hN hN2 s ok b h;have t:tst (P.tbl (n+7)) (.ors (.cons (.ex (.cmp .Eq (.var 3) (.cst (.str (O "value"))))) (.one (.ex (.cmp .Eq (.var 3) (.cst (.str (O "stuck")))))))) (vl ro tp rk (.str w) sd o5 (Wu (Ans.loud s).d)) h=.ok Wx h:=by rcases hw with rfl|⟨rfl,_⟩<;>exact Zmc (Zq (Zer rfl rfl) (by decide)) (Zq (Zer rfl rfl) (by decide))
 have e1:ev (P.tbl (n+7)) (.cmp .Eq (.ix (.var 6) (.cst (.int 0))) (.cst (.str (O "loud")))) (vl ro tp rk (.str w) sd o5 (Wu (Ans.loud s).d)) h=.ok (.bl Ww) h:=(Zu0 rfl rfl).trans (by rw[decide_eq_true rfl]);have e2:ev (P.tbl (n+7)) (.cmp .Eq (.var 3) (.cst (.str (O "open")))) (vl ro tp rk (.str w) sd o5 (Wu (Ans.loud s).d)) h=.ok (.bl (Wy (w=O "open"))) h:=Zu0 rfl rfl;have fin:∀g',ev (P.tbl (n+7)) (.ors (.cons (.cmp .Eq (.var 3) (.cst (.str (O "open")))) (.cons (.cmp .Is (.call (O "_law_read") (.cons (.ix (.var 6) (.cst (.int 1))) .nil)) (.cst .non)) .nil))) (vl ro tp rk (.str w) sd o5 (Wu (Ans.loud s).d)) h=.ok (.bl Ww) (h++g')->xs2 (P.tbl (n+7)) (.cons Zex (.cons Zfq .nil)) (vl ro tp rk (.str w) sd o5 (Wu (Ans.loud s).d)) h=.ok (.rt (.bl Ww),vl ro tp rk (.str w) sd o5 (Wu (Ans.loud s).d)) (h++g'):=fun g' q=>by refine(Za ((Zw t).trans rfl)).trans (Ze (Zx ?_));rw[ZqG,ZmA,e1];exact q
 rcases hw with rfl|⟨rfl,lt⟩
 . refine⟨[],fin [] ?_⟩;rw[Zoy,Zi8,e2,decide_eq_true rfl,Yt];rfl
 . refine⟨g,fin g ?_⟩;rw[Zoy,Zi8,e2,decide_eq_false (by decide)];rw[rdo,if_neg (by omega)]at e;exact(ZE (Zr e rfl) rfl).trans (by rw[ZjU];simp)
end
theorem Zr0(H:Lw P)(n:Nat)(zs:List Int){h:Hd}:∃v,run P (n+1) (O "_law_cell_at") [.ro (zs.map .int),.int 0] h=.ok (.int v) h:=by
 rw[Zc H.cell rfl];cases zs with
 |nil=>exact⟨0,by simp[Gn.ZQ,Gn.Zb8,Zn,Zbl,Zh8,seqOf,lstOf]⟩
 |cons z zs=>
  refine⟨z,?_⟩;have:(0:Int)<(zs.length:Int)+1:=by omega
  simp[Gn.ZQ,Gn.Zb8,Zn,Zbl,Zh8,seqOf,lstOf,this]
theorem Zk7:∀(m:Nat) (t:T),(row m t).1.length<=m+1
 |0,t=>by simp[row]
 |m+1,t=>by
  rw[row];split
  . simp
  . split
    . simp
    . split
      . simp
      . rename_i u _ _;have:=Zk7 m u;simp only[Os];omega
theorem Zt1(H:Lw P)(zs:List Int)(hz:zs.length<=63):∃h',run P (250+1) (O "law") [.ro (zs.map .int)] []=.ok (.bl Ww) h':=by
 obtain⟨t,h1,e1,ct,st,dt,_,_⟩:=Gn.ZlY H.d.r.toMkr (N:=249) (by omega) zs 1 [] (by omega);obtain⟨v,e2⟩:=Zr0 H 249 (h:=h1) zs;have e3:=Gn.Zht H.d.r.toMkr 249 v 1 h1 (by decide);obtain⟨M,hM⟩:∃M:Nat,Gn.mixed v 1 % 25=(M:Int):=⟨(Gn.mixed v 1 % 25).toNat,by have:=Int.emod_nonneg (Gn.mixed v 1) (b:=25) (by decide);omega⟩
 have hM2:M<=25:=by have:=Int.emod_lt_of_pos (Gn.mixed v 1) (b:=25) (by decide);omega
 have m1:opB .Mod (.int (Gn.mixed v 1)) (.int 25) h1=.ok (.int (M:Int)) h1:=(ZR (by decide)).trans (by rw[hM]);obtain⟨g1,e4⟩:=ZtZ H.t 242 t M (by omega) ct (by omega) h1;have rt:read (Sta.go t .nil [])=t:=Zbu t (fun x=>rfl);have rl:=Zk7 M t;generalize D.ro (zs.map .int)=ro at *;generalize hh2:h1++DO.lst ((row M t).1.map T.d)::g1=h2 at e4;have k2:h2[h1.length]? = Wu (.lst ((row M t).1.map T.d)):=by rw[<- hh2];simp
 have eb:run P 250 (O "rows_begun") [t.d] h2=.ok (Sta.go t .nil []).d h2:=by rw[Zc H.d.r.rows_begun (by rfl)];exact rfl
 obtain⟨a,sd,o5,g,e5,en⟩:=ZuH H 243 (ro:=ro) (tp:=t.d) (w:=.str (row M t).2) (rk:=h1.length) (ts:=(row M t).1) (N:=t.size) (ZaE t) (by omega) M t (.go t .nil []) 0 h2 Wv Wv ct (by omega) rt ⟨ct,trivial,fun x hx=>by cases hx⟩ ⟨by show 0+2 * t.size<=2 * t.size;omega,trivial,fun x hx=>by cases hx⟩ k2 rfl;have x1:xs1 (P.tbl 250) Zh5 [Wu ro,Wv,Wv,Wv,Wv,Wv,Wv] []=.ok (.nx,[Wu ro,Wu t.d,Wv,Wv,Wv,Wv,Wv]) h1:=Zu (Zr e1 rfl);have x2:xs1 (P.tbl 250) Zfs [Wu ro,Wu t.d,Wv,Wv,Wv,Wv,Wv] h1=.ok (.nx,[Wu ro,Wu t.d,Wu (.ref h1.length),Wu (.str (row M t).2),Wv,Wv,Wv]) h2:=by have q:ev (P.tbl 250) (.call (O "row_of") (.cons (.var 1) (.cons (.bin .Mod (.call (O "_law_mixed") (.cons (.call (O "_law_cell_at") (.cons (.var 0) (.cons (.cst (.int 0)) .nil))) (.cons (.cst (.int 1)) .nil))) (.cst (.int 25))) .nil))) [Wu ro,Wu t.d,Wv,Wv,Wv,Wv,Wv] h1=.ok (.tup [.ref h1.length,.str (row M t).2]) h2:=Zr e4 (Zd rfl (Zd ((Zao (Zr e3 (Zd (Zr e2 rfl) rfl)) rfl).trans m1) rfl));rw[Zfs,Zd4,q];rfl
 have x3:xs1 (P.tbl 250) Zh4 [Wu ro,Wu t.d,Wu (.ref h1.length),Wu (.str (row M t).2),Wv,Wv,Wv] h2=.ok (.nx,vl ro t.d h1.length (.str (row M t).2) (Sta.go t .nil []).d Wv Wv) h2:=Zu (Zr eb rfl);have ei:evi (P.tbl 250) ZsH (vl ro t.d h1.length (.str (row M t).2) (Sta.go t .nil []).d Wv Wv) h2=.ok ⟨Wv,ZC 0 (row M t).1.length⟩ h2:=by
  have q:ev (P.tbl 250) (.blt .len (.cons (.var 2) .nil)) (vl ro t.d h1.length (.str (row M t).2) (Sta.go t .nil []).d Wv Wv) h2=.ok (.int ((row M t).1.length:Nat)) h2:=(Zs4 (Zd rfl rfl) (Zn0 k2)).trans (by rw[Yu]);have s62:Zan ((row M t).1.length:Nat)=Ww:=by simp[Zan];omega
  rw[ZsH,Zlz,q,Zk];simp only[s62,if_true,Int.toNat_natCast]
 have x4:xs1 (P.tbl 250) Zfr (vl ro t.d h1.length (.str (row M t).2) (Sta.go t .nil []).d Wv Wv) h2=.ok (.nx,vl ro t.d h1.length (.str (row M t).2) sd o5 (Wu a.d)) (h2++g):=by rw[Zqm];exact(Zcx ei).trans e5
 rw[Zc H.law (by rfl)];show ∃h',Zh (xs2 (P.tbl 250) (.cons Zh5 (.cons Zfs (.cons Zh4 (.cons Zfr (.cons Zex (.cons Zfq .nil)))))) [Wu ro,Wv,Wv,Wv,Wv,Wv,Wv] [])=_;rw[Za x1,Za x2,Za x3,Za x4];rcases en with ⟨ew,rfl⟩|⟨ew,rfl⟩|⟨s,rfl,ok,b,hw⟩
 . exact⟨h2++g,by rw[Ze (ZmX 250 (.inl ew) (by rw[ew];rfl))];rfl⟩
 . exact⟨h2++g,by rw[Ze (ZmX 250 (.inr ew) (by rw[ew];rfl))];rfl⟩
 . obtain⟨g2,e6⟩:=ZrH H 243 (ro:=ro) (tp:=t.d) (rk:=h1.length) (sd:=sd) (o5:=o5) (ZaE t) (by omega) ok b hw (h2++g);exact⟨h2++g++g2,by rw[e6];rfl⟩
end K25L
end
section
namespace K25
open PySem L2 IV PyProof.Rows
noncomputable abbrev Zai:Fd:=Tm.Zai
noncomputable abbrev ZbC:Fd:=Gn.ZbC
noncomputable abbrev ZbE:Fd:=Tm.ZbE
noncomputable abbrev Zah:Fd:=Tm.Zah
noncomputable abbrev Zdw:Fd:=Tm.Zdw
noncomputable abbrev ZbB:Fd:=Gn.ZbB
noncomputable abbrev Zbt:Fd:=Tm.Zbt
noncomputable abbrev Zaw:Fd:=Rw.Zaw
noncomputable abbrev Zby:Fd:=Rw.Zby
noncomputable abbrev Zcm:Fd:=Rw.Zcm
noncomputable abbrev Zcl:Fd:=Rw.Zcl
noncomputable abbrev Z0:Fd:=Rw.Z0
noncomputable abbrev Zc7:Fd:=Tm.Zc7
noncomputable abbrev Zas:Fd:=Tm.Zas
noncomputable abbrev Zci:Fd:=Tm.Zci
noncomputable abbrev Zav:Fd:=Tm.Zav
noncomputable abbrev Zc6:Fd:=Tm.Zc6
noncomputable abbrev Zz:Fd:=Tm.Zz
noncomputable abbrev ZaJ:Fd:=Tm.ZaJ
noncomputable abbrev Zbx:Fd:=Tm.Zbx
noncomputable abbrev Zc8:Fd:=Tm.Zc8
noncomputable abbrev ZaK:Fd:=Rw.ZaK
noncomputable abbrev Za3:Fd:=Rw.Za3
noncomputable abbrev Zc9:Fd:=Tm.Zc9
noncomputable abbrev ZbA:Fd:=Tm.ZbA
noncomputable abbrev Zcj:Fd:=Tm.Zcj
noncomputable abbrev Zc5:Fd:=Tm.Zc5
noncomputable abbrev ZaG:Fd:=Rw.ZaG
noncomputable abbrev Z2:Fd:=Rw.Z2
noncomputable abbrev Zgf:Fd:=Rw.Zgf
noncomputable abbrev Zcn:Fd:=Rw.Zcn
noncomputable abbrev Zck:Fd:=Rw.Zck
noncomputable abbrev Zbz:Fd:=Rw.Zbz
noncomputable abbrev Za6:Fd:=Rw.Za6
noncomputable abbrev Za7:Fd:=Rw.Za7
noncomputable abbrev Za4:Fd:=Rw.Za4
noncomputable abbrev ZaH:Fd:=Rr.ZaH
noncomputable abbrev Za5:Fd:=Rr.Za5
noncomputable abbrev ZQ:Fd:=Gn.ZQ
noncomputable abbrev ZaB:Fd:=Gn.ZaB
noncomputable abbrev Zat:Fd:=Gn.Zat
noncomputable abbrev ZaA:Fd:=Gn.ZaA
noncomputable abbrev Zaz:Fd:=Gn.Zaz
noncomputable abbrev ZV:Fd:=Gn.ZV
noncomputable abbrev Z4:Fd:=Gn.Z4
noncomputable abbrev ZaI:Fd:=Gn.ZaI
noncomputable abbrev ZaU:Fd:=Gn.ZaU
noncomputable abbrev Z3:Fd:=Gn.Z3
noncomputable abbrev Zau:Fd:=Gn.Zau
noncomputable abbrev Zaf:Fd:=Gn.Zaf
noncomputable abbrev ZbD:Fd:=Rr.ZbD
noncomputable abbrev Zag:Fd:=K25L.Zag
noncomputable abbrev Zg2:Fd:=K25L.Zg2
noncomputable abbrev ZS:Fd:=Tm.ZS
noncomputable def ZeN:Sxs:=(.cons (.iff (.ex (.cmp .Eq (.att [(O "Pen")] (.var 0) (O "used")) (.att [(O "Pen")] (.var 0) (O "most")))) (.cons (.rai (O "Wide") (.cst (.str (O "more places than an expression that is told may have")))) .nil) .nil) (.cons (.auga [(O "Pen")] (.var 0) (O "used") (.cst (.int 1))) .nil))
noncomputable def Zco:Fd:=⟨[(O "self")],[(O "self")],ZeN⟩
noncomputable abbrev ZaL:Fd:=Pw.ZaL
noncomputable abbrev ZaM:Fd:=Tm.ZaM
noncomputable abbrev ZbF:Fd:=Pw.ZbF
noncomputable def tb:List (Str×Fd):=[((O "bound_names"),Zai),((O "parts_of"),ZbC),((O "front_of"),ZbE),((O "count_parts"),Zah),((O "built"),Zdw),((O "places"),ZbB),((O "is_wide"),Zbt),((O "bound_to"),Zaw),((O "thing_of"),Zby),((O "body_of"),Zcm),((O "entered"),Zcl),((O "loud_or_stuck"),Z0),((O "opened"),Zc7),((O "meant_by"),Zas),((O "within"),Zci),((O "is_value"),Zav),((O "put_in"),Zc6),((O "parts_first"),Zz),((O "first_open"),ZaJ),((O "way_down"),Zbx),((O "called"),Zc8),((O "chosen"),ZaK),((O "worked"),Za3),((O "become"),Zc9),((O "put_back"),ZbA),((O "stepped"),Zcj),((O "row_of"),Zc5),((O "rows_begun"),ZaG),((O "left_waiting"),Z2),((O "gone"),Zgf),((O "applied"),Zcn),((O "gone_on"),Zck),((O "reckoned"),Zbz),((O "loud_step"),Za6),((O "back_step"),Za7),((O "rows_step"),Za4),((O "put_around"),ZaH),((O "rows_read"),Za5),((O "_law_cell_at"),ZQ),((O "_law_mixed"),ZaB),((O "_law_next"),Zat),((O "_law_names"),ZaA),((O "_law_there"),Zaz),((O "_law_plain"),ZV),((O "_law_function"),Z4),((O "_law_number"),ZaI),((O "_law_any"),ZaU),((O "_law_width"),Z3),((O "_law_deep"),Zau),((O "_law_program"),Zaf),((O "_law_read"),ZbD),((O "_law_gone_on"),Zag),((O "law"),Zg2)]
noncomputable def ms:List (Str×Fd):=[(mnm (O "Pen") (O "__init__"),ZS),(mnm (O "Pen") (O "take_place"),Zco),(mnm (O "Pen") (O "joined"),ZaL),(mnm (O "Pen") (O "filled"),ZaM),(mnm (O "Pen") (O "told"),ZbF)]
noncomputable def cG:List (Str×D):=[((O "WIDEST"),(.int 120)),((O "AT_ONCE"),(.tup [(.str (O "num")),(.str (O "name")),(.str (O "fn")),(.str (O "rec"))])),((O "VALUES"),(.tup [(.str (O "num")),(.str (O "fn")),(.str (O "rec"))])),((O "BEYOND"),(.int 1000000)),((O "FORMS"),.kd (O "FORMS"))]
noncomputable def cD:List (Str×List (Key×D)):=[((O "FORMS"),[(.inr (O "fn"),(.tup [(.int 1),(.int 1)])),(.inr (O "rec"),(.tup [(.int 2),(.int 1)])),(.inr (O "call"),(.tup [(.int 0),(.int 2)])),(.inr (O "if"),(.tup [(.int 0),(.int 3)])),(.inr (O "+"),(.tup [(.int 0),(.int 2)])),(.inr (O "-"),(.tup [(.int 0),(.int 2)])),(.inr (O "*"),(.tup [(.int 0),(.int 2)])),(.inr (O "<"),(.tup [(.int 0),(.int 2)]))])]
noncomputable def pg:Pg:=⟨tb,fun x=>cG.lookup x,fun x=>cD.lookup x,1000000,ms⟩
noncomputable def kl:Kl:=⟨[(O "Pen")],[(O "most"),(O "used")],[((O "Pen"),(O "take_place")),((O "Pen"),(O "joined")),((O "Pen"),(O "filled")),((O "Pen"),(O "told"))],[(O "Pen")],[(O "Wide")]⟩
noncomputable def top(i:Nat):Stmt:=PySem.Challenge.pw_samestride_k25_whole_rows_in_step.main.body.getD i (.Pass ⟨0,0,0,0⟩)
noncomputable def fs:List Str:=tb.map (·.1)
local macro_rules|`(tactic| wtm_at "chk")=>`(tactic| exact⟨by constructor<;>decide +kernel,fun _ _ _ _ _ _ us hl=>by
 first
 |(have e:=Zty (show us.length=0 from hl);subst e;rfl)
 |(obtain⟨a0,e⟩:=Ztx (show us.length=1 from hl);subst e;rfl)
 |(obtain⟨a0,a1,e⟩:=Ztw (show us.length=2 from hl);subst e;rfl)
 |(obtain⟨a0,a1,a2,e⟩:=Ztv (show us.length=3 from hl);subst e;rfl)
 |(obtain⟨a0,a1,a2,a3,e⟩:=Ztu (show us.length=4 from hl);subst e;rfl)
 |(obtain⟨a0,a1,a2,a3,a4,e⟩:=Ztt (show us.length=5 from hl);subst e;rfl)
 |(obtain⟨a0,a1,a2,a3,a4,a5,e⟩:=Zvq (show us.length=6 from hl);subst e;rfl)
 |(obtain⟨a0,a1,a2,a3,a4,a5,a6,e⟩:=us_7 (show us.length=7 from hl);subst e;rfl),by decide +kernel⟩)
abbrev Ck(n:String)(f:Fd)(s:Stmt):Prop:=Chk kl fs (O n) (O n) f s
noncomputable abbrev ZdH:=top 6
theorem ZgC:Ck "bound_names" Zai ZdH:=by wtm_at "chk"
noncomputable abbrev ZfJ:=top 7
theorem Zkd:Ck "parts_of" ZbC ZfJ:=by wtm_at "chk"
noncomputable abbrev ZfP:=top 8
theorem Zkj:Ck "front_of" ZbE ZfP:=by wtm_at "chk"
noncomputable abbrev ZdG:=top 9
theorem ZgB:Ck "count_parts" Zah ZdG:=by wtm_at "chk"
noncomputable abbrev Zk6:=top 10
theorem Zqp:Ck "built" Zdw Zk6:=by wtm_at "chk"
noncomputable abbrev Zin:=top 11
theorem Zoe:Ck "places" ZbB Zin:=by wtm_at "chk"
noncomputable abbrev ZgN:=top 12
theorem Zmq:Ck "is_wide" Zbt ZgN:=by wtm_at "chk"
noncomputable abbrev ZfQ:=top 15
theorem Zkk:Ck "bound_to" Zaw ZfQ:=by wtm_at "chk"
noncomputable abbrev ZfG:=top 16
theorem Zka:Ck "thing_of" Zby ZfG:=by wtm_at "chk"
noncomputable abbrev ZgQ:=top 17
theorem Zmt:Ck "body_of" Zcm ZgQ:=by wtm_at "chk"
noncomputable abbrev ZgP:=top 18
theorem Zms:Ck "entered" Zcl ZgP:=by wtm_at "chk"
noncomputable abbrev ZcG:=top 19
theorem Zfb:Ck "loud_or_stuck" Z0 ZcG:=by wtm_at "chk"
noncomputable abbrev Zio:=top 20
theorem Zof:Ck "opened" Zc7 Zio:=by wtm_at "chk"
noncomputable abbrev ZfK:=top 21
theorem Zke:Ck "meant_by" Zas ZfK:=by wtm_at "chk"
noncomputable abbrev Zik:=top 22
theorem Zob:Ck "within" Zci Zik:=by wtm_at "chk"
noncomputable abbrev ZfO:=top 27
theorem Zki:Ck "is_value" Zav ZfO:=by wtm_at "chk"
noncomputable abbrev Zim:=top 28
theorem Zod:Ck "put_in" Zc6 Zim:=by wtm_at "chk"
noncomputable abbrev ZdC:=top 29
theorem Zgx:Ck "parts_first" Zz ZdC:=by wtm_at "chk"
noncomputable abbrev Zea:=top 30
theorem ZhH:Ck "first_open" ZaJ Zea:=by wtm_at "chk"
noncomputable abbrev ZfF:=top 31
theorem Zj9:Ck "way_down" Zbx ZfF:=by wtm_at "chk"
noncomputable abbrev Ziq:=top 32
theorem Zoh:Ck "called" Zc8 Ziq:=by wtm_at "chk"
noncomputable abbrev Zip:=top 33
theorem Zog:Ck "chosen" ZaK Zip:=by wtm_at "chk"
noncomputable abbrev Zij:=top 34
theorem Zoa:Ck "worked" Za3 Zij:=by wtm_at "chk"
noncomputable abbrev Zir:=top 35
theorem Zoi:Ck "become" Zc9 Zir:=by wtm_at "chk"
noncomputable abbrev ZfI:=top 36
theorem Zkc:Ck "put_back" ZbA ZfI:=by wtm_at "chk"
noncomputable abbrev ZgL:=top 37
theorem Zmo:Ck "stepped" Zcj ZgL:=by wtm_at "chk"
noncomputable abbrev Zil:=top 38
theorem Zoc:Ck "row_of" Zc5 Zil:=by wtm_at "chk"
noncomputable abbrev Zd7:=top 40
theorem ZhE:Ck "rows_begun" ZaG Zd7:=by wtm_at "chk"
noncomputable abbrev ZcS:=top 41
theorem Zf5:Ck "left_waiting" Z2 ZcS:=by wtm_at "chk"
noncomputable abbrev Zm8:=top 42
theorem ZsQ:Ck "gone" Zgf Zm8:=by wtm_at "chk"
noncomputable abbrev ZgR:=top 43
theorem Zmu:Ck "applied" Zcn ZgR:=by wtm_at "chk"
noncomputable abbrev ZgO:=top 44
theorem Zmr:Ck "gone_on" Zck ZgO:=by wtm_at "chk"
noncomputable abbrev ZfH:=top 45
theorem Zkb:Ck "reckoned" Zbz ZfH:=by wtm_at "chk"
noncomputable abbrev ZeS:=top 46
theorem ZiO:Ck "loud_step" Za6 ZeS:=by wtm_at "chk"
noncomputable abbrev ZeY:=top 47
theorem ZiU:Ck "back_step" Za7 ZeY:=by wtm_at "chk"
noncomputable abbrev ZeQ:=top 48
theorem ZiM:Ck "rows_step" Za4 ZeQ:=by wtm_at "chk"
noncomputable abbrev Zd8:=top 49
theorem ZhF:Ck "put_around" ZaH Zd8:=by wtm_at "chk"
noncomputable abbrev ZeR:=top 50
theorem ZiN:Ck "rows_read" Za5 ZeR:=by wtm_at "chk"
noncomputable abbrev ZdF:=top 52
theorem ZgA:Ck "_law_cell_at" ZQ ZdF:=by wtm_at "chk"
noncomputable abbrev ZeX:=top 53
theorem ZiT:Ck "_law_mixed" ZaB ZeX:=by wtm_at "chk"
noncomputable abbrev ZfM:=top 54
theorem Zkg:Ck "_law_next" Zat ZfM:=by wtm_at "chk"
noncomputable abbrev ZeW:=top 55
theorem ZiS:Ck "_law_names" ZaA ZeW:=by wtm_at "chk"
noncomputable abbrev ZeU:=top 56
theorem ZiQ:Ck "_law_there" Zaz ZeU:=by wtm_at "chk"
noncomputable abbrev ZeV:=top 57
theorem ZiR:Ck "_law_plain" ZV ZeV:=by wtm_at "chk"
noncomputable abbrev ZcT:=top 58
theorem Zf6:Ck "_law_function" Z4 ZcT:=by wtm_at "chk"
noncomputable abbrev Zd9:=top 59
theorem ZhG:Ck "_law_number" ZaI Zd9:=by wtm_at "chk"
noncomputable abbrev ZgM:=top 60
theorem Zmp:Ck "_law_any" ZaU ZgM:=by wtm_at "chk"
noncomputable abbrev ZeT:=top 61
theorem ZiP:Ck "_law_width" Z3 ZeT:=by wtm_at "chk"
noncomputable abbrev ZfN:=top 62
theorem Zkh:Ck "_law_deep" Zau ZfN:=by wtm_at "chk"
noncomputable abbrev ZdD:=top 63
theorem Zgy:Ck "_law_program" Zaf ZdD:=by wtm_at "chk"
noncomputable abbrev ZfL:=top 64
theorem Zkf:Ck "_law_read" ZbD ZfL:=by wtm_at "chk"
noncomputable abbrev ZdE:=top 65
theorem Zgz:Ck "_law_gone_on" Zag ZdE:=by wtm_at "chk"
noncomputable abbrev Zq7:=top 66
theorem ZuJ:Ck "law" Zg2 Zq7:=by wtm_at "chk"
noncomputable abbrev ZcU:Stmt:=inClass (top 23) 0
theorem Zf7:Chk kl fs (O "__init__") (O "Pen.__init__") ZS ZcU:=by wtm_at "chk"
noncomputable abbrev Zce:Stmt:=inClass (top 23) 1
theorem ZeJ:Chk kl fs (O "take_place") (O "Pen.take_place") Zco Zce:=by wtm_at "chk"
noncomputable abbrev Zeb:Stmt:=inClass (top 23) 2
theorem ZhI:Chk kl fs (O "joined") (O "Pen.joined") ZaL Zeb:=by wtm_at "chk"
noncomputable abbrev Zec:Stmt:=inClass (top 23) 3
theorem ZhJ:Chk kl fs (O "filled") (O "Pen.filled") ZaM Zec:=by wtm_at "chk"
noncomputable abbrev ZfR:Stmt:=inClass (top 23) 4
theorem Zkl:Chk kl fs (O "told") (O "Pen.told") ZbF ZfR:=by wtm_at "chk"
end K25
end
section
namespace K25
open PySem L2 IV
theorem ZsK:pg.tb.lookup (O "law")=Wu Zg2:=by kernel_rfl
theorem mkr:Gn.Mkr pg:=⟨by kernel_rfl,by kernel_rfl,by kernel_rfl,by kernel_rfl,by kernel_rfl,.same (by kernel_rfl),.same (by kernel_rfl),.same (by kernel_rfl),by kernel_rfl,by kernel_rfl,.same (by kernel_rfl)⟩
theorem tre:Gn.Tre pg:=by
 constructor
 all_goals (first|kernel_rfl|decide)
theorem wid:Tm.Wid pg:=⟨.str (O "more places than an expression that is told may have"),by kernel_rfl⟩
theorem trb:Tm.Trb pg:=by
 constructor
 case toTre=>exact tre
 case tk=>obtain⟨m,e⟩:=wid;exact⟨_,e⟩
 all_goals kernel_rfl
theorem trm:Tm.Trm pg:=by
 constructor;exact trb
 all_goals kernel_rfl
theorem trw:Tm.Trw pg:=by
 constructor;exact trm
 all_goals kernel_rfl
theorem pnw:Pw.Pnw pg:=by
 constructor;exact trb;exact wid
 all_goals kernel_rfl
theorem gen:Gn.Gen pg:=⟨tre,mkr⟩
theorem thg:Rw.Thg pg:=by
 constructor;exact gen
 all_goals kernel_rfl
theorem row:Rw.Row0 pg:=by
 constructor;exact thg
 all_goals kernel_rfl
theorem rrd:Rr.Rrd pg:=by
 constructor;exact row;exact pnw
 all_goals kernel_rfl
theorem lw:K25L.Lw pg:=by
 constructor;exact rrd;exact trw
 all_goals kernel_rfl
theorem runs:∀ns:List Int,ns.length<=63->∃h',run pg (250+1) (O "law") [.ro (ns.map .int)] []=.ok (.bl Ww) h':=fun ns hl=>K25L.Zt1 lw ns hl
end K25
end
section
set_option maxHeartbeats 4000000
namespace K25
open PySem L2 IV PyProof.Rows
theorem md{Pr:Yh}{w:Yg}{K:Yk}{h:YG}{mg:Str->Option Yj}{ca1:Yi}{xa1:Yi}{t1:Tok}{q3:Yi}{r4:Option Yi}{n5:Nat}{v6:Array (Option Yj)}{t8:Tok}{t9:Tok}{t10:Tok}{t11:Tok}{q13:Yi}{r14:Option Yi}{n15:Nat}{v16:Array (Option Yj)}{t18:Tok}{t19:Tok}{t20:Tok}{t22:Tok}{q24:Yi}{e25:Nat}{j29:Int}{t30:Tok}{q31:Yi}{r32:Option Yi}{n33:Nat}{v34:Array (Option Yj)}{t36:Tok}{t37:Tok}{j38:Int}{t39:Tok}{q40:Yi}{r41:Option Yi}{n42:Nat}{v43:Array (Option Yj)}{t45:Tok}{t46:Tok}{j47:Int}{t48:Tok}{q49:Yi}{r50:Option Yi}{n51:Nat}{v52:Array (Option Yj)}{t54:Tok}{t55:Tok}{j56:Int}{t57:Tok}{q58:Yi}{r59:Option Yi}{n60:Nat}{v61:Array (Option Yj)}{t63:Tok}{t64:Tok}{j65:Int}{t66:Tok}{q67:Yi}{r68:Option Yi}{n69:Nat}{v70:Array (Option Yj)}{t72:Tok}{t73:Tok}{j74:Int}{t75:Tok}{q76:Yi}{r77:Option Yi}{n78:Nat}{v79:Array (Option Yj)}{t81:Tok}{t82:Tok}{j83:Int}{t84:Tok}{q85:Yi}{r86:Option Yi}{n87:Nat}{v88:Array (Option Yj)}{t90:Tok}{t91:Tok}{j92:Int}{t93:Tok}{q94:Yi}{r95:Option Yi}{n96:Nat}{v97:Array (Option Yj)}{t99:Tok}{t100:Tok}(X:K.In h)(G:h.Ns Yd mg)
   (tb0:Zfx K=Ww)
   (d1:ZA K (O "bound_names") ZdH)
   (d2:ZA K (O "parts_of") ZfJ)
   (d3:ZA K (O "front_of") ZfP)
   (d4:ZA K (O "count_parts") ZdG)
   (d5:ZA K (O "built") Zk6)
   (d6:ZA K (O "places") Zin)
   (d7:ZA K (O "is_wide") ZgN)
   (d8:ZA K (O "bound_to") ZfQ)
   (d9:ZA K (O "thing_of") ZfG)
   (d10:ZA K (O "body_of") ZgQ)
   (d11:ZA K (O "entered") ZgP)
   (d12:ZA K (O "loud_or_stuck") ZcG)
   (d13:ZA K (O "opened") Zio)
   (d14:ZA K (O "meant_by") ZfK)
   (d15:ZA K (O "within") Zik)
   (d16:ZA K (O "is_value") ZfO)
   (d17:ZA K (O "put_in") Zim)
   (d18:ZA K (O "parts_first") ZdC)
   (d19:ZA K (O "first_open") Zea)
   (d20:ZA K (O "way_down") ZfF)
   (d21:ZA K (O "called") Ziq)
   (d22:ZA K (O "chosen") Zip)
   (d23:ZA K (O "worked") Zij)
   (d24:ZA K (O "become") Zir)
   (d25:ZA K (O "put_back") ZfI)
   (d26:ZA K (O "stepped") ZgL)
   (d27:ZA K (O "row_of") Zil)
   (d28:ZA K (O "rows_begun") Zd7)
   (d29:ZA K (O "left_waiting") ZcS)
   (d30:ZA K (O "gone") Zm8)
   (d31:ZA K (O "applied") ZgR)
   (d32:ZA K (O "gone_on") ZgO)
   (d33:ZA K (O "reckoned") ZfH)
   (d34:ZA K (O "loud_step") ZeS)
   (d35:ZA K (O "back_step") ZeY)
   (d36:ZA K (O "rows_step") ZeQ)
   (d37:ZA K (O "put_around") Zd8)
   (d38:ZA K (O "rows_read") ZeR)
   (d39:ZA K (O "_law_cell_at") ZdF)
   (d40:ZA K (O "_law_mixed") ZeX)
   (d41:ZA K (O "_law_next") ZfM)
   (d42:ZA K (O "_law_names") ZeW)
   (d43:ZA K (O "_law_there") ZeU)
   (d44:ZA K (O "_law_plain") ZeV)
   (d45:ZA K (O "_law_function") ZcT)
   (d46:ZA K (O "_law_number") Zd9)
   (d47:ZA K (O "_law_any") ZgM)
   (d48:ZA K (O "_law_width") ZeT)
   (d49:ZA K (O "_law_deep") ZfN)
   (d50:ZA K (O "_law_program") ZdD)
   (d51:ZA K (O "_law_read") ZfL)
   (d52:ZA K (O "_law_gone_on") ZdE)
   (d53:ZA K (O "law") Zq7)
   (y1a:Yl K Yd (O "Pen")=Wu (Wu (.ref ca1))) (y1b:PySem.W.plainGet K ca1 Str.empty=Ww) (y1c:PySem.W.hasDictIn K ca1=Ww) (y1d:PySem.W.plainOver K ca1=Ww) (y1e:YJ K (.ref ca1) "__setattr__" = Wu (Wu (.builtin "object.__setattr__")))
   (y1n1:YJ K (.ref ca1) (O "most")=Wu Wv)
   (y1n2:YJ K (.ref ca1) (O "used")=Wu Wv)
   (y1m:PySem.W.makesIn K ca1=Ww) (y1k:Wf K (.ref ca1)=Ww)
   (u1:ZkS K ca1 (O "__init__") (O "Pen.__init__") ZcU)
   (u2:ZkS K ca1 (O "take_place") (O "Pen.take_place") Zce)
   (u3:ZkS K ca1 (O "joined") (O "Pen.joined") Zeb)
   (u4:ZkS K ca1 (O "filled") (O "Pen.filled") Zec)
   (u5:ZkS K ca1 (O "told") (O "Pen.told") ZfR)
   (o1a:Yl K Yd (O "Wide")=Wu (Wu (.ref xa1))) (o1b:PySem.W.typeIn K (.ref xa1)=Wu (.type "type")) (o1c:PySem.W.isClsIn K xa1=Ww) (o1d:YV K (.ref xa1) (.type "BaseException")=Wu Ww) (o1e:PySem.W.excIn K xa1 [.type "ValueError",.type "Exception",.type "BaseException",.type "object"] "ValueError.__new__" = Ww) (o1f:YV K (.ref xa1) (.ref xa1)=Wu Ww)
   (z1:Yl K Yd (O "len")=Wu Wv)
   (z2:Yl K Yd (O "isinstance")=Wu Wv)
   (z3:Yl K Yd (O "int")=Wu Wv)
   (z4:Yl K Yd (O "tuple")=Wu Wv)
   (z5:Yl K Yd (O "list")=Wu Wv)
   (z6:Yl K Yd (O "sum")=Wu Wv)
   (z7:Yl K Yd (O "all")=Wu Wv)
   (z8:Yl K Yd (O "sorted")=Wu Wv)
   (z9:Yl K Yd (O "range")=Wu Wv)
   (z10:Yl K Yd (O "enumerate")=Wu Wv)
   (z11:Yl K Yd (O "reversed")=Wu Wv)
   (z12:Yl K Yd (O "str")=Wu Wv)
   (z13:Yl K Yd (O "bool")=Wu Wv)
   (z14:Yl K Yd (O "max")=Wu Wv)
   (g2:Yl K Yd (O "WIDEST")=Wu (Wu (.int 120 t1)))
   (h7:K.lookup q3=Wu ⟨.type "tuple",r4,.seq #[.str (O "num") t8,.str (O "name") t9,.str (O "fn") t10,.str (O "rec") t11] n5,v6⟩)
   (g12:Yl K Yd (O "AT_ONCE")=Wu (Wu (.ref q3)))
   (h17:K.lookup q13=Wu ⟨.type "tuple",r14,.seq #[.str (O "num") t18,.str (O "fn") t19,.str (O "rec") t20] n15,v16⟩)
   (g21:Yl K Yd (O "VALUES")=Wu (Wu (.ref q13)))
   (g23:Yl K Yd (O "BEYOND")=Wu (Wu (.int 1000000 t22)))
   (h35:K.lookup q31=Wu ⟨.type "tuple",r32,.seq #[.int 1 t36,.int 1 t37] n33,v34⟩)
   (h44:K.lookup q40=Wu ⟨.type "tuple",r41,.seq #[.int 2 t45,.int 1 t46] n42,v43⟩)
   (h53:K.lookup q49=Wu ⟨.type "tuple",r50,.seq #[.int 0 t54,.int 2 t55] n51,v52⟩)
   (h62:K.lookup q58=Wu ⟨.type "tuple",r59,.seq #[.int 0 t63,.int 3 t64] n60,v61⟩)
   (h71:K.lookup q67=Wu ⟨.type "tuple",r68,.seq #[.int 0 t72,.int 2 t73] n69,v70⟩)
   (h80:K.lookup q76=Wu ⟨.type "tuple",r77,.seq #[.int 0 t81,.int 2 t82] n78,v79⟩)
   (h89:K.lookup q85=Wu ⟨.type "tuple",r86,.seq #[.int 0 t90,.int 2 t91] n87,v88⟩)
   (h98:K.lookup q94=Wu ⟨.type "tuple",r95,.seq #[.int 0 t99,.int 2 t100] n96,v97⟩)
   (g26:Yl K Yd (O "FORMS")=Wu (Wu (.ref q24)))
   (h27:K.lookup q24=Wu ⟨.type "dict",Wv,.dict #[⟨j29,.str (O "fn") t30,.ref q31⟩,⟨j38,.str (O "rec") t39,.ref q40⟩,⟨j47,.str (O "call") t48,.ref q49⟩,⟨j56,.str (O "if") t57,.ref q58⟩,⟨j65,.str (O "+") t66,.ref q67⟩,⟨j74,.str (O "-") t75,.ref q76⟩,⟨j83,.str (O "*") t84,.ref q85⟩,⟨j92,.str (O "<") t93,.ref q94⟩] e25,#[]⟩)
   (x101:j29=hashStr w (O "fn"))
   (x102:j38=hashStr w (O "rec"))
   (x103:j47=hashStr w (O "call"))
   (x104:j56=hashStr w (O "if"))
   (x105:j65=hashStr w (O "+"))
   (x106:j74=hashStr w (O "-"))
   (x107:j83=hashStr w (O "*"))
   (x108:j92=hashStr w (O "<"))
   (w28:(q24==Ye)=Wx):Md Pr w K mg pg kl:=by
 have D_FORMS:∃ a kvs',mg (O "FORMS")=Wu (.ref a)/\DkK Pr w K a kvs'/\∀ H B,RKs ⟨K,mg⟩ H B (cD.lookup (O "FORMS") |>.getD []) kvs':=by
   refine ⟨q24,[(YE (O "fn"),(.ref q31)),(YE (O "rec"),(.ref q40)),(YE (O "call"),(.ref q49)),(YE (O "if"),(.ref q58)),(YE (O "+"),(.ref q67)),(YE (O "-"),(.ref q76)),(YE (O "*"),(.ref q85)),(YE (O "<"),(.ref q94))],YO X G g26,⟨_,_,_,[(YE (O "fn"),.ref q31),(YE (O "rec"),.ref q40),(YE (O "call"),.ref q49),(YE (O "if"),.ref q58),(YE (O "+"),.ref q67),(YE (O "-"),.ref q76),(YE (O "*"),.ref q85),(YE (O "<"),.ref q94)],h27,⟨rfl,rfl,rfl⟩,rfl,?_,(.cons (Zt (O "fn") t30) rfl (.cons (Zt (O "rec") t39) rfl (.cons (Zt (O "call") t48) rfl (.cons (Zt (O "if") t57) rfl (.cons (Zt (O "+") t66) rfl (.cons (Zt (O "-") t75) rfl (.cons (Zt (O "*") t84) rfl (.cons (Zt (O "<") t93) rfl .nil)))))))),(by show ([YE (O "fn"),YE (O "rec"),YE (O "call"),YE (O "if"),YE (O "+"),YE (O "-"),YE (O "*"),YE (O "<")]:List Key).Nodup;decide +kernel),(.cons ⟨rfl,Zae⟩ (.cons ⟨rfl,Zae⟩ (.cons ⟨rfl,Zae⟩ (.cons ⟨rfl,Zae⟩ (.cons ⟨rfl,Zae⟩ (.cons ⟨rfl,Zae⟩ (.cons ⟨rfl,Zae⟩ (.cons ⟨rfl,Zae⟩ .nil)))))))),(by show 8<=sizeLine;decide),w28⟩,fun _ _=>(.cons (.tup (ZdB (vs:=[(.int 1),(.int 1)]) h35 (by show 2<=sizeLine;decide) (.cons Zy (.cons Zy .nil))) (.cons (.int _) (.cons (.int _) .nil))) (.cons (.tup (ZdB (vs:=[(.int 2),(.int 1)]) h44 (by show 2<=sizeLine;decide) (.cons Zy (.cons Zy .nil))) (.cons (.int _) (.cons (.int _) .nil))) (.cons (.tup (ZdB (vs:=[(.int 0),(.int 2)]) h53 (by show 2<=sizeLine;decide) (.cons Zy (.cons Zy .nil))) (.cons (.int _) (.cons (.int _) .nil))) (.cons (.tup (ZdB (vs:=[(.int 0),(.int 3)]) h62 (by show 2<=sizeLine;decide) (.cons Zy (.cons Zy .nil))) (.cons (.int _) (.cons (.int _) .nil))) (.cons (.tup (ZdB (vs:=[(.int 0),(.int 2)]) h71 (by show 2<=sizeLine;decide) (.cons Zy (.cons Zy .nil))) (.cons (.int _) (.cons (.int _) .nil))) (.cons (.tup (ZdB (vs:=[(.int 0),(.int 2)]) h80 (by show 2<=sizeLine;decide) (.cons Zy (.cons Zy .nil))) (.cons (.int _) (.cons (.int _) .nil))) (.cons (.tup (ZdB (vs:=[(.int 0),(.int 2)]) h89 (by show 2<=sizeLine;decide) (.cons Zy (.cons Zy .nil))) (.cons (.int _) (.cons (.int _) .nil))) (.cons (.tup (ZdB (vs:=[(.int 0),(.int 2)]) h98 (by show 2<=sizeLine;decide) (.cons Zy (.cons Zy .nil))) (.cons (.int _) (.cons (.int _) .nil))) .nil))))))))⟩;exact (by
       intro e he;simp only [List.mem_toArray,O2,List.not_mem_nil,or_false] at he;rcases he with rfl|rfl|rfl|rfl|rfl|rfl|rfl|rfl
       . exact ⟨YE (O "fn"),Zt (O "fn") t30,x101⟩
       . exact ⟨YE (O "rec"),Zt (O "rec") t39,x102⟩
       . exact ⟨YE (O "call"),Zt (O "call") t48,x103⟩
       . exact ⟨YE (O "if"),Zt (O "if") t57,x104⟩
       . exact ⟨YE (O "+"),Zt (O "+") t66,x105⟩
       . exact ⟨YE (O "-"),Zt (O "-") t75,x106⟩
       . exact ⟨YE (O "*"),Zt (O "*") t84,x107⟩
       . exact ⟨YE (O "<"),Zt (O "<") t93,x108⟩
     )
 refine ⟨tb0,fun x kvs hx=>?_,fun x d hx=>?_,?_,fun x fd hx=>?_,?_,?_,?_,?_⟩
 . have hm:(x,kvs)∈cD:=lookup_mem hx;have e:(x,kvs)=((O "FORMS"),(cD.lookup (O "FORMS") |>.getD [])):=by
     simp only [cD,O2,List.not_mem_nil,or_false] at hm;exact hm
   cases e;exact D_FORMS
 . have hm:(x,d)∈cG:=lookup_mem hx;have all:All (fun p:Str×D=>∃ v u,mg p.1=Wu u/\RelV v u/\∀ H B,RD ⟨K,mg⟩ H B p.2 v) cG:=⟨⟨(.int 120),_,YO X G g2,Zy,fun _ _=>(.int _)⟩,⟨(.ref q3),_,YO X G g12,Zae,fun _ _=>(.tup (ZdB (vs:=[(.str (O "num")),(.str (O "name")),(.str (O "fn")),(.str (O "rec"))]) h7 (by show 4<=sizeLine;decide) (.cons Zbw (.cons Zbw (.cons Zbw (.cons Zbw .nil))))) (.cons (.str _ (by decide +kernel)) (.cons (.str _ (by decide +kernel)) (.cons (.str _ (by decide +kernel)) (.cons (.str _ (by decide +kernel)) .nil)))))⟩,⟨(.ref q13),_,YO X G g21,Zae,fun _ _=>(.tup (ZdB (vs:=[(.str (O "num")),(.str (O "fn")),(.str (O "rec"))]) h17 (by show 3<=sizeLine;decide) (.cons Zbw (.cons Zbw (.cons Zbw .nil)))) (.cons (.str _ (by decide +kernel)) (.cons (.str _ (by decide +kernel)) (.cons (.str _ (by decide +kernel)) .nil))))⟩,⟨(.int 1000000),_,YO X G g23,Zy,fun _ _=>(.int _)⟩,⟨.ref q24,_,YO X G g26,rfl,fun _ _=>.kd (YO X G g26)⟩,trivial⟩;exact all.mem _ hm
 . have all:All (fun x:Str=>mg x=Wv) ["len", "isinstance", "int", "tuple", "list", "sum", "all", "sorted", "range", "enumerate", "reversed", "str", "bool", "max"]:=⟨Ym X G z1,Ym X G z2,Ym X G z3,Ym X G z4,Ym X G z5,Ym X G z6,Ym X G z7,Ym X G z8,Ym X G z9,Ym X G z10,Ym X G z11,Ym X G z12,Ym X G z13,Ym X G z14,trivial⟩
   exact all.mem
 . have hm:(x,fd)∈tb:=lookup_mem hx;have all:All (fun p:Str×Fd=>∃ st f fdd,DefOk K mg kl fs p.1 p.2 st f fdd) tb:=⟨Zf X G d1 ZgC,Zf X G d2 Zkd,Zf X G d3 Zkj,Zf X G d4 ZgB,Zf X G d5 Zqp,Zf X G d6 Zoe,Zf X G d7 Zmq,Zf X G d8 Zkk,Zf X G d9 Zka,Zf X G d10 Zmt,Zf X G d11 Zms,Zf X G d12 Zfb,Zf X G d13 Zof,Zf X G d14 Zke,Zf X G d15 Zob,Zf X G d16 Zki,Zf X G d17 Zod,Zf X G d18 Zgx,Zf X G d19 ZhH,Zf X G d20 Zj9,Zf X G d21 Zoh,Zf X G d22 Zog,Zf X G d23 Zoa,Zf X G d24 Zoi,Zf X G d25 Zkc,Zf X G d26 Zmo,Zf X G d27 Zoc,Zf X G d28 ZhE,Zf X G d29 Zf5,Zf X G d30 ZsQ,Zf X G d31 Zmu,Zf X G d32 Zmr,Zf X G d33 Zkb,Zf X G d34 ZiO,Zf X G d35 ZiU,Zf X G d36 ZiM,Zf X G d37 ZhF,Zf X G d38 ZiN,Zf X G d39 ZgA,Zf X G d40 ZiT,Zf X G d41 Zkg,Zf X G d42 ZiS,Zf X G d43 ZiQ,Zf X G d44 ZiR,Zf X G d45 Zf6,Zf X G d46 ZhG,Zf X G d47 Zmp,Zf X G d48 ZiP,Zf X G d49 Zkh,Zf X G d50 Zgy,Zf X G d51 Zkf,Zf X G d52 Zgz,Zf X G d53 ZuJ,trivial⟩
   exact all.mem _ hm
 . have all:All (fun C=>∃ a,mg C=Wu (.ref a)/\Cls K a/\∀ f∈kl.ats,ZaQ K a f) kl.cs:=⟨⟨ca1,YO X G y1a,⟨y1b,y1c,y1d,y1e⟩,(show All (fun f=>ZaQ K ca1 f) kl.ats from ⟨y1n1,y1n2,trivial⟩).mem⟩,trivial⟩
   exact all.mem
 . have all:All (fun p:Str×Str=>∃ a f fdd fd st q,mg p.1=Wu (.ref a)/\Cls K a/\Meth K a p.2 f/\pg.look (mnm p.1 p.2)=Wu fd/\BodyOk K kl (pg.tb.map (·.1)) p.2 q fd st f fdd) kl.ms:=⟨Zfm X G y1a ⟨y1b,y1c,y1d,y1e⟩ u2 ZeJ (by kernel_rfl),Zfm X G y1a ⟨y1b,y1c,y1d,y1e⟩ u3 ZhI (by kernel_rfl),Zfm X G y1a ⟨y1b,y1c,y1d,y1e⟩ u4 ZhJ (by kernel_rfl),Zfm X G y1a ⟨y1b,y1c,y1d,y1e⟩ u5 Zkl (by kernel_rfl),trivial⟩
   exact all.mem
 . have all:All (fun C:Str=>∃ a f fdd fd st q,mg C=Wu (.ref a)/\Mk K a f/\pg.look (mnm C (O "__init__"))=Wu fd/\BodyOk K kl (pg.tb.map (·.1)) (O "__init__") q fd st f fdd) kl.is:=⟨ZsE X G y1a y1m y1k u1 Zf7 (by kernel_rfl),trivial⟩
   exact all.mem
 . have all:All (fun C:Str=>∃ a,mg C=Wu (.ref a)/\XOk K a) kl.xs:=⟨⟨xa1,YO X G o1a,⟨⟨o1b,L2.isSome_of o1c,o1d⟩,o1e,o1f⟩⟩,trivial⟩
   exact all.mem
end K25
end
section
set_option maxHeartbeats 4000000
open PySem PySem.W PyProof.Rows
local macro_rules|`(tactic| wtm_at "dg")=>`(tactic| (refine' ⟨_,_,?na,L2.Zor ?l ?c ?k⟩;(case na=>k_is);(case l=>k_is);(case c=>k_is);(case k=>k_is)))
local macro_rules|`(tactic| wtm_at "mg")=>`(tactic| (refine' ⟨_,_,?na,?f,?k,L2.Zor ?l ?c ?kk⟩;(case na=>k_is);(case f=>k_is);(case l=>k_is);(case c=>k_is);(case k=>k_is);(case kk=>k_is)))
set_option maxRecDepth 100000 in
set_option maxHeartbeats 0 in
theorem PySem.Challenge.cw_samestride_k25_whole_rows_in_step_holds : PySem.Challenge.rw_samestride_k25_whole_rows_in_step.Holds := by
 refine K25hd ?_
 k_fill
 refine IV.Zts (l:=PySem.Challenge.rw_samestride_k25_whole_rows_in_step) (P:=K25.pg) 250 rfl rfl rfl ⟨rfl,by decide,by decide⟩ (kl:=K25.kl) (fun w h Y=>PySem.W.kIn_of Y) K25.ZsK rfl K25.runs ?MM0
 case MM0=>
  intro w mg h KX G;refine' K25.md KX G ?tb0 ?d1 ?d2 ?d3 ?d4 ?d5 ?d6 ?d7 ?d8 ?d9 ?d10 ?d11 ?d12 ?d13 ?d14 ?d15 ?d16 ?d17 ?d18 ?d19 ?d20 ?d21 ?d22 ?d23 ?d24 ?d25 ?d26 ?d27 ?d28 ?d29 ?d30 ?d31 ?d32 ?d33 ?d34 ?d35 ?d36 ?d37 ?d38 ?d39 ?d40 ?d41 ?d42 ?d43 ?d44 ?d45 ?d46 ?d47 ?d48 ?d49 ?d50 ?d51 ?d52 ?d53 ?y1a ?y1b ?y1c ?y1d ?y1e ?y1n1 ?y1n2 ?y1m ?y1k ?u1 ?u2 ?u3 ?u4 ?u5 ?o1a ?o1b ?o1c ?o1d ?o1e ?o1f ?z1 ?z2 ?z3 ?z4 ?z5 ?z6 ?z7 ?z8 ?z9 ?z10 ?z11 ?z12 ?z13 ?z14 ?g2 ?h7 ?g12 ?h17 ?g21 ?g23 ?h35 ?h44 ?h53 ?h62 ?h71 ?h80 ?h89 ?h98 ?g26 ?h27 ?x101 ?x102 ?x103 ?x104 ?x105 ?x106 ?x107 ?x108 ?w28
  (case tb0=>(first|k_is|kernel_rfl|decide +kernel))
  (case y1a=>k_is)
  (case y1b=>k_is)
  (case y1c=>k_is)
  (case y1d=>k_is)
  (case y1e=>k_is)
  (case y1n1=>k_is)
  (case y1n2=>k_is)
  (case y1m=>k_is)
  (case y1k=>k_is)
  (case u1=>wtm_at "mg")
  (case u2=>wtm_at "mg")
  (case u3=>wtm_at "mg")
  (case u4=>wtm_at "mg")
  (case u5=>wtm_at "mg")
  (case o1a=>k_is)
  (case o1b=>k_is)
  (case o1c=>k_is)
  (case o1d=>k_is)
  (case o1e=>k_exc)
  (case o1f=>k_is)
  (case d1=>wtm_at "dg")
  (case d2=>wtm_at "dg")
  (case d3=>wtm_at "dg")
  (case d4=>wtm_at "dg")
  (case d5=>wtm_at "dg")
  (case d6=>wtm_at "dg")
  (case d7=>wtm_at "dg")
  (case d8=>wtm_at "dg")
  (case d9=>wtm_at "dg")
  (case d10=>wtm_at "dg")
  (case d11=>wtm_at "dg")
  (case d12=>wtm_at "dg")
  (case d13=>wtm_at "dg")
  (case d14=>wtm_at "dg")
  (case d15=>wtm_at "dg")
  (case d16=>wtm_at "dg")
  (case d17=>wtm_at "dg")
  (case d18=>wtm_at "dg")
  (case d19=>wtm_at "dg")
  (case d20=>wtm_at "dg")
  (case d21=>wtm_at "dg")
  (case d22=>wtm_at "dg")
  (case d23=>wtm_at "dg")
  (case d24=>wtm_at "dg")
  (case d25=>wtm_at "dg")
  (case d26=>wtm_at "dg")
  (case d27=>wtm_at "dg")
  (case d28=>wtm_at "dg")
  (case d29=>wtm_at "dg")
  (case d30=>wtm_at "dg")
  (case d31=>wtm_at "dg")
  (case d32=>wtm_at "dg")
  (case d33=>wtm_at "dg")
  (case d34=>wtm_at "dg")
  (case d35=>wtm_at "dg")
  (case d36=>wtm_at "dg")
  (case d37=>wtm_at "dg")
  (case d38=>wtm_at "dg")
  (case d39=>wtm_at "dg")
  (case d40=>wtm_at "dg")
  (case d41=>wtm_at "dg")
  (case d42=>wtm_at "dg")
  (case d43=>wtm_at "dg")
  (case d44=>wtm_at "dg")
  (case d45=>wtm_at "dg")
  (case d46=>wtm_at "dg")
  (case d47=>wtm_at "dg")
  (case d48=>wtm_at "dg")
  (case d49=>wtm_at "dg")
  (case d50=>wtm_at "dg")
  (case d51=>wtm_at "dg")
  (case d52=>wtm_at "dg")
  (case d53=>wtm_at "dg")
  (case z1=>k_is)
  (case z2=>k_is)
  (case z3=>k_is)
  (case z4=>k_is)
  (case z5=>k_is)
  (case z6=>k_is)
  (case z7=>k_is)
  (case z8=>k_is)
  (case z9=>k_is)
  (case z10=>k_is)
  (case z11=>k_is)
  (case z12=>k_is)
  (case z13=>k_is)
  (case z14=>k_is)
  (case g2=>k_is)
  (case g12=>k_is)
  (case h7=>k_is)
  (case g21=>k_is)
  (case h17=>k_is)
  (case g23=>k_is)
  (case g26=>k_is)
  (case h27=>k_is)
  (case h35=>k_is)
  (case h44=>k_is)
  (case h53=>k_is)
  (case h62=>k_is)
  (case h71=>k_is)
  (case h80=>k_is)
  (case h89=>k_is)
  (case h98=>k_is)
  (case x101=>(first|rfl|k_is|fail))
  (case x102=>(first|rfl|k_is|fail))
  (case x103=>(first|rfl|k_is|fail))
  (case x104=>(first|rfl|k_is|fail))
  (case x105=>(first|rfl|k_is|fail))
  (case x106=>(first|rfl|k_is|fail))
  (case x107=>(first|rfl|k_is|fail))
  (case x108=>(first|rfl|k_is|fail))
  (case w28=>rfl)
end
