import PyProof.Rows.All
import Wide.All
import OpenK.AllK
import Wide.FinOn
import PyProof.EqAt
import PyProof.EqKinds
import PyProof.TupleCall
import Lean
import PySem.Challenge.RW_samestride_k35_whole_dump_in_step
set_option Elab.async false
set_option linter.all false
set_option maxRecDepth 100000
open PySem renaming wpAny_bind->Ya
open PySem renaming Shared->Yb
open PySem renaming wpAny_pure->Yc
open PySem renaming mainGlobals->Yd
open PySem renaming sysModules->Ye
open PySem renaming wpAny_mono->Yf
open PySem renaming World->Yg
open PySem renaming Program->Yh
open PySem renaming Addr->Yi
open PySem renaming Value->Yj
open PySem.W renaming Frag->Yk
open PySem.W renaming nsIn->Yl
open PySem.W renaming mg_none_of->Ym
open PySem.Heap renaming lt_size->Yn
open PySem.NameKind renaming free->Yo
open PySem.PyData renaming strOk->Yp
open PySem.StrLaws renaming sliceText->Yq
open PySem renaming wpAny_newObj_type->Yr
open List renaming mem_append_left->Ys
open List renaming append_nil->Yt
open List renaming length_map->Yu
open Option renaming map_some->Yv
open Nat renaming lt_irrefl->Yw
open Nat renaming zero_le->Yy
open Option renaming bind_some->Yz
open PySem renaming starEach->YA
open PySem renaming wpAny->YB
open PySem renaming sizeLine_eq->YC
open PySem.Value renaming ref->YD
open Sum renaming inr->YE
open Option.some renaming inj->YF
open PySem renaming Heap->YG
open PySem renaming Around->YH
open PySem renaming mem_of_lookup->YI
open PySem.W renaming findIn->YJ
open List renaming replicate->YK
open Ne renaming symm->YL
open PySem renaming compareOp->YM
open PySem.Heap renaming get?_update_other->YN
open PySem.W renaming mg_of->YO
open PySem.PyData renaming eqv->YQ
open PySem renaming wpAny_field->YR
open PySem renaming backTo->YS
open PySem.W renaming emptyDict->YT
open PySem.F renaming plain_max_loop->YU
open PySem.W renaming subIn->YV
open Nat renaming add_comm->YW
open PySem.Heap renaming get?_update_self->YX
open PySem renaming wpAny_Call_Name_kw->YY
open PySem.Obj renaming data_mapFields->YZ
open Function renaming comp_def->Wa
open PySem.W renaming hideAll->Wb
open Nat renaming le_add_left->Wc
open PySem renaming keywordEach->We
open PySem renaming wpAny_callSpecial?_slot->Wf
open List renaming any_cons->Wg
open PySem.W renaming keepIn->Wh
open PySem renaming wpAny_holding->Wi
open PySem renaming wpAny_call_entry->Wj
open PySem.W renaming instObj->Wm
open Nat renaming le_succ->Wo
open List renaming lookup->Wp
open PyProof.Rows renaming slot_tuple_getitem->Wq
open PySem renaming wpAny_of_eq->Wr
open PySem.Builtin.List renaming listTooLong->Ws
open List renaming foldl_cons->Wu
open List renaming find?_cons->Wv
open Bool renaming or_eq_true->Ww
open Option renaming some->Wx
open Option renaming none->Wy
open Bool renaming true->Wz
open Bool renaming false->WA
open Decidable renaming decide->WB
open PySem.Str renaming ofString->O
open Bool renaming and_eq_true->Oa
open List renaming getElem?_eq_some_iff->Ob
open List renaming getElem?_set_ne->Oc
open PySem.Heap renaming get?_push_of_some->O1
open List renaming getElem?_append_left->Oe
open List renaming size_toArray->Of
open List renaming getElem?_eq_getElem->Og
open List renaming mem_cons_of_mem->Oh
open List renaming mem_cons_self->Oi
open PySem.Heap renaming get?_push_size->Oj
open List renaming mem_of_getElem?->O2
open List renaming getElem?_set_self->Ol
open List renaming getElem?_append_right->Om
open List renaming getElem?_map->On
open Option renaming map_eq_some_iff->Oo
open List renaming map_cons->Op
open Nat renaming le_refl->Oq
open List renaming mem_cons->O3
open List renaming length_cons->Os
open Nat renaming lt_of_lt_of_le->O4
open Nat renaming ne_of_lt->Ou
open List renaming mem_append_right->Ov
open Bool renaming false_ne_true->Ow
open List renaming mem_singleton->Ox
open List renaming map_nil->Oy
open List renaming append_assoc->Oz
open List renaming length_append->OA
open List renaming nil_append->OB
open List renaming all_eq_true->OC
open List renaming mem_append->OD
open Nat renaming le_trans->OE
open List renaming lookup_cons->OF
open Bool renaming false_eq_true->OG
open Nat renaming lt_succ_self->OH
open List renaming sum_cons->OI
open List renaming getElem?_cons_zero->OJ
open List renaming getElem?_cons_succ->O0
set_option genSizeOf false
section
open PySem PySem.W PyProof.Rows
set_option maxHeartbeats 0
namespace PySem.W.Fast
def tw6207146596376346688:=Nat
def tw4051225602458733664:=Nat
def tw10269013553011151040:=Nat
def tw18121096500591620288:=Nat
def tw18071883553170364928:=Nat
def tw16156161721168590400:=Nat
def tw2974216155187562048:=Nat
def tw1282033520312078944:=Nat
def tw17376385716692947840:=Nat
def tw1991964981106046944:=Nat
def tw7800912238156881953:=Nat
def tw14097304282470921313:=Nat
def tw13767796955333084321:=Nat
def tw2990036924144288961:=Nat
def tw11572201712777532641:=Nat
def tw18123619436837159169:=Nat
def tw7212223395638060353:=Nat
def tw12624912415687192961:=Nat
def tw8313189790705416609:=Nat
def tw14852044608839722529:=Nat
def tw7081939024103805473:=Nat
def tw1840898974149901985:=Nat
def tw3497345546850222753:=Nat
def tw17313628286348596929:=Nat
def tw2879261398155695873:=Nat
def tw6247669757094894465:=Nat
def tw907842090717473665:=Nat
def tw7062266660802760609:=Nat
def tw16075909449858125761:=Nat
def tw3575283080433186785:=Nat
def tw7186162204324531202:=Nat
def tw17866687333114129538:=Nat
def tw89913795283891490:=Nat
def tw4737286694524219842:=Nat
def tw5348240740512393698:=Nat
def tw3961900590577821282:=Nat
def tw15390262592624311970:=Nat
def tw7066896163958841026:=Nat
def tw1869890560703269602:=Nat
def tw12009215694493491970:=Nat
def tw5284765914515236642:=Nat
def tw13643873793619060578:=Nat
def tw13462712006666040323:=Nat
def tw5100314169571013635:=Nat
def tw140829990162591843:=Nat
def tw5139318022674510947:=Nat
def tw13265484397903318403:=Nat
def tw4154944709177881027:=Nat
def tw12289022485655142915:=Nat
def tw9168459109784484451:=Nat
def tw2253842791839847171:=Nat
def tw3476881431340166915:=Nat
def tw569913633758989155:=Nat
def tw18111303616192482179:=Nat
def tw18264350112850341892:=Nat
def tw14159500500122386468:=Nat
def tw11778141213559017508:=Nat
def tw2830719270495340676:=Nat
def tw3483309087743021476:=Nat
def tw10408226981677888964:=Nat
def tw16961744863529377348:=Nat
def tw16421750323674158788:=Nat
def tw15609232950370784068:=Nat
def tw6610838401327274852:=Nat
def tw14270095323832029028:=Nat
def tw16867254358804423556:=Nat
def tw15812366685762812836:=Nat
def tw7785713977650828228:=Nat
def tw5220382723752975365:=Nat
def tw2637108841310869637:=Nat
def tw17253671078370861221:=Nat
def tw12815933863587877061:=Nat
def tw7328494828071838981:=Nat
def tw767280652951296357:=Nat
def tw5880168109229085061:=Nat
def tw8116889450779137445:=Nat
def tw13928702899950953925:=Nat
def tw3845266120542577189:=Nat
def tw5429999726087858757:=Nat
def tw8970926229529118309:=Nat
def tw14906799841718845157:=Nat
def tw14744733207874024229:=Nat
def tw4206760883240572741:=Nat
def tw6595699403648132965:=Nat
def tw7218137129508552677:=Nat
def tw208604239850884134:=Nat
def tw2730333069360304198:=Nat
def tw3200328384675297414:=Nat
def tw8621542846984174758:=Nat
def tw11975759401066278054:=Nat
def tw17917670749012952326:=Nat
def tw9014329010853854534:=Nat
def tw7765825758974522758:=Nat
def tw5544030981508094406:=Nat
def tw717597133830661223:=Nat
def tw9257513230705971335:=Nat
def tw13432597571190774919:=Nat
def tw6839316013777871207:=Nat
def tw18075029375032927623:=Nat
def tw9405889207264207303:=Nat
def tw4261778085179843015:=Nat
def tw12320817620944180711:=Nat
def tw6964799185645893159:=Nat
def tw17758428863686333223:=Nat
def tw14002590034524015463:=Nat
def tw7502373214815448039:=Nat
def tw5086178398928667880:=Nat
def tw4923034084802272488:=Nat
def tw2487596925713190248:=Nat
def tw17921060984976986824:=Nat
def tw8272656559587600104:=Nat
def tw2974893830830550920:=Nat
def tw17983687598791585768:=Nat
def tw9713673543041665129:=Nat
def tw10974489996479222953:=Nat
def tw1011425172866183497:=Nat
def tw1103403933025739337:=Nat
def tw11364138306639473225:=Nat
def tw5490628462809152105:=Nat
def tw10754100780760940169:=Nat
def tw8579678812220265129:=Nat
def tw442781566901041897:=Nat
def tw10873152872437986153:=Nat
def tw5927026247790695305:=Nat
def tw5803659341141159913:=Nat
def tw6932492699629251626:=Nat
def tw7400901964265300170:=Nat
def tw15817663476429683050:=Nat
def tw6358185413204019562:=Nat
def tw5279325293075839466:=Nat
def tw18300554845385585194:=Nat
def tw12388784116681461386:=Nat
def tw9037404957557562122:=Nat
def tw7243553607929599850:=Nat
def tw2517613966389071786:=Nat
def tw4955599656280381418:=Nat
def tw4330259687314392075:=Nat
def tw9001573137361759339:=Nat
def tw14708807993894842635:=Nat
def tw6667683443738394251:=Nat
def tw15495248652846014187:=Nat
def tw6838356048242618155:=Nat
def tw4662503933882696555:=Nat
def tw1075378332153586571:=Nat
def tw7910885311667161228:=Nat
def tw12928882591116915852:=Nat
def tw13180129122151788780:=Nat
def tw17733134016520686860:=Nat
def tw11771558185261332748:=Nat
def tw14368701777822756236:=Nat
def tw13647816285387259308:=Nat
def tw17404698504906574252:=Nat
def tw10985560606863593964:=Nat
def tw3431986928356840940:=Nat
def tw10936679139622873580:=Nat
def tw6284380395932294668:=Nat
def tw888767348808525356:=Nat
def tw17965559135068147244:=Nat
def tw14251604638554057324:=Nat
def tw10830445567526082252:=Nat
def tw7612121296826729228:=Nat
def tw15589348081014895404:=Nat
def tw13715934842282460012:=Nat
def tw9383174089902382988:=Nat
def tw3932937377651358700:=Nat
def tw12726816118742491181:=Nat
def tw16382915435995749453:=Nat
def tw16824240550978185293:=Nat
def tw18430191432165084333:=Nat
def tw3099155273092627629:=Nat
def tw11081112534306400493:=Nat
def tw15151286082782151949:=Nat
def tw2157378831379637581:=Nat
def tw4891310293429735853:=Nat
def tw307604615132705197:=Nat
def tw15724381902758460877:=Nat
def tw451834216533818029:=Nat
def tw9624934141665672941:=Nat
def tw6609842145094159149:=Nat
def tw7453404988846439213:=Nat
def tw8664589655497692077:=Nat
def tw13650317150967233453:=Nat
def tw8907838597707866061:=Nat
def tw7750524789419458541:=Nat
def tw7954530375642821646:=Nat
def tw10005747660511986702:=Nat
def tw18207120319261878414:=Nat
def tw7823337597300815118:=Nat
def tw15194748328889125230:=Nat
def tw17882377343221533134:=Nat
def tw13281107805315453582:=Nat
def tw17210965323927168686:=Nat
def tw13351673800488837870:=Nat
def tw8312828970288363246:=Nat
def tw7553219829120194414:=Nat
def tw2538307931462397838:=Nat
def tw2907336085344761103:=Nat
def tw16748382912199432559:=Nat
def tw14954088694082776431:=Nat
def tw5732218919478124047:=Nat
def tw11914627699753987599:=Nat
def tw18372913560009021103:=Nat
def tw1032509272976783055:=Nat
def tw603510011459726127:=Nat
def tw13740500719433516879:=Nat
def tw17124695853787788271:=Nat
def tw6213456473246820335:=Nat
def tw8151834149697722480:=Nat
def tw10735922511668351120:=Nat
def tw12991628591087808688:=Nat
def tw16458660239335066096:=Nat
def tw11545196359207463440:=Nat
def tw3820462452782909072:=Nat
def tw9155077785307956912:=Nat
def tw9859034280857743056:=Nat
def tw16597389735127184208:=Nat
def tw16780712106998132817:=Nat
def tw17066746098974714961:=Nat
def tw17559408908747191409:=Nat
def tw15879643126085168273:=Nat
def tw13227956652167236817:=Nat
def tw8833512018486625617:=Nat
def tw7480510804595953073:=Nat
def tw10130148572098028977:=Nat
def tw5744417380598568433:=Nat
def tw16546637956582897393:=Nat
def tw3159395107123005233:=Nat
def tw8319229796496882545:=Nat
def tw6729409789622379409:=Nat
def tw16968734134495700881:=Nat
def tw6691831226742404049:=Nat
def tw6692487256664811505:=Nat
def tw7770530574061271025:=Nat
def tw9471304339038764017:=Nat
def tw17089709631141320786:=Nat
def tw9723441006996203634:=Nat
def tw16134777810359328018:=Nat
def tw2331480500798999890:=Nat
def tw3406074519366562162:=Nat
def tw17766471961021486482:=Nat
def tw4824549702808484370:=Nat
def tw16693877088989052434:=Nat
def tw3553345958159528530:=Nat
def tw16828497198553626322:=Nat
def tw8733613754874676946:=Nat
def tw4237297967899754226:=Nat
def tw12281326334422626066:=Nat
def tw1640602728965559250:=Nat
def tw13797248125271498867:=Nat
def tw14262827553364366547:=Nat
def tw4574897603947358451:=Nat
def tw13730522780744903923:=Nat
def tw16280677632105184659:=Nat
def tw10466950616057628147:=Nat
def tw297549735399806451:=Nat
def tw14857651049377687059:=Nat
def tw6393446723631680115:=Nat
def tw14466311676009218803:=Nat
def tw13057488484955042579:=Nat
def tw6683118025606740787:=Nat
def tw1896192510095398707:=Nat
def tw7660215640121890675:=Nat
def tw12031292706595244052:=Nat
def tw18358450491391540372:=Nat
def tw13716760751825916148:=Nat
def tw7091895851206275380:=Nat
def tw9399189175208076628:=Nat
def tw11946421459516165460:=Nat
def tw11863954702992413076:=Nat
def tw481770304074041748:=Nat
def tw12967915228579614164:=Nat
def tw15181865341148873364:=Nat
def tw9295551034489875124:=Nat
def tw1536072025103362836:=Nat
def tw8752528933175806772:=Nat
def tw18250498703999524724:=Nat
def tw16810152625670528884:=Nat
def tw6843369023709864981:=Nat
def tw4136644999776836693:=Nat
def tw11201106218121672885:=Nat
def tw2621305419253717237:=Nat
def tw11681426514916424949:=Nat
def tw11385505197461301589:=Nat
def tw6938336775158996341:=Nat
def tw14218600433437086197:=Nat
def tw16395493994292861685:=Nat
def tw14937620657173885685:=Nat
def tw1189727756692551445:=Nat
def tw7649034460238428021:=Nat
def tw3713895097990077333:=Nat
def tw6471076105100158869:=Nat
def tw12125585258420101238:=Nat
def tw1361262913180233910:=Nat
def tw1694754160805941494:=Nat
def tw5635724930469380534:=Nat
def tw10994922482001584662:=Nat
def tw9852225764047433238:=Nat
def tw12879295377902055158:=Nat
def tw2438347023642965814:=Nat
def tw10469171014187415510:=Nat
def tw3844641298414087191:=Nat
def tw3165907087349153847:=Nat
def tw4440830659066274967:=Nat
def tw12586872715162941655:=Nat
def tw16858800932681040087:=Nat
def tw2492940795732522263:=Nat
def tw4170278652124685655:=Nat
def tw17030837252858061239:=Nat
def tw15046353881029286359:=Nat
def tw13159255021126634039:=Nat
def tw4477985866951564919:=Nat
def tw10843759121082621623:=Nat
def tw8879327433928621815:=Nat
def tw10679531755518759767:=Nat
def tw7211521067810190199:=Nat
def tw6454125342293210039:=Nat
def tw12245392193593333719:=Nat
def tw8055560050856664248:=Nat
def tw4663161945873629592:=Nat
def tw5883606752338868696:=Nat
def tw11696877895057475064:=Nat
def tw12465275018112427512:=Nat
def tw3405064724227934840:=Nat
def tw1669427755849210488:=Nat
def tw4235795179834559256:=Nat
def tw4820640707203512120:=Nat
def tw12105328140823883576:=Nat
def tw436377366076024792:=Nat
def tw10565461729128193016:=Nat
def tw14689630297062582264:=Nat
def tw7928376522940466168:=Nat
def tw15641784983704592409:=Nat
def tw17370253595334443033:=Nat
def tw12108210469571979385:=Nat
def tw13381565292028789145:=Nat
def tw12855677577494876633:=Nat
def tw15049713680576209433:=Nat
def tw13462251448571215449:=Nat
def tw16485992844326452889:=Nat
def tw9440989629007594169:=Nat
def tw588640835622310713:=Nat
def tw16462251159163726777:=Nat
def tw13468489901541153946:=Nat
def tw140842183643429050:=Nat
def tw13261221454215952602:=Nat
def tw10552518210194446586:=Nat
def tw5482971161731204570:=Nat
def tw12698093928624490106:=Nat
def tw7809324238368575194:=Nat
def tw6559936558985259802:=Nat
def tw8949088682725969786:=Nat
def tw4418133259753421690:=Nat
def tw3812334917516231578:=Nat
def tw8260379100273819675:=Nat
def tw7457472045509251099:=Nat
def tw1538105387395657947:=Nat
def tw17696850357327501595:=Nat
def tw14294935039232486715:=Nat
def tw11706896788611107291:=Nat
def tw7636233496855919067:=Nat
def tw13925428003318597115:=Nat
def tw17041619213277700763:=Nat
def tw16555555413531480763:=Nat
def tw9011535078818438011:=Nat
def tw7013987839908685819:=Nat
def tw4470366780740350971:=Nat
def tw2329554194267057180:=Nat
def tw5781683673284959356:=Nat
def tw2865432389290367196:=Nat
def tw16175995358427837660:=Nat
def tw15557850482684785884:=Nat
def tw5391782902864702748:=Nat
def tw447945845427424572:=Nat
def tw14331308052753876444:=Nat
def tw15500551529424745948:=Nat
def tw5244405300415755836:=Nat
def tw15326461738930071164:=Nat
def tw7210718939508741756:=Nat
def tw5631360003585550044:=Nat
def tw12355648312120211324:=Nat
def tw12765872184089774012:=Nat
def tw18159178583003508829:=Nat
def tw12265178536076641533:=Nat
def tw17197429092240505085:=Nat
def tw12434505038075787517:=Nat
def tw5285017103073655165:=Nat
def tw12101478378532515229:=Nat
def tw13767838652772679101:=Nat
def tw8797077268285285853:=Nat
def tw3560664089023207933:=Nat
def tw563375869151334973:=Nat
def tw2908235178665396829:=Nat
def tw5922800894990758525:=Nat
def tw379980955943284445:=Nat
def tw8381325812431853373:=Nat
def tw4673713364389930909:=Nat
def tw5965990552784776350:=Nat
def tw13163688366321249470:=Nat
def tw3813947034596531422:=Nat
def tw11343690358561988830:=Nat
def tw11690176900771712254:=Nat
def tw5684445722792399134:=Nat
def tw14157090839291759998:=Nat
def tw17924557071460428286:=Nat
def tw13504027959088173598:=Nat
def tw12165185811215376990:=Nat
def tw1056433565459233438:=Nat
def tw7622770961685118622:=Nat
def tw11989743129330774814:=Nat
def tw14976396721938095966:=Nat
def tw10268282839984841630:=Nat
def tw3960184973166584959:=Nat
def tw735904139343137951:=Nat
def tw2356369413590831295:=Nat
def tw15988974814509732063:=Nat
def tw17784602440047441247:=Nat
def tw8845507454837720767:=Nat
def tw7202480459966258943:=Nat
def tw3494612101027132191:=Nat
def tw1059978525282443167:=Nat
def tw17164992643500074975:=Nat
def tw15616774133955076545:=Nat
def tw1033740318514563802:=Nat
end PySem.W.Fast
open_top K35hd for PySem.Challenge.rw_samestride_k35_whole_dump_in_step
end
section
namespace L2
open PySem PySem.Spec PyProof.Rows
noncomputable abbrev Key:=Sum Int Str
noncomputable def Zgl:Key->Yj->Bool
 |.inl k,v=>Value.isInt k v
 |.inr x,v=>Value.isStrOf x v
noncomputable def Zxf(w:Yg):Key->Int
 |.inl k=>hashInt k
 |.inr x=>hashStr w x
def ZL:∀{k:Key}{v:Yj},Zgl k v=Wz->(∃i t,k=Sum.inl i/\v=Value.int i t)\/(∃x t,k=YE x/\v=Value.str x t)
 |.inl i,v,h=>by obtain⟨t,e⟩:=Value.isInt_shape (k:=i) (v:=v) h;exact .inl ⟨i,t,rfl,e⟩
 |.inr x,v,h=>by obtain⟨t,e⟩:=Value.isStrOf_shape (x:=x) (v:=v) h;exact .inr ⟨x,t,rfl,e⟩
def ZmQ(i:Int)(t:Tok):Zgl (.inl i) (.int i t)=Wz:=by simp[Zgl,Value.isInt]
def Zv(x:Str)(t:Tok):Zgl (.inr x) (.str x t)=Wz:=by simp[Zgl,Value.isStrOf]
def ZtH(a b:Int):WB ((Sum.inl a:Key)=Sum.inl b)=(a==b):=by
 by_cases e:a=b
 . subst e;simp
 . have h:¬ (Sum.inl a:Key)=Sum.inl b:=λq=>e (Sum.inl.inj q);rw[decide_eq_false h];exact(beq_eq_false_iff_ne.mpr e).symm
def ZtE(a b:Str):WB ((YE a:Key)=YE b)=WB (a=b):=by
 by_cases e:a=b
 . subst e;simp
 . have h:¬ (YE a:Key)=YE b:=λq=>e (Sum.inr.inj q);rw[decide_eq_false h,decide_eq_false e]
def ZtG(a:Int)(b:Str):WB ((Sum.inl a:Key)=YE b)=WA:=decide_eq_false (λq=>nomatch q)
def ZtF(a:Str)(b:Int):WB ((YE a:Key)=Sum.inl b)=WA:=decide_eq_false (λq=>nomatch q)
noncomputable def ZJ(prog:Yh)(w:Yg):PySem.KeyKind prog w Key where
 is:=Zgl
 hash:=Zxf w
 inj:=λv a b ha hb=>by
  rcases ZL ha with ⟨i,t,rfl,rfl⟩|⟨x,t,rfl,rfl⟩
  . rcases ZL hb with ⟨j,u,rfl,e⟩|⟨y,u,rfl,e⟩
    . injection e with e1 _;rw[e1]
    . exact nomatch e
  . rcases ZL hb with ⟨j,u,rfl,e⟩|⟨y,u,rfl,e⟩
    . exact nomatch e
    . injection e with e1 _;rw[e1]
 byValue:=λk v h=>by rcases ZL h with ⟨i,t,rfl,rfl⟩|⟨x,t,rfl,rfl⟩<;>rfl
 pyHash:=λhv h=>by
  rcases ZL hv with ⟨i,t,rfl,rfl⟩|⟨x,t,rfl,rfl⟩
  . exact wpAny_pyHash_int h
  . exact wpAny_pyHash_str h
 eqBool:=λhu hv h=>by
  rcases ZL hu with ⟨i,t,rfl,rfl⟩|⟨x,t,rfl,rfl⟩
  . rcases ZL hv with ⟨j,u,rfl,rfl⟩|⟨y,u,rfl,rfl⟩
    . rw[ZtH]at h;exact wpAny_eqBool_int h
    . rw[ZtG]at h;exact SeqAt.EqAt.int_str i t y u _ _ _ _ h
  . rcases ZL hv with ⟨j,u,rfl,rfl⟩|⟨y,u,rfl,rfl⟩
    . rw[ZtF]at h;exact SeqAt.EqAt.str_int x t j u _ _ _ _ h
    . rw[ZtE]at h;exact wpAny_eqBool_str h
 «strs»:=λk x t v h=>by
  rcases ZL h with ⟨i,u,rfl,e⟩|⟨y,u,rfl,e⟩
  . exact nomatch e
  . injection e with e1 _;subst e1;cases v<;>rfl
def Zi6(prog:Yh)(w:Yg)(i:Int)(t:Tok):(ZJ prog w).is (.inl i) (.int i t)=Wz:=ZmQ i t
def Zi5(prog:Yh)(w:Yg)(x:Str)(t:Tok):(ZJ prog w).is (.inr x) (.str x t)=Wz:=Zv x t
inductive V where
 |non|bl (b:Bool)|int (i:Int)|str (x:Str)|byt (b:Array UInt8)|flt (b:UInt64)|ref (a:Yi)|ty (n:String)
 deriving DecidableEq
def RelV:V->Yj->Prop
 |.non,u=>u=Value.none
 |.bl b,u=>u=Value.bool b
 |.int i,u=>∃t,u=Value.int i t
 |.str x,u=>∃t,u=Value.str x t
 |.byt b,u=>∃t,u=Value.bytes b t
 |.flt b,u=>∃t,u=Value.float b t
 |.ref a,u=>u=YD a
 |.ty n,u=>u=Value.type n
abbrev Zn:List V->List Yj->Prop:=Paired RelV
theorem Zn.length{xs:List V}{us:List Yj}(r:Zn xs us):xs.length=us.length:=Paired.length r
theorem Zn.get:∀{xs:List V}{us:List Yj}{i:Nat}{x:V},Zn xs us->xs[i]? = Wx x->∃u,us[i]? = Wx u/\RelV x u
 |_,_,_,_,.nil,e=>by simp at e
 |_,_,0,_,.cons r _,e=>by simp at e;subst e;exact⟨_,rfl,r⟩
 |_,_,i+1,x,.cons _ t,e=>by obtain⟨u,h1,h2⟩:=Zn.get (i:=i) (x:=x) t (by simpa using e);exact⟨u,by simpa using h1,h2⟩
theorem Zn.set{x:V}{u:Yj}(r:RelV x u):∀{xs:List V}{us:List Yj} (i:Nat),Zn xs us->Zn (xs.set i x) (us.set i u)
 |_,_,_,.nil=>.nil
 |_,_,0,.cons _ t=>.cons r t
 |_,_,i+1,.cons q t=>.cons q (Zn.set r i t)
theorem Zn.append:∀{xs ys:List V}{us ws:List Yj},Zn xs us->Zn ys ws->Zn (xs++ys) (us++ws)
 |_,_,_,_,.nil,s=>s
 |_,_,_,_,.cons r t,s=>.cons r (Zn.append t s)
theorem Zn.take:∀{xs:List V}{us:List Yj} (n:Nat),Zn xs us->Zn (xs.take n) (us.take n)
 |_,_,0,_=>.nil
 |_,_,_+1,.nil=>.nil
 |_,_,n+1,.cons r t=>.cons r (Zn.take n t)
theorem Zn.drop:∀{xs:List V}{us:List Yj} (n:Nat),Zn xs us->Zn (xs.drop n) (us.drop n)
 |_,_,0,r=>r
 |_,_,_+1,.nil=>.nil
 |_,_,n+1,.cons _ t=>Zn.drop n t
def ZeH:Option V->Option Yj->Prop
 |some v,Wx u=>RelV v u
 |none,Wy=>True
 |_,_=>False
def KV{κ:Type}:List (κ×V)->List (κ×Yj)->Prop:=Paired λ(p:κ×V) (q:κ×Yj)=>p.1=q.1/\RelV p.2 q.2
noncomputable def kV:Key->V
 |.inl i=>.int i
 |.inr x=>.str x
inductive HO where
 |lst (xs:List V)
 |tup (xs:List V)
 |dK (kvs:List (Key×V))|dT (kvs:List (List Key×V))
 |set (S_:Int->Bool) (n:Nat)
 |ins (C dx:Yi) (fs:List (Str×V))
 |own (x:Yi)
 |xd (fs:List (Str×V))
 |met (f x:Yi)
 |rng (lo hi:Int)
 |frz (o:Obj) (u:HO)
 |tbl (ps:Array Yj)
 |ext (φ:YG->Prop)
abbrev Hp:=Yi->Option HO
noncomputable def upd(H:Hp)(a:Yi)(o:HO):Hp:=λb=>if b=a then Wx o else H b
def Zi{H:Hp}{a:Yi}{o:HO}:upd H a o a=Wx o:=by unfold upd;rw[if_pos rfl]
def Zg{H:Hp}{a b:Yi}{o:HO}(h:b≠a):upd H a o b=H b:=by unfold upd;rw[if_neg h]
def ZP{H:Hp}{a b:Yi}{o:HO}(h:H a=Wx o)(h':H b=Wy):a≠b:=by intro e;subst e;rw[h]at h';cases h'
section
variable (P:Yh) (w:Yg)
def Zbn(h:YG)(a:Yi)(items:Array Yj):Prop:=∃o,h.get? a=Wx o/\o.cls=.type "tuple" /\ o.dict=Wy/\∃n,o.data=.seq items n
theorem Zbn.tup{h:YG}{a:Yi}{items:Array Yj}(x:Zbn h a items):IsTup h a items:=let ⟨o,ho,hc,_,r⟩:=x;⟨o,ho,hc,r⟩
theorem Zbn.fresh(h:YG)(items:Array Yj):Zbn (h.push {cls:=.type "tuple",data:=.seq items}) h.objs.size items:=⟨_,Oj _ rfl,rfl,rfl,_,rfl⟩
def Zao(H:Hp)(h:YG)(a:Yi):HO->Prop
 |.lst xs=>xs.length<=sizeLine/\∃(its:List Yj) (n:Nat),Zn xs its/\h.get? a=Wx {cls:=.type "list",data:=.seq its.toArray n}
 |.tup xs=>xs.length<=sizeLine/\∃its:List Yj,Zn xs its/\Zbn h a its.toArray
 |.dK kvs=>kvs.length<=sizeLine/\(a==Ye)=WA/\∃vs,KV kvs vs/\h.DictOf (ZJ P w) a vs
 |.dT kvs=>kvs.length<=sizeLine/\(a==Ye)=WA/\∃xs:List (List Key×Yi×Yj),
  Paired (λ(p:List Key×V) (q:List Key×Yi×Yj)=>p.1=q.1/\H q.2.1=Wx (.tup (p.1.map kV))/\RelV p.2 q.2.2) kvs xs /\
  ∃o es ep,h.get? a=Wx o/\o.ExactDict/\o.data=.dict es ep/\es.toList=xs.map (entryOfKey (tupleKind (ZJ P w)))/\(xs.map (·.1)).Nodup
 |.set S_ n=>h.SetOf (intKind P w) a S_ n
 |.ins C dx fs=>H dx=Wx (.own a)/\fs.length<=1000/\dx≠a/\h.get? a=Wx (Wm C dx) /\
  ∃mA,h.Ns1 dx mA/\(∀f,ZeH (fs.lookup f) (mA f))/\PySem.Within mA (fs.map (·.1))
 |.own _=>∃o,h.get? a=Wx o
 |.xd fs=>∃mA,h.Ns1 a mA/\∀f,ZeH (fs.lookup f) (mA f)
 |.rng lo hi=>∃t u v,h.get? a=Wx {cls:=.type "range",data:=.fields #[.int lo t,.int hi u,.int 1 v]}
 |.frz o u=>h.get? a=Wx o/\Zao H h a u
 |.tbl ps=>h.get? a=Wx {cls:=.none,data:=.fields ps}
 |.met f x=>h.get? a=Wx (PySem.W.methodObj (.ref f) (.ref x))
 |.ext φ=>φ h/\(∃o,h.get? a=Wx o)/\∀h1 h2:YG,φ h1->(∀o,h1.get? a=Wx o->h2.get? a=Wx o)->φ h2
def HOk(H:Hp)(h:YG):Prop:=∀a o,H a=Wx o->Zao P w H h a o
end
section
variable {P:Yh}{w:Yg}{H H':Hp}{h h':YG}{a:Yi}{o:HO}
theorem Zao.lt(x:Zao P w H h a o):a<h.objs.size:=by
 cases o with
 |lst xs=>obtain⟨_,_,_,_,e⟩:=x;exact Yn e
 |tup xs=>obtain⟨_,_,_,p⟩:=x;exact p.tup.lt
 |dK kvs=>obtain⟨_,_,_,_,o,_,_,e,_⟩:=x;exact Yn e
 |dT kvs=>obtain⟨_,_,_,_,o,_,_,e,_⟩:=x;exact Yn e
 |set S_ n=>obtain⟨o,_,_,_,e,_⟩:=x;exact Yn e
 |ins C dx fs=>obtain⟨_,_,_,e,_⟩:=x;exact Yn e
 |own y=>obtain⟨_,e⟩:=x;exact Yn e
 |xd fs=>obtain⟨_,⟨_,_,_,e,_⟩,_⟩:=x;exact Yn e
 |rng lo hi=>obtain⟨_,_,_,e⟩:=x;exact Yn e
 |frz ob u=>obtain⟨e,_⟩:=x;exact Yn e
 |tbl ps=>exact Yn (show h.get? a=Wx _ from x)
 |met f y=>exact Yn (show h.get? a=Wx _ from x)
 |ext φ=>obtain⟨_,⟨_,e⟩,_⟩:=x;exact Yn e
theorem Paired.mapP{α β:Type}{F G:α->β->Prop}:∀{l₁:List α}{l₂:List β},Paired F l₁ l₂->(∀a b,F a b->G a b)->Paired G l₁ l₂
 |_,_,.nil,_=>.nil
 |_,_,.cons r t,f=>.cons (f _ _ r) (Paired.mapP t f)
def Zao.stay(x:Zao P w H h a o)(k:∀b u,(b=a\/H b=Wx (.own a))->h.get? b=Wx u->h'.get? b=Wx u)
 (ho:∀b,H b=Wx (.own a)->H' b=Wx (.own a)) (ht:∀b xs,H b=Wx (.tup xs)->H' b=Wx (.tup xs)):Zao P w H' h' a o:=by
 induction o with
 |lst xs=>obtain⟨z,its,n,r,e⟩:=x;exact⟨z,its,n,r,k _ _ (.inl rfl) e⟩
 |tup xs=>obtain⟨z,its,r,ob,e,c⟩:=x;exact⟨z,its,r,ob,k _ _ (.inl rfl) e,c⟩
 |dK kvs=>obtain⟨z,y,vs,r,ob,es,ep,e,c⟩:=x;exact⟨z,y,vs,r,ob,es,ep,k _ _ (.inl rfl) e,c⟩
 |dT kvs=>obtain⟨z,y,xs,r,ob,es,ep,e,c⟩:=x;exact⟨z,y,xs,Paired.mapP r λp q z=>⟨z.1,ht _ _ z.2.1,z.2.2⟩,ob,es,ep,k _ _ (.inl rfl) e,c⟩
 |set S_ n=>obtain⟨ob,es,ep,t,e,c⟩:=x;exact⟨ob,es,ep,t,k _ _ (.inl rfl) e,c⟩
 |ins C dx fs=>obtain⟨d,z,ne,e,mA,⟨od,es,ep,e2,c⟩,r⟩:=x;exact⟨ho _ d,z,ne,k _ _ (.inl rfl) e,mA,⟨od,es,ep,k _ _ (.inr d) e2,c⟩,r⟩
 |own y=>obtain⟨ob,e⟩:=x;exact⟨ob,k _ _ (.inl rfl) e⟩
 |xd fs=>obtain⟨mA,⟨od,es,ep,e,c⟩,r⟩:=x;exact⟨mA,⟨od,es,ep,k _ _ (.inl rfl) e,c⟩,r⟩
 |rng lo hi=>obtain⟨t,u,v,e⟩:=x;exact⟨t,u,v,k _ _ (.inl rfl) e⟩
 |frz ob u ih=>obtain⟨e,q⟩:=x;exact⟨k _ _ (.inl rfl) e,ih q⟩
 |tbl ps=>have e:h.get? a=Wx {cls:=.none,data:=.fields ps}:=x;show h'.get? a=Wx {cls:=.none,data:=.fields ps};exact k a _ (.inl rfl) e
 |met f y=>have e:h.get? a=Wx (PySem.W.methodObj (.ref f) (.ref y)):=x;show h'.get? a=Wx (PySem.W.methodObj (.ref f) (.ref y));exact k a _ (.inl rfl) e
 |ext φ=>obtain⟨p,⟨o,e⟩,st⟩:=x;exact⟨st _ _ p λo q=>k _ _ (.inl rfl) q,⟨o,k _ _ (.inl rfl) e⟩,st⟩
theorem HOk.lt(x:HOk P w H h)(e:H a=Wx o):a<h.objs.size:=(x a o e).lt
def HOk.fresh(x:HOk P w H h)(e:h.objs.size<=a):H a=Wy:=by
 cases q:H a with
 |none=>rfl
 |some u=>exact absurd (O4 (x.lt q) e) (Yw _)
def HOk.kept(x:HOk P w H h)(k:∀b u,h.get? b=Wx u->h'.get? b=Wx u):HOk P w H h':=λa o e=>(x a o e).stay (λb u _ q=>k b u q) (λ_ q=>q) λ_ _ q=>q
def HOk.laid(x:HOk P w H h)(k:∀b u,h.get? b=Wx u->h'.get? b=Wx u)(hp:h.objs.size<=a)(new:Zao P w (upd H a o) h' a o):HOk P w (upd H a o) h':=λb u e=>by
 have hn:=x.fresh hp;by_cases hb:b=a
 . subst hb;rw[Zi]at e;cases e;exact new
 . rw[Zg hb]at e;exact(x b u e).stay (λc v _ q=>k c v q) (λc q=>by rw[Zg (ZP q hn)];exact q) λc xs q=>by rw[Zg (ZP q hn)];exact q
end
def Rd(H:Hp)(a:Yi)(u:HO):Prop:=H a=Wx u\/∃o,H a=Wx (.frz o u)
def Rd.ok{P:Yh}{w:Yg}{H:Hp}{h:YG}{a:Yi}{u:HO}(r:Rd H a u)(x:HOk P w H h):Zao P w H h a u:=by
 rcases r with r|⟨o,r⟩
 . exact x a u r
 . obtain⟨_,q⟩:=x a _ r;exact q
def Mut:Option HO->Prop
 |some (.lst _)=>True
 |some (.dK _)=>True
 |some (.dT _)=>True
 |some (.set _ _)=>True
 |some (.ins _ _ _)=>True
 |some (.ext _)=>True
 |_=>False
section
variable {P:Yh}{w:Yg}{H:Hp}{h h':YG}{x e:Yi}{o':HO}
def HOk.write(ok:HOk P w H h)(mu:Mut (H x))(he:e=x\/H e=Wx (.own x))(k:∀b u,b≠e->h.get? b=Wx u->h'.get? b=Wx u)(heo:∃u,h'.get? e=Wx u)
 (new:Zao P w (upd H x o') h' x o'):HOk P w (upd H x o') h':=λb u q=>by
 have nown:∀c y,H c=Wx (.own y)->c≠x:=λc y r z=>by subst z;rw[r]at mu;exact mu
 have ntup:∀c xs,H c=Wx (.tup xs)->c≠x:=λc xs r z=>by subst z;rw[r]at mu;exact mu
 by_cases hb:b=x
 . subst hb;rw[Zi]at q;cases q;exact new
 . rw[Zg hb]at q;by_cases hbe:b=e
   . have q':H b=Wx (.own x):=by
      rcases he with z|z
      . exact absurd (hbe.trans z) hb
      . rw[hbe];exact z
     rw[q]at q';cases q';obtain⟨v,hv⟩:=heo;exact⟨v,by rw[hbe];exact hv⟩
   . refine(ok b u q).stay (λc v hc r=>k c v ?_ r) (λc r=>by rw[Zg (nown c b r)];exact r) λc xs r=>by rw[Zg (ntup c xs r)];exact r
     rcases hc with rfl|hc
     . exact hbe
     . rintro rfl;rcases he with z|z
       . exact nown c b hc z
       . rw[hc]at z;cases z;exact hb rfl
end
structure Un(fs ex:List Yi)(H H':Hp)(h h':YG):Prop where
 keep:∀b o,h.get? b=Wx o->H b=Wy->b ∉ fs->b ∉ ex->h'.get? b=Wx o
 slot:∀b o,h.get? b=Wx o->H b=Wy->b∈fs->b ∉ ex->∃sl,h'.get? b=Wx {o with slots:=sl}
 free:∀b o,h.get? b=Wx o->H b=Wy->b ∉ ex->H' b=Wy
 there:∀b o,h.get? b=Wx o->b ∉ ex->∃o',h'.get? b=Wx o'
 tups:∀b xs,H b=Wx (.tup xs)->H' b=Wx (.tup xs)
 frzs:∀b o u,H b=Wx (.frz o u)->H' b=Wx (.frz o u)
 tbls:∀b ps,H b=Wx (.tbl ps)->∃more,H' b=Wx (.tbl (ps++more))
section
variable {fs fs' ex ex':List Yi}{H H1 H2:Hp}{h h1 h2 h':YG}{a x e:Yi}{o:HO}
def Un.any(u:Un fs ex H H1 h h1){b:Yi}{ob:Obj}(q:h.get? b=Wx ob)(n:H b=Wy)(hx:b ∉ ex):∃sl,h1.get? b=Wx {ob with slots:=sl}:=by
 by_cases hb:b∈fs
 . exact u.slot b ob q n hb hx
 . exact⟨ob.slots,u.keep b ob q n hb hx⟩
def Un.trans(a:Un fs ex H H1 h h1)(b:Un fs ex H1 H2 h1 h2):Un fs ex H H2 h h2 where
 keep:=λc ob q n hc hx=>b.keep c ob (a.keep c ob q n hc hx) (a.free c ob q n hx) hc hx
 slot:=λc ob q n hc hx=>by obtain⟨sl,e1⟩:=a.slot c ob q n hc hx;obtain⟨sl',e2⟩:=b.slot c _ e1 (a.free c ob q n hx) hc hx;exact⟨sl',e2⟩
 free:=λc ob q n hx=>by obtain⟨o',e1⟩:=a.there c ob q hx;exact b.free c o' e1 (a.free c ob q n hx) hx
 there:=λc ob q hx=>by obtain⟨o',e1⟩:=a.there c ob q hx;exact b.there c o' e1 hx
 tups:=λc xs q=>b.tups c xs (a.tups c xs q)
 frzs:=λc ob xs q=>b.frzs c ob xs (a.frzs c ob xs q)
 tbls:=λc ps q=>by obtain⟨m1,e1⟩:=a.tbls c ps q;obtain⟨m2,e2⟩:=b.tbls c _ e1;exact⟨m1++m2,by rw[e2,Array.append_assoc]⟩
def Un.kept(k:∀b u,h.get? b=Wx u->h'.get? b=Wx u):Un fs ex H H h h':=⟨λb ob q _ _ _=>k b ob q,λb ob q _ _ _=>⟨ob.slots,k b ob q⟩,λ_ _ _ n _=>n,λb ob q _=>⟨ob,k b ob q⟩,λ_ _ q=>q,λ_ _ _ q=>q,λ_ ps q=>⟨#[],by rw[q];simp⟩⟩
def Un.refl:Un fs ex H H h h:=Un.kept λ_ _ q=>q
def Un.laid(k:∀b u,h.get? b=Wx u->h'.get? b=Wx u)(hp:h.objs.size<=a)(hn:H a=Wy):Un fs ex H (upd H a o) h h' where
 keep:=λb u q _ _ _=>k b u q
 slot:=λb u q _ _ _=>⟨u.slots,k b u q⟩
 free:=λb u q n _=>by rw[Zg (Ou (O4 (Yn q) hp))];exact n
 there:=λb u q _=>⟨u,k b u q⟩
 tups:=λb xs q=>by rw[Zg (ZP q hn)];exact q
 frzs:=λb u xs q=>by rw[Zg (ZP q hn)];exact q
 tbls:=λb ps q=>⟨#[],by rw[Zg (ZP q hn),q];simp⟩
def Un.write(mu:Mut (H x))(he:e=x\/H e=Wx (.own x))(k:∀b u,b≠e->h.get? b=Wx u->h'.get? b=Wx u)(heo:∃u,h'.get? e=Wx u):Un fs ex H (upd H x o) h h':=by
 have hx:∀b,H b=Wy->b≠x:=λb n z=>by subst z;rw[n]at mu;exact mu
 have hb:∀b,H b=Wy->b≠e:=λb n z=>by
  subst z;rcases he with r|r
  . exact hx b n r
  . rw[n]at r;cases r
 have hm:∀b u,H b=Wx u->¬ Mut (Wx u)->b≠x:=λb u q nm z=>by subst z;rw[q]at mu;exact nm mu
 refine⟨λb u q n _ _=>k b u (hb b n) q,λb u q n _ _=>⟨u.slots,k b u (hb b n) q⟩,λb u q n _=>by rw[Zg (hx b n)];exact n,λb u q _=>?_,
  λb xs q=>by rw[Zg (hm b _ q λz=>z)];exact q,λb u xs q=>by rw[Zg (hm b _ q λz=>z)];exact q,λb ps q=>⟨#[],by rw[Zg (hm b _ q λz=>z),q];simp⟩⟩
 by_cases hbe:b=e
 . subst hbe;exact heo
 . exact⟨u,k b u hbe q⟩
end
noncomputable def trk(h:YG)(H:Hp):List Yi:=(List.range h.objs.size).filter λa=>(H a).isSome
noncomputable def Zh5(h:YG)(H:Hp):YG:=Wb h (trk h H)
def Zm0(h:YG)(H:Hp):(Zh5 h H).objs.size=h.objs.size:=PySem.W.hideAll_size _ _
def ZoU{h:YG}{H:Hp}{b:Yi}{o:Obj}(e:h.get? b=Wx o)(n:H b=Wy):(Zh5 h H).get? b=Wx o:=
 PySem.W.hideAll_get _ e λhm=>by have q:(H b).isSome=Wz:=(List.mem_filter.mp hm).2;rw[n]at q;simp at q
def ZqS{h:YG}{H:Hp}{b:Yi}{o:Obj}(e:(Zh5 h H).get? b=Wx o):h.get? b=Wx o/\H b=Wy:=by
 have e':h.get? b=Wx o:=PySem.W.of_hideAll (trk h H) e;refine⟨e',?_⟩;cases q:H b with
 |none=>rfl
 |some x=>have hm:b∈trk h H:=List.mem_filter.mpr ⟨List.mem_range.mpr (Yn e'),by simp[q]⟩;have z:(Zh5 h H).get? b=Wy:=PySem.W.hideAll_none (trk h H) hm;rw[z]at e;cases e
structure Mod(K:Yk)(mg:Str->Option Yj)(base:YG):Prop where
 kin:K.In base
 glob:base.Ns Yd mg
 blt:∃mb,base.Ns builtinsNs mb/\∀x:Str,x ≠ "__name__" -> mb x=bootBuiltins x
 nolimit:base.NoLimit
structure Cx where
 prog:Yh
 w:Yg
 K:Yk
 mg:Str->Option Yj
 base:YG
 A:YH
 N:List Str
 s₀:Yb
 H₀:Hp
 env:Env
 outer:List Env
 stack:List Env
 ex:List Yi
 fn:Str->Bool
 calm:Bool
 pn:List (Yi×Obj)
 xe:Yj->Yb->Prop
noncomputable def frs(l:List Env):List Yi:=l.filterMap (·.frame)
noncomputable abbrev Cx.fs(X:Cx):List Yi:=frs X.outer
def Vis(sc:Scope)(x:Str):Prop:=sc.names.lookup x=Wx .local\/sc.names.lookup x=Wx .cell\/sc.names.lookup x=Wx .free
def Loc(sc:Scope)(x:Str):Prop:=sc.names.lookup x=Wx .local\/sc.names.lookup x=Wx .cell
def Look(env:Env)(h:YG)(m:Str->Option Yj)(x:Str)(u:Yj):Prop:=(env.kindOf x=Wx .local/\m x=Wx u)\/((env.kindOf x=Wx .cell\/env.kindOf x=Wx .free)/\∃c,env.cells.lookup x=Wx c/\h.IsCell c (Wx u))
structure Cx.Ok(X:Cx):Prop where
 mod:Mod X.K X.mg X.base
 kind:X.env.scope.kind=.function
 glob:X.env.globals=Yd
 blt:X.env.builtins=builtinsNs
 above:X.s₀.heap.objs.size<=X.env.locals
 inj:∀x y c,X.env.cells.lookup x=Wx c->X.env.cells.lookup y=Wx c->x=y
 has:∀x,(X.env.kindOf x=Wx .cell\/X.env.kindOf x=Wx .free)->∃c,X.env.cells.lookup x=Wx c
 cab:∀x c,X.fn x=Wz->X.env.cells.lookup x=Wx c->X.s₀.heap.objs.size<=c
 hd:X.calm=Wz->X.A.handled=Wy
 frames:X.A.frames=Wx X.stack
 stk:X.stack=X.outer\/(X.stack=X.env::X.outer/\X.env.frame=Wx X.env.locals)
 exf:∀b∈X.ex,b≠X.env.locals/\∀x c,X.env.cells.lookup x=Wx c->c≠b
 bs:∀b o,X.base.get? b=Wx o->X.s₀.heap.get? b=Wx o/\X.H₀ b=Wy
 bsz:X.base.objs.size<=X.s₀.heap.objs.size
 noex:∀b o,X.base.get? b=Wx o->b ∉ X.ex
 exfs:∀b∈X.ex,b ∉ X.fs
 funs:X.s₀.heap.FunFrames X.base X.outer
 frf:∀b∈X.fs,X.H₀ b=Wy
structure Inv(X:Cx)(pins:List (Yi×Obj))(Z:List (Option V))(H:Hp)(s:Yb):Prop where
 ok:X.Ok
 os:s.os=X.s₀.os
 bare:AllBare s.gens
 base:Un X.fs X.ex X.H₀ H X.s₀.heap s.heap
 loc:∃m,s.heap.Ns X.env.locals m/\∀(i:Nat) (x:Str) (v:V),X.N[i]? = Wx x->Z[i]? = Wx (Wx v)->Vis X.env.scope x->∃u,RelV v u/\Look X.env s.heap m x u
 cell:∀x c,X.env.cells.lookup x=Wx c->∃v,s.heap.IsCell c v
 free:H X.env.locals=Wy
 freeC:∀x c,X.env.cells.lookup x=Wx c->H c=Wy
 pin:∀p∈X.pn++pins,s.heap.get? p.1=Wx p.2/\H p.1=Wy/\p.1≠X.env.locals/\p.1 ∉ X.fs/\∀v,p.2.data≠.cell v
 hok:HOk X.prog X.w H s.heap
 len:Z.length=X.N.length
section
variable {X:Cx}{pins:List (Yi×Obj)}{Z:List (Option V)}{H H':Hp}{s:Yb}{h':YG}
def Cx.Ok.nofr(ok:X.Ok){b:Yi}{o:Obj}(e:X.base.get? b=Wx o):b ∉ X.fs:=λhb=>by have:=(ok.funs.mem hb).1;rw[e]at this;cases this
theorem Inv.bs(I:Inv X pins Z H s):∀b o,X.base.get? b=Wx o->s.heap.get? b=Wx o/\H b=Wy:=λb o e=>⟨I.base.keep b o (I.ok.bs b o e).1 (I.ok.bs b o e).2 (I.ok.nofr e) (I.ok.noex b o e),I.base.free b o (I.ok.bs b o e).1 (I.ok.bs b o e).2 (I.ok.noex b o e)⟩
def Inv.bk(I:Inv X pins Z H s):∀b o,X.base.get? b=Wx o->s.heap.get? b=Wx o:=λb o e=>(I.bs b o e).1
theorem Inv.mod(I:Inv X pins Z H s):Mod X.K X.mg X.base:=I.ok.mod
def Inv.kIn(I:Inv X pins Z H s):X.K.In s.heap:=I.ok.mod.kin.keeps I.bk
theorem Inv.lt(I:Inv X pins Z H s):X.env.locals<s.heap.objs.size:=let ⟨_,hn,_⟩:=I.loc;hn.lt
def Inv.sz(I:Inv X pins Z H s):X.s₀.heap.objs.size<=s.heap.objs.size:=OE I.ok.above (Nat.le_of_lt I.lt)
def Inv.nofs(I:Inv X pins Z H s){a:Yi}(h:s.heap.objs.size<=a):a ∉ X.fs:=λhb=>by obtain⟨_,o,ho,_⟩:=I.ok.funs.mem hb;exact absurd (O4 (Yn ho) (OE I.sz h)) (Yw _)
def Inv.cne(I:Inv X pins Z H s):∀x c,X.env.cells.lookup x=Wx c->c≠X.env.locals:=λx c e z=>by obtain⟨v,o,ho,hd⟩:=I.cell x c e;obtain⟨m,⟨o',es,ep,ho',hd',_⟩,_⟩:=I.loc;rw[z,ho']at ho;cases ho;rw[hd']at hd;cases hd
theorem Inv.funs(I:Inv X pins Z H s):s.heap.FunFrames X.base X.outer:=by
 have all:∀(l:List Env),(∀b∈frs l,b∈X.fs)->X.s₀.heap.FunFrames X.base l->s.heap.FunFrames X.base l:=by
  intro l;induction l with
  |nil=>intro _ _;trivial
  |cons env r ih=>intro hs hl;obtain⟨hk,⟨L,o,hf,hn,ho,hd⟩,hr⟩:=hl;have hL:L∈X.fs:=hs L (by unfold frs;rw[List.filterMap_cons,hf];exact Oi);obtain⟨sl,e⟩:=I.base.slot L o ho (I.ok.frf L hL) hL λz=>I.ok.exfs L z hL;exact⟨hk,⟨L,_,hf,hn,e,hd⟩,ih (λb hb=>hs b (by unfold frs;rw[List.filterMap_cons,hf];exact Oh _ hb)) hr⟩
 exact all X.outer (λ_ hb=>hb) I.ok.funs
theorem Inv.stack(I:Inv X pins Z H s):s.heap.FunFrames X.base X.stack:=by
 rcases I.ok.stk with e|⟨e,hf⟩
 . rw[e];exact I.funs
 . rw[e];obtain⟨m,hn,_⟩:=I.loc;refine .cons (by rw[I.ok.kind];decide) hf hn ?_ I.funs;exact Heap.get?_none_of_le (OE I.ok.bsz I.ok.above)
def Inv.stkSub(I:Inv X pins Z H s):∀b∈frs X.stack,b∈X.env.locals::X.fs:=λb hb=>by
 rcases I.ok.stk with e|⟨e,hf⟩
 . rw[e]at hb;exact Oh _ hb
 . rw[e]at hb;unfold frs at hb;rw[List.filterMap_cons,hf]at hb;exact hb
def Inv.stkFree(I:Inv X pins Z H s):∀b∈frs X.stack,H b=Wy:=λb hb=>by
 rcases O3.mp (I.stkSub b hb)with e|hb
 . rw[e];exact I.free
 . obtain⟨_,o,ho,_⟩:=I.ok.funs.mem hb;exact I.base.free b o ho (I.ok.frf b hb) λz=>I.ok.exfs b z hb
def Inv.step{g':Array GenState}{t':Nat}{d':Drawn}{ch:List Yi}(I:Inv X pins Z H s)
 (hch:∀b∈ch,(b∈X.ex\/X.s₀.heap.objs.size<=b)/\b≠X.env.locals/\(∀x c,X.env.cells.lookup x=Wx c->c≠b)/\∀p∈X.pn++pins,p.1≠b)
 (keep:∀b o,b≠X.env.locals->b ∉ X.fs->b ∉ ch->s.heap.get? b=Wx o->H b=Wy->h'.get? b=Wx o)
 (slot:∀b o,b≠X.env.locals->b∈X.fs->b ∉ ch->s.heap.get? b=Wx o->H b=Wy->∃sl,h'.get? b=Wx {o with slots:=sl}) (free:∀b o,b ∉ ch->s.heap.get? b=Wx o->H b=Wy->H' b=Wy)
 (there:∀b o,b ∉ ch->s.heap.get? b=Wx o->∃o',h'.get? b=Wx o')
 (tups:∀b xs,H b=Wx (.tup xs)->H' b=Wx (.tup xs)) (frzs:∀b o u,H b=Wx (.frz o u)->H' b=Wx (.frz o u)) (tbls:∀b ps,H b=Wx (.tbl ps)->∃more,H' b=Wx (.tbl (ps++more)))
 (ns:∀m,s.heap.Ns X.env.locals m->h'.Ns X.env.locals m) (hok:HOk X.prog X.w H' h') (hg:AllBare g') :
 Inv X pins Z H' {s with heap:=h',gens:=g',drawn:=d',toks:=t'}:=by
 have neL:∀b o,X.s₀.heap.get? b=Wx o->b≠X.env.locals:=λb o e=>Ou (O4 (Yn e) I.ok.above);have neC:∀b o,X.s₀.heap.get? b=Wx o->b ∉ X.ex->b ∉ ch:=λb o e hx hb=>by
  rcases(hch b hb).1 with z|z
  . exact hx z
  . exact absurd (O4 (Yn e) z) (Yw _)
 have cellK:∀x c,X.env.cells.lookup x=Wx c->∀v,s.heap.IsCell c v->h'.IsCell c v:=λx c e v ⟨o,ho,hd⟩=>by
  have nch:c ∉ ch:=λz=>(hch c z).2.2.1 x c e rfl;by_cases hc:c∈X.fs
  . obtain⟨sl,q⟩:=slot c o (I.cne x c e) hc nch ho (I.freeC x c e);exact⟨_,q,hd⟩
  . exact⟨o,keep c o (I.cne x c e) hc nch ho (I.freeC x c e),hd⟩
 refine⟨I.ok,I.os,hg,⟨λb o e n hb hx=>?_,λb o e n hb hx=>?_,λb o e n hx=>?_,λb o e hx=>?_,λb xs e=>tups b xs (I.base.tups b xs e),λb o xs e=>frzs b o xs (I.base.frzs b o xs e),λb ps e=>?_⟩,?_,λx c e=>?_,?_,λx c e=>?_,λp hp=>?_,hok,I.len⟩
 . exact keep b o (neL b o e) hb (neC b o e hx) (I.base.keep b o e n hb hx) (I.base.free b o e n hx)
 . obtain⟨sl,e1⟩:=I.base.slot b o e n hb hx;obtain⟨sl',e2⟩:=slot b _ (neL b o e) hb (neC b o e hx) e1 (I.base.free b o e n hx);exact⟨sl',e2⟩
 . obtain⟨o',e1⟩:=I.base.there b o e hx;exact free b o' (neC b o e hx) e1 (I.base.free b o e n hx)
 . obtain⟨o',e1⟩:=I.base.there b o e hx;exact there b o' (neC b o e hx) e1
 . obtain⟨m1,e1⟩:=I.base.tbls b ps e;obtain⟨m2,e2⟩:=tbls b _ e1;exact⟨m1++m2,by rw[e2,Array.append_assoc]⟩
 . obtain⟨m,hn,hl⟩:=I.loc;refine⟨m,ns m hn,λi x v e1 e2 e3=>?_⟩;obtain⟨u,r,l⟩:=hl i x v e1 e2 e3;refine⟨u,r,?_⟩;rcases l with l|⟨k,c,e,z⟩
   . exact .inl l
   . exact .inr ⟨k,c,e,cellK x c e _ z⟩
 . obtain⟨v,z⟩:=I.cell x c e;exact⟨v,cellK x c e v z⟩
 . obtain⟨m,⟨o,_,_,ho,_⟩,_⟩:=I.loc;exact free _ o (λz=>(hch _ z).2.1 rfl) ho I.free
 . obtain⟨v,o,ho,hd⟩:=I.cell x c e;exact free c o (λz=>(hch c z).2.2.1 x c e rfl) ho (I.freeC x c e)
 . obtain⟨e,n,ne,nf,d⟩:=I.pin p hp;have nch:p.1 ∉ ch:=λz=>(hch p.1 z).2.2.2 p hp rfl;exact⟨keep p.1 p.2 ne nf nch e n,free p.1 p.2 nch e n,ne,nf,d⟩
theorem Inv.un{t':Nat}(I:Inv X pins Z H s)(u:Un X.fs [] H H' s.heap h')(hok:HOk X.prog X.w H' h'):Inv X pins Z H' {s with heap:=h',toks:=t'}:=by
 obtain ⟨m,⟨o,es,ep,ho,r⟩,_⟩:=id I.loc;obtain ⟨sl,hL⟩:=u.any ho I.free (by simp);exact I.step (g':=s.gens) (d':=s.drawn) (ch:=[]) (fun _ z=>nomatch z) (fun b o _ hb _ e n=>u.keep b o e n hb (by simp)) (fun b o _ hb _ e n=>u.slot b o e n hb (by simp)) (fun b o _ e n=>u.free b o e n (by simp)) (fun b o _ e=>u.there b o e (by simp)) u.tups u.frzs u.tbls (fun m' hm=>by
   obtain ⟨o',es',ep',ho',r'⟩:=hm;rw [ho] at ho';cases ho';exact ⟨_,es',ep',hL,r'⟩) hok I.bare
theorem Inv.call{g':Array GenState}{t':Nat}{d':Drawn}{ch:List Yi}(I:Inv X pins Z H s)(u:Un (frs X.stack) ch H H' s.heap h')(hok:HOk X.prog X.w H' h')(hg:AllBare g')
   (hch:∀ b∈ch,(b∈X.ex\/X.s₀.heap.objs.size<=b)/\b≠X.env.locals/\(∀ x c,X.env.cells.lookup x=Wx c->c≠b)/\∀ p∈X.pn++pins,p.1≠b) :
   Inv X pins Z H' {s with heap:=h',gens:=g',drawn:=d',toks:=t'}:=by
 obtain ⟨m,⟨o,es,ep,ho,r⟩,_⟩:=id I.loc;obtain ⟨sl,hL⟩:=u.any ho I.free fun z=>(hch _ z).2.1 rfl;exact I.step (ch:=ch) hch (fun b o hL hb hc e n=>u.keep b o e n (fun z=>(O3.mp (I.stkSub b z)).elim hL hb) hc) (fun b o _ _ hc e n=>u.any e n hc) (fun b o hc e n=>u.free b o e n hc) (fun b o hc e=>u.there b o e hc) u.tups u.frzs u.tbls (fun m' hm=>by
   obtain ⟨o',es',ep',ho',r'⟩:=hm;rw [ho] at ho';cases ho';exact ⟨_,es',ep',hL,r'⟩) hok hg
def Inv.turned{t':Nat}{it:Yi}(I:Inv X pins Z H s)(k:∀b o,b≠it->s.heap.get? b=Wx o->h'.get? b=Wx o)(hn:H it=Wy)(hL:it≠X.env.locals)
 (h1:it∈X.ex\/X.s₀.heap.objs.size<=it) (h2:∀x c,X.env.cells.lookup x=Wx c->c≠it) (h3:∀p∈X.pn++pins,p.1≠it):Inv X pins Z H {s with heap:=h',toks:=t'}:=by
 have nit:∀b u,H b=Wx u->b≠it:=λb u e z=>by rw[z,hn]at e;cases e
 refine I.step (g':=s.gens) (d':=s.drawn) (ch:=[it]) (λb hb=>?_) (λb o _ _ hc e _=>k b o (λz=>hc (by simp[z])) e) (λb o _ _ hc e _=>⟨o.slots,k b o (λz=>hc (by simp[z])) e⟩) (λ_ _ _ _ n=>n)
  (λb o hc e=>⟨o,k b o (λz=>hc (by simp[z])) e⟩) (λ_ _ e=>e) (λ_ _ _ e=>e) (λb ps e=>⟨#[],by rw[e];simp⟩) (λm hm=>?_) (λb u e=>?_) I.bare
 . have e:b=it:=by simpa using hb
   subst e;exact⟨h1,hL,h2,h3⟩
 . obtain⟨o,es,ep,ho,r⟩:=hm;exact⟨o,es,ep,k _ o (YL hL) ho,r⟩
 . refine(I.hok b u e).stay (λc v hc q=>k c v ?_ q) (λ_ q=>q) λ_ _ q=>q;rcases hc with z|z
   . rw[z];exact nit b u e
   . exact nit c _ z
def Inv.tok(I:Inv X pins Z H s)(t:Nat):Inv X pins Z H {s with toks:=t}:=I.un (h':=s.heap) (t':=t) Un.refl I.hok
theorem Inv.kept{t':Nat}(I:Inv X pins Z H s)(k:∀b u,s.heap.get? b=Wx u->h'.get? b=Wx u):Inv X pins Z H {s with heap:=h',toks:=t'}:=I.un (Un.kept k) (I.hok.kept k)
theorem Inv.laid{a:Yi}{o:HO}{t':Nat}(I:Inv X pins Z H s)(k:∀b u,s.heap.get? b=Wx u->h'.get? b=Wx u)(hp:s.heap.objs.size<=a)(new:Zao X.prog X.w (upd H a o) h' a o):
 Inv X pins Z (upd H a o) {s with heap:=h',toks:=t'}:=I.un (Un.laid k hp (I.hok.fresh hp)) (I.hok.laid k hp new)
theorem Inv.write{x e:Yi}{o:HO}{t':Nat}(I:Inv X pins Z H s)(mu:Mut (H x))(he:e=x\/H e=Wx (.own x))(k:∀b u,b≠e->s.heap.get? b=Wx u->h'.get? b=Wx u)(heo:∃u,h'.get? e=Wx u)
 (new:Zao X.prog X.w (upd H x o) h' x o):Inv X pins Z (upd H x o) {s with heap:=h',toks:=t'}:=I.un (Un.write mu he k heo) (I.hok.write mu he k heo new)
def Inv.weak{σ':List (Option V)}(I:Inv X pins Z H s)(hl:σ'.length=Z.length)(w:∀(i:Nat) v,σ'[i]? = Wx (Wx v)->Z[i]? = Wx (Wx v)):Inv X pins σ' H s:=⟨I.ok,I.os,I.bare,I.base,let ⟨m,hn,hl'⟩:=I.loc;⟨m,hn,λi x v e1 e2 e3=>hl' i x v e1 (w i v e2) e3⟩,I.cell,I.free,I.freeC,I.pin,I.hok,hl.trans I.len⟩
def Inv.pins_of{pins':List (Yi×Obj)}(I:Inv X pins Z H s)(h:∀p∈pins',s.heap.get? p.1=Wx p.2/\H p.1=Wy/\p.1≠X.env.locals/\p.1 ∉ X.fs/\∀v,p.2.data≠.cell v):Inv X pins' Z H s:=⟨I.ok,I.os,I.bare,I.base,I.loc,I.cell,I.free,I.freeC,λp hp=>(OD.mp hp).elim (λz=>I.pin p (Ys _ z)) (h p),I.hok,I.len⟩
def Zi2{N:List Str}(hN:N.Nodup){i j:Nat}{x:Str}(a:N[i]? = Wx x)(b:N[j]? = Wx x):i=j:=by obtain⟨h1,e1⟩:=Ob.mp a;obtain⟨h2,e2⟩:=Ob.mp b;exact(List.getElem_inj hN).mp (e1.trans e2.symm)
def Zg1{M:Model}{A:YH}{E:Yj->Yb->Prop}{i:Nat}{x:Str}{v:V}{u:Yj}{Q:Unit->Yb->Prop}(I:Inv X pins Z H s)(hN:X.N.Nodup)(hi:X.N[i]? = Wx x)(hx:Loc X.env.scope x)(r:RelV v u)
 (h:∀s',Inv X pins (Z.set i (Wx v)) H s'->(∃a,Heap.SameBut a s.heap s'.heap/\(a=X.env.locals\/X.env.cells.lookup x=Wx a))->Q () s') (hf:X.fn x=Wz\/X.env.scope.names.lookup x=Wx .local:=by first|exact .inl rfl|exact .inr rfl|assumption):YB M A (storeName X.env x u) Q E s:=by
 obtain⟨m,hn,hl⟩:=id I.loc;have hcls:(X.env.scope.kind==.class || (X.env.scope.kind==.module&&X.env.locals != X.env.globals))=WA:=by rw[I.ok.kind];rfl
 have hiσ:i<Z.length:=by rw[I.len];exact(Ob.mp hi).1
 have cne:=I.cne;have tracked:∀{a:Yi}{h':YG},(∃o,s.heap.get? a=Wx o/\H a=Wy)->Heap.SameBut a s.heap h'->HOk X.prog X.w H h':=λ{a h'} ha hs b ob e=>by
  obtain⟨_,_,hfree⟩:=ha;refine(I.hok b ob e).stay (λc w' hc q=>(hs.2 c ?_).trans q) (λ_ q=>q) λ_ _ q=>q;rintro rfl;rcases hc with rfl|hc
  . rw[hfree]at e;cases e
  . rw[hfree]at hc;cases hc
 rcases hx with hk|hk
 . refine wpAny_storeName_local hk hn (λh' hn' hs=>?_) hcls;obtain⟨oL,_,_,hoL,_⟩:=id hn;refine h _ ⟨I.ok,I.os,I.bare,⟨λb o e n hb hx=>?_,λb o e n hb hx=>?_,I.base.free,λb o e hx=>?_,I.base.tups,I.base.frzs,I.base.tbls⟩,⟨_,hn',λj y v' e1 e2 e3=>?_⟩,λy c e=>?_,I.free,I.freeC,λp hp=>?_,tracked ⟨oL,hoL,I.free⟩ hs,by simpa using I.len⟩ ⟨_,hs,.inl rfl⟩
   . exact(hs.2 b (Ou (O4 (Yn e) I.ok.above))).trans (I.base.keep b o e n hb hx)
   . obtain⟨sl,e1⟩:=I.base.slot b o e n hb hx;exact⟨sl,(hs.2 b (Ou (O4 (Yn e) I.ok.above))).trans e1⟩
   . obtain⟨o',e1⟩:=I.base.there b o e hx;exact⟨o',(hs.2 b (Ou (O4 (Yn e) I.ok.above))).trans e1⟩
   . by_cases hj:j=i
     . subst hj;rw[hi]at e1;cases e1;rw[Ol hiσ]at e2;cases e2;exact⟨u,r,.inl ⟨hk,by simp⟩⟩
     . rw[Oc (YL hj)]at e2;obtain⟨u',r',q⟩:=hl j y v' e1 e2 e3;refine⟨u',r',?_⟩;rcases q with ⟨k,e⟩|⟨k,c,e,z⟩
       . refine .inl ⟨k,?_⟩;have:y≠x:=λe=>hj (Zi2 hN e1 (e ▸ hi));simp[this,e]
       . exact .inr ⟨k,c,e,z.sameBut hs (cne y c e)⟩
   . obtain⟨w',z⟩:=I.cell y c e;exact⟨w',z.sameBut hs (cne y c e)⟩
   . obtain⟨e,n,ne,nf,d⟩:=I.pin p hp;exact⟨(hs.2 p.1 ne).trans e,n,ne,nf,d⟩
 . have hfn:X.fn x=Wz:=by
    rcases hf with z|z
    . exact z
    . rw[z]at hk;cases hk
   obtain⟨c,hc⟩:=I.ok.has x (.inl hk);obtain⟨w',z⟩:=I.cell x c hc;refine wpAny_storeName_cell I.ok.kind hk hc z (λh' hc' hs=>?_);obtain⟨oc,hoc,hocd⟩:=id z;refine h {s with heap:=h'} ⟨I.ok,I.os,I.bare,⟨λb o e n hb hx=>?_,λb o e n hb hx=>?_,I.base.free,λb o e hx=>?_,I.base.tups,I.base.frzs,I.base.tbls⟩,⟨m,hn.sameBut hs (YL (cne x c hc)),λj y v' e1 e2 e3=>?_⟩,λy c' e=>?_,I.free,I.freeC,λp hp=>?_,tracked ⟨oc,hoc,I.freeC x c hc⟩ hs,by simpa using I.len⟩ ⟨c,hs,.inr hc⟩
   . exact(hs.2 b (Ou (O4 (Yn e) (I.ok.cab x c hfn hc)))).trans (I.base.keep b o e n hb hx)
   . obtain⟨sl,e1⟩:=I.base.slot b o e n hb hx;exact⟨sl,(hs.2 b (Ou (O4 (Yn e) (I.ok.cab x c hfn hc)))).trans e1⟩
   . obtain⟨o',e1⟩:=I.base.there b o e hx;exact⟨o',(hs.2 b (Ou (O4 (Yn e) (I.ok.cab x c hfn hc)))).trans e1⟩
   . by_cases hj:j=i
     . subst hj;rw[hi]at e1;cases e1;rw[Ol hiσ]at e2;cases e2;exact⟨u,r,.inr ⟨.inl hk,c,hc,hc'⟩⟩
     . rw[Oc (YL hj)]at e2;obtain⟨u',r',q⟩:=hl j y v' e1 e2 e3;refine⟨u',r',?_⟩;rcases q with q|⟨k,c',e,z'⟩
       . exact .inl q
       . refine .inr ⟨k,c',e,z'.sameBut hs ?_⟩;rintro rfl;exact hj (Zi2 hN e1 (I.ok.inj _ _ _ e hc ▸ hi))
   . by_cases hcc:c'=c
     . subst hcc;exact⟨_,hc'⟩
     . obtain⟨w2,z2⟩:=I.cell y c' e;exact⟨w2,z2.sameBut hs hcc⟩
   . obtain⟨e,n,ne,nf,d⟩:=I.pin p hp;refine⟨(hs.2 p.1 ?_).trans e,n,ne,nf,d⟩;intro q;rw[q,hoc]at e;have q':oc=p.2:=YF e;exact d w' (by rw[<- q'];exact hocd)
def Zeh{M:Model}{A:YH}{E:Yj->Yb->Prop}{i:Nat}{x:Str}{v:V}{u:Yj}{Q:Unit->Yb->Prop}(I:Inv X pins Z H s)(hN:X.N.Nodup)(hi:X.N[i]? = Wx x)(hx:Loc X.env.scope x)(r:RelV v u)
 (h:∀s',Inv X pins (Z.set i (Wx v)) H s'->Q () s') (hf:X.fn x=Wz\/X.env.scope.names.lookup x=Wx .local:=by first|exact .inl rfl|exact .inr rfl|assumption):YB M A (storeName X.env x u) Q E s:=
 Zg1 I hN hi hx r (λs' I' _=>h s' I') hf
def Inv.call'{s':Yb}{ch:List Yi}(I:Inv X pins Z H s)(ho:s'.os=s.os)(u:Un (frs X.stack) ch H H' s.heap s'.heap)(hok:HOk X.prog X.w H' s'.heap)(hg:AllBare s'.gens)
 (hch:∀b∈ch,(b∈X.ex\/X.s₀.heap.objs.size<=b)/\b≠X.env.locals/\(∀x c,X.env.cells.lookup x=Wx c->c≠b)/\∀p∈X.pn++pins,p.1≠b):Inv X pins Z H' s':=by
 obtain⟨h',g',d',t',o'⟩:=s';have e:o'=s.os:=ho;subst e;exact I.call (g':=g') (t':=t') (d':=d') u hok hg hch
end
abbrev XK:=Yj->Option Yi->Hp->Prop
noncomputable abbrev St:=List (Option V)
abbrev VK:=V->Hp->Prop
abbrev TE:=St->Hp->VK->Prop
abbrev TT:=St->Hp->(Bool->Hp->Prop)->Prop
abbrev TA:=St->Hp->(List V->Hp->Prop)->Prop
structure Ends where
 nx:St->Hp->Prop
 rt:VK
 bk:St->Hp->Prop:=λ_ _=>False
 ct:St->Hp->Prop:=λ_ _=>False
abbrev TS:=Ends->St->Hp->Prop
def EP(X:Cx)(pins:List (Yi×Obj))(Z:St)(Q:VK)(u:Yj)(s':Yb):Prop:=∃v H',Inv X pins Z H' s'/\RelV v u/\Q v H'
def TP(X:Cx)(pins:List (Yi×Obj))(Z:St)(Q:Bool->Hp->Prop)(b:Bool)(s':Yb):Prop:=∃H',Inv X pins Z H' s'/\Q b H'
def AP(X:Cx)(pins:List (Yi×Obj))(Z:St)(Q:List V->Hp->Prop)(us:List Yj)(s':Yb):Prop:=∃vs H',Inv X pins Z H' s'/\Zn vs us/\Q vs H'
def SP(X:Cx)(pins:List (Yi×Obj))(D:Ends)(f:Flow)(s':Yb):Prop:=
 match f with
 |.next=>∃σ' H',Inv X pins σ' H' s'/\D.nx σ' H'
 |.brk=>∃σ' H',Inv X pins σ' H' s'/\D.bk σ' H'
 |.cont=>∃σ' H',Inv X pins σ' H' s'/\D.ct σ' H'
 |.ret u=>∃v σ' H',Inv X pins σ' H' s'/\RelV v u/\D.rt v H'
def PE(X:Cx)(e:Expr)(t:TE):Prop:=∀(pins:List (Yi×Obj)) (s:Yb) (Z:St) (H:Hp) (Q:VK),Inv X pins Z H s->t Z H Q->YB (model X.prog X.w) X.A (eval e X.env) (EP X pins Z Q) X.xe s
def PT(X:Cx)(e:Expr)(t:TT):Prop:=∀(pins:List (Yi×Obj)) (s:Yb) (Z:St) (H:Hp) (Q:Bool->Hp->Prop),Inv X pins Z H s->t Z H Q->YB (model X.prog X.w) X.A (isTrue e X.env (eval e X.env)) (TP X pins Z Q) X.xe s
def PW(X:Cx)(e:Expr)(t:TT):Prop:=∀(whole:Sem Yj) (pins:List (Yi×Obj)) (s:Yb) (Z:St) (H:Hp) (Q:Bool->Hp->Prop),Inv X pins Z H s->t Z H Q->YB (model X.prog X.w) X.A (isTrue e X.env whole) (TP X pins Z Q) X.xe s
def PW.pt{X:Cx}{e:Expr}{t:TT}(h:PW X e t):PT X e t:=h _
def PA(X:Cx)(es:List Expr)(t:TA):Prop:=∀(pos:Pos) (pins:List (Yi×Obj)) (s:Yb) (Z:St) (H:Hp) (Q:List V->Hp->Prop),Inv X pins Z H s->t Z H Q->YB (model X.prog X.w) X.A (spliced (YS pos (YA es X.env))) (AP X pins Z Q) X.xe s
def PS(X:Cx)(st:Stmt)(t:TS):Prop:=∀(pins:List (Yi×Obj)) (s:Yb) (Z:St) (H:Hp) (D:Ends),Inv X pins Z H s->t D Z H->YB (model X.prog X.w) X.A (exec st X.env) (SP X pins D) X.xe s
def PSs(X:Cx)(st:List Stmt)(t:TS):Prop:=∀(pins:List (Yi×Obj)) (s:Yb) (Z:St) (H:Hp) (D:Ends),Inv X pins Z H s->t D Z H->YB (model X.prog X.w) X.A (execs st X.env) (SP X pins D) X.xe s
def thn{α:Type}{t:Sem α}{Q Q':α->Yb->Prop}{M:Model}{A:YH}{E:Yj->Yb->Prop}{s:Yb}(h:YB M A t Q E s)(hQ:∀a s,Q a s->Q' a s):YB M A t Q' E s:=Yf h hQ λ_ _ x=>x
section
variable {X:Cx}
noncomputable def Zwy(i:Nat):TE:=λZ H Q=>∃v,Z[i]? = Wx (Wx v)/\Q v H
noncomputable def tC(v:V):TE:=λ_ H Q=>Q v H
def ZsY{i:Nat}{x:Str}{pos:Pos}(hN:X.N[i]? = Wx x)(hv:Vis X.env.scope x)(hd:(x==("__debug__" : Str))=WA:=by decide)(hcd:(x==("__classdict__" : Str))=WA:=by decide):PE X (.Name x pos) (Zwy i):=by
 intro pins s Z H Q I h;obtain⟨v,e,h⟩:=h;obtain⟨m,hn,hl⟩:=I.loc;obtain⟨u,r,l⟩:=hl i x v hN e hv;have fin:EP X pins Z Q u s:=⟨v,H,I,r,h⟩
 rcases l with ⟨hk,hm⟩|⟨hk,c,hc,hcell⟩
 . exact wpAny_Name (wpAny_loadName_local I.ok.kind hk hn hm fin) hd
 . rcases hk with hk|hk
   . exact wpAny_Name (wpAny_loadName_cell I.ok.kind hk hc hcell fin) hd
   . exact wpAny_Name (wpAny_loadName_free I.ok.kind hk hc hcell fin hcd) hd
def Zn9{i j pos}:PE X (.Constant (.int i) j pos) (tC (.int i)):=λ_ _ _ H _ I h=>wpAny_Constant_int ⟨.int i,H,I.tok _,⟨_,rfl⟩,h⟩
def Zve{b j pos}:PE X (.Constant (.bool b) j pos) (tC (.bl b)):=λ_ _ _ H _ I h=>Constant_bool ⟨.bl b,H,I,rfl,h⟩
def Zn6{j pos}:PE X (.Constant .none j pos) (tC .non):=λ_ _ _ H _ I h=>Constant_none ⟨.non,H,I,rfl,h⟩
def Zs0{x j pos}:PE X (.Constant (.str x) j pos) (tC (.str x)):=λ_ _ _ H _ I h=>Calls.Constant_str ⟨.str x,H,I.tok _,⟨_,rfl⟩,h⟩
def Gl(X:Cx)(x:Str):Prop:=X.env.kindOf x=Wx .globalImplicit
def ZcG{E:Yj->Yb->Prop}{pins:List (Yi×Obj)}{s:Yb}{Z:St}{H:Hp}{x:Str}{u:Yj}{pos:Pos}{Q:Yj->Yb->Prop}(I:Inv X pins Z H s)(hg:Gl X x)(hm:X.mg x=Wx u)(h:Q u s)
 (hd:(x==("__debug__" : Str))=WA:=by decide):YB (model X.prog X.w) X.A (eval (.Name x pos) X.env) Q E s:=
 Calls.Name_function_global I.ok.kind hg (Calls.loadGlobal_global (by rw[I.ok.glob];exact I.mod.glob.keeps I.bk) hm h) hd
def Zde{E:Yj->Yb->Prop}{pins:List (Yi×Obj)}{s:Yb}{Z:St}{H:Hp}{x:Str}{u:Yj}{pos:Pos}{Q:Yj->Yb->Prop}(I:Inv X pins Z H s)(hg:Gl X x)(hm:X.mg x=Wy)(hv:bootBuiltins x=Wx u)(h:Q u s)
 (hn:x ≠ "__name__" := by decide) (hd:(x==("__debug__" : Str))=WA:=by decide):YB (model X.prog X.w) X.A (eval (.Name x pos) X.env) Q E s:=by
 obtain⟨mb,h1,h2⟩:=I.mod.blt;exact Calls.Name_function_global I.ok.kind hg (Calls.loadGlobal_builtin (by rw[I.ok.glob];exact I.mod.glob.keeps I.bk) hm (by rw[I.ok.blt];exact h1.keeps I.bk) ((h2 x hn).trans hv) h) hd
def Zqv{x:Str}{v:V}{u:Yj}{pos:Pos}(hg:Gl X x)(hm:X.mg x=Wx u)(r:RelV v u)(hd:(x==("__debug__" : Str))=WA:=by decide):PE X (.Name x pos) (tC v):=λ_ _ _ H _ I h=>ZcG I hg hm ⟨v,H,I,r,h⟩ hd
def ZqA{x:Str}{v:V}{u:Yj}{pos:Pos}(hg:Gl X x)(hm:X.mg x=Wy)(hv:bootBuiltins x=Wx u)(r:RelV v u)(hn:x ≠ "__name__" := by decide)(hd:(x==("__debug__" : Str))=WA:=by decide):PE X (.Name x pos) (tC v):=λ_ _ _ H _ I h=>Zde I hg hm hv ⟨v,H,I,r,h⟩ hn hd
variable {a b:Expr}{ta tb:TE}{pos:Pos}
variable {tA tB':TT}{rest:List Expr}
noncomputable def ZwL(t u:TT):TT:=λZ H Q=>t Z H λc H1=>if c=Wz then u Z H1 Q else Q WA H1
noncomputable def tOr(t u:TT):TT:=λZ H Q=>t Z H λc H1=>if c=Wz then Q Wz H1 else u Z H1 Q
noncomputable def ZwD(t:TT):TT:=λZ H Q=>t Z H λc H1=>Q (!c) H1
def Zqe(ha:PT X a tA):PW X (.BoolOp .And [a] pos) tA:=by
 intro wh pins s Z H Q I h;refine isTrue_and (thn (ha pins s Z H Q I h) λc s1 e=>?_);cases c with
 |true=>exact isTrue_and_nil e
 |false=>exact e
def ZsL(ha:PT X a tA):PW X (.BoolOp .Or [a] pos) tA:=by
 intro wh pins s Z H Q I h;refine isTrue_or (thn (ha pins s Z H Q I h) λc s1 e=>?_);cases c with
 |false=>exact isTrue_or_nil e
 |true=>exact e
def ZsM(ha:PT X a tA)(hb:PW X (.BoolOp .And (b::rest) pos) tB'):PW X (.BoolOp .And (a::b::rest) pos) (ZwL tA tB'):=by
 intro wh pins s Z H Q I h;refine isTrue_and (thn (ha pins s Z H _ I h) λc s1 ⟨H1,I1,q1⟩=>?_);cases c with
 |true=>exact hb wh pins s1 Z H1 Q I1 q1
 |false=>exact⟨H1,I1,q1⟩
def Zu6(ha:PT X a tA)(hb:PW X (.BoolOp .Or (b::rest) pos) tB'):PW X (.BoolOp .Or (a::b::rest) pos) (tOr tA tB'):=by
 intro wh pins s Z H Q I h;refine isTrue_or (thn (ha pins s Z H _ I h) λc s1 ⟨H1,I1,q1⟩=>?_);cases c with
 |true=>exact⟨H1,I1,q1⟩
 |false=>exact hb wh pins s1 Z H1 Q I1 q1
def ZsO(ha:PT X a tA):PT X (.UnaryOp .Not a pos) (ZwD tA):=by intro pins s Z H Q I h;exact isTrue_not (ha pins s Z H (λc H1=>Q (!c) H1) I h)
noncomputable def ZuL(ta tb:TE):TE:=λZ H Q=>ta Z H λx H1=>∃c,x=.bl c/\if c=Wz then tb Z H1 Q else Q (.bl WA) H1
noncomputable def ZwC(ta tb:TE):TE:=λZ H Q=>ta Z H λx H1=>∃c,x=.bl c/\if c=Wz then Q (.bl Wz) H1 else tb Z H1 Q
noncomputable def ZuE(ta:TE):TE:=λZ H Q=>ta Z H λx H1=>∃c,x=.bl c/\Q (.bl (!c)) H1
def Zn5{op}{t:TE}(h:PE X a t):PE X (.BoolOp op [a] pos) t:=λpins s Z H Q I hw=>BoolOp_one (h pins s Z H Q I hw)
def Zs6(ha:PE X a ta)(hb:PE X (.BoolOp .And (b::rest) pos) tb):PE X (.BoolOp .And (a::b::rest) pos) (ZuL ta tb):=by
 intro pins s Z H Q I h;refine BoolOp_and (thn (ha pins s Z H _ I h) λv s1 ⟨x,H1,I1,r1,q1⟩=>?_);obtain⟨c,rfl,q1⟩:=q1;cases r1;refine wpAny_truthy_bool ?_;cases c with
 |true=>exact hb pins s1 Z H1 Q I1 q1
 |false=>exact⟨.bl WA,H1,I1,rfl,q1⟩
def Zva(ha:PE X a ta)(hb:PE X (.BoolOp .Or (b::rest) pos) tb):PE X (.BoolOp .Or (a::b::rest) pos) (ZwC ta tb):=by
 intro pins s Z H Q I h;refine BoolOp_or (thn (ha pins s Z H _ I h) λv s1 ⟨x,H1,I1,r1,q1⟩=>?_);obtain⟨c,rfl,q1⟩:=q1;cases r1;refine wpAny_truthy_bool ?_;cases c with
 |false=>exact hb pins s1 Z H1 Q I1 q1
 |true=>exact⟨.bl Wz,H1,I1,rfl,q1⟩
def Zs1(ha:PE X a ta):PE X (.UnaryOp .Not a pos) (ZuE ta):=by intro pins s Z H Q I h;refine UnaryOp_ (thn (ha pins s Z H _ I h) λv s1 ⟨x,H1,I1,r1,q1⟩=>?_);obtain⟨c,rfl,q1⟩:=q1;cases r1;exact not_of (wpAny_truthy_bool ⟨.bl (!c),H1,I1,rfl,q1⟩)
noncomputable def tIf(t:TT)(ta tb:TE):TE:=λZ H Q=>t Z H λc H1=>if c=Wz then ta Z H1 Q else tb Z H1 Q
def Zoa{c:Expr}(hc:PT X c tA)(ha:PE X a ta)(hb:PE X b tb):PE X (.IfExp c a b pos) (tIf tA ta tb):=by
 intro pins s Z H Q I h;refine wpAny_IfExp (thn (hc pins s Z H _ I h) λd s1 ⟨H1,I1,q1⟩=>?_);cases d with
 |true=>exact ha pins s1 Z H1 Q I1 q1
 |false=>exact hb pins s1 Z H1 Q I1 q1
end
def SqL(K:Yk)(H:Hp)(a:Yi)(xs:List V):Prop:=
 Rd H a (.lst xs) \/
  ∃(o:Obj) (its:Array Yj) (n:Nat),K.lookup a=Wx o/\o.cls=.type "list" /\ o.dict=Wy/\o.data=.seq its n/\its.size<=sizeLine/\Zn xs its.toList
def SqT(K:Yk)(H:Hp)(a:Yi)(xs:List V):Prop:=
 Rd H a (.tup xs) \/
  ∃(o:Obj) (its:Array Yj) (n:Nat),K.lookup a=Wx o/\o.cls=.type "tuple" /\ o.data=.seq its n/\its.size<=sizeLine/\Zn xs its.toList
noncomputable def Zxy:Yj->Option V
 |.none=>Wx .non
 |.bool b=>Wx (.bl b)
 |.int i _=>Wx (.int i)
 |.str x _=>Wx (.str x)
 |.bytes b _=>Wx (.byt b)
 |.float b _=>Wx (.flt b)
 |.ref a=>Wx (.ref a)
 |.type n=>Wx (.ty n)
 |_=>Wy
def RelV.abs{x:V}{u:Yj}(r:RelV x u):Zxy u=Wx x:=by
 cases x with
 |non=>cases r;rfl
 |bl _=>cases r;rfl
 |int _=>obtain⟨t,rfl⟩:=r;rfl
 |str _=>obtain⟨t,rfl⟩:=r;rfl
 |byt _=>obtain⟨t,rfl⟩:=r;rfl
 |flt _=>obtain⟨t,rfl⟩:=r;rfl
 |ref _=>cases r;rfl
 |ty _=>cases r;rfl
def RelV.inj{x y:V}{u:Yj}(r:RelV x u)(q:RelV y u):x=y:=YF (r.abs.symm.trans q.abs)
theorem Zn.inj:∀{xs ys:List V}{us:List Yj},Zn xs us->Zn ys us->xs=ys
 |_,_,_,.nil,.nil=>rfl
 |_,_,_,.cons r t,.cons r' t'=>by rw[r.inj r',Zn.inj t t']
section
variable {X:Cx}{pins:List (Yi×Obj)}{Z:St}{H:Hp}{s:Yb}{a:Yi}{xs ys:List V}
def SqL.of{K:Yk}(h:H a=Wx (.lst xs)):SqL K H a xs:=.inl (.inl h)
def Inv.list(I:Inv X pins Z H s)(h:SqL X.K H a xs):∃its:List Yj,Zn xs its/\PlainL s.heap a its.toArray/\xs.length<=sizeLine:=by
 rcases h with h|⟨o,its,n,hk,hc,hd,hs,hz,r⟩
 . obtain⟨z,its,n,r,e⟩:=h.ok I.hok;exact⟨its,r,⟨_,n,e,rfl,rfl,rfl⟩,z⟩
 . refine⟨its.toList,r,⟨o,n,I.kIn a o hk,hc,hd,by simpa using hs⟩,?_⟩;have e:=r.length;simp only[Array.length_toList]at e
   lia
def Inv.tuple(I:Inv X pins Z H s)(h:SqT X.K H a xs):∃its:List Yj,Zn xs its/\IsTup s.heap a its.toArray/\xs.length<=sizeLine:=by
 rcases h with h|⟨o,its,n,hk,hc,hs,hz,r⟩
 . obtain⟨z,its,r,p⟩:=h.ok I.hok;exact⟨its,r,p.tup,z⟩
 . refine⟨its.toList,r,⟨o,I.kIn a o hk,hc,n,by simpa using hs⟩,?_⟩;have e:=r.length;simp only[Array.length_toList]at e
   lia
def Inv.list_inj(I:Inv X pins Z H s)(h:SqL X.K H a xs)(h':SqL X.K H a ys):xs=ys:=by
 obtain⟨its,r,⟨o,n,e,_,_,d⟩,_⟩:=I.list h;obtain⟨its',r',⟨o',n',e',_,_,d'⟩,_⟩:=I.list h';rw[e]at e';cases e';rw[d]at d';injection d' with d1 _;have:its=its':=by simpa using congrArg Array.toList d1
 subst this;exact r.inj r'
def Inv.tuple_inj(I:Inv X pins Z H s)(h:SqT X.K H a xs)(h':SqT X.K H a ys):xs=ys:=by
 obtain⟨its,r,⟨o,e,_,n,d⟩,_⟩:=I.tuple h;obtain⟨its',r',⟨o',e',_,n',d'⟩,_⟩:=I.tuple h';rw[e]at e';cases e';rw[d]at d';injection d' with d1 _;have:its=its':=by simpa using congrArg Array.toList d1
 subst this;exact r.inj r'
end
noncomputable abbrev Cx.wish(X:Cx)(E:Yj->Yb->Prop):Cx:={X with xe:=E}
noncomputable abbrev Cx.nox(X:Cx):Cx:=X.wish λ_ _=>False
theorem Cx.Ok.wish{X:Cx}(ok:X.Ok)(E:Yj->Yb->Prop):(X.wish E).Ok:=⟨ok.mod,ok.kind,ok.glob,ok.blt,ok.above,ok.inj,ok.has,ok.cab,ok.hd,ok.frames,ok.stk,ok.exf,ok.bs,ok.bsz,ok.noex,ok.exfs,ok.funs,ok.frf⟩
def Cx.Ok.unwish{X:Cx}{E:Yj->Yb->Prop}(ok:(X.wish E).Ok):X.Ok:=⟨ok.mod,ok.kind,ok.glob,ok.blt,ok.above,ok.inj,ok.has,ok.cab,ok.hd,ok.frames,ok.stk,ok.exf,ok.bs,ok.bsz,ok.noex,ok.exfs,ok.funs,ok.frf⟩
section
variable {X:Cx}{pins:List (Yi×Obj)}{Z:St}{H:Hp}{s:Yb}{E:Yj->Yb->Prop}
theorem Inv.wish(I:Inv X pins Z H s)(E:Yj->Yb->Prop):Inv (X.wish E) pins Z H s:=⟨I.ok.wish E,I.os,I.bare,I.base,I.loc,I.cell,I.free,I.freeC,I.pin,I.hok,I.len⟩
theorem Inv.unwish(I:Inv (X.wish E) pins Z H s):Inv X pins Z H s:=⟨I.ok.unwish,I.os,I.bare,I.base,I.loc,I.cell,I.free,I.freeC,I.pin,I.hok,I.len⟩
end
section
variable {X:Cx}{st:Stmt}{rest:List Stmt}{t u:TS}{e:Expr}{te:TE}{pos:Pos}
noncomputable def ZrD:TS:=λD Z H=>D.nx Z H
noncomputable def ZwA(t u:TS):TS:=λD Z H=>t {D with nx:=u D} Z H
def Zqi:PSs X [] ZrD:=λ_ _ Z H _ I h=>wpAny_execs_nil ⟨Z,H,I,h⟩
def ZnV(h1:PS X st t)(h2:PSs X rest u):PSs X (st::rest) (ZwA t u):=by
 intro pins s Z H D I h;refine wpAny_execs_cons (thn (h1 pins s Z H {D with nx:=u D} I h) λf s1 q=>?_);cases f with
 |next=>obtain⟨σ',H',I',q⟩:=q;exact h2 pins s1 σ' H' D I' q
 |ret v=>exact q
 |brk=>exact q
 |cont=>exact q
def Zqh(h1:PS X st t):PSs X [st] t:=by
 intro pins s Z H D I h;refine wpAny_execs_cons (thn (h1 pins s Z H D I h) λf s1 q=>?_);cases f with
 |next=>exact wpAny_execs_nil q
 |ret v=>exact q
 |brk=>exact q
 |cont=>exact q
noncomputable def Zss:TS:=λD Z H=>D.bk Z H
noncomputable def ZuI:TS:=λD Z H=>D.ct Z H
def Zqj:PS X (.Pass pos) ZrD:=λ_ _ Z H _ I h=>wpAny_Pass ⟨Z,H,I,h⟩
def ZnY:PS X (.Break pos) Zss:=λ_ _ Z H _ I h=>wpAny_Break ⟨Z,H,I,h⟩
def ZiY:PS X (.Continue pos) ZuI:=λ_ _ Z H _ I h=>wpAny_Continue ⟨Z,H,I,h⟩
def Inv.quiet{pins:List (Yi×Obj)}{Z:St}{H:Hp}{s:Yb}(I:Inv X pins Z H s):interactive X.env=WA:=by simp[interactive,I.ok.kind]
noncomputable def ZuG(te:TE):TS:=λD Z H=>te Z H λ_ H1=>D.nx Z H1
def Zqk(he:PE X e te)(hs:swapsWith e Wy pos.line X.env=pure WA:=by rfl):PS X (.Expr e pos) (ZuG te):=by intro pins s Z H D I h;exact wpAny_Expr_any (thn (he pins s Z H _ I h) λv s1 ⟨x,H1,I1,r1,q1⟩=>⟨Z,H1,I1,q1⟩) I.quiet hs
noncomputable def ZwB(te:TE):TS:=λD Z H=>te Z H D.rt
def ZsP(he:PE X e te):PS X (.Return (Wx e) pos) (ZwB te):=by intro pins s Z H D I h;exact wpAny_Return_some (thn (he pins s Z H _ I h) λv s1 ⟨x,H1,I1,r1,q1⟩=>⟨x,Z,H1,I1,r1,q1⟩)
noncomputable def ZwF(c:TT)(t u:TS):TS:=λD Z H=>c Z H λb H1=>if b=Wz then t D Z H1 else u D Z H1
def Zu7{c:Expr}{a b:List Stmt}{tc:TT}(hc:PT X c tc)(ha:PSs X a t)(hb:PSs X b u):PS X (.If c a b pos) (ZwF tc t u):=by
 intro pins s Z H D I h;refine wpAny_If (thn (hc pins s Z H _ I h) λd s1 ⟨H1,I1,q1⟩=>?_);cases d with
 |true=>exact ha pins s1 Z H1 D I1 q1
 |false=>exact hb pins s1 Z H1 D I1 q1
end
abbrev TG:=V->St->Hp->(St->Hp->Prop)->Prop
abbrev TGs:=List V->St->Hp->(St->Hp->Prop)->Prop
def PG(X:Cx)(target:Expr)(t:TG):Prop:=
 ∀(pins:List (Yi×Obj)) (s:Yb) (Z:St) (H:Hp) (v:V) (u:Yj) (Q:St->Hp->Prop),Inv X pins Z H s->RelV v u->t v Z H Q ->
  YB (model X.prog X.w) X.A (assign target X.env u) (λ_ s'=>∃σ' H',Inv X pins σ' H' s'/\Q σ' H') X.xe s
def PGs(X:Cx)(ts:List Expr)(t:TGs):Prop:=
 ∀(pins:List (Yi×Obj)) (s:Yb) (Z:St) (H:Hp) (vs:List V) (us:List Yj) (Q:St->Hp->Prop),Inv X pins Z H s->Zn vs us->t vs Z H Q ->
  YB (model X.prog X.w) X.A (assignInOrder ((assignEach ts X.env).map (·.2)) us) (λ_ s'=>∃σ' H',Inv X pins σ' H' s'/\Q σ' H') X.xe s
abbrev ZpA:=V->V->V->Hp->(Hp->Prop)->Prop
def Zry(X:Cx)(t:ZpA):Prop:=
 ∀(pins:List (Yi×Obj)) (s:Yb) (Z:St) (H:Hp) (o i v:V) (ov iv u:Yj) (Q:Hp->Prop),Inv X pins Z H s->RelV o ov->RelV i iv->RelV v u->t o i v H Q ->
  YB (model X.prog X.w) X.A (setItem ov iv u) (λ_ s'=>∃H',Inv X pins Z H' s'/\Q H') X.xe s
abbrev TIp:=V->V->Hp->VK->Prop
def PIp(X:Cx)(op:Operator)(t:TIp):Prop:=
 ∀(pins:List (Yi×Obj)) (s:Yb) (Z:St) (H:Hp) (x y:V) (v u:Yj) (Q:VK),Inv X pins Z H s->RelV x v->RelV y u->t x y H Q ->
  YB (model X.prog X.w) X.A (inplaceOp op v u) (EP X pins Z Q) X.xe s
section
variable {X:Cx}{pos:Pos}
noncomputable def Zdg(i:Nat):TG:=λv Z H Q=>Q (Z.set i (Wx v)) H
def Zfu{i:Nat}{x:Str}(hN:X.N.Nodup)(hi:X.N[i]? = Wx x)(hx:Loc X.env.scope x)(hf:X.fn x=Wz\/X.env.scope.names.lookup x=Wx .local:=by first|exact .inl rfl|exact .inr rfl|assumption):PG X (.Name x pos) (Zdg i):=by intro pins s Z H v u Q I r h;exact wpAny_assign_Name (Zeh I hN hi hx r (λs' I'=>⟨_,H,I',h⟩) hf)
noncomputable def Zrb:TGs:=λvs Z H Q=>vs=[]/\Q Z H
noncomputable def Zjp(t:TG)(u:TGs):TGs:=λvs Z H Q=>∃v r,vs=v::r/\t v Z H λσ' H'=>u r σ' H' Q
def ZlI:PGs X [] Zrb:=by intro pins s Z H vs us Q I r h;obtain⟨e,h⟩:=h;subst e;cases r;exact assignInOrder_nil ⟨Z,H,I,h⟩
def Zf7{e:Expr}{es:List Expr}{t:TG}{u:TGs}(h1:PG X e t)(h2:PGs X es u)
 (hs:(assignEach (e::es) X.env).map (·.2)=assign e X.env::(assignEach es X.env).map (·.2):=by rfl):PGs X (e::es) (Zjp t u):=by
 intro pins s Z H vs us Q I r h;obtain⟨v,vr,e1,h⟩:=h;subst e1;cases r with
 |cons r rr=>rw[hs];refine assignInOrder_cons (thn (h1 pins s Z H _ _ _ I r h) λ_ s1 ⟨σ1,H1,I1,q1⟩=>?_);exact h2 pins s1 σ1 H1 _ _ Q I1 rr q1
noncomputable def Zra(K:Yk)(n:Nat)(t:TGs):TG:=λv Z H Q=>∃a xs,v=.ref a/\SqT K H a xs/\xs.length=n/\t xs Z H Q
def Zn3{es:List Expr}{k:Nat}{t:TGs}{n:Nat}(hc:X.calm=Wz)(h:PGs X es t)
 (hn:(assignEach es X.env).length=n:=by rfl) (hst:(assignEach es X.env).findIdx? (·.1)=Wy:=by rfl):PG X (.Tuple es k pos) (Zra X.K n t):=by
 intro pins s Z H v u Q I r hw;obtain⟨a,xs,e1,hq,hl,hw⟩:=hw;subst e1;cases r;obtain⟨its,rv,ht,hz⟩:=I.tuple hq;refine assign_Tuple_tuple (I.ok.hd hc) ht (by simp[hn,<- hl,rv.length]) hst λh' hx=>?_;have I1:Inv X pins Z H {s with heap:=h'}:=I.kept (t':=s.toks) λb o e=>hx b o (Ou (Yn e)) e;exact h pins _ Z H xs _ Q I1 (by simpa using rv) hw
noncomputable def Zxh(to ti:TE)(t:ZpA):TG:=λv Z H Q=>to Z H λo H1=>ti Z H1 λi H2=>t o i v H2 λH3=>Q Z H3
def ZsX{o i:Expr}{to ti:TE}{t:ZpA}(ho:PE X o to)(hi:PE X i ti)(hs:Zry X t)
 (ha:∀v,assign (.Subscript o i pos) X.env v=(do
  let ov <- holding [v] (eval o X.env);let iv <- holding [v,ov] (eval i X.env)
  standAt pos
  holding [v,ov,iv] (setItem ov iv v)
  release [v,ov,iv] []):=by intro _;rfl):PG X (.Subscript o i pos) (Zxh to ti t):=by
 intro pins s Z H v u Q I r h;rw[ha];refine Ya (Wi (thn (ho pins s Z H _ I h) λov s1 ⟨x,H1,I1,r1,q1⟩=>?_));refine Ya (Wi (thn (hi pins s1 Z H1 _ I1 q1) λiv s2 ⟨y,H2,I2,r2,q2⟩=>?_));refine Ya (wpAny_standAt (Ya (Wi (thn (hs pins s2 Z H2 x y v ov iv u _ I2 r1 r2 r q2) λ_ s3 ⟨H3,I3,q3⟩=>?_))));exact wpAny_release ⟨Z,H3,I3,q3⟩
noncomputable def Znu(te:TE)(g:TG):TS:=λD Z H=>te Z H λx H1=>g x Z H1 D.nx
def Zkg{tg e:Expr}{te:TE}{g:TG}(he:PE X e te)(hg:PG X tg g)(hs:swapsWithSole [tg] e pos.line X.env=pure WA:=by rfl)(hw:swappedStores [tg] e X.env=pure Wy:=by rfl)
 (h1:(assignEach [tg] X.env).map (·.2)=[assign tg X.env]:=by rfl):PS X (.Assign [tg] e pos) (Znu te g):=by
 intro pins s Z H D I h;refine wpAny_Assign_stores (thn (he pins s Z H _ I h) λv s1 ⟨x,H1,I1,r1,q1⟩=>?_) hs hw;rw[h1];exact thn (hg pins s1 Z H1 x v _ I1 r1 q1) λ_ s2 q=>q
def Zkf{i:Nat}{x:Str}{e:Expr}{te:TE}{pos':Pos}(hN:X.N.Nodup)(hi:X.N[i]? = Wx x)(hx:Loc X.env.scope x)(he:PE X e te)(hs:swapsWith e (Wx (.Name x pos')) pos.line X.env=pure WA:=by rfl)(hf:X.fn x=Wz\/X.env.scope.names.lookup x=Wx .local:=by first|exact .inl rfl|exact .inr rfl|assumption):
 PS X (.Assign [.Name x pos'] e pos) (Znu te (Zdg i)):=by
 intro pins s Z H D I h;refine wpAny_Assign_Name (thn (he pins s Z H _ I h) λv s1 ⟨y,H1,I1,r1,q1⟩=>?_) hs;exact Zeh I1 hN hi hx r1 (λs2 I2=>⟨_,H1,I2,q1⟩) hf
noncomputable def ZwK(i:Nat)(te:TE)(ti:TIp):TS:=λD Z H=>∃x,Z[i]? = Wx (Wx x)/\te Z H λy H1=>ti x y H1 λz H2=>D.nx (Z.set i (Wx z)) H2
def ZsS{i:Nat}{x:Str}{e:Expr}{te:TE}{op:Operator}{ti:TIp}{pos':Pos}(hN:X.N.Nodup)(hi:X.N[i]? = Wx x)(hx:Loc X.env.scope x)(he:PE X e te)(ho:PIp X op ti)(hf:X.fn x=Wz\/X.env.scope.names.lookup x=Wx .local:=by first|exact .inl rfl|exact .inr rfl|assumption):
 PS X (.AugAssign (.Name x pos') op e pos) (ZwK i te ti):=by
 intro pins s Z H D I h;obtain⟨v,e1,h⟩:=h;obtain⟨m,hn,hl⟩:=I.loc;have vis:Vis X.env.scope x:=by rcases hx with k|k;exact .inl k;exact .inr (.inl k)
 obtain⟨u,r,l⟩:=hl i x v hi e1 vis;refine wpAny_AugAssign_Name ?_;have go:YB (model X.prog X.w) X.A (eval e X.env) (λw s₂=>YB (model X.prog X.w) X.A (inplaceOp op u w) (λr s₃=>YB (model X.prog X.w) X.A (storeName X.env x r) (λ_=>SP X pins D .next) X.xe s₃) X.xe s₂) X.xe s:=by refine thn (he pins s Z H _ I h) λw s1 ⟨y,H1,I1,r1,q1⟩=>?_;refine thn (ho pins s1 Z H1 v y u w _ I1 r r1 q1) λz s2 ⟨zv,H2,I2,r2,q2⟩=>?_;exact Zeh I2 hN hi hx r2 (λs3 I3=>⟨_,H2,I3,q2⟩) hf
 rcases l with ⟨hk,hm⟩|⟨hk,c,hc,hcell⟩
 . exact wpAny_loadName_local I.ok.kind hk hn hm go
 . rcases hk with hk|hk
   . exact wpAny_loadName_cell I.ok.kind hk hc hcell go
   . rcases hx with k|k
     . have:X.env.scope.names.lookup x=Wx .free:=hk;rw[k]at this;cases this
     . have:X.env.scope.names.lookup x=Wx .free:=hk;rw[k]at this;cases this
noncomputable def ipI(f:Int->Int->Int):TIp:=λx y H Q=>∃i j,x=.int i/\y=.int j/\Q (.int (f i j)) H
def ZtM:PIp X .Add (ipI λi j=>i+j):=by intro pins s Z H x y v u Q I r1 r2 h;obtain⟨i,j,e1,e2,q⟩:=h;subst e1;subst e2;obtain⟨t,rfl⟩:=r1;obtain⟨t',rfl⟩:=r2;exact iadd_int ⟨.int _,H,I.tok _,⟨_,rfl⟩,q⟩
end
section
variable {X:Cx}{pos:Pos}
noncomputable def Zso(c:TT)(tb:TS):TS:=λD Z H=>∃W:Nat->St->Hp->Prop,(∃m,W m Z H)/\∀m Z H,W m Z H ->
 c Z H λb H1=>if b=Wz then ∃N:St->Hp->Prop,(∀σ' H',N σ' H'->∃m',m'<m/\W m' σ' H')/\tb {D with nx:=N,ct:=N,bk:=D.nx} Z H1 else D.nx Z H1
def ZnW{c:Expr}{body:List Stmt}{tc:TT}{tb:TS}(hp:PassesOwn (model X.prog X.w) X.A X.env X.xe)(hc:PT X c tc)(hb:PSs X body tb):PS X (.While c body [] pos) (Zso tc tb):=by
 intro pins s Z H D I h;obtain⟨W,⟨m0,w0⟩,turn⟩:=h;refine wpAny_While (codeAny_whileLoop (λn s'=>∃σ' H',Inv X pins σ' H' s'/\W n σ' H') ?_ m0 ⟨Z,H,I,w0⟩);rintro n s1 ⟨σ1,H1,I1,w1⟩;refine wpAny_passesOwn hp (thn (hc pins s1 σ1 H1 _ I1 (turn n σ1 H1 w1)) λb s2 ⟨H2,I2,q2⟩=>?_);cases b with
 |true=>
  obtain⟨N,hN,q2⟩:=q2;rw[if_pos rfl];refine wpAny_passesOwn hp (thn (hb pins s2 σ1 H2 _ I2 q2) λf s3 q3=>?_);cases f with
  |next=>obtain⟨σ3,H3,I3,n3⟩:=q3;obtain⟨m',hm,w3⟩:=hN σ3 H3 n3;exact⟨m',hm,σ3,H3,I3,w3⟩
  |cont=>obtain⟨σ3,H3,I3,n3⟩:=q3;obtain⟨m',hm,w3⟩:=hN σ3 H3 n3;exact⟨m',hm,σ3,H3,I3,w3⟩
  |brk=>exact q3
  |ret v=>exact q3
 |false=>rw[if_neg Ow];exact wpAny_execs_nil ⟨σ1,H2,I2,q2⟩
end
structure It where
 go:Nat->Hp->Prop
 yld:Nat->Hp->V->Hp->Prop
 stop:Nat->Hp->Prop
def Zbt(X:Cx)(pins:List (Yi×Obj))(H:Hp)(b:Yi):Prop:=H b=Wy/\b≠X.env.locals/\b ∉ X.fs/\(b∈X.ex\/X.s₀.heap.objs.size<=b)/\(∀x c,X.env.cells.lookup x=Wx c->c≠b)/\∀p∈X.pn++pins,p.1≠b
def Inv.fpOk{X:Cx}{pins:List (Yi×Obj)}{Z:St}{H H':Hp}{s:Yb}{b:Yi}(I:Inv X pins Z H s)(hb:s.heap.objs.size<=b)(hn:H' b=Wy):Zbt X pins H' b:=by
 refine⟨hn,Nat.ne_of_gt (O4 I.lt hb),I.nofs hb,.inr (OE I.sz hb),λx c e z=>?_,λp hp z=>?_⟩
 . obtain⟨v,q⟩:=I.cell x c e;exact absurd (O4 q.lt (by rw[z];exact hb)) (Yw _)
 . exact absurd (O4 (Yn (I.pin p hp).1) (by rw[z];exact hb)) (Yw _)
structure Turn(P:Yh)(w:Yg)(K:Yk)(tg:Expr)(J:It)(fp:List Yi)(it:Yi)(tn:Nat->YG->Prop):Prop where
 mem:it∈fp
 obj:∀i h,tn i h->∀b∈fp,∃o,h.get? b=Wx o/\∀v,o.data≠.cell v
 keep:∀i h h',tn i h->(∀b∈fp,∀o,h.get? b=Wx o->h'.get? b=Wx o)->tn i h'
 item:∀(X:Cx),X.prog=P->X.w=w->X.K=K->X.calm=Wz->∀(i:Nat) (pins:List (Yi×Obj)) (s:Yb) (Z:St) (H:Hp) (E:Yj->Yb->Prop),Inv X pins Z H s->(∀b∈fp,Zbt X pins H b)->tn i s.heap->J.go i H ->
  YB (model P w) X.A (pyNext (.ref it)) (λr s1=>∃u,r=Wx u /\
   YB (model P w) X.A (letOwnedTupleGo tg (.ref it) u) (λ_ s2=>∃x H',Inv X pins Z H' s2/\RelV x u/\J.yld i H x H'/\tn (i+1) s2.heap/\∀b∈fp,H' b=Wy) E s1) E s
 done:∀(X:Cx),X.prog=P->X.w=w->X.K=K->X.calm=Wz->∀(i:Nat) (pins:List (Yi×Obj)) (s:Yb) (Z:St) (H:Hp) (E:Yj->Yb->Prop),Inv X pins Z H s->(∀b∈fp,Zbt X pins H b)->tn i s.heap->J.stop i H ->
  YB (model P w) X.A (pyNext (.ref it)) (λr s1=>r=Wy/\Inv X pins Z H s1) E s
 self:∀(A:YH) (i:Nat) (s:Yb) (Q:Yj->Yb->Prop) (E:Yj->Yb->Prop),tn i s.heap->Q (.ref it) s->YB (model P w) A (pyIter (.ref it)) Q E s
abbrev TI:=St->Hp->(It->Hp->Prop)->Prop
def PIE(X:Cx)(pins:List (Yi×Obj))(Z:St)(tg:Expr)(R:It->Hp->Prop)(itv:Yj)(s2:Yb):Prop:=∃(it:Yi) (fp:List Yi) (tn:Nat->YG->Prop) (J:It) (H':Hp),itv=.ref it/\Inv X pins Z H' s2/\Turn X.prog X.w X.K tg J fp it tn/\tn 0 s2.heap/\(∀b∈fp,Zbt X pins H' b)/\R J H'
def PI(X:Cx)(tg iter:Expr)(wi:TI):Prop:=
 ∀(pins:List (Yi×Obj)) (s:Yb) (Z:St) (H:Hp) (R:It->Hp->Prop),Inv X pins Z H s->wi Z H R ->
  YB (model X.prog X.w) X.A (eval iter X.env) (λv s1=>YB (model X.prog X.w) X.A (pyIter v) (PIE X pins Z tg R) X.xe s1) X.xe s
theorem Zhm{M:Model}{A:YH}{E:Yj->Yb->Prop}{s:Yb}{tg:Expr}{it:Yi}{u:Yj}{o:Obj}{n:String}{vs:Array Yj}{Q:Unit->Yb->Prop}(ho:s.heap.get? it=Wx o)(hc:o.cls=.type n)(hd:o.data=.fields vs)
   (hn:["enumerate", "zip", "dict_itemiterator", "dict_reverseitemiterator", "odict_iterator", "itertools.zip_longest", "itertools.pairwise"].contains n=WA) (hQ:Q () s):YB M A (letOwnedTupleGo tg (.ref it) u) Q E s:=by
 unfold letOwnedTupleGo;cases tg<;>first
   | exact Yc hQ
   | (cases u<;>first
       | exact Yc hQ
       | (refine Ya (wpAny_load ho ?_)
          rw [hc,hd];show YB M A (if (["enumerate", "zip", "dict_itemiterator", "dict_reverseitemiterator", "odict_iterator", "itertools.zip_longest", "itertools.pairwise"].contains n&&vs[0]?==Wx (rawInt _))=Wz then _ else _) Q E s;rw [if_neg (by intro h;rw [hn,Bool.false_and] at h;cases h)];exact Yc hQ))
noncomputable def Itl(K:Yk)(a:Yi):It:=⟨λi H=>∃xs x,SqL K H a xs/\xs[i]? = Wx x,λi H x H'=>H'=H/\∀xs,SqL K H a xs->xs[i]? = Wx x,λi H=>∃xs,SqL K H a xs/\xs.length<=i⟩
noncomputable def Itt(K:Yk)(a:Yi):It:=⟨λi H=>∃xs x,SqT K H a xs/\xs[i]? = Wx x,λi H x H'=>H'=H/\∀xs,SqT K H a xs->xs[i]? = Wx x,λi H=>∃xs,SqT K H a xs/\xs.length<=i⟩
noncomputable def Itr(lo:Int)(n:Nat):It:=⟨λi _=>i<n,λi H x H'=>H'=H/\x=.int (lo+i),λi _=>n<=i⟩
def Zmg{P:Yh}{w:Yg}{K:Yk}{tg:Expr}(a it:Yi):Turn P w K tg (Itl K a) [it] it (λi h=>h.IsListIter it a i) where
 mem:=by simp
 obj:=λi h st b hb=>by
  have e:b=it:=by simpa using hb
  subst e;obtain⟨o,e,c,d⟩:=st;exact⟨o,e,λv z=>by rw[d]at z;cases z⟩
 keep:=λi h h' st k=>st.at λo e=>k it (by simp) o e
 item:=by intro X hP hw hK hc i pins s Z H E I hf st hg;subst hP hw hK;obtain⟨xs,x,hq,hx⟩:=hg;obtain⟨its,rv,p,hz⟩:=I.list hq;obtain⟨u,hu,ru⟩:=rv.get hx;obtain⟨f0,f1,f2,f3,f4,f5⟩:=hf it (by simp);refine wpAny_pyNext_list_item st p.isList (x:=u) (by simpa using hu) λh' st' sb=>?_;have I1:Inv X pins Z H {s with heap:=h'}:=I.turned (t':=s.toks) (λb o hb e=>(sb.2 b hb).trans e) f0 f1 f3 f4 f5;obtain⟨o,e,c,d⟩:=id st';exact⟨u,rfl,Zhm (s:={s with heap:=h'}) e c d (by decide) ⟨x,H,I1,ru,⟨rfl,λys hy=>by rw[I.list_inj hy hq];exact hx⟩,st',λb hb=>(hf b hb).1⟩⟩
 done:=by intro X hP hw hK hc i pins s Z H E I hf st hg;subst hP hw hK;obtain⟨xs,hq,hx⟩:=hg;obtain⟨its,rv,p,hz⟩:=I.list hq;obtain⟨f0,f1,f2,f3,f4,f5⟩:=hf it (by simp);have hl:=rv.length;exact wpAny_pyNext_list_end (I.ok.hd hc) st p.isList (by simp;lia) λh' eb=>⟨rfl,I.turned (t':=s.toks) (λb o hb e=>eb b o hb e) f0 f1 f3 f4 f5⟩
 self:=λ_ _ _ _ _ st h=>wpAny_pyIter_listiter st h
def Zj3{P:Yh}{w:Yg}{K:Yk}{tg:Expr}(a it:Yi):Turn P w K tg (Itt K a) [it] it (λi h=>h.IsTupleIter it a i) where
 mem:=by simp
 obj:=λi h st b hb=>by
  have e:b=it:=by simpa using hb
  subst e;obtain⟨o,e,c,d⟩:=st;exact⟨o,e,λv z=>by rw[d]at z;cases z⟩
 keep:=λi h h' st k=>st.at λo e=>k it (by simp) o e
 item:=by intro X hP hw hK hc i pins s Z H E I hf st hg;subst hP hw hK;obtain⟨xs,x,hq,hx⟩:=hg;obtain⟨its,rv,p,hz⟩:=I.tuple hq;obtain⟨u,hu,ru⟩:=rv.get hx;obtain⟨f0,f1,f2,f3,f4,f5⟩:=hf it (by simp);refine wpAny_pyNext_tuple_item st (show s.heap.IsTuple a its.toArray from p) (x:=u) (by simpa using hu) λh' st' sb=>?_;have I1:Inv X pins Z H {s with heap:=h'}:=I.turned (t':=s.toks) (λb o hb e=>(sb.2 b hb).trans e) f0 f1 f3 f4 f5;obtain⟨o,e,c,d⟩:=id st';exact⟨u,rfl,Zhm (s:={s with heap:=h'}) e c d (by decide) ⟨x,H,I1,ru,⟨rfl,λys hy=>by rw[I.tuple_inj hy hq];exact hx⟩,st',λb hb=>(hf b hb).1⟩⟩
 done:=by intro X hP hw hK hc i pins s Z H E I hf st hg;subst hP hw hK;obtain⟨xs,hq,hx⟩:=hg;obtain⟨its,rv,p,hz⟩:=I.tuple hq;obtain⟨f0,f1,f2,f3,f4,f5⟩:=hf it (by simp);have hl:=rv.length;exact wpAny_pyNext_tuple_end (I.ok.hd hc) st (show s.heap.IsTuple a its.toArray from p) (by simp;lia) λh' eb=>⟨rfl,I.turned (t':=s.toks) (λb o hb e=>eb b o hb e) f0 f1 f3 f4 f5⟩
 self:=λ_ _ _ _ _ st h=>wpAny_pyIter_tupleiter st h
theorem Zj4{P:Yh}{w:Yg}{K:Yk}{tg:Expr}(it:Yi)(lo:Int)(n:Nat):Turn P w K tg (Itr lo n) [it] it (fun i h=>IsRangeIter h it (lo+(i:Nat) * 1) ((n:Int) - (i:Nat)) 1) where
 mem:=by simp
 obj:=fun i h st b hb=>by
   have e:b=it:=by simpa using hb
   subst e;exact ⟨_,st,fun v z=>by
     have z':Data.fields _=Data.cell v:=z;cases z'⟩
 keep:=fun i h h' st k=>k it (by simp) _ st
 item:=by
   intro X hP hw hK hc i pins s Z H E I hf st hg;subst hP hw hK;obtain ⟨f0,f1,f2,f3,f4,f5⟩:=hf it (by simp);have W:=Walks.range (prog:=X.prog) (w:=X.w) (I.ok.hd hc) it lo 1 n;refine W.item i s _ _ hg st fun v h' tk hv st' kk=>?_;obtain ⟨t,rfl⟩:=hv;have I1:Inv X pins Z H {s with heap:=h',toks:=tk}:=I.turned (fun b o hb e=>kk b o (by simpa using hb) e) f0 f1 f3 f4 f5;refine ⟨_,rfl,Zhm (s:={s with heap:=h',toks:=tk}) (n := "range_iterator") st' rfl rfl (by decide) ⟨.int (lo+i),H,I1,⟨t,?_⟩,⟨rfl,rfl⟩,st',fun b hb=>(hf b hb).1⟩⟩;rw [Int.mul_one]
 done:=by
   intro X hP hw hK hc i pins s Z H E I hf st hg;subst hP hw hK;obtain ⟨f0,f1,f2,f3,f4,f5⟩:=hf it (by simp);exact wpAny_pyNext_range_end (I.ok.hd hc) st (by have:n<=i:=hg;lia) fun h' eb=>⟨rfl,I.turned (t':=s.toks) (fun b o hb e=>eb b o hb e) f0 f1 f3 f4 f5⟩
 self:=fun _ _ _ _ _ st h=>wpAny_pyIter_rangeiter st h
section
variable {X:Cx}{tg:Expr}
def ZnF{pins:List (Yi×Obj)}{Z:St}{H:Hp}{s:Yb}{R:It->Hp->Prop}{E:Yj->Yb->Prop}{lo hi:Int}{t u v:Tok}{tk:Nat}(I:Inv X pins Z H s)(h1:-(2 ^ 62)<=lo)(h2:lo<2 ^ 62)(h3:-(2 ^ 62)<=hi)(h4:hi<2 ^ 62)
 (q:R (Itr lo (hi - lo).toNat) H):YB (model X.prog X.w) X.A (pyIter (.ref s.heap.objs.size)) (PIE X pins Z tg R) E {s with heap:=s.heap.push {cls:=.type "range",data:=.fields #[.int lo t,.int hi u,.int 1 v]},toks:=tk}:=by
 refine wpAny_pyIter_range (IsRange.new ..) (small_one h1 h2 h3 h4) ?_;have I1:Inv X pins Z H {s with heap:=s.heap.push {cls:=.type "range",data:=.fields #[.int lo t,.int hi u,.int 1 v]},toks:=tk}:=I.kept λb o e=>O1 _ e;refine⟨(s.heap.push {cls:=.type "range",data:=.fields #[.int lo t,.int hi u,.int 1 v]}).objs.size,[(s.heap.push {cls:=.type "range",data:=.fields #[.int lo t,.int hi u,.int 1 v]}).objs.size],_,_,H,rfl,
  I1.kept (t':=tk) λb o e=>O1 _ e,Zj4 _ lo (hi - lo).toNat,?_,λb hb=>?_,q⟩
 . have e1:lo+((0:Nat):Int) * 1=lo:=by simp
   have e2:(((hi - lo).toNat:Nat):Int) - ((0:Nat):Int)=Builtin.Range.rangeSize lo hi 1:=by rw[rangeSize_one];split<;>lia
   show IsRangeIter _ _ (lo+((0:Nat):Int) * 1) ((((hi - lo).toNat:Nat):Int) - ((0:Nat):Int)) 1;rw[e1,e2];exact Oj _ rfl
 . have e:b=(s.heap.push {cls:=.type "range",data:=.fields #[.int lo t,.int hi u,.int 1 v]}).objs.size:=by simpa using hb
   subst e;exact I1.fpOk (Oq _) (I1.hok.fresh (Oq _))
noncomputable def ZvM(ta:TA):TI:=λZ H R=>ta Z H λvs H1=>∃j:Int,vs=[.int j]/\-(2 ^ 62)<=j/\j<2 ^ 62/\R (Itr 0 j.toNat) H1
def Zmz{a:Expr}{ta:TA}{p pos:Pos}(hg:Gl X "range")(hm:X.mg "range" = Wy)(ha:PA X [a] ta)(hs:YA [a] X.env=[(WA,eval a X.env)]:=by rfl):PI X tg (.Call (.Name "range" p) [a] [] pos) (ZvM ta):=by
 intro pins s Z H R I h;refine Call_ (Zde I hg hm boot_range (PyProof.Rows.callWith_type1 (thn (ha pos pins s Z H _ I h) λus s1 ⟨vs,H1,I1,r1,q1⟩=>?_) hs rfl));obtain⟨j,e,q1,q2,q⟩:=q1;subst e;cases r1 with
 |cons r rr=>cases rr;obtain⟨t,rfl⟩:=r;exact call_range_1 (ZnF I1 (by lia) (by lia) q1 q2 (by simpa using q))
noncomputable def ZwG(wi:TI)(g:TG)(tb:TS):TS:=λD Z H=>wi Z H λJ H1=>∃W:Nat->Nat->St->Hp->Prop,(∃m,W 0 m Z H1)/\∀i m Z H,W i m Z H ->
 (J.stop i H/\D.nx Z H)\/(J.go i H/\∃N:St->Hp->Prop,(∀σ' H',N σ' H'->∃m',m'<m/\W (i+1) m' σ' H')/\∀x H',J.yld i H x H'->g x Z H' λσ2 H2=>tb {D with nx:=N,ct:=N,bk:=D.nx} σ2 H2)
noncomputable def Zf6(fp:List Yi)(h:YG):List (Yi×Obj):=fp.filterMap λb=>(h.get? b).map λo=>(b,o)
def ZcE{fp:List Yi}{h:YG}{b:Yi}{o:Obj}(hb:b∈fp)(e:h.get? b=Wx o):(b,o)∈Zf6 fp h:=List.mem_filterMap.mpr ⟨b,hb,by rw[e];rfl⟩
def ZmI{fp:List Yi}{h:YG}{p:Yi×Obj}(hp:p∈Zf6 fp h):p.1∈fp/\h.get? p.1=Wx p.2:=by
 obtain⟨b,hb,e⟩:=List.mem_filterMap.mp hp;cases q:h.get? b with
 |none=>rw[q]at e;cases e
 |some o=>rw[q]at e;have e':(b,o)=p:=YF e;subst e';exact⟨hb,q⟩
def Inv.pinned{pins:List (Yi×Obj)}{Z:St}{H:Hp}{s:Yb}{fp:List Yi}(I:Inv X pins Z H s)(hf:∀b∈fp,Zbt X pins H b)(ho:∀b∈fp,∃o,s.heap.get? b=Wx o/\∀v,o.data≠.cell v):Inv X (pins++Zf6 fp s.heap) Z H s:=
 I.pins_of λp hp=>(OD.mp hp).elim (λz=>I.pin p (Ov _ z)) λz=>by obtain⟨hb,e⟩:=ZmI z;obtain⟨f0,f1,f2,_⟩:=hf p.1 hb;obtain⟨o,e',d⟩:=ho p.1 hb;rw[e]at e';cases e';exact⟨e,f0,f1,f2,d⟩
def Inv.unpinned{pins pl:List (Yi×Obj)}{Z:St}{H:Hp}{s:Yb}(I:Inv X (pins++pl) Z H s):Inv X pins Z H s:=I.pins_of λp hp=>I.pin p (Ov _ (Ys _ hp))
def ZsQ{iter:Expr}{body:List Stmt}{wi:TI}{g:TG}{tb:TS}{pos:Pos}(hp:PassesOwn (model X.prog X.w) X.A X.env X.xe)(hc:X.calm=Wz)(hi:PI X tg iter wi)(hg:PG X tg g)(hb:PSs X body tb)
 (hs:∀x,foldedSetIterable iter X.env x=pure x:=by intro _;rfl):PS X (.For tg iter body [] pos) (ZwG wi g tb):=by
 intro pins s Z H D I h;refine wpAny_For (thn (hi pins s Z H _ I h) λv s1 h1=>thn h1 λitv s2 h2=>?_) hs;obtain⟨it,fp,tn,J,H2,e,I2,T,st2,f2,W,⟨m0,w0⟩,turn⟩:=h2;subst e;have stat:∀{H':Hp},(∀b∈fp,H' b=Wy)->∀b∈fp,Zbt X pins H' b:=λhn b hb=>⟨hn b hb,(f2 b hb).2⟩
 refine codeAny_forLoop_any (λn s'=>∃i σ' H',Inv X pins σ' H' s'/\tn i s'.heap/\(∀b∈fp,H' b=Wy)/\W i n σ' H') ?_ m0 ⟨0,Z,H2,I2,st2,λb hb=>(f2 b hb).1,w0⟩;rintro n s3 ⟨i,σ3,H3,I3,st3,fr3,w3⟩;rcases turn i n σ3 H3 w3 with ⟨stop,qn⟩|⟨go,N,hN,step⟩
 . refine wpAny_passesOwn hp (thn (T.done X rfl rfl rfl hc i pins s3 σ3 H3 X.xe I3 (stat fr3) st3 stop) λr s4 ⟨hr,I4⟩=>?_);subst hr;exact wpAny_execs_nil ⟨σ3,H3,I4,qn⟩
 . refine wpAny_passesOwn hp (thn (T.item X rfl rfl rfl hc i pins s3 σ3 H3 X.xe I3 (stat fr3) st3 go) λr s4 ⟨u,hr,h4⟩=>?_);subst hr;refine wpAny_passesOwn hp (thn h4 λ_ s5 ⟨x,H5,I5,r5,y5,st5,fr5⟩=>?_);have I5':=I5.pinned (stat fr5) (T.obj _ _ st5);refine wpAny_passesOwn hp (thn (hg _ s5 σ3 H5 x u _ I5' r5 (step x H5 y5)) λ_ s6 ⟨σ6,H6,I6,q6⟩=>?_);refine wpAny_passesOwn hp (thn (hb _ s6 σ6 H6 _ I6 q6) λf s7 q7=>?_);have again:∀{σ7:St}{H7:Hp},Inv X (pins++Zf6 fp s5.heap) σ7 H7 s7->N σ7 H7->∃m,m<n/\∃i σ' H',Inv X pins σ' H' s7/\tn i s7.heap/\(∀b∈fp,H' b=Wy)/\W i m σ' H':=λ{σ7 H7} I7 n7=>by obtain⟨m',hm,w7⟩:=hN σ7 H7 n7;refine⟨m',hm,i+1,σ7,H7,I7.unpinned,T.keep _ _ _ st5 λb hb o e=>(I7.pin (b,o) (Ov _ (Ov _ (ZcE hb e)))).1,λb hb=>?_,w7⟩;obtain⟨o,e,d⟩:=T.obj _ _ st5 b hb;exact(I7.pin (b,o) (Ov _ (Ov _ (ZcE hb e)))).2.1
   cases f with
   |next=>obtain⟨σ7,H7,I7,n7⟩:=q7;exact again I7 n7
   |cont=>obtain⟨σ7,H7,I7,n7⟩:=q7;exact again I7 n7
   |brk=>obtain⟨σ7,H7,I7,q7⟩:=q7;exact⟨σ7,H7,I7.unpinned,q7⟩
   |ret v=>obtain⟨x7,σ7,H7,I7,r7,q7⟩:=q7;exact⟨x7,σ7,H7,I7.unpinned,r7,q7⟩
end
abbrev R2:=V->V->Hp->VK->Prop
def OpR(X:Cx)(f:Yj->Yj->Sem Yj)(r:R2):Prop:=
 ∀(pins:List (Yi×Obj)) (s:Yb) (Z:St) (H:Hp) (x y:V) (v u:Yj) (Q:VK),Inv X pins Z H s->RelV x v->RelV y u->r x y H Q ->
  YB (model X.prog X.w) X.A (f v u) (EP X pins Z Q) X.xe s
def UnR(X:Cx)(f:Yj->Sem Yj)(r:V->Hp->VK->Prop):Prop:=
 ∀(pins:List (Yi×Obj)) (s:Yb) (Z:St) (H:Hp) (x:V) (v:Yj) (Q:VK),Inv X pins Z H s->RelV x v->r x H Q ->
  YB (model X.prog X.w) X.A (f v) (EP X pins Z Q) X.xe s
def ZcA(X:Cx)(f:Yj)(r:List V->Hp->VK->Prop):Prop:=
 ∀(pins:List (Yi×Obj)) (s:Yb) (Z:St) (H:Hp) (xs:List V) (us:List Yj) (Q:VK),Inv X pins Z H s->Zn xs us->r xs H Q ->
  YB (model X.prog X.w) X.A (call f us) (EP X pins Z Q) X.xe s
def Zxz(X:Cx)(r:V->Hp->(Bool->Hp->Prop)->Prop):Prop:=
 ∀(pins:List (Yi×Obj)) (s:Yb) (Z:St) (H:Hp) (x:V) (v:Yj) (Q:Bool->Hp->Prop),Inv X pins Z H s->RelV x v->r x H Q ->
  YB (model X.prog X.w) X.A (truthy v) (TP X pins Z Q) X.xe s
noncomputable def tOp(r:R2)(ta tb:TE):TE:=λZ H Q=>ta Z H λx H1=>tb Z H1 λy H2=>r x y H2 Q
noncomputable def tUn(r:V->Hp->VK->Prop)(ta:TE):TE:=λZ H Q=>ta Z H λx H1=>r x H1 Q
noncomputable def rI(C:Int->Int->Prop)(g:Int->Int->V):R2:=λx y H Q=>∃i j,x=.int i/\y=.int j/\C i j/\Q (g i j) H
noncomputable def rI0(g:Int->Int->V):R2:=λx y H Q=>∃i j,x=.int i/\y=.int j/\Q (g i j) H
def rU(g:Int->V):V->Hp->VK->Prop:=λx H Q=>∃i,x=.int i/\Q (g i) H
section
variable {X:Cx}{a b c:Expr}{ta tb tc:TE}{pos:Pos}
def Zt7(ha:PE X a ta)(hb:PE X b tb){pins:List (Yi×Obj)}{s:Yb}{Z:St}{H:Hp}{R:V->V->Hp->Prop}(I:Inv X pins Z H s)
 (h:ta Z H λx H1=>tb Z H1 λy H2=>R x y H2) {Q:Yj->Yb->Prop}{f:Yj->Yj->Sem Yj}
 (hf:∀v u s2 x y H2,Inv X pins Z H2 s2->RelV x v->RelV y u->R x y H2->YB (model X.prog X.w) X.A (f v u) Q X.xe s2) :
 YB (model X.prog X.w) X.A (eval a X.env) (λv s₁=>YB (model X.prog X.w) X.A (eval b X.env) (λu s₂=>YB (model X.prog X.w) X.A (f v u) Q X.xe s₂) X.xe s₁) X.xe s:=by
 refine thn (ha pins s Z H _ I h) λv s1 ⟨x,H1,I1,r1,q1⟩=>?_;refine thn (hb pins s1 Z H1 _ I1 q1) λu s2 ⟨y,H2,I2,r2,q2⟩=>?_;exact hf v u s2 x y H2 I2 r1 r2 q2
def Zvb{op:Operator}{r:R2}(ho:OpR X (binaryOp op) r)(ha:PE X a ta)(hb:PE X b tb):PE X (.BinOp a op b pos) (tOp r ta tb):=by intro pins s Z H Q I h;exact wpAny_BinOp (Zt7 ha hb I h λv u s2 x y H2 I2 rx ry q=>ho pins s2 Z H2 x y v u Q I2 rx ry q)
def Zu9{op:UnaryOp}{r:V->Hp->VK->Prop}(ho:UnR X (unaryOp op) r)(ha:PE X a ta):PE X (.UnaryOp op a pos) (tUn r ta):=by intro pins s Z H Q I h;exact UnaryOp_ (thn (ha pins s Z H _ I h) λv s1 ⟨x,H1,I1,r1,q1⟩=>ho pins s1 Z H1 x v Q I1 r1 q1)
def opI{f:Yj->Yj->Sem Yj}{C:Int->Int->Prop}{g:Int->Int->Int}
 (rule:∀(i j:Int) (t u:Tok) (s:Yb) (Q:Yj->Yb->Prop) (E:Yj->Yb->Prop),C i j->Q (.int (g i j) s.toks) {s with toks:=s.toks+1}->YB (model X.prog X.w) X.A (f (.int i t) (.int j u)) Q E s) :
 OpR X f (rI C λi j=>.int (g i j)):=by
 intro pins s Z H x y v u Q I rx ry h;obtain⟨i,j,rfl,rfl,hc,q⟩:=h;obtain⟨t,rfl⟩:=rx;obtain⟨t',rfl⟩:=ry;exact rule i j t t' s _ _ hc ⟨.int (g i j),H,I.tok _,⟨_,rfl⟩,q⟩
def Zvn{f:Yj->Yj->Sem Yj}{g:Int->Int->Int}
 (rule:∀(i j:Int) (t u:Tok) (s:Yb) (Q:Yj->Yb->Prop) (E:Yj->Yb->Prop),Q (.int (g i j) s.toks) {s with toks:=s.toks+1}->YB (model X.prog X.w) X.A (f (.int i t) (.int j u)) Q E s) :
 OpR X f (rI0 λi j=>.int (g i j)):=by
 intro pins s Z H x y v u Q I rx ry h;obtain⟨i,j,rfl,rfl,q⟩:=h;obtain⟨t,rfl⟩:=rx;obtain⟨t',rfl⟩:=ry;exact rule i j t t' s _ _ ⟨.int (g i j),H,I.tok _,⟨_,rfl⟩,q⟩
def ZqP{f:Yj->Yj->Sem Yj}{g:Int->Int->Bool}
 (rule:∀(i j:Int) (t u:Tok) (s:Yb) (Q:Yj->Yb->Prop) (E:Yj->Yb->Prop),Q (.bool (g i j)) s->YB (model X.prog X.w) X.A (f (.int i t) (.int j u)) Q E s) :
 OpR X f (rI0 λi j=>.bl (g i j)):=by
 intro pins s Z H x y v u Q I rx ry h;obtain⟨i,j,rfl,rfl,q⟩:=h;obtain⟨t,rfl⟩:=rx;obtain⟨t',rfl⟩:=ry;exact rule i j t t' s _ _ ⟨.bl (g i j),H,I,rfl,q⟩
def ZxC(i j:Int):Prop:=0<j/\j<1073741824
def ZxB(i j:Int):Prop:=0<=j/\j<=1000000/\i.natAbs<2 ^ 64
def Zte:OpR X (binaryOp .Add) (rI0 λi j=>.int (i+j)):=Zvn λ_ _ _ _ _ _ _ q=>add_int q
def Zs8:OpR X (binaryOp .Sub) (rI0 λi j=>.int (i - j)):=Zvn λ_ _ _ _ _ _ _ q=>sub_int q
def ZqE:OpR X (binaryOp .FloorDiv) (rI ZxC λi j=>.int (i / j)):=opI λi j _ _ _ _ _ hc q=>by have h1:(0:Int)<j:=hc.1;have h2:j<1073741824:=hc.2;exact floordiv_int (by lia) (by rw[Int.fdiv_eq_ediv_of_nonneg i (by lia)];exact q) (.inl (PyProof.noPylong_small (by lia)))
def Zta:OpR X (binaryOp .Mod) (rI (λ_ j=>0<j) λi j=>.int (i % j)):=opI λi j _ _ _ _ _ hc q=>by have h1:(0:Int)<j:=hc;exact mod_int' (by lia) (by rw[Int.fmod_eq_emod_of_nonneg i (by lia)];exact q)
def Zs9:OpR X (binaryOp .Pow) (rI ZxB λi j=>.int (i ^ j.toNat)):=opI λ_ _ _ _ _ _ _ hc q=>pow_int_small hc.1 hc.2.1 hc.2.2 q
def unI{f:Yj->Sem Yj}{g:Int->Int}
 (rule:∀(i:Int) (t:Tok) (s:Yb) (Q:Yj->Yb->Prop) (E:Yj->Yb->Prop),Q (.int (g i) s.toks) {s with toks:=s.toks+1}->YB (model X.prog X.w) X.A (f (.int i t)) Q E s) :
 UnR X f (rU λi=>.int (g i)):=by
 intro pins s Z H x v Q I rx h;obtain⟨i,rfl,q⟩:=h;obtain⟨t,rfl⟩:=rx;exact rule i t s _ _ ⟨.int (g i),H,I.tok _,⟨_,rfl⟩,q⟩
def Zsf:UnR X (unaryOp .USub) (rU λi=>.int (-i)):=unI λ_ _ _ _ _ q=>neg_int q
end
section
variable {X:Cx}{a b c:Expr}{ta tb tc:TE}{pos:Pos}
def Zo3{pins:List (Yi×Obj)}{Z:St}{H:Hp}{s:Yb}{Q:VK}{k k':Bool}(I:Inv X pins Z H s)(q:Q (.bl k) H)(e:k=k'):EP X pins Z Q (.bool k') s:=by subst e;exact⟨.bl k,H,I,rfl,q⟩
def Zvg:OpR X (YM .Lt) (rI0 λi j=>.bl (WB (i<j))):=ZqP λ_ _ _ _ _ _ _ q=>lt_int q
def Zvh:OpR X (YM .LtE) (rI0 λi j=>.bl (WB (i<=j))):=ZqP λ_ _ _ _ _ _ _ q=>le_int q
def Zvi:OpR X (YM .Gt) (rI0 λi j=>.bl (WB (j<i))):=ZqP λ_ _ _ _ _ _ _ q=>gt_int q
def Zvj:OpR X (YM .GtE) (rI0 λi j=>.bl (WB (j<=i))):=ZqP λ_ _ _ _ _ _ _ q=>ge_int q
def Ztb:OpR X (YM .Is) (λx y H Q=>y=.non/\Q (.bl (WB (x=.non))) H):=by
 intro pins s Z H x y v u Q I rx ry h;obtain⟨rfl,q⟩:=h;cases ry;refine is_none_gen (Zo3 I q ?_);cases x<;>first
  |(cases rx;rfl)
  |(obtain⟨t,rfl⟩:=rx;rfl)
def ZqC:OpR X (YM .IsNot) (λx y H Q=>y=.non/\Q (.bl (!WB (x=.non))) H):=by
 intro pins s Z H x y v u Q I rx ry h;obtain⟨rfl,q⟩:=h;cases ry;refine isnot_none_gen (Zo3 I q ?_);cases x<;>first
  |(cases rx;rfl)
  |(obtain⟨t,rfl⟩:=rx;rfl)
def Zqy{op:CmpOp}{r:R2}(ho:OpR X (YM op) r)(ha:PE X a ta)(hb:PE X b tb)(hm:behindInMarks op b=WA):PE X (.Compare a [op] [b] pos) (tOp r ta tb):=by intro pins s Z H Q I h;exact wpAny_Compare1 (Zt7 ha hb I h λv u s2 x y H2 I2 rx ry q=>ho pins s2 Z H2 x y v u Q I2 rx ry q) hm
noncomputable def ZuC(t:TE):TT:=λZ H Q=>t Z H λx H'=>∃k,x=.bl k/\Q k H'
def Zqg{op:CmpOp}{r:R2}(ho:OpR X (YM op) r)(ha:PE X a ta)(hb:PE X b tb)(hm:behindInMarks op b=WA):PT X (.Compare a [op] [b] pos) (ZuC (tOp r ta tb)):=by
 intro pins s Z H Q I h;refine wpAny_isTrue_Compare1 (thn (ha pins s Z H _ I h) λv s1 ⟨x,H1,I1,r1,q1⟩=>thn (hb pins s1 Z H1 _ I1 q1) λu s2 ⟨y,H2,I2,r2,q2⟩=>thn (ho pins s2 Z H2 x y v u _ I2 r1 r2 q2) λc s3 ⟨z,H3,I3,r3,k,e,q3⟩=>?_) hm
 subst e;cases r3;exact wpAny_truthy_bool ⟨H3,I3,q3⟩
def Zub(K:Yk)(x:V)(H:Hp)(k:Bool):Prop:=
 match x with
 |.non=>k=WA
 |.bl b=>k=b
 |.int i=>k=(i != 0)
 |.str y=>y.length<=sizeLine/\k=((y.length:Int) != 0)
 |.byt y=>y.size<=sizeLine/\k=((y.size:Int) != 0)
 |.ref p=>(∃xs,SqL K H p xs/\k=!xs.isEmpty)\/(∃xs,SqT K H p xs/\k=!xs.isEmpty)\/∃kvs,H p=Wx (.dK kvs)/\k=!kvs.isEmpty
 |_=>False
def ZkT{κ:Type}{kvs:List (κ×V)}{vs:List (κ×Yj)}(r:KV kvs vs):(!vs.isEmpty)=!kvs.isEmpty:=by cases r<;>rfl
def Zgo{xs:List V}{its:List Yj}(r:Zn xs its):(!its.toArray.isEmpty)=!xs.isEmpty:=by cases r<;>simp
def ZcF:(sizeLine:Nat)<2 ^ 63:=by rw[YC];decide
def Zsi:Zxz X (λx H Q=>∃k,Zub X.K x H k/\Q k H):=by
 intro pins s Z H x v Q I rx h;obtain⟨k,e,q⟩:=h;have hl:=ZcF;have hs:sizeLine=16777216:=YC;cases x with
 |non=>cases rx;have e':k=WA:=e;subst e';exact truthy_none ⟨H,I,q⟩
 |bl b=>cases rx;have e':k=b:=e;subst e';exact wpAny_truthy_bool ⟨H,I,q⟩
 |int i=>obtain⟨t,rfl⟩:=rx;have e':k=(i != 0):=e;subst e';exact PySem.P.truthy_int ⟨H,I,q⟩
 |str y=>obtain⟨t,rfl⟩:=rx;obtain⟨hy,e'⟩:y.length<=sizeLine/\k=((y.length:Int) != 0):=e;subst e';exact PySem.P.truthy_str (by lia) ⟨H,I.tok _,q⟩
 |byt y=>obtain⟨t,rfl⟩:=rx;obtain⟨hy,e'⟩:y.size<=sizeLine/\k=((y.size:Int) != 0):=e;subst e';exact PySem.W.truthy_bytes (by lia) ⟨H,I.tok _,q⟩
 |ref p=>
  cases rx;have e':(∃xs,SqL X.K H p xs/\k=!xs.isEmpty)\/(∃xs,SqT X.K H p xs/\k=!xs.isEmpty)\/∃kvs,H p=Wx (.dK kvs)/\k=!kvs.isEmpty:=e;rcases e' with ⟨xs,hx,e'⟩|⟨xs,hx,e'⟩|⟨kvs,hx,e'⟩
  . subst e';obtain⟨its,r,pl,hz⟩:=I.list hx;have hlen:=r.length;exact wpAny_truthy_list pl.isList (by simp only[Of];lia) ⟨H,I.tok _,by rw[Zgo r];exact q⟩
  . subst e';obtain⟨its,r,pl,hz⟩:=I.tuple hx;have hlen:=r.length;exact truthy_tuple pl (by simp only[Of];lia) ⟨H,I.tok _,by rw[Zgo r];exact q⟩
  . subst e';obtain⟨hz,hS,vs,r,m⟩:kvs.length<=sizeLine/\(p==Ye)=WA/\∃vs,KV kvs vs/\s.heap.DictOf (ZJ X.prog X.w) p vs:=I.hok p _ hx;have hlen:kvs.length=vs.length:=Paired.length r;exact wpAny_truthy_dict hS m (by lia) ⟨H,I.tok _,by rw[ZkT r];exact q⟩
 |_=>exact(show False from e).elim
def ZnU(ha:PE X a ta)(he:∀whole,isTrue a X.env whole=(do let v <- whole;standAt a.pos;holding [v] (truthy v))):
 PT X a (λZ H Q=>ta Z H λx H'=>∃k,Zub X.K x H' k/\Q k H'):=by
 intro pins s Z H Q I h;exact isTrue_plain (thn (ha pins s Z H _ I h) λv s1 ⟨x,H1,I1,r1,q1⟩=>Zsi pins s1 Z H1 x v Q I1 r1 q1) (he _)
def Zkk:OpR X (binaryOp .Add) (λx y H Q=>∃i j,x=.str i/\y=.str j/\i.length+j.length<=sizeLine/\Q (.str (i++j)) H):=by intro pins s Z H x y v u Q I rx ry h;obtain⟨i,j,rfl,rfl,hz,q⟩:=h;obtain⟨t,rfl⟩:=rx;obtain⟨t',rfl⟩:=ry;exact add_str (λt' tk=>⟨.str (i++j),H,I.tok _,⟨_,rfl⟩,q⟩) hz
def vals1{x:V}{us:List Yj}(r:Zn [x] us):∃u,us=[u]/\RelV x u:=by
 cases r with
 |cons r1 r2=>cases r2;exact⟨_,rfl,r1⟩
def vals2{x y:V}{us:List Yj}(r:Zn [x,y] us):∃u w',us=[u,w']/\RelV x u/\RelV y w':=by
 cases r with
 |cons r1 r2=>
  cases r2 with
  |cons r3 r4=>cases r4;exact⟨_,_,rfl,r1,r3⟩
end
structure ObjM(h:YG)(x dx C:Yi)(mA:Str->Option Yj):Prop where
 obj:h.get? x=Wx (Wm C dx)
 ns:h.Ns1 dx mA
 ne:dx≠x
def ZmO{h:YG}{dx:Yi}{mA:Str->Option Yj}(n:h.Ns1 dx mA):∃od,h.get? dx=Wx od/\∀name,PySem.W.lookIn name od=Wx (mA name):=by
 obtain⟨o,es,ep,ho,hd,hk,_,hm⟩:=n;refine⟨o,ho,λname=>?_⟩;have e:=hm name;unfold nsFind findBy at e;rw[<- Array.find?_toList]at e;unfold PySem.W.lookIn;rw[hd];dsimp only;split
 . rename_i y q;rw[q]at e;exact congrArg Wx e
 . rename_i q;rw[q]at e;have a:es.toList.any (·.refKey)=WA:=by rw[List.any_eq_false];intro y hy;obtain⟨z,t,hkey⟩:=hk y (Array.mem_toList_iff.mp hy);simp[DictEntry.refKey,hkey]
   have a':¬ es.toList.any (·.refKey)=Wz:=by rw[a];exact Ow
   rw[if_neg a'];exact congrArg Wx e
def ObjM.look{h:YG}{x dx C:Yi}{mA:Str->Option Yj}(I:ObjM h x dx C mA):∃od,PySem.W.InstAt h x (Wm C dx) C (Wx od)/\∀name,PySem.W.lookIn name od=Wx (mA name):=
 let ⟨od,ho,hl⟩:=ZmO I.ns
 ⟨od,⟨I.obj,rfl,rfl,ho⟩,hl⟩
section
variable {prog:Yh}{w:Yg}{A:YH}{E:Yj->Yb->Prop}{s:Yb}{K:Yk}{x dx C f:Yi}{mA:Str->Option Yj}{name:Str}{v:Yj}
def Zq9{expr:Bool}{Q:Yj->Yb->Prop}(X:K.In s.heap)(I:ObjM s.heap x dx C mA)(hg:PySem.W.plainGet K C name=Wz)(hh:PySem.W.hasDictIn K C=Wz)
 (ha:YJ K (.ref C) name=Wx Wy) (hv:mA name=Wx v) (hv':PySem.W.handedIn v=Wz) (h:Q v {s with toks:=s.toks+1}) :
 YB (model prog w) A (getAttr (.ref x) name expr) Q E s:=by
 obtain⟨od,J,hl⟩:=I.look;exact PySem.W.get_value X J (PySem.W.plainGet_of hg).1 (PySem.W.findObj_own hh ha rfl (by rw[hl,hv])) hv' h
def ZoW{pl:Sem Bool}{Q:Yj×List Yj->Yb->Prop}(X:K.In s.heap)(I:ObjM s.heap x dx C mA)(hg:PySem.W.plainGet K C name=Wz)
 (hf:YJ K (.ref C) name=Wx (Wx (.ref f))) (ht:PySem.W.isFn K (.ref f)=Wz) (hv:mA name=Wy) (h:Q (.ref f,[.ref x]) s) :
 YB (model prog w) A (getMethod (.ref x) name pl) Q E s:=by
 obtain⟨od,J,hl⟩:=I.look;exact PySem.W.method_fn X J (PySem.W.plainGet_of hg).1 (PySem.W.plainGet_of hg).2 hf (beq_iff_eq.mp ht) (by show(PySem.W.lookIn name od).map (·.isSome)=Wx WA;rw[hl,hv];rfl) h
def ZpW{ns:List Str}{Q:Unit->Yb->Prop}(X:K.In s.heap)(I:ObjM s.heap x dx C mA)
 (hs:YJ K (.ref C) "__setattr__" = Wx (Wx (.builtin "object.__setattr__"))) (hp:PySem.W.plainOver K C=Wz) (ht:PySem.W.takerIn K C name=Wx Wy) (hh:PySem.W.hasDictIn K C=Wz)
 (hw:PySem.Within mA ns) (hsz:ns.length<=sizeLine)
 (h:∀h',ObjM h' x dx C (λy=>if y=name then Wx v else mA y)->Heap.SameBut dx s.heap h'->Q () {s with heap:=h',toks:=s.toks+2}) :
 YB (model prog w) A (setAttr (.ref x) name v) Q E s:=by
 obtain⟨od,J,hl⟩:=I.look;refine PySem.W.set_plain X J hs (PySem.W.osa_open (s:={s with toks:=s.toks+1}) (r:=Wy) X J hp ht λb=>?_);obtain⟨cd,hc,hd'⟩:=PySem.W.any_some hh;have hx:s.heap.get? x=Wx ⟨.ref C,Wx dx,.plain,#[]⟩:=I.obj;refine Ya (Yc (Ya (Ya (wpAny_loadPart hx (Ya (PySem.W.Looks.here (s:={s with toks:=s.toks+1}) (PySem.W.looks_clsIn X hc) ?_))))));rw[hd'];refine Yc (a:=Wx dx) (Ya (Yc (Ya ?_)));refine wpAny_nsSet1 (s:={s with toks:=s.toks+1}) I.ns λh' hn2 hs2=>?_;obtain⟨oD,esD,epD,hoD,hdD,hcD⟩:=hn2.count (PySem.Within.cons name v hw);refine Ya (wpAny_lookBehind hoD (by rw[hdD];exact pastItsLine_dict (OE hcD (by rw[Os];lia))) ?_);exact Yc (h _ ⟨(hs2.2 _ (YL I.ne)).trans I.obj,hn2,I.ne⟩ hs2)
def Zor{R:Result->Yb->Prop}{vs:List Yj}{kw:List (Str×Yj)}(X:K.In s.heap)(hm:PySem.W.makesIn K C=Wz)
 (hi:YJ K (.ref C) "__init__" = Wx (Wx (.ref f))) (hf:PySem.W.typeIn K (.ref f)=Wx (.type "function"))
 (h:codeAny (model prog w) (A.under (.builtin "type.__call__" ⟨.ref C::vs,kw⟩)) (.call (.ref f) ⟨.ref (s.heap.objs.size+1)::vs,kw⟩) (PySem.W.InitBack (s.heap.objs.size+1) R)
  {s with heap:=(s.heap.push YT).push (Wm C s.heap.objs.size)}) :
 codeAny (model prog w) A (.call (.ref C) ⟨vs,kw⟩) R s:=by
 obtain⟨hh,g,d,t,os⟩:=s;exact PySem.W.make_core (PySem.W.makes_of X hm) (PySem.W.looks_findIn X hi) (λself=>PySem.W.bind_fn X self hf) (.inl rfl) h
end
noncomputable def Zb6(f:Str)(v:V):List (Str×V)->List (Str×V)
 |[]=>[(f,v)]
 |(g,x)::r=>if g=f then(g,v)::r else(g,x)::Zb6 f v r
theorem Ze9(f g:Str)(v:V):∀fs:List (Str×V),(Zb6 f v fs).lookup g=if g=f then Wx v else fs.lookup g
 |[]=>by
  show Wp g [(f,v)]=_;by_cases h:g=f
  . have hb:(g==f)=Wz:=beq_iff_eq.mpr h;simp only[Wp,hb,if_pos h]
  . have hb:(g==f)=WA:=beq_eq_false_iff_ne.mpr h;simp only[Wp,hb,if_neg h]
 |(k,x)::r=>by
  have ih:=Ze9 f g v r;rw[show Zb6 f v ((k,x)::r)=(if k=f then(k,v)::r else(k,x)::Zb6 f v r)from rfl];by_cases hk:k=f
  . rw[if_pos hk];by_cases h:g=k
    . have hb:(g==k)=Wz:=beq_iff_eq.mpr h;simp only[Wp,hb,if_pos (h.trans hk)]
    . have hb:(g==k)=WA:=beq_eq_false_iff_ne.mpr h;simp only[Wp,hb,if_neg (λe:g=f=>h (e.trans hk.symm))]
  . rw[if_neg hk];by_cases h:g=k
    . have hb:(g==k)=Wz:=beq_iff_eq.mpr h;simp only[Wp,hb,if_neg (λe:g=f=>hk (h.symm.trans e))]
    . have hb:(g==k)=WA:=beq_eq_false_iff_ne.mpr h;simp only[Wp,hb];exact ih
theorem ZeP(f:Str)(v:V):∀fs:List (Str×V),f∈(Zb6 f v fs).map (·.1)/\∀g,g∈fs.map (·.1)->g∈(Zb6 f v fs).map (·.1)
 |[]=>⟨by simp[Zb6],λg h=>by simp at h⟩
 |(k,x)::r=>by
  obtain⟨i1,i2⟩:=ZeP f v r;rw[show Zb6 f v ((k,x)::r)=(if k=f then(k,v)::r else(k,x)::Zb6 f v r)from rfl];by_cases hk:k=f
  . rw[if_pos hk];subst hk;exact⟨by simp,λg h=>by simpa using h⟩
  . rw[if_neg hk];refine⟨?_,λg h=>?_⟩
    . rw[Op];exact Oh _ i1
    . rw[Op]at h ⊢;rcases O3.mp h with e|e
      . exact O3.mpr (.inl e)
      . exact Oh _ (i2 g e)
theorem Zfb(f:Str)(v:V):∀fs:List (Str×V),(Zb6 f v fs).length<=fs.length+1
 |[]=>by simp[Zb6]
 |(k,x)::r=>by
  have ih:=Zfb f v r;rw[show Zb6 f v ((k,x)::r)=(if k=f then(k,v)::r else(k,x)::Zb6 f v r)from rfl];by_cases hk:k=f
  . rw[if_pos hk,Os,Os];lia
  . rw[if_neg hk,Os,Os];lia
def ZeH.some_of{v:V}{o:Option Yj}(r:ZeH (Wx v) o):∃u,o=Wx u/\RelV v u:=by
 cases o with
 |none=>exact(show False from r).elim
 |some u=>exact⟨u,rfl,r⟩
def ZeH.none_of{o:Option Yj}(r:ZeH Wy o):o=Wy:=by
 cases o with
 |none=>rfl
 |some u=>exact(show False from r).elim
def Zm1{v:V}{u:Yj}(r:RelV v u):PySem.W.handedIn u=Wz:=by
 cases v with
 |non=>cases (show u=Value.none from r);rfl
 |bl b=>cases (show u=Value.bool b from r);rfl
 |int i=>obtain⟨t,e⟩:=(show ∃t,u=Value.int i t from r);cases e;rfl
 |str x=>obtain⟨t,e⟩:=(show ∃t,u=Value.str x t from r);cases e;rfl
 |byt b=>obtain⟨t,e⟩:=(show ∃t,u=Value.bytes b t from r);cases e;rfl
 |flt b=>obtain⟨t,e⟩:=(show ∃t,u=Value.float b t from r);cases e;rfl
 |ref a=>cases (show u=YD a from r);rfl
 |ty n=>cases (show u=Value.type n from r);rfl
section
variable {P:Yh}{w:Yg}{H H':Hp}{h h':YG}{a C dx:Yi}{fs fs':List (Str×V)}
def Zh4(hok:HOk P w H h)(e:H a=Wx (.ins C dx fs)):∃mA,ObjM h a dx C mA/\(∀f,ZeH (fs.lookup f) (mA f))/\PySem.Within mA (fs.map (·.1))/\fs.length<=1000/\H dx=Wx (.own a):=by
 obtain⟨d,z,ne,ob,mA,n,r,q⟩:=(show Zao P w H h a (.ins C dx fs)from hok a _ e)
 exact⟨mA,⟨ob,n,ne⟩,r,q,z,d⟩
end
structure Cls(K:Yk)(C:Yi):Prop where
 pg:PySem.W.plainGet K C Str.empty=Wz
 hd:PySem.W.hasDictIn K C=Wz
 po:PySem.W.plainOver K C=Wz
 sa:YJ K (.ref C) "__setattr__" = Wx (Wx (.builtin "object.__setattr__"))
def Cls.get{K:Yk}{C:Yi}(c:Cls K C)(f:Str):PySem.W.plainGet K C f=Wz:=c.pg
def ZaV(K:Yk)(C:Yi)(f:Str):Prop:=YJ K (.ref C) f=Wx Wy
def ZaV.taker{K:Yk}{C:Yi}{f:Str}(n:ZaV K C f):PySem.W.takerIn K C f=Wx Wy:=by unfold PySem.W.takerIn;rw[show YJ K (.ref C) f=Wx Wy from n];rfl
structure Meth(K:Yk)(C:Yi)(m:Str)(f:Yi):Prop where
 at_:YJ K (.ref C) m=Wx (Wx (.ref f))
 fn:PySem.W.isFn K (.ref f)=Wz
 kp:Wh K (.ref f)=Wz
section
variable {X:Cx}{pins:List (Yi×Obj)}{Z:St}{H:Hp}{s:Yb}{a C dx:Yi}{fs:List (Str×V)}{f:Str}{v:V}{A:YH}{E:Yj->Yb->Prop}
def Zgs{b:Bool}{Q:Yj->Yb->Prop}(I:Inv X pins Z H s)(e:H a=Wx (.ins C dx fs))(c:Cls X.K C)(n:ZaV X.K C f)(l:fs.lookup f=Wx v)
 (h:∀u s',Inv X pins Z H s'->RelV v u->Q u s'):YB (model X.prog X.w) A (getAttr (.ref a) f b) Q E s:=by
 obtain⟨mA,O_,r,_,_,_⟩:=Zh4 I.hok e;obtain⟨u,hu,ru⟩:=ZeH.some_of (v:=v) (o:=mA f) (by rw[<- l];exact r f);exact Zq9 I.kIn O_ (c.get f) c.hd n hu (Zm1 ru) (h u _ (I.tok _) ru)
def Zgr{m:Str}{g:Yi}{pl:Sem Bool}{Q:Yj×List Yj->Yb->Prop}(I:Inv X pins Z H s)(e:H a=Wx (.ins C dx fs))(c:Cls X.K C)(k:Meth X.K C m g)(l:fs.lookup m=Wy)
 (h:Q (.ref g,[.ref a]) s):YB (model X.prog X.w) A (getMethod (.ref a) m pl) Q E s:=by
 obtain⟨mA,O_,r,_,_,_⟩:=Zh4 I.hok e;have hn:mA m=Wy:=ZeH.none_of (by rw[<- l];exact r m);exact ZoW I.kIn O_ (c.get m) k.at_ k.fn hn h
def ZfO{y:V}{u:Yj}{Q:Unit->Yb->Prop}(I:Inv X pins Z H s)(e:H a=Wx (.ins C dx fs))(c:Cls X.K C)(n:ZaV X.K C f)(hl:fs.length<1000)(ry:RelV y u)
 (h:∀s',Inv X pins Z (upd H a (.ins C dx (Zb6 f y fs))) s'->Q () s'):YB (model X.prog X.w) A (setAttr (.ref a) f u) Q E s:=by
 obtain⟨mA,O_,r,wi,_,ho⟩:=Zh4 I.hok e;have hz:(fs.map (·.1)).length<=sizeLine:=by rw[Yu,YC];lia
 refine ZpW I.kIn O_ c.sa c.po n.taker c.hd wi hz λh' O' sb=>h _ ?_;have hd:∃o,h'.get? dx=Wx o:=let ⟨o,_,_,e',_⟩:=O'.ns;⟨o,e'⟩;refine I.write (x:=a) (e:=dx) (by rw[e];exact True.intro) (.inr ho) (λb q hb z=>(sb.2 b hb).trans z) hd ?_;refine⟨by rw[Zg O_.ne];exact ho,?_,O_.ne,O'.obj,_,O'.ns,λg=>?_,λg hg=>?_⟩
 . have:=Zfb f y fs;lia
 . show ZeH ((Zb6 f y fs).lookup g) (if g=f then Wx u else mA g);rw[Ze9];by_cases q:g=f
   . rw[if_pos q,if_pos q];exact ry
   . rw[if_neg q,if_neg q];exact r g
 . by_cases q:g=f
   . rw[q];exact(ZeP f y fs).1
   . refine(ZeP f y fs).2 g (wi g λz=>hg ?_);show(if g=f then Wx u else mA g)=Wy;rw[if_neg q];exact z
def Inv.made(I:Inv X pins Z H s):Inv X pins Z (upd (upd H s.heap.objs.size (.own (s.heap.objs.size+1))) (s.heap.objs.size+1) (.ins C s.heap.objs.size []))
 {s with heap:=(s.heap.push YT).push (Wm C s.heap.objs.size)}:=by
 have e1:(s.heap.push YT).get? s.heap.objs.size=Wx YT:=Oj s.heap rfl;have e2:((s.heap.push YT).push (Wm C s.heap.objs.size)).get? (s.heap.objs.size+1)=Wx (Wm C s.heap.objs.size):=by
  have:=Oj (s.heap.push YT) (o:=Wm C s.heap.objs.size) rfl
  rwa [Heap.size_push]at this
 have e3:(s.heap.push YT).Ns s.heap.objs.size (λ_=>Wy):=⟨YT,#[],_,e1,rfl,(λe he=>absurd he (by simp)),λ_=>rfl⟩
 have I1:=I.laid (a:=s.heap.objs.size) (o:=.own (s.heap.objs.size+1)) (h':=s.heap.push YT) (t':=s.toks) (λb u q=>O1 _ q) (Oq _) ⟨_,e1⟩;refine I1.laid (a:=s.heap.objs.size+1) (o:=.ins C s.heap.objs.size []) (t':=s.toks) (λb u q=>O1 _ q) (Nat.le_of_eq (Heap.size_push _ _)) ?_;have ne:s.heap.objs.size≠s.heap.objs.size+1:=Ou (OH _);refine⟨by rw[Zg ne,Zi],Yy _,ne,e2,λ_=>Wy,(Heap.Ns1.of_empty e3).at λo q=>O1 _ q,λ_=>True.intro,λy hy=>absurd rfl hy⟩
def Zrx{prog:Yh}{w:Yg}{env:Env}{e:Expr}{f:Str}{pos:Pos}{s:Yb}{Q:Yj->Yb->Prop}(hb:attributeBase e f env (eval e env)=eval e env)
 (h:YB (model prog w) A (eval e env) (λo s₁=>YB (model prog w) A (getAttr o f Wz) Q E s₁) E s):YB (model prog w) A (eval (.Attribute e f pos) env) Q E s:=
 Attribute_any_ h (by rw[arm_eval_Attribute,hb])
end
noncomputable def ZwH(K:Yk)(ta:TE)(f:Str):TE:=λZ H Q=>ta Z H λx H1=>∃a C dx fs v,x=.ref a/\H1 a=Wx (.ins C dx fs)/\Cls K C/\ZaV K C f/\fs.lookup f=Wx v/\Q v H1
noncomputable def ZwO(K:Yk)(ta tv:TE)(f:Str):TS:=λD Z H=>tv Z H λy H1=>ta Z H1 λx H2=>∃a C dx fs,x=.ref a/\H2 a=Wx (.ins C dx fs)/\Cls K C/\ZaV K C f/\fs.length<1000 /\
 D.nx Z (upd H2 a (.ins C dx (Zb6 f y fs)))
def Zwf(X:Cx)(op:Operator)(rd:V->V->Hp->VK->Prop):Prop:=∀(pins:List (Yi×Obj)) (s:Yb) (Z:St) (H:Hp) (x y:V) (u v:Yj) (Q:VK),Inv X pins Z H s->RelV x u->RelV y v->rd x y H Q->YB (model X.prog X.w) X.A (inplaceOp op u v) (EP X pins Z Q) X.xe s
noncomputable def ZpZ(K:Yk)(ta tv:TE)(rd:V->V->Hp->VK->Prop)(f:Str):TS:=λD Z H=>ta Z H λx H1=>∃a C dx fs v,x=.ref a/\H1 a=Wx (.ins C dx fs)/\Cls K C/\ZaV K C f/\fs.lookup f=Wx v /\
 tv Z H1 λy H2=>rd v y H2 λz H3=>∃dx' fs',H3 a=Wx (.ins C dx' fs')/\fs'.length<1000/\D.nx Z (upd H3 a (.ins C dx' (Zb6 f z fs')))
section
variable {X:Cx}{o e value:Expr}{f:Str}{pos pos' tpos:Pos}{ta tv:TE}
def Zs3(he:PE X e ta)(hb:attributeBase e f X.env (eval e X.env)=eval e X.env):PE X (.Attribute e f pos) (ZwH X.K ta f):=by intro pins s Z H Q I h;refine Zrx hb (thn (he pins s Z H _ I h) λu s1 ⟨x,H1,I1,rx,a,C,dx,fs,v,ex,ea,c,n,l,q⟩=>?_);subst ex;obtain rfl:u=YD a:=rx;exact Zgs I1 ea c n l λu' s2 I2 ru=>⟨v,H1,I2,ru,q⟩
def ZsR(ha:PE X o ta)(hv:PE X value tv)(hs:swapsWith value (Wx (.Attribute o f pos')) pos.line X.env=pure WA):PS X (.Assign [.Attribute o f pos'] value pos) (ZwO X.K ta tv f):=by intro pins s Z H D I h;refine plainObj_wpAny_Assign_Attribute (thn (hv pins s Z H _ I h) λu s1 ⟨y,H1,I1,ry,q⟩=>thn (ha pins s1 Z H1 _ I1 q) λov s2 ⟨x,H2,I2,rx,a,C,dx,fs,ex,ea,c,n,l,q2⟩=>?_) hs;subst ex;obtain rfl:ov=YD a:=rx;exact ZfO I2 ea c n l ry λs3 I3=>⟨Z,_,I3,q2⟩
def Zmv{op:Operator}{rd:V->V->Hp->VK->Prop}(ha:PE X o ta)(hv:PE X value tv)(hop:Zwf X op rd):PS X (.AugAssign (.Attribute o f tpos) op value pos) (ZpZ X.K ta tv rd f):=by intro pins s Z H D I h;refine wpAny_AugAssign_AttributeAny (thn (ha pins s Z H _ I h) λov s1 ⟨x,H1,I1,rx,a,C,dx,fs,v,ex,ea,c,n,l,q⟩=>?_);subst ex;obtain rfl:ov=YD a:=rx;refine Zgs I1 ea c n l λu s2 I2 ru=>thn (hv pins s2 Z H1 _ I2 q) λw3 s3 ⟨y,H2,I3,ry,q3⟩=>thn (hop pins s3 Z H2 v y u w3 _ I3 ru ry q3) λw4 s4 ⟨z,H3,I4,rz,dx',fs',ea',l',q4⟩=>?_;exact ZfO I4 ea' c n l' rz λs5 I5=>⟨Z,_,I5,q4⟩
def Zu5:V->V->Hp->VK->Prop:=λx y H Q=>∃i j,x=.int i/\y=.int j/\Q (.int (i+j)) H
def ZtN:Zwf X .Add Zu5:=by
 rintro pins s Z H x y u v Q I rx ry ⟨i,j,rfl,rfl,q⟩;obtain⟨t,rfl⟩:=(show ∃t,u=Value.int i t from rx)
 obtain⟨t',rfl⟩:=(show ∃t',v=Value.int j t' from ry)
 exact PyProof.Rows.iadd_int ⟨.int (i+j),H,I.tok _,⟨_,rfl⟩,q⟩
end
structure Room(k:Nat)(A:YH):Prop where
 hd:A.handled=Wy
 dp:A.depth+k+5<recursionLimit
 un:A.units+4 * k+1300<cLine
def Room.mono{j k:Nat}{A:YH}(r:Room k A)(h:j<=k):Room j A:=⟨r.hd,by have:=r.dp;lia,by have:=r.un;lia⟩
theorem Room.deeper{k:Nat}{A:YH}(r:Room (k+1) A)(env:Env):Room k (A.deeper env):=⟨r.hd,by have:=r.dp;show A.depth+1+k+5<_;lia,by have:=r.un;show A.units+3+4 * k+1300<_;lia⟩
def Zkt{A:YH}{C:Yi}{us:List Yj}{kw:List (Str×Yj)}:(A.under (.builtin "type.__call__" ⟨.ref C::us,kw⟩)).depth=A.depth+1:=by first|rfl|simp[Around.under,Code.weight,Code.isCreation,Code.isGuard,Code.isCaller,Code.frames,Code.isFrame,guardIds]
def Zks{A:YH}{C:Yi}{us:List Yj}{kw:List (Str×Yj)}:(A.under (.builtin "type.__call__" ⟨.ref C::us,kw⟩)).units=A.units+1:=by first|rfl|simp[Around.under,Code.cUnits,Code.frames,Code.isFrame]
def Room.make{k:Nat}{A:YH}(r:Room (k+1) A)(C:Yi)(us:List Yj)(kw:List (Str×Yj)):Room k (A.under (.builtin "type.__call__" ⟨.ref C::us,kw⟩)):=⟨r.hd,by have:=r.dp;rw[Zkt];lia,by have:=r.un;rw[Zks];lia⟩
theorem Room.depth{k:Nat}{A:YH}(r:Room k A):A.depth<recursionLimit:=by have:=r.dp;lia
noncomputable def Zsq:TA:=λ_ H Q=>Q [] H
noncomputable def ZuJ(ta:TE)(tr:TA):TA:=λZ H Q=>ta Z H λx H1=>tr Z H1 λxs H2=>Q (x::xs) H2
section
variable {X:Cx}{e:Expr}{es:List Expr}{te:TE}{t:TA}{pos:Pos}
def Zf9:PA X [] Zsq:=λ_ _ _ _ H Q I h=>Calls.spliced_nil ⟨[],H,I,.nil,h⟩
def Zeq(ha:PE X e te)(hr:PA X es t)(hs:YA (e::es) X.env=(WA,eval e X.env)::YA es X.env:=by rfl):PA X (e::es) (ZuJ te t):=by intro pos pins s Z H Q I h;rw[hs];show YB _ _ (spliced ((WA,eval e X.env)::YS pos (YA es X.env))) _ _ s;refine Calls.spliced_cons (thn (ha pins s Z H _ I h) λu s1 ⟨x,H1,I1,r1,q1⟩=>?_);exact thn (hr pos pins s1 Z H1 _ I1 q1) λus s2 ⟨xs,H2,I2,r2,q2⟩=>⟨x::xs,H2,I2,.cons r1 r2,q2⟩
noncomputable def Zwz(t:TA):TE:=λZ H Q=>t Z H λxs H1=>xs.length<=sizeLine/\∀p,H1 p=Wy->Q (.ref p) (upd H1 p (.tup xs))
noncomputable def ZwE(t:TA):TE:=λZ H Q=>t Z H λxs H1=>xs.length<=sizeLine/\∀p,H1 p=Wy->Q (.ref p) (upd H1 p (.lst xs))
def ZsZ{x1}(h:PA X es t):PE X (.Tuple es x1 pos) (Zwz t):=by intro pins s Z H Q I hq;refine wpAny_Tuple_spliced (thn (h pos pins s Z H _ I hq) λus s1 ⟨xs,H1,I1,r,z,q⟩=>⟨by rw[<- r.length];exact z,?_⟩);have hf:H1 s1.heap.objs.size=Wy:=I1.hok.fresh (Oq _);refine⟨.ref s1.heap.objs.size,upd H1 s1.heap.objs.size (.tup xs),I1.laid (t':=s1.toks) (λb u e=>O1 _ e) (Oq _) ?_,rfl,q _ hf⟩;exact⟨z,us,r,⟨_,Oj _ rfl,rfl,rfl,_,rfl⟩⟩
def Zs2(h:PA X es t):PE X (.List es pos) (ZwE t):=by intro pins s Z H Q I hq;refine wpAny_List_spliced (thn (h pos pins s Z H _ I hq) λus s1 ⟨xs,H1,I1,r,z,q⟩=>⟨by rw[<- r.length];exact z,?_⟩);have hf:H1 s1.heap.objs.size=Wy:=I1.hok.fresh (Oq _);refine⟨.ref s1.heap.objs.size,upd H1 s1.heap.objs.size (.lst xs),I1.laid (t':=s1.toks) (λb u e=>O1 _ e) (Oq _) ?_,rfl,q _ hf⟩;exact⟨z,us,0,r,Oj _ rfl⟩
end
abbrev Sp:=List V->Hp->VK->XK->Prop
abbrev CXT:=List Env->Hp->Yb->XK->Yj->Yb->Prop
structure Env0(P:Yh)(w:Yg)(K:Yk)(mg:Str->Option Yj)(base:YG)(A:YH)(outer:List Env)(s:Yb)(H:Hp):Prop where
 frames:A.frames=Wx outer
 mod:Mod K mg base
 bs:∀b o,base.get? b=Wx o->s.heap.get? b=Wx o/\H b=Wy
 bsz:base.objs.size<=s.heap.objs.size
 funs:s.heap.FunFrames base outer
 frf:∀b∈frs outer,H b=Wy
 hok:HOk P w H s.heap
 bare:AllBare s.gens
def CE(outer:List Env)(P:Yh)(w:Yg)(H:Hp)(s:Yb)(Q:VK)(u:Yj)(s':Yb):Prop:=∃v H',s'.os=s.os/\AllBare s'.gens/\Un (frs outer) [] H H' s.heap s'.heap/\HOk P w H' s'.heap/\RelV v u/\Q v H'
def CR(CX:CXT)(outer:List Env)(P:Yh)(w:Yg)(H:Hp)(s:Yb)(Q:VK)(E:XK)(r:Result)(s':Yb):Prop:=
 match r with
 |.ok (.ret u)=>CE outer P w H s Q u s'
 |.ok _=>False
 |.error e=>CX outer H s E e s'
structure FnOk(P:Yh)(w:Yg)(K:Yk)(mg:Str->Option Yj)(base:YG)(CX:CXT)(k:Nat)(f:Yi)(fd:FuncData)(ps:List Str)(sp:Sp):Prop where
 len:∀vs H Q E,sp vs H Q E->vs.length=ps.length
 run:∀(A:YH) (outer:List Env) (s:Yb) (H:Hp) (args:Args) (us:List Yj) (vs:List V) (Q:VK) (E:XK),Room k A->Env0 P w K mg base A outer s H->BindsTo s fd args (ps.zip us)->Zn vs us->sp vs H Q E ->
  codeAny (model P w) A (.call (.ref f) args) (CR CX outer P w H s Q E) s
def FnOk.imp{P:Yh}{w:Yg}{K:Yk}{mg:Str->Option Yj}{base:YG}{CX:CXT}{k:Nat}{f:Yi}{fd:FuncData}{ps:List Str}{sp sp':Sp}(F:FnOk P w K mg base CX k f fd ps sp)
 (h:∀vs H Q E,sp' vs H Q E->sp vs H Q E):FnOk P w K mg base CX k f fd ps sp':=
 ⟨λvs H Q E q=>F.len vs H Q E (h _ _ _ _ q),λA outer s H args us vs Q E hr he hb hv hs=>F.run A outer s H args us vs Q E hr he hb hv (h _ _ _ _ hs)⟩
def Env0.make{P:Yh}{w:Yg}{K:Yk}{mg:Str->Option Yj}{base:YG}{A:YH}{outer:List Env}{s:Yb}{H:Hp}(e:Env0 P w K mg base A outer s H)(C:Yi)(us:List Yj)(kw:List (Str×Yj)):
 Env0 P w K mg base (A.under (.builtin "type.__call__" ⟨.ref C::us,kw⟩)) outer s H:=⟨by first|exact e.frames|(simpa[Around.under,Code.envs,Code.isFrame,pushEnvs]using e.frames),e.mod,e.bs,e.bsz,e.funs,e.frf,e.hok,e.bare⟩
section
variable {X:Cx}{pins:List (Yi×Obj)}{Z:St}{H:Hp}{s s':Yb}
def Inv.env0(I:Inv X pins Z H s):Env0 X.prog X.w X.K X.mg X.base X.A X.stack s H:=⟨I.ok.frames,I.ok.mod,I.bs,OE I.ok.bsz I.sz,I.stack,I.stkFree,I.hok,I.bare⟩
def Inv.after{Q:VK}{u:Yj}(I:Inv X pins Z H s)(h:CE X.stack X.prog X.w H s Q u s'):EP X pins Z Q u s':=by obtain⟨v,H',os,bare,un,hok,r,q⟩:=h;obtain⟨hh,g,d,t,os'⟩:=s';obtain rfl:os'=s.os:=os;exact⟨v,H',I.call (h':=hh) (g':=g) (d':=d) (t':=t) (ch:=[]) un hok bare (λb z=>absurd z (by simp)),r,q⟩
end
noncomputable def ZuK(sp:Sp)(dvs:List V)(E:XK)(t:TA):TE:=λZ H Q=>t Z H λvs H1=>sp (vs++dvs) H1 Q E
noncomputable def ZrE(C:Yi)(m:Str)(sp:Sp)(dvs:List V)(E:XK)(ta:TE)(t:TA):TE:=λZ H Q=>ta Z H λx H1=>∃a dx fs,x=.ref a/\H1 a=Wx (.ins C dx fs)/\fs.lookup m=Wy /\
 t Z H1 λvs H2=>sp (x::(vs++dvs)) H2 Q E
noncomputable def ZrF(C:Yi)(sp:Sp)(dvs:List V)(E:XK)(t:TA):TE:=λZ H Q=>t Z H λvs H1=>∀x dx,H1 x=Wy->H1 dx=Wy->dx≠x ->
 sp (.ref x::(vs++dvs)) (upd (upd H1 dx (.own x)) x (.ins C dx [])) (λv H2=>v=.non/\Q (.ref x) H2) E
def Binds(K:Yk)(fd:FuncData)(ps:List Str)(ds:List Yj):Prop:=∀(s:Yb) (us:List Yj),K.In s.heap->(us++ds).length=ps.length->BindsTo s fd ⟨us,[]⟩ (ps.zip (us++ds))
def Binds.all{K:Yk}{fd:FuncData}{ps:List Str}(h:∀us:List Yj,us.length=ps.length->bindArgs fd ⟨us,[]⟩=pure (ps.zip us)):Binds K fd ps []:=λs us _ hl=>by rw[Yt]at hl ⊢;exact .of_eq (h us hl)
def ZaU(CX:CXT)(X:Cx)(E:XK):Prop:=∀(pins:List (Yi×Obj)) (Z:St) (H:Hp) (s:Yb) (e:Yj) (s':Yb),Inv X pins Z H s->CX X.stack H s E e s'->X.xe e s'
section
variable {X:Cx}{CX:CXT}{k:Nat}{f C:Yi}{fd:FuncData}{ps:List Str}{sp:Sp}{dvs:List V}{ds:List Yj}{E:XK}{x m:Str}{p pos apos:Pos}{e o:Expr}{es:List Expr}{ta:TE}{t:TA}
def Zkb{pins:List (Yi×Obj)}{Z:St}{H:Hp}{s:Yb}{Q:VK}{us:List Yj}{vs:List V}(F:FnOk X.prog X.w X.K X.mg X.base CX k f fd ps sp)(hr:Room k X.A)(hb:Binds X.K fd ps ds)(hd:Zn dvs ds)(hx:ZaU CX X E)
 (I:Inv X pins Z H s) (r:Zn vs us) (h:sp (vs++dvs) H Q E):YB (model X.prog X.w) X.A (call (.ref f) us) (EP X pins Z Q) X.xe s:=by
 have r2:Zn (vs++dvs) (us++ds):=r.append hd;have hl:(us++ds).length=ps.length:=by rw[<- r2.length];exact F.len _ _ _ _ h
 refine wpAny_call (codeAny_mono (F.run X.A X.stack s H ⟨us,[]⟩ (us++ds) (vs++dvs) Q E hr I.env0 (hb s us I.kIn hl) r2 h) λr s' hq=>?_);cases r with
 |error e=>exact hx pins Z H s e s' I hq
 |ok fl=>
  cases fl with
  |ret u=>exact I.after hq
  |next=>exact False.elim hq
  |brk=>exact False.elim hq
  |cont=>exact False.elim hq
def Zqz(F:FnOk X.prog X.w X.K X.mg X.base CX k f fd ps sp)(hr:Room k X.A)(hg:Gl X x)(hm:X.mg x=Wx (.ref f))(hk:Wh X.K (.ref f)=Wz)(hb:Binds X.K fd ps ds)(hd:Zn dvs ds)(hx:ZaU CX X E)
 (ha:PA X (e::es) t) (hdb:(x==("__debug__" : Str))=WA:=by decide) (he:YA (e::es) X.env=(WA,eval e X.env)::YA es X.env:=by rfl) (hpl:(YS pos (YA es X.env)).any (·.1)=WA:=by rfl) :
 PE X (.Call (.Name x p) (e::es) [] pos) (ZuK sp dvs E t):=by
 intro pins s Z H Q I h;refine YY (ZcG I hg hm ?_ hdb);refine PySem.W.callWith_K (h₀:=X.base) I.ok.mod.kin hk (thn (ha pos pins s Z H _ I h) λus s1 ⟨vs,H1,I1,r,q⟩=>⟨I1.kIn,?_⟩) he hpl;exact Zkb F hr hb hd hx I1 r q
def Zqs{pl:Sem Bool}(he:PE X o ta)(c:Cls X.K C)(hm:Meth X.K C m f)(F:FnOk X.prog X.w X.K X.mg X.base CX k f fd ps sp)(hr:Room k X.A)(hb:Binds X.K fd ps ds)(hd:Zn dvs ds)(hx:ZaU CX X E)(ha:PA X (e::es) t)
 (hst:YA (e::es) X.env=(WA,eval e X.env)::YA es X.env:=by rfl) (hpl:(YS pos (YA es X.env)).any (·.1)=WA:=by rfl)
 (ht:eval (.Call (.Attribute o m apos) (e::es) [] pos) X.env=(do
  let ov <- eval o X.env
  standAt apos.atName
  let (f,first) <- holding [ov] (getMethod ov m pl)
  callWith pos f first (YS pos (YA (e::es) X.env)) (backToKw pos (We [] X.env))):=by rfl) :
 PE X (.Call (.Attribute o m apos) (e::es) [] pos) (ZrE C m sp dvs E ta t):=by
 intro pins s Z H Q I h;refine PySem.W.methodCall_KW (pl:=pl) (thn (he pins s Z H _ I h) λu s1 ⟨x,H1,I1,rx,a,dx,fs,ex,ea,l,q⟩=>?_) ht;subst ex;obtain rfl:u=YD a:=rx;refine Zgr I1 ea c hm l ?_;refine PySem.W.callWith_K (first:=[.ref a]) (h₀:=X.base) I.ok.mod.kin hm.kp (thn (ha pos pins s1 Z H1 _ I1 q) λus s2 ⟨vs,H2,I2,r,q2⟩=>⟨I2.kIn,?_⟩) hst hpl;exact Zkb (us:=.ref a::us) (vs:=.ref a::vs) F hr hb hd hx I2 (.cons rfl r) q2
def Zn7{pl:Sem Bool}(he:PE X o ta)(c:Cls X.K C)(hm:Meth X.K C m f)(F:FnOk X.prog X.w X.K X.mg X.base CX k f fd ps sp)(hr:Room k X.A)(hb:Binds X.K fd ps ds)(hd:Zn dvs ds)(hx:ZaU CX X E)
 (ht:eval (.Call (.Attribute o m apos) [] [] pos) X.env=(do
  let ov <- eval o X.env
  standAt apos.atName
  let (f,first) <- holding [ov] (getMethod ov m pl)
  callWith pos f first (YS pos (YA [] X.env)) (backToKw pos (We [] X.env))):=by rfl) :
 PE X (.Call (.Attribute o m apos) [] [] pos) (ZrE C m sp dvs E ta Zsq):=by
 intro pins s Z H Q I h;refine PySem.W.methodCall_KW (pl:=pl) (thn (he pins s Z H _ I h) λu s1 ⟨x,H1,I1,rx,a,dx,fs,ex,ea,l,q⟩=>?_) ht;subst ex;obtain rfl:u=YD a:=rx;refine Zgr I1 ea c hm l ?_;exact PySem.W.callWith_K0 (first:=[.ref a]) I1.kIn hm.kp (Zkb (us:=[.ref a]) (vs:=[.ref a]) F hr hb hd hx I1 (.cons rfl .nil) q)
structure Mk(K:Yk)(C f:Yi):Prop where
 makes:PySem.W.makesIn K C=Wz
 init:YJ K (.ref C) "__init__" = Wx (Wx (.ref f))
 fn:PySem.W.isFn K (.ref f)=Wz
 kp:Wh K (.ref C)=Wz
def ZiP{pins:List (Yi×Obj)}{Z:St}{H:Hp}{s:Yb}{Q:VK}{us:List Yj}{vs:List V}(M:Mk X.K C f)(F:FnOk X.prog X.w X.K X.mg X.base CX k f fd ps sp)(hr:Room (k+1) X.A)(hb:Binds X.K fd ps ds)(hd:Zn dvs ds)
 (hx:ZaU CX X E) (I:Inv X pins Z H s) (r:Zn vs us)
 (h:∀x dx,H x=Wy->H dx=Wy->dx≠x->sp (.ref x::(vs++dvs)) (upd (upd H dx (.own x)) x (.ins C dx [])) (λv H2=>v=.non/\Q (.ref x) H2) E) :
 YB (model X.prog X.w) X.A (call (.ref C) us) (EP X pins Z Q) X.xe s:=by
 have hq:=h (s.heap.objs.size+1) s.heap.objs.size (I.hok.fresh (Wo _)) (I.hok.fresh (Oq _)) (Ou (OH _));have I2:=Inv.made (C:=C) I;have r2:Zn (V.ref (s.heap.objs.size+1)::(vs++dvs)) (YD (s.heap.objs.size+1)::(us++ds)):=.cons rfl (r.append hd);have hl:(YD (s.heap.objs.size+1)::us++ds).length=ps.length:=by have e:=r2.length;rw[F.len _ _ _ _ hq]at e;exact e.symm
 refine wpAny_call (Zor (f:=f) I.kIn M.makes M.init (beq_iff_eq.mp M.fn) (codeAny_mono (F.run _ X.stack _ _ ⟨YD (s.heap.objs.size+1)::us,[]⟩ (YD (s.heap.objs.size+1)::(us++ds)) _ _ E (hr.make C us [])
  (I2.env0.make C us []) (hb _ (YD (s.heap.objs.size+1)::us) I2.kIn hl) r2 hq) λr s' hq'=>?_))
 cases r with
 |error e=>exact hx pins Z _ _ e s' I2 hq'
 |ok fl=>
  cases fl with
  |ret u=>obtain⟨v,H',I3,rv,ev,q3⟩:=I2.after hq';subst ev;exact⟨rv,⟨V.ref (s.heap.objs.size+1),H',I3,rfl,q3⟩⟩
  |next=>exact False.elim hq'
  |brk=>exact False.elim hq'
  |cont=>exact False.elim hq'
def Zqu(M:Mk X.K C f)(F:FnOk X.prog X.w X.K X.mg X.base CX k f fd ps sp)(hr:Room (k+1) X.A)(hg:Gl X x)(hm:X.mg x=Wx (.ref C))(hb:Binds X.K fd ps ds)(hd:Zn dvs ds)(hx:ZaU CX X E)
 (ha:PA X (e::es) t) (hdb:(x==("__debug__" : Str))=WA:=by decide) (he:YA (e::es) X.env=(WA,eval e X.env)::YA es X.env:=by rfl) (hpl:(YS pos (YA es X.env)).any (·.1)=WA:=by rfl) :
 PE X (.Call (.Name x p) (e::es) [] pos) (ZrF C sp dvs E t):=by
 intro pins s Z H Q I h;refine YY (ZcG I hg hm ?_ hdb);refine PySem.W.callWith_K (h₀:=X.base) I.ok.mod.kin M.kp (thn (ha pos pins s Z H _ I h) λus s1 ⟨vs,H1,I1,r,q⟩=>⟨I1.kIn,?_⟩) he hpl;exact ZiP M F hr hb hd hx I1 r q
def Zn8(M:Mk X.K C f)(F:FnOk X.prog X.w X.K X.mg X.base CX k f fd ps sp)(hr:Room (k+1) X.A)(hg:Gl X x)(hm:X.mg x=Wx (.ref C))(hb:Binds X.K fd ps ds)(hd:Zn dvs ds)(hx:ZaU CX X E)
 (hdb:(x==("__debug__" : Str))=WA:=by decide):PE X (.Call (.Name x p) [] [] pos) (ZrF C sp dvs E Zsq):=by
 intro pins s Z H Q I h;refine YY (ZcG I hg hm ?_ hdb);exact PySem.W.callWith_K0 I.kIn M.kp (ZiP (us:=[]) M F hr hb hd hx I .nil h)
end
structure FnScope(N P:List Str)(sc:Scope):Prop where
 kind:sc.kind=.function
 co:sc.isCoroutine=WA
 gen:sc.isGenerator=WA
 nd:N.Nodup
 pre:N.take P.length=P
 par:∀x∈P,sc.names.lookup x=Wx .local\/sc.names.lookup x=Wx .cell
 nofree:∀y∈sc.names,y.2≠.free
theorem Zhq{kindOf:Str->Option NameKind}{x:Str}:∀{binds:List (Str×Yj)}{m:Str->Option Yj},(∀v,(x,v) ∉ binds)->bindL kindOf binds m x=m x
 |[],_,_=>rfl
 |(n,v)::r,m,h=>by
  unfold bindL;rw[Zhq λw hw=>h w (Oh _ hw)];split
  . have:x≠n:=by rintro rfl;exact h v Oi
    simp[this]
  . rfl
theorem Zhs{kindOf:Str->Option NameKind}{x:Str}:∀{binds:List (Str×Yj)}{m:Str->Option Yj},(∀v,(x,v) ∉ binds)->bindC kindOf binds m x=m x
 |[],_,_=>rfl
 |(n,v)::r,m,h=>by
  unfold bindC;rw[Zhs λw hw=>h w (Oh _ hw)];split
  . rfl
  . have:x≠n:=by rintro rfl;exact h v Oi
    simp[this]
theorem Zhr{kindOf:Str->Option NameKind}{x:Str}{v:Yj}:∀{P:List Str}{vs:List Yj}{i:Nat}{m:Str->Option Yj},P.Nodup->P[i]? = Wx x->vs[i]? = Wx v->kindOf x=Wx .local ->
 bindL kindOf (P.zip vs) m x=Wx v
 |[],_,_,_,_,h,_,_=>by simp at h
 |_::_,[],_,_,_,_,h,_=>by simp at h
 |p::P,w::vs,0,m,nd,h1,h2,hk=>by simp at h1 h2;subst h1;subst h2;show bindL kindOf ((p,w)::P.zip vs) m p=_;unfold bindL;rw[Zhq λv hv=>(List.nodup_cons.mp nd).1 (List.of_mem_zip hv).1,if_pos hk];simp
 |p::P,w::vs,i+1,m,nd,h1,h2,hk=>by show bindL kindOf ((p,w)::P.zip vs) m x=_;unfold bindL;exact Zhr (i:=i) (List.nodup_cons.mp nd).2 (by simpa using h1) (by simpa using h2) hk
theorem Zht{kindOf:Str->Option NameKind}{x:Str}{v:Yj}:∀{P:List Str}{vs:List Yj}{i:Nat}{m:Str->Option Yj},P.Nodup->P[i]? = Wx x->vs[i]? = Wx v->kindOf x≠Wx .local ->
 bindC kindOf (P.zip vs) m x=Wx v
 |[],_,_,_,_,h,_,_=>by simp at h
 |_::_,[],_,_,_,_,h,_=>by simp at h
 |p::P,w::vs,0,m,nd,h1,h2,hk=>by simp at h1 h2;subst h1;subst h2;show bindC kindOf ((p,w)::P.zip vs) m p=_;unfold bindC;rw[Zhs λv hv=>(List.nodup_cons.mp nd).1 (List.of_mem_zip hv).1,if_neg hk];simp
 |p::P,w::vs,i+1,m,nd,h1,h2,hk=>by show bindC kindOf ((p,w)::P.zip vs) m x=_;unfold bindC;exact Zht (i:=i) (List.nodup_cons.mp nd).2 (by simpa using h1) (by simpa using h2) hk
noncomputable def start(N:List Str)(vs:List V):St:=vs.map Wx++YK (N.length - vs.length) Wy
noncomputable def ZeU(CX:CXT)(P:Yh)(w:Yg)(K:Yk)(mg:Str->Option Yj)(base:YG)(N:List Str)(qual:Str)(scope:Scope)(f:Yi)(cd:Yj)(A:YH)(outer:List Env)(s:Yb)(H:Hp)(E:XK):Cx where
 prog:=P
 w:=w
 K:=K
 mg:=mg
 base:=base
 A:=A.deeper (envOfC qual scope s.heap.objs.size f cd)
 N:=N
 s₀:=s
 H₀:=H
 env:=envOfC qual scope s.heap.objs.size f cd
 outer:=outer
 stack:=envOfC qual scope s.heap.objs.size f cd::outer
 ex:=[]
 calm:=Wz
 fn:=λ_=>Wz
 pn:=[]
 xe:=λe s'=>YB (model P w) (A.deeper (envOfC qual scope s.heap.objs.size f cd)) (leaving (envOfC qual scope s.heap.objs.size f cd) e) (λ_ s''=>CX outer H s E e s'') (λe' s''=>CX outer H s E e' s'') s'
def ZjK{sc:Scope}{n:Nat}{x:Str}(h:sc.names.lookup x=Wx .cell):∃c,(cellsFrom n sc.names []).lookup x=Wx c:=by have q:=PySem.W.cellsFrom_some sc.names n [] (.inl h);exact Option.isSome_iff_exists.mp q
def ZmZ{CX:CXT}{P:Yh}{w:Yg}{K:Yk}{mg:Str->Option Yj}{base:YG}{N ps:List Str}{qual:Str}{scope:Scope}{f:Yi}{cd:Yj}{A:YH}{outer:List Env}{s s1:Yb}{H:Hp}{E:XK}{us:List Yj}{vs:List V}
 (S_:FnScope N ps scope) (hd:A.handled=Wy) (e0:Env0 P w K mg base A outer s H) (hl:vs.length=ps.length) (r:Zn vs us)
 (x:InCallC s s.heap.objs.size (bindL (envOfC qual scope s.heap.objs.size f cd).kindOf (ps.zip us) λ_=>Wy) (cellsFrom (s.heap.objs.size+1) scope.names []) (bindC (envOfC qual scope s.heap.objs.size f cd).kindOf (ps.zip us) λ_=>Wy) s1) :
 Inv (ZeU CX P w K mg base N qual scope f cd A outer s H E) [] (start N vs) H s1:=by
 have hpl:ps.length<=N.length:=by have:=congrArg List.length S_.pre;rw[List.length_take]at this;lia
 obtain⟨h1,tk,rfl,hk⟩:=x.done;have noA:∀b:Yi,b ∉ (ZeU CX P w K mg base N qual scope f cd A outer s H E).ex:=λb z=>absurd (show b∈([]:List Yi)from z) (by simp);refine⟨⟨e0.mod,S_.kind,rfl,rfl,Oq _,λy z c h1 h2=>?_,λy hy=>?_,λy c _ h=>?_,λ_=>hd,Around.frames_deeper e0.frames,.inr ⟨rfl,rfl⟩,λb z=>absurd z (noA b),e0.bs,e0.bsz,λb _ _=>noA b,λb z=>absurd z (noA b),e0.funs,e0.frf⟩,
  rfl,e0.bare,Un.kept hk,⟨_,x.toInCall.ns,λi y v h1 h2 h3=>?_⟩,λy c h=>⟨_,x.cell y c h⟩,e0.hok.fresh (Oq _),λy c h=>?_,λp hp=>absurd (show p∈([]:List (Yi×Obj))from hp) (by simp),e0.hok.kept hk,?_⟩
 . exact name_of_addr x.apart (YI h1) (YI h2)
 . have hy:scope.names.lookup y=Wx .cell\/scope.names.lookup y=Wx .free:=hy;rcases hy with hy|hy
   . exact ZjK hy
   . exact absurd rfl (S_.nofree _ (YI hy))
 . exact Nat.le_of_lt (x.above y c (YI h))
 . have hi:i<vs.length:=by
    unfold start at h2;by_cases hi:i<vs.length
    . exact hi
    . rw[Om (by simpa using hi)]at h2;rw[List.getElem?_replicate]at h2;split at h2<;>cases h2
   have ha:vs[i]? = Wx v:=by
    unfold start at h2;rw[Oe (by simpa using hi),On]at h2;cases e:vs[i]? with
    |none=>rw[e]at h2;cases h2
    |some a=>rw[e]at h2;cases h2;rfl
   obtain⟨u,hu,rv⟩:=r.get ha;have hp:ps[i]? = Wx y:=by rw[<- S_.pre,List.getElem?_take_of_lt (by lia)];exact h1
   have ndP:ps.Nodup:=by rw[<- S_.pre];exact S_.nd.sublist (List.take_sublist _ _)
   refine⟨u,rv,?_⟩;rcases S_.par y (O2 hp)with k|k
   . exact .inl ⟨k,Zhr ndP hp hu k⟩
   . obtain⟨c,e⟩:=ZjK (n:=s.heap.objs.size+1) k;refine .inr ⟨.inl k,c,e,?_⟩;have q:=x.cell y c e;rw[Zht ndP hp hu (by show scope.names.lookup y≠_;rw[k];decide)]at q;exact q
 . exact e0.hok.fresh (Nat.le_of_lt (x.above y c (YI h)))
 . unfold start;show _=N.length;rw[OA,Yu,List.length_replicate]
   lia
def ZvS{CX:CXT}{P:Yh}{w:Yg}{K:Yk}{mg:Str->Option Yj}{base:YG}{k:Nat}{f:Yi}{name qual:Str}{params:Arguments}{body:List Stmt}{scope:Scope}{dV kV doc pm cdv ct oc:Yj}{an od:Option Yi}
 {osl:Array (Option Yj)}{N ps:List Str}{sp:Sp} (lk:K.lookup f=Wx ⟨oc,od,.func (PySem.W.fnOf name qual params body scope dV kV doc pm an cdv ct),osl⟩) (hcd:PySem.W.codeIn K cdv qual=Wz) (S_:FnScope N ps scope)
 (len:∀vs H Q E,sp vs H Q E->vs.length=ps.length)
 (hbody:∀(A:YH) (outer:List Env) (s:Yb) (H:Hp) (vs:List V) (Q:VK) (E:XK),Room k (A.deeper (envOfC qual scope s.heap.objs.size f cdv))->sp vs H Q E ->
  ∃t,PSs (ZeU CX P w K mg base N qual scope f cdv A outer s H E) body t/\t {nx:=λ_ H'=>Q .non H',rt:=Q} (start N vs) H) :
 FnOk P w K mg base CX (k+1) f (PySem.W.fnOf name qual params body scope dV kV doc pm an cdv ct) ps sp:=by
 refine⟨len,λA outer s H args us vs Q E hr e0 hb r hsp=>?_⟩;have hl:=len _ _ _ _ hsp;have KX:K.In s.heap:=e0.mod.kin.keeps λb o e=>(e0.bs b o e).1;have lim:s.heap.NoLimit:=e0.mod.nolimit.keeps λb o e=>(e0.bs b o e).1;have hkind:∀y∈ps.zip us,scope.names.lookup y.1=Wx .local\/(scope.names.lookup y.1=Wx .cell/\((cellsFrom (s.heap.objs.size+1) scope.names []).lookup y.1).isSome=Wz):=λ⟨n,v⟩ hy=>by
  rcases S_.par n (List.of_mem_zip hy).1 with q|q
  . exact .inl q
  . exact .inr ⟨q,PySem.W.cellsFrom_some _ _ _ (.inl q)⟩
 refine codeAny_call_function hr.depth (KX _ _ lk) rfl S_.co S_.gen rfl (PySem.W.codeRec_of KX hcd) (hb _ _ _ _ ?_);refine wpAny_newFunctionEnv_cells S_.kind hkind λenv he s1 x=>?_;subst he;refine⟨lim.keeps x.toInCall.keep,codeAny_func ?_⟩;obtain⟨t,ht,hq⟩:=hbody A outer s H vs Q E (hr.deeper _) hsp;have I:Inv (ZeU CX P w K mg base N qual scope f cdv A outer s H E) [] (start N vs) H s1:=ZmZ S_ hr.hd e0 hl r x;refine Yf (ht [] s1 (start N vs) H _ I hq) (λfl s' hs=>?_) λe s' hs=>hs;have fin:∀{σ':St}{H':Hp}{v:V}{u:Yj},Inv (ZeU CX P w K mg base N qual scope f cdv A outer s H E) [] σ' H' s'->RelV v u->Q v H'->CE outer P w H s Q u s':=λ{σ' H' v u} J rv q=>⟨v,H',J.os,J.bare,J.base,J.hok,rv,q⟩
 cases fl with
 |ret u=>obtain⟨v,σ',H',J,rv,q⟩:=hs;exact fin J rv q
 |next=>obtain⟨σ',H',J,q⟩:=hs;exact fin (v:=V.non) (u:=Value.none) J rfl q
 |brk=>obtain⟨_,_,_,q⟩:=hs;exact False.elim q
 |cont=>obtain⟨_,_,_,q⟩:=hs;exact False.elim q
section
variable {X:Cx}{x:Str}{p pos:Pos}{e:Expr}{es:List Expr}{t:TA}{id T:String}{r:List V->Hp->VK->Prop}
noncomputable def tCB(r:List V->Hp->VK->Prop)(t:TA):TE:=λZ H Q=>t Z H λvs H1=>r vs H1 Q
def Zep(hc:ZcA X (.builtin id) r)(hg:Gl X x)(hm:X.mg x=Wy)(hv:bootBuiltins x=Wx (.builtin id))(ha:PA X (e::es) t)(hn:x ≠ "__name__" := by decide)(hdb:(x==("__debug__" : Str))=WA:=by decide)
 (he:YA (e::es) X.env=(WA,eval e X.env)::YA es X.env:=by rfl) (hpl:(YS pos (YA es X.env)).any (·.1)=WA:=by rfl):PE X (.Call (.Name x p) (e::es) [] pos) (tCB r t):=by
 intro pins s Z H Q I h;refine YY (Zde I hg hm hv ?_ hn hdb);exact PyProof.Rows.callWith_builtin1 (thn (ha pos pins s Z H _ I h) λus s1 ⟨vs,H1,I1,r1,q1⟩=>hc pins s1 Z H1 vs us Q I1 r1 q1) he hpl
def ZmA(hc:ZcA X (.type T) r)(hg:Gl X x)(hm:X.mg x=Wy)(hv:bootBuiltins x=Wx (.type T))(ha:PA X (e::es) t)(hn:x ≠ "__name__" := by decide)(hdb:(x==("__debug__" : Str))=WA:=by decide)
 (he:YA (e::es) X.env=(WA,eval e X.env)::YA es X.env:=by rfl) (hpl:(YS pos (YA es X.env)).any (·.1)=WA:=by rfl):PE X (.Call (.Name x p) (e::es) [] pos) (tCB r t):=by
 intro pins s Z H Q I h;refine YY (Zde I hg hm hv ?_ hn hdb);exact PyProof.Rows.callWith_type1 (thn (ha pos pins s Z H _ I h) λus s1 ⟨vs,H1,I1,r1,q1⟩=>hc pins s1 Z H1 vs us Q I1 r1 q1) he hpl
end
end L2
namespace HT
open PySem PyProof.Rows
section
variable {prog:Yh}{w:Yg}{A:YH}{E:Yj->Yb->Prop}{s:Yb}
def Zrq{t b:Yi}{vs ws:List Yj}{Q:Yj->Yb->Prop}(ht:IsTup s.heap t vs.toArray)(hb:IsTup s.heap b ws.toArray)(hv:vs≠[])
 (h1:ws=[]->Q (.ref t) s) (h2:ws≠[]->Q (.ref s.heap.objs.size) {s with heap:=s.heap.push {cls:=.type "tuple",data:=.seq (vs++ws).toArray}})
 (hsz:vs.length+ws.length<=sizeLine):YB (model prog w) A (binaryOp .Add (.ref t) (.ref b)) Q E s:=by
 obtain⟨⟨cls,dd,data,sl⟩,ho,hc,n,hd⟩:=id ht;obtain⟨⟨cls2,dd2,data2,sl2⟩,ho2,hc2,n2,hd2⟩:=id hb;simp only at hc hd hc2 hd2;subst hc hd hc2 hd2;have e:vs.toArray++ws.toArray=(vs++ws).toArray:=by simp
 by_cases hw:ws=[]
 . exact concat_meets ⟨_,ho,rfl⟩ ⟨_,ho2,rfl⟩ noFill_tuple_add seq_tuple_add PySem.F.slot_tuple_add PySem.F.entry_tuple_add (PySem.F.args_tuple_add_2 _ _)
    (tuple_addW1 t b vs.toArray ws.toArray n n2 dd dd2 sl sl2 (by simpa using hv) (by simp[hw])) ⟨ho,ho2,h1 hw⟩
 . refine concat_meets ⟨_,ho,rfl⟩ ⟨_,ho2,rfl⟩ noFill_tuple_add seq_tuple_add PySem.F.slot_tuple_add PySem.F.entry_tuple_add (PySem.F.args_tuple_add_2 _ _)
    (tuple_addW2 t b vs.toArray ws.toArray n n2 dd dd2 sl sl2 (by simpa using hv) (by simpa using hw) (by rw[Of,Of];exact hsz)) ⟨ho,ho2,?_⟩
   rw[e];exact h2 hw
noncomputable def sIx(n d:Nat):Option Int->Nat
 |none=>d
 |some v=>if v<0 then(v+(n:Int)).toNat else min v.toNat n
def ZsA(n d:Nat)(hd:d<=n)(o:Option Int):sIx n d o<=n:=by
 cases o with
 |none=>exact hd
 |some v=>
  show(if v<0 then(v+(n:Int)).toNat else min v.toNat n)<=n;by_cases hv:v<0
  . rw[if_pos hv];lia
  . rw[if_neg hv];exact Nat.min_le_right _ _
def Zl7(v:Int)(n d:Nat):(if v<0 then max (v+(n:Int)) 0 else min v (n:Int))=((sIx n d (Wx v):Nat):Int):=by
 show(if v<0 then max (v+(n:Int)) 0 else min v (n:Int))=(((if v<0 then(v+(n:Int)).toNat else min v.toNat n):Nat):Int)
 by_cases hv:v<0
 . simp only[if_pos hv];lia
 . simp only[if_neg hv];lia
def Zlk(lo hi:Option Int)(n:Nat):Builtin.Slice.sliceAdjust lo hi 1 (n:Int)=(((sIx n 0 lo:Nat):Int),((sIx n n hi:Nat):Int)):=by
 have h1:¬ ((1:Int)<0):=by lia
 unfold Builtin.Slice.sliceAdjust;simp only[h1,if_false];refine Prod.ext ?_ ?_
 . cases lo with
   |none=>rfl
   |some v=>exact Zl7 v n 0
 . cases hi with
   |none=>rfl
   |some v=>exact Zl7 v n n
def Zkj(i j:Nat):Builtin.Slice.slicePlaces (i:Int) (j:Int) 1=j - i:=by
 unfold Builtin.Slice.slicePlaces;have h1:(1:Int) > 0:=by lia
 simp only[h1,if_true,Int.ediv_one];split<;>lia
def ZfM{v:Yj}{o:Option Int}{Q:Option Int->Yb->Prop}(p:IsPart v o)(h:Q o s):YB (model prog w) A (Builtin.Slice.slicePartIndex v) Q E s:=by
 cases p with
 |none=>exact slicePart_none h
 |int i t=>exact slicePart_int h
def Zck{sl:Yi}{vl vu:Yj}{lo hi:Option Int}{n:Nat}{Q:Int×Int×Nat->Yb->Prop}(hs:s.heap.IsSliceOf sl vl vu .none)(pl:IsPart vl lo)(pu:IsPart vu hi)
 (h:Q (((sIx n 0 lo:Nat):Int),1,sIx n n hi - sIx n 0 lo) s):YB (model prog w) A (Builtin.Slice.sliceApplied (.ref sl) (pure (n:Int))) Q E s:=by
 obtain⟨os,hos,hcs,hds⟩:=id hs;unfold Builtin.Slice.sliceApplied Builtin.Slice.sliceFields;refine Ya (Ya (YR hos hds (x:=vl) rfl (Ya (YR hos hds (x:=vu) rfl (Ya (YR hos hds (x:=.none) rfl (Yc ?_)))))));refine Ya (slicePart_none ?_);show YB _ _ (if ((1:Int)==0)=Wz then _ else _) _ _ s;rw[if_neg (by decide)];refine Ya (ZfM pl (Ya (ZfM pu (Ya (Yc ?_)))));show YB _ _ (match Builtin.Slice.sliceAdjust lo hi 1 (n:Int)with|(lo,hi)=>pure (lo,(1:Int),Builtin.Slice.slicePlaces lo hi 1)) _ _ s;rw[Zlk lo hi n];show YB _ _ (pure (((sIx n 0 lo:Nat):Int),(1:Int),Builtin.Slice.slicePlaces ((sIx n 0 lo:Nat):Int) ((sIx n n hi:Nat):Int) 1)) _ _ s;rw[Zkj];exact Yc h
def Zn2(xs:Array Yj)(i k:Nat):((List.range k).filterMap λ(m:Nat)=>xs[((i:Int)+(m:Int) * 1).toNat]?).toArray=((xs.toList.drop i).take k).toArray:=by
 have e:(λ(m:Nat)=>xs[((i:Int)+(m:Int) * 1).toNat]?)=λm=>xs[i+m]? := by
  funext m;have:((i:Int)+(m:Int) * 1).toNat=i+m:=by lia
  rw[this]
 rw[e];have:=pick_run xs i k;rw[List.filterMap_map]at this;have e2:((λx=>xs[x]?) ∘ λx=>i+x)=λm=>xs[i+m]? := rfl;rw[e2]at this;rw[this]
def Zex{t sl:Yi}{items:Array Yj}{vl vu:Yj}{lo hi:Option Int}{Q:Yj->Yb->Prop}(ht:IsTup s.heap t items)(hs:s.heap.IsSliceOf sl vl vu .none)(pl:IsPart vl lo)(pu:IsPart vu hi)
 (hw:¬ (sIx items.size 0 lo=0/\sIx items.size items.size hi=items.size))
 (h:Q (.ref s.heap.objs.size) {s with heap:=s.heap.push {cls:=.type "tuple",data:=.seq ((items.toList.drop (sIx items.size 0 lo)).take (sIx items.size items.size hi - sIx items.size 0 lo)).toArray}})
 (hsz:items.size<=sizeLine):YB (model prog w) A (getItem (.ref t) (.ref sl)) Q E s:=by
 have htake:sizeOk (.seq ((items.toList.drop (sIx items.size 0 lo)).take (sIx items.size items.size hi - sIx items.size 0 lo)).toArray):=by
  show((items.toList.drop (sIx items.size 0 lo)).take (sIx items.size items.size hi - sIx items.size 0 lo)).toArray.size<=sizeLine;rw[Of,List.length_take,List.length_drop,Array.length_toList]
  lia
 have hj:sIx items.size items.size hi<=items.size:=ZsA _ _ (Oq _) hi;obtain⟨os,hos,hcs,hds⟩:=id hs;have hTs:s.TypeIs (.ref sl) "slice" := ⟨os,hos,hcs⟩
 unfold getItem
 try with_reducible refine Wi ?_
 first|refine Ya (Yc ?_)|skip
 refine Ya (wpAny_sequenceKey ht.typeIs (by decide) ?_);refine Ya (Wf (name:=O "__getitem__") ht.typeIs Wq
  (Wj Wq ht.typeIs entry_tuple_getitem ?_ (args_tuple_getitem _ _)))
 show YB _ _ (Builtin.Tuple.tupleItemsOf (.ref t) >>= _) _ _ s;refine Ya (tupleItemsOf_ ht ?_);refine Ya (wpAny_typeOf hTs ?_);rw[if_pos (by decide)];refine Ya (Zck hs pl pu ?_);have hno:¬ ((((sIx items.size 0 lo:Nat):Int)==0&&(1:Int)==1&&(sIx items.size items.size hi - sIx items.size 0 lo)==items.size)=Wz):=by intro q;rw[Oa,Oa]at q;have q1:((sIx items.size 0 lo:Nat):Int)=0:=eq_of_beq q.1.1;have q2:sIx items.size items.size hi - sIx items.size 0 lo=items.size:=eq_of_beq q.2;exact hw ⟨by lia,by lia⟩
 show YB _ _ (if (((sIx items.size 0 lo:Nat):Int)==0&&(1:Int)==1&&(sIx items.size items.size hi - sIx items.size 0 lo)==items.size)=Wz then _ else _) _ _ s;rw[if_neg hno,Zn2]
 first
  |exact Ya (m:=Builtin.Tuple.tupleExact _) (Yr (Yc ⟨_,rfl,Yc h⟩) htake)
  |exact Ya (m:=Builtin.Tuple.tupleExact _) (Yr (Ya (Yc (Yc ⟨_,rfl,Yc h⟩))) htake)
  |exact Ya (Ya (m:=Builtin.Tuple.tupleExact _) (Yr (Yc (Yc ⟨_,rfl,Yc h⟩)) htake))
  |exact Ya (Ya (m:=Builtin.Tuple.tupleExact _) (Yr (Yc ⟨_,rfl,Yc h⟩) htake))
end
end HT
namespace L2
open PySem PySem.Spec PyProof.Rows
abbrev TO:=St->Hp->(Option Int->Hp->Prop)->Prop
def PO(X:Cx)(e:Option Expr)(t:TO):Prop:=
 ∀(pins:List (Yi×Obj)) (s:Yb) (Z:St) (H:Hp) (Q:Option Int->Hp->Prop),Inv X pins Z H s->t Z H Q ->
  YB (model X.prog X.w) X.A (evalPart e X.env) (λu s'=>∃o H',Inv X pins Z H' s'/\IsPart u o/\Q o H') X.xe s
noncomputable def ZpR:TO:=λ_ H Q=>Q Wy H
noncomputable def ZuD(t:TE):TO:=λZ H Q=>t Z H λx H1=>∃i,x=.int i/\Q (Wx i) H1
section
variable {X:Cx}{e:Expr}{te:TE}{lo hi:Option Expr}{tl th:TO}{pos p2:Pos}
def Zqn:PO X Wy ZpR:=by intro pins s Z H Q I h;rw[evalPart_none];exact Yc ⟨Wy,H,I,.none,h⟩
def Zqm(h:PE X e te):PO X (Wx e) (ZuD te):=by intro pins s Z H Q I hw;rw[evalPart_some];refine thn (h pins s Z H _ I hw) λu s1 ⟨x,H1,I1,r1,q1⟩=>?_;obtain⟨i,rfl,q⟩:=q1;obtain⟨t,rfl⟩:=r1;exact⟨Wx i,H1,I1,.int i t,q⟩
def SlR(X:Cx)(r:V->Option Int->Option Int->Hp->VK->Prop):Prop:=
 ∀(pins:List (Yi×Obj)) (s:Yb) (Z:St) (H:Hp) (x:V) (v vl vu:Yj) (lo hi:Option Int) (sl:Yi) (Q:VK),Inv X pins Z H s->RelV x v->s.heap.IsSliceOf sl vl vu .none->IsPart vl lo->IsPart vu hi->r x lo hi H Q ->
  ∃T id,typeLookup (.type T) "__getitem__" = pure (Wx (.builtin id))/\s.TypeIs v T/\YB (model X.prog X.w) X.A (getItem v (.ref sl)) (EP X pins Z Q) X.xe s
noncomputable def tSl(r:V->Option Int->Option Int->Hp->VK->Prop)(te:TE)(tl th:TO):TE:=λZ H Q=>te Z H λx H1=>tl Z H1 λl H2=>th Z H2 λu H3=>r x l u H3 Q
def Zn4{r:V->Option Int->Option Int->Hp->VK->Prop}(hr:SlR X r)(he:PE X e te)(hl:PO X lo tl)(hu:PO X hi th):PE X (.Subscript e (.Slice lo hi Wy p2) pos) (tSl r te tl th):=by intro pins s Z H Q I h;refine Subscript_ (thn (he pins s Z H _ I h) λv s1 ⟨x,H1,I1,r1,q1⟩=>?_);refine wpAny_Slice (thn (hl pins s1 Z H1 _ I1 q1) λvl s2 ⟨l,H2,I2,pl,q2⟩=>thn (hu pins s2 Z H2 _ I2 q2) λvu s3 ⟨u,H3,I3,pu,q3⟩=>?_);rw[evalPart_none];refine Yc ?_;have I4:Inv X pins Z H3 {s3 with heap:=s3.heap.push {cls:=.type "slice",data:=.fields #[vl,vu,.none]}}:=I3.kept (t':=s3.toks) λb ob q=>O1 _ q;obtain⟨T,id,hT,ht,hg⟩:=hr pins {s3 with heap:=s3.heap.push {cls:=.type "slice",data:=.fields #[vl,vu,.none]}} Z H3 x v vl vu l u s3.heap.objs.size Q I4 r1 (Heap.IsSliceOf.new ..) pl pu q3;show YB (model X.prog X.w) X.A (subscriptTail e (.Slice lo hi Wy p2) v (.ref s3.heap.objs.size)) (EP X pins Z Q) X.xe {s3 with heap:=s3.heap.push {cls:=.type "slice",data:=.fields #[vl,vu,.none]}};exact tail_any (ops:=[.ref s3.heap.objs.size,v]) ht hT hg (by with_unfolding_all rfl)
noncomputable def ZjC(xs:List V)(lo hi:Option Int):List V:=(xs.drop (HT.sIx xs.length 0 lo)).take (HT.sIx xs.length xs.length hi - HT.sIx xs.length 0 lo)
def Zfe(xs:List V)(lo hi:Option Int):(ZjC xs lo hi).length<=xs.length:=by
 unfold ZjC;rw[List.length_take,List.length_drop]
 lia
def ZwU(K:Yk):V->Option Int->Option Int->Hp->VK->Prop:=λx lo hi H Q=>∃a xs,x=.ref a/\SqT K H a xs /\
 ¬ (HT.sIx xs.length 0 lo=0/\HT.sIx xs.length xs.length hi=xs.length)/\∀p,H p=Wy->Q (.ref p) (upd H p (.tup (ZjC xs lo hi)))
def Zsu:SlR X (ZwU X.K):=by
 intro pins s Z H x v vl vu lo hi sl Q I rx hs pl pu h;obtain⟨a,xs,rfl,hx,hw,q⟩:=h;cases rx;obtain⟨its,r,ht,hz⟩:=I.tuple hx;have hlen:its.toArray.size=xs.length:=by rw[Of];exact r.length.symm
 refine⟨"tuple",_,PyProof.Rows.slot_tuple_getitem.lookup,ht.typeIs,?_⟩;refine HT.Zex ht hs pl pu (by rw[hlen];exact hw) ?_ (by rw[hlen];exact hz);rw[hlen];refine⟨.ref s.heap.objs.size,_,I.laid (t':=s.toks) (o:=.tup (ZjC xs lo hi)) (λb ob q=>O1 _ q) (Oq _) ?_,rfl,q _ (I.hok.fresh (Oq _))⟩;exact⟨OE (Zfe xs lo hi) hz,_,(r.drop (HT.sIx xs.length 0 lo)).take (HT.sIx xs.length xs.length hi - HT.sIx xs.length 0 lo),Zbn.fresh _ _⟩
noncomputable def Zu3(K:Yk):R2:=λx y H Q=>∃a b xs ys,x=.ref a/\y=.ref b/\SqT K H a xs/\SqT K H b ys/\xs≠[]/\xs.length+ys.length<=sizeLine /\
 (ys=[]->Q (.ref a) H)/\(ys≠[]->∀p,H p=Wy->Q (.ref p) (upd H p (.tup (xs++ys))))
def Zn.nil_iff{xs:List V}{us:List Yj}(r:Zn xs us):us=[]↔xs=[]:=by
 cases r with
 |nil=>simp
 |cons _ _=>simp
def ZqF:OpR X (binaryOp .Add) (Zu3 X.K):=by intro pins s Z H x y v u Q I rx ry h;obtain⟨a,b,xs,ys,rfl,rfl,ha,hb,hx,hz,q1,q2⟩:=h;cases rx;cases ry;obtain⟨its,r1,p1,_⟩:=I.tuple ha;obtain⟨its2,r2,p2,_⟩:=I.tuple hb;refine HT.Zrq p1 p2 (λz=>hx (r1.nil_iff.mp z)) (λz=>⟨.ref a,H,I,rfl,q1 (r2.nil_iff.mp z)⟩) (λz=>?_) (by rw[<- r1.length,<- r2.length];exact hz);refine⟨.ref s.heap.objs.size,_,I.laid (t':=s.toks) (o:=.tup (xs++ys)) (λb ob q=>O1 _ q) (Oq _) ?_,rfl,q2 (λw=>z (r2.nil_iff.mpr w)) _ (I.hok.fresh (Oq _))⟩;exact⟨by rw[OA];exact hz,_,r1.append r2,Zbn.fresh _ _⟩
end
noncomputable def ixN(n:Nat)(i:Int):Option Nat:=if 0<=i then(if i<n then Wx i.toNat else Wy)else if -(n:Int)<=i then Wx (i+n).toNat else Wy
noncomputable def atI{α:Type}(xs:List α)(i:Int):Option α:=(ixN xs.length i).bind λj=>xs[j]?
def ZlY{n:Nat}{i:Int}{j:Nat}(h:ixN n i=Wx j):seqIndex? i n=Wx j/\j<n/\-(n:Int)<=i/\i<n:=by
 unfold ixN at h;by_cases h0:0<=i
 . rw[if_pos h0]at h;by_cases h1:i<n
   . rw[if_pos h1]at h;have e:i.toNat=j:=YF h;exact⟨by rw[seqIndex_of h0 h1,e],by lia,by lia,h1⟩
   . rw[if_neg h1]at h;cases h
 . rw[if_neg h0]at h;by_cases h1:-(n:Int)<=i
   . rw[if_pos h1]at h;have e:(i+n).toNat=j:=YF h;exact⟨by rw[seqIndex_neg (by lia) h1,e],by lia,h1,by lia⟩
   . rw[if_neg h1]at h;cases h
def Ziv{α:Type}{xs:List α}{i:Int}{v:α}(h:atI xs i=Wx v):∃j,seqIndex? i xs.length=Wx j/\xs[j]? = Wx v/\j<xs.length/\-(xs.length:Int)<=i/\i<xs.length:=by
 unfold atI at h;cases e:ixN xs.length i with
 |none=>rw[e]at h;cases h
 |some j=>rw[e]at h;obtain⟨h1,h2,h3,h4⟩:=ZlY e;exact⟨j,h1,h,h2,h3,h4⟩
def Zmc(b:Expr):Prop:=∀o i,subscripted b WA o i=operate [o,i] (getItem o i)
def IxR(X:Cx)(r:R2):Prop:=
 ∀(value slice:Expr) (pins:List (Yi×Obj)) (s:Yb) (Z:St) (H:Hp) (x y:V) (v u:Yj) (Q:VK),Inv X pins Z H s->RelV x v->RelV y u->r x y H Q ->
  subscripted slice WA v u=operate [v,u] (getItem v u)->YB (model X.prog X.w) X.A (subscriptTail value slice v u) (EP X pins Z Q) X.xe s
def MtR(X:Cx)(id:String)(r:V->List V->Hp->VK->Prop):Prop:=
 ∀(pins:List (Yi×Obj)) (s:Yb) (Z:St) (H:Hp) (x:V) (xs:List V) (v:Yj) (us:List Yj) (Q:VK),Inv X pins Z H s->RelV x v->Zn xs us->r x xs H Q ->
  YB (model X.prog X.w) X.A (call (.builtin id) (v::us)) (EP X pins Z Q) X.xe s
section
variable {X:Cx}{a b:Expr}{ta tb:TE}{pos:Pos}
def Zvc{r:R2}(hr:IxR X r)(ha:PE X a ta)(hb:PE X b tb)(hs:Zmc b):PE X (.Subscript a b pos) (tOp r ta tb):=by intro pins s Z H Q I h;exact Subscript_ (Zt7 ha hb I h λv u s2 x y H2 I2 rx ry q=>hr a b pins s2 Z H2 x y v u Q I2 rx ry q (hs _ _))
noncomputable def Zw0(K:Yk):R2:=λx y H Q=>∃p xs i v,x=.ref p/\y=.int i/\SqL K H p xs/\atI xs i=Wx v/\Q v H
noncomputable def ZwY(K:Yk):R2:=λx y H Q=>∃p xs i v,x=.ref p/\y=.int i/\SqT K H p xs/\atI xs i=Wx v/\Q v H
noncomputable def ZwZ:R2:=λx y H Q=>∃z i c,x=.str z/\y=.int i/\z.length<=sizeLine/\atI z.cps.toList i=Wx c/\Q (.str ⟨#[c]⟩) H
def Zq5:IxR X (Zw0 X.K):=by
 intro value slice pins s Z H x y v u Q I rx ry h hs;obtain⟨p,xs,i,z,rfl,rfl,hq,he,q⟩:=h;cases rx;obtain⟨t,rfl⟩:=ry;obtain⟨its,r,pl,hz⟩:=I.list hq;obtain⟨j,h1,h2,h3,h4,h5⟩:=Ziv he;obtain⟨w,ew,rw'⟩:=r.get h2;have hl:=r.length;have hn:=ZcF;have fin:EP X pins Z Q w s:=⟨z,H,I,rw',q⟩
 by_cases h0:0<=i
 . have hj:i.toNat=j:=by rw[seqIndex_of h0 h5]at h1;exact YF h1
   exact item_listR pl.isList h0 (by lia) (by rw[hj];simpa using ew) fin hs
 . have hj:(i+(its.toArray.size:Int)).toNat=j:=by rw[seqIndex_neg (by lia) h4]at h1;rw[Of,<- hl];exact YF h1
   exact subscriptTail_builtinR (x:=w) pl.isList.typeIs slot_list_getitem.lookup
    (wpAny_getItem_list_neg (Q:=λr s'=>r=w/\EP X pins Z Q r s') pl.isList (by lia) (by rw[Of]<;>lia) (by lia) (by rw[hj];simpa using ew) ⟨rfl,fin⟩) hs
def ZtJ:IxR X (ZwY X.K):=by
 intro value slice pins s Z H x y v u Q I rx ry h hs;obtain⟨p,xs,i,z,rfl,rfl,hq,he,q⟩:=h;cases rx;obtain⟨t,rfl⟩:=ry;obtain⟨its,r,pl,hz⟩:=I.tuple hq;obtain⟨j,h1,h2,h3,h4,h5⟩:=Ziv he;obtain⟨w,ew,rw'⟩:=r.get h2;have hl:=r.length;have hn:=ZcF;have fin:EP X pins Z Q w s:=⟨z,H,I,rw',q⟩
 exact subscriptTail_builtinR (x:=w) pl.typeIs slot_tuple_getitem.lookup
  (getItem_tuple (j:=j) (Q:=λr s'=>r=w/\EP X pins Z Q r s') pl (by lia) (by lia) (by rw[Of,<- hl];exact h1) (by simpa using ew) ⟨rfl,fin⟩) hs
theorem ZtK:IxR X ZwZ:=by
 intro value slice pins s Z H x y v u Q I rx ry h hs;obtain ⟨z,i,c,rfl,rfl,hz,he,q⟩:=h;obtain ⟨t,rfl⟩:=rx;obtain ⟨t',rfl⟩:=ry;obtain ⟨j,h1,h2,h3,h4,h5⟩:=Ziv he;have hl:z.cps.toList.length=z.length:=by simp [Str.length]
 rw [hl] at h1 h4 h5;have hn:=ZcF;exact tail_any (typeIs_str s z t) slot_str_getitem.lookup (getItem_str (c:=c) (by
   have e1:WB (i < -(2 ^ 63:Int))=WA:=decide_eq_false (by lia);have e2:WB (i ≥ 2 ^ 63)=WA:=decide_eq_false (by lia);rw [e1,e2,Bool.or_false]) (by rw [h1];simpa using h2) ⟨.str ⟨#[c]⟩,H,I.tok _,⟨_,rfl⟩,q⟩) hs
def Zkr(its:List Yj)(n j:Nat)(u:Yj):Obj.mapSeq (·.setIfInBounds j u) {cls:=.type "list",data:=.seq its.toArray n}={cls:=.type "list",data:=.seq (its.set j u).toArray n}:=by simp[Obj.mapSeq]
theorem Inv.lst{pins:List (Yi×Obj)}{Z:St}{H:Hp}{s:Yb}{p:Yi}{xs:List V}(I:Inv X pins Z H s)(h:H p=Wx (.lst xs)):
 ∃(its:List Yj) (n:Nat),Zn xs its/\s.heap.get? p=Wx {cls:=.type "list",data:=.seq its.toArray n}/\xs.length<=sizeLine:=by
 obtain⟨z,its,n,r,e⟩:=I.hok p _ h;exact⟨its,n,r,e,z⟩
def Inv.lstUpd{pins:List (Yi×Obj)}{Z:St}{H:Hp}{s:Yb}{p:Yi}{xs ys:List V}{its its':List Yj}{n n':Nat}{f:Obj->Obj}(I:Inv X pins Z H s)(h:H p=Wx (.lst xs))
 (ho:s.heap.get? p=Wx {cls:=.type "list",data:=.seq its.toArray n}) (hf:f {cls:=.type "list",data:=.seq its.toArray n}={cls:=.type "list",data:=.seq its'.toArray n'}) (r:Zn ys its') (hz:ys.length<=sizeLine) (t:Nat) :
 Inv X pins Z (upd H p (.lst ys)) {s with heap:=s.heap.update p f,toks:=t}:=by
 have e:(s.heap.update p f).get? p=Wx {cls:=.type "list",data:=.seq its'.toArray n'}:=by rw[YX f ho (by rw[hf]<;>rfl),hf]
 refine I.write (x:=p) (e:=p) (by rw[h];trivial) (.inl rfl) (λb u hb q=>(YN _ _ (YL hb)).trans q) ⟨_,e⟩ ?_;exact⟨hz,its',n',r,e⟩
def Zu1:V->V->V->Hp->(Hp->Prop)->Prop:=λo i v H Q=>∃p xs k j,o=.ref p/\i=.int k/\H p=Wx (.lst xs)/\ixN xs.length k=Wx j/\Q (upd H p (.lst (xs.set j v)))
def set_list:Zry X Zu1:=by
 intro pins s Z H o i v ov iv u Q I ro ri rv h;obtain⟨p,xs,k,j,rfl,rfl,hp,hj,q⟩:=h;cases ro;obtain⟨t,rfl⟩:=ri;obtain⟨its,n,r,ho,hz⟩:=I.lst hp;obtain⟨h1,h2,h3,h4⟩:=ZlY hj;have hl:=r.length;have hn:=ZcF;have I':Inv X pins Z (upd H p (.lst (xs.set j v))) {s with heap:=s.heap.update p (Obj.mapSeq (·.setIfInBounds j u))}:=I.lstUpd hp ho (Zkr its n j u) (r.set rv j) (by rw[List.length_set];exact hz) s.toks
 by_cases h0:0<=k
 . have hk:k.toNat=j:=by rw[seqIndex_of h0 h4]at h1;exact YF h1
   exact PySem.W.ki_setAt ho h0 (by lia) (by rw[Of,<- hl];exact h4) (by rw[hk];exact⟨_,I',q⟩)
 . have hk:(k+(its.toArray.size:Int)).toNat=j:=by rw[seqIndex_neg (by lia) h3]at h1;rw[Of,<- hl];exact YF h1
   exact PySem.W.ki_setBack ho (by lia) (by rw[Of,<- hl];exact h3) (by lia) (by rw[hk];exact⟨_,I',q⟩)
def ZhH(lo hi:Option Int)(n:Nat):(sliceBounds lo hi Wy n).1=((HT.sIx n 0 lo:Nat):Int)/\(sliceBounds lo hi Wy n).2.1=((HT.sIx n n hi:Nat):Int)/\(sliceBounds lo hi Wy n).2.2=1:=by
 refine⟨?_,?_,rfl⟩
 . cases lo with
   |none=>simp[sliceBounds,HT.sIx]
   |some i=>
    simp only[sliceBounds,HT.sIx,Option.getD_none,show(1:Int) > 0 by decide,if_true];by_cases h:i<0
    . simp only[h,if_true]<;>lia
    . simp only[h,if_false]<;>lia
 . cases hi with
   |none=>simp[sliceBounds,HT.sIx]
   |some i=>
    simp only[sliceBounds,HT.sIx,Option.getD_none,show(1:Int) > 0 by decide,if_true];by_cases h:i<0
    . simp only[h,if_true]<;>lia
    . simp only[h,if_false]<;>lia
def ZgI(its:List Yj)(lo hi:Option Int):slicePick its.toArray lo hi Wy=((its.drop (HT.sIx its.length 0 lo)).take (HT.sIx its.length its.length hi - HT.sIx its.length 0 lo)).toArray:=by obtain⟨h1,h2,h3⟩:=ZhH lo hi its.toArray.size;unfold slicePick;rw[h1,h2,h3];simp only[sliceRange_one,pick_run,Of]<;>rfl
def ZwW(K:Yk):V->Option Int->Option Int->Hp->VK->Prop:=λx lo hi H Q=>∃a xs,x=.ref a/\SqL K H a xs/\∀p,H p=Wy->Q (.ref p) (upd H p (.lst (ZjC xs lo hi)))
def ZpV:SlR X (ZwW X.K):=by intro pins s Z H x v vl vu lo hi sl Q I rx hs pl pu h;obtain⟨a,xs,rfl,hx,q⟩:=h;cases rx;obtain⟨its,r,ht,hz⟩:=I.list hx;have hlen:=r.length;refine⟨"list",_,slot_list_getitem.lookup,ht.isList.typeIs,?_⟩;refine wpAny_getItem_list_slice ht.isList hs pl pu .none (by simp) ?_ (by rw[Of]<;>lia);rw[ZgI,<- hlen];refine⟨.ref s.heap.objs.size,_,I.laid (t':=s.toks) (o:=.lst (ZjC xs lo hi)) (λb ob q=>O1 _ q) (Oq _) ?_,rfl,q _ (I.hok.fresh (Oq _))⟩;exact⟨OE (Zfe xs lo hi) hz,_,0,(r.drop (HT.sIx xs.length 0 lo)).take (HT.sIx xs.length xs.length hi - HT.sIx xs.length 0 lo),Oj _ rfl⟩
noncomputable def ZdZ:V->Bool
 |.non=>Wz
 |.bl _=>Wz
 |.int _=>Wz
 |.str _=>Wz
 |_=>WA
noncomputable def eqV:V->V->Bool
 |.non,.non=>Wz
 |.bl a,.bl b=>a==b
 |.bl a,.int b=>(if a then 1 else 0)==b
 |.int a,.bl b=>a==(if b then 1 else 0)
 |.int a,.int b=>a==b
 |.str a,.str b=>a==b
 |_,_=>WA
def Zt1{A:YH}{s:Yb}{y x:V}{u v:Yj}(ry:RelV y u)(rx:RelV x v)(fy:ZdZ y=Wz)(fx:ZdZ x=Wz):SeqAt.EqAt A s u v (eqV y x):=by
 cases y with
 |non=>
  cases ry;cases x with
  |non=>cases rx;exact SeqAt.EqAt.same _
  |bl b=>cases rx;exact SeqAt.EqAt.none_bool b
  |int b=>obtain⟨t,rfl⟩:=rx;exact SeqAt.EqAt.none_int b t
  |str b=>obtain⟨t,rfl⟩:=rx;exact SeqAt.EqAt.none_str b t
  |_=>exact absurd (show WA=Wz from fx) Ow
 |bl a=>
  cases ry;cases x with
  |non=>cases rx;exact SeqAt.EqAt.bool_none a
  |bl b=>cases rx;exact SeqAt.EqAt.bool_bool a b
  |int b=>obtain⟨t,rfl⟩:=rx;exact SeqAt.EqAt.bool_int a b t
  |str b=>obtain⟨t,rfl⟩:=rx;exact SeqAt.EqAt.bool_str a b t
  |_=>exact absurd (show WA=Wz from fx) Ow
 |int a=>
  obtain⟨t',rfl⟩:=ry;cases x with
  |non=>cases rx;exact SeqAt.EqAt.int_none a t'
  |bl b=>cases rx;exact SeqAt.EqAt.int_bool a t' b
  |int b=>obtain⟨t,rfl⟩:=rx;exact SeqAt.EqAt.int_int a t' b t
  |str b=>obtain⟨t,rfl⟩:=rx;exact SeqAt.EqAt.int_str a t' b t
  |_=>exact absurd (show WA=Wz from fx) Ow
 |str a=>
  obtain⟨t',rfl⟩:=ry;cases x with
  |non=>cases rx;exact SeqAt.EqAt.str_none a t'
  |bl b=>cases rx;exact SeqAt.EqAt.str_bool a t' b
  |int b=>obtain⟨t,rfl⟩:=rx;exact SeqAt.EqAt.str_int a t' b t
  |str b=>obtain⟨t,rfl⟩:=rx;exact SeqAt.EqAt.str_str a t' b t
  |_=>exact absurd (show WA=Wz from fx) Ow
 |_=>exact absurd (show WA=Wz from fy) Ow
noncomputable def eqU(x:V)(u:Yj):Bool:=match u with
 |.none=>eqV .non x
 |.bool b=>eqV (.bl b) x
 |.int i _=>eqV (.int i) x
 |.str z _=>eqV (.str z) x
 |_=>WA
def Zpe{x y:V}{u:Yj}(r:RelV y u)(f:ZdZ y=Wz):eqU x u=eqV y x:=by
 cases y with
 |non=>cases r;rfl
 |bl b=>cases r;rfl
 |int i=>obtain⟨t,rfl⟩:=r;rfl
 |str z=>obtain⟨t,rfl⟩:=r;rfl
 |_=>exact absurd (show WA=Wz from f) Ow
theorem ZeG{x:V}:∀{xs:List V}{us:List Yj},Zn xs us->xs.all ZdZ=Wz->us.any (eqU x)=xs.any λy=>eqV y x
 |_,_,.nil,_=>rfl
 |y::xs,u::us,.cons r t,f=>by rw[List.all_cons,Oa]at f;rw[Wg,Wg,Zpe r f.1,ZeG t f.2]
theorem Zdb{A:YH}{s:Yb}{x:V}{v:Yj}(rx:RelV x v)(fx:ZdZ x=Wz):∀{xs:List V}{us:List Yj},Zn xs us->xs.all ZdZ=Wz->∀u∈us,SeqAt.EqAt A s u v (eqU x u)
 |_,_,.nil,_=>λu hu=>by cases hu
 |y::xs,u::us,.cons r t,f=>λu' hu=>by
  rw[List.all_cons,Oa]at f;rcases O3.mp hu with rfl|hu
  . rw[Zpe r f.1];exact Zt1 r rx f.1 fx
  . exact Zdb rx fx t f.2 u' hu
noncomputable def inV(x:V)(xs:List V):Bool:=xs.any λy=>eqV y x
noncomputable def rIn(K:Yk)(neg:Bool):R2:=λx y H Q=>∃p xs,y=.ref p/\(SqL K H p xs\/SqT K H p xs)/\ZdZ x=Wz/\xs.all ZdZ=Wz/\Q (.bl (if neg then !inV x xs else inV x xs)) H
def ZmG:OpR X (YM .In) (rIn X.K WA):=by
 intro pins s Z H x y v u Q I rx ry h;obtain⟨p,xs,rfl,hq,fx,fs,q⟩:=h;cases ry;rcases hq with hq|hq
 . obtain⟨its,r,pl,hz⟩:=I.list hq;refine SeqAt.in_listAt (eqU x) pl.isList (λw hw=>Zdb rx fx r fs w (by simpa using hw)) ⟨.bl _,H,I,rfl,?_⟩;rw[show its.toArray.any (eqU x)=its.any (eqU x) by simp,ZeG r fs];exact q
 . obtain⟨its,r,pl,hz⟩:=I.tuple hq;refine SeqAt.in_tupleAt (eqU x) pl (λw hw=>Zdb rx fx r fs w (by simpa using hw)) ⟨.bl _,H,I,rfl,?_⟩;rw[show its.toArray.any (eqU x)=its.any (eqU x) by simp,ZeG r fs];exact q
def ZhR:OpR X (YM .NotIn) (rIn X.K Wz):=by
 intro pins s Z H x y v u Q I rx ry h;obtain⟨p,xs,rfl,hq,fx,fs,q⟩:=h;cases ry;rcases hq with hq|hq
 . obtain⟨its,r,pl,hz⟩:=I.list hq;refine SeqAt.notIn_listAt (eqU x) pl.isList (λw hw=>Zdb rx fx r fs w (by simpa using hw)) ⟨.bl _,H,I,rfl,?_⟩;rw[show its.toArray.any (eqU x)=its.any (eqU x) by simp,ZeG r fs];exact q
 . obtain⟨its,r,pl,hz⟩:=I.tuple hq;refine SeqAt.notIn_tupleAt (eqU x) pl (λw hw=>Zdb rx fx r fs w (by simpa using hw)) ⟨.bl _,H,I,rfl,?_⟩;rw[show its.toArray.any (eqU x)=its.any (eqU x) by simp,ZeG r fs];exact q
def Zik:ZcA X (.builtin "len") (λxs H Q=>∃p ys,xs=[.ref p]/\(SqL X.K H p ys\/SqT X.K H p ys)/\Q (.int ys.length) H):=by
 intro pins s Z H xs us Q I r h;obtain⟨p,ys,rfl,hq,q⟩:=h;obtain⟨u,rfl,rx⟩:=vals1 r;cases rx;have hn:=ZcF;rcases hq with hq|hq
 . obtain⟨its,r',pl,hz⟩:=I.list hq;have hlen:=r'.length;exact Calls.call_len_list pl.isList (by simp only[Of]<;>lia) ⟨.int ys.length,H,I.tok _,⟨s.toks+1,by rw[Of,hlen]⟩,q⟩
 . obtain⟨its,r',pl,hz⟩:=I.tuple hq;have hlen:=r'.length;exact len_tuple pl (by simp only[Of]<;>lia) ⟨.int ys.length,H,I.tok _,⟨s.toks+1,by rw[Of,hlen]⟩,q⟩
def Zij:ZcA X (.builtin "len") (λxs H Q=>∃z,xs=[.str z]/\z.length<=sizeLine/\Q (.int z.length) H):=by intro pins s Z H xs us Q I r h;obtain⟨z,rfl,hz,q⟩:=h;obtain⟨u,rfl,t,rfl⟩:=vals1 r;have hn:=ZcF;exact len_str (by lia) ⟨.int z.length,H,I.tok _,⟨_,rfl⟩,q⟩
def Zd1:ZcA X (.type "tuple") (λxs H Q=>∃p ys,xs=[.ref p]/\((SqL X.K H p ys/\∀l,H l=Wy->Q (.ref l) (upd H l (.tup ys)))\/(SqT X.K H p ys/\Q (.ref p) H))):=by
 intro pins s Z H xs us Q I r h;obtain⟨p,ys,rfl,h⟩:=h;obtain⟨u,rfl,rx⟩:=vals1 r;cases rx;rcases h with ⟨hq,q⟩|⟨hq,q⟩
 . obtain⟨its,r',pl,hz⟩:=I.list hq;have hlen:=r'.length;refine call_tuple_list pl.isList (λh' kp=>?_) (by simp only[Of]<;>lia);have I1:Inv X pins Z H {s with heap:=h'}:=I.kept (t':=s.toks) kp;have I2:Inv X pins Z (upd H h'.objs.size (.tup ys)) {s with heap:=h'.push {cls:=.type "tuple",data:=.seq its.toArray}}:=I1.laid (t':=s.toks) (λb o e=>O1 _ e) (Oq _) (show Zao X.prog X.w _ _ _ (.tup ys)from⟨hz,its,r',Zbn.fresh _ _⟩)
   exact⟨.ref h'.objs.size,_,I2,rfl,q _ (I1.hok.fresh (Oq _))⟩
 . obtain⟨its,r',pl,hz⟩:=I.tuple hq;exact call_tuple_same pl ⟨.ref p,H,I,rfl,q⟩
def tyV(K:Yk)(T:String)(x:V)(H:Hp):Prop:=match x with
 |.str _=>T = "str"
 |.int _=>T = "int"
 |.ref p=>(T = "list" /\ ∃xs,SqL K H p xs)\/(T = "tuple" /\ ∃o,K.lookup p=Wx o/\o.cls=.type "tuple" /\ o.dict=Wy) \/
  (T = "dict" /\ ((∃kvs,H p=Wx (.dK kvs))\/∃kvs,H p=Wx (.dT kvs)))\/(T = "set" /\ ∃S_ n,H p=Wx (.set S_ n))
 |_=>False
def Znm{pins:List (Yi×Obj)}{Z:St}{H:Hp}{s:Yb}{T:String}{x:V}{v:Yj}(I:Inv X pins Z H s)(r:RelV x v)(ty:tyV X.K T x H):
 s.TypeIs v T/\∀a,v=.ref a->∃ob,s.heap.get? a=Wx ob/\ob.dict=Wy:=by
 cases x with
 |str z=>obtain⟨t,rfl⟩:=r;cases (show T = "str" from ty);exact⟨typeIs_str s z t,λ_ e=>nomatch e⟩
 |int i=>obtain⟨t,rfl⟩:=r;cases (show T = "int" from ty);exact⟨typeIs_int s i t,λ_ e=>nomatch e⟩
 |ref p=>
  cases r;rcases ty with ⟨rfl,xs,hq⟩|⟨rfl,o,hk,hc,hd⟩|⟨rfl,hk⟩|⟨rfl,S_,n,hk⟩
  . obtain⟨its,_,pl,_⟩:=I.list hq;refine⟨pl.isList.typeIs,λa e=>?_⟩;cases e;obtain⟨o,n,e,c,hd,_⟩:=pl;exact⟨o,e,hd⟩
  . refine⟨⟨o,I.kIn p o hk,hc⟩,λa e=>?_⟩;cases e;exact⟨o,I.kIn _ o hk,hd⟩
  . have z:∃o,s.heap.get? p=Wx o/\o.ExactDict:=by
     rcases hk with ⟨kvs,hk⟩|⟨kvs,hk⟩
     . obtain⟨_,_,_,_,o,_,_,e,ex,_⟩:=I.hok p _ hk;exact⟨o,e,ex⟩
     . obtain⟨_,_,_,_,o,_,_,e,ex,_⟩:=I.hok p _ hk;exact⟨o,e,ex⟩
    obtain⟨o,e,ex⟩:=z;refine⟨⟨o,e,ex.1⟩,λa e2=>?_⟩;cases e2;exact⟨o,e,ex.2.1⟩
  . obtain⟨o,_,_,_,e,ex,_⟩:=I.hok p _ hk;refine⟨⟨o,e,ex.1⟩,λa e2=>?_⟩;cases e2;exact⟨o,e,ex.2.1⟩
 |_=>exact False.elim ty
noncomputable def ZwJ(K:Yk)(T:String)(r:V->List V->Hp->VK->Prop)(to:TE):TE:=λZ H Q=>to Z H λx H1=>tyV K T x H1/\r x [] H1 Q
noncomputable def tBM(K:Yk)(T:String)(r:V->List V->Hp->VK->Prop)(to:TE)(t:TA):TE:=λZ H Q=>to Z H λx H1=>tyV K T x H1/\t Z H1 λxs H2=>r x xs H2 Q
variable {o e:Expr}{es:List Expr}{to:TE}{t:TA}{name:Str}{apos cpos:Pos}{T id:String}{r:V->List V->Hp->VK->Prop}
def Zs5(pa:PlainAttrs T)(slot:Slot T name id)(hty:typeOf (.builtin id)=pure (.type "method_descriptor"))(hm:MtR X id r)(ho:PE X o to)
 (hbase:attributeBase o name X.env (eval o X.env)=eval o X.env:=by rfl) (hline:(apos.endLine==cpos.line)=Wz:=by rfl):PE X (.Call (.Attribute o name apos) [] [] cpos) (ZwJ X.K T r to):=by
 intro pins s Z H Q I h;refine wpAny_Call_method0_late hbase hline (thn (ho pins s Z H _ I h) λv s1 ⟨x,H1,I1,r1,ty,q1⟩=>?_);obtain⟨h1,h2⟩:=Znm I1 r1 ty;exact⟨T,id,pa,slot,hty,h1,h2,Calls.callWith_builtin rfl (PySem.evalArgs_none (hm pins s1 Z H1 x [] v [] Q I1 r1 .nil q1))⟩
def Zvd(pa:PlainAttrs T)(slot:Slot T name id)(hty:typeOf (.builtin id)=pure (.type "method_descriptor"))(hm:MtR X id r)(ho:PE X o to)(ha:PA X (e::es) t)
 (hbase:attributeBase o name X.env (eval o X.env)=eval o X.env:=by rfl)
 (hfew:((YS cpos (YA (e::es) X.env)).all (λx=>!x.1)&&(backToKw cpos (We [] X.env)).all (λx=>x.1.isSome)
  && WB ((e::es).length+([]:List Keyword).length+(if ([]:List Keyword).isEmpty then 0 else 1)<30))=Wz:=by rfl)
 (hline:(apos.endLine==cpos.line)=Wz:=by rfl) (hs:YA (e::es) X.env=(WA,eval e X.env)::YA es X.env:=by rfl) (hplain:(YS cpos (YA es X.env)).any (·.1)=WA:=by rfl) :
 PE X (.Call (.Attribute o name apos) (e::es) [] cpos) (tBM X.K T r to t):=by
 intro pins s Z H Q I h;refine wpAny_Call_method_late hbase hfew hline rfl (thn (ho pins s Z H _ I h) λv s1 ⟨x,H1,I1,r1,ty,q1⟩=>?_);obtain⟨h1,h2⟩:=Znm I1 r1 ty;refine⟨T,id,pa,slot,hty,h1,h2,?_⟩;have hA:=ha cpos pins s1 Z H1 _ I1 q1;rw[hs]at hA ⊢;refine Calls.callWith_builtin (by show(WA || (YS cpos (YA es X.env)).any (·.1))=WA;rw[hplain]<;>rfl) (Calls.evalArgs_plain ?_);exact thn hA λus s2 ⟨vs,H2,I2,r2,q2⟩=>hm pins s2 Z H2 x vs v us Q I2 r1 r2 q2
end
def MtM(X:Cx)(id:String)(r:V->List V->Hp->VK->Prop):Prop:=
 ∀(pins:List (Yi×Obj)) (s:Yb) (Z:St) (H:Hp) (x:V) (xs:List V) (v:Yj) (us:List Yj) (Q:VK),Inv X pins Z H s->RelV x v->Zn xs us->r x xs H Q ->
  YB (model X.prog X.w) X.A (call (.builtin id) (v::us)) (EP X pins Z Q) X.xe s
def Zn.one:∀{x:V}{us:List Yj},Zn [x] us->∃u,us=[u]/\RelV x u
 |_,_,.cons r .nil=>⟨_,rfl,r⟩
def Zn.zero:∀{us:List Yj},Zn [] us->us=[]
 |_,.nil=>rfl
theorem Zn.dropLast{xs:List V}{us:List Yj}(h:Zn xs us):Zn xs.dropLast us.dropLast:=by
 induction h with
 |nil=>exact .nil
 |cons r t ih=>
  cases t with
  |nil=>exact .nil
  |cons q t'=>exact .cons r ih
theorem Zn.reverse{xs:List V}{us:List Yj}(h:Zn xs us):Zn xs.reverse us.reverse:=by
 induction h with
 |nil=>exact .nil
 |cons r t ih=>rw[List.reverse_cons,List.reverse_cons];exact Zn.append ih (.cons r .nil)
def Zk1{α:Type}(l:List α):l.eraseIdx (l.length - 1)=l.dropLast:=by
 induction l with
 |nil=>rfl
 |cons a r ih=>
  cases r with
  |nil=>rfl
  |cons b r=>
   have e:(a::b::r).length - 1=((b::r).length - 1)+1:=by
    have h1:(a::b::r).length=r.length+2:=rfl;have h2:(b::r).length=r.length+1:=rfl
    lia
   rw[e,List.eraseIdx_cons_succ,ih]
   all_goals rfl
section
variable {X:Cx}{pins:List (Yi×Obj)}{Z:St}{H:Hp}{s:Yb}{l b:Yi}{xs ys zs:List V}
def Inv.lset{its its':List Yj}{n:Nat}{f:Array Yj->Array Yj}{t':Nat}(I:Inv X pins Z H s)(hH:H l=Wx (.lst xs))
 (e:s.heap.get? l=Wx {cls:=.type "list",data:=.seq its.toArray n}) (hf:f its.toArray=its'.toArray) (hv:Zn ys its') (hz:ys.length<=sizeLine) :
 Inv X pins Z (upd H l (.lst ys)) {s with heap:=s.heap.update l (Obj.mapSeq f),toks:=t'}:=by
 have q:=PySem.IsL.update e f;rw[hf]at q;refine I.write (x:=l) (e:=l) (by rw[hH];exact trivial) (.inl rfl) (λb' u hb hu=>(YN s.heap (Obj.mapSeq f) (YL hb)).trans hu) ⟨_,q⟩ ?_;exact⟨hz,its',_,hv,q⟩
def Inv.lnew{its:List Yj}{t':Nat}(I:Inv X pins Z H s)(hv:Zn ys its)(hz:ys.length<=sizeLine):
 Inv X pins Z (upd H s.heap.objs.size (.lst ys)) {s with heap:=s.heap.push {cls:=.type "list",data:=.seq its.toArray},toks:=t'}:=
 I.laid (λ_ _ q=>O1 _ q) (Oq _) ⟨hz,its,0,hv,Oj _ rfl⟩
theorem Inv.fresh(I:Inv X pins Z H s):H s.heap.objs.size=Wy:=I.hok.fresh (Oq _)
def Inv.lstM(I:Inv X pins Z H s)(hH:H l=Wx (.lst xs)):xs.length<=sizeLine/\∃(its:List Yj) (n:Nat),Zn xs its/\xs.length=its.length/\s.heap.get? l=Wx {cls:=.type "list",data:=.seq its.toArray n}:=by obtain⟨z,its,n,r,e⟩:=I.hok l _ hH;exact⟨z,its,n,r,r.length,e⟩
def Zi1{n:Nat}(h:n<=sizeLine):Ws n=WA:=by unfold Ws;exact decide_eq_false (by lia)
end
section
variable {X:Cx}
def Zqd:V->List V->Hp->VK->Prop:=λx vs H Q=>∃l xs y,x=.ref l/\vs=[y]/\H l=Wx (.lst xs)/\xs.length<sizeLine/\Q .non (upd H l (.lst (xs++[y])))
def Zhi:MtM X "list.append" Zqd:=by
 intro pins s Z H x vs v us Q I rx rv h;obtain⟨l,xs,y,rfl,rfl,hH,hz,q⟩:=h;cases rx;obtain⟨u,rfl,ru⟩:=rv.one;obtain⟨z,its,n,r,hl,e⟩:=I.lstM hH;refine call_meets F.slot_list_append ⟨_,e,rfl⟩ F.entry_list_append (F.args_list_append_2 _ _) (PySem.list_append l its.toArray n u (by rw[Of];lia)) ⟨e,?_⟩;refine⟨.non,_,I.lset (its':=its++[u]) hH e (by simp) (r.append (.cons ru .nil)) ?_,rfl,q⟩;rw[OA,List.length_singleton]
 lia
def Zqc:V->List V->Hp->VK->Prop:=λx vs H Q=>∃l b xs zs,x=.ref l/\vs=[.ref b]/\H l=Wx (.lst xs)/\H b=Wx (.lst zs)/\xs.length+zs.length<=sizeLine/\Q .non (upd H l (.lst (xs++zs)))
def ZmL:MtM X "list.extend" Zqc:=by
 intro pins s Z H x vs v us Q I rx rv h;obtain⟨l,b,xs,zs,rfl,rfl,hH,hB,hz,q⟩:=h;cases rx;obtain⟨u,rfl,ru⟩:=rv.one;cases ru;obtain⟨z,its,n,r,hl,e⟩:=I.lstM hH;obtain⟨z2,its2,n2,r2,hl2,e2⟩:=I.lstM hB;have hsz:its.toArray.size+its2.toArray.size<=sizeLine:=by rw[Of,Of];lia
 have hlong:¬ (!its.toArray.isEmpty&&Ws (its.toArray.size+its2.toArray.size))=Wz:=by rw[Zi1 hsz,Bool.and_false];exact Ow
 refine call_meets F.slot_list_extend ⟨_,e,rfl⟩ F.entry_list_extend (F.args_list_extend_2 _ _)
  (AutoSeq1.list_extend_list_list_0 l its.toArray n b its2.toArray n2 hlong (by rw[Of];lia) (by lia)) ⟨e,e2,?_⟩
 refine⟨.non,_,I.lset (its':=its++its2) hH e (by simp) (r.append r2) ?_,rfl,q⟩;rw[OA]
 lia
def ZwX:V->List V->Hp->VK->Prop:=λx vs H Q=>∃l xs y,x=.ref l/\vs=[]/\H l=Wx (.lst xs)/\xs[xs.length - 1]? = Wx y/\Q y (upd H l (.lst xs.dropLast))
def Ztl:MtM X "list.pop" ZwX:=by
 intro pins s Z H x vs v us Q I rx rv h;obtain⟨l,xs,y,rfl,rfl,hH,hy,q⟩:=h;cases rx;have hus:=rv.zero;subst hus;obtain⟨z,its,n,r,hl,e⟩:=I.lstM hH;obtain⟨u,hu,ru⟩:=r.get hy;have hy':its.toArray[its.toArray.size - 1]? = Wx u:=by show its.toArray[its.length - 1]? = Wx u;rw[<- Array.getElem?_toList,<- hl];exact hu
 refine call_meets F.slot_list_pop ⟨_,e,rfl⟩ F.entry_list_pop (F.args_list_pop_1 _) (MeetsSeq.list_pop_last l its.toArray n u hy' (by rw[Of];lia)) ⟨e,?_⟩;refine⟨y,_,I.lset (its':=its.dropLast) hH e ?_ r.dropLast ?_,ru,q⟩
 . show its.toArray.eraseIdxIfInBounds (its.toArray.size - 1)=its.dropLast.toArray;rw[Of,List.eraseIdxIfInBounds_toArray,Zk1]
 . rw[List.length_dropLast]
   lia
def ZnQ:V->List V->Hp->VK->Prop:=λx vs H Q=>∃l xs,x=.ref l/\vs=[]/\H l=Wx (.lst xs)/\Q .non (upd H l (.lst xs.reverse))
def Zkp:MtM X "list.reverse" ZnQ:=by
 intro pins s Z H x vs v us Q I rx rv h;obtain⟨l,xs,rfl,rfl,hH,q⟩:=h;cases rx;have hus:=rv.zero;subst hus;obtain⟨z,its,n,r,hl,e⟩:=I.lstM hH;refine call_meets F.slot_list_reverse ⟨_,e,rfl⟩ F.entry_list_reverse (F.args_list_reverse_1 _) (AutoSeq1.list_reverse_list_0 l its.toArray n (by rw[Of];lia)) ⟨e,?_⟩;refine⟨.non,_,I.lset (its':=its.reverse) hH e (by simp) r.reverse ?_,rfl,q⟩;rw[List.length_reverse]
 lia
def ZsK:V->List V->Hp->VK->Prop:=λx vs H Q=>∃l xs,x=.ref l/\vs=[]/\H l=Wx (.lst xs)/\Q .non (upd H l (.lst []))
def Zop:MtM X "list.clear" ZsK:=by intro pins s Z H x vs v us Q I rx rv h;obtain⟨l,xs,rfl,rfl,hH,q⟩:=h;cases rx;have hus:=rv.zero;subst hus;obtain⟨z,its,n,r,hl,e⟩:=I.lstM hH;refine call_meets F.slot_list_clear ⟨_,e,rfl⟩ F.entry_list_clear (F.args_list_clear_1 _) (AutoSeq1.list_clear_list_0 l its.toArray n (by rw[Of];lia)) ⟨e,?_⟩;exact⟨.non,_,I.lset (its':=[]) (ys:=[]) hH e rfl .nil (Yy _),rfl,q⟩
noncomputable def Zw2:R2:=λx y H Q=>∃l b xs zs,x=.ref l/\y=.ref b/\H l=Wx (.lst xs)/\H b=Wx (.lst zs)/\xs.length+zs.length<=sizeLine/\∀p,H p=Wy->Q (.ref p) (upd H p (.lst (xs++zs)))
def Ztd:OpR X (binaryOp .Add) Zw2:=by
 intro pins s Z H x y v u Q I rx ry h;obtain⟨l,b,xs,zs,rfl,rfl,hH,hB,hz,q⟩:=h;cases rx;cases ry;obtain⟨z,its,n,r,hl,e⟩:=I.lstM hH;obtain⟨z2,its2,n2,r2,hl2,e2⟩:=I.lstM hB;refine PySem.P.add_list e e2 ?_ (by rw[Of,Of];lia);have ea:its.toArray++its2.toArray=(its++its2).toArray:=by simp
 rw[ea];exact⟨.ref _,_,I.lnew (t':=s.toks) (r.append r2) (by rw[OA];lia),rfl,q _ I.fresh⟩
end
end L2
namespace Att
open PySem PySem.W PySem.Calls PyProof.Rows
def Zfk{P:Params}{h:YG}:∀(ns:List Int) (vs:List Yj),WellAll P h vs (ns.map WData.int)->IntsAre vs ns:=by
 intro ns;induction ns with
 |nil=>intro vs w;rw[Oy]at w;cases w;exact .nil
 |cons n ns ih=>
  intro vs w;rw[Op]at w;cases w with
  |cons a b=>cases a;exact .cons _ _ (ih _ b)
def Zmp{l:OpenLaw}{n:Nat}(hn:l.most=Wx n){P:Params}{h:YG}{args:List WData}{vals:List Yj}
 (hpre:l.row.toRowW.claim.pre args=Wz) (hwl:WellAll P h vals args) :
 ∃a vs ns,vals=[YD a]/\args=[WData.list (ns.map WData.int)]/\h.get? a=Wx {cls:=.type "list",data:=.seq vs.toArray}/\IntsAre vs ns/\ns.length<=n:=by
 have hsh:WShape.hasAll [] args [.list .int]=Wz:=(pre_splitW hpre).1;have hc:l.pre.holds [] {args:=args}=Wz:=(pre_splitW hpre).2;obtain⟨d,r,rfl,h1,h2⟩:=hasAllW_cons hsh;obtain rfl:=hasAllW_nil h2;obtain⟨xs,rfl,h3⟩:=hasW_list h1;obtain⟨ns,rfl⟩:=items_int h3;have hlen:ns.length<=n:=by
  unfold OpenLaw.pre at hc;have h4:(WTm.not (.lt (.lit (.int (n:Int))) (.len (.arg 0)))).holds [] {args:=[.list (ns.map .int)]}=Wz:=by have h4:=(holds_andW hc).1;rw[hn]at h4;exact h4
  have h5:=condW_of h4 (w_not (w_lt w_lit (w_len_list (w_arg rfl))));rw[Yu]at h5;refine Nat.le_of_not_lt λq=>?_;have q':(n:Int)<((ns.length:Nat):Int):=by lia
  first
   |(rw[decide_eq_true q']at h5;exact absurd h5 (by decide))
   |(simp at h5;lia)
 cases hwl with
 |cons w1 w2=>
  cases w2;cases w1 with
  |list ho hall=>exact⟨_,_,ns,rfl,rfl,ho,Zfk ns _ hall,hlen⟩
def Zmw(l:OpenLaw)(args:List WData):l.row.toRowW.claim.post args (.bool Wz) args=Wz:=
 postW_of (r:=l.row.toRowW) (X:=(Wz==Wz))
  (show WShape.has [] (.bool Wz) .bool=Wz by first|rfl|decide|simp[WShape.has,WShape.arms,WShape.armsAll])
  (show(WTm.eq .res (.lit (.bool Wz))).value [] {args:=args,res:=Wx (.bool Wz),after:=args}=Wx (.bool (Wz==Wz))from w_eq_bool (w_res rfl) w_lit) rfl
def ZjV{l:OpenLaw}{n:Nat}{q:Yh}{loose:List Str}{XP:(Str->Option Yj)->YG->Prop}{YP:Yg->YG->Prop}{d:DefRec}
 (hn:l.most=Wx n) (hdf:d.params.defaults=[])
 (call:∀(w:Yg) (s₀ s₁:Yb) (mg mb:Str->Option Yj) (fa:Yi) (o:Obj) (pm cd doc:Yj) (a:Yi) (vs:List Yj) (ns:List Int),
  Ground q loose [] XP w s₀ mg mb s₁.heap->YP w s₁.heap ->
  s₁.heap.get? fa=Wx o->o.data=.func (docDef d.name d.params d.body d.scope pm cd doc)->s₁.heap.CodeRec cd d.name->mg d.name=Wx (.ref fa) ->
  s₁.heap.get? a=Wx {cls:=.type "list",data:=.seq vs.toArray}->IntsAre vs ns->ns.length<=n->s₁.gens=#[] ->
  codeAny (model l.prog w) callerA (.call (.ref fa) ⟨[.ref a],[]⟩) (λr s'=>r=.ok (.ret (.bool Wz))/\OldK s₁.heap s'.heap/\s'.os=s₁.os/\AllBare s'.gens) s₁) :
 WalkO q loose XP YP l.row.toRowW d [] (λf vs=>PySem.call f vs):=by
 intro w s₀ s₁ mg mb G Y fa o pm cd doc dV kV ho hd hcd hD hmg hg args vals as hpre hlay hrd hwl hlo;obtain rfl:dV=.none:=Dflts.none hD hdf;obtain rfl:kV=.none:=Dflts.noKw hD;obtain⟨a,vs,ns,rfl,rfl,hobj,hints,hlen⟩:=Zmp hn hpre hwl;refine enter_call (codeAny_mono (call w s₀ s₁ mg mb fa o pm cd doc a vs ns G Y ho (fd_plain hd) hcd hmg hobj hints hlen hg) λr s' hq=>?_);obtain⟨rfl,h2,h3,h4⟩:=hq;exact⟨.inl ⟨.bool Wz,.bool Wz,[],rfl,λ_=>rfl,.bool Wz,Zmw l _,λ_=>⟨List.Pairwise.nil,λ_ hm=>(nomatch hm)⟩⟩,h2,h3,h4⟩
end Att
namespace L2
open PySem PySem.Spec PyProof.Rows
theorem ZgZ:∀{vs:List Yj}{ns:List Int},IntsAre vs ns->Zn (ns.map V.int) vs
 |_,_,.nil=>.nil
 |_,_,.cons n t h=>.cons ⟨t,rfl⟩ (ZgZ h)
def Zrz(H:Hp):Prop:=∀b,H b=Wy\/∃o xs,H b=Wx (.frz o (.lst xs))
theorem Zoz{P:Yh}{w:Yg}{K:Yk}{mg mb:Str->Option Yj}{CX:CXT}{k:Nat}{fa a:Yi}{fd:FuncData}{x:Str}{sp:Sp}{s₁:Yb}{vs:List Yj}{ns:List Int}
   (KX:K.In s₁.heap) (hns:s₁.heap.Ns Yd mg) (hb:s₁.heap.Ns builtinsNs mb) (hbb:∀ x:Str,x ≠ "__name__" -> mb x=bootBuiltins x) (hlim:s₁.heap.NoLimit) (hg:s₁.gens=#[])
   (ha:s₁.heap.get? a=Wx {cls:=.type "list",data:=.seq vs.toArray}) (hi:IntsAre vs ns) (hl:ns.length<=sizeLine) (hr:Room k callerA)
   (F:∀ base:YG,K.In base->base.Ns Yd mg->FnOk P w K mg base CX k fa fd [x] sp) (hbind:∀ (s:Yb) (u:Yj),BindsTo s fd ⟨[u],[]⟩ [(x,u)])
   (hsp:∀ H:Hp,Zrz H->SqL K H a (ns.map V.int)->sp [.ref a] H (fun v _=>v=.bl Wz) fun _ _ _=>False)
   (hCX:∀ H e s',CX [] H s₁ (fun _ _ _=>False) e s'->False) :
   codeAny (model P w) callerA (.call (.ref fa) ⟨[.ref a],[]⟩) (fun r s'=>r=.ok (.ret (.bool Wz))/\OldK s₁.heap s'.heap/\s'.os=s₁.os/\AllBare s'.gens) s₁:=by
 have rv:=ZgZ hi;have lenV:=hi.length;have core:∀ H:Hp,Zrz H->SqL K H a (ns.map V.int)->HOk P w H s₁.heap->(∀ b,H b≠Wy->b=a)->(H a≠Wy->K.lookup a=Wy) ->
     codeAny (model P w) callerA (.call (.ref fa) ⟨[.ref a],[]⟩) (fun r s'=>r=.ok (.ret (.bool Wz))/\OldK s₁.heap s'.heap/\s'.os=s₁.os/\AllBare s'.gens) s₁:=by
   intro H hO hS hok hA hK;have base_of:∀ {b:Yi}{o:Obj},s₁.heap.get? b=Wx o->H b=Wy->(Zh5 s₁.heap H).get? b=Wx o:=fun e n=>ZoU e n;have noA:∀ {b:Yi}{o:Obj}{es:Array DictEntry}{ep:Nat},s₁.heap.get? b=Wx o->o.data=.dict es ep->H b=Wy:=fun {b o es ep} e d=>by
     cases q:H b with
     | none=>rfl
     | some u =>
       have e':b=a:=hA b (by rw [q];simp);subst e';rw [ha] at e;cases e;have d':Data.seq vs.toArray _=Data.dict es ep:=d;cases d'
   have nsK:∀ {b:Yi}{m:Str->Option Yj},s₁.heap.Ns b m->(Zh5 s₁.heap H).Ns b m:=fun {b m} ⟨o,es,ep,e,d,r⟩=>⟨o,es,ep,base_of e (noA e d),d,r⟩
   have hKb:K.In (Zh5 s₁.heap H):=fun b o e=>base_of (KX b o e) (by
     cases q:H b with
     | none=>rfl
     | some u =>
       have e':b=a:=hA b (by rw [q];simp);subst e';rw [hK (by rw [q];simp)] at e;cases e)
   have hM:Mod K mg (Zh5 s₁.heap H):=⟨hKb,nsK hns,⟨mb,nsK hb,hbb⟩,let ⟨mc,h1,h2⟩:=hlim;⟨mc,nsK h1,h2⟩⟩
   have e0:Env0 P w K mg (Zh5 s₁.heap H) callerA [] s₁ H:=⟨rfl,hM,fun b o e=>ZqS e,Nat.le_of_eq (Zm0 _ _),trivial,fun b hb=>absurd (show b∈([]:List Yi) from hb) (by simp),hok,.of_eq hg⟩
   refine codeAny_mono ((F _ hKb (nsK hns)).run callerA [] s₁ H ⟨[.ref a],[]⟩ [.ref a] [.ref a] _ _ hr e0 (hbind s₁ (.ref a)) (.cons rfl .nil) (hsp H hO hS)) fun r s' h=>?_;cases r with
   | error e=>exact (hCX H e s' h).elim
   | ok fl =>
     cases fl with
     | next=>exact False.elim h
     | brk=>exact False.elim h
     | cont=>exact False.elim h
     | ret u =>
       obtain ⟨v,H',os,bare,un,hok',r',q⟩:=h;have q':v=.bl Wz:=q;subst q';obtain rfl:u=Value.bool Wz:=r';refine ⟨rfl,OldK.of_keep fun b o e=>?_,os,bare⟩;cases q:H b with
       | none=>exact un.keep b o e q (by intro z;exact absurd (show b∈([]:List Yi) from z) (by simp)) (by simp)
       | some u =>
         rcases hO b with z|⟨ob,xs,z⟩
         . rw [q] at z;cases z
         . have z2:=un.frzs b ob _ z;obtain ⟨e1,_⟩:=hok b _ z;obtain ⟨e2,_⟩:=hok' b _ z2;rw [e] at e1;cases e1;exact e2
 cases hk:K.lookup a with
 | some o =>
   have e:=KX a o hk;rw [ha] at e;cases e;refine core (fun _=>Wy) (fun _=>.inl rfl) (.inr ⟨_,vs.toArray,_,hk,rfl,rfl,rfl,by rw [Of,lenV];exact hl,by simpa using rv⟩) (fun b u z=>by have z':(Wy:Option HO)=Wx u:=z;cases z') (fun b z=>absurd rfl z) fun z=>absurd rfl z
 | none =>
   refine core (fun b=>if b=a then Wx (.frz {cls:=.type "list",data:=.seq vs.toArray} (.lst (ns.map V.int))) else Wy) (fun b=>?_) (.inl (.inr ⟨{cls:=.type "list",data:=.seq vs.toArray},if_pos rfl⟩)) (fun b u z=>?_) (fun b z=>?_) fun _=>hk
   . by_cases hb:b=a
     . exact .inr ⟨_,_,if_pos hb⟩
     . exact .inl (if_neg hb)
   . by_cases hb:b=a
     . have z':=(if_pos hb).symm.trans z;cases z';subst hb;exact ⟨ha,by rw [Yu];exact hl,vs,_,rv,ha⟩
     . have z':=(if_neg hb).symm.trans z;cases z'
   . by_cases hb:b=a
     . exact hb
     . exact absurd (if_neg hb) z
def ZpG{l:PySem.W.OpenLaw}{n k:Nat}{q:Yh}{loose:List Str}{XP:(Str->Option Yj)->YG->Prop}{YP:Yg->YG->Prop}{d:DefRec}{K:Params->Yk}{CX:Yg->CXT}{sp:Yg->Sp}{x:Str}
 (hn:l.most=Wx n) (hn2:n<=sizeLine) (hdf:d.params.defaults=[]) (hr:Room k callerA)
 (hY:∀(w:Yg) (h:YG),YP w h->(K w.params).In h)
 (F:∀(w:Yg) (mg:Str->Option Yj) (fa:Yi) (h:YG),(K w.params).In h->h.Ns Yd mg->mg d.name=Wx (.ref fa) ->
  ∃fd:FuncData,(∀(s:Yb) (u:Yj),BindsTo s fd ⟨[u],[]⟩ [(x,u)]) /\
   ∀base:YG,(K w.params).In base->base.Ns Yd mg->FnOk l.prog w (K w.params) mg base (CX w) k fa fd [x] (sp w))
 (hsp:∀(w:Yg) (H:Hp) (a:Yi) (ns:List Int),ns.length<=n->Zrz H->SqL (K w.params) H a (ns.map V.int)->sp w [.ref a] H (λv _=>v=.bl Wz) λ_ _ _=>False)
 (hCX:∀(w:Yg) (H:Hp) (s:Yb) (e:Yj) (s':Yb),CX w [] H s (λ_ _ _=>False) e s'->False) :
 PySem.W.WalkO q loose XP YP l.row.toRowW d [] (λf vs=>PySem.call f vs):=by
 refine Att.ZjV hn hdf λw s₀ s₁ mg mb fa o pm cd doc a vs ns G Y ho hd hcd hmg hobj hints hlen hg=>?_;have KX:=hY w _ Y;obtain⟨fd,hb,hF⟩:=F w mg fa _ KX G.T.g hmg;exact Zoz KX G.T.g G.T.b G.T.builtins G.T.nolimit hg hobj hints (OE hlen hn2) hr hF hb (λH hO hS=>hsp w H a ns hlen hO hS) λH e s'=>hCX w H s₁ e s'
noncomputable def inClass(s:Stmt)(j:Nat):Stmt:=match s with
 |.ClassDef _ _ _ body _ _ _ _ _ _ _=>body.getD j (.Pass ⟨0,0,0,0⟩)
 |_=>.Pass ⟨0,0,0,0⟩
noncomputable def ZdI(s:Stmt):Arguments:=match s with
 |.FunctionDef _ a _ _ _ _ _ _ _ _=>a
 |_=>{posonlyargs:=[],args:=[],vararg:=Wy,kwonlyargs:=[],kw_defaults:=[],kwarg:=Wy,defaults:=[]}
noncomputable def ZbW(s:Stmt):List Stmt:=match s with
 |.FunctionDef _ _ b _ _ _ _ _ _ _=>b
 |_=>[]
noncomputable def ZU(s:Stmt):Scope:=match s with
 |.FunctionDef _ _ _ _ _ _ sc _ _ _=>sc
 |_=>{kind:=.function,names:=[],isGenerator:=false,isCoroutine:=false}
noncomputable abbrev E0:XK:=λ_ _ _=>False
structure Fun(K:Yk)(x qual:Str)(st:Stmt)(f:Yi)(fd:FuncData):Prop where
 ex:∃(oc:Yj) (od:Option Yi) (kV doc pm:Yj) (an:Option Yi) (cdv ct:Yj) (osl:Array (Option Yj)),
  fd=PySem.W.fnOf x qual (ZdI st) (ZbW st) (ZU st) .none kV doc pm an cdv ct/\K.lookup f=Wx ⟨oc,od,.func fd,osl⟩/\PySem.W.codeIn K cdv qual=Wz
 kp:Wh K (.ref f)=Wz
section
variable {P:Yh}{w:Yg}{K:Yk}{mg:Str->Option Yj}{base:YG}
def Fun.binds{x qual:Str}{st:Stmt}{f:Yi}{fd:FuncData}{ps:List Str}(F:Fun K x qual st f fd)
 (h:∀(kV doc pm:Yj) (an:Option Yi) (cdv ct:Yj) (us:List Yj),us.length=ps.length->bindArgs (PySem.W.fnOf x qual (ZdI st) (ZbW st) (ZU st) .none kV doc pm an cdv ct) ⟨us,[]⟩=pure (ps.zip us)):Binds K fd ps []:=by
 obtain⟨oc,od,kV,doc,pm,an,cdv,ct,osl,rfl,lk,hcd⟩:=F.ex;exact .all (h kV doc pm an cdv ct)
def ZoZ{x qual:Str}{st:Stmt}{f:Yi}{oc:Yj}{od an:Option Yi}{osl:Array (Option Yj)}{kV doc pm cdv ct:Yj}(l:K.lookup f=Wx ⟨oc,od,.func (PySem.W.fnOf x qual (ZdI st) (ZbW st) (ZU st) .none kV doc pm an cdv ct),osl⟩)
 (c:PySem.W.codeIn K cdv qual=Wz) (k:Wh K (.ref f)=Wz):Fun K x qual st f (PySem.W.fnOf x qual (ZdI st) (ZbW st) (ZU st) .none kV doc pm an cdv ct):=⟨⟨oc,od,kV,doc,pm,an,cdv,ct,osl,rfl,l,c⟩,k⟩
end
def ZkR{A B_:Prop}(h:B_):if WA=Wz then A else B_:=by rw[if_neg Ow];exact h
def ZkQ{A B_:Prop}(h:A):if Wz=Wz then A else B_:=by rw[if_pos rfl];exact h
end L2
end
section
set_option tactic.hygienic false
namespace L2
open PySem PySem.Spec PyProof.Rows
section
variable {κ:Type} [DecidableEq κ]
noncomputable def Zeg(kvs:List (κ×V))(k:κ):Option V:=(kvs.find? λkv=>WB (kv.1=k)).map (·.2)
noncomputable def putK(kvs:List (κ×V))(k:κ)(v:V):List (κ×V):=if (kvs.any λkv=>WB (kv.1=k))=Wz then kvs.map (λkv=>if kv.1=k then(kv.1,v)else kv)else kvs++[(k,v)]
def Znh{p:κ×V}{r:List (κ×V)}{k:κ}(e:p.1=k):Zeg (p::r) k=Wx p.2:=by simp[Zeg,Wv,e]
def Zni{p:κ×V}{r:List (κ×V)}{k:κ}(e:¬ p.1=k):Zeg (p::r) k=Zeg r k:=by simp[Zeg,Wv,e]
def Zfa(kvs:List (κ×V))(k:κ)(v:V):(putK kvs k v).length<=kvs.length+1:=by
 unfold putK;split
 . rw[Yu];lia
 . rw[OA,Os,List.length_nil];lia
def ZeH.isSome_eq{o:Option V}{u:Option Yj}(r:ZeH o u):o.isSome=u.isSome:=by
 cases o with
 |none=>cases u with
  |none=>rfl
  |some _=>exact(show False from r).elim
 |some _=>cases u with
  |none=>exact(show False from r).elim
  |some _=>rfl
def KV.val{kvs:List (κ×V)}{vs:List (κ×Yj)}(r:KV kvs vs)(k:κ):ZeH (Zeg kvs k) (valueAt vs k):=by
 unfold KV at r;induction r with
 |nil=>exact True.intro
 |@cons p q ps qs h t ih=>
  obtain⟨h1,h2⟩:=h;by_cases e:p.1=k
  . have e':q.1=k:=h1.symm.trans e;have b:valueAt (q::qs) k=Wx q.2:=by simp[valueAt,Wv,e']
    rw[Znh e,b];exact h2
  . have e':¬ q.1=k:=λz=>e (h1.trans z);have b:valueAt (q::qs) k=valueAt qs k:=by simp[valueAt,Wv,e']
    rw[Zni e,b];exact ih
theorem KV.any{kvs:List (κ×V)}{vs:List (κ×Yj)}(r:KV kvs vs)(k:κ):(kvs.any λkv=>WB (kv.1=k))=vs.any λkv=>WB (kv.1=k):=by
 unfold KV at r;induction r with
 |nil=>rfl
 |cons h t ih=>rw[Wg,Wg,ih,h.1]
def KV.repl{kvs:List (κ×V)}{vs:List (κ×Yj)}(r:KV kvs vs)(k:κ){y:V}{u:Yj}(ry:RelV y u):
 KV (kvs.map λkv=>if kv.1=k then(kv.1,y)else kv) (vs.map λkv=>if kv.1=k then(kv.1,u)else kv):=by
 unfold KV at r ⊢;induction r with
 |nil=>exact .nil
 |@cons p q ps qs h t ih=>
  rw[Op,Op];refine .cons ?_ ih;obtain⟨h1,h2⟩:=h;by_cases e:p.1=k
  . rw[if_pos e,if_pos (h1.symm.trans e)];exact⟨h1,ry⟩
  . rw[if_neg e,if_neg (λz=>e (h1.trans z))];exact⟨h1,h2⟩
def KV.put{kvs:List (κ×V)}{vs:List (κ×Yj)}(r:KV kvs vs)(k:κ){y:V}{u:Yj}(ry:RelV y u):KV (putK kvs k y) (stored vs k u):=by
 unfold putK stored;rw[r.any k];by_cases e:(vs.any λkv=>WB (kv.1=k))=Wz
 . rw[if_pos e,if_pos e];exact r.repl k ry
 . rw[if_neg e,if_neg e];exact Paired.snoc r ⟨rfl,ry⟩
theorem KV.length(r:KV kvs vs):kvs.length=vs.length:=Paired.length r
end
def Zjk(r:RelV (kV k) u):(ZJ P w).is k u=Wz:=by
 cases k with
 |inl i=>obtain⟨t,e⟩:=(show ∃t,u=Value.int i t from r);subst e;exact Zi6 P w i t
 |inr x=>obtain⟨t,e⟩:=(show ∃t,u=Value.str x t from r);subst e;exact Zi5 P w x t
section
variable {P:Yh}{w:Yg}{H:Hp}{h:YG}{a:Yi}
def ZuR(ok:HOk P w H h)(e:Rd H a u):Zao P w H h a u:=e.ok ok
def ZrW(ok:HOk P w H h)(e:Rd H a (.dK kvs)):kvs.length<=sizeLine/\(a==Ye)=WA/\∃vs,KV kvs vs/\h.DictOf (ZJ P w) a vs:=show Zao P w H h a (.dK kvs)from ZuR ok e
def ZrX(ok:HOk P w H h)(e:H a=Wx (.dK kvs)):kvs.length<=sizeLine/\(a==Ye)=WA/\∃vs,KV kvs vs/\h.DictOf (ZJ P w) a vs:=ZrW ok (.inl e)
end
section
variable {X:Cx}{pins:List (Yi×Obj)}{Z:St}{H:Hp}{s:Yb}{a:Yi}{y v:V}{u r:Yj}{o:Option V}{A:YH}{E:Yj->Yb->Prop}
def Inv.big(I:Inv X pins Z H s):Ye<s.heap.objs.size:=by have h:Yd<s.heap.objs.size:=(I.mod.glob.keeps I.bk).lt;exact Nat.lt_trans (by decide) h
def Zl5(I:Inv X pins Z H s)(mu:Mut (H a))(hs:Heap.SameBut a s.heap h')(he:∃q,h'.get? a=Wx q)(new:Zao X.prog X.w (upd H a ob) h' a ob):
 Inv X pins Z (upd H a ob) {s with heap:=h',toks:=t'}:=
 I.write (x:=a) (e:=a) mu (.inl rfl) (λb q hb z=>(hs.2 b hb).trans z) he new
def Zpg(z:kvs.length<=sizeLine)(hd:(a==Ye)=WA)(rel:KV kvs vs)(dd:h'.DictOf (ZJ P w) a vs):
 Zao P w H' h' a (.dK kvs):=⟨z,hd,vs,rel,dd⟩
end
def ZjB(h:YG)(hb:Ye<h.objs.size):Zao P w H (h.push {cls:=.type "dict",data:=.dict #[]}) h.objs.size (.dK []):=⟨Yy _,beq_eq_false_iff_ne.mpr (YL (Ou hb)),[],.nil,Heap.DictOf.new h⟩
noncomputable def Zsr:TE:=λ_ H Q=>∀p,H p=Wy->Q (.ref p) (upd H p (.dK []))
section
variable {X:Cx}{pos:Pos}
def Zob:PE X (.Dict [] [] pos) Zsr:=λpins s Z H Q I h=>wpAny_Dict_empty ⟨.ref s.heap.objs.size,_,I.laid (a:=s.heap.objs.size) (o:=.dK []) (t':=s.toks) (λ_ _ q=>O1 _ q) (Oq _) (ZjB s.heap I.big),rfl,h _ (I.hok.fresh (Oq _))⟩
end
def ZhG:List (TE×TE)->St->Hp->(List (V×V)->Hp->Prop)->Prop
 |[],_,H,Q=>Q [] H
 |(tk,tv)::r,Z,H,Q=>tk Z H λx H1=>tv Z H1 λy H2=>ZhG r Z H2 λps H3=>Q ((x,y)::ps) H3
abbrev VV:List (V×V)->List (Yj×Yj)->Prop:=Paired λp q=>RelV p.1 q.1/\RelV p.2 q.2
def PPs(X:Cx)(pos:Pos)(keys:List (Option Expr))(values:List Expr)(trs:List (TE×TE)):Prop:=
 ∀(pins:List (Yi×Obj)) (s:Yb) (Z:St) (H:Hp) (Q:List (V×V)->Hp->Prop),Inv X pins Z H s->ZhG trs Z H Q ->
  YB (model X.prog X.w) X.A (evalPairs (pairTrees keys values X.env pos)) (λvs s'=>∃ps H',Inv X pins Z H' s'/\VV ps vs/\Q ps H') X.xe s
def Zql:PPs X pos [] [] []:=λpins s Z H Q I h=>pairTrees_nil_walk ⟨[],H,I,.nil,h⟩
def ZnZ(hk:PE X k tk)(hv:PE X v tv)(hr:PPs X pos ks vs trs):
 PPs X pos (Wx k::ks) (v::vs) ((tk,tv)::trs):=λpins s Z H Q I h=>
 pairTrees_cons_walk (thn (hk pins s Z H _ I h) λu s1 ⟨x,H1,I1,rx,q1⟩=>thn (hv pins s1 Z H1 _ I1 q1) λw2 s2 ⟨y,H2,I2,ry,q2⟩=>thn (hr pins s2 Z H2 _ I2 q2) λws s3 ⟨ps,H3,I3,rel,q3⟩=>⟨(x,y)::ps,H3,I3,.cons ⟨rx,ry⟩ rel,q3⟩)
noncomputable def Zd6(kvs more:List (Key×V)):List (Key×V):=more.foldl (λacc kv=>putK acc kv.1 kv.2) kvs
def KV.merge:∀{more:List (Key×V)}{rs:List (Key×Yj)}{kvs:List (Key×V)}{vs:List (Key×Yj)},KV more rs->KV kvs vs->KV (Zd6 kvs more) (merged vs rs):=by
 intro more rs kvs vs r;unfold KV at r;induction r generalizing kvs vs with
 |nil=>intro q;exact q
 |@cons p q ps qs h t ih=>
  intro r0;have e:KV (putK kvs p.1 p.2) (stored vs q.1 q.2):=by have:=r0.put p.1 h.2;rw[<- h.1];exact this
  exact ih e
theorem ZdW:∀(more kvs:List (Key×V)),(Zd6 kvs more).length<=kvs.length+more.length
 |[],kvs=>by show kvs.length<=kvs.length+0;lia
 |p::r,kvs=>by have h1:=ZdW r (putK kvs p.1 p.2);have h2:=Zfa kvs p.1 p.2;show(Zd6 (putK kvs p.1 p.2) r).length<=_;rw[Os];lia
theorem ZgC:∀{kvs:List (Key×V)}{ws:List (Yj×Yj)},VV (kvs.map λkv=>(kV kv.1,kv.2)) ws->∃rs,Carries (ZJ P w) ws rs/\KV kvs rs
 |[],_,r=>by rw[Oy]at r;cases r;exact⟨[],True.intro,.nil⟩
 |p::kvs,_,r=>by
  rw[Op]at r;cases r with
  |@cons a b as bs h t=>obtain⟨rs,c,q⟩:=ZgC (P:=P) (w:=w) t;obtain⟨b1,b2⟩:=b;exact⟨(p.1,b2)::rs,⟨Zjk h.1,rfl,c⟩,.cons ⟨rfl,h.2⟩ q⟩
noncomputable def ZuH(trs:List (TE×TE)):TE:=λZ H Q=>∀p,H p=Wy->ZhG trs Z (upd H p (.dK [])) λps H2=>H2 p=Wx (.dK [])/\∃kvs:List (Key×V),ps=kvs.map (λkv=>(kV kv.1,kv.2))/\kvs.length<=15/\Q (.ref p) (upd H2 p (.dK (Zd6 [] kvs)))
def Zqw(h:PPs X pos keys values trs)(hall:keys.all (·.isSome)=Wz)(hl:keys.length=values.length)(h0:keys≠[])
 (h15:keys.length<=15):PE X (.Dict keys values pos) (ZuH trs):=by
 intro pins s Z H Q I q;have hn:=I.hok.fresh (Oq s.heap.objs.size);have I1:=I.laid (a:=s.heap.objs.size) (o:=.dK []) (h':=s.heap.push {cls:=.type "dict",data:=.dict #[]}) (t':=s.toks) (λ_ _ q=>O1 _ q) (Oq _) (ZjB s.heap I.big);refine wpAny_Dict_walk (knd:=ZJ X.prog X.w) hall hl h0 h15 (thn (h pins _ Z _ _ I1 (q _ hn)) λws s2 ⟨ps,H2,I2,rel,e,kvs,ep,lk,q2⟩=>?_);subst ep;obtain⟨rs,c,rk⟩:=ZgC (P:=X.prog) (w:=X.w) rel;obtain⟨z,hd,vs0,r0,dd⟩:=ZrX I2.hok e;cases r0;refine⟨rs,c,dd,λh' dd' hs=>⟨.ref s.heap.objs.size,_,?_,rfl,q2⟩⟩;have hz:(Zd6 [] kvs).length<=sizeLine:=by have h1:=ZdW kvs [];rw[List.length_nil]at h1;rw[YC];lia
 have he:∃q,h'.get? s.heap.objs.size=Wx q:=let ⟨q,_,_,hq,_⟩:=dd';⟨q,hq⟩;exact Zl5 I2 (by rw[e];exact True.intro) hs he (Zpg hz hd (rk.merge .nil) dd')
end L2
end
section
namespace L2
open PySem PySem.Spec PyProof.Rows
noncomputable def Its(x:Str):It:=⟨λi _=>i<x.cps.size,λi H v H'=>H'=H/\∃c,x.cps[i]? = Wx c/\v=.str ⟨#[c]⟩,λi _=>i=x.cps.size⟩
def ZtP{M:Model}{A:YH}{E:Yj->Yb->Prop}{s:Yb}{tg:Expr}{it:Yi}{x:Str}{t:Tok}{Q:Unit->Yb->Prop}(hQ:Q () s):YB M A (letOwnedTupleGo tg (.ref it) (.str x t)) Q E s:=by unfold letOwnedTupleGo;cases tg<;>exact Yc hQ
def ZiA{P:Yh}{w:Yg}{K:Yk}{tg:Expr}{it:Yi}{x:Str}{t:Tok}{ty:String}
 (W:∀A':YH,A'.handled=Wy->Walks P w A' it [it] [it] x.cps.size (SignAt x) (λi h=>h.IsStrIter it ty x t i))
 (hself:∀(A:YH) (i:Nat) (s:Yb) (Q:Yj->Yb->Prop) (E:Yj->Yb->Prop),s.heap.IsStrIter it ty x t i->Q (.ref it) s->YB (model P w) A (pyIter (.ref it)) Q E s) :
 Turn P w K tg (Its x) [it] it (λi h=>h.IsStrIter it ty x t i) where
 mem:=by simp
 obj:=λi h st b hb=>by
  have e:b=it:=by simpa using hb
  subst e;obtain⟨o,e,c,d⟩:=st;exact⟨o,e,λv z=>by rw[d]at z;cases z⟩
 keep:=λi h h' st k=>by obtain⟨o,e,r⟩:=st;exact⟨o,k it (by simp) o e,r⟩
 item:=by intro X hP hw hK hc i pins s Z H E I hf st hg;subst hP hw hK;obtain⟨f0,f1,f2,f3,f4,f5⟩:=hf it (by simp);refine(W X.A (I.ok.hd hc)).item i s _ _ hg st λv h' tk hv st' kk=>?_;obtain⟨c,u,hcx,rfl⟩:=hv;have I1:Inv X pins Z H {s with heap:=h',toks:=tk}:=I.turned (λb o hb e=>kk b o (by simpa using hb) e) f0 f1 f3 f4 f5;exact⟨_,rfl,ZtP ⟨.str ⟨#[c]⟩,H,I1,⟨u,rfl⟩,⟨rfl,c,hcx,rfl⟩,st',λb hb=>(hf b hb).1⟩⟩
 done:=by intro X hP hw hK hc i pins s Z H E I hf st hg;subst hP hw hK;obtain⟨f0,f1,f2,f3,f4,f5⟩:=hf it (by simp);have e:i=x.cps.size:=hg;subst e;exact(W X.A (I.ok.hd hc)).done s _ _ st λh' tk kk=>⟨rfl,I.turned (λb o hb e=>kk b o (by simpa using hb) e) f0 f1 f3 f4 f5⟩
 self:=hself
theorem Zdd{env:Env}:∀(names:List (Str×NameKind)) (x:Str),
 (names.map λ(n,k)=>if (k==Yo&&env.scope.kind==.function&&env.kindOf n==Wx .cell)then(n,NameKind.cell)else(n,k)).lookup x =
  (names.lookup x).map λk=>if (k==Yo&&env.scope.kind==.function&&env.kindOf x==Wx .cell)then NameKind.cell else k
 |[],_=>rfl
 |(n,k)::r,x=>by
  have ih:=@Zdd env r x;show Wp x ((if (k==Yo&&env.scope.kind==.function&&env.kindOf n==Wx .cell)=Wz then(n,NameKind.cell)else(n,k))::_)=_;cases hx:x==n with
  |true=>
   have e:x=n:=by simpa using hx
   subst e;by_cases hc:(k==Yo&&env.scope.kind==.function&&env.kindOf x==Wx .cell)=Wz
   . rw[if_pos hc];simp only[OF,hx,Yv,if_pos hc]
   . rw[if_neg hc];simp only[OF,hx,Yv,if_neg hc]
  |false=>
   by_cases hc:(k==Yo&&env.scope.kind==.function&&env.kindOf n==Wx .cell)=Wz
   . rw[if_pos hc];simp only[OF,hx];exact ih
   . rw[if_neg hc];simp only[OF,hx];exact ih
noncomputable def Zdn(env:Env):List (Str×NameKind)->List (Str×Yi)->List (Str×Yi)
 |[],cs=>cs
 |(n,k)::r,cs=>Zdn env r (if (k==.free)=Wz then(n,(env.cells.lookup n).getD 0)::cs else cs)
theorem ZjH{env:Env}:∀(l:List (Str×NameKind)) (cs:List (Str×Yi)),(∀y∈l,y.2=.free->∃c,env.cells.lookup y.1=Wx c) ->
 (∀x c,(x,c)∈cs->env.cells.lookup x=Wx c)->∀x c,(x,c)∈Zdn env l cs->env.cells.lookup x=Wx c
 |[],cs,_,h2,x,c,hm=>h2 x c hm
 |(n,k)::r,cs,h1,h2,x,c,hm=>by
  refine ZjH r _ (λy hy=>h1 y (Oh _ hy)) (λx c hm=>?_) x c hm;by_cases hk:(k==Yo)=Wz
  . rw[if_pos hk]at hm;rcases O3.mp hm with e|hm
    . cases e;have hk':k=.free:=by cases k<;>first|rfl|(exact absurd hk (by decide))
      obtain⟨c,e⟩:=h1 (n,k) Oi hk';rw[e];rfl
    . exact h2 x c hm
  . rw[if_neg hk]at hm;exact h2 x c hm
theorem Zhp:∀(l:List (Str×NameKind)) (cs:List (Str×Yi)) (p:Str×Yi),p∈cs->p∈Zdn env l cs
 |[],_,_,h=>h
 |(n,k)::r,cs,p,h=>by
  refine Zhp r _ p ?_;by_cases hk:(k==Yo)=Wz
  . rw[if_pos hk];exact Oh _ h
  . rw[if_neg hk];exact h
theorem ZjI:∀(l:List (Str×NameKind)) (cs:List (Str×Yi)) (y:Str×NameKind),y∈l->y.2=.free->∃c,(y.1,c)∈Zdn env l cs
 |(n,k)::r,cs,y,h,hf=>by
  rcases O3.mp h with e|h
  . subst e;refine⟨(env.cells.lookup n).getD 0,Zhp r _ _ ?_⟩;have hk:(k==Yo)=Wz:=by have:k=.free:=hf;subst this;rfl
    rw[if_pos hk];exact Oi
  . exact ZjI r _ y h hf
theorem ZdV:∀{l:List (Str×α)}{x:Str}{c:α},(x,c)∈l->∃c',l.lookup x=Wx c'/\(x,c')∈l
 |(n,d)::r,x,c,h=>by
  cases hx:x==n with
  |true=>
   have e:x=n:=by simpa using hx
   subst e;exact⟨d,by simp[OF],Oi⟩
  |false=>
   rcases O3.mp h with e|h
   . cases e;simp at hx
   . obtain⟨c',h1,h2⟩:=ZdV h;exact⟨c',by simp only[OF,hx];exact h1,Oh _ h2⟩
def Zd0(h:∀y∈scope.names,y.2=.free->∃c,env.cells.lookup y.1=Wx c):closureFor scope env=pure (Zdn env scope.names []):=by
 have all:∀(l:List (Str×NameKind)) (cs:List (Str×Yi)),(∀y∈l,y.2=.free->∃c,env.cells.lookup y.1=Wx c) ->
  (forIn l cs λ(x:Str×NameKind) r=>match x with|(name,kind)=>if (kind==Yo)=Wz then(do let a <- cellOf env name;pure (ForInStep.yield ((name,a)::r)))else pure (ForInStep.yield r):Sem (List (Str×Yi)))=pure (Zdn env l cs):=by
  intro l;induction l with
  |nil=>intro cs _;rfl
  |cons y r ih=>
   intro cs hl;obtain⟨n,k⟩:=y;rw[List.forIn_cons];have hr:=λcs=>ih cs λy hy=>hl y (Oh _ hy);by_cases hk:(k==Yo)=Wz
   . have hk':k=.free:=by cases k<;>first|rfl|(exact absurd hk (by decide))
     obtain⟨c,e⟩:=hl (n,k) Oi hk';have ec:cellOf env n=pure c:=by unfold cellOf;rw[e]
     simp only[hk,if_true,ec];show(forIn r ((n,c)::cs) _:Sem _)=_;rw[hr];show _=pure (Zdn env r (if (k==Yo)=Wz then(n,(env.cells.lookup n).getD 0)::cs else cs));rw[if_pos hk,e];rfl
   . simp only[hk];show(forIn r cs _:Sem _)=_;rw[hr];show _=pure (Zdn env r (if (k==Yo)=Wz then(n,(env.cells.lookup n).getD 0)::cs else cs));rw[if_neg hk]
 unfold closureFor;have z:=all scope.names [] h;dsimp only at z ⊢;rw[z];rfl
end L2
end
section
set_option tactic.hygienic false
namespace L2
open PySem PySem.Spec PyProof.Rows
def ZjE(I:Nat->Yb->Prop)
 (turn:∀n s,I n s->YB (model prog w) A (pyNext it) (λr s₁=>match r with
  |none=>R (.ok .next) s₁
  |some v=>YB (model prog w) A (letOwnedTupleGo target it v) (λ_ s₁'=>YB (model prog w) A (assign target env v) (λ_ s₂=>
   YB (model prog w) A (forIn ifs Wz λc r=>if r=Wz then do let ok <- isTrue c env (eval c env);pure (ForInStep.yield ok)else pure (ForInStep.yield r)) (λok s₃=>
    if ok=Wz then YB (model prog w) A (eval elt env) (λx s₄=>YB (model prog w) A (call (.builtin "list.append") [acc,x]) (λ_ s₅=>∃m,m<n/\I m s₅) (notedBy (model prog w) A env λe s'=>R (.error e) s') s₄) (notedBy (model prog w) A env λe s'=>R (.error e) s') s₃
    else ∃m,m<n/\I m s₃) (notedBy (model prog w) A env λe s'=>R (.error e) s') s₂) (notedBy (model prog w) A env λe s'=>R (.error e) s') s₁') (notedBy (model prog w) A env λe s'=>R (.error e) s') s₁) (notedBy (model prog w) A env λe s'=>R (.error e) s') s)
 (n:Nat) (h:I n s) :
 codeAny (model prog w) A (.compLoop (.ListComp elt [⟨target,iter,ifs,0⟩] scope pos) 0 it acc env) R s:=by
 refine codeAny_loop rfl I (λn s hI=>?_) n h;show YB _ A ((compTurn (.ListComp elt [⟨target,iter,ifs,0⟩] scope pos) 0 it acc env).onRaise (λx=>do noteFrame x env;theTreesLotGoes x)) _ _ s;refine wpAny_noted ?_;rw[compTurn_list];refine Ya (wpAny_standAt (Ya (Yf (turn n s hI) (λr s₁ h₁=>?_) λ_ _ h'=>h')));cases r with
 |none=>exact Yc h₁
 |some v=>
  refine Ya (Yf h₁ (λ_ s₁' h₁'=>?_) λ_ _ h'=>h');refine Ya (Yf h₁' (λ_ s₂ h₂=>Ya (Yf h₂ (λok s₃ h₃=>?_) λ_ _ h'=>h')) λ_ _ h'=>h');cases ok with
  |false=>exact Yc ⟨rfl,h₃⟩
  |true=>exact Ya (Ya (Yf h₃ (λx s₄ h₄=>Ya (Yf h₄ (λ_ s₅ h₅=>Yc (Yc ⟨rfl,h₅⟩)) λ_ _ h'=>h')) λ_ _ h'=>h'))
structure CompSc(NC N:List Str)(js:List (Option Nat))(sc scope:Scope):Prop where
 kind:scope.kind=.function
 dkind:sc.kind=.function
 nocell:∀y∈scope.names,y.2≠.cell
 locs:∀y∈scope.names,y.2=.local->scope.names.lookup y.1=Wx .local
 free:∀y∈scope.names,y.2=.free->sc.names.lookup y.1=Wx .cell
 nd:NC.Nodup
 len:js.length=NC.length
 jok:((NC.zip js).all λp=>p.2.all λj=>WB (N[j]? = Wx p.1)&&WB (scope.names.lookup p.1=Wx .free))=Wz
theorem CompSc.at{NC N:List Str}{js:List (Option Nat)}(S_:CompSc NC N js sc scope){i j:Nat}{x:Str}(h1:NC[i]? = Wx x)(h2:js[i]? = Wx (Wx j)):N[j]? = Wx x/\scope.names.lookup x=Wx .free:=by
 have h:=S_.jok;rw[OC]at h;have hm:(x,Wx j)∈NC.zip js:=by refine O2 (i:=i) ?_;rw[List.getElem?_zip_eq_some];exact⟨h1,h2⟩
 have q:=h _ hm;simp only[Option.all_some,Oa,decide_eq_true_eq]at q;exact q
noncomputable def capt(js:List (Option Nat))(Z:St):St:=js.map λo=>o.bind λj=>(Z[j]?).join
def xeC(X:Cx)(scope:Scope)(C:Yi):Yj->Yb->Prop:=notedBy (model X.prog X.w) X.A (compEnvC scope (Zdn X.env scope.names []) C X.env) λe s'=>∃m,s'.heap.Ns C m/\∀h',Heap.SameBut C s'.heap h'->∀cenv:Env,cenv.locals=C->YB (model X.prog X.w) X.A (passOn "comprehension.variables-let-go" e cenv:Sem Yj) (λ_ _=>False) X.xe {s' with heap:=h'}
noncomputable def ZA(X:Cx)(NC:List Str)(scope:Scope)(C:Yi)(s3:Yb)(H3:Hp)(fp:List Yi):Cx:={X with N:=NC,s₀:=s3,H₀:=H3,env:=compEnvC scope (Zdn X.env scope.names []) C X.env,outer:=X.stack,stack:=X.stack,ex:=fp,fn:=λ_=>WA,calm:=true,pn:=[],xe:=xeC X scope C}
def Znd(k:Nat)(g:TG):Prop:=∀x Z H Q,g x Z H Q->g x Z H λσ2 H2=>Q σ2 H2/\σ2.length=Z.length/\∀j,k<=j->σ2[j]? = Z[j]?
def ZjY(k:Nat)(g:TGs):Prop:=∀x Z H Q,g x Z H Q->g x Z H λσ2 H2=>Q σ2 H2/\σ2.length=Z.length/\∀j,k<=j->σ2[j]? = Z[j]?
def ZpN(h:i<k):Znd k (Zdg i):=λx Z H Q q=>⟨q,List.length_set,λj hj=>by rw[Oc (by lia)]⟩
def Zlw:ZjY k Zrb:=λx Z H Q q=>⟨q.1,q.2,rfl,λ_ _=>rfl⟩
def ZfI(h:i<k)(hu:ZjY k u):ZjY k (Zjp (Zdg i) u):=by
 rintro xs Z H Q ⟨v,r,e,q⟩;refine⟨v,r,e,?_⟩;have z:=hu r (Z.set i (Wx v)) H Q q;have z2:=hu r (Z.set i (Wx v)) H (λσ2 H2=>Q σ2 H2/\σ2.length=(Z.set i (Wx v)).length/\∀j,k<=j->σ2[j]? = (Z.set i (Wx v))[j]?) z;show u r (Z.set i (Wx v)) H _;have e1:(Z.set i (Wx v)).length=Z.length:=List.length_set;have e2:∀j,k<=j->(Z.set i (Wx v))[j]? = Z[j]? := λj hj=>Oc (by lia);have e3:(λσ2 H2=>Q σ2 H2/\σ2.length=Z.length/\∀j,k<=j->σ2[j]? = Z[j]?)=(λσ2 H2=>Q σ2 H2/\σ2.length=(Z.set i (Wx v)).length/\∀j,k<=j->σ2[j]? = (Z.set i (Wx v))[j]?):=by funext σ2 H2;rw[e1];refine propext ⟨λ⟨a,b,c⟩=>⟨a,b,λj hj=>(c j hj).trans (e2 j hj).symm⟩,λ⟨a,b,c⟩=>⟨a,b,λj hj=>(c j hj).trans (e2 j hj)⟩⟩
 rw[e3];exact z
def Znq{K:Yk}(hu:ZjY k u):Znd k (Zra K n u):=by rintro x Z H Q ⟨a,xs,e,h1,h2,q⟩;exact⟨a,xs,e,h1,h2,hu xs Z H Q q⟩
def PIf(X:Cx)(ifs:List Expr)(t:TT):Prop:=
 ∀(pins:List (Yi×Obj)) (s:Yb) (Z:St) (H:Hp) (Q:Bool->Hp->Prop),Inv X pins Z H s->t Z H Q ->
  YB (model X.prog X.w) X.A (forIn ifs Wz λc r=>if r=Wz then do let ok <- isTrue c X.env (eval c X.env);pure (ForInStep.yield ok)else pure (ForInStep.yield r)) (TP X pins Z Q) X.xe s
noncomputable def Zwx:TT:=λ_ H Q=>Q Wz H
def Zqp{X:Cx}:PIf X [] Zwx:=λ_ _ _ H _ I h=>wpAny_tests_nil ⟨H,I,h⟩
def Zqo{X:Cx}{c:Expr}{t:TT}(hc:PT X c t):PIf X [c] t:=λpins s Z H Q I h=>wpAny_tests_one (hc pins s Z H Q I h)
noncomputable def ZrG(wi:TI)(js:List (Option Nat))(g:TG)(tc:TT)(te:TE):TE:=λZ H Q=>wi Z H λJ H1=>∀D,H1 D=Wy->∃W:Nat->Nat->List V->Hp->Prop,(∃m,W 0 m [] (upd H1 D (.lst []))) /\
 ∀i m ys H,W i m ys H->H D=Wx (.lst ys)->(J.stop i H/\Q (.ref D) H) \/
  (J.go i H/\ys.length<sizeLine/\∀x H',J.yld i H x H'->g x (capt js Z) H' λσ2 H2=>tc σ2 H2 λb H3=>
   if b=Wz then te σ2 H3 λy H4=>H4 D=Wx (.lst ys)/\∃m',m'<m/\W (i+1) m' (ys++[y]) (upd H4 D (.lst (ys++[y])))
   else H3 D=Wx (.lst ys)/\∃m',m'<m/\W (i+1) m' ys H3)
section
variable {X:Cx}{pins:List (Yi×Obj)}{Z:St}{H:Hp}{s:Yb}
def Zjn{NC:List Str}{js:List (Option Nat)}{sc scope:Scope}{C:Yi}{h4:YG}{tk:Nat}{fp:List Yi}{m:Str->Option Yj}(S_:CompSc NC X.N js sc scope)(hsc:X.env.scope=sc)(hc:X.calm=Wz)
 (I:Inv X pins Z H s) (f:∀b∈fp,Zbt X pins H b) (fo:∀b∈fp,∃o,s.heap.get? b=Wx o) (hC:C=s.heap.objs.size) (hns:h4.Ns C m) (hk:∀b o,s.heap.get? b=Wx o->h4.get? b=Wx o) :
 Inv (ZA X NC scope C s H fp) [] (capt js Z) H {s with heap:=h4,toks:=tk}:=by
 have hcells:∀y∈scope.names,y.2=.free->∃c,X.env.cells.lookup y.1=Wx c:=λy hy hf=>I.ok.has y.1 (.inl (show X.env.scope.names.lookup y.1=Wx .cell by rw[hsc];exact S_.free y hy hf));have cl1:∀x c,(Zdn X.env scope.names []).lookup x=Wx c->X.env.cells.lookup x=Wx c:=λx c e=>ZjH scope.names [] hcells (λ_ _ z=>by cases z) x c (YI e);have cl2:∀y∈scope.names,y.2=.free->∃c,(Zdn X.env scope.names []).lookup y.1=Wx c:=λy hy hf=>by obtain⟨c,hm⟩:=ZjI (env:=X.env) scope.names [] y hy hf;obtain⟨c',e,_⟩:=ZdV hm;exact⟨c',e⟩
 have kinds:∀x,(ZA X NC scope C s H fp).env.kindOf x=(scope.names.lookup x).map λk=>if (k==Yo&&X.env.scope.kind==.function&&X.env.kindOf x==Wx .cell)then NameKind.cell else k:=λx=>Zdd scope.names x;have fcell:∀x,scope.names.lookup x=Wx .free->(ZA X NC scope C s H fp).env.kindOf x=Wx .cell:=λx e=>by
  rw[kinds,e];have h1:X.env.kindOf x=Wx .cell:=show X.env.scope.names.lookup x=Wx .cell by rw[hsc];exact S_.free (x,.free) (YI e) rfl
  have h2:X.env.scope.kind=.function:=I.ok.kind;simp only[Yv,h1,h2];rfl
 have flt:∀b∈fp,b<s.heap.objs.size:=λb hb=>let ⟨o,e⟩:=fo b hb;Yn e;refine⟨⟨I.ok.mod,S_.kind,I.ok.glob,I.ok.blt,Nat.le_of_eq hC.symm,λx y c h1 h2=>I.ok.inj x y c (cl1 x c h1) (cl1 y c h2),λx hx=>?_,λx c hf _=>absurd (show WA=Wz from hf) Ow,λ_=>I.ok.hd hc,I.ok.frames,.inl rfl,λb hb=>⟨?_,λx c e=>(f b hb).2.2.2.2.1 x c (cl1 x c e)⟩,
  I.bs,OE I.ok.bsz I.sz,λb o e hb=>?_,λb hb hm=>?_,I.stack,I.stkFree⟩,
  rfl,I.bare,Un.kept hk,⟨m,hns,λi x v h1 h2 h3=>?_⟩,λx c e=>?_,?_,λx c e=>I.freeC x c (cl1 x c e),λp hp=>absurd (show p∈([]:List (Yi×Obj))from hp) (by simp),I.hok.kept hk,?_⟩
 . rw[kinds]at hx;cases e:scope.names.lookup x with
   |none=>rw[e]at hx;rcases hx with hx|hx<;>cases hx
   |some k=>
    rw[e]at hx;have hm:=YI e;have hk:k=.free:=by
     by_cases hf:(k==Yo)=Wz
     . cases k<;>first|rfl|(exact absurd hf (by decide))
     . have hf':(k==Yo)=WA:=Bool.eq_false_iff.mpr hf;simp only[Yv,hf',Bool.false_and,OG,if_false]at hx;rcases hx with hx|hx
       . exact absurd (YF hx) (S_.nocell _ hm)
       . exact YF hx
    exact cl2 (x,k) hm hk
 . show b≠C;rw[hC];exact Ou (flt b hb)
 . obtain⟨_,_,_,f3,_⟩:=f b hb;rcases f3 with z|z
   . exact I.ok.noex b o e z
   . exact absurd (O4 (Yn e) (OE I.ok.bsz z)) (Yw _)
 . obtain⟨_,f1,f2,_⟩:=f b hb;exact(O3.mp (I.stkSub b hm)).elim f1 f2
 . have hj:∃j,js[i]? = Wx (Wx j)/\Z[j]? = Wx (Wx v):=by
    unfold capt at h2;rw[On]at h2;cases e:js[i]? with
    |none=>rw[e]at h2;cases h2
    |some o=>
     rw[e]at h2;have h2':(o.bind λj=>(Z[j]?).join)=Wx v:=YF h2;cases o with
     |none=>cases h2'
     |some j=>
      refine⟨j,rfl,?_⟩;have h3':(Z[j]?).join=Wx v:=h2';cases q:Z[j]? with
      |none=>rw[q]at h3';cases h3'
      |some r=>rw[q]at h3';rw[show r=Wx v from h3']
   obtain⟨j,hj,hσ⟩:=hj;obtain⟨hN,hfr⟩:=S_.at (show NC[i]? = Wx x from h1) hj;have hcell:X.env.scope.names.lookup x=Wx .cell:=by rw[hsc];exact S_.free (x,.free) (YI hfr) rfl
   obtain⟨m0,_,hl⟩:=I.loc;obtain⟨u,r,l⟩:=hl j x v hN hσ (.inr (.inl hcell));refine⟨u,r,?_⟩;rcases l with ⟨k,_⟩|⟨_,c,e,z⟩
   . rw[show X.env.kindOf x=Wx .cell from hcell]at k;cases k
   . obtain⟨c',e'⟩:=cl2 (x,.free) (YI hfr) rfl;have ec:=cl1 x c' e';rw[e]at ec;cases ec;obtain⟨o,ho,hd⟩:=z;exact .inr ⟨.inl (fcell x hfr),c,e',o,hk _ _ ho,hd⟩
 . obtain⟨v,o,ho,hd⟩:=I.cell x c (cl1 x c e);exact⟨v,o,hk _ _ ho,hd⟩
 . show H C=Wy;rw[hC];exact I.hok.fresh (Oq _)
 . unfold capt;rw[Yu];exact S_.len
end
section
variable {X:Cx}{elt tg iter:Expr}{ifs:List Expr}{scope sc:Scope}{pos:Pos}{NC:List Str}{js:List (Option Nat)}{k:Nat}{wi:TI}{g:TG}{tc:TT}{te:TE}
def Inv.comp_out{pins:List (Yi×Obj)}{Z σ':St}{H3 H':Hp}{s3 s1:Yb}{C:Yi}{fp:List Yi}{h'':YG}(I3:Inv X pins Z H3 s3)(f:∀b∈fp,Zbt X pins H3 b)(hC:C=s3.heap.objs.size)
 (I':Inv (ZA X NC scope C s3 H3 fp) [] σ' H' s1) (hs:Heap.SameBut C s1.heap h''):Inv X pins Z H' {s1 with heap:=h''}:=by
 have ne:∀b o,s3.heap.get? b=Wx o->b≠C:=λb o e=>by rw[hC];exact Ou (Yn e)
 have u:=I'.base;refine I3.call' (s':={s1 with heap:=h''}) (ch:=fp) I'.os ⟨λb o e n hb hx=>(hs.2 b (ne b o e)).trans (u.keep b o e n hb hx),λb o e n hb hx=>?_,u.free,λb o e hx=>?_,u.tups,u.frzs,u.tbls⟩ ?_ I'.bare λb hb=>?_
 . obtain⟨sl,q⟩:=u.slot b o e n hb hx;exact⟨sl,(hs.2 b (ne b o e)).trans q⟩
 . obtain⟨o',q⟩:=u.there b o e hx;exact⟨o',(hs.2 b (ne b o e)).trans q⟩
 . have hfree:H' C=Wy:=I'.free;intro b ob e;refine(I'.hok b ob e).stay (λc w' hc q=>(hs.2 c ?_).trans q) (λ_ q=>q) λ_ _ q=>q;rintro rfl;rcases hc with rfl|hc
   . rw[hfree]at e;cases e
   . rw[hfree]at hc;cases hc
 . obtain⟨_,f1,_,f3,f4,f5⟩:=f b hb;exact⟨f3,f1,f4,f5⟩
def Zho{pins:List (Yi×Obj)}{Z:St}{H3:Hp}{s3 s4:Yb}{C Dd it:Yi}{fp:List Yi}{tn:Nat->YG->Prop}{J:It}{W:Nat->Nat->List V->Hp->Prop}{Q:VK}{m0:Nat}{post:Result->Yb->Prop}
 (hb:∀(pins:List (Yi×Obj)) (Z:St) (C:Yi) (s3:Yb) (H3:Hp) (fp:List Yi),Inv X pins Z H3 s3->(∀b∈fp,Zbt X pins H3 b)->C=s3.heap.objs.size->PG (ZA X NC scope C s3 H3 fp) tg g/\PIf (ZA X NC scope C s3 H3 fp) ifs tc/\PE (ZA X NC scope C s3 H3 fp) elt te)
 (hk:Znd k g) (hjk:∀j,j<k->js[j]? = Wx Wy) (hC:C=s3.heap.objs.size) (I3:Inv X pins Z H3 s3) (f3:∀b∈fp,Zbt X pins H3 b) (fpl:∀b∈fp,∃o,s3.heap.get? b=Wx o) (I4:Inv (ZA X NC scope C s3 H3 fp) [] (capt js Z) H3 s4) (T:Turn X.prog X.w X.K tg J fp it tn) (st4:tn 0 s4.heap) (hD0:H3 Dd=Wx (.lst [])) (w0:W 0 m0 [] H3)
 (turn:∀i m ys H,W i m ys H->H Dd=Wx (.lst ys)->(J.stop i H/\Q (.ref Dd) H)\/(J.go i H/\ys.length<sizeLine/\∀x H',J.yld i H x H'->g x (capt js Z) H' λσ2 H2=>tc σ2 H2 λb H3=>if b=Wz then te σ2 H3 λy H4=>H4 Dd=Wx (.lst ys)/\∃m',m'<m/\W (i+1) m' (ys++[y]) (upd H4 Dd (.lst (ys++[y])))else H3 Dd=Wx (.lst ys)/\∃m',m'<m/\W (i+1) m' ys H3))
 (stp:∀s6 H5,Inv (ZA X NC scope C s3 H3 fp) [] (capt js Z) H5 s6->Q (.ref Dd) H5->post (.ok .next) s6) (er:∀e s',(∃m,s'.heap.Ns C m/\∀h',Heap.SameBut C s'.heap h'->∀cenv:Env,cenv.locals=C->YB (model X.prog X.w) X.A (passOn "comprehension.variables-let-go" e cenv:Sem Yj) (λ_ _=>False) X.xe {s' with heap:=h'})->post (.error e) s') :
 codeAny (model X.prog X.w) X.A (.compLoop (.ListComp elt [⟨tg,iter,ifs,0⟩] scope pos) 0 (.ref it) (.ref Dd) (compEnvC scope (Zdn X.env scope.names []) C X.env)) post s4:=by
 have stat:∀{H':Hp},(∀b∈fp,H' b=Wy)->∀b∈fp,Zbt (ZA X NC scope C s3 H3 fp) [] H' b:=λhn b hb=>⟨hn b hb,(by rw[hC];exact Ou (let ⟨o,e⟩:=fpl b hb;Yn e)),λhm=>I4.ok.exfs b hb hm,.inl hb,λx c e=>(I4.ok.exf b hb).2 x c e,λp hp=>absurd (show p∈([]:List (Yi×Obj))from hp) (by simp)⟩
 have er':∀e s',xeC X scope C e s'->notedBy (model X.prog X.w) X.A (compEnvC scope (Zdn X.env scope.names []) C X.env) (λe s'=>post (.error e) s') e s':=λe s' z=>Yf z (λ_ s'' q=>er e s'' q) λe' s'' q=>er e' s'' q;refine ZjE (λn s'=>∃i ys H',Inv (ZA X NC scope C s3 H3 fp) [] (capt js Z) H' s'/\tn i s'.heap/\(∀b∈fp,H' b=Wy)/\H' Dd=Wx (.lst ys)/\W i n ys H') ?_ m0
  ⟨0,[],_,I4,st4,λb hb=>(f3 b hb).1,hD0,w0⟩
 rintro n s5 ⟨i,ys,H5,I5,st5,fr5,hD5,w5⟩;rcases turn i n ys H5 w5 hD5 with ⟨stop,qn⟩|⟨go,hlen,step⟩
 . refine Yf (T.done (ZA X NC scope C s3 H3 fp) rfl rfl rfl rfl i [] s5 (capt js Z) H5 (λ_ _=>False) I5 (stat fr5) st5 stop) (λr s6 ⟨hr,I6⟩=>?_) λ_ _ z=>z.elim;subst hr;exact stp s6 H5 I6 qn
 . refine Yf (T.item (ZA X NC scope C s3 H3 fp) rfl rfl rfl rfl i [] s5 (capt js Z) H5 (λ_ _=>False) I5 (stat fr5) st5 go) (λr s6 ⟨u,hr,h6⟩=>?_) λ_ _ z=>z.elim;subst hr;refine Yf h6 (λ_ s7 ⟨x,H7,I7,r7,y7,st7,fr7⟩=>?_) λ_ _ z=>z.elim;have I7':=I7.pinned (stat fr7) (T.obj _ _ st7);obtain⟨pg,pif,pe⟩:=hb pins Z C s3 H3 fp I3 f3 hC;refine Yf (pg _ s7 (capt js Z) H7 x u _ I7' r7 (hk _ _ _ _ (step x H7 y7))) (λ_ s8 ⟨σ8,H8,I8,q8,l8,k8⟩=>?_) er';have back:∀{H9:Hp}{s9:Yb},Inv (ZA X NC scope C s3 H3 fp) ([]++Zf6 fp s7.heap) σ8 H9 s9 ->
    Inv (ZA X NC scope C s3 H3 fp) [] (capt js Z) H9 s9/\tn (i+1) s9.heap/\∀b∈fp,H9 b=Wy:=λ{H9 s9} I9=>by
    refine⟨(I9.unpinned).weak l8.symm λj v e=>?_,T.keep _ _ _ st7 λb hb o e=>(I9.pin (b,o) (Ov _ (Ov _ (ZcE hb e)))).1,λb hb=>?_⟩
    . by_cases hj:j<k
      . unfold capt at e;rw[On,hjk j hj]at e;cases e
      . rw[k8 j (Nat.le_of_not_lt hj)];exact e
    . obtain⟨o,e,d⟩:=T.obj _ _ st7 b hb;exact(I9.pin (b,o) (Ov _ (Ov _ (ZcE hb e)))).2.1
   refine Yf (pif _ s8 σ8 H8 _ I8 q8) (λok s9 ⟨H9,I9,q9⟩=>?_) er';cases ok with
   |false=>rw[if_neg Ow]at q9 ⊢;obtain⟨hD9,m',hm,w9⟩:=q9;obtain⟨b1,b2,b3⟩:=back I9;exact⟨m',hm,i+1,ys,H9,b1,b2,b3,hD9,w9⟩
   |true=>
    rw[if_pos rfl]at q9 ⊢;refine Yf (pe _ s9 σ8 H9 _ I9 q9) (λy s10 ⟨v,H10,I10,r10,hD10,m',hm,w10⟩=>?_) er';refine Yf (Zhi (X:=ZA X NC scope C s3 H3 fp) _ s10 σ8 H10 (.ref Dd) [v] (.ref Dd) [y]
     (λ_ H11=>H11=upd H10 Dd (.lst (ys++[v]))) I10 rfl (.cons r10 .nil) ⟨_,ys,v,rfl,rfl,hD10,hlen,rfl⟩) (λ_ s11 ⟨_,H11,I11,_,e11⟩=>?_) er'
    subst e11;obtain⟨b1,b2,b3⟩:=back I11;exact⟨m',hm,i+1,ys++[v],_,b1,b2,b3,Zi,w10⟩
theorem Zqx(S_:CompSc NC X.N js sc scope)(hsc:X.env.scope=sc)(hc:X.calm=Wz)(hi:PI X tg iter wi)
   (hb:∀ (pins:List (Yi×Obj)) (Z:St) (C:Yi) (s3:Yb) (H3:Hp) (fp:List Yi),Inv X pins Z H3 s3->(∀ b∈fp,Zbt X pins H3 b)->C=s3.heap.objs.size->PG (ZA X NC scope C s3 H3 fp) tg g/\PIf (ZA X NC scope C s3 H3 fp) ifs tc/\PE (ZA X NC scope C s3 H3 fp) elt te)
   (hk:Znd k g) (hjk:∀ j,j<k->js[j]? = Wx Wy) (hs:∀ x,foldedSetIterable iter X.env x=pure x:=by intro _;rfl) :
   PE X (.ListComp elt [⟨tg,iter,ifs,0⟩] scope pos) (ZrG wi js g tc te):=by
 intro pins s Z H Q I h;have hcells:∀ y∈scope.names,y.2=.free->∃ c,X.env.cells.lookup y.1=Wx c:=fun y hy hf=>I.ok.has y.1 (.inl (show X.env.scope.names.lookup y.1=Wx .cell by rw [hsc];exact S_.free y hy hf));rw [eval_ListComp];refine wpAny_comprehension_free (use:=Wy) rfl hs (Zd0 hcells) S_.kind S_.locs (thn (hi pins s Z H _ I h) fun xv s1 h1=>thn h1 fun itv s2 h2=>?_);obtain ⟨it,fp,tn,J,H2,e,I2,T,st2,f2,rest⟩:=h2;subst e;have hD:H2 s2.heap.objs.size=Wy:=I2.hok.fresh (Oq _);obtain ⟨W,⟨m0,w0⟩,turn⟩:=rest s2.heap.objs.size hD;refine Yr (wpAny_newFunctionEnv S_.nocell (by intro y hy;simp at hy) (fun h4 hns hsb=>?_) S_.kind);have I3:Inv X pins Z (upd H2 s2.heap.objs.size (.lst [])) {s2 with heap:=s2.heap.push {cls:=.type "list",dict:=Wy,data:=.seq ([]:List Yj).toArray}}:=I2.lnew (t':=s2.toks) (ys:=[]) (its:=[]) .nil (Yy _);dsimp only at hns hsb ⊢;generalize hs3:({s2 with heap:=s2.heap.push {cls:=.type "list",dict:=Wy,data:=.seq ([]:List Yj).toArray}}:Yb)=s3 at I3;have eh:s2.heap.push {cls:=.type "list",dict:=Wy,data:=.seq ([]:List Yj).toArray}=s3.heap:=by rw [<- hs3]
 have eD:s2.heap.objs.size<s3.heap.objs.size:=by rw [<- eh,Heap.size_push];exact OH _
 rw [eh] at hns hsb;have keep:∀ b o,s3.heap.get? b=Wx o->h4.get? b=Wx o:=fun b o e=>(hsb.2 b (Ou (Yn e))).trans (O1 _ e);have fpl:∀ b∈fp,∃ o,s3.heap.get? b=Wx o:=fun b hb=>by
   obtain ⟨o,e,_⟩:=T.obj 0 _ st2 b hb;exact ⟨o,by rw [<- eh];exact O1 _ e⟩
 have neD:∀ b∈fp,b≠s2.heap.objs.size:=fun b hb=>by
   obtain ⟨o,e,_⟩:=T.obj 0 _ st2 b hb;exact Ou (Yn e)
 have f3:∀ b∈fp,Zbt X pins (upd H2 s2.heap.objs.size (.lst [])) b:=fun b hb=>⟨by rw [Zg (neD b hb)];exact (f2 b hb).1,(f2 b hb).2⟩
 have I4:=Zjn (tk:=s2.toks+([]:List (Str×Yj)).length) S_ hsc hc I3 f3 fpl rfl hns keep;have st4:tn 0 h4:=T.keep 0 _ _ st2 fun b hb o e=>keep b o (by rw [<- eh];exact O1 _ e);have eC:(s2.heap.push {cls:=.type "list",dict:=Wy,data:=.seq ([]:List Yj).toArray}).objs.size=s3.heap.objs.size:=by rw [eh]
 have loop:∀ s4:Yb,s4={s3 with heap:=h4,toks:=s2.toks+([]:List (Str×Yj)).length} ->
     codeAny (model X.prog X.w) X.A (.compLoop (.ListComp elt [⟨tg,iter,ifs,0⟩] scope pos) 0 (.ref it) (.ref s2.heap.objs.size) (compEnvC scope (Zdn X.env scope.names []) s3.heap.objs.size X.env))
       (compPost (model X.prog X.w) X.A X.xe Wy (EP X pins Z Q) (.ref s2.heap.objs.size) s3.heap.objs.size) s4:=by
   rintro s4 rfl;exact Zho hb hk hjk rfl I3 f3 fpl I4 T st4 Zi w0 turn (fun s6 H5 I6 qn=>by
     obtain ⟨m,hm,_⟩:=I6.loc;exact ⟨m,hm,fun h' hs'=>⟨.ref s2.heap.objs.size,H5,I3.comp_out f3 rfl I6 hs',rfl,qn⟩⟩) (fun _ _ z=>z)
 have e4:({s2 with heap:=h4,toks:=s2.toks+([]:List (Str×Yj)).length}:Yb)={s3 with heap:=h4,toks:=s2.toks+([]:List (Str×Yj)).length}:=by rw [<- hs3]
 rw [eC];exact codeAny_compStart_list (loop _ e4) (T.self X.A 0 _ _ _ st4 (loop _ e4))
end
end L2
end
section
namespace L2
open PySem PySem.Spec PyProof.Rows
section
variable {X:Cx}
def TyN(K:Yk)(x:V)(H:Hp)(t:String):Prop:=match x with
 |.int _=>t = "int"
 |.str _=>t = "str"
 |.bl _=>t = "bool"
 |.non=>t = "NoneType"
 |.ref p=>(t = "list" /\ ∃xs,SqL K H p xs)\/(t = "tuple" /\ ∃xs,SqT K H p xs)
 |_=>False
def Zpn:ZcA X (.builtin "isinstance") (λxs H Q=>∃x t T b,xs=[x,.ty T]/\TyN X.K x H t/\PySem.W.kitOne X.K (.type t) (.type T)=Wx b/\Q (.bl b) H):=by
 intro pins s Z H xs us Q I r h;obtain⟨x,t,T,b,rfl,ty,e,q⟩:=h;obtain⟨u,w',rfl,rx,rT⟩:=vals2 r;obtain rfl:w'=Value.type T:=rT;have fin:∀tk,EP X pins Z Q (.bool b) {s with toks:=tk}:=λtk=>⟨.bl b,H,I.tok tk,rfl,q⟩
 cases x with
 |int i=>obtain⟨tk,rfl⟩:=rx;obtain rfl:t = "int" := ty;exact PySem.W.kia_one PySem.W.kitx_int I.kIn trivial e (by intro z;cases z) fin
 |str i=>obtain⟨tk,rfl⟩:=rx;obtain rfl:t = "str" := ty;exact PySem.W.kia_one PySem.W.kitx_str I.kIn trivial e (by intro z;cases z) fin
 |bl i=>obtain rfl:u=Value.bool i:=rx;obtain rfl:t = "bool" := ty;exact PySem.W.kia_one PySem.W.kitx_bool I.kIn trivial e (by intro z;cases z) fin
 |non=>obtain rfl:u=Value.none:=rx;obtain rfl:t = "NoneType" := ty;exact PySem.W.kia_one PySem.W.kitx_none I.kIn trivial e (by intro z;cases z) fin
 |ref p=>
  obtain rfl:u=YD p:=rx;rcases ty with ⟨rfl,xs,hx⟩|⟨rfl,xs,hx⟩
  . obtain⟨its,_,pl,_⟩:=I.list hx;exact PySem.W.kia_one PySem.W.kitx_list I.kIn pl.isList.typeIs e (by intro z;cases z) fin
  . obtain⟨its,_,pl,_⟩:=I.tuple hx;exact PySem.W.kia_one PySem.W.kitx_tuple I.kIn pl.typeIs e (by intro z;cases z) fin
 |_=>exact(show False from ty).elim
def ZmP{K:Yk}(h:PySem.W.kitOne [] (.type t) (.type T)=Wx b):PySem.W.kitOne K (.type t) (.type T)=Wx b:=h
def ZwV:V->Option Int->Option Int->Hp->VK->Prop:=λx lo hi H Q=>∃y,x=.str y/\y.length<=sizeLine/\Q (.str (Yq y lo hi)) H
def Zsw:SlR X ZwV:=by
 intro pins s Z H x v vl vu lo hi sl Q I rx hs pl pu h;obtain⟨y,rfl,hz,q⟩:=h;obtain⟨t,rfl⟩:=rx;refine⟨"str",_,F.slot_str_getitem.lookup,typeIs_str _ _ _,?_⟩;have go:∀(l u:Option (Int×Tok)),vl=partValue l->vu=partValue u->lo=l.map (·.1)->hi=u.map (·.1)->YB (model X.prog X.w) X.A (getItem (.str y t) (.ref sl)) (EP X pins Z Q) X.xe s:=by rintro l u rfl rfl rfl rfl;refine wpAny_getItem_str_slice (l:=l) (u:=u) (st:=Wy) hs rfl ?_;refine post_val_or_str ⟨OE (Txt.slice_le y _ _) hz,λt' k=>⟨.str _,H,I.tok k,⟨t',rfl⟩,q⟩⟩
 cases pl with
 |none=>
  cases pu with
  |none=>exact go Wy Wy rfl rfl rfl rfl
  |int j tj=>exact go Wy (Wx (j,tj)) rfl rfl rfl rfl
 |int i ti=>
  cases pu with
  |none=>exact go (Wx (i,ti)) Wy rfl rfl rfl rfl
  |int j tj=>exact go (Wx (i,ti)) (Wx (j,tj)) rfl rfl rfl rfl
end
end L2
end
section
namespace L2
open PySem PySem.Spec PyProof.Rows
def Zao.there(x:Zao P w H h a o):∃ob,h.get? a=Wx ob:=by
 cases o with
 |lst xs=>obtain⟨_,_,_,_,e⟩:=x;exact⟨_,e⟩
 |tup xs=>obtain⟨_,_,_,ob,e,_⟩:=x;exact⟨_,e⟩
 |dK kvs=>obtain⟨_,_,_,_,o,_,_,e,_⟩:=x;exact⟨_,e⟩
 |dT kvs=>obtain⟨_,_,_,_,o,_,_,e,_⟩:=x;exact⟨_,e⟩
 |set S_ n=>obtain⟨o,_,_,_,e,_⟩:=x;exact⟨_,e⟩
 |ins C dx fs=>obtain⟨_,_,_,e,_⟩:=x;exact⟨_,e⟩
 |own y=>obtain⟨_,e⟩:=x;exact⟨_,e⟩
 |xd fs=>obtain⟨_,⟨_,_,_,e,_⟩,_⟩:=x;exact⟨_,e⟩
 |rng lo hi=>obtain⟨_,_,_,e⟩:=x;exact⟨_,e⟩
 |frz ob u=>obtain⟨e,_⟩:=x;exact⟨_,e⟩
 |tbl ps=>exact⟨_,(show h.get? a=Wx _ from x)⟩
 |met f y=>exact⟨_,(show h.get? a=Wx _ from x)⟩
 |ext φ=>obtain⟨_,⟨_,e⟩,_⟩:=x;exact⟨_,e⟩
def Kept(fs:List Yi)(H':Hp)(h h1 B_:YG):Prop:=∀b o,h1.get? b=Wx o->(H' b≠Wy\/((∃o',h.get? b=Wx o')/\b ∉ fs))->B_.get? b=Wx o
noncomputable def CXF(P:Yh)(w:Yg):CXT:=λouter H s E e s'=>
 ∃(a:Yi) (cls a0:Yj) (H':Hp) (B_:YG),e=.ref a/\s'.os=s.os/\AllBare s'.gens/\Un (frs outer) [] H H' s.heap s'.heap/\HOk P w H' s'.heap /\
  Heap.FlyingW B_ outer a cls a0 s'.heap/\Kept (frs outer) H' s.heap s'.heap B_/\H' a=Wy/\E cls Wy H'
def Zd7(un:Un fs [] H H' h h1)(hok:HOk P w H' h1)(kb:Kept fs H' h h1 B_)(stay:B_.StaysIn h2)(up:h1.UpToSlots h2)
 (hf:∀b∈fs,∃o,h1.get? b=Wx o/\∀vs,o.data≠.fields vs):Un fs [] H H' h h2/\HOk P w H' h2/\Kept fs H' h h2 B_:=by
 have tr:∀b u,H' b=Wx u->∃o,h1.get? b=Wx o/\h2.get? b=Wx o/\B_.get? b=Wx o:=λb u e=>by obtain⟨o,q⟩:=(hok b u e).there;have z:=kb b o q (.inl (by rw[e];simp));exact⟨o,q,stay _ _ z,z⟩
 have old:∀b o,h.get? b=Wx o->b ∉ fs->∃o1,h1.get? b=Wx o1/\h2.get? b=Wx o1/\B_.get? b=Wx o1:=λb o e hb=>by obtain⟨o1,q⟩:=un.there b o e (by simp);have z:=kb b o1 q (.inr ⟨⟨o,e⟩,hb⟩);exact⟨o1,q,stay _ _ z,z⟩
 refine⟨⟨λb o e n hb _=>?_,λb o e n hb _=>?_,λb o e n _=>un.free b o e n (by simp),λb o e _=>?_,un.tups,un.frzs,un.tbls⟩,λb u e=>?_,λb o e hb=>?_⟩
 . obtain⟨o1,q1,q2,_⟩:=old b o e hb;have z:=un.keep b o e n hb (by simp);rw[q1]at z;cases z;exact q2
 . obtain⟨sl,z⟩:=un.slot b o e n hb (by simp);obtain⟨o',z',nf⟩:=hf b hb;rw[z]at z';cases z';obtain⟨sl',q⟩:=up b _ z nf;exact⟨sl',q⟩
 . by_cases hb:b∈fs
   . obtain⟨o',z',nf⟩:=hf b hb;obtain⟨sl',q⟩:=up b _ z' nf;exact⟨_,q⟩
   . obtain⟨o1,_,q2,_⟩:=old b o e hb;exact⟨_,q2⟩
 . refine(hok b u e).stay (λc v hc q=>?_) (λ_ q=>q) λ_ _ q=>q;have hc':∃u',H' c=Wx u':=by
    rcases hc with rfl|hc
    . exact⟨u,e⟩
    . exact⟨_,hc⟩
   obtain⟨u',e'⟩:=hc';obtain⟨o,q1,q2,_⟩:=tr c u' e';rw[q]at q1;cases q1;exact q2
 . rcases hb with hb|⟨⟨o',e'⟩,hb⟩
   . cases q:H' b with
     |none=>exact absurd q hb
     |some u=>obtain⟨o1,q1,q2,q3⟩:=tr b u q;rw[e]at q2;cases q2;exact q3
   . obtain⟨o1,q1,q2,q3⟩:=old b o' e' hb;rw[e]at q2;cases q2;exact q3
def Ziw(X:Cx)(E:XK):Prop:=∀(pins:List (Yi×Obj)) (Z:St) (H:Hp) (s:Yb) (h':YG) (e:Yi) (cls:Yj) (vs:List Yj),Inv X pins Z H s->Heap.MadeExcOf s.heap h' e cls vs->E cls Wy H->X.xe (.ref e) {s with heap:=h'}
section
variable {P:Yh}{w:Yg}{K:Yk}{mg:Str->Option Yj}{base:YG}{N:List Str}{qual:Str}{scope:Scope}{f:Yi}{cd:Yj}{A:YH}{outer:List Env}{s0:Yb}{H0:Hp}{E:XK}
def ZnG:Ziw (ZeU (CXF P w) P w K mg base N qual scope f cd A outer s0 H0 E) E:=by
 intro pins Z H s h' e cls vs I hx hE;have hfr:(A.deeper (envOfC qual scope s0.heap.objs.size f cd)).frames=Wx (envOfC qual scope s0.heap.objs.size f cd::outer):=I.ok.frames;have hin:∀env∈(envOfC qual scope s0.heap.objs.size f cd::outer),∀b,env.frame=Wx b->b∈(envOfC qual scope s0.heap.objs.size f cd::outer).filterMap (·.frame):=λenv he b hb=>List.mem_filterMap.mpr ⟨env,he,hb⟩;have hst:s.heap.FunFrames base (envOfC qual scope s0.heap.objs.size f cd::outer):=I.stack;show YB (model P w) (A.deeper (envOfC qual scope s0.heap.objs.size f cd)) (leaving (envOfC qual scope s0.heap.objs.size f cd) (.ref e)) _ _ {s with heap:=h'};refine wpAny_leaves_madeW (s:={s with heap:=h'}) (base:=Wb s.heap (frs (envOfC qual scope s0.heap.objs.size f cd::outer))) hfr rfl (λb o q=>PySem.W.of_hideAll _ q) (PySem.W.funFrames_hide hst hin) hx λh'' t x1 x2 x3 x4=>?_;have un:Un (frs outer) [] H0 H s0.heap h':=(I.base:Un (frs outer) [] H0 H s0.heap s.heap).trans (Un.kept hx.keeps);have hok:HOk P w H h':=I.hok.kept hx.keeps;have kb:Kept (frs outer) H s0.heap h' (Wb s.heap (frs (envOfC qual scope s0.heap.objs.size f cd::outer))):=λb o e1 hb=>by
  rcases hb with hb|⟨⟨o',e'⟩,hb⟩
  . cases q:H b with
    |none=>exact absurd q hb
    |some u=>
     obtain⟨o1,q1⟩:=(I.hok b u q).there;have q2:=hx.keeps b o1 q1;rw[e1]at q2;cases q2;exact PySem.W.hideAll_get _ q1 λhm=>by have z:H b=Wy:=I.stkFree b hm;rw[q]at z;cases z
  . obtain⟨o1,q1⟩:=(I.base:Un (frs outer) [] H0 H s0.heap s.heap).there b o' e' (show b ∉ ([]:List Yi)from List.not_mem_nil);have q2:=hx.keeps b o1 q1;rw[e1]at q2;cases q2;refine PySem.W.hideAll_get _ q1 λhm=>?_;have hm':b∈s0.heap.objs.size::frs outer:=I.stkSub b hm;rcases O3.mp hm' with z|z
    . rw[z]at e';exact absurd (Yn e') (Yw _)
    . exact hb z
 have hfo:∀b∈frs outer,∃o,h'.get? b=Wx o/\∀vs,o.data≠.fields vs:=λb hb=>by obtain⟨_,o,q,nf⟩:=I.funs.mem hb;exact⟨o,hx.keeps _ _ q,nf⟩
 obtain⟨r1,r2,r3⟩:=Zd7 un hok kb x1.1 x4 hfo;refine⟨e,cls,_,H,_,rfl,I.os,I.bare,r1,r2,x1,r3,?_,hE⟩;cases q:H e with
 |none=>rfl
 |some u=>obtain⟨o1,q1⟩:=(I.hok e u q).there;rw[hx.new]at q1;cases q1
def ZqB(h:∀cls H',E1 cls Wy H'->E cls Wy H'):ZaU (CXF P w) (ZeU (CXF P w) P w K mg base N qual scope f cd A outer s0 H0 E) E1:=by
 intro pins Z H s e s' I hx;obtain⟨a,cls,a0,H',B_,rfl,os,bare,un,hok,fl,kb,ha,hE⟩:=hx;have I':=I.call' (ch:=[]) os un hok bare (λb z=>absurd z (by simp));have hfr:(A.deeper (envOfC qual scope s0.heap.objs.size f cd)).frames=Wx (envOfC qual scope s0.heap.objs.size f cd::outer):=I.ok.frames;show YB (model P w) (A.deeper (envOfC qual scope s0.heap.objs.size f cd)) (leaving (envOfC qual scope s0.heap.objs.size f cd) (.ref a)) _ _ s';refine wpAny_leaves_onW hfr rfl fl λh'' x1 x4=>?_;have kb':Kept (frs outer) H' s0.heap s'.heap B_:=λb o e1 hb=>by
  refine kb b o e1 ?_;rcases hb with hb|⟨⟨o',e'⟩,hb⟩
  . exact .inl hb
  . obtain⟨o1,q1⟩:=(I.base:Un (frs outer) [] H0 H s0.heap s.heap).there b o' e' (show b ∉ ([]:List Yi)from List.not_mem_nil);refine .inr ⟨⟨o1,q1⟩,λhm=>?_⟩;have hm':b∈s0.heap.objs.size::frs outer:=I.stkSub b hm;rcases O3.mp hm' with z|z
    . rw[z]at e';exact absurd (Yn e') (Yw _)
    . exact hb z
 have hfo:∀b∈frs outer,∃o,s'.heap.get? b=Wx o/\∀vs,o.data≠.fields vs:=λb hb=>by obtain⟨_,o,q,nf⟩:=I'.funs.mem hb;exact⟨o,q,nf⟩
 obtain⟨r1,r2,r3⟩:=Zd7 (I'.base:Un (frs outer) [] H0 H' s0.heap s'.heap) hok kb' x1.1 x4 hfo;exact⟨a,cls,a0,H',B_,rfl,I'.os,bare,r1,r2,x1,r3,ha,h _ _ hE⟩
end
def Zhd:ZaU (CXF P w) X E0:=λ_ _ _ _ _ _ _ h=>by obtain⟨_,_,_,_,_,_,_,_,_,_,_,_,_,z⟩:=h;exact z.elim
end L2
end
section
namespace L2
open PySem PySem.Spec PyProof.Rows
def Zrf{K:Yk}{h:YG}{C:Yi}{bmB:List Yj}{newId:String}(X:K.In h)(q:PySem.W.excIn K C bmB newId=Wz):
 ∃bm N nm qn bs hdct sn sub ab col dd k0 k1 k2 k3 k5 mN,h.get? C=Wx (excClassObj nm qn C N bs bm hdct sn sub ab col dd k0 k1 k2 k3 k5 newId)/\h.Ns N mN/\mN "__init__" = Wy/\OwnTail h bmB bm:=by
 unfold PySem.W.excIn at q;split at q
 . rename_i dd cd sl ho;split at q
   . rename_i C' bm k0 k1 k2 k3 n k5 hm hs;simp only[Oa,beq_iff_eq,Bool.not_eq_true']at q;obtain⟨⟨⟨⟨⟨rfl,rfl⟩,hdel⟩,ht⟩,hok⟩,hni⟩:=q;obtain⟨nm,bs,mro,ns,qn,hd,sn,sub,ab,col,del⟩:=cd;dsimp only at hm hdel hok hni;subst hm hdel;have hsl:sl=#[k0,k1,k2,k3,Wx (.builtin n),k5]:=by obtain⟨l⟩:=sl;simp only at hs;rw[hs]
     subst hsl;exact⟨bm,ns,nm,qn,bs,hd,sn,sub,ab,col,dd,k0,k1,k2,k3,k5,_,X _ _ ho,.of_isNs (PySem.W.isNs_of_in X hok),PySem.W.nsMap_none_of_in X hok hni,PySem.W.tail_of_in X ht⟩
   . cases q
 . cases q
section
variable {X:Cx}{x:Str}{C:Yi}{bmB:List Yj}{B_ newId initId:String}{np cpos pos:Pos}{e:Expr}{es:List Expr}{t:TA}{E:XK}
noncomputable def Zsp(C:Yi)(E:XK)(t:TA):TS:=λ_ Z H=>t Z H λvs H1=>vs.length<=sizeLine/\E (.ref C) Wy H1
def ZnX(hR:Ziw X E)(hc:X.calm=Wz)(FB:ExcBaseFacts B_ newId initId bmB)(hg:Gl X x)(hm:X.mg x=Wx (.ref C))(hq:PySem.W.excIn X.K C bmB newId=Wz)(ha:PA X (e::es) t)
 (hdb:(x==("__debug__" : Str))=WA:=by decide) (he:YA (e::es) X.env=(WA,eval e X.env)::YA es X.env:=by rfl) (hpl:(YS cpos (YA es X.env)).any (·.1)=WA:=by rfl) :
 PS X (.Raise (Wx (.Call (.Name x np) (e::es) [] cpos)) Wy pos) (Zsp C E t):=by
 intro pins s Z H D I h;obtain⟨tl,N,nm,q,bs,hdct,sn,sub,ab,col,dd,k0,k1,k2,k3,k5,mN,hC,hN,hni,T⟩:=Zrf I.mod.kin hq;refine wpAny_Raise_call_subT (C:=C) (nm:=nm) (q:=q) (N:=N) (bs:=bs) (bm:=tl) (hdct:=hdct) (sn:=sn) (sub:=sub) (ab:=ab) (col:=col) (dd:=dd) (k0:=k0) (k1:=k1) (k2:=k2) (k3:=k3) (k5:=k5)
  FB (mN:=mN) (T.hasType FB.hasBase) (I.ok.hd hc) (by rw[he];show(WA || (YS cpos (YA es X.env)).any (·.1))=WA;rw[hpl];rfl) hni (ZcG I hg hm ⟨rfl,?_⟩ hdb)
 have h1:=ha cpos pins s Z H _ I h;rw[he]at h1 ⊢;refine Calls.evalArgs_plain (thn h1 λus s2 ⟨vs,H2,I2,r2,hl,hE⟩=>?_);exact⟨rfl,by rw[<- r2.length];exact hl,I2.bk _ _ hC,hN.keeps I2.bk,T.keeps I2.bk,λh' a hmade=>hR pins Z H2 s2 h' a _ us I2 hmade hE⟩
end
noncomputable def cxH(X:Cx)(a:Yi)(oe:Obj):Cx:={X with A:=X.A.mark (Wx (.ref a)),calm:=false,pn:=X.pn++[(a,oe)],xe:=λ_ _=>False}
noncomputable abbrev cxM(X:Cx)(a:Yi):Cx:={X with A:=X.A.mark (Wx (.ref a)),calm:=false,xe:=λ_ _=>False}
section
variable {X:Cx}{pins:List (Yi×Obj)}{Z:St}{H:Hp}{s:Yb}{a:Yi}{oe:Obj}
def Inv.toM(I:Inv X pins Z H s)(a:Yi):Inv (cxM X a) pins Z H s:=⟨⟨I.ok.mod,I.ok.kind,I.ok.glob,I.ok.blt,I.ok.above,I.ok.inj,I.ok.has,I.ok.cab,λz=>absurd z Ow,I.ok.frames,I.ok.stk,I.ok.exf,I.ok.bs,I.ok.bsz,I.ok.noex,I.ok.exfs,I.ok.funs,I.ok.frf⟩,I.os,I.bare,I.base,I.loc,I.cell,I.free,I.freeC,I.pin,I.hok,I.len⟩
def Inv.toH(I:Inv X pins Z H s)(h1:s.heap.get? a=Wx oe)(h2:H a=Wy)(h3:a≠X.env.locals)(h4:a ∉ X.fs)(h5:∀v,oe.data≠.cell v):Inv (cxH X a oe) pins Z H s:=
 ⟨⟨I.ok.mod,I.ok.kind,I.ok.glob,I.ok.blt,I.ok.above,I.ok.inj,I.ok.has,I.ok.cab,λz=>absurd z Ow,I.ok.frames,I.ok.stk,I.ok.exf,I.ok.bs,I.ok.bsz,I.ok.noex,I.ok.exfs,I.ok.funs,I.ok.frf⟩,I.os,I.bare,I.base,I.loc,I.cell,I.free,I.freeC,
  λp hp=>by
   rcases OD.mp (show p∈(X.pn++[(a,oe)])++pins from hp)with z|z
   . rcases OD.mp z with z|z
     . exact I.pin p (Ys _ z)
     . have e:p=(a,oe):=by simpa using z
       subst e;exact⟨h1,h2,h3,h4,h5⟩
   . exact I.pin p (Ov _ z),I.hok,I.len⟩
theorem Inv.ofH(I:Inv (cxH X a oe) pins Z H s)(hd:X.calm=Wz->X.A.handled=Wy):Inv X pins Z H s :=
 ⟨⟨I.ok.mod,I.ok.kind,I.ok.glob,I.ok.blt,I.ok.above,I.ok.inj,I.ok.has,I.ok.cab,hd,I.ok.frames,I.ok.stk,I.ok.exf,I.ok.bs,I.ok.bsz,I.ok.noex,I.ok.exfs,I.ok.funs,I.ok.frf⟩,I.os,I.bare,I.base,I.loc,I.cell,I.free,I.freeC,
   fun p hp=>I.pin p (by
     rcases OD.mp hp with z|z
     . exact Ys _ (Ys _ z)
     . exact Ov _ z),I.hok,I.len⟩
end
def Zjt{K:Yk}(X:K.In s.heap)(h1:PySem.W.typeIn K (.ref C2)=Wx (.type "type"))(h0:(PySem.W.clsIn K C2).isSome=Wz)
 (h2:YV K (.ref C2) (.type "BaseException")=Wx Wz) (h3:YV K (.ref C) (.ref C2)=Wx Wz) (he:s.heap.get? a=Wx oe) (hc:oe.cls=.ref C) (q:Q Wz s):YB M A (excMatches (.ref a) (.ref C2)) Q E s:=by
 have i1:PySem.W.instIn K (.ref C2) (.type "tuple")=Wx WA:=by unfold PySem.W.instIn;rw[h1];show YV K (.type "type") (.type "tuple")=Wx WA;show YV [] (.type "type") (.type "tuple")=Wx WA;decide +kernel
 have L1:=PySem.W.looks_instIn (M:=M) X i1;have L2:=PySem.W.looks_subIn (M:=M) X h2;have L3:=PySem.W.looks_subIn (M:=M) X h3;have L0:PySem.W.Looks M s.heap (isType (.ref C2)) Wz:=by
  unfold PySem.W.clsIn at h0;split at h0
  . rename_i c' d' cd' sl' ho;intro A' Q' E' s' k q;unfold isType loadHead;exact Ya (wpAny_loadPart (k _ _ (X _ _ ho)) (Yc q))
  . cases h0
 have LT:PySem.W.Looks M s.heap (typeOf (.ref a)) (.ref C):=by rw[<- hc];exact(PySem.W.Looks.ld he).andThen .now
 unfold excMatches isExcClass
 repeat (any_goals (first|assumption|lk|wp_step))
structure ExcN(K:Yk)(C2:Yi):Prop where
 ty:PySem.W.typeIn K (.ref C2)=Wx (.type "type")
 cls:(PySem.W.clsIn K C2).isSome=Wz
 exc:YV K (.ref C2) (.type "BaseException")=Wx Wz
end L2
end
section
namespace L2
open PySem PySem.Spec PyProof.Rows
def Def(P:Yh)(w:Yg)(K:Yk)(mg:Str->Option Yj)(base:YG)(k:Nat)(x:Str)(ps:List Str)(sp:Sp):Prop:=∃f fd,mg x=Wx (.ref f)/\Wh K (.ref f)=Wz/\Binds K fd ps []/\FnOk P w K mg base (CXF P w) k f fd ps sp
section
variable {X:Cx}{k:Nat}{x:Str}{ps:List Str}{sp:Sp}{E:XK}{e:Expr}{es:List Expr}{t:TA}{p pos:Pos}
noncomputable def ZwI(sp:Sp)(E:XK)(t:TA):TE:=λZ H Q=>t Z H λvs H1=>sp vs H1 Q E
def Zs4(D:Def X.prog X.w X.K X.mg X.base k x ps sp)(hr:Room k X.A)(hg:Gl X x)(hx:ZaU (CXF X.prog X.w) X E)(ha:PA X (e::es) t)
 (hdb:(x==("__debug__" : Str))=WA:=by decide) (he:YA (e::es) X.env=(WA,eval e X.env)::YA es X.env:=by rfl) (hpl:(YS pos (YA es X.env)).any (·.1)=WA:=by rfl) :
 PE X (.Call (.Name x p) (e::es) [] pos) (ZwI sp E t):=by
 obtain⟨f,fd,h1,h2,h3,h4⟩:=D;intro pins s Z H Q I h;refine Zqz h4 hr hg h1 h2 h3 .nil hx ha hdb he hpl pins s Z H Q I ?_;have z:t Z H λvs H1=>sp vs H1 Q E:=h;show t Z H λvs H1=>sp (vs++[]) H1 Q E;simpa only[Yt]using z
end
end L2
end
section
namespace L2
open PySem PySem.Spec PyProof.Rows
section
variable {X:Cx}{pins:List (Yi×Obj)}{Z:St}{H:Hp}{s:Yb}{h':YG}
def Zl0{ch:List Yi}(hf:∀b∈ch,Zbt X pins H b):∀b∈ch,(b∈X.ex\/X.s₀.heap.objs.size<=b)/\b≠X.env.locals/\(∀x c,X.env.cells.lookup x=Wx c->c≠b)/\∀p∈X.pn++pins,p.1≠b:=λb hb=>by obtain⟨_,f1,_,f3,f4,f5⟩:=hf b hb;exact⟨f3,f1,f4,f5⟩
def Inv.turnL{t':Nat}{ch:List Yi}(I:Inv X pins Z H s)(hf:∀b∈ch,Zbt X pins H b)(k:∀b o,b ∉ ch->s.heap.get? b=Wx o->h'.get? b=Wx o):Inv X pins Z H {s with heap:=h',toks:=t'}:=by
 have nit:∀b u,H b=Wx u->b ∉ ch:=λb u e z=>by rw[(hf b z).1]at e;cases e
 refine I.step (g':=s.gens) (d':=s.drawn) (ch:=ch) (Zl0 hf) (λb o _ _ hc e _=>k b o hc e) (λb o _ _ hc e _=>⟨o.slots,k b o hc e⟩) (λ_ _ _ _ n=>n)
  (λb o hc e=>⟨o,k b o hc e⟩) (λ_ _ e=>e) (λ_ _ _ e=>e) (λb ps e=>⟨#[],by rw[e];simp⟩) (λm hm=>?_) (λb u e=>?_) I.bare
 . obtain⟨o,es,ep,ho,r⟩:=hm;exact⟨o,es,ep,k _ o (λz=>(hf _ z).2.1 rfl) ho,r⟩
 . refine(I.hok b u e).stay (λc v hc q=>k c v ?_ q) (λ_ q=>q) λ_ _ q=>q;rcases hc with z|z
   . rw[z];exact nit b u e
   . exact nit c _ z
def Inv.turnT{t':Nat}{ch:List Yi}{us:List Yj}(I:Inv X pins Z H s)(hf:∀b∈ch,Zbt X pins H b)(k:∀b o,b ∉ ch->s.heap.get? b=Wx o->h'.get? b=Wx o)
 (hT:s.heap.objs.size<=T) (tup:Zbn h' T us.toArray) (rv:Zn vs us) (hz:vs.length<=sizeLine):Inv X pins Z (upd H T (.tup vs)) {s with heap:=h',toks:=t'}:=by
 have nit:∀b u,H b=Wx u->b ∉ ch:=λb u e z=>by rw[(hf b z).1]at e;cases e
 have neT:∀b o,s.heap.get? b=Wx o->b≠T:=λb o e=>Ou (O4 (Yn e) hT);have hTn:H T=Wy:=I.hok.fresh hT;refine I.step (g':=s.gens) (d':=s.drawn) (ch:=ch) (Zl0 hf) (λb o _ _ hc e _=>k b o hc e) (λb o _ _ hc e _=>⟨o.slots,k b o hc e⟩) (λb o _ e n=>by rw[Zg (neT b o e)];exact n)
  (λb o hc e=>⟨o,k b o hc e⟩) (λb xs e=>by rw[Zg (ZP e hTn)];exact e) (λb o u e=>by rw[Zg (ZP e hTn)];exact e) (λb ps e=>⟨#[],by rw[Zg (ZP e hTn),e];simp⟩) (λm hm=>?_) (λb u e=>?_) I.bare
 . obtain⟨o,es,ep,ho,r⟩:=hm;exact⟨o,es,ep,k _ o (λz=>(hf _ z).2.1 rfl) ho,r⟩
 . by_cases hb:b=T
   . subst hb;rw[Zi]at e;cases e;exact⟨hz,us,rv,tup⟩
   . rw[Zg hb]at e;refine(I.hok b u e).stay (λc v hc q=>k c v ?_ q) (λc q=>by rw[Zg (ZP q hTn)];exact q) λc xs q=>by rw[Zg (ZP q hTn)];exact q
     rcases hc with z|z
     . rw[z];exact nit b u e
     . exact nit c _ z
end
noncomputable def Ite(K:Yk)(a:Yi):It:=⟨λi H=>∃xs x,SqL K H a xs/\xs[i]? = Wx x,λi H v H'=>∃p,v=.ref p/\H p=Wy/\∃x,(∀xs,SqL K H a xs->xs[i]? = Wx x)/\H'=upd H p (.tup [.int i,x]),λi H=>∃xs,SqL K H a xs/\xs.length=i⟩
def Zmh{P:Yh}{w:Yg}{K:Yk}{es:List Expr}{kk:Nat}{tp:Pos}(a it e:Yi)(hei:e≠it)(hae:a≠e)(hai:a≠it):
 Turn P w K (.Tuple es kk tp) (Ite K a) [e,it] e (λi h=>(∃old,IsEnum h e it i old)/\h.IsListIter it a i) where
 mem:=by simp
 obj:=λi h st b hb=>by
  obtain⟨⟨old,he⟩,o,e1,c,d⟩:=st;rcases O3.mp hb with rfl|hb
  . exact⟨_,he,λv z=>by cases z⟩
  . have e2:b=it:=by simpa using hb
    subst e2;exact⟨o,e1,λv z=>by rw[d]at z;cases z⟩
 keep:=λi h h' st k=>by obtain⟨⟨old,he⟩,st⟩:=st;exact⟨⟨old,k e (by simp) _ he⟩,st.at λo z=>k it (by simp) o z⟩
 item:=by
  intro X hP hw hK hc i pins s Z H E I hf st hg;subst hP hw hK;obtain⟨xs,x,hq,hx⟩:=hg;obtain⟨its,rv,p,hz⟩:=I.list hq;have hl:=rv.length;have hi:i<xs.length:=(Ob.mp hx).1;have W:=WalksT.enumerate (prog:=X.prog) (w:=X.w) (I.ok.hd hc) e it a hei hae hai its.toArray;have itm:∀(Q':Option Yj->Yb->Prop) (E':Yj->Yb->Prop),(∀T vals h' tk,(∃t x,its.toArray[i]? = Wx x/\vals=#[.int i t,x])->s.heap.objs.size<=T->Zbn h' T vals ->
   ((∃x,IsEnumOut h' e it ((i:Int)+1) x T)/\h'.IsListIter it a (i+1)/\h'.IsList a its.toArray/\T≠e/\T≠it)->(∀b o,b ∉ [e,it]->s.heap.get? b=Wx o->h'.get? b=Wx o)->Q' (Wx (.ref T)) {s with heap:=h',toks:=tk}) ->
   YB (model X.prog X.w) X.A (pyNext (.ref e)) Q' E' s:=by
   intro Q' E' hQ;obtain⟨⟨old,he⟩,hit⟩:=st;have hx2:its.toArray[i]? = Wx (its.toArray[i]'(by simp;lia)):=Array.getElem?_eq_getElem (by simp;lia);refine wpAny_pyNext_enum_item he hit p.isList hx2 hei λh' ho hit' hT hsz hk=>?_;have e1:e<s.heap.objs.size:=Yn he;have e2:it<s.heap.objs.size:=by obtain⟨_,z,_⟩:=hit;exact Yn z
   exact hQ s.heap.objs.size _ h' (s.toks+1) ⟨_,_,hx2,rfl⟩ (Oq _) ⟨_,hT,rfl,rfl,_,rfl⟩ ⟨⟨_,ho⟩,hit',p.isList.at λo z=>hk a o hae hai z,Nat.ne_of_gt e1,Nat.ne_of_gt e2⟩
    λb o hb z=>hk b o (λe'=>hb (by simp[e'])) (λe'=>hb (by simp[e'])) z
  refine itm _ _ λT vals h1 tk hP hT tup mid kk=>?_;refine⟨_,rfl,W.go _ _ _ i T {s with heap:=h1,toks:=tk} _ _ mid λh2 st2 kk2=>?_⟩;obtain⟨t,y,hy,rfl⟩:=hP;have hy':its[i]? = Wx y:=by simpa using hy
  obtain⟨u,hu,ru⟩:=rv.get hx;rw[hy']at hu;cases hu;have hTw:T ∉ [e,it]:=W.apart i T h1 mid;have tup2:Zbn h2 T #[.int i t,y]:=by obtain⟨o,q,r⟩:=tup;exact⟨o,kk2 T o hTw q,r⟩
  have I2:Inv X pins Z (upd H T (.tup [.int i,x])) {s with heap:=h2,toks:=tk}:=I.turnT hf (λb o hb q=>kk2 b o hb (kk b o hb q)) hT (us:=[.int i t,y]) tup2 (.cons ⟨t,rfl⟩ (.cons ru .nil)) (by show 2<=sizeLine;decide);refine⟨.ref T,_,I2,rfl,⟨T,rfl,I.hok.fresh hT,x,λys hy=>by rw[I.list_inj hy hq];exact hx,rfl⟩,⟨st2.1,st2.2.1⟩,λb hb=>?_⟩;have neb:b≠T:=λz=>hTw (by rw[<- z];exact hb);rw[Zg neb];exact(hf b hb).1
 done:=by
  intro X hP hw hK hc i pins s Z H E I hf st hg;subst hP hw hK;obtain⟨xs,hq,hx⟩:=hg;obtain⟨its,rv,p,hz⟩:=I.list hq;have hl:=rv.length;have W:=WalksT.enumerate (prog:=X.prog) (w:=X.w) (I.ok.hd hc) e it a hei hae hai its.toArray;have e1:its.toArray.size=i:=by simp;lia
  refine W.done s _ _ ?_ λh1 tk kk=>⟨rfl,I.turnL hf kk⟩
  rw[e1];exact⟨st.1,st.2,p.isList⟩
 self:=λA i s Q E st h=>by obtain⟨⟨old,he⟩,_⟩:=st;exact wpAny_pyIter_enum he h
noncomputable def ZvO(K:Yk)(ta:TA):TI:=λZ H R=>ta Z H λvs H1=>∃a,vs=[.ref a]/\(∃xs,SqL K H1 a xs)/\R (Ite K a) H1
def Zqr{X:Cx}{es:List Expr}{kk:Nat}{tp:Pos}{l:Expr}{ta:TA}{p pos:Pos}(hg:Gl X "enumerate")(hm:X.mg "enumerate" = Wy)(ha:PA X [l] ta)(hs:YA [l] X.env=[(WA,eval l X.env)]:=by rfl):
 PI X (.Tuple es kk tp) (.Call (.Name "enumerate" p) [l] [] pos) (ZvO X.K ta):=by
 intro pins s Z H R I h;refine Call_ (Zde I hg hm boot_enumerate (PyProof.Rows.callWith_type1 (thn (ha pos pins s Z H _ I h) λus s1 ⟨vs,H1,I1,r1,q1⟩=>?_) hs rfl));obtain⟨a,rfl,⟨xs,hq⟩,q⟩:=q1;obtain⟨u,rfl,ru⟩:=vals1 r1;obtain rfl:u=YD a:=ru;obtain⟨its,rv,pl,hz⟩:=I1.list hq;have hlt:a<s1.heap.objs.size:=by obtain⟨_,_,e,_⟩:=pl;exact Yn e
 refine call_enumerate_list pl.isList λh' he hi hsz kk=>?_;refine wpAny_pyIter_enum he ?_;refine⟨s1.heap.objs.size+1,[s1.heap.objs.size+1,s1.heap.objs.size],_,_,H1,rfl,I1.kept (t':=s1.toks) kk,Zmh a s1.heap.objs.size (s1.heap.objs.size+1) (Nat.succ_ne_self _) (Ou (Nat.lt_succ_of_lt hlt)) (Ou hlt),⟨⟨_,he⟩,hi⟩,λb hb=>?_,q⟩;rcases O3.mp hb with rfl|hb
 . exact I1.fpOk (Wo _) (I1.hok.fresh (Wo _))
 . have e:b=s1.heap.objs.size:=by simpa using hb
   subst e;exact I1.fpOk (Oq _) (I1.hok.fresh (Oq _))
end L2
end
section
namespace L2
open PySem PySem.Spec PyProof.Rows
def body_of(h:PSs X b t)(r:t D Z H):∃t,PSs X b t/\t D Z H:=⟨t,h,r⟩
def Zad:RelV (.str x) (.str x t):=⟨t,rfl⟩
def Zy:RelV (.int x) (.int x t):=⟨t,rfl⟩
def Z1:RelV (.ref a) (.ref a):=rfl
end L2
end
section
namespace L2
open PySem PySem.Spec PyProof.Rows
def isSome_of{K:Yk}(h:PySem.W.isClsIn K C=Wz):(PySem.W.clsIn K C).isSome=Wz:=h
end L2
end
section
namespace L2
open PySem PySem.Spec PyProof.Rows
def DkK(P:Yh)(w:Yg)(K:Yk)(a:Yi)(kvs:List (Key×V)):Prop:=∃(o:Obj) (es:Array DictEntry) (ep:Nat) (vs:List (Key×Yj)),K.lookup a=Wx o/\o.ExactDict/\o.data=.dict es ep/\KeysOf (ZJ P w) es/\Pairs (ZJ P w) es.toList vs/\(vs.map (·.1)).Nodup/\KV kvs vs/\kvs.length<=sizeLine/\(a==Ye)=WA
def Dk(P:Yh)(w:Yg)(K:Yk)(H:Hp)(a:Yi)(kvs:List (Key×V)):Prop:=Rd H a (.dK kvs)\/DkK P w K a kvs
section
variable {X:Cx}{pins:List (Yi×Obj)}{Z:St}{H:Hp}{s:Yb}{a:Yi}
def Inv.dk(I:Inv X pins Z H s)(h:Dk X.prog X.w X.K H a kvs):kvs.length<=sizeLine/\(a==Ye)=WA/\∃vs,KV kvs vs/\s.heap.DictOf (ZJ X.prog X.w) a vs:=by
 rcases h with h|⟨o,es,ep,vs,lk,ex,da,ks,ps,nd,kv,z,hm⟩
 . exact ZrW I.hok h
 . exact⟨z,hm,vs,kv,o,es,ep,I.kIn a o lk,ex,da,ks,ps,nd⟩
noncomputable def Zu2(P:Yh)(w:Yg)(K:Yk)(neg:Bool):R2:=λx y H Q=>∃a kvs k,y=.ref a/\x=kV k/\Dk P w K H a kvs/\Q (.bl (if neg then !(Zeg kvs k).isSome else(Zeg kvs k).isSome)) H
def Ztc:OpR X (YM .In) (Zu2 X.prog X.w X.K WA):=by intro pins s Z H x y v u Q I rx ry h;obtain⟨a,kvs,k,rfl,rfl,hd,q⟩:=h;cases ry;obtain⟨z,hm,vs,rel,dd⟩:=I.dk hd;refine wpAny_in_of (Zjk rx) hm dd.mapOf ?_;rw[<- (rel.val k).isSome_eq];exact⟨.bl _,H,I.tok _,rfl,q⟩
def ZmE:OpR X (YM .NotIn) (Zu2 X.prog X.w X.K Wz):=by intro pins s Z H x y v u Q I rx ry h;obtain⟨a,kvs,k,rfl,rfl,hd,q⟩:=h;cases ry;obtain⟨z,hm,vs,rel,dd⟩:=I.dk hd;refine wpAny_notIn_of (Zjk rx) hm dd.mapOf ?_;rw[<- (rel.val k).isSome_eq];exact⟨.bl _,H,I.tok _,rfl,q⟩
noncomputable def Zw1(P:Yh)(w:Yg)(K:Yk):R2:=λx y H Q=>∃a kvs k v,x=.ref a/\y=kV k/\Dk P w K H a kvs/\Zeg kvs k=Wx v/\Q v H
def Zq6:IxR X (Zw1 X.prog X.w X.K):=by intro value slice pins s Z H x y v u Q I rx ry h hs;obtain⟨a,kvs,k,z,rfl,rfl,hd,hv,q⟩:=h;cases rx;obtain⟨_,hm,vs,rel,dd⟩:=I.dk hd;obtain⟨w',hw,rw'⟩:=ZeH.some_of (v:=z) (o:=valueAt vs k) (by rw[<- hv];exact rel.val k);exact subscriptTail_builtinR (x:=w') dd.typeIs PySem.F.slot_dict_getitem.lookup (wpAny_getItem_of (Zjk ry) dd.mapOf hw ⟨rfl,z,H,I.tok _,rw',q⟩) hs
def Zv2(I:Inv X pins Z H s)(e:H a=Wx (.dK kvs))(l:kvs.length<sizeLine)(ry:RelV (kV k) u)(rv:RelV v r)
 (h:∀s',Inv X pins Z (upd H a (.dK (putK kvs k v))) s'->Q () s'):YB (model X.prog X.w) A (setItem (.ref a) u r) Q E s:=by
 obtain⟨z,hd,vs,rel,dd⟩:=ZrX I.hok e;have hz:vs.length<=sizeLine:=by rw[<- rel.length];exact z
 have hl:(putK kvs k v).length<=sizeLine:=by have:=Zfa kvs k v;lia
 refine wpAny_setItem_pairs (hsz:=hz) (Zjk ry) dd λh' dd' hs=>h _ ?_;have he:∃q,h'.get? a=Wx q:=let ⟨q,_,_,hq,_⟩:=dd';⟨q,hq⟩;exact Zl5 I (by rw[e];exact True.intro) hs he (Zpg hl hd (rel.put k rv) dd')
noncomputable def ZuQ:ZpA:=λo i v H Q=>∃a kvs k,o=.ref a/\i=kV k/\H a=Wx (.dK kvs)/\kvs.length<sizeLine/\Q (upd H a (.dK (putK kvs k v)))
def set_dict:Zry X ZuQ:=by intro pins s Z H o i v ov iv u Q I ro ri rv h;obtain⟨a,kvs,k,rfl,rfl,e,l,q⟩:=h;cases ro;exact Zv2 I e l ri rv λs' I'=>⟨_,I',q⟩
end
end L2
end
section
set_option tactic.hygienic false
namespace L2
open PySem PySem.Spec PyProof.Rows
section
variable {X:Cx}{elt tg iter:Expr}{ifs:List Expr}{scope sc:Scope}{pos:Pos}{NC:List Str}{js:List (Option Nat)}{k:Nat}{wi:TI}{g:TG}{tc:TT}{te:TE}
def Zke(hN:X.N.Nodup)(hy:X.N[i0]? = Wx y)(hx:Loc X.env.scope y)(hf:X.fn y=Wz\/X.env.scope.names.lookup y=Wx .local)(S_:CompSc NC X.N js sc scope)(hsc:X.env.scope=sc)(hc:X.calm=Wz)(hi:PI X tg iter wi)
 (hb:∀(pins:List (Yi×Obj)) (Z:St) (C:Yi) (s3:Yb) (H3:Hp) (fp:List Yi),Inv X pins Z H3 s3->(∀b∈fp,Zbt X pins H3 b)->C=s3.heap.objs.size->PG (ZA X NC scope C s3 H3 fp) tg g/\PIf (ZA X NC scope C s3 H3 fp) ifs tc/\PE (ZA X NC scope C s3 H3 fp) elt te)
 (hk:Znd k g) (hjk:∀j,j<k->js[j]? = Wx Wy) (hs:∀x,foldedSetIterable iter X.env x=pure x:=by intro _;rfl) (hsw:swapsWith (.ListComp elt [⟨tg,iter,ifs,0⟩] scope pos) (Wx (.Name y py)) spos.line X.env=pure Wz:=by rfl) :
 PS X (.Assign [.Name y py] (.ListComp elt [⟨tg,iter,ifs,0⟩] scope pos) spos) (Znu (ZrG wi js g tc te) (Zdg i0)):=by
 intro pins s Z H D0 I h;have hcells:∀y∈scope.names,y.2=.free->∃c,X.env.cells.lookup y.1=Wx c:=λy hy hf=>I.ok.has y.1 (.inl (show X.env.scope.names.lookup y.1=Wx .cell by rw[hsc];exact S_.free y hy hf));rw[exec_Assign_Name_used _ _ _ _ hsw];refine Ya (wpAny_standAt (Ya ?_));show YB _ X.A (do let _ <- comprehension (.ListComp elt [⟨tg,iter,ifs,0⟩] scope pos) scope X.env _ (newList []) WA (eval iter X.env) (Wx (assign (.Name y py) X.env))) _ _ s;refine Ya (Yf (wpAny_comprehension_free (use:=Wx (assign (.Name y py) X.env)) (Q:=λ_ s'=>SP X pins D0 .next s') rfl hs (Zd0 hcells) S_.kind S_.locs (thn (hi pins s Z H _ I h) λxv s1 h1=>thn h1 λitv s2 h2=>?_)) (λ_ s' hq=>Yc (Yc hq)) λ_ _ e=>e);obtain⟨it,fp,tn,J,H2,e,I2,T,st2,f2,rest⟩:=h2;subst e;have hD:H2 s2.heap.objs.size=Wy:=I2.hok.fresh (Oq _);obtain⟨W,⟨m0,w0⟩,turn⟩:=rest s2.heap.objs.size hD;refine Yr (wpAny_newFunctionEnv S_.nocell (by intro y hy;simp at hy) (λh4 hns hsb=>?_) S_.kind);have I3:Inv X pins Z (upd H2 s2.heap.objs.size (.lst [])) {s2 with heap:=s2.heap.push {cls:=.type "list",dict:=Wy,data:=.seq ([]:List Yj).toArray}}:=I2.lnew (t':=s2.toks) (ys:=[]) (its:=[]) .nil (Yy _);dsimp only at hns hsb ⊢;generalize hs3:({s2 with heap:=s2.heap.push {cls:=.type "list",dict:=Wy,data:=.seq ([]:List Yj).toArray}}:Yb)=s3 at I3;have eh:s2.heap.push {cls:=.type "list",dict:=Wy,data:=.seq ([]:List Yj).toArray}=s3.heap:=by rw[<- hs3]
 have eD:s2.heap.objs.size<s3.heap.objs.size:=by rw[<- eh,Heap.size_push];exact OH _
 rw[eh]at hns hsb;have keep:∀b o,s3.heap.get? b=Wx o->h4.get? b=Wx o:=λb o e=>(hsb.2 b (Ou (Yn e))).trans (O1 _ e);have fpl:∀b∈fp,∃o,s3.heap.get? b=Wx o:=λb hb=>by obtain⟨o,e,_⟩:=T.obj 0 _ st2 b hb;exact⟨o,by rw[<- eh];exact O1 _ e⟩
 have neD:∀b∈fp,b≠s2.heap.objs.size:=λb hb=>by obtain⟨o,e,_⟩:=T.obj 0 _ st2 b hb;exact Ou (Yn e)
 have f3:∀b∈fp,Zbt X pins (upd H2 s2.heap.objs.size (.lst [])) b:=λb hb=>⟨by rw[Zg (neD b hb)];exact(f2 b hb).1,(f2 b hb).2⟩
 have I4:=Zjn (tk:=s2.toks+([]:List (Str×Yj)).length) S_ hsc hc I3 f3 fpl rfl hns keep;have st4:tn 0 h4:=T.keep 0 _ _ st2 λb hb o e=>keep b o (by rw[<- eh];exact O1 _ e);have eC:(s2.heap.push {cls:=.type "list",dict:=Wy,data:=.seq ([]:List Yj).toArray}).objs.size=s3.heap.objs.size:=by rw[eh]
 have loop:∀s4:Yb,s4={s3 with heap:=h4,toks:=s2.toks+([]:List (Str×Yj)).length} ->
  codeAny (model X.prog X.w) X.A (.compLoop (.ListComp elt [⟨tg,iter,ifs,0⟩] scope pos) 0 (.ref it) (.ref s2.heap.objs.size) (compEnvC scope (Zdn X.env scope.names []) s3.heap.objs.size X.env))
   (compPost (model X.prog X.w) X.A X.xe (Wx (assign (.Name y py) X.env)) (λ_ s'=>SP X pins D0 .next s') (.ref s2.heap.objs.size) s3.heap.objs.size) s4:=by
  rintro s4 rfl;refine Zho (Q:=λx H1=>Zdg i0 x Z H1 D0.nx) hb hk hjk rfl I3 f3 fpl I4 T st4 Zi w0 turn (λs6 H5 I6 qn=>?_) (λ_ _ z=>z);obtain⟨m,hm,_⟩:=I6.loc;have Io:Inv X pins Z H5 s6:=I3.comp_out (h'':=s6.heap) f3 rfl I6 ⟨rfl,λ_ _=>rfl⟩;have fC:Zbt X pins H5 s3.heap.objs.size:=I3.fpOk (Oq _) I6.free;show YB _ X.A (assign (.Name y py) X.env (.ref s2.heap.objs.size)) _ _ _;refine wpAny_assign_Name (Zg1 Io hN hy hx (v:=.ref s2.heap.objs.size) rfl (λs8 I8 ⟨a8,sb8,ha8⟩=>?_) hf);have ne8:s3.heap.objs.size≠a8:=λz=>by
   rcases ha8 with e|e
   . exact fC.2.1 (z.trans e)
   . exact fC.2.2.2.2.1 _ _ e z.symm
  refine⟨m,hm.sameBut sb8 ne8,λh' hs'=>?_⟩;exact⟨_,H5,I8.turnL (t':=s8.toks) (ch:=[s3.heap.objs.size]) (λb hb=>by rw[Ox.mp hb];exact fC) (λb o hb e=>(hs'.2 b (λz=>hb (by rw[z];exact List.mem_singleton_self _))).trans e),qn⟩
 have e4:({s2 with heap:=h4,toks:=s2.toks+([]:List (Str×Yj)).length}:Yb)={s3 with heap:=h4,toks:=s2.toks+([]:List (Str×Yj)).length}:=by rw[<- hs3]
 rw[eC];exact codeAny_compStart_list (loop _ e4) (T.self X.A 0 _ _ _ st4 (loop _ e4))
end
end L2
end
section
namespace L2
open PySem PySem.Spec PyProof.Rows
mutual
inductive Dp(K:Yk)(H:Hp):V->PyData->Prop
 |non:Dp K H .non .none
 |bl (b:Bool):Dp K H (.bl b) (.bool b)
 |int (i:Int):Dp K H (.int i) (.int i)
 |str (x:Str) (ok:Yp x=Wz):Dp K H (.str x) (.str x)
 |lst {a:Yi}{xs:List V}{ds:List PyData}:SqL K H a xs->Dps K H xs ds->Dp K H (.ref a) (.list ds)
 |tup {a:Yi}{xs:List V}{ds:List PyData}:SqT K H a xs->Dps K H xs ds->Dp K H (.ref a) (.tuple ds)
inductive Dps(K:Yk)(H:Hp):List V->List PyData->Prop
 |nil:Dps K H [] []
 |cons {v:V}{vs:List V}{d:PyData}{ds:List PyData}:Dp K H v d->Dps K H vs ds->Dps K H (v::vs) (d::ds)
end
section
variable {K:Yk}{H H':Hp}
mutual
theorem Dp.lay:∀{v:V}{d:PyData},Dp K H v d->d.canLay0=Wz
 |_,_,.non=>rfl
 |_,_,.bl b=>rfl
 |_,_,.int i=>rfl
 |_,_,.str x ok=>ok
 |_,_,.lst h r=>Dps.lay r
 |_,_,.tup h r=>Dps.lay r
theorem Dps.lay:∀{v:List V}{d:List PyData},Dps K H v d->PyData.canLayAll0 d=Wz
 |_,_,.nil=>rfl
 |_,_,.cons h r=>by rw[PyData.canLayAll0,Dp.lay h,Dps.lay r];rfl
end
end
section
variable {X:Cx}{pins:List (Yi×Obj)}{Z:St}{H:Hp}{s:Yb}
mutual
theorem Inv.reads(I:Inv X pins Z H s):∀{v:V}{d:PyData}{u:Yj},Dp X.K H v d->RelV v u->∃as,Reads s.heap u d as
 |_,_,_,.non,r=>by cases r;exact⟨_,.none⟩
 |_,_,_,.bl b,r=>by cases r;exact⟨_,.bool b⟩
 |_,_,_,.int i,r=>by obtain⟨t,rfl⟩:=r;exact⟨_,.int i t⟩
 |_,_,_,.str x ok,r=>by obtain⟨t,rfl⟩:=r;exact⟨_,.str x t⟩
 |_,_,_,.lst h rs,r=>by cases r;obtain⟨its,rv,⟨o,n,e,c,_,dd⟩,_⟩:=I.list h;obtain⟨as,q⟩:=Inv.readsAll I rs rv;exact⟨_,.list e c dd (by simpa using q)⟩
 |_,_,_,.tup h rs,r=>by cases r;obtain⟨its,rv,⟨o,e,c,n,dd⟩,_⟩:=I.tuple h;obtain⟨as,q⟩:=Inv.readsAll I rs rv;exact⟨_,.tuple e c dd (by simpa using q)⟩
theorem Inv.readsAll(I:Inv X pins Z H s):∀{v:List V}{d:List PyData}{u:List Yj},Dps X.K H v d->Zn v u->∃as,ReadsAll s.heap u d as
 |_,_,_,.nil,r=>by cases r;exact⟨_,.nil⟩
 |_,_,_,.cons h rs,r=>by
  cases r with
  |cons r1 r2=>obtain⟨as,q⟩:=Inv.reads I h r1;obtain⟨bs,q2⟩:=Inv.readsAll I rs r2;exact⟨_,.cons q q2⟩
end
end
end L2
end
section
set_option tactic.hygienic false
namespace L2
open PySem PySem.Spec PyProof.Rows
namespace Rv
def own:Manifest.owners.lookup (String.ofList ['d','e','s','r','e','v','e','r'].reverse)=Wx Manifest.sig_reversed:=by kernel_rfl
def next:Slot "reversed" "__next__" "reversed.__next__" :=
 .of (owner := "reversed") (n := "__next__") (by rw[typeLookup_type,builtinLookup_eq_fast]<;>kernel_rfl) (by decide +kernel) (by decide +kernel) (by decide +kernel) (by first|exact .inl (by decide +kernel)|exact .inr (by decide +kernel)) (by rw[isSubtype_type]<;>kernel_rfl)
def ZrU:entryFor table "reversed.__next__" = Wx Builtin.«reversed.__next__»:=entryFor_of_tree (by kernel_rfl)
def Zr8(a:Yj):argsOk "reversed.__next__" ⟨[a],[]⟩:=by unfold argsOk;rw[signature?_of (id := "reversed.__next__") (n:=['_','_','t','x','e','n','_','_']) (o:=['d','e','s','r','e','v','e','r']) (by kernel_rfl) own];kernel_rfl
def iter:Slot "reversed" "__iter__" "reversed.__iter__" :=
 .of (owner := "reversed") (n := "__iter__") (by rw[typeLookup_type,builtinLookup_eq_fast]<;>kernel_rfl) (by decide +kernel) (by decide +kernel) (by decide +kernel) (by first|exact .inl (by decide +kernel)|exact .inr (by decide +kernel)) (by rw[isSubtype_type]<;>kernel_rfl)
def Zwe(a:Yj):argsOk "reversed.__iter__" ⟨[a],[]⟩:=by unfold argsOk;rw[signature?_of (id := "reversed.__iter__") (n:=['_','_','r','e','t','i','_','_']) (o:=['d','e','s','r','e','v','e','r']) (by kernel_rfl) own];kernel_rfl
def Zv0:entryFor table "reversed.__iter__" = Wx Builtin.«dict_keyiterator.__iter__» :=entryFor_alias (id' := "dict_keyiterator.__iter__") (by kernel_rfl) (by first|rfl|decide +kernel|(unfold String.splitOn;simp +decide [String.splitOnAux])) (by decide +kernel) (by kernel_rfl)
def Zvo:typeLookup (.type "tuple") "__reversed__" = pure Wy:=by rw[typeLookup_type,builtinLookup_eq_fast]<;>kernel_rfl
def ZpU:isSubtype (.type "reversed") (.type "reversed")=pure Wz:=by rw[isSubtype_type]<;>kernel_rfl
def init:Slot "reversed" "__init__" "object.__init__" :=
 .of (owner := "object") (n := "__init__") (by rw[typeLookup_type,builtinLookup_eq_fast]<;>kernel_rfl) (by decide +kernel) (by decide +kernel) (by decide +kernel) (by first|exact .inl (by decide +kernel)|exact .inr (by decide +kernel)) (by rw[isSubtype_type]<;>kernel_rfl)
def called:TypeCalled "reversed" "reversed.__new__" "object.__init__" := ⟨by decide +kernel,F.create_reversed,⟨_,_,F.mro_reversed⟩,F.made_reversed,by decide +kernel,ZpU,init⟩
noncomputable def obj(l:Yi)(i:Int):Obj:={cls:=.type "reversed",data:=.fields #[.ref l,rawInt i]}
def Is(h:YG)(a l:Yi)(i:Int):Prop:=∃o,h.get? a=Wx o/\o.cls=.type "reversed" /\ o.data=.fields #[.ref l,rawInt i]
section
variable {prog:Yh}{w:Yg}{A:YH}{E:Yj->Yb->Prop}{s:Yb}
def Is.typeIs(x:Is s.heap a l i):s.TypeIs (.ref a) "reversed" := let ⟨o,ho,hc,_⟩:=x;⟨o,ho,hc⟩
def Is.at(x:Is h a l i)(e:∀o,h.get? a=Wx o->h'.get? a=Wx o):Is h' a l i:=let ⟨o,ho,r⟩:=x;⟨o,e _ ho,r⟩
def new(hl:IsTup s.heap l items)(hz:items.size<=sizeLine)
 (h:Q (.ref s.heap.objs.size) {s with heap:=s.heap.push (obj l ((items.size:Int) - 1)),toks:=s.toks+1+1}) :
 codeAny (model prog w) A (.call (.builtin "reversed.__new__") ⟨[.type "reversed",.ref l],[]⟩) (wants Q E) s:=by
 have hfit:(items.size:Int)<2 ^ 63:=by have:=ZcF;lia
 refine codeAny_of_tree ?_;show YB _ A.in1 (do checkBuiltinCall "reversed.__new__" ⟨[.type "reversed",.ref l],[]⟩;again (.builtin "reversed.__new__" ⟨[.type "reversed",.ref l],[]⟩)) _ _ s;refine Ya (Wr (F.newCall_reversed_1 _) (Yc ⟨plainId_quiet F.plain_reversed_new _,codeAny_builtin F.entry_reversed_new ?_⟩));rw[Around.under_plainId F.plain_reversed_new _];unfold Builtin.«reversed.__new__»;refine Ya (Wr (newClass_reversed _) ?_)
 try dsimp only
 refine Ya (Wr (a:=()) (by first|rfl|kernel_rfl) (Ya (Wr (a:=()) (by first|rfl|kernel_rfl) ?_)))
 try dsimp only
 refine Ya (wpAny_specialOf hl.typeIs Zvo ?_)
 try dsimp only
 refine Ya ?_;show YB _ _ (isInstance (.ref l) (.type "dict") >>= λb=>_) _ _ s;refine Ya (wpAny_isInstance hl.typeIs F.sub_tuple_dict ?_);show YB _ _ (specialOf (.ref l) "__getitem__" >>= λb=>_) _ _ s;refine Ya (wpAny_specialOf hl.typeIs slot_tuple_getitem.lookup ?_);refine Wr (a:=true) (by rfl) ?_;show YB _ _ (call (.builtin "len") [.ref l] >>= λb=>_) _ _ s;refine Ya (len_tuple hl hfit ?_);show YB _ _ (asInt? (.int _ _) >>= λb=>_) _ _ _;refine Ya (Yc ?_);show YB _ _ (newObj (.type "reversed") (.fields #[.ref l,rawInt ((items.size:Int) - 1)]) >>= λb=>_) _ _ _;exact Ya (Yr (Yc h))
theorem call(hl:IsTup s.heap l items)(hz:items.size<=sizeLine)
 (h:Q (.ref s.heap.objs.size) {s with heap:=s.heap.push (obj l ((items.size:Int) - 1)),toks:=s.toks+1+1}):YB (model prog w) A (PySem.call (.type "reversed") [.ref l]) Q E s:=by
 refine callType_codes called (F.typeCall_reversed_1 _) F.entry_object_init (new (Q:=λo s1=>o=.ref s.heap.objs.size/\s1={s with heap:=s.heap.push (obj l ((items.size:Int) - 1)),toks:=s.toks+1+1}) hl hz ⟨rfl,rfl⟩) ?_;rintro _ _ ⟨rfl,rfl⟩;have hT:Shared.TypeIs {s with heap:=s.heap.push (obj l ((items.size:Int) - 1)),toks:=s.toks+1+1} (.ref s.heap.objs.size) "reversed" := ⟨_,Oj _ rfl,rfl⟩
 refine⟨hT,F.args_object_init_2 _ _,?_⟩;exact object_init_meets init.lookup F.made_reversed (by decide) prog w _ _ _ ⟨hT,rfl,h⟩
def next_item{it l:Yi}{i:Nat}{Q:Option Yj->Yb->Prop}(hit:Is s.heap it l (i:Int))(hl:IsTup s.heap l items)(hz:items.size<=sizeLine)(hx:items[i]? = Wx x)
 (hQ:∀h' t',Is h' it l ((i:Int) - 1)->Heap.SameBut it s.heap h'->Q (Wx x) {s with heap:=h',toks:=t'}):YB (model prog w) A (pyNext (.ref it)) Q E s:=by
 obtain⟨o,ho,hc,hd⟩:=id hit;have hi:i<items.size:=by have:=(Array.getElem?_eq_some_iff.mp hx).1;exact this
 have l63:=ZcF;unfold pyNext;refine Ya (wpAny_attempt (Wf (name:=O "__next__") hit.typeIs next (Wj next hit.typeIs ZrU ?_ (Zr8 _))));unfold Builtin.«reversed.__next__»;refine Ya (Wr (a:=(YD it,[])) rfl ?_)
 try dsimp only
 refine Ya (YR ho hd (x:=.ref l) rfl (Ya (YR ho hd (x:=rawInt (i:Int)) rfl ?_)));show YB _ _ (if (i:Int)<0 then _ else _) _ _ s;rw[if_neg (by lia)];show YB _ _ (specialOf (.ref l) "__getitem__" >>= λb=>_) _ _ s;refine Ya (wpAny_specialOf hl.typeIs slot_tuple_getitem.lookup ?_);show YB _ _ (mkInt (i:Int) >>= λb=>_) _ _ s;refine Ya (wpAny_mkInt ?_);refine Ya (wpAny_attempt (getItem_tuple (s:={s with toks:=s.toks+1}) (j:=i) (x:=x) hl (by lia) (by lia) (seqIndex_of (by lia) (by lia)) hx ?_));show YB _ _ (field (.ref it) 1 >>= λb=>_) _ _ _;refine Ya (YR ho hd (x:=rawInt (i:Int)) rfl ?_);show YB _ _ (setField (.ref it) 1 (rawInt ((i:Int) - 1)) >>= λb=>_) _ _ _;refine Ya (wpAny_setField ho hd (by simp) ?_);refine Yc ⟨x,rfl,Yc (hQ _ _ ?_ (Heap.SameBut.update ..))⟩;exact⟨_,YX _ ho (Obj.isFreed_of_fields (YZ hd _)),(Obj.cls_mapFields ..).trans hc,by rw[YZ hd]<;>simp⟩
def next_end(hh:A.handled=Wy)(hit:Is s.heap it l (-1))(hQ:∀h',Heap.ExtBut it s.heap h'->Q Wy {s with heap:=h'}):YB (model prog w) A (pyNext (.ref it)) Q E s:=by
 obtain⟨o,ho,hc,hd⟩:=id hit;unfold pyNext;refine Ya (wpAny_attempt (Wf (name:=O "__next__") hit.typeIs next (Wj next hit.typeIs ZrU ?_ (Zr8 _))));unfold Builtin.«reversed.__next__»;refine Ya (Wr (a:=(YD it,[])) rfl ?_)
 try dsimp only
 refine Ya (YR ho hd (x:=.ref l) rfl (Ya (YR ho hd (x:=rawInt (-1)) rfl ?_)));show YB _ _ (if (-1:Int)<0 then _ else _) _ _ s;rw[if_pos (by decide)];refine Ya (wpAny_rule ?_);show YB _ _ ((setField (.ref it) 1 (rawInt (-1)) >>= λ_=>setField (.ref it) 0 .none) >>= λb=>_) _ _ _;have e1:=YX (Obj.mapFields (·.setIfInBounds 1 (rawInt (-1)))) ho (Obj.isFreed_of_fields (YZ hd _));refine Ya (Ya (wpAny_setField ho hd (by simp) (wpAny_setField e1 (YZ hd _) (by simp) ?_)));refine Ya ?_;show YB _ _ (newExc (.type "StopIteration") [] >>= λb=>_) _ _ _;refine Ya ?_;simp only[newExc,newTuple];refine Ya (Yr ?_ (by size_fits));refine Ya (m:=firstArgMember _ _) (Wr (a:=Value.none) (by first|rfl|(simp only[firstArgMember]<;>rfl)) (Yr ?_ (by size_fits)));simp only[raiseNew];refine Ya (wpAny_handled ?_);rw[show A.in1.handled=Wy from hh];refine Ya (Yc (wpAny_throw ?_));refine Ya (wpAny_isInstance (T := "StopIteration") (b:=true) ⟨_,Oj _ rfl,rfl⟩ isSubtype_stop (Yc (hQ _ ?_)));exact((((Heap.ExtBut.refl _ _).trans (Heap.SameBut.update ..).extBut).trans (Heap.SameBut.update ..).extBut).push _).push _
def Zhl(hit:Is s.heap it l i)(h:Q (.ref it) s):YB (model prog w) A (pyIter (.ref it)) Q E s:=by refine wpAny_pyIter_slot hit.typeIs iter (Wj iter hit.typeIs Zv0 ?_ (Zwe _));exact Yc ⟨_,rfl, "reversed",_,hit.typeIs,next.lookup,h⟩
end
end Rv
noncomputable def Itv(K:Yk)(a:Yi)(n:Nat):It:=⟨λi H=>∃xs x,SqT K H a xs/\xs.length=n/\xs.reverse[i]? = Wx x,λi H x H'=>H'=H/\∀xs,SqT K H a xs->xs.reverse[i]? = Wx x,λi H=>∃xs,SqT K H a xs/\xs.length=n/\n=i⟩
def Znn{P:Yh}{w:Yg}{K:Yk}{tg:Expr}(a it:Yi)(n:Nat):Turn P w K tg (Itv K a n) [it] it (λi h=>i<=n/\Rv.Is h it a ((n:Int) - 1 - i)) where
 mem:=by simp
 obj:=λi h st b hb=>by
  have e:b=it:=by simpa using hb
  subst e;obtain⟨_,o,e,c,d⟩:=st;exact⟨o,e,λv z=>by rw[d]at z;cases z⟩
 keep:=λi h h' st k=>⟨st.1,st.2.at λo e=>k it (by simp) o e⟩
 item:=by
  intro X hP hw hK hc i pins s Z H E I hf st hg;subst hP hw hK;obtain⟨hin,st⟩:=st;obtain⟨xs,x,hq,hxn,hx⟩:=hg;obtain⟨its,rv,p,hz⟩:=I.tuple hq;have hl:=rv.length;have hi:i<xs.length:=by have:=(Ob.mp hx).1;simpa using this
  have hx':xs[n - 1 - i]? = Wx x:=by rw[List.getElem?_reverse hi]at hx;rw[<- hxn];exact hx
  obtain⟨u,hu,ru⟩:=rv.get hx';obtain⟨f0,f1,f2,f3,f4,f5⟩:=hf it (by simp);have e1:(n:Int) - 1 - (i:Nat)=((n - 1 - i:Nat):Int):=by lia
  rw[e1]at st;refine Rv.next_item st p (by simp;lia) (x:=u) (by simpa using hu) λh' t' st' sb=>?_;have I1:Inv X pins Z H {s with heap:=h',toks:=t'}:=I.turned (t':=t') (λb o hb e=>(sb.2 b hb).trans e) f0 f1 f3 f4 f5;obtain⟨o,e,c,d⟩:=id st';have e2:((n - 1 - i:Nat):Int) - 1=(n:Int) - 1 - ((i+1:Nat):Int):=by lia
  refine⟨u,rfl,Zhm (s:={s with heap:=h',toks:=t'}) e c d (by decide) ⟨x,H,I1,ru,⟨rfl,λys hy=>by rw[I.tuple_inj hy hq];exact hx⟩,⟨by lia,by rw[<- e2];exact st'⟩,λb hb=>(hf b hb).1⟩⟩
 done:=by intro X hP hw hK hc i pins s Z H E I hf st hg;subst hP hw hK;obtain⟨xs,hq,hxn,hx⟩:=hg;obtain⟨f0,f1,f2,f3,f4,f5⟩:=hf it (by simp);have st1:=st.2;rw[show(n:Int) - 1 - (i:Nat)=-1 by lia]at st1;exact Rv.next_end (I.ok.hd hc) st1 λh' eb=>⟨rfl,I.turned (t':=s.toks) (λb o hb e=>eb b o hb e) f0 f1 f3 f4 f5⟩
 self:=λ_ _ _ _ _ st h=>Rv.Zhl st.2 h
end L2
end
section
set_option tactic.hygienic false
namespace L2
open PySem PySem.Spec PyProof.Rows
theorem ZeJ:∀{vs:List Yj}{ss:List Str},StrsAre vs ss->Zn (ss.map V.str) vs
 |_,_,.nil=>.nil
 |_,_,.cons y t h=>.cons ⟨t,rfl⟩ (ZeJ h)
section
variable {prog:Yh}{w:Yg}{A:YH}{E:Yj->Yb->Prop}{s:Yb}
def Zj7
 (hcol:∀R:List Yj->Yb->Prop,(∀(h':YG) (tk:Nat) (vs:List Yj),s.heap.objs.size<=h'.objs.size->(∀b o,s.heap.get? b=Wx o->h'.get? b=Wx o)->StrsAre vs ss->R vs {s with heap:=h',toks:=tk})->YB (model prog w) A.in1 (collect (.ref r)) R E s)
 (h64:ss.length<64)
 (h:∀(D:Yi) (h':YG) (tk:Nat) (out:List Yj) (ss':List Str) (n:Nat),(∀b o,s.heap.get? b=Wx o->h'.get? b=Wx o)->s.heap.objs.size<=D->h'.get? D=Wx {cls:=.type "list",data:=.seq out.toArray n}->StrsAre out ss'->ss'.Perm ss->sortedS ss'=Wz ->
  Q (.ref D) {s with heap:=h',toks:=tk}):YB (model prog w) A (call (.builtin "sorted") [.ref r]) Q E s:=by
 refine Calls.call_function_entry kind_sorted plain_sorted entry_sorted (args_sorted1 _) ?_;unfold Builtin.«sorted»;refine Ya (m:=checkCount "sorted" 1 1 _) (Yc (Ya (hcol _ λh' tk vs hsz hk hS=>?_)));have hlen:vs.length=ss.length:=by have:=(ZeJ hS).length;simpa using this.symm
 have hz:vs.length<=sizeLine:=by rw[YC];lia
 refine Ya (wpAny_newList ?_ hz);have hoL:(h'.push (seqObj "list" vs.toArray 0)).get? h'.objs.size=Wx (seqObj "list" vs.toArray 0):=Oj _ rfl;refine Ya (Wi (Wj slot_list_sort ⟨_,hoL,rfl⟩ entry_list_sort (list_sort_treeK strKind_oneLt hoL hS.keysOf (λv₁ v₂ rest e=>keyKind_strs (by rw[<- e];exact hS)) (by lia) λst' a1 a2=>⟨_,rfl,?_⟩) (args_list_sort _)));refine Yc ⟨_,rfl,?_⟩;obtain⟨ss',h1,h2,h3⟩:=sorted_out_str hS a1 a2;obtain⟨e,he⟩:=sortedHeap_at (out:=(arrOf st').map (·.2)) hoL;have e2:((arrOf st').map (·.2))=((arrOf st').map (·.2)).toList.toArray:=Array.toArray_toList.symm;refine h h'.objs.size _ tk ((arrOf st').map (·.2)).toList ss' e (λb o q=>?_) hsz (by rw[<- e2];exact he) h1 h2 h3;have q':=hk b o q;have hlt:=Yn q';rw[sortedHeap_old (Ou hlt) (by rw[size_push'];exact Nat.lt_succ_of_lt hlt)];exact O1 _ q'
def ZjF(K:PySem.W.KdlSrc prog w T r d n P OK)(hh:A.handled=Wy)(hok:OK s.heap)(hn:n<=sizeLine)
 (h:∀(h':YG) (tk:Nat) (acc:Array Yj),s.heap.objs.size<=h'.objs.size->(∀b o,s.heap.get? b=Wx o->h'.get? b=Wx o)->ItemsOf P acc n->R acc.toList {s with heap:=h',toks:=tk}) :
 YB (model prog w) A (collect (.ref r)) R E s:=by
 have lt:=K.there _ hok;unfold collect;refine Ya (wpAny_runValue (codeAny_builtin entry_proto_collect' ?_));rw[Around.under_plainId PySem.F.plain_proto_collect _];show YB _ A.in1 (newList [] >>= λx=>again (.builtin "list.__iadd__" ⟨[x,.ref r],[]⟩)) _ _ s;refine Ya (Yr (Yc ⟨plainId_quiet PySem.F.plain_list_iadd _,codeAny_builtin entry_list_iadd' ?_⟩));rw[Around.under_plainId PySem.F.plain_list_iadd _];have e0:(s.heap.push {cls:=.type "list",data:=.seq ([]:List Yj).toArray}).get? s.heap.objs.size=Wx {cls:=.type "list",data:=.seq #[]}:=Oj _ rfl;show YB _ A.in1 (Builtin.List.listExtendWith (.ref s.heap.objs.size) (.ref r) (.ref s.heap.objs.size)) _ _ _;have key:=PySem.W.kdl_extend (A:=A) (s:={s with heap:=s.heap.push {cls:=.type "list",data:=.seq ([]:List Yj).toArray}})
  (R:=λ(q:Result) (s':Yb)=>∃(h':YG) (tk:Nat) (acc:Array Yj) (c:Nat),q=.ok (.ret (.ref s.heap.objs.size))/\s'={s with heap:=h',toks:=tk}/\(∀b o,s.heap.get? b=Wx o->h'.get? b=Wx o)/\h'.get? s.heap.objs.size=Wx {cls:=.type "list",dict:=Wy,data:=.seq acc c,slots:=#[]}/\ItemsOf P acc n)
  K hh (K.keep _ _ hok λb _ o e=>O1 _ e) s.heap.objs.size (Nat.ne_of_gt lt.1) (Nat.ne_of_gt lt.2) (.ref s.heap.objs.size) 0 e0 (λh' tk acc c hk hS hacc=>⟨h',tk,acc,c,rfl,rfl,λb o e=>hk b o (Ou (Yn e)) (O1 _ e),hS,hacc⟩) hn
 refine Yf key (λfin s' x=>?_) λe s' x=>?_
 . cases fin with
   |done f=>obtain⟨h',tk,acc,c,e,rfl,hk,hS,hacc⟩:=x;cases e;exact Ya (wpAny_load hS (Yc (h h' tk acc (Nat.le_of_lt (Yn hS)) hk hacc)))
   |again c₁=>refine⟨x.1,codeAny_mono x.2 λq s₂ y=>?_⟩;obtain⟨h',tk,acc,c,rfl,rfl,hk,hS,hacc⟩:=y;exact Ya (wpAny_load hS (Yc (h h' tk acc (Nat.le_of_lt (Yn hS)) hk hacc)))
 . obtain⟨_,_,_,_,z,_⟩:=x;cases z
end
theorem Zf8:∀{xs:List α}{ys:List β},Paired R xs ys->∀{i:Nat}{x:α},xs[i]? = Wx x->∃y,ys[i]? = Wx y/\R x y
 |_,_,.nil,i,x,e=>by simp at e
 |_,_,.cons h r,0,x,e=>by cases e;exact⟨_,rfl,h⟩
 |_,_,.cons h r,i+1,x,e=>by obtain⟨y,h1,h2⟩:=Zf8 r (i:=i) (x:=x) (by simpa using e);exact⟨y,by simpa using h1,h2⟩
theorem ZfJ:∀(ss:List Str) (vs:List Yj),vs.length=ss.length->(∀(j:Nat) (v:Yj),vs[j]? = Wx v->∃x,ss[j]? = Wx x/\(ZJ P w).is (YE x) v=Wz)->StrsAre vs ss
 |[],[],_,_=>.nil
 |s::ss,v::vs,hl,h=>by obtain⟨x,e,hx⟩:=h 0 v rfl;cases e;obtain⟨t,rfl⟩:=Value.isStrOf_shape (x:=s) (v:=v) hx;exact .cons s t (ZfJ ss vs (by simpa using hl) λj u hu=>h (j+1) u (by simpa using hu))
section
variable {X:Cx}
def ZnP(P:Yh)(w:Yg)(K:Yk):List V->Hp->VK->Prop:=λxs H Q=>∃a kvs ss,xs=[.ref a]/\Dk P w K H a kvs/\kvs.map (·.1)=ss.map YE/\ss.length<64/\∀p ss',H p=Wy->ss'.Perm ss->sortedS ss'=Wz->Q (.ref p) (upd H p (.lst (ss'.map V.str)))
def Zii(hc:X.A.handled=Wy):ZcA X (.builtin "sorted") (ZnP X.prog X.w X.K):=by
 intro pins s Z H xs us Q I r h;obtain⟨a,kvs,ss,rfl,hd,hks,h64,q⟩:=h;obtain⟨u,rfl,ru⟩:=vals1 r;cases ru;obtain⟨z,hm,vs,rel,dd⟩:=I.dk hd;obtain⟨ep,hat⟩:=dd.dictAt;have hl:vs.length=kvs.length:=(Paired.length rel).symm;have hl2:kvs.length=ss.length:=by have:=congrArg List.length hks;simpa using this
 have hkey:∀(j:Nat) k x,vs[j]? = Wx (k,x)->∃y,ss[j]? = Wx y/\k=YE y:=λj k x e=>by
  have hj:j<vs.length:=(Ob.mp e).1;have h1:kvs[j]? = Wx kvs[j]:=Og (by lia);obtain⟨u,hu,hu2⟩:=Zf8 rel h1;rw[e]at hu;cases hu;have h3:(kvs.map (·.1))[j]? = Wx kvs[j].1:=by rw[On,h1];rfl
  rw[hks,On]at h3;obtain⟨y,hy,e3⟩:=Oo.mp h3;exact⟨y,hy,hu2.1.symm.trans e3.symm⟩
 refine Zj7 (ss:=ss) (λR hR=>ZjF (PySem.W.kdl_dict (knd:=ZJ X.prog X.w) (kvs:=vs) (ep:=ep) hm) hc hat (by lia) λh' tk acc hsz hk hacc=>?_) h64 λD h' tk out ss' n hk hD ho hS hp hs=>?_
 . refine hR h' tk acc.toList hsz hk (ZfJ (P:=X.prog) (w:=X.w) ss acc.toList (by rw[Array.length_toList,hacc.1];lia) λj v hv=>?_);obtain⟨k,x,e,hk2⟩:=hacc.2 j v (by rw[<- Array.getElem?_toList];exact hv);obtain⟨y,hy,rfl⟩:=hkey j k x e;exact⟨y,hy,hk2⟩
 . have hlen:ss'.length<=sizeLine:=by rw[hp.length_eq];lia
   refine⟨.ref D,_,I.laid (a:=D) (o:=.lst (ss'.map V.str)) (t':=tk) hk hD ⟨by simpa using hlen,out,n,ZeJ hS,ho⟩,rfl,q D ss' (I.hok.fresh hD) hp hs⟩
end
end L2
end
section
namespace L2
open PySem PySem.Spec PyProof.Rows
theorem ZdL:∀{ns:List Int}{vs:List Yj},Zn (ns.map V.int) vs->IntsAre vs ns
 |[],vs,h=>by cases h;exact .nil
 |s::ss,vs,h=>by
  rw[Op]at h;cases h with
  |cons h1 h2=>obtain⟨t,rfl⟩:=h1;exact .cons s t (ZdL h2)
noncomputable def ZeM(z:Str)(n:Nat):Str:=⟨(YK n z.cps).foldl (·++·) #[]⟩
theorem Zgt(a:Array Nat):∀(n:Nat) (i:Array Nat),((YK n a).foldl (·++·) i).size=i.size+n * a.size
 |0,i=>by simp
 |n+1,i=>by
  rw[List.replicate_succ,Wu,Zgt a n (i++a),Array.size_append,Nat.succ_mul]
  lia
def Zeo(z:Str)(n:Nat):(ZeM z n).length=n * z.length:=by show((YK n z.cps).foldl (·++·) #[]).size=_;rw[Zgt];simp;rfl
section
variable {X:Cx}
def Zm7(hc:X.A.handled=Wy):ZcA X (.builtin "sum") (λxs H Q=>∃(a:Yi) (ns:List Int),xs=[.ref a]/\SqL X.K H a (ns.map V.int)/\Q (.int ns.sum) H):=by
 intro pins s Z H xs us Q I r h;obtain⟨a,ns,rfl,hq,q⟩:=h;obtain⟨u,rfl,ru⟩:=vals1 r;cases ru;obtain⟨its,rv,pl,hz⟩:=I.list hq;have hi:=ZdL rv;obtain⟨ys,e⟩:=hi.allInts.items;refine sum_intListG (xs:=ys) hc (by rw[<- e];exact pl.isList) λh' tk t' hk=>?_;refine⟨.int ns.sum,H,I.kept (t':=tk) hk,⟨t',?_⟩,q⟩;have e2:=hi.numsOf;have e3:numsOf (intItems ys).toList=ns:=by rw[<- e];exact e2
 rw[nums_intItems]at e3;rw[preSum_eq,List.take_of_length_le (by simp),e3]
def ZqD:OpR X (binaryOp .Mult) (λx y H Q=>∃z n,x=.str z/\y=.int n/\0<=n/\n<=1000/\z.length<=1000/\Q (.str (ZeM z n.toNat)) H):=by
 intro pins s Z H x y v u Q I rx ry h;obtain⟨z,n,rfl,rfl,h0,h1,h2,q⟩:=h;obtain⟨t,rfl⟩:=rx;obtain⟨t2,rfl⟩:=ry;have hl:z.length * n.toNat<=1000000:=Nat.mul_le_mul h2 (by lia:n.toNat<=1000);have hs:(1000000:Nat)<=sizeLine:=by decide
 refine PySem.P.mul_str (by rw[decide_eq_false (by lia:¬ n < -(2 ^ 63:Int)),decide_eq_false (by lia:¬ n ≥ 2 ^ 63)]<;>rfl) (λ_ _=>?_) (λ_ _=>?_) ?_
 . have h3:1<=n:=by lia
   have h4:(9223372036854775807:Int) / n ≥ 1000:=by have:1000<=9223372036854775807 / n:=(Int.le_ediv_iff_mul_le (by lia)).mpr (by lia);exact this
   show ¬ ((z.length:Int) > (2 ^ 63 - 1) / n);rw[show(2 ^ 63 - 1:Int)=9223372036854775807 by decide]
   lia
 . unfold Builtin.Str.tooLong;exact decide_eq_false (by lia)
 . by_cases hn:n<1
   . rw[if_pos hn];refine⟨by decide,.str _,H,I.tok _,⟨_,rfl⟩,?_⟩;rw[show n.toNat=0 by lia]at q;exact q
   . rw[if_neg hn];by_cases h5:(n==1 || z.length==0)=Wz
     . rw[if_pos h5];refine⟨.str _,H,I,⟨_,rfl⟩,?_⟩;have e:ZeM z n.toNat=z:=by
        rw[Ww]at h5;rcases h5 with h5|h5
        . have e1:n.toNat=1:=by have:=eq_of_beq h5;lia
          rw[e1];unfold ZeM;simp
        . have e1:z.length=0:=eq_of_beq h5;have e2:(ZeM z n.toNat).length=0:=by rw[Zeo,e1];simp
          have f:∀y:Str,y.length=0->y=⟨#[]⟩:=λy hy=>by cases y with|mk c=>rw[show c=#[]from Array.eq_empty_of_size_eq_zero hy]
          exact(f _ e2).trans (f z e1).symm
       rw[e]at q;exact q
     . rw[if_neg h5];refine⟨?_,.str _,H,I.tok _,⟨_,rfl⟩,q⟩;show(ZeM z n.toNat).length<=sizeLine;rw[Zeo,Nat.mul_comm]
       lia
end
end L2
end
section
namespace L2
open PySem PySem.Spec PyProof.Rows
section
variable {X:Cx}
def ZhV(hi:i.natAbs<2 ^ 2000)(hj:j.natAbs<2 ^ 2000):IntMulOk i j:=by
 have bits:∀k:Int,k.natAbs<2 ^ 2000->Builtin.Int.intBits k<=2000:=λk hk=>by
  unfold Builtin.Int.intBits;split
  . lia
  . rename_i h;have h0:k.natAbs≠0:=by simpa using h
    have:=(Nat.log2_lt h0).mpr hk
    lia
 unfold IntMulOk;have h1:=bits i hi;have h2:=bits j hj;have h3:Builtin.Int.intTooBig (Builtin.Int.intBits i+Builtin.Int.intBits j:Nat)=WA:=by
  unfold Builtin.Int.intTooBig;rw[decide_eq_false_iff_not];have:(bitsLine:Nat)=134217728:=by decide
  rw[this]
  lia
 intro q;simp only[Oa]at q;have q2:=q.2;rw[show((Builtin.Int.intBits i:Int)+(Builtin.Int.intBits j:Int))=((Builtin.Int.intBits i+Builtin.Int.intBits j:Nat):Int) by simp]at q2;rw[h3]at q2;cases q2
def ZmF:OpR X (binaryOp .Mult) (rI (λi j=>i.natAbs<2 ^ 2000/\j.natAbs<2 ^ 2000) λi j=>.int (i * j)):=opI λ_ _ _ _ _ _ _ hc q=>mul_int q (ZhV hc.1 hc.2)
noncomputable def Zu4(K:Yk):R2:=λx y H Q=>∃a b ys,x=.ref a/\y=.ref b/\SqT K H a []/\SqT K H b ys/\Q (.ref b) H
def ZqG:OpR X (binaryOp .Add) (Zu4 X.K):=by
 intro pins s Z H x y v u Q I rx ry h;obtain⟨a,b,ys,rfl,rfl,ha,hb,q⟩:=h;cases rx;cases ry;obtain⟨its,r1,ht,_⟩:=I.tuple ha;obtain⟨its2,r2,hb,_⟩:=I.tuple hb;cases r1;obtain⟨⟨cls,dd,data,sl⟩,ho,hc,n,hd⟩:=id ht;obtain⟨⟨cls2,dd2,data2,sl2⟩,ho2,hc2,n2,hd2⟩:=id hb;simp only at hc hd hc2 hd2;subst hc hd hc2 hd2;exact concat_meets ⟨_,ho,rfl⟩ ⟨_,ho2,rfl⟩ noFill_tuple_add seq_tuple_add PySem.F.slot_tuple_add PySem.F.entry_tuple_add (PySem.F.args_tuple_add_2 _ _)
  (tuple_addW0 a b _ _ n n2 dd dd2 sl sl2 (by simp)) ⟨ho,ho2,⟨.ref b,H,I,rfl,q⟩⟩
end
end L2
namespace HT
open PySem PyProof.Rows
section
variable {prog:Yh}{w:Yg}{A:YH}{E:Yj->Yb->Prop}{s:Yb}
def ZdJ{t sl:Yi}{items:Array Yj}{lo hi:Option Int}{Q:Yj->Yb->Prop}(ht:IsTup s.heap t items)(hs:s.heap.IsSliceOf sl vl vu .none)(pl:IsPart vl lo)(pu:IsPart vu hi)
 (hw:sIx items.size 0 lo=0/\sIx items.size items.size hi=items.size) (h:Q (.ref t) s):YB (model prog w) A (getItem (.ref t) (.ref sl)) Q E s:=by
 obtain⟨os,hos,hcs,hds⟩:=id hs;have hTs:s.TypeIs (.ref sl) "slice" := ⟨os,hos,hcs⟩
 unfold getItem
 try with_reducible refine Wi ?_
 first|refine Ya (Yc ?_)|skip
 refine Ya (wpAny_sequenceKey ht.typeIs (by decide) ?_);refine Ya (Wf (name:=O "__getitem__") ht.typeIs Wq
  (Wj Wq ht.typeIs entry_tuple_getitem ?_ (args_tuple_getitem _ _)))
 show YB _ _ (Builtin.Tuple.tupleItemsOf (.ref t) >>= _) _ _ s;refine Ya (tupleItemsOf_ ht ?_);refine Ya (wpAny_typeOf hTs ?_);rw[if_pos (by decide)];refine Ya (Zck hs pl pu ?_);have hyes:(((sIx items.size 0 lo:Nat):Int)==0&&(1:Int)==1&&(sIx items.size items.size hi - sIx items.size 0 lo)==items.size)=Wz:=by rw[hw.1,hw.2];simp
 show YB _ _ (if (((sIx items.size 0 lo:Nat):Int)==0&&(1:Int)==1&&(sIx items.size items.size hi - sIx items.size 0 lo)==items.size)=Wz then _ else _) _ _ s;rw[if_pos hyes];unfold Builtin.Tuple.tupleIsExact;refine Ya (Ya (wpAny_typeOf ht.typeIs (Yc ?_)));rw[if_pos (by decide)];exact Ya (wpAny_rule (Yc ⟨_,rfl,Yc h⟩))
end
end HT
namespace L2
open PySem PySem.Spec PyProof.Rows
section
variable {X:Cx}
def ZwT(K:Yk):V->Option Int->Option Int->Hp->VK->Prop:=λx lo hi H Q=>∃a xs,x=.ref a/\SqT K H a xs /\
 (HT.sIx xs.length 0 lo=0/\HT.sIx xs.length xs.length hi=xs.length)/\Q (.ref a) H
def Znz:SlR X (ZwT X.K):=by
 intro pins s Z H x v vl vu lo hi sl Q I rx hs pl pu h;obtain⟨a,xs,rfl,hx,hw,q⟩:=h;cases rx;obtain⟨its,r,ht,hz⟩:=I.tuple hx;have hlen:its.toArray.size=xs.length:=by rw[Of];exact r.length.symm
 refine⟨"tuple",_,PyProof.Rows.slot_tuple_getitem.lookup,ht.typeIs,?_⟩;exact HT.ZdJ ht hs pl pu (by rw[hlen];exact hw) ⟨.ref a,H,I,rfl,q⟩
end
end L2
end
section
set_option tactic.hygienic false
namespace L2
namespace Mx
open PySem PyProof.Rows
def nm:(toString "max" ++ toString ".loop" : String) = "max.loop" := by decide
section
variable {prog:Yh}{w:Yg}{A:YH}{Z_:Result->Yb->Prop}{J:Yi}{fo wo:List Yi}{m:Nat}{P:Nat->Yj->Prop}{S_:Nat->YG->Prop}
theorem loop(W:Walks prog w A.in1 J fo wo m P S_)(bt:Nat->Nat->Bool)(hb:CmpOf prog w A.in1 .Gt P bt)(C:Yi)(hC:C ∉ fo)(kw:List (Str×Yj)):∀(d j:Nat) (s:Yb) (u:Yj) (c:Nat),
 m - (j+1)=d->j+1<=m->S_ (j+1) s.heap->P (argBest bt j) u->s.heap.get? C=Wx {cls:=.type "list",dict:=Wy,data:=.seq #[u,u] c,slots:=#[]} ->
 (∀v hp tk,P (argBest bt (m - 1)) v->(∀b o,b ∉ wo->b≠C->s.heap.get? b=Wx o->hp.get? b=Wx o)->Z_ (.ok (.ret v)) {s with heap:=hp,toks:=tk}) ->
 codeAny (model prog w) A (.builtin "max.loop" ⟨[.ref J,.none,.ref C],kw⟩) Z_ s:=by
 have hCw:C ∉ wo:=λz=>hC (W.sub _ z);intro d;induction d with
 |zero=>
  intro j s u c e1 e2 st pu hc hz;have em:j+1=m:=by omega
  refine codeAny_builtin PySem.F.entry_max_loop ?_;rw[Around.under_plainId YU _];show YB (model prog w) A.in1 (seqItems? (YD C) >>= _) _ _ s;refine Ya (wpAny_seqItems hc rfl ?_);show YB (model prog w) A.in1 (tryCatch (pyNext (YD J)) _ >>= _) _ _ s;refine Ya (wpAny_tryCatch (W.done s _ _ (em ▸ st) λhp tk kp=>?_));have hc1:=kp C _ hCw hc;show YB (model prog w) A.in1 (updateSeq C (λ_=>#[]) >>= _) _ _ _;exact Ya (wpAny_updateSeq hc1 rfl (Ya (wpAny_letGo (Yc (hz u _ tk (by rw[<- em];exact pu) λb o b1 b2 e=>(YN _ _ (YL b2)).trans (kp b o b1 e))))))
 |succ d ih=>
  intro j s u c e1 e2 st pu hc hz;have lt:j+1<m:=by omega
  refine codeAny_builtin PySem.F.entry_max_loop ?_;rw[Around.under_plainId YU _];show YB (model prog w) A.in1 (seqItems? (YD C) >>= _) _ _ s;refine Ya (wpAny_seqItems hc rfl ?_);show YB (model prog w) A.in1 (tryCatch (pyNext (YD J)) _ >>= _) _ _ s;refine Ya (wpAny_tryCatch (W.item (j+1) s _ _ lt st λv hp tk pv st1 kp=>?_));have hc1:=kp C _ hCw hc;show YB (model prog w) A.in1 (tryCatch (holding [v,v] (richCompare CmpOp.Gt v u >>= _)) _ >>= _) _ _ _;refine Ya (wpAny_tryCatch (Wi (Ya (hb (j+1) (argBest bt j) v u _ _ _ pv pu (Ya (Wi (wpAny_truthy_bool (Ya (wpAny_letGo (Yc ?_))))))))));cases q:bt (j+1) (argBest bt j)with
  |true=>
   simp only[if_true];refine Ya (wpAny_updateSeq hc1 rfl (Ya (wpAny_letGo ?_)));rw[nm];refine Yc ⟨plainId_quiet YU _,ih (j+1) _ v _ (by omega) lt (W.frame _ _ _ st1 λb b1 o e=>?_) (by simp only[argBest,q,if_true];exact pv) (YX _ hc1 rfl) λv2 hp2 tk2 pv2 kp2=>?_⟩
   . exact(YN _ _ (λz:C=b=>hC (by rw[z];exact b1))).trans e
   . exact hz v2 hp2 tk2 pv2 λb o b1 b2 e=>kp2 b o b1 b2 ((YN _ _ (YL b2)).trans (kp b o b1 e))
  |false=>simp only[OG,if_false];refine Ya (wpAny_letGo ?_);rw[nm];exact Yc ⟨plainId_quiet YU _,ih (j+1) _ u c (by omega) lt st1 (by simp only[argBest,q,OG,if_false];exact pu) hc1 λv2 hp2 tk2 pv2 kp2=>hz v2 hp2 tk2 pv2 λb o b1 b2 e=>kp2 b o b1 b2 (kp b o b1 e)⟩
def first(W:Walks prog w A.in1 J fo wo m P S_)(bt:Nat->Nat->Bool)(hb:CmpOf prog w A.in1 .Gt P bt)(C:Yi)(hC:C ∉ fo)(dn:Str)(dv:Yj)(st:S_ 0 s.heap)
 (hc:s.heap.get? C=Wx {cls:=.type "list",dict:=Wy,data:=.seq #[] c,slots:=#[]})
 (hz:∀v hp tk,(m=0->v=dv)->(0<m->P (argBest bt (m - 1)) v)->(∀b o,b ∉ wo->b≠C->s.heap.get? b=Wx o->hp.get? b=Wx o)->Z_ (.ok (.ret v)) {s with heap:=hp,toks:=tk}) :
 codeAny (model prog w) A (.builtin "max.loop" ⟨[.ref J,.none,.ref C],[(dn,dv)]⟩) Z_ s:=by
 have hCw:C ∉ wo:=λz=>hC (W.sub _ z);refine codeAny_builtin PySem.F.entry_max_loop ?_;rw[Around.under_plainId YU _];show YB (model prog w) A.in1 (seqItems? (YD C) >>= _) _ _ s;refine Ya (wpAny_seqItems hc rfl ?_);show YB (model prog w) A.in1 (tryCatch (pyNext (YD J)) _ >>= _) _ _ s;by_cases hm:0<m
 . refine Ya (wpAny_tryCatch (W.item 0 s _ _ hm st λv hp tk pv st1 kp=>?_));have hc1:=kp C _ hCw hc;show YB (model prog w) A.in1 (updateSeq C (λ_=>#[v,v]) >>= _) _ _ _;refine Ya (wpAny_updateSeq hc1 rfl ?_);rw[nm];refine Yc ⟨plainId_quiet YU _,loop W bt hb C hC _ _ 0 _ v _ rfl hm (W.frame _ _ _ st1 λb b1 o e=>?_) pv (YX _ hc1 rfl) λv2 hp2 tk2 pv2 kp2=>?_⟩
   . exact(YN _ _ (λz:C=b=>hC (by rw[z];exact b1))).trans e
   . exact hz v2 hp2 tk2 (λz=>by omega) (λ_=>pv2) λb o b1 b2 e=>kp2 b o b1 b2 ((YN _ _ (YL b2)).trans (kp b o b1 e))
 . have h0:m=0:=by omega
   refine Ya (wpAny_tryCatch (W.done s _ _ (h0 ▸ st) λhp tk kp=>?_));exact Ya (wpAny_rule (Yc (hz dv hp tk (λ_=>rfl) (λz=>absurd z hm) λb o b1 _ e=>kp b o b1 e)))
end
section
variable {prog:Yh}{w:Yg}{A:YH}{E:Yj->Yb->Prop}{s:Yb}
def args(a d:Yj):argsOk "max" ⟨[a],[("default",d)]⟩:=by unfold argsOk;kernel_rfl
theorem call
 (h:YB (model prog w) A.in1 (pyIter x) (λit s2=>∃J fo wo m P S_ bt,it=.ref J/\Walks prog w A.in1 J fo wo m P S_/\S_ 0 s2.heap/\(∀b∈fo,b<s2.heap.objs.size)/\CmpOf prog w A.in1 .Gt P bt /\
  ∀v hp tk,(m=0->v=dv)->(0<m->P (argBest bt (m - 1)) v)->(∀b o,b ∉ wo->s2.heap.get? b=Wx o->hp.get? b=Wx o)->Q v {s2 with heap:=hp,toks:=tk}) E s) :
 YB (model prog w) A (PySem.call (.builtin "max") [x] [("default",dv)]) Q E s:=by
 refine wpAny_call (codeAny_call_builtin PySem.F.plain_max PySem.F.entry_max ?_);simp only[checkBuiltinCall,PySem.F.kind_max];have go:YB (model prog w) A.in1 (Builtin.«max» ⟨[x],[("default",dv)]⟩) (λfin s'=>match fin with
  |.done f=>(match (Except.ok f:Result)with|.ok (.ret v)=>Q v s'|.ok _=>False|.error e=>E e s')
  |.again c'=>c'.quiet=Wz/\codeAny (model prog w) A c' (λr s'=>match r with|.ok (.ret v)=>Q v s'|.ok _=>False|.error e=>E e s') s') E s:=by
  show YB (model prog w) A.in1 (Builtin.Builtins.bindParams "max" ["key", "default"] 0 ⟨[],[("default",dv)]⟩ >>= _) _ _ s;refine Ya (Wr (show Builtin.Builtins.bindParams "max" ["key", "default"] 0 ⟨[],[("default",dv)]⟩=pure [Wy,Wx dv]from rfl) (Ya (Yc (Ya (Yf h (λit s2 q=>?_) λ_ _ e=>e)))));obtain⟨J,fo,wo,m,P,S_,bt,rfl,W,st,hfo,hb,hQ⟩:=q;refine Ya (Yr ?_);have hC:s2.heap.objs.size ∉ fo:=λz=>Yw _ (hfo _ z);rw[nm];exact Yc ⟨plainId_quiet YU _,first W bt hb s2.heap.objs.size hC _ dv (W.frame _ _ _ st λb _ o e=>O1 _ e) (Oj _ rfl) λv hp tk a1 a2 kp=>hQ v hp tk a1 a2 λb o b1 e=>kp b o b1 (Ou (Yn e)) (O1 _ e)⟩
 cases hs:Manifest.signature? "max" with
 |none=>exact Yc go
 |some sig=>have ha:=args x dv;simp only[argsOk,hs]at ha;have h2:Bind.checkArgs "max" sig ⟨[x],[("default",dv)]⟩=pure ():=ha;show YB _ A.in1 (Bind.checkArgs "max" sig ⟨[x],[("default",dv)]⟩) _ _ s;rw[h2];exact Yc go
end
end Mx
end L2
namespace L2
open PySem PySem.Spec PyProof.Rows
noncomputable def Zdc:List Int->Int->Int
 |[],d=>d
 |x::r,_=>r.foldl (λm y=>if y > m then y else m) x
theorem Zhu(ns:List Int):∀k,k<ns.length->(argBest (λi j=>WB (ns.getD i 0 > ns.getD j 0)) k)<ns.length/\ns.getD (argBest (λi j=>WB (ns.getD i 0 > ns.getD j 0)) k) 0=Zdc (ns.take (k+1)) 0
 |0,h=>by
  cases ns with
  |nil=>simp at h
  |cons x r=>exact⟨by simp[argBest],by simp[argBest,Zdc]⟩
 |k+1,h=>by
  obtain⟨h1,h2⟩:=Zhu ns k (by omega);have e:Zdc (ns.take (k+1+1)) 0=if ns.getD (k+1) 0 > Zdc (ns.take (k+1)) 0 then ns.getD (k+1) 0 else Zdc (ns.take (k+1)) 0:=by
   cases ns with
   |nil=>simp at h
   |cons x r=>
    have hk:k<r.length:=by simpa using h
    show((r.take (k+1)).foldl _ x)=_;rw[List.take_succ_eq_append_getElem hk,List.foldl_append];simp only[Wu,List.foldl_nil];have:(x::r).getD (k+1) 0=r[k]:=by simp[List.getD_eq_getElem?_getD,Og hk]
    rw[this];rfl
  rw[e,<- h2];have ea:argBest (λi j=>WB (ns.getD i 0 > ns.getD j 0)) (k+1)=if WB (ns.getD (k+1) 0 > ns.getD (argBest (λi j=>WB (ns.getD i 0 > ns.getD j 0)) k) 0)=Wz then k+1 else argBest (λi j=>WB (ns.getD i 0 > ns.getD j 0)) k:=rfl;rw[ea];by_cases q:ns.getD (k+1) 0 > ns.getD (argBest (λi j=>WB (ns.getD i 0 > ns.getD j 0)) k) 0
  . rw[if_pos (decide_eq_true q),if_pos q];exact⟨h,rfl⟩
  . rw[if_neg (by simpa using q),if_neg q];exact⟨h1,rfl⟩
section
variable {X:Cx}
def Zoq(hc:X.calm=Wz)(I:Inv X pins Z H s)(hx:SqL X.K H a (ns.map V.int))(q:Q (.int (Zdc ns d)) H):
 YB (model X.prog X.w) X.A (PySem.call (.builtin "max") [.ref a] [("default",.int d t)]) (EP X pins Z Q) X.xe s:=by
 obtain⟨its,rv,pl,hz⟩:=I.list hx;have hlt:a<s.heap.objs.size:=by obtain⟨_,_,e,_⟩:=pl;exact Yn e
 have hl:its.length=ns.length:=by have:=rv.length;rw[Yu]at this;exact this.symm
 have val:∀{i:Nat}{v:Yj},its.toArray[i]? = Wx v->i<ns.length/\∃t,v=.int (ns.getD i 0) t:=λ{i v} hv=>by
  have hv':its[i]? = Wx v:=by simpa using hv
  have hi:i<ns.length:=by rw[<- hl];exact(Ob.mp hv').1
  have hb:(ns.map V.int)[i]? = Wx (.int ns[i]):=by rw[On,Og hi]<;>rfl
  obtain⟨u',e',r'⟩:=rv.get hb;rw[hv']at e';cases e';obtain⟨t,rfl⟩:=r';exact⟨hi,t,by simp[List.getD_eq_getElem?_getD,Og hi]⟩
 refine Mx.call (wpAny_pyIter_list pl.isList ?_);refine⟨s.heap.objs.size,_,_,_,_,_,λi j=>WB (ns.getD i 0 > ns.getD j 0),rfl,Walks.list (A:=X.A.in1) (show X.A.in1.handled=Wy from I.ok.hd hc) s.heap.objs.size a (Ou hlt) its.toArray,⟨⟨_,Oj _ rfl,rfl,rfl⟩,pl.isList.push _⟩,?_,?_,λv hp tk a1 a2 kp=>?_⟩
 . intro b hb;have hp1:b<s.heap.objs.size+1:=by
    simp at hb;rcases hb with rfl|rfl
    . exact OH _
    . exact Nat.lt_succ_of_lt hlt
   simpa[Heap.push]using hp1
 . exact CmpOf.ints_gt (λi=>ns.getD i 0) λi v hv=>(val hv).2
 . refine⟨.int (Zdc ns d),H,I.kept λb o e=>kp b o (λz=>?_) (O1 _ e),?_,q⟩
   . have:b=s.heap.objs.size:=by simpa using z
     subst this;exact absurd (Yn e) (Yw _)
   . have hsz:its.toArray.size=ns.length:=by rw[Of,hl]
     by_cases h0:ns=[]
     . subst h0;have:=a1 (by rw[hsz];rfl);subst this;exact⟨t,rfl⟩
     . have hp0:0<ns.length:=List.length_pos_iff.mpr h0;obtain⟨_,t3,ev⟩:=val (a2 (by rw[hsz];exact hp0));refine⟨t3,?_⟩;rw[ev,hsz,(Zhu ns (ns.length - 1) (by omega)).2,List.take_of_length_le (by omega)];cases ns with
       |nil=>exact absurd rfl h0
       |cons x r=>rfl
end
section
variable {X:Cx}
noncomputable def ZuF(K:Yk)(ta tb:TE):TE:=λZ H Q=>ta Z H λv H1=>tb Z H1 λu H2=>∃a ns d,v=.ref a/\u=.int d/\SqL K H2 a (ns.map V.int)/\Q (.int (Zdc ns d)) H2
def Zqt(hg:Gl X "max")(hm:X.mg "max" = Wy)(hc:X.calm=Wz)(ha:PE X x ta)(hb:PE X y tb)(he:YA [x] X.env=[(WA,eval x X.env)]):
 PE X (.Call (.Name "max" p) [x] [⟨Wx "default",y,kp⟩] pos) (ZuF X.K ta tb):=by
 intro pins s Z H Q I h;refine YY (Zde I hg hm boot_max ?_);refine PyProof.Rows.callWith_kw ?_ (by rw[he];rfl) (by rw[he];rfl);rw[he];refine Calls.spliced_cons (thn (ha pins s Z H _ I h) λv s1 ⟨vv,H1,I1,r1,q1⟩=>Calls.spliced_nil ?_);refine kws_cons (thn (hb pins s1 Z H1 _ I1 q1) λu s2 ⟨uu,H2,I2,r2,q2⟩=>kws_nil ?_);obtain⟨a,ns,d,rfl,rfl,hq,q⟩:=q2;cases r1;obtain⟨t,rfl⟩:=r2;exact Zoq hc I2 hq q
end
end L2
end
section
namespace L2
open PySem PySem.Spec PyProof PyProof.Rows PySem.AutoSeq1
set_option maxRecDepth 8000 in
def ZkZ(l:Yi)(items:Array Yj)(n:Nat)(b:Yi)(items2:Array Yj)(n2:Nat)(od:Option Yi)(sl:Array (Option Yj))(hs0:¬(!items.isEmpty&&Ws (items.size+items2.size))=Wz)(hs1:items.size<=sizeLine)(hs2:items.size+items2.size<=sizeLine+1):
 Meets (Builtin.«list.extend» ⟨[.ref l,.ref b],[]⟩) (λ_ R s=>s.heap.get? l=Wx {cls:=.type "list",dict:=Wy,data:=.seq items n,slots:=#[]}/\s.heap.get? b=Wx {cls:=.type "tuple",dict:=od,data:=.seq items2 n2,slots:=sl}/\R (.ok (.ret Value.none)) {s with heap:=s.heap.update l (Obj.mapSeq λx=>x++items2),toks:=s.toks}):=
 .of_wp λprog w A R s h=>by
  obtain⟨hp,g,d,tk,os⟩:=s;obtain⟨hl,hb,h⟩:=h;have f1:=idx_int;have f2:=AutoSeq1.sub_tuple_tuple;have f3:=AutoSeq1.sub_list_list;have f4:=AutoSeq1.sub_tuple_list;have f5:=AutoSeq1.sub_list_tuple;have hz':(items++items2).size<=sizeLine+1:=by rw[Array.size_append];exact hs2
  wp_walk using (wpAny_updateSeq hl rfl (hz:=hs1) (_hz':=hz')),wpAny_loadPart' hl,wpAny_loadPart' hb;exact⟨_,rfl,h⟩
section
variable {X:Cx}
def ZnR(K:Yk):V->List V->Hp->VK->Prop:=λx vs H Q=>∃l b xs zs,x=.ref l/\vs=[.ref b]/\H l=Wx (.lst xs)/\SqT K H b zs/\xs.length+zs.length<=sizeLine/\Q .non (upd H l (.lst (xs++zs)))
def Zkq:MtM X "list.extend" (ZnR X.K):=by
 intro pins s Z H x vs v us Q I rx rv h;obtain⟨l,b,xs,zs,rfl,rfl,hH,hB,hz,q⟩:=h;cases rx;obtain⟨u,rfl,ru⟩:=rv.one;cases ru;obtain⟨z,its,n,r,hl,e⟩:=I.lstM hH;obtain⟨its2,r2,⟨o,e2,oc,n2,od⟩,z2⟩:=I.tuple hB;obtain⟨cls,dc,dat,sl⟩:=o;simp only at oc od;subst oc;subst od;have hl2:=r2.length;have hsz:its.toArray.size+its2.toArray.size<=sizeLine:=by rw[Of,Of];lia
 have hlong:¬ (!its.toArray.isEmpty&&Ws (its.toArray.size+its2.toArray.size))=Wz:=by rw[Zi1 hsz,Bool.and_false];exact Ow
 refine call_meets F.slot_list_extend ⟨_,e,rfl⟩ F.entry_list_extend (F.args_list_extend_2 _ _)
  (ZkZ l its.toArray n b its2.toArray n2 dc sl hlong (by rw[Of];lia) (by lia)) ⟨e,e2,?_⟩
 refine⟨.non,_,I.lset (its':=its++its2) hH e (by simp) (r.append r2) ?_,rfl,q⟩;rw[OA]
 lia
end
end L2
end
section
namespace L2
open PySem PySem.Spec PyProof.Rows
noncomputable def Zuc(K:Yk)(a:Yi)(n:Nat):It:=⟨λi H=>∃xs x,SqL K H a xs/\xs.length=n/\xs.reverse[i]? = Wx x,λi H x H'=>H'=H/\∀xs,SqL K H a xs->xs.reverse[i]? = Wx x,λi H=>∃xs,SqL K H a xs/\xs.length=n/\n=i⟩
def Zmf{P:Yh}{w:Yg}{K:Yk}{tg:Expr}(a it:Yi)(n:Nat):Turn P w K tg (Zuc K a n) [it] it (λi h=>i<=n/\h.IsRevIter it a ((n:Int) - 1 - i)) where
 mem:=by simp
 obj:=λi h st b hb=>by
  have e:b=it:=by simpa using hb
  subst e;obtain⟨_,o,e,c,d⟩:=st;exact⟨o,e,λv z=>by rw[d]at z;cases z⟩
 keep:=λi h h' st k=>⟨st.1,st.2.at λo e=>k it (by simp) o e⟩
 item:=by
  intro X hP hw hK hc i pins s Z H E I hf st hg;subst hP hw hK;obtain⟨hin,st⟩:=st;obtain⟨xs,x,hq,hxn,hx⟩:=hg;obtain⟨its,rv,p,hz⟩:=I.list hq;have hl:=rv.length;have hi:i<xs.length:=by have:=(Ob.mp hx).1;simpa using this
  have hx':xs[n - 1 - i]? = Wx x:=by rw[List.getElem?_reverse hi]at hx;rw[<- hxn];exact hx
  obtain⟨u,hu,ru⟩:=rv.get hx';obtain⟨f0,f1,f2,f3,f4,f5⟩:=hf it (by simp);have e1:(n:Int) - 1 - (i:Nat)=((n - 1 - i:Nat):Int):=by lia
  rw[e1]at st;refine wpAny_pyNext_rev_item st p.isList (x:=u) (by simpa using hu) λh' st' sb=>?_;have I1:Inv X pins Z H {s with heap:=h'}:=I.turned (t':=s.toks) (λb o hb e=>(sb.2 b hb).trans e) f0 f1 f3 f4 f5;obtain⟨o,e,c,d⟩:=id st';have e2:((n - 1 - i:Nat):Int) - 1=(n:Int) - 1 - ((i+1:Nat):Int):=by lia
  exact⟨u,rfl,Zhm (s:={s with heap:=h'}) e c d (by decide) ⟨x,H,I1,ru,⟨rfl,λys hy=>by rw[I.list_inj hy hq];exact hx⟩,⟨by lia,by rw[<- e2];exact st'⟩,λb hb=>(hf b hb).1⟩⟩
 done:=by intro X hP hw hK hc i pins s Z H E I hf st hg;subst hP hw hK;obtain⟨xs,hq,hxn,hx⟩:=hg;obtain⟨f0,f1,f2,f3,f4,f5⟩:=hf it (by simp);have st1:=st.2;rw[show(n:Int) - 1 - (i:Nat)=-1 by lia]at st1;exact wpAny_pyNext_rev_end (I.ok.hd hc) st1 λh' eb=>⟨rfl,I.turned (t':=s.toks) (λb o hb e=>eb b o hb e) f0 f1 f3 f4 f5⟩
 self:=λ_ _ _ _ _ st h=>wpAny_pyIter_revIter st.2 h
noncomputable def ZvN(K:Yk)(ta:TA):TI:=λZ H R=>ta Z H λvs H1=>∃a xs,vs=[.ref a]/\((SqT K H1 a xs/\R (Itv K a xs.length) H1)\/(SqL K H1 a xs/\R (Zuc K a xs.length) H1))
def Zqq{X:Cx}{tg l:Expr}{ta:TA}{p pos:Pos}(hg:Gl X "reversed")(hm:X.mg "reversed" = Wy)(ha:PA X [l] ta)(hs:YA [l] X.env=[(WA,eval l X.env)]:=by rfl):
 PI X tg (.Call (.Name "reversed" p) [l] [] pos) (ZvN X.K ta):=by
 intro pins s Z H R I h;refine Call_ (Zde I hg hm boot_reversed (PyProof.Rows.callWith_type1 (thn (ha pos pins s Z H _ I h) λus s1 ⟨vs,H1,I1,r1,q1⟩=>?_) hs rfl));obtain⟨a,xs,rfl,q⟩:=q1;obtain⟨u,rfl,ru⟩:=vals1 r1;obtain rfl:u=YD a:=ru;rcases q with ⟨hq,q⟩|⟨hq,q⟩
 . obtain⟨its,rv,pl,hz⟩:=I1.tuple hq;have hl:=rv.length;refine Rv.call pl (by simp;lia) ?_;have e1:((its.toArray.size:Nat):Int) - 1=(xs.length:Int) - 1 - ((0:Nat):Int):=by simp;lia
   have st:Rv.Is (s1.heap.push (Rv.obj a (((its.toArray.size:Nat):Int) - 1))) s1.heap.objs.size a ((xs.length:Int) - 1 - ((0:Nat):Int)):=⟨_,Oj _ rfl,rfl,by rw[<- e1];rfl⟩
   refine Rv.Zhl st ?_;refine⟨s1.heap.objs.size,[s1.heap.objs.size],_,_,H1,rfl,I1.kept (t':=s1.toks+1+1) λb o e=>O1 _ e,Znn a _ xs.length,⟨Yy _,st⟩,λb hb=>?_,q⟩;have e:b=s1.heap.objs.size:=by simpa using hb
   subst e;exact I1.fpOk (Oq _) (I1.hok.fresh (Oq _))
 . obtain⟨its,rv,pl,hz⟩:=I1.list hq;have hl:=rv.length;refine call_reversed_list pl.isList ?_;have e1:((its.toArray.size:Nat):Int) - 1=(xs.length:Int) - 1 - ((0:Nat):Int):=by simp;lia
   have st:(s1.heap.push (revObj a (((its.toArray.size:Nat):Int) - 1))).IsRevIter s1.heap.objs.size a ((xs.length:Int) - 1 - ((0:Nat):Int)):=⟨_,Oj _ rfl,rfl,by rw[<- e1];rfl⟩
   refine wpAny_pyIter_revIter st ?_;refine⟨s1.heap.objs.size,[s1.heap.objs.size],_,_,H1,rfl,I1.kept (t':=s1.toks) λb o e=>O1 _ e,Zmf a _ xs.length,⟨Yy _,st⟩,λb hb=>?_,q⟩;have e:b=s1.heap.objs.size:=by simpa using hb
   subst e;exact I1.fpOk (Oq _) (I1.hok.fresh (Oq _))
end L2
end
section
namespace L2
open PySem PySem.Spec PyProof.Rows
namespace Tx
noncomputable def place(x:Str):List Str->Option Nat
 |[]=>Wy
 |y::r=>if y=x then Wx 0 else(place x r).map (·+1)
end Tx
noncomputable def ZfG(K:Yk):Bool:=K.all λp=>!WB (p.2.cls=.type "tuple") || p.2.dict.isNone
end L2
end
section
namespace L2
open PySem PySem.Spec PyProof.Rows
open PySem.AutoSeq1 (wpAny_loadPart')
namespace En1
section
variable {prog:Yh}{w:Yg}{A:YH}{E:Yj->Yb->Prop}{s:Yb}
def ZpM(st:s.heap.IsTupleIter J T k)(tt:s.heap.IsTuple T us)(hy:us[k]? = Wx y)
 (q:∀h1,h1.IsTupleIter J T (k+1)->Heap.SameBut J s.heap h1->Q y {s with heap:=h1}):YB (model prog w) A (Builtin.SmallTypes.nextOf (.ref J)) Q E s:=by
 obtain⟨ob,g1,g2,g3⟩:=id st;obtain⟨ot,g4,_,m,g5⟩:=tt;unfold Builtin.SmallTypes.nextOf;refine Ya (Wf (name:=O "__next__") st.typeIs F.slot_tuple_iterator_next (Wj F.slot_tuple_iterator_next st.typeIs F.entry_tuple_iterator_next ?g (F.args_tuple_iterator_next_1 _)))
 case g=>show YB _ _ (field (.ref J) 0 >>= _) _ _ s;refine Ya (YR g1 g3 (x:=.ref T) rfl ?_);show YB _ _ (if (YD T==Value.none)=Wz then _ else _) _ _ s;rw[if_neg (show ¬ ((YD T==Value.none)=Wz)from Ow)];show YB _ _ (field (.ref J) 1 >>= _) _ _ s;refine Ya (YR g1 g3 (x:=.int k 0) rfl ?_);show YB _ _ (seqItems? (.ref T) >>= _) _ _ s;refine Ya (wpAny_seqItems g4 g5 ?_);simp only[Int.toNat_natCast,hy];refine Ya (wpAny_setField g1 g3 (by simp) (Yc ⟨y,rfl,Yc (q _ ?_ (Heap.SameBut.update ..))⟩));exact⟨_,YX _ g1 (Obj.isFreed_of_fields (YZ g3 _)),(Obj.cls_mapFields ..).trans g2,by rw[YZ g3];simp[rawInt]⟩
def Zsj(calm:A.handled=Wy)(st:s.heap.IsTupleIter J T k)(tt:s.heap.IsTuple T us)(hy:us[k]? = Wy)
 (q:∀h1 x,Heap.ExtBut J s.heap h1->(∃ob,h1.get? x=Wx ob/\ob.cls=.type "StopIteration")->E (.ref x) {s with heap:=h1}):YB (model prog w) A (Builtin.SmallTypes.nextOf (.ref J)) Q E s:=by
 obtain⟨ob,g1,g2,g3⟩:=id st;obtain⟨ot,g4,_,m,g5⟩:=tt;unfold Builtin.SmallTypes.nextOf;refine Ya (Wf (name:=O "__next__") st.typeIs F.slot_tuple_iterator_next (Wj F.slot_tuple_iterator_next st.typeIs F.entry_tuple_iterator_next ?g (F.args_tuple_iterator_next_1 _)))
 case g=>
  show YB _ _ (field (.ref J) 0 >>= _) _ _ s;refine Ya (YR g1 g3 (x:=.ref T) rfl ?_);show YB _ _ (if (YD T==Value.none)=Wz then _ else _) _ _ s;rw[if_neg (show ¬ ((YD T==Value.none)=Wz)from Ow)];show YB _ _ (field (.ref J) 1 >>= _) _ _ s;refine Ya (YR g1 g3 (x:=.int k 0) rfl ?_);show YB _ _ (seqItems? (.ref T) >>= _) _ _ s;refine Ya (wpAny_seqItems g4 g5 ?_);simp only[Int.toNat_natCast,hy];refine Ya (wpAny_rule (Ya (wpAny_setField g1 g3 (by simp) ?_)));show YB _ _ (newExc (.type "StopIteration") [] >>= _) _ _ _;refine Ya ?_;simp only[newExc,newTuple];refine Ya (Yr ?_ (by size_fits));refine Ya (m:=firstArgMember _ _) (Wr (a:=Value.none) (by first|rfl|(simp only[firstArgMember];rfl)) ?_);refine Yr ?_ (by size_fits);simp only[raiseNew];refine Ya (wpAny_handled ?_)
  first|rw[show A.in1.handled=Wy from calm]|rw[calm]
  exact Ya (Yc (wpAny_throw (q _ _ (((Heap.SameBut.update ..).extBut.push _).push _) ⟨_,Oj _ rfl,rfl⟩)))
def dr(calm:A.handled=Wy)(J T:Yi)(ne:T≠J)(us:Array Yj):Draws prog w A J [J,T] (us.size+1) (λk y=>∃j,k=j+1/\us[j]? = Wx y) (λk h=>∃j,k=j+1/\h.IsTupleIter J T j/\h.IsTuple T us) where
 live:=λ_ _ z=>let ⟨_,_,⟨ob,g,_⟩,_⟩:=z;⟨ob,g⟩
 frame:=λ_ _ _ z kp=>by obtain⟨j,e,⟨o1,a1,b1⟩,o2,a2,b2⟩:=z;exact⟨j,e,⟨o1,kp J (by simp) _ a1,b1⟩,o2,kp T (by simp) _ a2,b2⟩
 item:=λk s Q E lt z q=>by
  obtain⟨j,rfl,a,b⟩:=z;have lj:j<us.size:=by lia
  refine ZpM a b (y:=us[j]) (by simp[lj]) λh1 a1 sb=>?_;exact q _ h1 s.toks ⟨j,rfl,by simp[lj]⟩ ⟨j+1,rfl,a1,b.extBut sb.extBut ne⟩ sb
 done:=λs Q E z q=>by
  obtain⟨j,e,a,b⟩:=z;have:j=us.size:=by lia
  subst this;exact Zsj calm a b (by simp) q
end
end En1
end L2
end
section
namespace L2
open PySem PySem.Spec PyProof.Rows
open PySem.AutoSeq1 (wpAny_loadPart')
namespace En1
def ct(a v:Yj):checkTypeCall "enumerate" ⟨[a],[("start",v)]⟩=pure ():=by kernel_rfl
def cb(a v:Yj):checkBuiltinCall "enumerate.__new__" ⟨[.type "enumerate",a],[("start",v)]⟩=pure ():=by kernel_rfl
def ao(o a v:Yj):argsOk "object.__init__" ⟨[o,a],[("start",v)]⟩:=by unfold argsOk;kernel_rfl
def ini:Meets (Builtin.«object.__init__» ⟨[o,a],[("start",v)]⟩) (λ_ R s=>s.TypeIs o "enumerate" /\ R (.ok (.ret .none)) s):=by
 refine Meets.of_wp λprog w A R s z=>?_;obtain⟨ty,q⟩:=z;have hl:=F.called_enumerate.init.lookup;have hm:=F.called_enumerate.made;have hne:(Wx "enumerate.__new__" != Wx "object.__new__")=Wz:=by decide
 repeat (any_goals (first|assumption|wp_step))
 exact⟨_,rfl,q⟩
def nw(T:Yi)(us:Array Yj)(n:Nat)(dc:Option Yi)(sl:Array (Option Yj))(t:Tok):
 Meets (Builtin.«enumerate.__new__» ⟨[.type "enumerate",.ref T],[("start",.int 1 t)]⟩) (λ_ R s=>s.heap.get? T=Wx {cls:=.type "tuple",dict:=dc,data:=.seq us n,slots:=sl} /\
  R (.ok (.ret (.ref (s.heap.push {cls:=.type "tuple_iterator",data:=.fields #[.ref T,.int 0 0]}).objs.size)))
   {s with heap:=(s.heap.push {cls:=.type "tuple_iterator",data:=.fields #[.ref T,.int 0 0]}).push {cls:=.type "enumerate",data:=.fields #[.none,.bool WA,.ref s.heap.objs.size,rawInt 1,.none,.none]}}):=
 .of_wp λprog w A R s z=>by
  obtain⟨hp,g,d,tk,os⟩:=s;obtain⟨e,q⟩:=z;have hsub:=sub_enumerate;have tt:Heap.IsTuple (Shared.heap ⟨hp,g,d,tk,os⟩) T us:=⟨_,e,rfl,n,rfl⟩
  wp_walk using wpAny_loadPart' e
  refine wpAny_stack_any λst=>Yc ?_;split
  . rename_i c _ _ _ _ _;cases (c==Value.type "enumerate")
    . wp_walk using wpAny_loadPart' e,wpAny_pyIter_tuple tt
      exact⟨_,rfl,q⟩
    . wp_walk using wpAny_loadPart' e,wpAny_pyIter_tuple tt
      exact⟨_,rfl,q⟩
  . wp_walk using wpAny_loadPart' e,wpAny_pyIter_tuple tt
    exact⟨_,rfl,q⟩
end En1
end L2
end
section
namespace L2
open PySem PySem.Spec PyProof.Rows
namespace En1
section
variable {prog:Yh}{w:Yg}{A:YH}{E:Yj->Yb->Prop}{s:Yb}
def mk(tt:s.heap.IsTuple T us)
 (q:∀h1,IsEnum h1 (s.heap.objs.size+1) s.heap.objs.size 1 .none->h1.IsTupleIter s.heap.objs.size T 0->(∀b o,s.heap.get? b=Wx o->h1.get? b=Wx o)->Q (.ref (s.heap.objs.size+1)) {s with heap:=h1}) :
 YB (model prog w) A (call (.type "enumerate") [.ref T] [("start",.int 1 t)]) Q E s:=by
 obtain⟨⟨c,dc,dt,sl⟩,e,hc,n,hd⟩:=tt;obtain rfl:c=.type "tuple" := hc;obtain rfl:dt=.seq us n:=hd;have ft:=F.called_enumerate;obtain⟨c,tl,hmro⟩:=ft.mro;have hmade:=ft.made;have hsub:=ft.sub;have hct:=ct (.ref T) (.int 1 t);refine wpAny_call (codeAny_of_tree ?_);show YB _ _ (callAny (.type "enumerate") _) _ _ _;refine Yc ⟨Code.quiet_builtin _ (by decide +kernel),codeAny_builtin F.entry_type_call ?_⟩;rw[Around.under_plain (weight_type_call_type "enumerate" [.ref T] [("start",.int 1 t)]) (units_type_call_type "enumerate" [.ref T] [("start",.int 1 t)])];have h1:=ft.notType;have h2:=ft.canCreate
 repeat (any_goals (first|assumption|wp_step))
 refine codeAny_mono (codeAny_call_builtin ft.plain F.entry_enumerate_new (Wr (cb (.ref T) (.int 1 t)) (nw T us n dc sl t prog w A.in1 (wants (λobj s1=>s1.TypeIs obj "enumerate" /\ Q obj s1) E) s ⟨e,?_⟩))) λr s1 hr=>?_
 . have hz:(s.heap.push {cls:=.type "tuple_iterator",data:=.fields #[.ref T,.int 0 0]}).objs.size=s.heap.objs.size+1:=Heap.size_push ..;show _/\_;rw[hz];have he:IsEnum ((s.heap.push {cls:=.type "tuple_iterator",data:=.fields #[.ref T,.int 0 0]}).push {cls:=.type "enumerate",data:=.fields #[.none,.bool WA,.ref s.heap.objs.size,rawInt 1,.none,.none]}) (s.heap.objs.size+1) s.heap.objs.size 1 .none:=by have:=Oj (s.heap.push {cls:=.type "tuple_iterator",data:=.fields #[.ref T,.int 0 0]}) (o:={cls:=.type "enumerate",data:=.fields #[.none,.bool WA,.ref s.heap.objs.size,rawInt 1,.none,.none]}) rfl;rw[hz]at this;exact this
   exact⟨⟨_,he,rfl⟩,q _ he ⟨_,O1 _ (Oj _ rfl),rfl,rfl⟩ λb o x=>O1 _ (O1 _ x)⟩
 cases r with
 |error e=>exact hr
 |ok fl=>
  cases fl with
  |ret obj=>
   obtain⟨hT,hq⟩:=hr;have hli:=ft.init.lookup;have hbi:=ft.init.bind obj
   repeat (any_goals (first|assumption|wp_step))
   refine codeAny_mono (codeAny_call_builtin ft.init.plain F.entry_object_init (ft.init.check _ _ _ _ _ _ _ _ hT (ao obj (.ref T) (.int 1 t)) (ini prog w A.in1 (wants (λr s2=>r=.none/\Q obj s2) E) s1 ⟨hT,rfl,hq⟩))) λr2 s2 hr2=>?_;cases r2 with
   |error e=>exact hr2
   |ok fl2=>
    cases fl2 with
    |ret r=>
     obtain⟨rfl,hq⟩:=hr2
     repeat (any_goals (first|assumption|wp_step))
    |_=>exact hr2.elim
  |_=>exact hr.elim
end
end En1
end L2
end
section
namespace L2
open PySem PySem.Spec PyProof.Rows
noncomputable def It1(K:Yk)(a:Yi):It:=⟨λi H=>∃xs x,SqT K H a xs/\xs[i]? = Wx x,λi H v H'=>∃p,v=.ref p/\H p=Wy/\∃x,(∀xs,SqT K H a xs->xs[i]? = Wx x)/\H'=upd H p (.tup [.int (i+1:Nat),x]),λi H=>∃xs,SqT K H a xs/\xs.length=i⟩
def Zno{P:Yh}{w:Yg}{K:Yk}{es:List Expr}{kk:Nat}{tp:Pos}(a it e:Yi)(hei:e≠it)(hae:a≠e)(hai:a≠it):
 Turn P w K (.Tuple es kk tp) (It1 K a) [e,it] e (λi h=>(∃old,IsEnum h e it ((i+1:Nat):Int) old)/\h.IsTupleIter it a i) where
 mem:=by simp
 obj:=λi h st b hb=>by
  obtain⟨⟨old,he⟩,o,e1,c,d⟩:=st;rcases O3.mp hb with rfl|hb
  . exact⟨_,he,λv z=>by cases z⟩
  . have e2:b=it:=by simpa using hb
    subst e2;exact⟨o,e1,λv z=>by rw[d]at z;cases z⟩
 keep:=λi h h' st k=>by obtain⟨⟨old,he⟩,st⟩:=st;exact⟨⟨old,k e (by simp) _ he⟩,st.at λo z=>k it (by simp) o z⟩
 item:=by
  intro X hP hw hK hc i pins s Z H E I hf st hg;subst hP hw hK;obtain⟨xs,x,hq,hx⟩:=hg;obtain⟨its,rv,p,hz⟩:=I.tuple hq;have p:s.heap.IsTuple a its.toArray:=p;have hl:=rv.length;have hi:i<xs.length:=(Ob.mp hx).1;have D:=En1.dr (prog:=X.prog) (w:=X.w) (A:=X.A.in1) (I.ok.hd hc) it a hai its.toArray;have W:=WalksT.enumerateD (A:=X.A) D e hei (by simp[hei,YL hae]) (by simp);obtain⟨⟨old,he⟩,hit⟩:=st;refine wpAny_pyNext_enum_itemD D he ⟨i,rfl,hit,p⟩ (by simp;lia) hei (by simp[hei,YL hae]) λy h1 tk hy ho hst hT hsz hk=>?_;obtain⟨j,ej,hy⟩:=hy;obtain rfl:i=j:=by lia
  have e1:e<s.heap.objs.size:=Yn he;have e2:it<s.heap.objs.size:=by obtain⟨_,z,_⟩:=hit;exact Yn z
  have hT1:s.heap.objs.size≠e:=Nat.ne_of_gt e1;have hT2:s.heap.objs.size≠it:=Nat.ne_of_gt e2;refine⟨_,rfl,W.go _ _ _ (i+1) s.heap.objs.size {s with heap:=h1,toks:=tk+1} _ _ ⟨⟨_,ho⟩,hst,hT1,hT2⟩ λh2 st2 kk2=>?_⟩;have hy':its[i]? = Wx y:=by simpa using hy
  obtain⟨u,hu,ru⟩:=rv.get hx;rw[hy']at hu;cases hu;have hTw:s.heap.objs.size ∉ [e,it]:=by simp[hT1,hT2]
  have tup2:Zbn h2 s.heap.objs.size #[.int ((i+1:Nat):Int) tk,y]:=⟨_,kk2 _ _ hTw hT,rfl,rfl,_,rfl⟩
  have I2:Inv X pins Z (upd H s.heap.objs.size (.tup [.int ((i+1:Nat):Int),x])) {s with heap:=h2,toks:=tk+1}:=I.turnT hf (λb o hb q=>kk2 b o hb (hk b o (λz=>hb (by simp[z])) (λz=>hb (by simp[z])) q)) (Oq _) (us:=[.int ((i+1:Nat):Int) tk,y]) tup2 (.cons ⟨tk,rfl⟩ (.cons ru .nil)) (by show 2<=sizeLine;decide);obtain⟨s3,j,ej2,s4,s5⟩:=st2;obtain rfl:j=i+1:=by lia
  refine⟨.ref s.heap.objs.size,_,I2,rfl,⟨_,rfl,I.hok.fresh (Oq _),x,λys hy=>by rw[I.tuple_inj hy hq];exact hx,rfl⟩,⟨s3,s4⟩,λb hb=>?_⟩;have neb:b≠s.heap.objs.size:=λz=>hTw (by rw[<- z];exact hb);rw[Zg neb];exact(hf b hb).1
 done:=by intro X hP hw hK hc i pins s Z H E I hf st hg;subst hP hw hK;obtain⟨xs,hq,hx⟩:=hg;obtain⟨its,rv,p,hz⟩:=I.tuple hq;have p:s.heap.IsTuple a its.toArray:=p;have hl:=rv.length;have D:=En1.dr (prog:=X.prog) (w:=X.w) (A:=X.A.in1) (I.ok.hd hc) it a hai its.toArray;obtain⟨⟨old,he⟩,hit⟩:=st;refine wpAny_pyNext_enum_endD D he ⟨i,by simp;lia,hit,p⟩ λh1 ex=>⟨rfl,I.turnL (t':=s.toks) hf λb o hb q=>ex b o (λz=>hb (by simp[z])) q⟩
 self:=λA i s Q E st h=>by obtain⟨⟨old,he⟩,_⟩:=st;exact wpAny_pyIter_enum he h
section
variable {M:Model}{A:YH}{E:Yj->Yb->Prop}{s:Yb}{env:Env}
def Zpo(he:YA [e] env=[(WA,eval e env)])
 (h:YB M A (spliced (YS pos (YA [e] env))) (λvs s1=>YB M A (evalAll ((backToKw pos (We kws env)).map (·.2)))
  (λkvs s2=>YB M A (call (.type T) vs (((backToKw pos (We kws env)).filterMap (·.1)).zip kvs)) Q E s2) E s1) E s)
 (hall:(backToKw pos (We kws env)).all (·.1.isSome)=Wz:=by rfl) (hkw:(backToKw pos (We kws env)).any (·.1.isNone)=WA:=by rfl) :
 YB M A (callWith pos (.type T) [] (YS pos (YA [e] env)) (backToKw pos (We kws env))) Q E s:=by
 have hp:(YS pos (YA [e] env)).any (·.1)=WA:=by rw[he];rfl
 have g:YB M A (evalArgs (.type T) Wz (YS pos (YA [e] env)) (backToKw pos (We kws env))) (λa s1=>YB M A (call (.type T) ([]++a.pos) a.kw) Q E s1) E s:=by rw[he]at h ⊢;exact evalArgs_kwB hall h
 unfold callWith;refine Ya (Wi (Yf g (λa s1 h1=>Ya (wpAny_standAt ?_)) λ_ _ z=>z));simp only[hp,hkw,Bool.or_false];exact Ya (Yc (Ya (Yf h1 (λr s2 hr=>Ya (Wi (wpAny_point (Yc hr)))) λ_ _ z=>z)))
end
noncomputable def Zxg(K:Yk)(tl tk:TE):TI:=λZ H R=>tl Z H λv H1=>tk Z H1 λu H2=>∃a,v=.ref a/\u=.int 1/\(∃xs,SqT K H2 a xs)/\R (It1 K a) H2
def ZsV{X:Cx}{es:List Expr}{kk:Nat}{tp:Pos}{l y:Expr}{tl tk:TE}{p kp pos:Pos}(hg:Gl X "enumerate")(hm:X.mg "enumerate" = Wy)(hl:PE X l tl)(hy:PE X y tk)(he:YA [l] X.env=[(WA,eval l X.env)]):
 PI X (.Tuple es kk tp) (.Call (.Name "enumerate" p) [l] [⟨Wx "start",y,kp⟩] pos) (Zxg X.K tl tk):=by
 intro pins s Z H R I h;refine YY (Zde I hg hm boot_enumerate ?_);refine Zpo he ?_;rw[he];refine Calls.spliced_cons (thn (hl pins s Z H _ I h) λv s1 ⟨vv,H1,I1,r1,q1⟩=>Calls.spliced_nil ?_);refine kws_cons (thn (hy pins s1 Z H1 _ I1 q1) λu s2 ⟨uu,H2,I2,r2,q2⟩=>kws_nil ?_);obtain⟨a,rfl,rfl,⟨xs,hq⟩,q⟩:=q2;cases r1;obtain⟨t,rfl⟩:=r2;obtain⟨its,rv,pt,hz⟩:=I2.tuple hq;have pt:s2.heap.IsTuple a its.toArray:=pt;have hlt:a<s2.heap.objs.size:=by obtain⟨_,z,_⟩:=pt;exact Yn z
 refine En1.mk pt λh1 he hi kk=>?_;refine wpAny_pyIter_enum he ?_;refine⟨s2.heap.objs.size+1,[s2.heap.objs.size+1,s2.heap.objs.size],_,_,H2,rfl,I2.kept (t':=s2.toks) kk,Zno a s2.heap.objs.size (s2.heap.objs.size+1) (Nat.succ_ne_self _) (Ou (Nat.lt_succ_of_lt hlt)) (Ou hlt),⟨⟨_,he⟩,hi⟩,λb hb=>?_,q⟩;rcases O3.mp hb with rfl|hb
 . exact I2.fpOk (Wo _) (I2.hok.fresh (Wo _))
 . have e:b=s2.heap.objs.size:=by simpa using hb
   subst e;exact I2.fpOk (Oq _) (I2.hok.fresh (Oq _))
end L2
end
section
namespace L2
open PySem PySem.Spec PyProof.Rows
section
variable {X:Cx}{pins:List (Yi×Obj)}{Z:St}{H:Hp}{s:Yb}
def Inv.freeze(I:Inv X pins Z H s)(e:H a=Wx (.dK kvs))(ho:s.heap.get? a=Wx o):Inv X pins Z (upd H a (.frz o (.dK kvs))) s:=by
 have ne:∀b,(∀kvs,H b≠Wx (.dK kvs))->b≠a:=λb q z=>q kvs (by rw[z];exact e);refine I.un (t':=s.toks) (h':=s.heap) ⟨λb u q n _ _=>q,λb u q n _ _=>⟨u.slots,q⟩,λb u q n _=>?_,λb u q _=>⟨u,q⟩,λb xs q=>?_,λb u v q=>?_,λb ps q=>⟨#[],?_⟩⟩ ?_
 . rw[Zg (ne b λk z=>by rw[n]at z;cases z)];exact n
 . rw[Zg (ne b λk z=>by rw[q]at z;cases z)];exact q
 . rw[Zg (ne b λk z=>by rw[q]at z;cases z)];exact q
 . rw[Zg (ne b λk z=>by rw[q]at z;cases z),q];simp
 . have old:=I.hok a _ e;exact I.hok.write (x:=a) (e:=a) (by rw[e];trivial) (.inl rfl) (λb u _ q=>q) ⟨o,ho⟩ ⟨ho,old⟩
end
def Zq3(h:Zgl k u=Wz):RelV (kV k) u:=by
 rcases ZL h with ⟨i,t,rfl,rfl⟩|⟨x,t,rfl,rfl⟩
 . exact⟨t,rfl⟩
 . exact⟨t,rfl⟩
theorem ZlW:∀{kvs:List (Key×V)}{vs:List (Key×Yj)},KV kvs vs->kvs.map (·.1)=vs.map (·.1)
 |_,_,.nil=>rfl
 |_,_,.cons h t=>by rw[Op,Op,ZlW t,h.1]
noncomputable def Itd(a:Yi)(o:Obj)(kvs:List (Key×V)):It:=⟨λi H=>H a=Wx (.frz o (.dK kvs))/\i<kvs.length,λi H x H'=>H'=H/\∃k v,kvs[i]? = Wx (k,v)/\x=kV k,λi H=>H a=Wx (.frz o (.dK kvs))/\kvs.length<=i⟩
def ZpJ{P:Yh}{w:Yg}{K:Yk}{tg:Expr}(a it:Yi)(o:Obj)(kvs:List (Key×V))(es:Array DictEntry)(ep:Nat)(hd:o.data=.dict es ep):Turn P w K tg (Itd a o kvs) [it] it (λi h=>h.IsKeyIter it a i kvs.length ep) where
 mem:=by simp
 obj:=λi h st b hb=>by
  have e:b=it:=by simpa using hb
  subst e;obtain⟨o,e,c,d⟩:=st;exact⟨o,e,λv z=>by rw[d]at z;cases z⟩
 keep:=λi h h' st k=>st.at λo e=>k it (by simp) o e
 item:=by
  intro X hP hw hK hc i pins s Z H E I hf st hg;subst hP hw hK;obtain⟨ea,hi⟩:=hg;obtain⟨g1,hz,hsm,vs,rv,o2,es2,ep2,g2,x1,x2,x3,x4,x5⟩:=I.hok a _ ea;rw[g1]at g2;cases g2;rw[hd]at x2;cases x2;have hl:=rv.length;have hi2:i<vs.length:=by lia
  obtain⟨f0,f1,f2,f3,f4,f5⟩:=hf it (by simp);have hkv:(kvs[i]'hi).1=(vs[i]'hi2).1:=by have q:=congrArg (λl=>l[i]?) (ZlW rv);simp only[On,Og hi,Og hi2,Yv]at q;exact YF q
  refine wpAny_pyNext_dict_item (knd:=ZJ X.prog X.w) (kvs:=vs) (k:=(vs[i]'hi2).1) (v:=(vs[i]'hi2).2) (by rw[<- hl];exact st) ⟨o,es,g1,x1,hd,x3,x4,x5⟩ (by simp[hi2]) λkey h' hkey hit' hs'=>?_;have I1:Inv X pins Z H {s with heap:=h'}:=I.turned (t':=s.toks) (λb o hb e=>(hs'.2 b hb).trans e) f0 f1 f3 f4 f5;obtain⟨oi,e,c,d⟩:=id hit';exact⟨key,rfl,Zhm (s:={s with heap:=h'}) e c d (by decide) ⟨kV (kvs[i]'hi).1,H,I1,by rw[hkv];exact Zq3 hkey,⟨rfl,(kvs[i]'hi).1,(kvs[i]'hi).2,by simp[hi],rfl⟩,by rw[hl];exact hit',λb hb=>(hf b hb).1⟩⟩
 done:=by intro X hP hw hK hc i pins s Z H E I hf st hg;subst hP hw hK;obtain⟨ea,hi⟩:=hg;obtain⟨g1,hz,hsm,vs,rv,o2,es2,ep2,g2,x1,x2,x3,x4,x5⟩:=I.hok a _ ea;rw[g1]at g2;cases g2;rw[hd]at x2;cases x2;have hl:=rv.length;obtain⟨f0,f1,f2,f3,f4,f5⟩:=hf it (by simp);exact wpAny_pyNext_dict_end (knd:=ZJ X.prog X.w) (kvs:=vs) (I.ok.hd hc) (by rw[<- hl];exact st) ⟨o,es,g1,x1,hd,x3,x4,x5⟩ (by simp;lia) λh' eb=>⟨rfl,I.turned (t':=s.toks) (λb o hb e=>eb b o hb e) f0 f1 f3 f4 f5⟩
 self:=λ_ _ _ _ _ st h=>wpAny_pyIter_keyiter st h
noncomputable def iDk(tl:TE):TI:=λZ H R=>tl Z H λx H1=>∃a kvs,x=.ref a/\((H1 a=Wx (.dK kvs)/\∀o,R (Itd a o kvs) (upd H1 a (.frz o (.dK kvs))))\/∃o,H1 a=Wx (.frz o (.dK kvs))/\R (Itd a o kvs) H1)
def Zu8{X:Cx}{tg l:Expr}{tl:TE}(hl:PE X l tl):PI X tg l (iDk tl):=by
 intro pins s Z H R I h;refine thn (hl pins s Z H _ I h) λv s1 ⟨x,H1,I1,r1,q1⟩=>?_;obtain⟨a,kvs,rfl,q⟩:=q1;cases r1;have main:∀(o:Obj) (H2:Hp),Inv X pins Z H2 s1->H2 a=Wx (.frz o (.dK kvs))->R (Itd a o kvs) H2->YB (model X.prog X.w) X.A (pyIter (.ref a)) (PIE X pins Z tg R) X.xe s1:=by
  intro o H2 I2 ea hR;obtain⟨g1,hz,hsm,vs,rv,o2,es,ep,g2,x1,x2,x3,x4,x5⟩:=I2.hok a _ ea;rw[g1]at g2;cases g2;refine wpAny_pyIter_dict (knd:=ZJ X.prog X.w) hsm ⟨o,es,g1,x1,x2,x3,x4,x5⟩ ?_;refine⟨s1.heap.objs.size,[s1.heap.objs.size],_,_,H2,rfl,I2.kept (t':=s1.toks) λb o e=>O1 _ e,ZpJ a _ o kvs es ep x2,⟨_,Oj _ rfl,rfl,by rw[rv.length];rfl⟩,λb hb=>?_,hR⟩;have e:b=s1.heap.objs.size:=by simpa using hb
  subst e;exact I2.fpOk (Oq _) (I2.hok.fresh (Oq _))
 rcases q with ⟨ea,hR⟩|⟨o,ea,hR⟩
 . obtain⟨hz,hsm,vs,rv,o,es,ep,g2,r⟩:=I1.hok a _ ea;exact main o _ (I1.freeze ea g2) Zi (hR o)
 . exact main o _ I1 ea hR
end L2
end
section
namespace L2
open PySem PySem.Spec PyProof.Rows
def ZvF(X:Cx)(hs:List ExceptHandler)(Q:Flow->Yb->Prop):Yj->Yb->Prop:=λe s₁=>YB (model X.prog X.w) X.A (noteFrame e X.env) (λ_ s₂=>YB (model X.prog X.w) X.A (setFlight e Wy) (λ_ s₃=>YB (model X.prog X.w) X.A (handleBy e X.env hs) Q X.xe s₃) X.xe s₂) X.xe s₁
section
variable {X:Cx}{cx:Str}{np hpos pos:Pos}{C2:Yi}{b0:Stmt}{suite body:List Stmt}
def ZmB(hgc:Gl X cx)(hmc:X.mg cx=Wx (.ref C2))(hC:ExcN X.K C2)(hstk:X.stack=X.env::X.outer)(hfrm:X.env.frame=Wx X.env.locals)
 (hdb2:(cx==("__debug__" : Str))=WA) (hE:∀cls H',E1 cls Wy H'->YV X.K cls (.ref C2)=Wx Wz/\∀C,cls=.ref C->∀a oe s',oe.cls=cls->Inv (cxH X a oe) pins Z H' s'->YB (model X.prog X.w) (cxH X a oe).A (execs (b0::suite) X.env) Q (λ_ _=>False) s')
 (hcls:∀cls H',E1 cls Wy H'->∃C,cls=.ref C) (I1:Inv X pins Z H s) (hq:CXF X.prog X.w X.stack H s E1 e s'):ZvF X [.ExceptHandler (Wx (.Name cx np)) Wy (b0::suite) hpos] Q e s':=by
 obtain⟨a,cls,a0,H',B_,rfl,os,bare,un,hok,fl,kb,hna,h1⟩:=hq;obtain⟨C,rfl⟩:=hcls _ _ h1;obtain⟨hsub,hts⟩:=hE _ _ h1;have hfr:X.A.frames=Wx (X.env::X.outer):=by rw[<- hstk];exact I1.ok.frames
 have fl':Heap.FlyingW B_ (X.env::X.outer) a (.ref C) a0 s'.heap:=by rw[<- hstk];exact fl
 have I':=I1.call' (ch:=[]) os un hok bare (λb z=>absurd z (by simp));have hfo:∀b∈frs X.stack,∃o,s'.heap.get? b=Wx o/\∀vs,o.data≠.fields vs:=λb hb=>by obtain⟨_,o,q,nf⟩:=I'.stack.mem hb;exact⟨o,q,nf⟩
 have atH:∀h2:YG,B_.StaysIn h2->s'.heap.UpToSlots h2->∀tk,Inv X pins Z H' {s' with heap:=h2,toks:=tk}:=λh2 st up tk=>by obtain⟨r1,r2,_⟩:=Zd7 un hok kb st up hfo;exact I1.call' (s':={s' with heap:=h2,toks:=tk}) (ch:=[]) os r1 r2 bare (λb z=>absurd z (by simp))
 refine wpAny_looks_onW hfr hfrm fl' λh4 held4 up4=>?_;refine wpAny_landsW held4 λh5 fl5 up5=>?_;have I5:Inv X pins Z H' {s' with heap:=h5}:=atH h5 fl5.1 (up4.trans up5) s'.toks;refine wpAny_handleBy_cons (codeAny_handlers_test (ZcG (X:=cxM X a) (I5.toM a) hgc hmc ?_ hdb2)) (by intro q;cases q);obtain⟨oe,hoe,hoc⟩:=fl5.there;refine Zjt (s:={s' with heap:=h5}) I5.kIn hC.ty hC.cls hC.exc hsub hoe hoc (codeAny_handlers_suite ?_);refine lands_againW fl5 λh6 fl6 up6=>?_;have I6:Inv X pins Z H' {s' with heap:=h6}:=atH h6 fl6.1 ((up4.trans up5).trans up6) s'.toks;obtain⟨oe6,ws,hoe6,hoc6,hod6,_⟩:=fl6.first;have hnl:a≠X.env.locals:=λz=>by obtain⟨m,⟨o,es',ep,ho,hd,_⟩,_⟩:=I6.loc;rw[<- z,hoe6]at ho;cases ho;rw[hod6]at hd;cases hd
 have hnf:a ∉ X.fs:=λz=>by obtain⟨_,o,q,nf⟩:=I6.funs.mem z;rw[hoe6]at q;cases q;exact nf _ hod6
 have IH:Inv (cxH X a oe6) pins Z H' {s' with heap:=h6}:=I6.toH hoe6 hna hnl hnf (λv z=>by rw[hod6]at z;cases z);exact Yf (hts C rfl a oe6 _ hoc6 IH) (λ_ _ z=>z) λ_ _ z=>z.elim
end
noncomputable def ZuB(K:Yk)(sp:Sp)(C2:Yi)(i:Nat)(ts:Yi->Obj->TS)(t:TA):TS:=λD Z H=>t Z H λvs H1=>sp vs H1 (λv H2=>D.nx (Z.set i (Wx v)) H2) (λcls _ H2=>∃C,cls=.ref C/\YV K (.ref C) (.ref C2)=Wx Wz/\∀a oe,ts a oe D Z H2)
section
variable {X:Cx}{k:Nat}{x cx n:Str}{ps:List Str}{sp:Sp}{e:Expr}{es:List Expr}{t:TA}{p np cpos apos hpos pos px:Pos}{C2:Yi}{i:Nat}{b0:Stmt}{suite:List Stmt}{ts:Yi->Obj->TS}
def Zmu(F:Def X.prog X.w X.K X.mg X.base k x ps sp)(hr:Room k X.A)(hg:Gl X x)(ha:PA X.nox (e::es) t)
 (hgc:Gl X cx) (hmc:X.mg cx=Wx (.ref C2)) (hC:ExcN X.K C2) (hN:X.N.Nodup) (hi:X.N[i]? = Wx n) (hx:Loc X.env.scope n) (hf:X.fn n=Wz\/X.env.scope.names.lookup n=Wx .local) (hstk:X.stack=X.env::X.outer) (hfrm:X.env.frame=Wx X.env.locals)
 (hsuite:∀a oe,PSs (cxH X a oe) (b0::suite) (ts a oe)) (hdb:(x==("__debug__" : Str))=WA) (hdb2:(cx==("__debug__" : Str))=WA) (he:YA (e::es) X.env=(WA,eval e X.env)::YA es X.env) (hpl:(YS cpos (YA es X.env)).any (·.1)=WA)
 (hsw:swapsWith (.Call (.Name x p) (e::es) [] cpos) (Wx (.Name n px)) apos.line X.env=pure WA:=by rfl) :
 PS X (.Try [.Assign [.Name n px] (.Call (.Name x p) (e::es) [] cpos) apos] [.ExceptHandler (Wx (.Name cx np)) Wy (b0::suite) hpos] [] [] pos) (ZuB X.K sp C2 i ts t):=by
 obtain⟨f,fd,hm,hk,hb,F⟩:=F;intro pins s Z H D I h;refine wpAny_Try_except (wpAny_execs_cons (wpAny_Assign_Name (YY (ZcG I hg hm ?_ hdb)) hsw));refine PySem.W.callWith_K (h₀:=X.base) I.ok.mod.kin hk (Yf (ha cpos pins s Z H _ (I.wish _) h) (λus s1 ⟨vs,H1,I1',r,q⟩=>?_) λ_ _ z=>z.elim) he hpl;have I1:Inv X pins Z H1 s1:=I1'.unwish;refine⟨I1.kIn,?_⟩;have hlen:(us++[]).length=ps.length:=by rw[Yt,<- r.length];exact F.len _ _ _ _ q
 have hbt:=hb s1 us I1.kIn hlen;rw[Yt]at hbt;refine wpAny_call (codeAny_mono (F.run X.A X.stack s1 H1 ⟨us,[]⟩ us vs _ _ hr I1.env0 hbt r q) λr s' hq=>?_);cases r with
 |ok fl=>
  cases fl with
  |ret u=>obtain⟨v,H',I',rv,q'⟩:=I1.after hq;exact Zeh I' hN hi hx rv (λs2 I2=>wpAny_execs_nil (wpAny_execs_nil ⟨_,H',I2,q'⟩)) hf
  |next=>exact False.elim hq
  |brk=>exact False.elim hq
  |cont=>exact False.elim hq
 |error ev=>
  have hq:CXF X.prog X.w X.stack H1 s1 (λcls _ H2=>∃C,cls=.ref C/\YV X.K (.ref C) (.ref C2)=Wx Wz/\∀a oe,ts a oe D Z H2) ev s':=hq;refine ZmB (np:=np) (hpos:=hpos) (Z:=Z) (Q:=SP X pins D) hgc hmc hC hstk hfrm hdb2 (λcls H' z=>?_) (λcls H' z=>?_) I1 hq
  . obtain⟨C,rfl,hs,ht⟩:=z;refine⟨hs,λ_ _ a oe s' _ I'=>?_⟩;refine Yf (hsuite a oe pins s' Z H' D I' (ht a oe)) (λfl s8 q8=>?_) λ_ _ z=>z;cases fl with
    |next=>obtain⟨σ',H8,I8,q8⟩:=q8;exact⟨σ',H8,I8.ofH I.ok.hd,q8⟩
    |brk=>obtain⟨σ',H8,I8,q8⟩:=q8;exact⟨σ',H8,I8.ofH I.ok.hd,q8⟩
    |cont=>obtain⟨σ',H8,I8,q8⟩:=q8;exact⟨σ',H8,I8.ofH I.ok.hd,q8⟩
    |ret v=>obtain⟨y,σ',H8,I8,r8,q8⟩:=q8;exact⟨y,σ',H8,I8.ofH I.ok.hd,r8,q8⟩
  . obtain⟨C,rfl,_⟩:=z;exact⟨C,rfl⟩
end
end L2
end
section
namespace L2
open PySem PySem.Spec PyProof.Rows
def ZmJ(h:env.frame=env'.frame):noteFrame e env=noteFrame e env':=by unfold noteFrame PySem.frameOf;rw[h]
structure Fly(B_:YG)(l:List Env)(a:Yi)(cls a0 fl:Yj)(h:YG):Prop where
 stay:B_.StaysIn h
 new:B_.get? a=Wy
 fr:h.FunFrames B_ l
 tr:h.TracedAtW B_ a cls a0 fl
section
variable {M:Model}{A:YH}{E:Yj->Yb->Prop}{s:Yb}{B_:YG}{l:List Env}{a:Yi}{cls a0 fl:Yj}{Q:Unit->Yb->Prop}
def Znj(x:Fly B_ l a cls a0 fl h)(t1:h.get? T=Wx oT)(t2:oT.data=.fields ts)(t3:B_.get? T=Wy):
 (∀b,b≠T->(h.update T (Obj.mapFields (·.setIfInBounds 3 v))).get? b=h.get? b)/\B_.StaysIn (h.update T (Obj.mapFields (·.setIfInBounds 3 v)))/\(h.update T (Obj.mapFields (·.setIfInBounds 3 v))).FunFrames B_ l/\h.UpToSlots (h.update T (Obj.mapFields (·.setIfInBounds 3 v))):=by
 have o:∀b,b≠T->(h.update T (Obj.mapFields (·.setIfInBounds 3 v))).get? b=h.get? b:=λb hb=>YN _ _ (YL hb);have nr:∀b ob,h.get? b=Wx ob->(∀vs,ob.data≠.fields vs)->b≠T:=λb ob hb hn z=>by subst z;cases t1.symm.trans hb;exact hn _ t2
 exact⟨o,λb ob hb=>(o b λz=>by subst z;cases t3.symm.trans hb).trans (x.stay b ob hb),x.fr.of_keeps λb ob hb hn=>⟨ob,(o b (nr b ob hb hn)).trans hb,rfl⟩,λb ob hb hn=>⟨ob.slots,(o b (nr b ob hb hn)).trans hb⟩⟩
def Zgu(x:Fly B_ l a cls a0 fl s.heap)(q:∀h',Fly B_ l a cls a0 (f.elim .none λz=>rawInt z) h'->s.heap.UpToSlots h'->Q () {s with heap:=h'}):YB M A (setFlight (.ref a) f) Q E s:=by obtain⟨oe,us,T,oT,ts,b1,b2,b3,b4,b5,b6,b7,b8,b9⟩:=x.tr;have z3:3<ts.size:=(Array.getElem?_eq_some_iff.mp b9).1;obtain⟨o,k1,k2,k3⟩:=Znj (v:=f.elim .none λz=>rawInt z) x b7 b8 b5;unfold setFlight;refine Ya (YR b1 b3 b4 ?_);rw[if_pos (by simp)];refine wpAny_setField b7 b8 z3 (q _ ⟨k1,x.new,k2,oe,us,T,_,_,(o a (YL b6)).trans b1,b2,b3,b4,b5,b6,YX _ b7 (Obj.isFreed_of_fields (YZ b8 _)),YZ b8 _,by simp[z3]⟩ k3)
def Zky(hfr:A.frames=Wx (env::outer))(hf:env.frame=Wx L)(x:Fly B_ (env::outer) a cls a0 fl s.heap)(q:∀h',Heap.FlyingW B_ outer a cls a0 h'->s.heap.UpToSlots h'->Q () {s with heap:=h'}):YB M A (leaving env (.ref a)) Q E s:=by
 have fin:∀(s1:Yb),Fly B_ (env::outer) a cls a0 (rawInt L) s1.heap->s.heap.UpToSlots s1.heap->(∀h',{s1 with heap:=h'}={s with heap:=h'})->YB M A (setFlight (.ref a) Wy) Q E s1:=λs1 x1 u e=>Zgu x1 λh' x2 u2=>by rw[e];exact q h' ⟨x2.stay,x2.new,x2.fr.2.2,x2.tr⟩ (u.trans u2)
 unfold leaving;refine Ya ?_;by_cases hL:fl=rawInt L
 . subst hL;exact wpAny_noteFrame_againW hf x.tr (fin s x (Heap.UpToSlots.refl _) λ_=>rfl)
 . obtain⟨oe,us,T,oT,ts,b1,b2,b3,b4,b5,b6,b7,b8,b9⟩:=x.tr;obtain⟨c1,c2⟩:=b2;subst c1;obtain⟨o,k1,k2,k3⟩:=Znj (v:=.none) x b7 b8 b5;unfold noteFrame;simp only[hf];refine Ya (YR b1 b3 b4 ?_);rw[if_pos (by simp)];refine Ya (YR b7 b8 b9 ?_);rw[if_neg (by simpa using hL)];refine Ya (wpAny_setField b7 b8 (Array.getElem?_eq_some_iff.mp b9).1 ?_);refine wpAny_entryW hfr k2 hf ((o a (YL b6)).trans b1) k1 x.new b3 (Array.getElem?_eq_some_iff.mp b4).1 c2 λh' ⟨x1,x2,x3,x4⟩=>?_;exact fin _ ⟨x1,x.new,x2,x3⟩ (k3.trans x4) λ_=>rfl
end
def Zja(un:Un fs [] H H' h h1)(hok:HOk P w H' h1)(kb:Kept fs H' h h1 B_)(stay:B_.StaysIn h2)
 (hf:∀b∈fs,∀o,h1.get? b=Wx o->∃sl,h2.get? b=Wx {o with slots:=sl}):Un fs [] H H' h h2/\HOk P w H' h2/\Kept fs H' h h2 B_:=by
 have tr:∀b u,H' b=Wx u->∃o,h1.get? b=Wx o/\h2.get? b=Wx o/\B_.get? b=Wx o:=λb u e=>by obtain⟨o,q⟩:=(hok b u e).there;have z:=kb b o q (.inl (by rw[e];simp));exact⟨o,q,stay _ _ z,z⟩
 have old:∀b o,h.get? b=Wx o->b ∉ fs->∃o1,h1.get? b=Wx o1/\h2.get? b=Wx o1/\B_.get? b=Wx o1:=λb o e hb=>by obtain⟨o1,q⟩:=un.there b o e (by simp);have z:=kb b o1 q (.inr ⟨⟨o,e⟩,hb⟩);exact⟨o1,q,stay _ _ z,z⟩
 refine⟨⟨λb o e n hb _=>?_,λb o e n hb _=>?_,λb o e n _=>un.free b o e n (by simp),λb o e _=>?_,un.tups,un.frzs,un.tbls⟩,λb u e=>?_,λb o e hb=>?_⟩
 . obtain⟨o1,q1,q2,_⟩:=old b o e hb;cases (un.keep b o e n hb (by simp)).symm.trans q1;exact q2
 . obtain⟨sl,z⟩:=un.slot b o e n hb (by simp);obtain⟨sl',q⟩:=hf b hb _ z;exact⟨sl',q⟩
 . by_cases hb:b∈fs
   . obtain⟨o1,q1⟩:=un.there b o e (by simp);obtain⟨sl',q⟩:=hf b hb _ q1;exact⟨_,q⟩
   . obtain⟨o1,_,q2,_⟩:=old b o e hb;exact⟨_,q2⟩
 . refine(hok b u e).stay (λc v hc q=>?_) (λ_ q=>q) λ_ _ q=>q;have hc':∃u',H' c=Wx u':=by
    rcases hc with rfl|hc
    . exact⟨u,e⟩
    . exact⟨_,hc⟩
   obtain⟨u',e'⟩:=hc';obtain⟨o,q1,q2,_⟩:=tr c u' e';cases q.symm.trans q1;exact q2
 . rcases hb with hb|⟨⟨o',e'⟩,hb⟩
   . cases q:H' b with
     |none=>exact absurd q hb
     |some u=>obtain⟨o1,q1,q2,q3⟩:=tr b u q;cases e.symm.trans q2;exact q3
   . obtain⟨o1,q1,q2,q3⟩:=old b o' e' hb;cases e.symm.trans q2;exact q3
def Fly.hide(x:Fly B_ l a cls a0 fl h)(hn:h.Ns C m)(sb:Heap.SameBut C h h')(hl:∀b∈l.filterMap (·.frame),b≠C):Fly (Wb B_ [C]) l a cls a0 fl h':=by
 obtain⟨oC,es,ep,hoC,hdC,_⟩:=hn;have nf:∀b o vs,h.get? b=Wx o->o.data=.fields vs->b≠C:=λb o vs e d z=>by subst z;cases hoC.symm.trans e;rw[hdC]at d;cases d
 have small:∀b,B_.get? b=Wy->(Wb B_ [C]).get? b=Wy:=λb e=>by
  cases q:(Wb B_ [C]).get? b with
  |none=>rfl
  |some o=>rw[PySem.W.of_hideAll _ q]at e;cases e
 obtain⟨oe,us,T,oT,ts,b1,b2,b3,b4,b5,b6,b7,b8,b9⟩:=x.tr;refine⟨λb o e=>?_,small _ x.new,?_,oe,us,T,oT,ts,(sb.2 a (nf _ _ _ b1 b3)).trans b1,b2,b3,b4,small _ b5,b6,(sb.2 T (nf _ _ _ b7 b8)).trans b7,b8,b9⟩
 . have hb:b≠C:=λz=>by rw[z,PySem.W.hideAll_none [C] (by simp)]at e;cases e
   exact(sb.2 b hb).trans (x.stay b o (PySem.W.of_hideAll _ e))
 . have go:∀l:List Env,h.FunFrames B_ l->(∀b∈l.filterMap (·.frame),b≠C)->h'.FunFrames (Wb B_ [C]) l:=by
    intro l;induction l with
    |nil=>exact λ_ _=>trivial
    |cons e r ih=>rintro ⟨k,⟨L,o,f1,f2,f3,f4⟩,k2⟩ hb;have hL:L≠C:=hb L (List.mem_filterMap.mpr ⟨e,Oi,f1⟩);refine⟨k,⟨L,o,f1,small _ f2,(sb.2 L hL).trans f3,f4⟩,ih k2 λb hb'=>hb b ?_⟩;obtain⟨y,hy,ey⟩:=List.mem_filterMap.mp hb';exact List.mem_filterMap.mpr ⟨y,Oh _ hy,ey⟩
   exact go l x.fr hl
section
variable {P:Yh}{w:Yg}{K:Yk}{mg:Str->Option Yj}{base:YG}{N:List Str}{qual:Str}{scope:Scope}{f:Yi}{cd:Yj}{A:YH}{outer:List Env}{s0:Yb}{H0:Hp}{E:XK}
def ZmC(I3:Inv (ZeU (CXF P w) P w K mg base N qual scope f cd A outer s0 H0 E) pins3 σ3 H3 s3)
 (f3:∀b∈fp,Zbt (ZeU (CXF P w) P w K mg base N qual scope f cd A outer s0 H0 E) pins3 H3 b) (hC:C=s3.heap.objs.size) (hE:∀cls H',E1 cls Wy H'->E cls Wy H'):ZaU (CXF P w) (ZA (ZeU (CXF P w) P w K mg base N qual scope f cd A outer s0 H0 E) NC sc C s3 H3 fp) E1:=by
 intro pins Z H s e s' I hx;obtain⟨a,cls,a0,H',B_,rfl,os,bare,un,hok,fl,kb,ha,hE1⟩:=hx;have I':=I.call' (ch:=[]) os un hok bare (λb z=>absurd z (by simp));have I0:Inv (ZA (ZeU (CXF P w) P w K mg base N qual scope f cd A outer s0 H0 E) NC sc C s3 H3 fp) [] Z H' s':=I'.pins_of λp hp=>by cases hp
 have Io:=I3.comp_out (h'':=s'.heap) f3 hC I0 ⟨rfl,λ_ _=>rfl⟩;have hfr:(A.deeper (envOfC qual scope s0.heap.objs.size f cd)).frames=Wx (envOfC qual scope s0.heap.objs.size f cd::outer):=I3.ok.frames;have lt3:s0.heap.objs.size<s3.heap.objs.size:=I3.lt;have frC:∀b∈frs (envOfC qual scope s0.heap.objs.size f cd::outer),b≠C:=λb hb z=>by
  have hm:b∈s0.heap.objs.size::frs outer:=I3.stkSub b hb;subst z;rw[hC]at hm;rcases O3.mp hm with q|q
  . exact absurd q (Nat.ne_of_gt lt3)
  . obtain⟨_,o,q1,_⟩:=I3.funs.mem q;exact absurd (Yn q1) (Yw _)
 show YB (model P w) (A.deeper (envOfC qual scope s0.heap.objs.size f cd)) (noteFrame (.ref a) _) _ _ s';rw[ZmJ (env:=compEnvC sc (Zdn (ZeU (CXF P w) P w K mg base N qual scope f cd A outer s0 H0 E).env sc.names []) C (ZeU (CXF P w) P w K mg base N qual scope f cd A outer s0 H0 E).env) (env':=envOfC qual scope s0.heap.objs.size f cd) rfl];refine wpAny_looks_onW hfr rfl fl λh4 held4 up4=>?_;obtain⟨m,hn,_⟩:=I'.loc;have hn4:h4.Ns C m:=up4.ns hn;refine⟨m,hn4,λh5 sb cenv hc=>?_⟩;have x5:Fly (Wb B_ [C]) (envOfC qual scope s0.heap.objs.size f cd::outer) a cls a0 (rawInt s0.heap.objs.size) h5:=Fly.hide ⟨held4.1,held4.2.1,held4.2.2.1,held4.2.2.2⟩ hn4 sb frC;have ht:=x5.tr;obtain⟨oe,us,T,oT,ts,b1,b2,b3,b4,b5,b6,b7,b8,b9⟩:=ht;unfold PySem.passOn;refine Ya (YR b1 b3 b4 ?_);rw[if_neg (by simp)];refine Ya (Zgu (s:={s' with heap:=h5}) x5 λh6 x6 up6=>wpAny_throw ?_);show YB (model P w) (A.deeper (envOfC qual scope s0.heap.objs.size f cd)) (leaving (envOfC qual scope s0.heap.objs.size f cd) (.ref a)) _ _ {s' with heap:=h6};refine Zky hfr rfl x6 λh7 x7 up7=>?_;have kb':Kept (frs outer) H' s0.heap s'.heap (Wb B_ [C]):=λb o e1 hb=>by
  have nC:b≠C:=λz=>by
   subst z;rcases hb with hb|⟨⟨o',e'⟩,hb⟩
   . exact hb I'.free
   . rw[hC]at e';exact absurd (Yn e') (Nat.not_lt.mpr (Nat.le_of_lt lt3))
  refine PySem.W.hideAll_get _ (kb b o e1 ?_) (by simpa using nC);rcases hb with hb|⟨⟨o',e'⟩,hb⟩
  . exact .inl hb
  . obtain⟨o1,q1⟩:=(I3.base:Un (frs outer) [] H0 H3 s0.heap s3.heap).there b o' e' (show b ∉ ([]:List Yi)from List.not_mem_nil);have nfp:b ∉ fp:=λhm=>by
     rcases(f3 b hm).2.2.2.1 with z|z
     . cases z
     . exact absurd (Yn e') (Nat.not_lt.mpr z)
    obtain⟨o2,q2⟩:=I.base.there b o1 q1 nfp;refine .inr ⟨⟨o2,q2⟩,λhm=>?_⟩;have hm':b∈s0.heap.objs.size::frs outer:=I3.stkSub b hm;rcases O3.mp hm' with z|z
    . rw[z]at e';exact absurd (Yn e') (Yw _)
    . exact hb z
 have hff:∀b∈frs outer,∀o,s'.heap.get? b=Wx o->∃sl,h7.get? b=Wx {o with slots:=sl}:=λb hb o e1=>by
  obtain⟨_,o',q1,nf⟩:=Io.funs.mem hb;cases e1.symm.trans q1;obtain⟨sl4,q4⟩:=up4 b o e1 nf;have hm:b∈frs (envOfC qual scope s0.heap.objs.size f cd::outer):=by obtain⟨y,hy,ey⟩:=List.mem_filterMap.mp hb;exact List.mem_filterMap.mpr ⟨y,Oh _ hy,ey⟩
  have q5:=(sb.2 b (frC b hm)).trans q4;obtain⟨sl6,q6⟩:=up6 b _ q5 nf;obtain⟨sl7,q7⟩:=up7 b _ q6 nf;exact⟨sl7,q7⟩
 obtain⟨r1,r2,r3⟩:=Zja (Io.base:Un (frs outer) [] H0 H' s0.heap s'.heap) hok kb' x7.1 hff;exact⟨a,cls,a0,H',_,rfl,Io.os,bare,r1,r2,x7,r3,ha,hE _ _ hE1⟩
end
end L2
end
section
set_option tactic.hygienic false
namespace IV
open PySem PySem.Spec PyProof.Rows L2
inductive D where
 |non|bl (b:Bool)|int (i:Int)|str (x:Str)|tup (xs:List D)|ref (i:Nat)|ty (n:String)
 |ro (xs:List D)|kd (x:Str)
inductive DO where
 |lst (xs:List D)|dic (kvs:List (Key×D))|ins (C:Str) (fs:List (Str×D))
 |fdic (kvs:List (Key×D))
noncomputable abbrev Hd:=List DO
inductive R(α:Type) where
 |bad|ok (a:α) (h:Hd)|exc (c:Str) (h:Hd)
noncomputable def R.bind(r:R α)(k:α->Hd->R β):R β:=match r with
 |.bad=>.bad
 |.ok a h=>k a h
 |.exc c h=>.exc c h
def R.bind_ok:(R.ok a h).bind k=k a h:=rfl
def R.bind_bad:(R.bad:R α).bind k=.bad:=rfl
noncomputable def R.ofO(o:Option α)(h:Hd):R α:=match o with
 |some a=>.ok a h
 |none=>.bad
def R.ofO_some:R.ofO (Wx a) h=.ok a h:=rfl
noncomputable abbrev Ev:=List (Option D)
inductive Bf where
 |len|isi|int|tup|lst|sum|all|srt|mx
 deriving DecidableEq
inductive Mf where
 |app|ext|pop|rev|clr
 deriving DecidableEq
mutual
inductive Ex where
 |var (i:Nat)|cst (d:D)|glo (x:Str)
 |bin (op:Operator) (a b:Ex)|cmp (op:CmpOp) (a b:Ex)|cmp2 (op op':CmpOp) (a b c:Ex)
 |neg (a:Ex)|nt (a:Ex)|ands (es:Exs)|ors (es:Exs)|ite (c:Tx) (a b:Ex)
 |tupl (es:Exs)|lstl (es:Exs)|ix (a i:Ex)|sl (a:Ex) (lo hi:Option Ex)
 |blt (f:Bf) (es:Exs)|call (f:Str) (es:Exs)|meth (m:Mf) (o:Ex) (es:Exs)
 |comp (NC:List Str) (js:List (Option Nat)) (it:Ix) (g:Tg) (c:Option Tx) (e:Ex)
 |sorts (e:Ex)|dictl (ps:Exs)|maxd (e d:Ex)
 |att (Cs:List Str) (o:Ex) (f:Str)|mk (C:Str) (es:Exs)|mcl (C m:Str) (o:Ex) (es:Exs)|any
 |trev (e:Ex)|tix (o e:Ex)|lrv (e:Ex)|lix (o e:Ex)|lin (a b:Ex)
inductive Exs where
 |nil|cons (e:Ex) (es:Exs)
inductive Ix where
 |pl (e:Ex)|rng (e:Ex)|rng2 (a b:Ex)|enu (e:Ex)|rev (e:Ex)
 |en1 (e:Ex)|en0 (e:Ex)|dk (e:Ex)
inductive Tg where
 |nm (i:Nat)|two (i j:Nat)|many (is:List Nat)
inductive Tx where
 |ex (e:Ex)|ands (ts:Txs)|ors (ts:Txs)|nt (a:Tx)
inductive Txs where
 |one (t:Tx)|cons (t:Tx) (ts:Txs)
end
mutual
inductive Sx where
 |ret (e:Ex)|set (g:Tg) (e:Ex)|put (o i e:Ex)|aug (i:Nat) (op:Operator) (e:Ex)|drp (e:Ex)
 |iff (c:Tx) (a b:Sxs)|whl (c:Tx) (b:Sxs)|forr (g:Tg) (it:Ix) (b:Sxs)|pas|brk|cnt
 |seta (Cs:List Str) (o:Ex) (f:Str) (e:Ex)|auga (Cs:List Str) (o:Ex) (f:Str) (e:Ex)|any
 |rai (C:Str) (e:Ex)|trs (i:Nat) (f:Str) (es:Exs) (C:Str)
inductive Sxs where
 |nil|cons (s:Sx) (r:Sxs)
end
noncomputable instance:DecidableEq D:=λa b=>Classical.propDecidable (a=b)
noncomputable instance:DecidableEq DO:=λa b=>Classical.propDecidable (a=b)
mutual
noncomputable def D.py(rd:Nat->Option PyData):D->Option PyData
 |.non=>Wx .none
 |.bl b=>Wx (.bool b)
 |.int i=>Wx (.int i)
 |.str x=>Wx (.str x)
 |.tup xs=>(D.pys rd xs).map .tuple
 |.ro xs=>(D.pys rd xs).map .list
 |.ref i=>rd i
 |_=>Wy
noncomputable def D.pys(rd:Nat->Option PyData):List D->Option (List PyData)
 |[]=>Wx []
 |x::xs=>(D.py rd x).bind λd=>(D.pys rd xs).map λds=>d::ds
end
noncomputable def ZhJ(h:Hd):Nat->Nat->Option PyData
 |0,_=>Wy
 |n+1,i=>match h[i]? with
  |some (.lst xs)=>(D.pys (ZhJ h n) xs).map .list
  |_=>Wy
noncomputable def ZiU(h:Hd)(d:D):Option PyData:=D.py (ZhJ h 4) d
noncomputable def Zc0(o:DO)(h:Hd):R D:=.ok (.ref h.length) (h++[o])
noncomputable def lstOf(d:D)(h:Hd):Option (List D):=match d with
 |.ref i=>match h[i]? with
  |some (.lst xs)=>Wx xs
  |_=>Wy
 |.ro xs=>Wx xs
 |_=>Wy
noncomputable def dicOf(GD:Str->Option (List (Key×D)))(d:D)(h:Hd):Option (List (Key×D)):=match d with
 |.ref i=>match h[i]? with
  |some (.dic kvs)=>Wx kvs
  |some (.fdic kvs)=>Wx kvs
  |_=>Wy
 |.kd x=>GD x
 |_=>Wy
noncomputable def keyOf:D->Option Key
 |.int i=>Wx (.inl i)
 |.str x=>Wx (.inr x)
 |_=>Wy
noncomputable def Zab(kvs:List (Key×D))(k:Key):Option D:=(kvs.find? λp=>WB (p.1=k)).map (·.2)
noncomputable def putD(kvs:List (Key×D))(k:Key)(v:D):List (Key×D):=if (kvs.any λkv=>WB (kv.1=k))=Wz then kvs.map (λkv=>if kv.1=k then(kv.1,v)else kv)else kvs++[(k,v)]
noncomputable def cutD(xs:List D)(lo hi:Option Int):List D:=(xs.drop (HT.sIx xs.length 0 lo)).take (HT.sIx xs.length xs.length hi - HT.sIx xs.length 0 lo)
noncomputable def D.flat:D->Bool
 |.int _|.str _|.bl _|.non=>Wz
 |_=>WA
noncomputable def eqF:D->D->Bool
 |.int i,.int j=>i==j
 |.str i,.str j=>i==j
 |.non,.non=>Wz
 |.bl i,.bl j=>i==j
 |.int i,.bl j=>i==(if j then 1 else 0)
 |.bl i,.int j=>(if i then 1 else 0)==j
 |_,_=>WA
noncomputable def Zd4(GD:Str->Option (List (Key×D)))(d:D)(h:Hd):Option Bool:=match d with
 |.non=>Wx WA
 |.bl b=>Wx b
 |.int i=>Wx (i != 0)
 |.str x=>if x.length<=sizeLine then Wx (!(x.length==0))else Wy
 |.tup xs=>Wx (!xs.isEmpty)
 |.ref i=>match h[i]? with
  |some (.lst xs)=>Wx (!xs.isEmpty)
  |some (.dic xs)=>Wx (!xs.isEmpty)
  |_=>Wy
 |.ro xs=>Wx (!xs.isEmpty)
 |_=>Wy
noncomputable def int2(x y:D)(k:Int->Int->R D):R D:=match x with
 |.int i=>match y with
  |.int j=>k i j
  |_=>.bad
 |_=>.bad
noncomputable def Znc(x y:D)(h:Hd):R D:=match x with
 |.int i=>match y with
  |.int j=>.ok (.int (i+j)) h
  |_=>.bad
 |.str i=>match y with
  |.str j=>if i.length+j.length<=sizeLine then .ok (.str (i++j)) h else .bad
  |_=>.bad
 |.tup xs=>match y with
  |.tup ys=>if xs.length+ys.length<=sizeLine then .ok (.tup (xs++ys)) h else .bad
  |_=>.bad
 |.ref i=>match y with
  |.ref j=>match h[i]? with
   |some (.lst xs)=>match h[j]? with
    |some (.lst ys)=>if xs.length+ys.length<=sizeLine then Zc0 (.lst (xs++ys)) h else .bad
    |_=>.bad
   |_=>.bad
  |_=>.bad
 |_=>.bad
noncomputable def Zvt(x y:D)(h:Hd):R D:=match x with
 |.str z=>match y with
  |.int n=>if 0<=n/\n<=1000/\z.length<=1000 then .ok (.str (ZeM z n.toNat)) h else .bad
  |_=>.bad
 |x=>int2 x y λi j=>if i.natAbs<2 ^ 2000/\j.natAbs<2 ^ 2000 then .ok (.int (i * j)) h else .bad
noncomputable def opB(op:Operator)(x y:D)(h:Hd):R D:=match op with
 |.Add=>Znc x y h
 |.Sub=>int2 x y λi j=>.ok (.int (i - j)) h
 |.Mult=>Zvt x y h
 |.Mod=>int2 x y λi j=>if 0<j then .ok (.int (i % j)) h else .bad
 |.FloorDiv=>int2 x y λi j=>if 0<j/\j<1073741824 then .ok (.int (i / j)) h else .bad
 |.Pow=>int2 x y λi j=>if 0<=j/\j<=1000000/\i.natAbs<2 ^ 64 then .ok (.int (i ^ j.toNat)) h else .bad
 |_=>.bad
noncomputable def Zb8(neg:Bool)(x y:D)(h:Hd):R D:=match ZiU h x,ZiU h y with
 |some a,Wx b=>if min a.depth b.depth<=1100 then .ok (.bl (if neg then !YQ a b else YQ a b)) h else .bad
 |_,_=>.bad
noncomputable def seqOf(d:D)(h:Hd):Option (List D):=match d with
 |.tup xs=>Wx xs
 |d=>lstOf d h
noncomputable def ZbT(GD:Str->Option (List (Key×D)))(neg:Bool)(x y:D)(h:Hd):R D:=match seqOf y h with
 |some xs=>if x.flat&&xs.all D.flat then .ok (.bl (if neg then !xs.any (λz=>eqF z x)else xs.any λz=>eqF z x)) h else .bad
 |none=>match dicOf GD y h,keyOf x with
  |some kvs,Wx k=>.ok (.bl (if neg then !(Zab kvs k).isSome else(Zab kvs k).isSome)) h
  |_,_=>.bad
noncomputable def ZhS(f:Int->Int->Bool)(x y:D)(h:Hd):R D:=match x,y with
 |.int i,.int j=>.ok (.bl (f i j)) h
 |_,_=>.bad
noncomputable def opN(neg:Bool)(x y:D)(h:Hd):R D:=match y with
 |.non=>.ok (.bl (if neg then !WB (x=.non)else WB (x=.non))) h
 |_=>.bad
noncomputable def opC(GD:Str->Option (List (Key×D)))(op:CmpOp)(x y:D)(h:Hd):R D:=match op with
 |.Eq=>Zb8 WA x y h
 |.NotEq=>Zb8 Wz x y h
 |.Lt=>ZhS (λi j=>WB (i<j)) x y h
 |.LtE=>ZhS (λi j=>WB (i<=j)) x y h
 |.Gt=>ZhS (λi j=>WB (j<i)) x y h
 |.GtE=>ZhS (λi j=>WB (j<=i)) x y h
 |.In=>ZbT GD WA x y h
 |.NotIn=>ZbT GD Wz x y h
 |.Is=>opN WA x y h
 |.IsNot=>opN Wz x y h
noncomputable def Z5(GD:Str->Option (List (Key×D)))(x y:D)(h:Hd):R D:=match y with
 |.int i=>match seqOf x h with
  |some xs=>R.ofO (atI xs i) h
  |none=>match x with
   |.str z=>if z.length<=sizeLine then R.ofO ((atI z.cps.toList i).map λc=>.str ⟨#[c]⟩) h else .bad
   |_=>match dicOf GD x h with
    |some kvs=>R.ofO (Zab kvs (.inl i)) h
    |none=>.bad
 |.str z=>match dicOf GD x h with
  |some kvs=>R.ofO (Zab kvs (.inr z)) h
  |none=>.bad
 |_=>.bad
noncomputable def ZgJ(x:D)(l u:Option Int)(h:Hd):R D:=match x with
 |.tup xs=>.ok (.tup (cutD xs l u)) h
 |.str y=>if y.length<=sizeLine then .ok (.str (Yq y l u)) h else .bad
 |d=>match lstOf d h with
  |some xs=>Zc0 (.lst (cutD xs l u)) h
  |none=>.bad
noncomputable def Zuv(d:D)(h:Hd):Option String:=match d with
 |.int _=>Wx "int"
 |.str _=>Wx "str"
 |.bl _=>Wx "bool"
 |.non=>Wx "NoneType"
 |.tup _=>Wx "tuple"
 |d=>(lstOf d h).map λ_ => "list"
noncomputable def ZkS(t T:String):Option Bool:=if T∈["int", "str", "bool", "tuple", "list"]/\t∈["int", "str", "bool", "tuple", "list", "NoneType"]then Wx (t==T || (t == "bool" && T == "int"))else Wy
noncomputable def intsOf:List D->Option (List Int)
 |[]=>Wx []
 |.int i::r=>(intsOf r).map λz=>i::z
 |_=>Wy
noncomputable def Zr2:List D->Option (List Bool)
 |[]=>Wx []
 |.bl i::r=>(Zr2 r).map λz=>i::z
 |_=>Wy
noncomputable def strsOf:List D->Option (List Str)
 |[]=>Wx []
 |.str i::r=>(strsOf r).map λz=>i::z
 |_=>Wy
noncomputable def ZdF:List (Key×D)->Option (List Str)
 |[]=>Wx []
 |(.inr x,_)::r=>(ZdF r).map λz=>x::z
 |_=>Wy
noncomputable def Zms(x:Str):List Str->List Str
 |[]=>[x]
 |y::r=>if ltCps y.cps.toList x.cps.toList then y::Zms x r else x::y::r
noncomputable def Zcj:List Str->List Str
 |[]=>[]
 |x::r=>Zms x (Zcj r)
noncomputable def ZjU(xs:List D)(h:Hd):R D:=match xs with
 |[.str y]=>if y.length<=sizeLine then .ok (.int y.length) h else .bad
 |[d]=>R.ofO ((seqOf d h).map λxs=>.int xs.length) h
 |_=>.bad
noncomputable def Zt8(xs:List D)(h:Hd):R D:=match xs with
 |[d,.ty T]=>R.ofO ((Zuv d h).bind λt=>(ZkS t T).map .bl) h
 |_=>.bad
noncomputable def Zxw(xs:List D)(h:Hd):R D:=match xs with
 |[.int i]=>.ok (.int i) h
 |[.bl b]=>.ok (.int (if b then 1 else 0)) h
 |_=>.bad
noncomputable def Zna(xs:List D)(h:Hd):R D:=match xs with
 |[.tup xs]=>.ok (.tup xs) h
 |[d]=>R.ofO ((lstOf d h).map .tup) h
 |_=>.bad
noncomputable def Zxv(xs:List D)(h:Hd):R D:=match xs with
 |[d]=>match seqOf d h with
  |some xs=>Zc0 (.lst xs) h
  |none=>.bad
 |_=>.bad
noncomputable def Zpu(xs:List D)(h:Hd):R D:=match xs with
 |[d]=>R.ofO (((lstOf d h).bind intsOf).map λns=>.int ns.sum) h
 |_=>.bad
noncomputable def Zxx(xs:List D)(h:Hd):R D:=match xs with
 |[d]=>R.ofO (((lstOf d h).bind Zr2).map λbs=>.bl (bs.all id)) h
 |_=>.bad
noncomputable def ZeF(GD:Str->Option (List (Key×D)))(xs:List D)(h:Hd):R D:=match xs with
 |[d]=>match (dicOf GD d h).bind ZdF with
  |some ss=>if ss.length<64/\ss.all Yp=Wz then Zc0 (.lst ((Zcj ss).map .str)) h else .bad
  |none=>.bad
 |_=>.bad
noncomputable def Zmb(x d:D)(h:Hd):R D:=match d with
 |.int d=>R.ofO (((lstOf x h).bind intsOf).map λns=>.int (Zdc ns d)) h
 |_=>.bad
noncomputable def bMx(xs:List D)(h:Hd):R D:=match xs with
 |[.int i,.int j]=>.ok (.int (if j > i then j else i)) h
 |[d]=>match (lstOf d h).bind intsOf with
  |some ns=>if ns≠[]then .ok (.int (Zdc ns 0)) h else .bad
  |none=>.bad
 |_=>.bad
noncomputable def ZbJ(GD:Str->Option (List (Key×D))):Bf->List D->Hd->R D
 |.len=>ZjU
 |.isi=>Zt8
 |.int=>Zxw
 |.tup=>Zna
 |.lst=>Zxv
 |.sum=>Zpu
 |.all=>Zxx
 |.srt=>ZeF GD
 |.mx=>bMx
noncomputable def Zr3(x:D)(h:Hd):R D:=match x with
 |.tup (y::ys)=>.ok (.tup (y::ys).reverse) h
 |_=>.bad
noncomputable def Zv9(x:D)(h:Hd):R D:=match x with
 |.tup ys=>Zc0 (.lst ys.reverse) h
 |_=>.bad
noncomputable def ZvL:D->Bool
 |.tup _=>Wz
 |_=>WA
noncomputable def Zv8(x y:D)(h:Hd):R D:=match x,y with
 |.tup xs,.str z=>match strsOf xs with
  |some ss=>R.ofO ((Tx.place z ss).map λ(j:Nat)=>.int (j:Int)) h
  |none=>.bad
 |_,_=>.bad
noncomputable def Zwa(x y:D)(h:Hd):R D:=match lstOf x h,y with
 |some xs,.str z=>match strsOf xs with
  |some ss=>R.ofO ((Tx.place z ss).map λ(j:Nat)=>.int (j:Int)) h
  |none=>.bad
 |_,_=>.bad
noncomputable def Zwb(x y:D)(h:Hd):R D:=match ZiU h x,ZiU h y with
 |some a,Wx (.list bs)=>if min (PyData.depthAll bs) a.depth<=1000 then .ok (.bl (bs.any λb=>YQ b a)) h else .bad
 |_,_=>.bad
noncomputable def Zc9:List D->Option (List (Key×D))
 |[]=>Wx []
 |k::v::r=>match keyOf k,Zc9 r with
  |some k,Wx r=>Wx ((k,v)::r)
  |_,_=>Wy
 |_=>Wy
noncomputable def Zb9(kvs more:List (Key×D)):List (Key×D):=more.foldl (λacc kv=>putD acc kv.1 kv.2) kvs
noncomputable def Zos(i:Nat)(ys xs:List D)(h:Hd):R D:=match xs with
 |[d]=>if ys.length<sizeLine then .ok .non (h.set i (.lst (ys++[d])))else .bad
 |_=>.bad
noncomputable def Zto(i:Nat)(ys xs:List D)(h:Hd):R D:=match xs with
 |[.ref j]=>match h[j]? with
  |some (.lst zs)=>if ys.length+zs.length<=sizeLine then .ok .non (h.set i (.lst (ys++zs)))else .bad
  |_=>.bad
 |[.tup zs]=>if ys.length+zs.length<=sizeLine then .ok .non (h.set i (.lst (ys++zs)))else .bad
 |_=>.bad
noncomputable def ZqX(i:Nat)(ys xs:List D)(h:Hd):R D:=match xs with
 |[]=>match ys[ys.length - 1]? with
  |some y=>.ok y (h.set i (.lst ys.dropLast))
  |none=>.bad
 |_=>.bad
noncomputable def Zvw(i:Nat)(ys xs:List D)(h:Hd):R D:=match xs with
 |[]=>.ok .non (h.set i (.lst ys.reverse))
 |_=>.bad
noncomputable def Zvx(i:Nat)(ys xs:List D)(h:Hd):R D:=match xs with
 |[]=>.ok .non (h.set i (.lst []))
 |_=>.bad
noncomputable def Zge:Mf->Nat->List D->List D->Hd->R D
 |.app=>Zos
 |.ext=>Zto
 |.pop=>ZqX
 |.rev=>Zvw
 |.clr=>Zvx
noncomputable def ZaI(m:Mf)(o:D)(xs:List D)(h:Hd):R D:=match o with
 |.ref i=>match h[i]? with
  |some (.lst ys)=>Zge m i ys xs h
  |_=>.bad
 |_=>.bad
noncomputable def Zdf(o:D)(h:Hd):Bool:=match o with
 |.ref i=>match h[i]? with
  |some (.lst _)=>Wz
  |_=>WA
 |_=>WA
noncomputable def Zbo(o i v:D)(h:Hd):R Unit:=match o with
 |.ref a=>match h[a]? with
  |some (.lst xs)=>match i with
   |.int k=>match ixN xs.length k with
    |some j=>.ok () (h.set a (.lst (xs.set j v)))
    |none=>.bad
   |_=>.bad
  |some (.dic kvs)=>match keyOf i with
   |some k=>if kvs.length<sizeLine then .ok () (h.set a (.dic (putD kvs k v)))else .bad
   |none=>.bad
  |_=>.bad
 |_=>.bad
structure Wk where
 src:Option (Nat×List D)
 xs:List D
noncomputable def Wk.stays(src:Option (Nat×List D))(h:Hd):Bool:=match src with
 |none=>Wz
 |some (i,xs)=>WB (h[i]? = Wx (.lst xs))
noncomputable def Zar(d:D)(h:Hd):Option Wk:=match d with
 |.tup xs=>Wx ⟨Wy,xs⟩
 |.ro xs=>Wx ⟨Wy,xs⟩
 |.ref i=>match h[i]? with
  |some (.lst xs)=>Wx ⟨Wx (i,xs),xs⟩
  |_=>Wy
 |.str y=>if y.length<=sizeLine then Wx ⟨Wy,y.cps.toList.map λc=>.str ⟨#[c]⟩⟩else Wy
 |_=>Wy
noncomputable def Zlq(d:D)(h:Hd):Option Wk:=match d with
 |.ro xs=>Wx ⟨Wy,xs⟩
 |.ref i=>match h[i]? with
  |some (.lst xs)=>Wx ⟨Wx (i,xs),xs⟩
  |_=>Wy
 |_=>Wy
noncomputable def ZfF(d:D)(h:Hd):Option Wk:=match d with
 |.tup xs=>Wx ⟨Wy,xs⟩
 |.ref i=>match h[i]? with
  |some (.lst xs)=>Wx ⟨Wx (i,xs),xs⟩
  |_=>Wy
 |_=>Wy
noncomputable def ZG(lo:Int)(n:Nat):List D:=(List.range n).map λ(k:Nat)=>.int (lo+(k:Int))
noncomputable def ZcU(xs:List D):List D:=xs.mapIdx λk x=>.tup [.int (k:Int),x]
noncomputable def Zd8(xs:List D):List D:=xs.mapIdx λk x=>.tup [.int ((k+1:Nat):Int),x]
noncomputable def ZoF:Key->D
 |.inl i=>.int i
 |.inr x=>.str x
noncomputable def Zo0(x:D)(h:Hd):R Wk:=match x with
 |.ref i=>match h[i]? with
  |some (.dic kvs)=>.ok ⟨Wy,kvs.map λp=>ZoF p.1⟩ (h.set i (.fdic kvs))
  |some (.fdic kvs)=>.ok ⟨Wy,kvs.map λp=>ZoF p.1⟩ h
  |_=>.bad
 |_=>.bad
noncomputable def Zap(i:Int):Bool:=WB (-(2 ^ 62)<=i)&&WB (i<2 ^ 62)
noncomputable def Zj9:List Nat->List D->Ev->Ev
 |i::is,x::xs,S=>Zj9 is xs (S.set i (Wx x))
 |_,_,S=>S
noncomputable def ZbK(g:Tg)(d:D)(S:Ev):Option Ev:=match g with
 |.nm i=>Wx (S.set i (Wx d))
 |.two i j=>match d with
  |.tup [a,b]=>Wx ((S.set i (Wx a)).set j (Wx b))
  |_=>Wy
 |.many is=>match d with
  |.tup xs=>if xs.length=is.length then Wx (Zj9 is xs S)else Wy
  |_=>Wy
noncomputable def Zbp(js:List (Option Nat))(S:Ev):Ev:=js.map λo=>o.bind λj=>(S[j]?).join
inductive Fl where
 |nx|bk|ct|rt (d:D)
noncomputable def ZK(src:Option (Nat×List D))(g:Tg)(body:Ev->Hd->R (Fl×Ev)):List D->Ev->Hd->R (Fl×Ev)
 |[],S,h=>if Wk.stays src h then .ok (.nx,S) h else .bad
 |d::ds,S,h=>if Wk.stays src h then match ZbK g d S with
  |none=>.bad
  |some ρ1=>(body ρ1 h).bind λp h2=>match p with
   |(.nx,ρ2)=>ZK src g body ds ρ2 h2
   |(.ct,ρ2)=>ZK src g body ds ρ2 h2
   |(.bk,ρ2)=>.ok (.nx,ρ2) h2
   |(.rt d,ρ2)=>.ok (.rt d,ρ2) h2
  else .bad
noncomputable def ZO(test:Ev->Hd->R Bool)(body:Ev->Hd->R (Fl×Ev)):Nat->Ev->Hd->R (Fl×Ev)
 |0,_,_=>.bad
 |n+1,S,h=>(test S h).bind λb h1=>if b then(body S h1).bind λp h2=>match p with
  |(.nx,ρ2)=>ZO test body n ρ2 h2
  |(.ct,ρ2)=>ZO test body n ρ2 h2
  |(.bk,ρ2)=>.ok (.nx,ρ2) h2
  |(.rt d,ρ2)=>.ok (.rt d,ρ2) h2
  else .ok (.nx,S) h1
noncomputable def R.plain:R α->R α
 |.exc _ _=>.bad
 |r=>r
noncomputable def Zz(src:Option (Nat×List D))(g:Tg)(test:Ev->Hd->R Bool)(elt:Ev->Hd->R D):List D->Ev->List D->Hd->R (List D)
 |[],_,acc,h=>if Wk.stays src h then .ok acc h else .bad
 |d::ds,S,acc,h=>if Wk.stays src h/\acc.length<sizeLine then match ZbK g d S with
  |none=>.bad
  |some ρ1=>(test ρ1 h).bind λb h1=>if b then(elt ρ1 h1).bind λx h2=>Zz src g test elt ds S (acc++[x]) h2 else Zz src g test elt ds S acc h1
  else .bad
noncomputable def ZgB(C:Str)(i:Nat)(S:Ev)(r:R D):R (Fl×Ev):=match r with
 |.bad=>.bad
 |.ok v h=>.ok (.nx,S.set i (Wx v)) h
 |.exc c h=>if c=C then .ok (.nx,S.set i (Wx .non)) h else .bad
noncomputable def mnm(C m:Str):Str:=C++(O "." ++ m)
noncomputable def ZX(d:D)(h:Hd):Option (Str×List (Str×D)):=match d with
 |.ref i=>match h[i]? with
  |some (.ins C fs)=>Wx (C,fs)
  |_=>Wy
 |_=>Wy
noncomputable def ZgS(Cs:List Str)(f:Str)(x:D)(h:Hd):R D:=match ZX x h with
 |some (C,fs)=>if C∈Cs then R.ofO (fs.lookup f) h else .bad
 |none=>.bad
noncomputable def Zmt(f:Str)(v:D):List (Str×D)->List (Str×D)
 |[]=>[(f,v)]
 |(g,x)::r=>if g=f then(g,v)::r else(g,x)::Zmt f v r
noncomputable def ZhI(Cs:List Str)(f:Str)(x d:D)(h:Hd):R D:=match x with
 |.ref i=>match h[i]? with
  |some (.ins C fs)=>if C∈Cs/\fs.length<1000 then .ok .non (h.set i (.ins C (Zmt f d fs)))else .bad
  |_=>.bad
 |_=>.bad
noncomputable def Zon(Cf:Str->List D->Hd->R D)(C:Str)(xs:List D)(h:Hd):R D:=(Cf (mnm C (O "__init__")) (.ref h.length::xs) (h++[.ins C []])).bind λd h2=>match d with
 |.non=>.ok (.ref h.length) h2
 |_=>.bad
structure Tb where
 G:Str->Option D
 GD:Str->Option (List (Key×D))
 C:Str->List D->Hd->R D
 L:Nat
mutual
noncomputable def ev(T:Tb):Ex->Ev->Hd->R D
 |.var i,S,h=>R.ofO (S[i]?).join h
 |.cst d,_,h=>.ok d h
 |.glo x,_,h=>R.ofO (T.G x) h
 |.bin op a b,S,h=>(ev T a S h).bind λx h1=>(ev T b S h1).bind λy h2=>opB op x y h2
 |.cmp op a b,S,h=>(ev T a S h).bind λx h1=>(ev T b S h1).bind λy h2=>opC T.GD op x y h2
 |.cmp2 op op' a b c,S,h=>(ev T a S h).bind λx h1=>(ev T b S h1).bind λy h2=>(opC T.GD op x y h2).bind λr h3=>match r with
  |.bl Wz=>(ev T c S h3).bind λz h4=>opC T.GD op' y z h4
  |.bl WA=>.ok (.bl WA) h3
  |_=>.bad
 |.neg a,S,h=>(ev T a S h).bind λx h1=>match x with
  |.int i=>.ok (.int (-i)) h1
  |_=>.bad
 |.nt a,S,h=>(ev T a S h).bind λx h1=>match x with
  |.bl b=>.ok (.bl (!b)) h1
  |_=>.bad
 |.ands es,S,h=>evAnd T es S h
 |.ors es,S,h=>evOr T es S h
 |.ite c a b,S,h=>(tst T c S h).bind λc h1=>if c then ev T a S h1 else ev T b S h1
 |.tupl es,S,h=>(evs T es S h).bind λxs h1=>if xs.length<=sizeLine then .ok (.tup xs) h1 else .bad
 |.lstl es,S,h=>(evs T es S h).bind λxs h1=>if xs.length<=sizeLine then Zc0 (.lst xs) h1 else .bad
 |.ix a i,S,h=>(ev T a S h).bind λx h1=>(ev T i S h1).bind λy h2=>Z5 T.GD x y h2
 |.sl a lo hi,S,h=>(ev T a S h).bind λx h1=>(evo T lo S h1).bind λl h2=>(evo T hi S h2).bind λu h3=>ZgJ x l u h3
 |.blt f es,S,h=>(evs T es S h).bind λxs h1=>ZbJ T.GD f xs h1
 |.call f es,S,h=>(evs T es S h).bind λxs h1=>T.C f xs h1
 |.meth m o es,S,h=>(ev T o S h).bind λx h1=>if Zdf x h1 then(evs T es S h1).bind λxs h2=>ZaI m x xs h2 else .bad
 |.comp _ js it g c e,S,h=>(evi T it S h).bind λw h1=>(Zz w.src g (tsto T c) (ev T e) w.xs (Zbp js S) [] h1).bind λxs h2=>Zc0 (.lst xs) h2
 |.sorts e,S,h=>(ev T e S h).bind λx h1=>match (lstOf x h1).bind strsOf with
  |some ss=>if ss.length<64 then Zc0 (.lst ((Zcj ss.eraseDups).map .str)) h1 else .bad
  |none=>.bad
 |.maxd e d,S,h=>(ev T e S h).bind λx h1=>(ev T d S h1).bind λy h2=>Zmb x y h2
 |.dictl ps,S,h=>(evs T ps S h).bind λxs h1=>match Zc9 xs with
  |some kvs=>if kvs.length<=15 then Zc0 (.dic (Zb9 [] kvs)) h1 else .bad
  |none=>.bad
 |.att Cs o f,S,h=>(ev T o S h).bind λx h1=>ZgS Cs f x h1
 |.mk C es,S,h=>(evs T es S h).bind λxs h1=>Zon T.C C xs h1
 |.mcl C m o es,S,h=>(ev T o S h).bind λx h1=>match ZX x h1 with
  |some (C',fs)=>if C'=C/\fs.lookup m=Wy then(evs T es S h1).bind λxs h2=>T.C (mnm C m) (x::xs) h2 else .bad
  |none=>.bad
 |.any,_,_=>.bad
 |.trev e,S,h=>(ev T e S h).bind λx h1=>Zr3 x h1
 |.lrv e,S,h=>(ev T e S h).bind λx h1=>Zv9 x h1
 |.tix o e,S,h=>(ev T o S h).bind λx h1=>if ZvL x then(ev T e S h1).bind λy h2=>Zv8 x y h2 else .bad
 |.lix o e,S,h=>(ev T o S h).bind λx h1=>if Zdf x h1 then(ev T e S h1).bind λy h2=>Zwa x y h2 else .bad
 |.lin a b,S,h=>(ev T a S h).bind λx h1=>(ev T b S h1).bind λy h2=>Zwb x y h2
noncomputable def evs(T:Tb):Exs->Ev->Hd->R (List D)
 |.nil,_,h=>.ok [] h
 |.cons e es,S,h=>(ev T e S h).bind λx h1=>(evs T es S h1).bind λxs h2=>.ok (x::xs) h2
noncomputable def evAnd(T:Tb):Exs->Ev->Hd->R D
 |.nil,_,_=>.bad
 |.cons e es,S,h=>match es with
  |.nil=>ev T e S h
  |.cons _ _=>(ev T e S h).bind λx h1=>match x with
   |.bl Wz=>evAnd T es S h1
   |.bl WA=>.ok (.bl WA) h1
   |_=>.bad
noncomputable def evOr(T:Tb):Exs->Ev->Hd->R D
 |.nil,_,_=>.bad
 |.cons e es,S,h=>match es with
  |.nil=>ev T e S h
  |.cons _ _=>(ev T e S h).bind λx h1=>match x with
   |.bl Wz=>.ok (.bl Wz) h1
   |.bl WA=>evOr T es S h1
   |_=>.bad
noncomputable def evo(T:Tb):Option Ex->Ev->Hd->R (Option Int)
 |none,_,h=>.ok Wy h
 |some e,S,h=>(ev T e S h).bind λx h1=>match x with
  |.int i=>.ok (Wx i) h1
  |_=>.bad
noncomputable def tst(T:Tb):Tx->Ev->Hd->R Bool
 |.ex e,S,h=>(ev T e S h).bind λx h1=>R.ofO (Zd4 T.GD x h1) h1
 |.ands ts,S,h=>tstAnd T ts S h
 |.ors ts,S,h=>tstOr T ts S h
 |.nt a,S,h=>(tst T a S h).bind λc h1=>.ok (!c) h1
noncomputable def tstAnd(T:Tb):Txs->Ev->Hd->R Bool
 |.one t,S,h=>tst T t S h
 |.cons t ts,S,h=>(tst T t S h).bind λc h1=>if c then tstAnd T ts S h1 else .ok WA h1
noncomputable def tstOr(T:Tb):Txs->Ev->Hd->R Bool
 |.one t,S,h=>tst T t S h
 |.cons t ts,S,h=>(tst T t S h).bind λc h1=>if c then .ok Wz h1 else tstOr T ts S h1
noncomputable def tsto(T:Tb):Option Tx->Ev->Hd->R Bool
 |none,_,h=>.ok Wz h
 |some e,S,h=>tst T e S h
noncomputable def evi(T:Tb):Ix->Ev->Hd->R Wk
 |.pl e,S,h=>(ev T e S h).bind λx h1=>R.ofO (Zar x h1) h1
 |.rng e,S,h=>(ev T e S h).bind λx h1=>match x with
  |.int j=>if Zap j then .ok ⟨Wy,ZG 0 j.toNat⟩ h1 else .bad
  |_=>.bad
 |.rng2 a b,S,h=>(ev T a S h).bind λx h1=>(ev T b S h1).bind λy h2=>match x,y with
  |.int i,.int j=>if Zap i&&Zap j then .ok ⟨Wy,ZG i (j - i).toNat⟩ h2 else .bad
  |_,_=>.bad
 |.enu e,S,h=>(ev T e S h).bind λx h1=>R.ofO ((Zlq x h1).map λw=>⟨w.src,ZcU w.xs⟩) h1
 |.rev e,S,h=>(ev T e S h).bind λx h1=>R.ofO ((ZfF x h1).map λw=>⟨w.src,w.xs.reverse⟩) h1
 |.en1 e,S,h=>(ev T e S h).bind λx h1=>match x with
  |.tup xs=>.ok ⟨Wy,Zd8 xs⟩ h1
  |_=>.bad
 |.en0 e,S,h=>(ev T e S h).bind λx h1=>match x with
  |.tup xs=>.ok ⟨Wy,ZcU xs⟩ h1
  |_=>.bad
 |.dk e,S,h=>(ev T e S h).bind λx h1=>Zo0 x h1
end
mutual
noncomputable def xs1(T:Tb):Sx->Ev->Hd->R (Fl×Ev)
 |.ret e,S,h=>(ev T e S h).bind λx h1=>.ok (.rt x,S) h1
 |.set g e,S,h=>(ev T e S h).bind λx h1=>(R.ofO (ZbK g x S) h1).bind λρ1 h2=>.ok (.nx,ρ1) h2
 |.put o i e,S,h=>(ev T e S h).bind λx h1=>(ev T o S h1).bind λy h2=>(ev T i S h2).bind λz h3=>(Zbo y z x h3).bind λ_ h4=>.ok (.nx,S) h4
 |.aug i op e,S,h=>(R.ofO (S[i]?).join h).bind λx h1=>(ev T e S h1).bind λy h2=>match op,x,y with
  |.Add,.int a,.int b=>.ok (.nx,S.set i (Wx (.int (a+b)))) h2
  |_,_,_=>.bad
 |.drp e,S,h=>(ev T e S h).bind λ_ h1=>.ok (.nx,S) h1
 |.iff c a b,S,h=>(tst T c S h).bind λt h1=>if t then xs2 T a S h1 else xs2 T b S h1
 |.whl c b,S,h=>ZO (tst T c) (xs2 T b) T.L S h
 |.forr g it b,S,h=>(evi T it S h).bind λw h1=>ZK w.src g (xs2 T b) w.xs S h1
 |.pas,S,h=>.ok (.nx,S) h
 |.brk,S,h=>.ok (.bk,S) h
 |.cnt,S,h=>.ok (.ct,S) h
 |.seta Cs o f e,S,h=>(ev T e S h).bind λd h1=>(ev T o S h1).bind λx h2=>(ZhI Cs f x d h2).bind λ_ h3=>.ok (.nx,S) h3
 |.auga Cs o f e,S,h=>(ev T o S h).bind λx h1=>(ZgS Cs f x h1).bind λv h2=>(ev T e S h2).bind λy h3=>match v,y with
  |.int a,.int b=>if (ZX x h1).map (·.1)=(ZX x h3).map (·.1)then(ZhI Cs f x (.int (a+b)) h3).bind λ_ h4=>.ok (.nx,S) h4 else .bad
  |_,_=>.bad
 |.any,_,_=>.bad
 |.rai C e,S,h=>(ev T e S h).bind λ_ h1=>.exc C h1
 |.trs i f es C,S,h=>(evs T es S h).plain.bind λxs h1=>ZgB C i S (T.C f xs h1)
noncomputable def xs2(T:Tb):Sxs->Ev->Hd->R (Fl×Ev)
 |.nil,S,h=>.ok (.nx,S) h
 |.cons s r,S,h=>(xs1 T s S h).bind λp h1=>match p with
  |(.nx,ρ1)=>xs2 T r ρ1 h1
  |p=>.ok p h1
end
structure Fd where
 ps:List Str
 N:List Str
 body:Sxs
structure Pg where
 tb:List (Str×Fd)
 G:Str->Option D
 GD:Str->Option (List (Key×D))
 L:Nat
 ms:List (Str×Fd):=[]
noncomputable def Pg.look(P:Pg)(f:Str):Option Fd:=match P.tb.lookup f with
 |some fd=>Wx fd
 |none=>P.ms.lookup f
noncomputable def Zu(N:List Str)(ds:List D):Ev:=ds.map Wx++YK (N.length - ds.length) Wy
noncomputable def Zh:R (Fl×Ev)->R D
 |.ok (.rt d,_) h=>.ok d h
 |.ok (.nx,_) h=>.ok .non h
 |.exc c h=>.exc c h
 |_=>.bad
noncomputable def run(P:Pg):Nat->Str->List D->Hd->R D
 |0,_,_,_=>.bad
 |n+1,f,ds,h=>match P.look f with
  |none=>.bad
  |some fd=>if ds.length=fd.ps.length then Zh (xs2 ⟨P.G,P.GD,run P n,P.L⟩ fd.body (Zu fd.N ds) h)else .bad
noncomputable def Pg.tbl(P:Pg)(n:Nat):Tb:=⟨P.G,P.GD,run P n,P.L⟩
end IV
end
section
set_option tactic.hygienic false
namespace IV
open PySem PySem.Spec PyProof.Rows L2
def FzL(K:Yk)(H:Hp)(a:Yi)(xs:List V):Prop:=(∃o,H a=Wx (.frz o (.lst xs)))\/∃(o:Obj) (its:Array Yj) (n:Nat),K.lookup a=Wx o/\o.cls=.type "list" /\ o.dict=Wy/\o.data=.seq its n/\its.size<=sizeLine/\Zn xs its.toList
def FzL.sq{K:Yk}(h:FzL K H a xs):SqL K H a xs:=h.elim (λ⟨o,h⟩=>.inl (.inr ⟨o,h⟩)) .inr
structure Yx where
 K:Yk
 mg:Str->Option Yj
mutual
inductive RD(Y:Yx)(H:Hp)(B:List Yi):D->V->Prop
 |non:RD Y H B .non .non
 |bl (b:Bool):RD Y H B (.bl b) (.bl b)
 |int (i:Int):RD Y H B (.int i) (.int i)
 |str (x:Str) (ok:Yp x=Wz):RD Y H B (.str x) (.str x)
 |tup {a:Yi}{vs:List V}{ds:List D}:SqT Y.K H a vs->RDs Y H B ds vs->RD Y H B (.tup ds) (.ref a)
 |ref {i:Nat}{a:Yi}:B[i]? = Wx a->RD Y H B (.ref i) (.ref a)
 |ty (n:String):RD Y H B (.ty n) (.ty n)
 |ro {a:Yi}{vs:List V}{ds:List D}:FzL Y.K H a vs->RDs Y H B ds vs->RD Y H B (.ro ds) (.ref a)
 |kd {x:Str}{a:Yi}:Y.mg x=Wx (.ref a)->RD Y H B (.kd x) (.ref a)
inductive RDs(Y:Yx)(H:Hp)(B:List Yi):List D->List V->Prop
 |nil:RDs Y H B [] []
 |cons {d:D}{v:V}{ds:List D}{vs:List V}:RD Y H B d v->RDs Y H B ds vs->RDs Y H B (d::ds) (v::vs)
end
inductive RKs(Y:Yx)(H:Hp)(B:List Yi){κ:Type}:List (κ×D)->List (κ×V)->Prop
 |nil:RKs Y H B [] []
 |cons {k:κ}{d:D}{v:V}{ds:List (κ×D)}{vs:List (κ×V)}:RD Y H B d v->RKs Y H B ds vs->RKs Y H B ((k,d)::ds) ((k,v)::vs)
def RO(Y:Yx)(H:Hp)(B:List Yi)(a:Yi):DO->Prop
 |.lst ds=>∃vs,H a=Wx (.lst vs)/\RDs Y H B ds vs
 |.dic kvs=>∃kvs',H a=Wx (.dK kvs')/\RKs Y H B kvs kvs'
 |.ins C fs=>∃Ca dx fs',H a=Wx (.ins Ca dx fs')/\Y.mg C=Wx (.ref Ca)/\RKs Y H B fs fs'
 |.fdic kvs=>∃o kvs',H a=Wx (.frz o (.dK kvs'))/\RKs Y H B kvs kvs'
def Zbm(kvs:List (Key×D)):Prop:=∀p∈kvs,∀x,p.1=.inr x->Yp x=Wz
def DOk:DO->Prop
 |.dic kvs=>Zbm kvs
 |.fdic kvs=>Zbm kvs
 |_=>True
structure RH(Y:Yx)(H:Hp)(B:List Yi)(h:Hd):Prop where
 len:h.length=B.length
 nd:B.Nodup
 ob:∀(i:Nat) (o:DO) (a:Yi),h[i]? = Wx o->B[i]? = Wx a->RO Y H B a o
 ks:∀(i:Nat) (o:DO),h[i]? = Wx o->DOk o
structure Gr(H:Hp)(B:List Yi)(H':Hp)(μ':List Yi):Prop where
 pre:∀(i:Nat) (a:Yi),B[i]? = Wx a->μ'[i]? = Wx a
 new:∀a∈μ',a∈B\/H a=Wy
 keep:∀b o,b ∉ B->H b=Wx o->H' b=Wx o
 fz:∀b o u,H b=Wx (.frz o u)->H' b=Wx (.frz o u)
def Gr.refl:Gr H B H B:=⟨λ_ _ h=>h,λ_ h=>.inl h,λ_ _ _ h=>h,λ_ _ _ h=>h⟩
def Gr.trans(a:Gr H B H1 μ1)(b:Gr H1 μ1 H2 μ2):Gr H B H2 μ2:=by
 refine⟨λi x h=>b.pre i x (a.pre i x h),λx hx=>?_,λx o hx h=>?_,λx o u h=>b.fz x o u (a.fz x o u h)⟩
 . rcases b.new x hx with h|h
   . exact a.new x h
   . by_cases hm:x∈B
     . exact .inl hm
     . cases q:H x with
       |none=>exact .inr rfl
       |some o=>rw[a.keep x o hm q]at h;cases h
 . refine b.keep x o (λhm=>?_) (a.keep x o hx h);rcases a.new x hm with z|z
   . exact hx z
   . rw[h]at z;cases z
def Mu:Option HO->Prop
 |some (.lst _)|some (.dK _)|some (.ins _ _ _)|some (.frz _ (.dK _))=>True
 |_=>False
def RO.mut(h:RO Y H B a o):Mu (H a):=by
 cases o with
 |lst ds=>obtain⟨vs,e,_⟩:=h;rw[e];trivial
 |dic ds=>obtain⟨vs,e,_⟩:=h;rw[e];trivial
 |ins C ds=>obtain⟨_,_,_,e,_⟩:=h;rw[e];trivial
 |fdic ds=>obtain⟨_,_,e,_⟩:=h;rw[e];trivial
def RH.mem(r:RH Y H B h)(ha:a∈B):∃(i:Nat) (o:DO),B[i]? = Wx a/\h[i]? = Wx o/\RO Y H B a o:=by
 obtain⟨i,hi⟩:=List.mem_iff_getElem?.mp ha;have hl:i<h.length:=by rw[r.len];exact(Ob.mp hi).1
 exact⟨i,h[i],hi,Og hl,r.ob i _ a (Og hl) hi⟩
theorem RH.mut(r:RH Y H B h)(ha:a∈B):Mu (H a):=let ⟨_,_,_,_,q⟩:=r.mem ha;q.mut
def Gr.rdT(r:RH Y H B h)(g:Gr H B H' μ')(t:SqT Y.K H a xs):SqT Y.K H' a xs:=by
 rcases t with t|t
 . rcases t with t|⟨o,t⟩
   . exact .inl (.inl (g.keep a _ (λhm=>by have:=r.mut hm;rw[t]at this;exact this) t))
   . exact .inl (.inr ⟨o,g.fz a _ _ t⟩)
 . exact .inr t
def Gr.rdF(r:RH Y H B h)(g:Gr H B H' μ')(t:FzL Y.K H a xs):FzL Y.K H' a xs:=by
 rcases t with ⟨o,t⟩|t
 . exact .inl ⟨o,g.fz a _ _ t⟩
 . exact .inr t
section
variable {Y:Yx}{H H':Hp}{B μ':List Yi}{h:Hd}
mutual
theorem RD.mono(r:RH Y H B h)(g:Gr H B H' μ'):∀{d:D}{v:V},RD Y H B d v->RD Y H' μ' d v
 |_,_,.non=>.non
 |_,_,.bl b=>.bl b
 |_,_,.int i=>.int i
 |_,_,.str x ok=>.str x ok
 |_,_,.tup t s=>.tup (g.rdT r t) (RDs.mono r g s)
 |_,_,.ref e=>.ref (g.pre _ _ e)
 |_,_,.ty n=>.ty n
 |_,_,.ro t s=>.ro (g.rdF r t) (RDs.mono r g s)
 |_,_,.kd e=>.kd e
theorem RDs.mono(r:RH Y H B h)(g:Gr H B H' μ'):∀{d:List D}{v:List V},RDs Y H B d v->RDs Y H' μ' d v
 |_,_,.nil=>.nil
 |_,_,.cons a s=>.cons (RD.mono r g a) (RDs.mono r g s)
end
theorem RKs.mono(r:RH Y H B h)(g:Gr H B H' μ'):∀{d:List (κ×D)}{v:List (κ×V)},RKs Y H B d v->RKs Y H' μ' d v
 |_,_,.nil=>.nil
 |_,_,.cons a s=>.cons (a.mono r g) (RKs.mono r g s)
theorem RDs.length:∀{d:List D}{v:List V},RDs Y H B d v->d.length=v.length
 |_,_,.nil=>rfl
 |_,_,.cons a s=>by rw[Os,Os,s.length]
theorem RKs.length:∀{d:List (κ×D)}{v:List (κ×V)},RKs Y H B d v->d.length=v.length
 |_,_,.nil=>rfl
 |_,_,.cons a s=>by rw[Os,Os,s.length]
theorem RDs.get:∀{ds:List D}{vs:List V},RDs Y H B ds vs->∀{i:Nat}{d:D},ds[i]? = Wx d->∃v,vs[i]? = Wx v/\RD Y H B d v
 |_,_,.nil,i,d,e=>by simp at e
 |_,_,.cons a s,0,d,e=>by cases e;exact⟨_,rfl,a⟩
 |_,_,.cons a s,i+1,d,e=>by obtain⟨v,h1,h2⟩:=RDs.get s (i:=i) (d:=d) (by simpa using e);exact⟨v,by simpa using h1,h2⟩
theorem RDs.append:∀{ds es:List D}{vs ws:List V},RDs Y H B ds vs->RDs Y H B es ws->RDs Y H B (ds++es) (vs++ws)
 |_,_,_,_,.nil,s=>s
 |_,_,_,_,.cons a r,s=>.cons a (r.append s)
theorem RDs.take:∀{ds:List D}{vs:List V} (n:Nat),RDs Y H B ds vs->RDs Y H B (ds.take n) (vs.take n)
 |_,_,0,_=>.nil
 |_,_,_+1,.nil=>.nil
 |_,_,n+1,.cons a s=>.cons a (s.take n)
theorem RDs.drop:∀{ds:List D}{vs:List V} (n:Nat),RDs Y H B ds vs->RDs Y H B (ds.drop n) (vs.drop n)
 |_,_,0,s=>s
 |_,_,_+1,.nil=>.nil
 |_,_,n+1,.cons a s=>s.drop n
theorem RDs.reverse(s:RDs Y H B ds vs):RDs Y H B ds.reverse vs.reverse:=by
 have gen:∀{ds es:List D}{vs ws:List V},RDs Y H B ds vs->RDs Y H B es ws->RDs Y H B (ds.reverseAux es) (vs.reverseAux ws):=by
  intro ds;induction ds with
  |nil=>intro es vs ws a b;cases a;exact b
  |cons d ds ih=>
   intro es vs ws a b;cases a with
   |cons a s=>have z:=ih s (RDs.cons a b);exact z
 exact gen s .nil
theorem RDs.dropLast(s:RDs Y H B ds vs):RDs Y H B ds.dropLast vs.dropLast:=by rw[List.dropLast_eq_take,List.dropLast_eq_take,s.length];exact s.take _
theorem RDs.set(r:RD Y H B d v):∀{ds:List D}{vs:List V} (i:Nat),RDs Y H B ds vs->RDs Y H B (ds.set i d) (vs.set i v)
 |_,_,_,.nil=>.nil
 |_,_,0,.cons _ s=>.cons r s
 |_,_,i+1,.cons a s=>.cons a (RDs.set r i s)
def RDs.cut(s:RDs Y H B ds vs)(lo hi:Option Int):RDs Y H B (cutD ds lo hi) (ZjC vs lo hi):=by unfold cutD ZjC;rw[s.length];exact(s.drop _).take _
theorem RDs.isEmpty(s:RDs Y H B ds vs):ds.isEmpty=vs.isEmpty:=by cases s<;>rfl
theorem RDs.atI(s:RDs Y H B ds vs)(e:L2.atI ds i=Wx d):∃v,L2.atI vs i=Wx v/\RD Y H B d v:=by
 unfold L2.atI at e ⊢;rw[s.length]at e;cases q:ixN vs.length i with
 |none=>rw[q]at e;cases e
 |some j=>rw[q]at e;exact s.get (i:=j) e
theorem RKs.val[DecidableEq κ]:∀{ds:List (κ×D)}{vs:List (κ×V)},RKs Y H B ds vs->∀(k:κ),((ds.find? λp=>WB (p.1=k))=Wy/\(vs.find? λp=>WB (p.1=k))=Wy)\/∃d v,(ds.find? λp=>WB (p.1=k))=Wx (k,d)/\(vs.find? λp=>WB (p.1=k))=Wx (k,v)/\RD Y H B d v
 |_,_,.nil,k=>.inl ⟨rfl,rfl⟩
 |_,_,.cons (k:=k') (d:=d) (v:=v) a s,k=>by
  by_cases e:k'=k
  . subst e;exact .inr ⟨d,v,by simp,by simp,a⟩
  . rcases s.val k with ⟨h1,h2⟩|⟨d,v,h1,h2,h3⟩
    . exact .inl ⟨by simp[e,h1],by simp[e,h2]⟩
    . exact .inr ⟨d,v,by simp[e,h1],by simp[e,h2],h3⟩
end
def ZtL{α:Type}{l:List α}(hl:l.Nodup){i j:Nat}{x:α}(a:l[i]? = Wx x)(b:l[j]? = Wx x):i=j:=by obtain⟨h1,e1⟩:=Ob.mp a;obtain⟨h2,e2⟩:=Ob.mp b;exact(List.getElem_inj hl).mp (e1.trans e2.symm)
section
variable {Y:Yx}{H:Hp}{B:List Yi}{h:Hd}
def Gr.lay(hp:H p=Wy):Gr H B (upd H p o) (B++[p]):=by
 refine⟨λi a e=>?_,λa ha=>?_,λb u hb e=>?_,λb u v e=>by rw[Zg (λz=>by rw[z,hp]at e;cases e)];exact e⟩
 . rw[Oe (Ob.mp e).1];exact e
 . rcases OD.mp ha with z|z
   . exact .inl z
   . rw[Ox.mp z];exact .inr hp
 . rw[Zg (λz=>by rw[z,hp]at e;cases e)];exact e
def Gr.lay0(hp:H p=Wy):Gr H B (upd H p o) B:=⟨λ_ _ e=>e,λa ha=>.inl ha,λb u hb e=>by rw[Zg (λz=>by rw[z,hp]at e;cases e)];exact e,λb u v e=>by rw[Zg (λz=>by rw[z,hp]at e;cases e)];exact e⟩
def NF:Option HO->Prop
 |some (.frz _ _)=>False
 |_=>True
def Gr.write(hp:p∈B)(nf:NF (H p)):Gr H B (upd H p o) B:=⟨λ_ _ e=>e,λa ha=>.inl ha,λb u hb e=>by rw[Zg (show b≠p from λz=>hb (by rw[z];exact hp))];exact e,λb u v e=>by rw[Zg (λz=>by rw[z]at e;rw[e]at nf;exact nf)];exact e⟩
theorem RO.mono(r:RH Y H B h)(g:Gr H B H' μ')(q:RO Y H B a o)(e:H' a=H a):RO Y H' μ' a o:=by
 cases o with
 |lst ds=>obtain⟨vs,z,s⟩:=q;exact⟨vs,e.trans z,s.mono r g⟩
 |dic ds=>obtain⟨vs,z,s⟩:=q;exact⟨vs,e.trans z,s.mono r g⟩
 |ins C ds=>obtain⟨a1,a2,a3,z,m,s⟩:=q;exact⟨a1,a2,a3,e.trans z,m,s.mono r g⟩
 |fdic ds=>obtain⟨o,vs,z,s⟩:=q;exact⟨o,vs,e.trans z,s.mono r g⟩
def RH.keep(r:RH Y H B h)(g:Gr H B H' B)(k:∀a∈B,H' a=H a):RH Y H' B h:=⟨r.len,r.nd,λi o a e1 e2=>(r.ob i o a e1 e2).mono r g (k a (O2 e2)),r.ks⟩
def ZkB(k:∀(i:Nat) (o:DO),h[i]? = Wx o->DOk o)(dk:DOk o):∀(i:Nat) (o':DO),(h++[o])[i]? = Wx o'->DOk o':=by
 intro i o' e1;by_cases hi:i<h.length
 . rw[Oe hi]at e1;exact k i o' e1
 . have hi':i=h.length:=by
    have:=(Ob.mp e1).1;simp at this
    lia
   subst hi';rw[Om (Oq _)]at e1;simp at e1;subst e1;exact dk
theorem RH.lay(r:RH Y H B h)(hp:H p=Wy)(n:RO Y (upd H p u) (B++[p]) p o)(dk:DOk o:=by trivial):RH Y (upd H p u) (B++[p]) (h++[o]):=by
 have np:p ∉ B:=λz=>by have:=r.mut z;rw[hp]at this;exact this
 refine⟨by simp[r.len],?_,λi o' a e1 e2=>?_,ZkB r.ks dk⟩
 . rw[List.nodup_append];refine⟨r.nd,by simp,λa ha b hb=>?_⟩;rw[Ox.mp hb];intro z;exact np (z ▸ ha)
 . by_cases hi:i<h.length
   . rw[Oe hi]at e1;rw[Oe (by rw[<- r.len];exact hi)]at e2;exact(r.ob i o' a e1 e2).mono r (Gr.lay hp) (Zg λz=>np (z ▸ O2 e2))
   . have hi':i=h.length:=by
      have:=(Ob.mp e1).1;simp at this
      lia
     subst hi';rw[Om (Oq _)]at e1;rw[Om (by rw[r.len];exact Oq _)]at e2;simp[r.len]at e1 e2;subst e1;subst e2;exact n
theorem RH.lay0(r:RH Y H B h)(hp:H p=Wy):RH Y (upd H p u) B h:=by
 have np:p ∉ B:=λz=>by have:=r.mut z;rw[hp]at this;exact this
 exact r.keep (Gr.lay0 hp) λa ha=>Zg λz=>np (z ▸ ha)
theorem RH.write{p:Yi}{i:Nat}{u:HO}{o:DO}(r:RH Y H B h)(hp:B[i]? = Wx p)(n:RO Y (upd H p u) B p o)(nf:NF (H p))(dk:DOk o:=by trivial):RH Y (upd H p u) B (h.set i o):=by
 have hm:p∈B:=O2 hp;refine⟨by simp[r.len],r.nd,λj o' a e1 e2=>?_,λj o' e1=>?_⟩
 rotate_right
 . by_cases hj:j=i
   . subst hj;have hl:j<h.length:=by rw[r.len];exact(Ob.mp hp).1
     rw[Ol hl]at e1;cases e1;exact dk
   . rw[Oc (YL hj)]at e1;exact r.ks j o' e1
 by_cases hj:j=i
 . subst hj;rw[hp]at e2;cases e2;have hl:j<h.length:=by rw[r.len];exact(Ob.mp hp).1
   rw[Ol hl]at e1;cases e1;exact n
 . rw[Oc (YL hj)]at e1;refine(r.ob j o' a e1 e2).mono r (Gr.write hm nf) (Zg λz=>hj ?_);subst z;exact ZtL r.nd e2 hp
end
end IV
end
section
set_option tactic.hygienic false
namespace IV
open PySem PySem.Spec PyProof.Rows L2
def Fin(Y:Yx)(rel:Hp->List Yi->α->β->Prop)(H:Hp)(B:List Yi)(r:R α)(Q:β->Hp->Prop)(E:XK):Prop:=match r with
 |.bad=>False
 |.ok a h'=>∀b H' μ',Gr H B H' μ'->RH Y H' μ' h'->rel H' μ' a b->Q b H'
 |.exc c h'=>∀H' μ' C,Gr H B H' μ'->RH Y H' μ' h'->Y.mg c=Wx (.ref C)->E (.ref C) Wy H'
section
variable {Y:Yx}{α β α' β':Type}{rel:Hp->List Yi->α->β->Prop}{rel':Hp->List Yi->α'->β'->Prop}{H H1:Hp}{B μ1:List Yi}{E:XK}
def Fin.mono(g:Gr H B H1 μ1)(f:Fin Y rel H B r Q E):Fin Y rel H1 μ1 r Q E:=by
 cases r with
 |bad=>exact f
 |ok a h=>exact λb H' μ' g'=>f b H' μ' (g.trans g')
 |exc c h=>exact λH' μ' C g'=>f H' μ' C (g.trans g')
theorem Fin.bind(f:Fin Y rel' H B (r.bind k) Q E)
 (hk:∀a h1 b H1 μ1,r=.ok a h1->Gr H B H1 μ1->RH Y H1 μ1 h1->rel H1 μ1 a b->Fin Y rel' H1 μ1 (k a h1) Q E->Q1 b H1):Fin Y rel H B r Q1 E:=by
 cases r with
 |bad=>exact f
 |ok a h=>exact λb H' μ' g' rh rl=>hk a h b H' μ' rfl g' rh rl (Fin.mono g' f)
 |exc c h=>exact f
theorem Fin.ok(f:Fin Y rel H B (.ok a h) Q E)(rh:RH Y H B h)(r:rel H B a b):Q b H:=f b H B Gr.refl rh r
def Fin.at(f:Fin Y rel H B (.ok a h) Q E)(g:Gr H B H1 μ1)(rh:RH Y H1 μ1 h)(r:rel H1 μ1 a b):Q b H1:=f b H1 μ1 g rh r
theorem Fin.ofO(f:Fin Y rel H B (R.ofO o h) Q E):∃a,o=Wx a/\Fin Y rel H B (.ok a h) Q E:=by
 cases o with
 |none=>exact f.elim
 |some a=>exact⟨a,rfl,f⟩
def Fin.iff[Decidable c](f:Fin Y rel H B (if c then r else .bad) Q E):c/\Fin Y rel H B r Q E:=by
 by_cases h:c
 . rw[if_pos h]at f;exact⟨h,f⟩
 . rw[if_neg h]at f;exact f.elim
def Fin.new(f:Fin Y (RD Y) H B (Zc0 o h) Q E)(rh:RH Y H B h)(hp:H p=Wy)(n:RO Y (upd H p u) (B++[p]) p o)(dk:DOk o:=by trivial):Q (.ref p) (upd H p u):=f.at (Gr.lay hp) (rh.lay hp n dk) (.ref (by rw[rh.len];simp))
theorem Fin.tup(f:Fin Y (RD Y) H B (.ok (.tup ds) h) Q E)(rh:RH Y H B h)(hp:H p=Wy)(r:RDs Y H B ds vs):Q (.ref p) (upd H p (.tup vs)):=f.at (Gr.lay0 hp) (rh.lay0 hp) (.tup (.inl (.inl Zi)) (r.mono rh (Gr.lay0 hp)))
def Fin.wrote(f:Fin Y rel H B (.ok a (h.set i o)) Q E)(rh:RH Y H B h)(hp:B[i]? = Wx p)(n:RO Y (upd H p u) B p o)(r:rel (upd H p u) B a b)(nf:NF (H p))(dk:DOk o:=by trivial):Q b (upd H p u):=f.at (Gr.write (O2 hp) nf) (rh.write hp n nf dk) r
end
section
variable {Y:Yx}{H:Hp}{B:List Yi}{h:Hd}
theorem RD.lst(rh:RH Y H B h)(r:RD Y H B (.ref i) v)(e:h[i]? = Wx (.lst xs)):∃a vs,v=.ref a/\B[i]? = Wx a/\H a=Wx (.lst vs)/\RDs Y H B xs vs:=by
 cases r with
 |ref q=>obtain⟨vs,h1,h2⟩:=rh.ob i _ _ e q;exact⟨_,vs,rfl,q,h1,h2⟩
theorem RD.dic(rh:RH Y H B h)(r:RD Y H B (.ref i) v)(e:h[i]? = Wx (.dic xs)):∃a vs,v=.ref a/\B[i]? = Wx a/\H a=Wx (.dK vs)/\RKs Y H B xs vs:=by
 cases r with
 |ref q=>obtain⟨vs,h1,h2⟩:=rh.ob i _ _ e q;exact⟨_,vs,rfl,q,h1,h2⟩
theorem RD.lstOf(rh:RH Y H B h)(r:RD Y H B d v)(e:lstOf d h=Wx xs):∃a vs,v=.ref a/\SqL Y.K H a vs/\RDs Y H B xs vs:=by
 cases d with
 |ref i=>
  unfold IV.lstOf at e;simp only at e;split at e
  . cases e;rename_i q;obtain⟨a,vs,h1,h2,h3,h4⟩:=r.lst rh q;exact⟨a,vs,h1,.of h3,h4⟩
  . cases e
 |ro ys=>
  cases e;cases r with
  |ro q s=>exact⟨_,_,rfl,q.sq,s⟩
 |_=>cases e
theorem RD.seqOf(rh:RH Y H B h)(r:RD Y H B d v)(e:seqOf d h=Wx xs):∃a vs,v=.ref a/\(SqL Y.K H a vs\/SqT Y.K H a vs)/\RDs Y H B xs vs:=by
 by_cases ht:∃ys,d=.tup ys
 . obtain⟨ys,rfl⟩:=ht;cases e;cases r with
   |tup q s=>exact⟨_,_,rfl,.inr q,s⟩
 . have e':IV.lstOf d h=Wx xs:=by
    cases d with
    |tup ys=>exact absurd ⟨ys,rfl⟩ ht
    |_=>exact e
   obtain⟨a,vs,h1,h2,h3⟩:=r.lstOf rh e';exact⟨a,vs,h1,.inl h2,h3⟩
def RD.int_inv(r:RD Y H B (.int i) v):v=.int i:=by cases r;rfl
def RD.str_inv(r:RD Y H B (.str i) v):v=.str i/\Yp i=Wz:=by cases r with|str x ok=>exact⟨rfl,ok⟩
def RD.tup_inv(r:RD Y H B (.tup ds) v):∃a vs,v=.ref a/\SqT Y.K H a vs/\RDs Y H B ds vs:=by cases r with|tup q s=>exact⟨_,_,rfl,q,s⟩
def Zhh(hx:Yp x=Wz)(hy:Yp y=Wz):Yp (x++y)=Wz:=by show(x.cps++y.cps).all _=Wz;rw[Array.all_append];unfold Yp at hx hy;rw[hx,hy];rfl
def Zoj(hx:Yp x=Wz)(n:Nat):Yp (ZeM x n)=Wz:=by
 have gen:∀(n:Nat) (a:Array Nat),a.all (·<0x110000)=Wz->((YK n x.cps).foldl (·++·) a).all (·<0x110000)=Wz:=by
  intro n;induction n with
  |zero=>intro a h;exact h
  |succ n ih=>intro a h;rw[List.replicate_succ,Wu];refine ih _ ?_;rw[Array.all_append,h];exact hx
 exact gen n #[] (by simp)
def Zko(hx:Yp x=Wz)(h:c∈x.cps.toList):Yp ⟨#[c]⟩=Wz:=by unfold Yp at hx ⊢;rw[Array.all_eq_true']at hx;have:=hx c (by simpa using h);simpa using this
def ZqV(h:atI xs i=Wx x):x∈xs:=by
 unfold atI at h;cases q:ixN xs.length i with
 |none=>rw[q]at h;cases h
 |some j=>rw[q]at h;exact O2 (i:=j) h
end
section
variable {X:Cx}{Y:Yx}{E:XK}
noncomputable def rB(Y:Yx)(E:XK)(f:D->D->Hd->R D):R2:=λx y H Q=>∃dx dy h B,RH Y H B h/\RD Y H B dx x/\RD Y H B dy y/\Fin Y (RD Y) H B (f dx dy h) Q E
theorem Fin.int2(f:Fin Y (RD Y) H B (int2 x y k) Q E):∃i j,x=.int i/\y=.int j/\Fin Y (RD Y) H B (k i j) Q E:=by
 cases x with
 |int i=>
  cases y with
  |int j=>exact⟨i,j,rfl,rfl,f⟩
  |_=>exact f.elim
 |_=>exact f.elim
def Zth(hY:Y.K=X.K)(op:Operator):OpR X (binaryOp op) (rB Y E (opB op)):=by
 intro pins s Z H x y v u Q I rx ry hh;obtain⟨dx,dy,h,B,rh,r1,r2,f⟩:=hh;cases op with
 |Add=>
  have f:Fin Y (RD Y) H B (Znc dx dy h) Q E:=f;cases dx with
  |int i=>
   cases dy with
   |int j=>cases r1;cases r2;exact Zte pins s Z H _ _ v u Q I rx ry ⟨_,_,rfl,rfl,f.ok rh (.int _)⟩
   |_=>exact f.elim
  |str i=>
   cases dy with
   |str j=>
    obtain⟨hz,f⟩:=Fin.iff f;cases r1 with|str _ o1=>
    cases r2 with|str _ o2=>
    exact Zkk pins s Z H _ _ v u Q I rx ry ⟨_,_,rfl,rfl,hz,f.ok rh (.str _ (Zhh o1 o2))⟩
   |_=>exact f.elim
  |tup xs=>
   cases dy with
   |tup ys=>
    obtain⟨hz,f⟩:=Fin.iff f;obtain⟨a,vs,rfl,t1,s1⟩:=r1.tup_inv;obtain⟨b,ws,rfl,t2,s2⟩:=r2.tup_inv;rw[s1.length,s2.length]at hz;by_cases h0:vs=[]
    . subst h0;cases s1;exact ZqG pins s Z H _ _ v u Q I rx ry ⟨a,b,ws,rfl,rfl,hY ▸ t1,hY ▸ t2,f.ok rh (.tup t2 s2)⟩
    . refine ZqF pins s Z H _ _ v u Q I rx ry ⟨a,b,vs,ws,rfl,rfl,hY ▸ t1,hY ▸ t2,h0,hz,λe=>?_,λe p hp=>f.tup rh hp (s1.append s2)⟩;subst e;cases s2;rw[Yt]at f;exact f.ok rh (.tup t1 s1)
   |_=>exact f.elim
  |ref i=>
   cases dy with
   |ref j=>
    unfold Znc at f;simp only at f;split at f
    . rename_i e1;split at f
      . rename_i e2;obtain⟨hz,f⟩:=f.iff;obtain⟨a,vs,rfl,_,h1,s1⟩:=r1.lst rh e1;obtain⟨b,ws,rfl,_,h2,s2⟩:=r2.lst rh e2;rw[s1.length,s2.length]at hz;exact Ztd pins s Z H _ _ v u Q I rx ry ⟨a,b,vs,ws,rfl,rfl,h1,h2,hz,λp hp=>f.new rh hp ⟨_,Zi,(s1.append s2).mono rh (Gr.lay hp)⟩⟩
      . exact f.elim
    . exact f.elim
   |_=>exact f.elim
  |_=>exact f.elim
 |Sub=>obtain⟨i,j,rfl,rfl,f⟩:=Fin.int2 f;cases r1;cases r2;exact Zs8 pins s Z H _ _ v u Q I rx ry ⟨_,_,rfl,rfl,f.ok rh (.int _)⟩
 |Mult=>
  have f:Fin Y (RD Y) H B (Zvt dx dy h) Q E:=f;cases dx with
  |str z=>
   cases dy with
   |int n=>
    obtain⟨hz,f⟩:=Fin.iff f;cases r1 with|str _ o1=>
    cases r2;exact ZqD pins s Z H _ _ v u Q I rx ry ⟨_,_,rfl,rfl,hz.1,hz.2.1,hz.2.2,f.ok rh (.str _ (Zoj o1 _))⟩
   |_=>exact f.elim
  |int i=>obtain⟨i,j,e1,rfl,f⟩:=Fin.int2 (show Fin Y (RD Y) H B (IV.int2 (.int i) dy λi j=>if i.natAbs<2 ^ 2000/\j.natAbs<2 ^ 2000 then .ok (.int (i * j)) h else .bad) Q E from f);cases e1;obtain⟨hz,f⟩:=f.iff;cases r1;cases r2;exact ZmF pins s Z H _ _ v u Q I rx ry ⟨_,_,rfl,rfl,hz,f.ok rh (.int _)⟩
  |_=>exact f.elim
 |Mod=>obtain⟨i,j,rfl,rfl,f⟩:=Fin.int2 f;obtain⟨hz,f⟩:=f.iff;cases r1;cases r2;exact Zta pins s Z H _ _ v u Q I rx ry ⟨_,_,rfl,rfl,hz,f.ok rh (.int _)⟩
 |FloorDiv=>obtain⟨i,j,rfl,rfl,f⟩:=Fin.int2 f;obtain⟨hz,f⟩:=f.iff;cases r1;cases r2;exact ZqE pins s Z H _ _ v u Q I rx ry ⟨_,_,rfl,rfl,hz,f.ok rh (.int _)⟩
 |Pow=>obtain⟨i,j,rfl,rfl,f⟩:=Fin.int2 f;obtain⟨hz,f⟩:=f.iff;cases r1;cases r2;exact Zs9 pins s Z H _ _ v u Q I rx ry ⟨_,_,rfl,rfl,hz,f.ok rh (.int _)⟩
 |_=>exact f.elim
end
end IV
end
section
namespace IV
open PySem PySem.Spec PyProof.Rows L2
structure Gk(X:Cx)(Y:Yx)(T:Tb):Prop where
 K:Y.K=X.K
 mg:Y.mg=X.mg
 gd:∀x kvs,T.GD x=Wx kvs->∃a kvs',X.mg x=Wx (.ref a)/\DkK X.prog X.w X.K a kvs'/\∀H B,RKs Y H B kvs kvs'
 g:∀x d,T.G x=Wx d->∃v u,X.mg x=Wx u/\RelV v u/\∀H B,RD Y H B d v
 bare:ZfG X.K=Wz
section
variable {X:Cx}{Y:Yx}{E:XK}{T:Tb}{H:Hp}{B:List Yi}{h:Hd}
theorem RD.dicOf(G:Gk X Y T)(rh:RH Y H B h)(r:RD Y H B d v)(e:dicOf T.GD d h=Wx kvs):∃a kvs',v=.ref a/\Dk X.prog X.w X.K H a kvs'/\RKs Y H B kvs kvs':=by
 cases d with
 |ref i=>
  unfold IV.dicOf at e;simp only at e;split at e
  . cases e;rename_i q;obtain⟨a,vs,h1,_,h3,h4⟩:=r.dic rh q;exact⟨a,vs,h1,.inl (.inl h3),h4⟩
  . cases e;rename_i q;cases r with
    |ref qm=>obtain⟨o,vs,h1,h2⟩:=rh.ob i _ _ q qm;exact⟨_,vs,rfl,.inl (.inr ⟨o,h1⟩),h2⟩
  . cases e
 |kd x=>
  obtain⟨a,kvs',h1,h2,h3⟩:=G.gd x kvs e;cases r with
  |kd q=>rw[G.mg,h1]at q;cases q;exact⟨a,kvs',rfl,.inr h2,h3 H B⟩
 |_=>cases e
def ZoE(r:RD Y H B d v)(e:keyOf d=Wx k):∀x,k=.inr x->Yp x=Wz:=by
 cases d with
 |int i=>cases e;intro x z;cases z
 |str i=>
  cases e;intro x z;cases z;cases r with
  |str _ ok=>exact ok
 |_=>cases e
def Zgk(h:Zbm kvs)(hk:∀x,k=.inr x->Yp x=Wz):Zbm (putD kvs k c):=by
 intro p hp x e;unfold putD at hp;split at hp
 . obtain⟨q,hq,rfl⟩:=List.mem_map.mp hp;refine h q hq x ?_;split at e<;>exact e
 . rcases OD.mp hp with hp|hp
   . exact h p hp x e
   . rw[Ox.mp hp]at e;exact hk x e
def ZdG(r:RD Y H B d v)(e:keyOf d=Wx k):v=kV k:=by
 cases d with
 |int i=>cases e;cases r;rfl
 |str i=>cases e;cases r;rfl
 |_=>cases e
def RKs.valV_rel(s:RKs Y H B ds vs)(k:Key):(Zab ds k=Wy/\Zeg vs k=Wy)\/∃d v,Zab ds k=Wx d/\Zeg vs k=Wx v/\RD Y H B d v:=by
 unfold Zab Zeg;rcases s.val k with ⟨h1,h2⟩|⟨d,v,h1,h2,h3⟩
 . exact .inl ⟨by rw[h1];rfl,by rw[h2];rfl⟩
 . exact .inr ⟨d,v,by rw[h1];rfl,by rw[h2];rfl,h3⟩
theorem RKs.any_rel(k:Key):∀{ds:List (Key×D)}{vs:List (Key×V)},RKs Y H B ds vs->(ds.any λkv=>WB (kv.1=k))=(vs.any λkv=>WB (kv.1=k))
 |_,_,.nil=>rfl
 |_,_,.cons a s=>by rw[Wg,Wg,s.any_rel k]
theorem RKs.map_rel(k:Key)(r:RD Y H B d v):∀{ds:List (Key×D)}{vs:List (Key×V)},RKs Y H B ds vs->RKs Y H B (ds.map λkv=>if kv.1=k then(kv.1,d)else kv) (vs.map λkv=>if kv.1=k then(kv.1,v)else kv)
 |_,_,.nil=>.nil
 |_,_,.cons (k:=k') a s=>by
  rw[Op,Op];by_cases e:k'=k
  . rw[if_pos e,if_pos e];exact .cons r (s.map_rel k r)
  . rw[if_neg e,if_neg e];exact .cons a (s.map_rel k r)
theorem RKs.append:∀{ds es:List (κ×D)}{vs ws:List (κ×V)},RKs Y H B ds vs->RKs Y H B es ws->RKs Y H B (ds++es) (vs++ws)
 |_,_,_,_,.nil,s=>s
 |_,_,_,_,.cons a r,s=>.cons a (r.append s)
def RKs.put(s:RKs Y H B ds vs)(k:Key)(r:RD Y H B d v):RKs Y H B (putD ds k d) (putK vs k v):=by
 unfold putD putK;rw[s.any_rel k];split
 . exact s.map_rel k r
 . exact s.append (.cons r .nil)
mutual
theorem RD.dp(rh:RH Y H B h)(rd:Nat->Option PyData)(hr:∀i p a,rd i=Wx p->B[i]? = Wx a->Dp Y.K H (.ref a) p):∀{d:D}{v:V}{p:PyData},RD Y H B d v->D.py rd d=Wx p->Dp Y.K H v p
 |_,_,_,.non,e=>by cases e;exact .non
 |_,_,_,.bl b,e=>by cases e;exact .bl b
 |_,_,_,.int i,e=>by cases e;exact .int i
 |_,_,_,.str x ok,e=>by cases e;exact .str x ok
 |_,_,_,.tup t s,e=>by rw[D.py]at e;obtain⟨ps,e1,rfl⟩:=Oo.mp e;exact .tup t (RDs.dps rh rd hr s e1)
 |_,_,_,.ref q,e=>hr _ _ _ e q
 |_,_,_,.ty n,e=>by cases e
 |_,_,_,.ro t s,e=>by rw[D.py]at e;obtain⟨ps,e1,rfl⟩:=Oo.mp e;exact .lst t.sq (RDs.dps rh rd hr s e1)
 |_,_,_,.kd q,e=>by cases e
theorem RDs.dps(rh:RH Y H B h)(rd:Nat->Option PyData)(hr:∀i p a,rd i=Wx p->B[i]? = Wx a->Dp Y.K H (.ref a) p):∀{d:List D}{v:List V}{p:List PyData},RDs Y H B d v->D.pys rd d=Wx p->Dps Y.K H v p
 |_,_,_,.nil,e=>by cases e;exact .nil
 |_,_,_,.cons a s,e=>by rw[D.pys]at e;obtain⟨q,e1,e2⟩:=Option.bind_eq_some_iff.mp e;obtain⟨qs,e3,rfl⟩:=Oo.mp e2;exact .cons (RD.dp rh rd hr a e1) (RDs.dps rh rd hr s e3)
end
theorem ZlD(rh:RH Y H B h):∀(n i:Nat) (p:PyData) (a:Yi),ZhJ h n i=Wx p->B[i]? = Wx a->Dp Y.K H (.ref a) p
 |0,i,p,a,e,q=>by cases e
 |n+1,i,p,a,e,q=>by
  rw[ZhJ]at e;split at e
  . rename_i xs he;obtain⟨ps,e1,rfl⟩:=Oo.mp e;obtain⟨vs,z,s⟩:=rh.ob i _ a he q;exact .lst (.of z) (RDs.dps rh _ (ZlD rh n) s e1)
  . cases e
def Zft(rh:RH Y H B h)(r:RD Y H B d v)(e:ZiU h d=Wx p):Dp Y.K H v p:=r.dp rh _ (ZlD rh 4) e
def Zgv(r:RD Y H B d v)(f:d.flat=Wz):ZdZ v=Wz:=by cases r<;>first|rfl|cases f
theorem ZeR:∀{ds:List D}{vs:List V},RDs Y H B ds vs->ds.all D.flat=Wz->vs.all ZdZ=Wz
 |_,_,.nil,_=>rfl
 |_,_,.cons a s,f=>by rw[List.all_cons,Oa]at f;rw[List.all_cons,Zgv a f.1,ZeR s f.2];rfl
def Zt0(r:RD Y H B d v)(q:RD Y H B e w)(f:d.flat=Wz)(g:e.flat=Wz):eqF d e=eqV v w:=by cases r<;>cases q<;>first|rfl|exact absurd f (by simp[D.flat])|exact absurd g (by simp[D.flat])
theorem any_rel(q:RD Y H B e w)(g:e.flat=Wz):∀{ds:List D}{vs:List V},RDs Y H B ds vs->ds.all D.flat=Wz->(ds.any λz=>eqF z e)=vs.any λy=>eqV y w
 |_,_,.nil,_=>rfl
 |_,_,.cons a s,f=>by rw[List.all_cons,Oa]at f;rw[Wg,Wg,Zt0 a q f.1 g,any_rel q g s f.2]
def ZqN(hr:Room k X.A)(h60:60<=k)(hY:Y.K=X.K):OpR X (YM .Eq) (rB Y E (Zb8 WA)):=by
 intro pins s Z H x y v u Q I rx ry hh;obtain⟨dx,dy,h,B,rh,r1,r2,f⟩:=hh;unfold Zb8 at f;split at f
 . rename_i e1 e2;obtain⟨hz,f⟩:=f.iff;have d1:=Zft rh r1 e1;have d2:=Zft rh r2 e2;rw[hY]at d1 d2;obtain⟨as,q1⟩:=I.reads d1 rx;obtain⟨bs,q2⟩:=I.reads d2 ry;have:=hr.un;exact SeqAt.compareEq_reads q1 q2 d1.lay d2.lay (by lia) ⟨.bl _,H,I,rfl,f.ok rh (.bl _)⟩
 . exact f.elim
def ZqI(hr:Room k X.A)(h60:60<=k)(hY:Y.K=X.K):OpR X (YM .NotEq) (rB Y E (Zb8 Wz)):=by
 intro pins s Z H x y v u Q I rx ry hh;obtain⟨dx,dy,h,B,rh,r1,r2,f⟩:=hh;unfold Zb8 at f;split at f
 . rename_i e1 e2;obtain⟨hz,f⟩:=f.iff;have d1:=Zft rh r1 e1;have d2:=Zft rh r2 e2;rw[hY]at d1 d2;obtain⟨as,q1⟩:=I.reads d1 rx;obtain⟨bs,q2⟩:=I.reads d2 ry;have:=hr.un;exact SeqAt.compareNe_reads q1 q2 d1.lay d2.lay (by lia) ⟨.bl _,H,I,rfl,f.ok rh (.bl _)⟩
 . exact f.elim
def Zfv(ho:OpR X (YM op) (rI0 λi j=>.bl (g i j))):OpR X (YM op) (rB Y E (ZhS g)):=by
 intro pins s Z H x y v u Q I rx ry hh;obtain⟨dx,dy,h,B,rh,r1,r2,f⟩:=hh;unfold ZhS at f;split at f
 . cases r1;cases r2;exact ho pins s Z H _ _ v u Q I rx ry ⟨_,_,rfl,rfl,f.ok rh (.bl _)⟩
 . exact f.elim
def ZlK(r:RD Y H B d v):WB (d=.non)=WB (v=.non):=by cases r<;>simp
def ZqL:OpR X (YM .Is) (rB Y E (opN WA)):=by
 intro pins s Z H x y v u Q I rx ry hh;obtain⟨dx,dy,h,B,rh,r1,r2,f⟩:=hh;unfold opN at f;split at f
 . cases r2;have z:=ZlK r1;simp only[OG,if_false,z]at f;exact Ztb pins s Z H _ _ v u Q I rx ry ⟨rfl,f.ok rh (.bl _)⟩
 . exact f.elim
def ZmH:OpR X (YM .IsNot) (rB Y E (opN Wz)):=by
 intro pins s Z H x y v u Q I rx ry hh;obtain⟨dx,dy,h,B,rh,r1,r2,f⟩:=hh;unfold opN at f;split at f
 . cases r2;have z:=ZlK r1;simp only[if_true,z]at f;exact ZqC pins s Z H _ _ v u Q I rx ry ⟨rfl,f.ok rh (.bl _)⟩
 . exact f.elim
def ZqM(G:Gk X Y T):OpR X (YM .In) (rB Y E (ZbT T.GD WA)):=by
 intro pins s Z H x y v u Q I rx ry hh;obtain⟨dx,dy,h,B,rh,r1,r2,f⟩:=hh;unfold ZbT at f;split at f
 . rename_i xs e1;obtain⟨hz,f⟩:=f.iff;rw[Oa]at hz;obtain⟨a,vs,rfl,hs,rs⟩:=r2.seqOf rh e1;have q:=f.ok rh (.bl _);simp only[OG,if_false,any_rel r1 hz.1 rs hz.2]at q;exact ZmG pins s Z H _ _ v u Q I rx ry ⟨a,vs,rfl,G.K ▸ hs,Zgv r1 hz.1,ZeR rs hz.2,q⟩
 . split at f
   . rename_i kvs k e1 e2;obtain⟨a,kvs',rfl,hd,rk⟩:=r2.dicOf G rh e1;have q:=f.ok rh (.bl _);have z:(Zab kvs k).isSome=(Zeg kvs' k).isSome:=by rcases rk.valV_rel k with ⟨h1,h2⟩|⟨d,v,h1,h2,_⟩<;>rw[h1,h2]<;>rfl
     rw[z]at q;exact Ztc pins s Z H _ _ v u Q I rx ry ⟨a,kvs',k,rfl,ZdG r1 e2,hd,q⟩
   . exact f.elim
def Zkl(G:Gk X Y T):OpR X (YM .NotIn) (rB Y E (ZbT T.GD Wz)):=by
 intro pins s Z H x y v u Q I rx ry hh;obtain⟨dx,dy,h,B,rh,r1,r2,f⟩:=hh;unfold ZbT at f;split at f
 . rename_i xs e1;obtain⟨hz,f⟩:=f.iff;rw[Oa]at hz;obtain⟨a,vs,rfl,hs,rs⟩:=r2.seqOf rh e1;have q:=f.ok rh (.bl _);simp only[if_true,any_rel r1 hz.1 rs hz.2]at q;exact ZhR pins s Z H _ _ v u Q I rx ry ⟨a,vs,rfl,G.K ▸ hs,Zgv r1 hz.1,ZeR rs hz.2,q⟩
 . split at f
   . rename_i kvs k e1 e2;obtain⟨a,kvs',rfl,hd,rk⟩:=r2.dicOf G rh e1;have q:=f.ok rh (.bl _);have z:(Zab kvs k).isSome=(Zeg kvs' k).isSome:=by rcases rk.valV_rel k with ⟨h1,h2⟩|⟨d,v,h1,h2,_⟩<;>rw[h1,h2]<;>rfl
     rw[z]at q;exact ZmE pins s Z H _ _ v u Q I rx ry ⟨a,kvs',k,rfl,ZdG r1 e2,hd,q⟩
   . exact f.elim
def Zof(hr:Room k X.A)(h60:60<=k)(G:Gk X Y T)(op:CmpOp):OpR X (YM op) (rB Y E (opC T.GD op)):=by
 cases op with
 |Eq=>exact ZqN hr h60 G.K
 |NotEq=>exact ZqI hr h60 G.K
 |Lt=>exact Zfv Zvg
 |LtE=>exact Zfv Zvh
 |Gt=>exact Zfv Zvi
 |GtE=>exact Zfv Zvj
 |Is=>exact ZqL
 |IsNot=>exact ZmH
 |In=>exact ZqM G
 |NotIn=>exact Zkl G
def ZqJ(G:Gk X Y T):IxR X (rB Y E (Z5 T.GD)):=by
 intro value slice pins s Z H x y v u Q I rx ry hh hs;obtain⟨dx,dy,h,B,rh,r1,r2,f⟩:=hh;have dict:∀(kvs:List (Key×D)) (k:Key),dicOf T.GD dx h=Wx kvs->y=kV k->Fin Y (RD Y) H B (R.ofO (Zab kvs k) h) Q E->YB (model X.prog X.w) X.A (subscriptTail value slice v u) (EP X pins Z Q) X.xe s:=by
  intro kvs k e1 ey f;obtain⟨d,e2,f⟩:=f.ofO;obtain⟨a,kvs',rfl,hd,rk⟩:=r1.dicOf G rh e1;rcases rk.valV_rel k with ⟨h1,h2⟩|⟨d',w,h1,h2,h3⟩
  . rw[h1]at e2;cases e2
  . rw[h1]at e2;cases e2;exact Zq6 value slice pins s Z H _ _ v u Q I rx ry ⟨a,kvs',k,w,rfl,ey,hd,h2,f.ok rh h3⟩ hs
 unfold Z5 at f;split at f
 . rename_i i;cases r2;split at f
   . rename_i xs e1;obtain⟨d,e2,f⟩:=f.ofO;obtain⟨a,vs,rfl,hq,rs⟩:=r1.seqOf rh e1;obtain⟨w,e3,rw'⟩:=rs.atI e2;rcases hq with hq|hq
     . exact Zq5 value slice pins s Z H _ _ v u Q I rx ry ⟨a,vs,i,w,rfl,rfl,G.K ▸ hq,e3,f.ok rh rw'⟩ hs
     . exact ZtJ value slice pins s Z H _ _ v u Q I rx ry ⟨a,vs,i,w,rfl,rfl,G.K ▸ hq,e3,f.ok rh rw'⟩ hs
   . split at f
     . obtain⟨hz,f⟩:=f.iff;obtain⟨d,e2,f⟩:=f.ofO;obtain⟨c,e3,rfl⟩:=Oo.mp e2;obtain⟨rfl,ok⟩:=r1.str_inv;exact ZtK value slice pins s Z H _ _ v u Q I rx ry ⟨_,i,c,rfl,rfl,hz,e3,f.ok rh (.str _ (Zko ok (ZqV e3)))⟩ hs
     . split at f
       . rename_i kvs e1;exact dict kvs (.inl i) e1 rfl f
       . exact f.elim
 . rename_i z;obtain⟨rfl,ok⟩:=r2.str_inv;split at f
   . rename_i kvs e1;exact dict kvs (.inr z) e1 rfl f
   . exact f.elim
 . exact f.elim
def Zoi(hx:Yp x=Wz)(h:∀c∈y.cps.toList,c∈x.cps.toList):Yp y=Wz:=by unfold Yp at hx ⊢;rw[Array.all_eq_true']at hx ⊢;intro c hc;exact hx c (by simpa using h c (by simpa using hc))
def ZpL(hY:Y.K=X.K)(rh:RH Y H B h)(r:RD Y H B d v)(e:Zd4 T.GD d h=Wx b):Zub X.K v H b:=by
 cases d with
 |non=>cases r;cases e;rfl
 |bl c=>cases r;cases e;rfl
 |int c=>cases r;cases e;rfl
 |str c=>
  cases r;unfold Zd4 at e;simp only at e;split at e
  . rename_i hz;cases e;refine⟨hz,?_⟩;by_cases h0:c.length=0
    . simp[h0]
    . have h1:((c.length:Int) != 0)=Wz:=by
       simp
       lia
      rw[h1];simp[h0]
  . cases e
 |tup xs=>obtain⟨a,vs,rfl,t,s⟩:=r.tup_inv;cases e;exact .inr (.inl ⟨vs,hY ▸ t,by rw[s.isEmpty]⟩)
 |ref i=>
  unfold Zd4 at e;simp only at e;split at e
  . rename_i q;cases e;obtain⟨a,vs,rfl,_,h3,s⟩:=r.lst rh q;exact .inl ⟨vs,.of h3,by rw[s.isEmpty]⟩
  . rename_i q;cases e;obtain⟨a,vs,rfl,_,h3,s⟩:=r.dic rh q;exact .inr (.inr ⟨vs,h3,by cases s<;>rfl⟩)
  . cases e
 |ro xs=>
  cases e;cases r with
  |ro q s=>exact .inl ⟨_,hY ▸ q.sq,by rw[s.isEmpty]⟩
 |ty n=>cases e
 |kd x=>cases e
end
end IV
end
section
namespace IV
open PySem PySem.Spec PyProof.Rows L2
section
variable {X:Cx}{Y:Yx}{E:XK}{T:Tb}{H:Hp}{B:List Yi}{h:Hd}
def rS(Y:Yx)(E:XK):V->Option Int->Option Int->Hp->VK->Prop:=λx l u H Q=>∃d h B,RH Y H B h/\RD Y H B d x/\Fin Y (RD Y) H B (ZgJ d l u h) Q E
def ZfN(y:Str)(l u:Option Int):∀c∈(Yq y l u).cps.toList,c∈y.cps.toList:=by
 intro c hc;unfold Yq at hc;split at hc
 . exact hc
 . simp only[List.mem_filterMap]at hc;obtain⟨i,_,hi⟩:=hc;have:=Array.mem_of_getElem? hi;simpa using this
def Zm4{xs:List D}{lo hi:Option Int}(h:HT.sIx xs.length 0 lo=0/\HT.sIx xs.length xs.length hi=xs.length):cutD xs lo hi=xs:=by unfold cutD;rw[h.1,h.2];simp
def ZqH(hY:Y.K=X.K):SlR X (rS Y E):=by
 intro pins s Z H x v vl vu lo hi sl Q I rx hs pl pu hh;obtain⟨d,h,B,rh,r,f⟩:=hh;unfold ZgJ at f;split at f
 . rename_i xs;obtain⟨a,vs,rfl,t,rs⟩:=r.tup_inv;by_cases hw:HT.sIx vs.length 0 lo=0/\HT.sIx vs.length vs.length hi=vs.length
   . rw[Zm4 (by rw[rs.length];exact hw)]at f;exact Znz pins s Z H _ v vl vu lo hi sl Q I rx hs pl pu ⟨a,vs,rfl,hY ▸ t,hw,f.ok rh (.tup t rs)⟩
   . exact Zsu pins s Z H _ v vl vu lo hi sl Q I rx hs pl pu ⟨a,vs,rfl,hY ▸ t,hw,λp hp=>f.tup rh hp (rs.cut lo hi)⟩
 . obtain⟨hz,f⟩:=f.iff;obtain⟨rfl,ok⟩:=r.str_inv;exact Zsw pins s Z H _ v vl vu lo hi sl Q I rx hs pl pu ⟨_,rfl,hz,f.ok rh (.str _ (Zoi ok (ZfN _ _ _)))⟩
 . split at f
   . rename_i xs e1;obtain⟨a,vs,rfl,hl,rs⟩:=r.lstOf rh e1;exact ZpV pins s Z H _ v vl vu lo hi sl Q I rx hs pl pu ⟨a,vs,rfl,hY ▸ hl,λp hp=>f.new rh hp ⟨_,Zi,(rs.cut lo hi).mono rh (Gr.lay hp)⟩⟩
   . exact f.elim
def rF(Y:Yx)(E:XK)(f:List D->Hd->R D):List V->Hp->VK->Prop:=λxs H Q=>∃ds h B,RH Y H B h/\RDs Y H B ds xs/\Fin Y (RD Y) H B (f ds h) Q E
def RDs.one(r:RDs Y H B [d] xs):∃x,xs=[x]/\RD Y H B d x:=by
 cases r with
 |cons a s=>cases s;exact⟨_,rfl,a⟩
def RDs.two(r:RDs Y H B [d,e] xs):∃x y,xs=[x,y]/\RD Y H B d x/\RD Y H B e y:=by
 cases r with
 |cons a s=>obtain⟨y,rfl,b⟩:=s.one;exact⟨_,_,rfl,a,b⟩
def Zru(hY:Y.K=X.K):ZcA X (.builtin "len") (rF Y E ZjU):=by
 intro pins s Z H xs us Q I r hh;obtain⟨ds,h,B,rh,rs,f⟩:=hh;unfold ZjU at f;split at f
 . obtain⟨hz,f⟩:=f.iff;obtain⟨x,rfl,rd⟩:=rs.one;obtain⟨rfl,ok⟩:=rd.str_inv;exact Zij pins s Z H _ us Q I r ⟨_,rfl,hz,f.ok rh (.int _)⟩
 . obtain⟨e,e1,f⟩:=f.ofO;obtain⟨zs,e2,rfl⟩:=Oo.mp e1;obtain⟨x,rfl,rd⟩:=rs.one;obtain⟨a,vs,rfl,hq,rv⟩:=rd.seqOf rh e2;refine Zik pins s Z H _ us Q I r ⟨a,vs,rfl,hY ▸ hq,?_⟩;rw[<- rv.length];exact f.ok rh (.int _)
 . exact f.elim
def Zq2{K:Yk}{t T:String}{b:Bool}(e:ZkS t T=Wx b):PySem.W.kitOne K (.type t) (.type T)=Wx b:=by
 have all:(["int", "str", "bool", "tuple", "list"].all λT=>["int", "str", "bool", "tuple", "list", "NoneType"].all λt=>WB (PySem.W.kitOne [] (.type t) (.type T)=Wx (t==T || (t == "bool" && T == "int"))))=Wz:=by decide +kernel
 unfold ZkS at e;split at e
 . rename_i hm;cases e;rw[OC]at all;have h1:=all T hm.1;rw[OC]at h1;exact ZmP (of_decide_eq_true (h1 t hm.2))
 . cases e
def Zuu(hY:Y.K=X.K)(rh:RH Y H B h)(r:RD Y H B d v)(e:Zuv d h=Wx t):TyN X.K v H t:=by
 have lst:(IV.lstOf d h).map (λ_ => "list")=Wx t->TyN X.K v H t:=λe=>by obtain⟨xs,e1,rfl⟩:=Oo.mp e;obtain⟨a,vs,rfl,hl,rs⟩:=r.lstOf rh e1;exact .inl ⟨rfl,vs,hY ▸ hl⟩
 cases d with
 |int i=>cases e;cases r;rfl
 |str i=>cases e;cases r;rfl
 |bl i=>cases e;cases r;rfl
 |non=>cases e;cases r;rfl
 |tup xs=>cases e;obtain⟨a,vs,rfl,t,rs⟩:=r.tup_inv;exact .inr ⟨rfl,vs,hY ▸ t⟩
 |ref i=>exact lst e
 |ro xs=>exact lst e
 |ty n=>exact lst e
 |kd x=>exact lst e
def Zrv(hY:Y.K=X.K):ZcA X (.builtin "isinstance") (rF Y E Zt8):=by
 intro pins s Z H xs us Q I r hh;obtain⟨ds,h,B,rh,rs,f⟩:=hh;unfold Zt8 at f;split at f
 . obtain⟨e,e1,f⟩:=f.ofO;obtain⟨t,e2,e3⟩:=Option.bind_eq_some_iff.mp e1;obtain⟨b,e4,rfl⟩:=Oo.mp e3;obtain⟨x,y,rfl,r1,r2⟩:=rs.two;cases r2;exact Zpn pins s Z H _ us Q I r ⟨x,t,_,b,rfl,Zuu hY rh r1 e2,Zq2 e4,f.ok rh (.bl _)⟩
 . exact f.elim
def Zrr(hY:Y.K=X.K):ZcA X (.type "tuple") (rF Y E Zna):=by
 intro pins s Z H xs us Q I r hh;obtain⟨ds,h,B,rh,rs,f⟩:=hh;unfold Zna at f;split at f
 . obtain⟨x,rfl,r1⟩:=rs.one;obtain⟨a,vs,rfl,t,rv⟩:=r1.tup_inv;exact Zd1 pins s Z H _ us Q I r ⟨a,vs,rfl,.inr ⟨hY ▸ t,f.ok rh (.tup t rv)⟩⟩
 . obtain⟨e,e1,f⟩:=f.ofO;obtain⟨zs,e2,rfl⟩:=Oo.mp e1;obtain⟨x,rfl,r1⟩:=rs.one;obtain⟨a,vs,rfl,hl,rv⟩:=r1.lstOf rh e2;exact Zd1 pins s Z H _ us Q I r ⟨a,vs,rfl,.inl ⟨hY ▸ hl,λp hp=>f.tup rh hp rv⟩⟩
 . exact f.elim
theorem Zgp:∀{ds:List D}{vs:List V}{ns:List Int},RDs Y H B ds vs->intsOf ds=Wx ns->vs=ns.map V.int
 |_,_,_,.nil,e=>by cases e;rfl
 |_,_,_,.cons (d:=d) a s,e=>by
  cases d with
  |int i=>rw[intsOf]at e;obtain⟨z,e1,rfl⟩:=Oo.mp e;cases a;rw[Zgp s e1];rfl
  |_=>cases e
def Zrs(hc:X.A.handled=Wy)(hY:Y.K=X.K):ZcA X (.builtin "sum") (rF Y E Zpu):=by
 intro pins s Z H xs us Q I r hh;obtain⟨ds,h,B,rh,rs,f⟩:=hh;unfold Zpu at f;split at f
 . obtain⟨e,e1,f⟩:=f.ofO;obtain⟨ns,e2,rfl⟩:=Oo.mp e1;obtain⟨zs,e3,e4⟩:=Option.bind_eq_some_iff.mp e2;obtain⟨x,rfl,r1⟩:=rs.one;obtain⟨a,vs,rfl,hl,rv⟩:=r1.lstOf rh e3;rw[Zgp rv e4]at hl;exact Zm7 hc pins s Z H _ us Q I r ⟨a,ns,rfl,hY ▸ hl,f.ok rh (.int _)⟩
 . exact f.elim
def rM(Y:Yx)(E:XK)(m:Mf):V->List V->Hp->VK->Prop:=λx xs H Q=>∃d ds h B,RH Y H B h/\RD Y H B d x/\RDs Y H B ds xs/\Fin Y (RD Y) H B (ZaI m d ds h) Q E
noncomputable def mid:Mf->String
 |.app => "list.append"
 |.ext => "list.extend"
 |.pop => "list.pop"
 |.rev => "list.reverse"
 |.clr => "list.clear"
def ZlO(hY:Y.K=X.K)(m:Mf):MtM X (mid m) (rM Y E m):=by
 intro pins s Z H x xs v us Q I rx rs hh;obtain⟨d,ds,h,B,rh,r1,r2,f⟩:=hh;unfold ZaI at f;split at f
 . split at f
   . rename_i i ys e;obtain⟨a,vs,rfl,hi,hl,rv⟩:=r1.lst rh e;cases m with
     |app=>
      unfold Zge Zos at f;simp only at f;split at f
      . obtain⟨hz,f⟩:=f.iff;obtain⟨y,rfl,ry⟩:=r2.one;have g:Gr H B (upd H a (.lst (vs++[y]))) B:=Gr.write (O2 hi) (by rw[hl];trivial);exact Zhi pins s Z H _ _ v us Q I rx rs ⟨a,vs,y,rfl,rfl,hl,by rw[<- rv.length];exact hz,f.wrote rh hi ⟨_,Zi,(rv.append (.cons ry .nil)).mono rh g⟩ .non (by rw[hl];trivial)⟩
      . exact f.elim
     |ext=>
      unfold Zge Zto at f;simp only at f;split at f
      . split at f
        . rename_i zs e2;obtain⟨hz,f⟩:=f.iff;obtain⟨y,rfl,ry⟩:=r2.one;obtain⟨b,ws,rfl,hj,hl2,rw'⟩:=ry.lst rh e2;have g:Gr H B (upd H a (.lst (vs++ws))) B:=Gr.write (O2 hi) (by rw[hl];trivial);exact ZmL pins s Z H _ _ v us Q I rx rs ⟨a,b,vs,ws,rfl,rfl,hl,hl2,by rw[<- rv.length,<- rw'.length];exact hz,f.wrote rh hi ⟨_,Zi,(rv.append rw').mono rh g⟩ .non (by rw[hl];trivial)⟩
        . exact f.elim
      . obtain⟨hz,f⟩:=f.iff;obtain⟨y,rfl,ry⟩:=r2.one;obtain⟨b,ws,rfl,t,rw'⟩:=ry.tup_inv;have g:Gr H B (upd H a (.lst (vs++ws))) B:=Gr.write (O2 hi) (by rw[hl];trivial);exact Zkq pins s Z H _ _ v us Q I rx rs ⟨a,b,vs,ws,rfl,rfl,hl,hY ▸ t,by rw[<- rv.length,<- rw'.length];exact hz,f.wrote rh hi ⟨_,Zi,(rv.append rw').mono rh g⟩ .non (by rw[hl];trivial)⟩
      . exact f.elim
     |pop=>
      unfold Zge ZqX at f;simp only at f;split at f
      . split at f
        . rename_i y e2;cases r2;rw[rv.length]at e2;obtain⟨w,e3,rw'⟩:=rv.get e2;have g:Gr H B (upd H a (.lst vs.dropLast)) B:=Gr.write (O2 hi) (by rw[hl];trivial);exact Ztl pins s Z H _ _ v us Q I rx rs ⟨a,vs,w,rfl,rfl,hl,e3,f.wrote rh hi ⟨_,Zi,rv.dropLast.mono rh g⟩ (rw'.mono rh g) (by rw[hl];trivial)⟩
        . exact f.elim
      . exact f.elim
     |rev=>
      unfold Zge Zvw at f;simp only at f;split at f
      . cases r2;have g:Gr H B (upd H a (.lst vs.reverse)) B:=Gr.write (O2 hi) (by rw[hl];trivial);exact Zkp pins s Z H _ _ v us Q I rx rs ⟨a,vs,rfl,rfl,hl,f.wrote rh hi ⟨_,Zi,rv.reverse.mono rh g⟩ .non (by rw[hl];trivial)⟩
      . exact f.elim
     |clr=>
      unfold Zge Zvx at f;simp only at f;split at f
      . cases r2;exact Zop pins s Z H _ _ v us Q I rx rs ⟨a,vs,rfl,rfl,hl,f.wrote rh hi ⟨_,Zi,.nil⟩ .non (by rw[hl];trivial)⟩
      . exact f.elim
   . exact f.elim
 . exact f.elim
noncomputable def rP(Y:Yx)(E:XK):ZpA:=λo i v H Q=>∃a b c h B,RH Y H B h/\RD Y H B a o/\RD Y H B b i/\RD Y H B c v/\Fin Y (λ_ _ (_:Unit) (_:Unit)=>True) H B (Zbo a b c h) (λ_ H'=>Q H') E
def ZsN:Zry X (rP Y E):=by
 intro pins s Z H o i v ov iv u Q I ro ri rv hh;obtain⟨a,b,c,h,B,rh,ra,rb,rc,f⟩:=hh;unfold Zbo at f;split at f
 . split at f
   . rename_i j xs e;split at f
     . split at f
       . rename_i j' e2;obtain⟨p,vs,rfl,hi,hl,rs⟩:=ra.lst rh e;have hb:=rb.int_inv;subst hb;rw[rs.length]at e2;have g:Gr H B (upd H p (.lst (vs.set j' v))) B:=Gr.write (O2 hi) (by rw[hl];trivial);exact set_list pins s Z H _ _ v ov iv u Q I ro ri rv ⟨p,vs,_,j',rfl,rfl,hl,e2,f.wrote (b:=()) rh hi ⟨_,Zi,(RDs.set rc j' rs).mono rh g⟩ trivial (by rw[hl];trivial)⟩
       . exact f.elim
     . exact f.elim
   . rename_i j kvs e;split at f
     . rename_i k e2;obtain⟨hz,f⟩:=f.iff;obtain⟨p,vs,rfl,hi,hl,rs⟩:=ra.dic rh e;have g:Gr H B (upd H p (.dK (putK vs k v))) B:=Gr.write (O2 hi) (by rw[hl];trivial);exact set_dict pins s Z H _ _ v ov iv u Q I ro ri rv ⟨p,vs,k,rfl,ZdG rb e2,hl,by rw[<- rs.length];exact hz,f.wrote (b:=()) rh hi ⟨_,Zi,(rs.put k rc).mono rh g⟩ trivial (by rw[hl];trivial) (Zgk (rh.ks _ _ e) (ZoE rb e2))⟩
     . exact f.elim
   . exact f.elim
 . exact f.elim
end
end IV
end
section
namespace IV
open PySem PySem.Spec PyProof.Rows L2
def rW(K:Yk)(x:V)(H1:Hp)(R:It->Hp->Prop):Prop:=(∃a,x=.ref a/\(∃xs,SqL K H1 a xs)/\R (Itl K a) H1)\/(∃a,x=.ref a/\(∃xs,SqT K H1 a xs)/\R (Itt K a) H1)\/(∃y,x=.str y/\R (Its y) H1)
def ZsW(hl:PE X l tl):PI X tg l (λZ H R=>tl Z H λx H1=>rW X.K x H1 R):=by
 intro pins s Z H R I h;refine thn (hl pins s Z H _ I h) λv s1 ⟨x,H1,I1,r1,q1⟩=>?_;have fp1:∀b∈[s1.heap.objs.size],Zbt X pins H1 b:=λb hb=>by
  have e:b=s1.heap.objs.size:=by simpa using hb
  subst e;exact I1.fpOk (Oq _) (I1.hok.fresh (Oq _))
 rcases q1 with ⟨a,rfl,⟨xs,hq⟩,q⟩|⟨a,rfl,⟨xs,hq⟩,q⟩|⟨y,rfl,q⟩
 . cases r1;obtain⟨its,rv,p,hz⟩:=I1.list hq;exact wpAny_pyIter_list p.isList ⟨s1.heap.objs.size,[s1.heap.objs.size],_,_,H1,rfl,I1.kept (t':=s1.toks) λb o e=>O1 _ e,Zmg a _,⟨_,Oj _ rfl,rfl,rfl⟩,fp1,q⟩
 . cases r1;obtain⟨its,rv,p,hz⟩:=I1.tuple hq;exact wpAny_pyIter_tuple (show s1.heap.IsTuple a its.toArray from p) ⟨s1.heap.objs.size,[s1.heap.objs.size],_,_,H1,rfl,I1.kept (t':=s1.toks) λb o e=>O1 _ e,Zj3 a _,⟨_,Oj _ rfl,rfl,rfl⟩,fp1,q⟩
 . obtain⟨t,rfl⟩:=r1;cases ha:y.cps.all (·<128)
   . exact wpAny_pyIter_wide ha ⟨s1.heap.objs.size,[s1.heap.objs.size],_,_,H1,rfl,I1.kept (t':=s1.toks) λb o e=>O1 _ e,ZiA (t:=t) (λA' hA=>Walks.strWide hA _ y t) (λ_ _ _ _ _ st h=>wpAny_pyIter_striter_wide st h),⟨_,Oj _ rfl,rfl,rfl⟩,fp1,q⟩
   . exact wpAny_pyIter_ascii ha ⟨s1.heap.objs.size,[s1.heap.objs.size],_,_,H1,rfl,I1.kept (t':=s1.toks) λb o e=>O1 _ e,ZiA (t:=t) (λA' hA=>Walks.strAscii hA _ y t) (λ_ _ _ _ _ st h=>wpAny_pyIter_striter_ascii st h),⟨_,Oj _ rfl,rfl,rfl⟩,fp1,q⟩
def WJ(Y:Yx)(H0:Hp)(μ0:List Yi)(w:Wk)(J:It):Prop:=∀H B h,Gr H0 μ0 H B->RH Y H B h->Wk.stays w.src h=Wz ->
 (∀i d,w.xs[i]? = Wx d->J.go i H/\∀x H',J.yld i H x H'->Gr H B H' B/\RH Y H' B h/\RD Y H' B d x)/\J.stop w.xs.length H
section
variable {X:Cx}{Y:Yx}{E:XK}{T:Tb}{H:Hp}{B:List Yi}{h:Hd}
def Zr9(hY:Y.K=X.K)(rh:RH Y H B h)(t:SqT Y.K H a vs)(s:RDs Y H B xs vs):WJ Y H B ⟨Wy,xs⟩ (Itt X.K a):=by intro H1 μ1 h1 g rh1 st;have t1:=g.rdT rh t;have s1:=s.mono rh g;rw[hY]at t1;refine⟨λi d e=>?_,⟨vs,t1,by rw[s.length];exact Oq _⟩⟩;obtain⟨v,e1,r1⟩:=s1.get e;refine⟨⟨vs,v,t1,e1⟩,λx H' ⟨eH,q⟩=>?_⟩;subst eH;have:=q vs t1;rw[e1]at this;cases this;exact⟨Gr.refl,rh1,r1⟩
def ZrA(hY:Y.K=X.K)(rh:RH Y H B h)(t:FzL Y.K H a vs)(s:RDs Y H B xs vs):WJ Y H B ⟨Wy,xs⟩ (Itl X.K a):=by intro H1 μ1 h1 g rh1 st;have t1:=(g.rdF rh t).sq;have s1:=s.mono rh g;rw[hY]at t1;refine⟨λi d e=>?_,⟨vs,t1,by rw[s.length];exact Oq _⟩⟩;obtain⟨v,e1,r1⟩:=s1.get e;refine⟨⟨vs,v,t1,e1⟩,λx H' ⟨eH,q⟩=>?_⟩;subst eH;have:=q vs t1;rw[e1]at this;cases this;exact⟨Gr.refl,rh1,r1⟩
def ZfL(st:Wk.stays (Wx (i,xs)) h=Wz):h[i]? = Wx (.lst xs):=of_decide_eq_true st
def Zng(hi:B[i]? = Wx a):WJ Y H B ⟨Wx (i,xs),xs⟩ (Itl X.K a):=by intro H1 μ1 h1 g rh1 st;obtain⟨vs,hl,s1⟩:=rh1.ob i _ a (ZfL st) (g.pre i a hi);have t1:SqL X.K H1 a vs:=.of hl;refine⟨λi d e=>?_,⟨vs,t1,by rw[s1.length];exact Oq _⟩⟩;obtain⟨v,e1,r1⟩:=s1.get e;refine⟨⟨vs,v,t1,e1⟩,λx H' ⟨eH,q⟩=>?_⟩;subst eH;have:=q vs t1;rw[e1]at this;cases this;exact⟨Gr.refl,rh1,r1⟩
def Zsb{lo:Int}:WJ Y H B ⟨Wy,ZG lo n⟩ (Itr lo n):=by
 intro H1 μ1 h1 g rh1 st;have hl:(ZG lo n).length=n:=by simp[ZG]
 refine⟨λi d e=>?_,by show n<=(ZG lo n).length;rw[hl];exact Oq _⟩;have hi:i<n:=by have:=(Ob.mp e).1;rw[hl]at this;exact this
 refine⟨hi,λx H' ⟨eH,q⟩=>?_⟩;subst eH q;have:d=.int (lo+i):=by unfold ZG at e;rw[On,List.getElem?_range hi]at e;exact(YF e).symm
 subst this;exact⟨Gr.refl,rh1,.int _⟩
def Zsa(ok:Yp y=Wz):WJ Y H B ⟨Wy,y.cps.toList.map λc=>.str ⟨#[c]⟩⟩ (Its y):=by
 intro H1 μ1 h1 g rh1 st;have hl:(y.cps.toList.map λc=>D.str ⟨#[c]⟩).length=y.cps.size:=by simp
 refine⟨λi d e=>?_,hl⟩;have hi:i<y.cps.size:=by have:=(Ob.mp e).1;rw[hl]at this;exact this
 refine⟨hi,λx H' ⟨eH,c,q,ex⟩=>?_⟩;subst eH ex;rw[On,Array.getElem?_toList,q]at e;have:=(YF e).symm;subst this;exact⟨Gr.refl,rh1,.str _ (Zko ok (by simpa using Array.mem_of_getElem? q))⟩
def Zpf{xs:List D}{i:Nat}{d:D}(e:(ZcU xs)[i]? = Wx d):∃x,xs[i]? = Wx x/\d=.tup [.int i,x]:=by unfold ZcU at e;rw[List.getElem?_mapIdx]at e;obtain⟨x,e1,e2⟩:=Oo.mp e;exact⟨x,e1,e2.symm⟩
def Zlp{a:Yi}{src:Option (Nat×List D)}{xs:List D}(hw:WJ Y H B ⟨src,xs⟩ (Itl X.K a))(sq:∀H1 μ1 h1,Gr H B H1 μ1->RH Y H1 μ1 h1->Wk.stays src h1=Wz->∃vs,SqL X.K H1 a vs/\RDs Y H1 μ1 xs vs):WJ Y H B ⟨src,ZcU xs⟩ (Ite X.K a):=by
 intro H1 μ1 h1 g rh1 st;obtain⟨vs,t1,s1⟩:=sq H1 μ1 h1 g rh1 st;have hl:(ZcU xs).length=xs.length:=by simp[ZcU]
 refine⟨λi d e=>?_,⟨vs,t1,by rw[hl,s1.length]⟩⟩;obtain⟨x0,e0,rfl⟩:=Zpf e;obtain⟨v,e1,r1⟩:=s1.get e0;refine⟨⟨vs,v,t1,e1⟩,λx H' ⟨p,ex,hp,y,q,eH⟩=>?_⟩;subst ex eH;have:=q vs t1;rw[e1]at this;cases this;exact⟨Gr.lay0 hp,rh1.lay0 hp,.tup (.inl (.inl Zi)) (.cons (.int _) (.cons (r1.mono rh1 (Gr.lay0 hp)) .nil))⟩
def Zsc(hY:Y.K=X.K)(rh:RH Y H B h)(t:SqT Y.K H a vs)(s:RDs Y H B xs vs):WJ Y H B ⟨Wy,xs.reverse⟩ (Itv X.K a vs.length):=by intro H1 μ1 h1 g rh1 st;have t1:=g.rdT rh t;have s1:=(s.mono rh g).reverse;rw[hY]at t1;refine⟨λi d e=>?_,⟨vs,t1,rfl,by simp[s.length]⟩⟩;obtain⟨v,e1,r1⟩:=s1.get e;refine⟨⟨vs,v,t1,rfl,e1⟩,λx H' ⟨eH,q⟩=>?_⟩;subst eH;have:=q vs t1;rw[e1]at this;cases this;exact⟨Gr.refl,rh1,r1⟩
def ZpB(hi:B[i]? = Wx a):WJ Y H B ⟨Wx (i,xs),xs.reverse⟩ (Zuc X.K a xs.length):=by intro H1 μ1 h1 g rh1 st;obtain⟨vs,hl,s0⟩:=rh1.ob i _ a (ZfL st) (g.pre i a hi);have t1:SqL X.K H1 a vs:=.of hl;have s1:=s0.reverse;refine⟨λi d e=>?_,⟨vs,t1,s0.length.symm,by simp⟩⟩;obtain⟨v,e1,r1⟩:=s1.get e;refine⟨⟨vs,v,t1,s0.length.symm,e1⟩,λx H' ⟨eH,q⟩=>?_⟩;subst eH;have:=q vs t1;rw[e1]at this;cases this;exact⟨Gr.refl,rh1,r1⟩
def Zsd(hY:Y.K=X.K)(rh:RH Y H B h)(t:SqT Y.K H a vs)(s:RDs Y H B xs vs):WJ Y H B ⟨Wy,Zd8 xs⟩ (It1 X.K a):=by
 intro H1 μ1 h1 g rh1 st;have t1:=g.rdT rh t;have s1:=s.mono rh g;rw[hY]at t1;have hl:(Zd8 xs).length=xs.length:=by simp[Zd8]
 refine⟨λi d e=>?_,⟨vs,t1,by rw[hl,s1.length]⟩⟩;have:∃x0,xs[i]? = Wx x0/\d=.tup [.int ((i+1:Nat):Int),x0]:=by unfold Zd8 at e;rw[List.getElem?_mapIdx]at e;obtain⟨x,e1,e2⟩:=Oo.mp e;exact⟨x,e1,e2.symm⟩
 obtain⟨x0,e0,rfl⟩:=this;obtain⟨v,e1,r1⟩:=s1.get e0;refine⟨⟨vs,v,t1,e1⟩,λx H' ⟨p,ex,hp,y,q,eH⟩=>?_⟩;subst ex eH;have:=q vs t1;rw[e1]at this;cases this;exact⟨Gr.lay0 hp,rh1.lay0 hp,.tup (.inl (.inl Zi)) (.cons (.int _) (.cons (r1.mono rh1 (Gr.lay0 hp)) .nil))⟩
theorem RKs.keys:∀{kvs:List (Key×D)}{kvs':List (Key×V)},RKs Y H B kvs kvs'->kvs.map (·.1)=kvs'.map (·.1)
 |_,_,.nil=>rfl
 |_,_,.cons a s=>by rw[Op,Op,s.keys]
def ZrB(ea:H a=Wx (.frz o (.dK kvs')))(s:RKs Y H B kvs kvs')(ok:Zbm kvs):WJ Y H B ⟨Wy,kvs.map λp=>ZoF p.1⟩ (Itd a o kvs'):=by
 intro H1 μ1 h1 g rh1 st;have e1:=g.fz a _ _ ea;have hl:=s.length;refine⟨λi d e=>?_,⟨e1,by simp[hl]⟩⟩;simp only[On]at e;obtain⟨p,ep,rfl⟩:=Oo.mp e;have hi:i<kvs.length:=(Ob.mp ep).1;refine⟨⟨e1,by lia⟩,λx H' ⟨eH,k,v,ek,ex⟩=>?_⟩;subst eH ex;have hk:p.1=k:=by have q:=congrArg (λl=>l[i]?) s.keys;simp only[On,ep,ek,Yv]at q;exact YF q
 refine⟨Gr.refl,rh1,?_⟩;have okp:=ok p (O2 ep);rw[hk]at okp ⊢;cases k with
 |inl i=>exact .int _
 |inr x=>exact .str _ (okp x rfl)
def ZtR{d:D}{x:V}{R:It->Hp->Prop}{E:XK}(rh:RH Y H B h)(r:RD Y H B d x)(f:Fin Y (WJ Y) H B (Zo0 d h) R E):
 ∃a kvs,x=.ref a/\((H a=Wx (.dK kvs)/\∀o,R (Itd a o kvs) (upd H a (.frz o (.dK kvs))))\/∃o,H a=Wx (.frz o (.dK kvs))/\R (Itd a o kvs) H):=by
 cases d with
 |ref i=>
  unfold Zo0 at f;simp only at f;split at f
  . rename_i kvs e;obtain⟨a,vs,rfl,hi,hl,s⟩:=r.dic rh e;have nf:NF (H a):=by rw[hl];trivial
    refine⟨a,vs,rfl,.inl ⟨hl,λo=>?_⟩⟩;have g:Gr H B (upd H a (.frz o (.dK vs))) B:=Gr.write (O2 hi) nf;exact f.at g (rh.write hi ⟨o,vs,Zi,s.mono rh g⟩ nf (show Zbm kvs from rh.ks _ _ e)) (ZrB Zi (s.mono rh g) (show Zbm kvs from rh.ks _ _ e))
  . rename_i kvs e;cases r with
    |ref q=>obtain⟨o,vs,h1,s⟩:=rh.ob i _ _ e q;exact⟨_,vs,rfl,.inr ⟨o,h1,f.ok rh (ZrB h1 s (rh.ks _ _ e))⟩⟩
  . exact f.elim
 |_=>exact f.elim
def ZpF{d:D}{R:It->Hp->Prop}(hY:Y.K=X.K)(rh:RH Y H B h)(r:RD Y H B d x)(e:Zar d h=Wx w)(q:∀J,WJ Y H B w J->R J H):rW X.K x H R:=by
 cases d with
 |tup xs=>cases e;obtain⟨a,vs,rfl,t,s⟩:=r.tup_inv;exact .inr (.inl ⟨a,rfl,⟨vs,hY ▸ t⟩,q _ (Zr9 hY rh t s)⟩)
 |ro xs=>
  cases e;cases r with
  |ro t s=>exact .inl ⟨_,rfl,⟨_,hY ▸ t.sq⟩,q _ (ZrA hY rh t s)⟩
 |ref i=>
  unfold Zar at e;simp only at e;split at e
  . rename_i xs he;cases e;obtain⟨a,vs,rfl,hi,hl,s⟩:=r.lst rh he;exact .inl ⟨a,rfl,⟨vs,.of hl⟩,q _ (Zng hi)⟩
  . cases e
 |str y=>
  unfold Zar at e;simp only at e;split at e
  . cases e;obtain⟨rfl,ok⟩:=r.str_inv;exact .inr (.inr ⟨y,rfl,q _ (Zsa ok)⟩)
  . cases e
 |_=>cases e
end
end IV
end
section
namespace IV
open PySem PySem.Spec PyProof.Rows L2
structure Kl where
 cs:List Str
 ats:List Str
 ms:List (Str×Str)
 is:List Str
 xs:List Str:=[]
structure Gm where
 N:List Str
 sc:Scope
 fs:List Str
 top:Bool
 kl:Kl
noncomputable def glb(Γ:Gm)(x:Str):Bool:=WB (Γ.sc.names.lookup x=Wx .globalImplicit)&&!(x==("__debug__" : Str))
noncomputable def ZpH(sc:Scope)(x:Str):Bool:=WB (sc.names.lookup x=Wx .local) || WB (sc.names.lookup x=Wx .cell) || WB (sc.names.lookup x=Wx .free)
noncomputable def Zpr:Bf->Str
 |.len => "len" |.isi => "isinstance" |.int => "int" |.tup => "tuple" |.lst => "list" |.sum => "sum" |.all => "all" |.srt => "sorted" |.mx => "max"
noncomputable def bok:Bf->Bool
 |.mx=>WA
 |.lst=>WA
 |.int=>WA
 |.all=>WA
 |_=>Wz
noncomputable def ZrP:Mf->Str
 |.app => "append" |.ext => "extend" |.pop => "pop" |.rev => "reverse" |.clr => "clear"
noncomputable def Zlt:List String:=["int", "str", "bool", "tuple", "list"]
noncomputable def asName:Expr->Option Str
 |.Name x _=>Wx x
 |_=>Wy
noncomputable def Zpv:Expr->Option (List Expr)
 |.Tuple es _ _=>Wx es
 |_=>Wy
noncomputable def Zr6:Expr->Option Const
 |.Constant c _ _=>Wx c
 |_=>Wy
def Zee(h:asName e=Wx x):∃p,e=.Name x p:=by
 cases e with
 |Name y p=>cases h;exact⟨p,rfl⟩
 |_=>cases h
def Zhx(h:Zpv e=Wx es):∃k p,e=.Tuple es k p:=by
 cases e with
 |Tuple es k p=>cases h;exact⟨k,p,rfl⟩
 |_=>cases h
def Zhy(h:Zr6 e=Wx c):∃k p,e=.Constant c k p:=by
 cases e with
 |Constant c k p=>cases h;exact⟨k,p,rfl⟩
 |_=>cases h
noncomputable def Zv5:D->Const->Bool
 |.int i,.int j=>WB (i=j)
 |.str x,.str y=>WB (x=y)&&Yp y
 |.bl b,.bool c=>WB (b=c)
 |.non,.none=>Wz
 |_,_=>WA
noncomputable def Zm6(Γ:Gm)(d:D)(e:Expr):Bool:=match Zr6 e with
 |some c=>Zv5 d c
 |none=>match d with
  |.ty n=>match asName e with
   |some x=>WB (n∈Zlt)&&WB (Str.ofString n=x)&&glb Γ x
   |none=>WA
  |_=>WA
noncomputable def Zpk(NC N:List Str)(js:List (Option Nat))(sc scope:Scope):Bool:=
 WB (scope.kind=.function)&&WB (sc.kind=.function)&&(scope.names.all λy=>WB (y.2≠.cell))&&(scope.names.all λy=>!WB (y.2=.local) || WB (scope.names.lookup y.1=Wx .local)) &&
  (scope.names.all λy=>!WB (y.2=.free) || WB (sc.names.lookup y.1=Wx .cell))&&decide NC.Nodup&&WB (js.length=NC.length) &&
  ((NC.zip js).all λp=>p.2.all λj=>WB (N[j]? = Wx p.1)&&WB (scope.names.lookup p.1=Wx .free))
def ZjD(h:Zpk NC N js sc scope=Wz):CompSc NC N js sc scope:=by
 unfold Zpk at h;rw[Oa,Oa,Oa,Oa,Oa,Oa,Oa]at h;obtain⟨⟨⟨⟨⟨⟨⟨a,b⟩,c⟩,d⟩,e⟩,f⟩,g⟩,i⟩:=h;rw[OC]at c d e;refine⟨of_decide_eq_true a,of_decide_eq_true b,λy hy=>of_decide_eq_true (c y hy),λy hy e1=>?_,λy hy e1=>?_,of_decide_eq_true f,of_decide_eq_true g,i⟩
 . have:=d y hy;rw[decide_eq_true e1]at this;simpa using this
 . have:=e y hy;rw[decide_eq_true e1]at this;simpa using this
noncomputable def Zi3(N:List Str)(own:Str->Bool)(i:Nat)(e:Expr):Bool:=match asName e with
 |some x=>WB (N[i]? = Wx x)&&own x
 |none=>WA
noncomputable def ZeC(N:List Str)(own:Str->Bool):List Nat->List Expr->Bool
 |[],[]=>Wz
 |i::is,e::es=>Zi3 N own i e&&ZeC N own is es
 |_,_=>WA
noncomputable def Zpm(N:List Str)(own:Str->Bool)(i j:Nat)(e:Expr):Bool:=match Zpv e with
 |some [a,b]=>Zi3 N own i a&&Zi3 N own j b
 |_=>WA
noncomputable def Zpl(N:List Str)(own:Str->Bool)(is:List Nat)(e:Expr):Bool:=match Zpv e with
 |some es=>ZeC N own is es
 |none=>WA
noncomputable def Zk4(N:List Str)(own:Str->Bool)(g:Tg)(e:Expr):Bool:=match g with
 |.nm i=>Zi3 N own i e
 |.two i j=>Zpm N own i j e
 |.many is=>Zpl N own is e
def Za4(h:Zi3 N own i e=Wz):∃x p,e=.Name x p/\N[i]? = Wx x/\own x=Wz:=by
 unfold Zi3 at h;cases q:asName e with
 |none=>rw[q]at h;cases h
 |some x=>rw[q]at h;rw[Oa]at h;obtain⟨p,rfl⟩:=Zee q;exact⟨x,p,rfl,of_decide_eq_true h.1,h.2⟩
def ZhC(h:Zk4 N own (.two i j) e=Wz):∃x p y q k r,e=.Tuple [.Name x p,.Name y q] k r/\(N[i]? = Wx x/\own x=Wz)/\N[j]? = Wx y/\own y=Wz:=by
 replace h:Zpm N own i j e=Wz:=h
 unfold Zpm at h;split at h
 . rename_i a b q;rw[Oa]at h;obtain⟨k,r,rfl⟩:=Zhx q;obtain⟨x,p,rfl,e1⟩:=Za4 h.1;obtain⟨y,p2,rfl,e2⟩:=Za4 h.2;exact⟨x,p,y,p2,k,r,rfl,e1,e2⟩
 . cases h
def Zgg(h:Zk4 N own (.many is) e=Wz):∃es k r,e=.Tuple es k r/\ZeC N own is es=Wz:=by
 replace h:Zpl N own is e=Wz:=h
 unfold Zpl at h;split at h
 . rename_i es q;obtain⟨k,r,rfl⟩:=Zhx q;exact⟨es,k,r,rfl,h⟩
 . cases h
noncomputable def isTup:Expr->Bool
 |.Tuple _ _ _=>Wz
 |_=>WA
noncomputable def tgk:Tg->Nat
 |.nm i=>i+1
 |.two i j=>max i j+1
 |.many is=>is.foldr max 0+1
noncomputable def Zw4(sc:Scope)(x:Str):Bool:=WB (sc.names.lookup x=Wx .local)
noncomputable def ownD(sc:Scope)(x:Str):Bool:=WB (sc.names.lookup x=Wx .local) || WB (sc.names.lookup x=Wx .cell)
noncomputable def ZeO:Expr->Bool
 |.Set _ _ _=>WA
 |_=>Wz
noncomputable def Zgc:Expr->Bool
 |.Slice _ _ _ _=>WA
 |_=>Wz
noncomputable def Z6:Expr->Bool
 |.Starred _ _=>WA
 |_=>Wz
noncomputable def Zda:Expr->Bool
 |.Call _ [] _ _=>WA
 |_=>Wz
noncomputable def Zkh:Expr->Bool
 |.BoolOp _ _ _|.UnaryOp _ _ _|.IfExp _ _ _ _|.NamedExpr _ _ _=>WA
 |_=>Wz
mutual
noncomputable def chk(Γ:Gm):Ex->Expr->Bool
 |.var i,e=>match e with
  |.Name x _=>WB (Γ.N[i]? = Wx x)&&ZpH Γ.sc x&&!(x==("__debug__" : Str))&&!(x==("__classdict__" : Str))
  |_=>WA
 |.cst d,e=>Zm6 Γ d e
 |.glo x,e=>match e with
  |.Name y _=>WB (x=y)&&glb Γ x
  |_=>WA
 |.bin op a b,e=>match e with
  |.BinOp l op' r _=>WB (op=op')&&chk Γ a l&&chk Γ b r
  |_=>WA
 |.cmp op a b,e=>match e with
  |.Compare l [op'] [r] _=>WB (op=op')&&chk Γ a l&&chk Γ b r&&ZeO r
  |_=>WA
 |.cmp2 _ _ _ _ _,_=>WA
 |.neg a,e=>match e with
  |.UnaryOp .USub x _=>chk Γ a x
  |_=>WA
 |.nt a,e=>match e with
  |.UnaryOp .Not x _=>chk Γ a x
  |_=>WA
 |.ands es,e=>match e with
  |.BoolOp .And xs _=>chks Γ es xs
  |_=>WA
 |.ors es,e=>match e with
  |.BoolOp .Or xs _=>chks Γ es xs
  |_=>WA
 |.ite c a b,e=>match e with
  |.IfExp t x y _=>chkt Γ c t&&chk Γ a x&&chk Γ b y
  |_=>WA
 |.tupl es,e=>match e with
  |.Tuple xs _ _=>chks Γ es xs
  |_=>WA
 |.lstl es,e=>match e with
  |.List xs _=>chks Γ es xs
  |_=>WA
 |.ix a i,e=>match e with
  |.Subscript x y _=>chk Γ a x&&chk Γ i y&&Zgc y
  |_=>WA
 |.sl a lo hi,e=>match e with
  |.Subscript x (.Slice l u Wy _) _=>chk Γ a x&&chko Γ lo l&&chko Γ hi u
  |_=>WA
 |.blt f es,e=>match e with
  |.Call (.Name x _) (y::ys) [] _=>WB (x=Zpr f)&&(bok f&&glb Γ x)&&chks Γ es (y::ys)
  |_=>WA
 |.call f es,e=>match e with
  |.Call (.Name x _) (y::ys) [] _=>WB (x=f)&&WB (f∈Γ.fs)&&glb Γ x&&chks Γ es (y::ys)
  |_=>WA
 |.meth m o es,e=>match e with
  |.Call (.Attribute x n ap) ys [] cp=>WB (n=ZrP m)&&chk Γ o x&&Zda x&&chks Γ es ys&&WB (ys.length<29)&&(ap.endLine==cp.line)
  |_=>WA
 |.trev _,_=>WA
 |.lrv _,_=>WA
 |.tix _ _,_=>WA
 |.lix _ _,_=>WA
 |.lin _ _,_=>WA
 |.comp NC js it g c e,x=>match x with
  |.ListComp elt [⟨tg,iter,ifs,0⟩] scope _=>Γ.top&&Zpk NC Γ.N js Γ.sc scope&&chki Γ it tg iter&&ZeO iter&&Zk4 NC (Zw4 scope) g tg&&((List.range (tgk g)).all λj=>WB (js[j]? = Wx Wy)) &&
   chkf ⟨NC,scope,Γ.fs,WA,Γ.kl⟩ c ifs&&chk ⟨NC,scope,Γ.fs,WA,Γ.kl⟩ e elt
  |_=>WA
 |.sorts _,_=>WA
 |.maxd a d,e=>match e with
  |.Call (.Name x _) [y] [⟨Wx n,z,_⟩] _=>WB (x = "max")&&WB (n = "default")&&glb Γ x&&chk Γ a y&&Z6 y&&chk Γ d z
  |_=>WA
 |.dictl ps,e=>match e with
  |.Dict keys values _=>WB (keys.length<=15)&&chkp Γ ps keys values
  |_=>WA
 |.att Cs o f,e=>match e with
  |.Attribute x n _=>WB (n=f)&&chk Γ o x&&Zda x&&(Cs.all λC=>WB (C∈Γ.kl.cs))&&WB (f∈Γ.kl.ats)
  |_=>WA
 |.mk C es,e=>match e with
  |.Call (.Name x _) ys [] _=>WB (x=C)&&WB (C∈Γ.kl.is)&&glb Γ x&&chks Γ es ys
  |_=>WA
 |.mcl C m o es,e=>match e with
  |.Call (.Attribute x n ap) ys [] cp=>WB (n=m)&&chk Γ o x&&Zda x&&chks Γ es ys&&WB ((C,m)∈Γ.kl.ms)&&WB (ys.length<29)&&(ap.endLine==cp.line)
  |_=>WA
 |.any,e=>match e with
  |.Compare _ _ _ _=>WA
  |_=>Wz
noncomputable def chks(Γ:Gm):Exs->List Expr->Bool
 |.nil,es=>es.isEmpty
 |.cons e r,es=>match es with
  |x::xs=>chk Γ e x&&Z6 x&&chks Γ r xs
  |[]=>WA
noncomputable def chkp(Γ:Gm):Exs->List (Option Expr)->List Expr->Bool
 |.nil,ks,vs=>ks.isEmpty&&vs.isEmpty
 |.cons k r,ks,vs=>match r with
  |.cons v r'=>match ks,vs with
   |some kx::ks,vx::vs=>chk Γ k kx&&chk Γ v vx&&chkp Γ r' ks vs
   |_,_=>WA
  |.nil=>WA
noncomputable def chko(Γ:Gm):Option Ex->Option Expr->Bool
 |none,x=>x.isNone
 |some a,x=>match x with
  |some x=>chk Γ a x
  |none=>WA
noncomputable def chkf(Γ:Gm):Option Tx->List Expr->Bool
 |none,x=>x.isEmpty
 |some a,x=>match x with
  |[x]=>chkt Γ a x
  |_=>WA
noncomputable def chkt(Γ:Gm):Tx->Expr->Bool
 |.ex e,x=>Zkh x&&chk Γ e x
 |.ands ts,x=>match x with
  |.BoolOp .And xs _=>chkts Γ ts xs
  |_=>WA
 |.ors ts,x=>match x with
  |.BoolOp .Or xs _=>chkts Γ ts xs
  |_=>WA
 |.nt t,x=>match x with
  |.UnaryOp .Not y _=>chkt Γ t y
  |_=>WA
noncomputable def chkts(Γ:Gm):Txs->List Expr->Bool
 |.one t,xs=>match xs with
  |[x]=>chkt Γ t x
  |_=>WA
 |.cons t ts,xs=>match xs with
  |x::y::r=>chkt Γ t x&&chkts Γ ts (y::r)
  |_=>WA
noncomputable def chki(Γ:Gm):Ix->Expr->Expr->Bool
 |.pl e,_,x=>chk Γ e x
 |.rng e,_,x=>match x with
  |.Call (.Name f _) [y] [] _=>WB (f = "range")&&glb Γ f&&chk Γ e y&&Z6 y
  |_=>WA
 |.rng2 _ _,_,_=>WA
 |.enu e,tg,x=>match x with
  |.Call (.Name f _) [y] [] _=>WB (f = "enumerate")&&glb Γ f&&chk Γ e y&&Z6 y&&isTup tg
  |_=>WA
 |.rev e,_,x=>match x with
  |.Call (.Name f _) [y] [] _=>WB (f = "reversed")&&glb Γ f&&chk Γ e y&&Z6 y
  |_=>WA
 |.en1 e,tg,x=>match x with
  |.Call (.Name f _) [y] [⟨Wx kw,.Constant (.int 1) _ _,_⟩] _=>WB (f = "enumerate")&&WB (kw = "start")&&glb Γ f&&chk Γ e y&&Z6 y&&isTup tg
  |_=>WA
 |.en0 _,_,_=>WA
 |.dk e,_,x=>chk Γ e x
end
end IV
end
section
namespace IV
open PySem PySem.Spec PyProof.Rows L2
def leS(a b:Str):Prop:=¬ b.cps.toList<a.cps.toList
def Zhk(h:leS a b)(q:leS b c):leS a c:=by unfold leS at *;rw[List.not_lt]at *;exact List.le_trans h q
def Zoy(h:leS a b)(q:leS b a):a=b:=by unfold leS at *;rw[List.not_lt]at *;have e:=List.le_antisymm h q;obtain⟨⟨a⟩⟩:=a;obtain⟨⟨b⟩⟩:=b;simp at e;subst e;rfl
def ZiF:∀{ss:List Str},sortedS ss=Wz->ss.Pairwise leS:=by
 have gen:∀(r:List Str) (p:Str),risingS p r=Wz->(∀x∈r,leS p x)/\r.Pairwise leS:=by
  intro r;induction r with
  |nil=>intro p _;exact⟨by simp,.nil⟩
  |cons x r ih=>
   intro p h;rw[risingS,Oa]at h;obtain⟨h1,h2⟩:=ih x h.2;have hx:leS p x:=by have:=h.1;rw[ltCps_eq]at this;unfold leS;simpa using this
   refine⟨λy hy=>?_,.cons h1 h2⟩;rcases O3.mp hy with rfl|hy
   . exact hx
   . exact Zhk hx (h1 y hy)
 intro ss h;cases ss with
 |nil=>exact .nil
 |cons x r=>obtain⟨h1,h2⟩:=gen r x h;exact .cons h1 h2
theorem Zf5(x:Str):∀r:List Str,(Zms x r).Perm (x::r)
 |[]=>.refl _
 |y::r=>by
  unfold Zms;split
  . exact((Zf5 x r).cons y).trans (.swap x y r)
  . exact .refl _
theorem ZdC:∀r:List Str,(Zcj r).Perm r
 |[]=>.refl _
 |x::r=>(Zf5 x _).trans ((ZdC r).cons x)
theorem ZiV(x:Str):∀r:List Str,r.Pairwise leS->(Zms x r).Pairwise leS
 |[],_=>.cons (by simp) .nil
 |y::r,h=>by
  cases h with
  |cons h1 h2=>
   unfold Zms;split
   . rename_i hlt;rw[ltCps_eq]at hlt;have hlt:=of_decide_eq_true hlt;refine .cons (λz hz=>?_) (ZiV x r h2);rcases O3.mp ((Zf5 x r).mem_iff.mp hz)with rfl|hz
     . unfold leS;rw[List.not_lt];exact List.le_of_lt hlt
     . exact h1 z hz
   . rename_i hlt;have hxy:leS x y:=by unfold leS;rw[ltCps_eq]at hlt;simpa using hlt
     refine .cons (λz hz=>?_) (.cons h1 h2);rcases O3.mp hz with rfl|hz
     . exact hxy
     . exact Zhk hxy (h1 z hz)
theorem Zg2:∀r:List Str,(Zcj r).Pairwise leS
 |[]=>.nil
 |x::r=>ZiV x _ (Zg2 r)
def Zmn(hp:ss'.Perm ss)(hs:sortedS ss'=Wz):ss'=Zcj ss:=(hp.trans (ZdC ss).symm).eq_of_pairwise (λ_ _ _ _ h q=>Zoy h q) (ZiF hs) (Zg2 ss)
section
variable {X:Cx}{Y:Yx}{E:XK}{T:Tb}{H:Hp}{B:List Yi}{h:Hd}
theorem Zfd:∀{ds:List (Key×D)}{vs:List (Key×V)}{ss:List Str},RKs Y H B ds vs->ZdF ds=Wx ss->vs.map (·.1)=ss.map YE
 |_,_,_,.nil,e=>by cases e;rfl
 |_,_,_,.cons (k:=k) a s,e=>by
  cases k with
  |inl i=>cases e
  |inr x=>rw[ZdF]at e;obtain⟨z,e1,rfl⟩:=Oo.mp e;rw[Op,Op,Zfd s e1]
theorem Zlx:∀(ss:List Str),(∀x∈ss,Yp x=Wz)->RDs Y H B (ss.map D.str) (ss.map V.str)
 |[],_=>.nil
 |x::r,h=>.cons (.str x (h x (by simp))) (Zlx r λy hy=>h y (by simp[hy]))
def Zrt(hc:X.A.handled=Wy)(G:Gk X Y T):ZcA X (.builtin "sorted") (rF Y E (ZeF T.GD)):=by
 intro pins s Z H xs us Q I r hh;obtain⟨ds,h,B,rh,rs,f⟩:=hh;unfold ZeF at f;split at f
 . split at f
   . rename_i ss e2;obtain⟨hz,f⟩:=f.iff;obtain⟨kvs,e3,e4⟩:=Option.bind_eq_some_iff.mp e2;obtain⟨x,rfl,r1⟩:=rs.one;obtain⟨a,kvs',rfl,hd,rk⟩:=r1.dicOf G rh e3;obtain⟨hz,hok⟩:=hz;refine Zii hc pins s Z H _ us Q I r ⟨a,kvs',ss,rfl,hd,Zfd rk e4,hz,λp ss' hp h1 h2=>?_⟩;rw[Zmn h1 h2];refine f.new rh hp ⟨_,Zi,Zlx _ λy hy=>?_⟩;rw[OC]at hok;exact hok y ((ZdC ss).mem_iff.mp hy)
   . exact f.elim
 . exact f.elim
end
end IV
end
section
set_option tactic.hygienic false
namespace IV
open PySem PySem.Spec PyProof.Rows L2
def RS(Y:Yx)(H:Hp)(B:List Yi)(S:Ev)(Z:L2.St):Prop:=Z.length=S.length/\∀(i:Nat) (d:D),S[i]? = Wx (Wx d)->∃v,Z[i]? = Wx (Wx v)/\RD Y H B d v
section
variable {Y:Yx}{H H':Hp}{B μ':List Yi}{h:Hd}{S:Ev}{Z:L2.St}
theorem RS.mono(rh:RH Y H B h)(g:Gr H B H' μ')(r:RS Y H B S Z):RS Y H' μ' S Z:=⟨r.1,λi d e=>let ⟨v,h1,h2⟩:=r.2 i d e;⟨v,h1,h2.mono rh g⟩⟩
def RS.var(r:RS Y H B S Z){i:Nat}{d:D}(e:(S[i]?).join=Wx d):∃v,Z[i]? = Wx (Wx v)/\RD Y H B d v:=by
 refine r.2 i d ?_;cases q:S[i]? with
 |none=>rw[q]at e;cases e
 |some o=>rw[q]at e;cases o with
  |none=>cases e
  |some d'=>cases e;rfl
theorem RS.set(r:RS Y H B S Z){i:Nat}{d:D}{v:V}(q:RD Y H B d v):RS Y H B (S.set i (Wx d)) (Z.set i (Wx v)):=by
 refine⟨by simp[r.1],λj e he=>?_⟩;by_cases hj:i=j
 . subst hj;have hl:i<S.length:=by have:=(Ob.mp he).1;simpa using this
   rw[Ol hl]at he;cases he;exact⟨v,by rw[Ol (by rw[r.1];exact hl)],q⟩
 . rw[Oc hj]at he;obtain⟨w,h1,h2⟩:=r.2 j e he;exact⟨w,by rw[Oc hj];exact h1,h2⟩
theorem RS.capt(r:RS Y H B S Z)(js:List (Option Nat)):RS Y H B (Zbp js S) (capt js Z):=by
 refine⟨by simp[Zbp,L2.capt],λi d e=>?_⟩;unfold Zbp at e;unfold L2.capt;rw[On]at e ⊢;cases q:js[i]? with
 |none=>rw[q]at e;cases e
 |some o=>
  rw[q]at e;cases o with
  |none=>cases e
  |some j=>
   have e':(S[j]?).join=Wx d:=by simpa using e
   obtain⟨v,h1,h2⟩:=r.var e';exact⟨v,by simp[h1],h2⟩
end
section
variable (T:Tb) (Y:Yx) (E:XK)
noncomputable def ZbQ(e:Ex):TE:=λZ H Q=>∃S h B,RH Y H B h/\RS Y H B S Z/\Fin Y (RD Y) H B (ev T e S h) Q E
noncomputable def ZpX(e:Exs):TA:=λZ H Q=>∃S h B,RH Y H B h/\RS Y H B S Z/\Fin Y (RDs Y) H B (evs T e S h) Q E
noncomputable def ZnD(e:Tx):TT:=λZ H Q=>∃S h B,RH Y H B h/\RS Y H B S Z/\Fin Y (λ_ _ (a b:Bool)=>a=b) H B (tst T e S h) Q E
noncomputable def ZwM(e:Option Ex):TO:=λZ H Q=>∃S h B,RH Y H B h/\RS Y H B S Z/\Fin Y (λ_ _ (a b:Option Int)=>a=b) H B (evo T e S h) Q E
noncomputable def ZwN(e:Ix):TI:=λZ H Q=>∃S h B,RH Y H B h/\RS Y H B S Z/\Fin Y (WJ Y) H B (evi T e S h) Q E
noncomputable def Zfi(f:Str):Sp:=λvs H Q E=>∃ds h B,RH Y H B h/\RDs Y H B ds vs/\Fin Y (RD Y) H B (T.C f ds h) Q E
end
structure Gd(T:Tb)(Γ:Gm)(X:Cx)(Y:Yx)(E:XK)(k:Nat):Prop where
 gk:Gk X Y T
 N:X.N=Γ.N
 sc:Γ.top=Wz->X.env.scope=Γ.sc
 vis:∀x,ZpH Γ.sc x=Wz->Vis X.env.scope x
 glo:∀x,Γ.sc.names.lookup x=Wx .globalImplicit->Gl X x
 nd:X.N.Nodup
 calm:X.calm=Wz
 room:Room k X.A
 h60:60<=k
 pass:ZaU (CXF X.prog X.w) X E
 defs:∀f∈Γ.fs,∃ps,Def X.prog X.w X.K X.mg X.base k f ps (Zfi T Y f)
 blt:∀x∈(["len", "isinstance", "int", "tuple", "list", "sum", "all", "sorted", "range", "enumerate", "reversed", "str", "bool", "max"]:List Str),X.mg x=Wy
 room1:Room (k+1) X.A
 passC:Γ.top=Wz->∀(pins:List (Yi×Obj)) (Z:L2.St) (NC:List Str) (scope:Scope) (C:Yi) (s3:Yb) (H3:Hp) (fp:List Yi),Inv X pins Z H3 s3->(∀b∈fp,Zbt X pins H3 b)->C=s3.heap.objs.size->ZaU (CXF X.prog X.w) (ZA X NC scope C s3 H3 fp) E
 cls:∀C∈Γ.kl.cs,∃a,X.mg C=Wx (.ref a)/\Cls X.K a/\∀f∈Γ.kl.ats,ZaV X.K a f
 mts:∀p∈Γ.kl.ms,∃a f fd ps,X.mg p.1=Wx (.ref a)/\Cls X.K a/\Meth X.K a p.2 f/\FnOk X.prog X.w X.K X.mg X.base (CXF X.prog X.w) k f fd ps (Zfi T Y (mnm p.1 p.2))/\Binds X.K fd ps []
 mks:∀C∈Γ.kl.is,∃a f fd ps,X.mg C=Wx (.ref a)/\Mk X.K a f/\FnOk X.prog X.w X.K X.mg X.base (CXF X.prog X.w) k f fd ps (Zfi T Y (mnm C (O "__init__")))/\Binds X.K fd ps []
def _root_.L2.PE.imp(h:PE X e t)(i:∀Z H Q,t' Z H Q->t Z H Q):PE X e t':=λpins s Z H Q I q=>h pins s Z H Q I (i Z H Q q)
def _root_.L2.PT.imp(h:PT X e t)(i:∀Z H Q,t' Z H Q->t Z H Q):PT X e t':=λpins s Z H Q I q=>h pins s Z H Q I (i Z H Q q)
def _root_.L2.PW.imp(h:PW X e t)(i:∀Z H Q,t' Z H Q->t Z H Q):PW X e t':=λw pins s Z H Q I q=>h w pins s Z H Q I (i Z H Q q)
def _root_.L2.PA.imp(h:PA X e t)(i:∀Z H Q,t' Z H Q->t Z H Q):PA X e t':=λp pins s Z H Q I q=>h p pins s Z H Q I (i Z H Q q)
def _root_.L2.PO.imp(h:PO X e t)(i:∀Z H Q,t' Z H Q->t Z H Q):PO X e t':=λpins s Z H Q I q=>h pins s Z H Q I (i Z H Q q)
def _root_.L2.PI.imp(h:PI X tg e t)(i:∀Z H Q,t' Z H Q->t Z H Q):PI X tg e t':=λpins s Z H Q I q=>h pins s Z H Q I (i Z H Q q)
def Zq(env:Env)(h:Z6 x=Wz):YA (x::xs) env=(WA,eval x env)::YA xs env:=by cases x<;>first|rfl|cases h
def Zj8(env:Env)(h:ZeO x=Wz):∀v,foldedSetIterable x env v=pure v:=by cases x<;>first|(intro _;rfl)|cases h
def ZlP(h:ZeO x=Wz):behindInMarks op x=WA:=by cases x<;>first|rfl|cases h
def Zny(h:Zgc x=Wz):Zmc x:=by cases x<;>first|(intro _ _;rfl)|cases h
def Zfy(h:Zda x=Wz):attributeBase x n env (eval x env)=eval x env:=by
 cases x with
 |Call f as ks p=>
  cases as with
  |nil=>cases h
  |cons a as=>cases f<;>rfl
 |_=>rfl
def Zn1(h:Zkh x=Wz)(hc:∀l o r p,x≠.Compare l o r p):∀whole,isTrue x env whole=(do let v <- whole;standAt x.pos;holding [v] (truthy v)):=by cases x<;>first|(intro _;rfl)|exact absurd rfl (hc _ _ _ _)|cases h
theorem Zbw(Γ:Gm)(env:Env):∀(es:Exs) (xs:List Expr),chks Γ es xs=Wz->∀pos,(YS pos (YA xs env)).any (·.1)=WA
 |.nil,xs,h,pos=>by
  rw[chks]at h;cases xs with
  |nil=>rfl
  |cons a b=>cases h
 |.cons e r,xs,h,pos=>by
  cases xs with
  |nil=>rw[chks]at h;cases h
  |cons x xs=>rw[chks,Oa,Oa]at h;rw[Zq env h.1.2];have:=Zbw Γ env r xs h.2 pos;show((WA,_)::YS pos (YA xs env)).any (·.1)=WA;rw[Wg,this];rfl
theorem ZeL(Γ:Gm)(env:Env):∀(es:Exs) (xs:List Expr),chks Γ es xs=Wz->∀pos,(YS pos (YA xs env)).all (λx=>!x.1)=Wz
 |.nil,xs,h,pos=>by
  rw[chks]at h;cases xs with
  |nil=>rfl
  |cons a b=>cases h
 |.cons e r,xs,h,pos=>by
  cases xs with
  |nil=>rw[chks]at h;cases h
  |cons x xs=>rw[chks,Oa,Oa]at h;rw[Zq env h.1.2];have:=ZeL Γ env r xs h.2 pos;show((WA,_)::YS pos (YA xs env)).all (λx=>!x.1)=Wz;rw[List.all_cons,this];rfl
def Gd.gl{T:Tb}{Γ:Gm}{X:Cx}{Y:Yx}{E:XK}{k:Nat}(G:Gd T Γ X Y E k){x:Str}(h:glb Γ x=Wz):Gl X x/\(x==("__debug__" : Str))=WA:=by unfold glb at h;rw[Oa]at h;exact⟨G.glo x (of_decide_eq_true h.1),by simpa using h.2⟩
theorem Zgh{f:Str->NameKind->NameKind}(x:Str):∀names:List (Str×NameKind),(names.map λp=>(p.1,f p.1 p.2)).lookup x=(names.lookup x).map (f x)
 |[]=>rfl
 |(n,k)::r=>by
  rw[Op,OF,OF];by_cases e:x=n
  . subst e;simp
  . have:(x==n)=WA:=by simpa using e
    simp only[this];exact Zgh x r
def ZaH(scope:Scope)(env:Env)(x:Str):(relabel scope env).names.lookup x=(scope.names.lookup x).map λk=>if (k==Yo&&env.scope.kind==.function&&env.kindOf x==Wx .cell)then NameKind.cell else k:=by
 have e:(relabel scope env).names=scope.names.map λp=>(p.1,(λ(n:Str) (k:NameKind)=>if (k==Yo&&env.scope.kind==.function&&env.kindOf n==Wx .cell)then NameKind.cell else k) p.1 p.2):=by unfold relabel;simp only;refine List.map_congr_left λp _=>?_;obtain⟨n,k⟩:=p;simp only;split<;>rfl
 rw[e];exact Zgh (f:=λ(n:Str) (k:NameKind)=>if (k==Yo&&env.scope.kind==.function&&env.kindOf n==Wx .cell)then NameKind.cell else k) x scope.names
def Gd.comp{T:Tb}{Γ:Gm}{X:Cx}{Y:Yx}{E:XK}{k:Nat}(G:Gd T Γ X Y E k)(NC:List Str)(scope:Scope)(C:Yi)(s3:Yb)(H3:Hp)(fp:List Yi)(nd:NC.Nodup)(hp:ZaU (CXF X.prog X.w) (ZA X NC scope C s3 H3 fp) E):Gd T ⟨NC,scope,Γ.fs,WA,Γ.kl⟩ (ZA X NC scope C s3 H3 fp) Y E k:=by
 refine⟨⟨G.gk.K,G.gk.mg,G.gk.gd,G.gk.g,G.gk.bare⟩,rfl,(λh=>by cases h),λx hx=>?_,λx hx=>?_,nd,rfl,G.room,G.h60,hp,G.defs,G.blt,G.room1,(λh=>by cases h),G.cls,G.mts,G.mks⟩
 . show Vis (relabel scope X.env) x;unfold Vis;rw[ZaH];unfold ZpH at hx;rw[Ww,Ww]at hx;rcases hx with (hx|hx)|hx
   . rw[of_decide_eq_true hx];exact .inl rfl
   . rw[of_decide_eq_true hx];exact .inr (.inl rfl)
   . rw[of_decide_eq_true hx];by_cases q:(X.env.scope.kind==.function&&X.env.kindOf x==Wx .cell)=Wz
     . refine .inr (.inl ?_);have:(Yo==Yo&&X.env.scope.kind==.function&&X.env.kindOf x==Wx .cell)=Wz:=by simpa using q
       simp only[Yv,this,if_true]
     . refine .inr (.inr ?_);have:¬ ((Yo==Yo&&X.env.scope.kind==.function&&X.env.kindOf x==Wx .cell)=Wz):=by simpa using q
       simp only[Yv,this,if_false];rfl
 . show(relabel scope X.env).names.lookup x=Wx .globalImplicit;rw[ZaH,hx];rfl
section
variable {T:Tb}{Y:Yx}{E:XK}{Z:L2.St}{H:Hp}{Q:VK}
def ZpY{a b:Ex}{f:D->D->Hd->R D}{S:Ev}{h:Hd}{B:List Yi}(rh:RH Y H B h)(rs:RS Y H B S Z)(q:Fin Y (RD Y) H B ((ev T a S h).bind λx h1=>(ev T b S h1).bind λy h2=>f x y h2) Q E):
 ZbQ T Y E a Z H λx H1=>ZbQ T Y E b Z H1 λy H2=>rB Y E f x y H2 Q:=
 ⟨S,h,B,rh,rs,q.bind λd h1 x H1 μ1 _ g rh1 rd f1=>⟨S,h1,μ1,rh1,rs.mono rh g,f1.bind λe h2 y H2 μ2 _ g2 rh2 re f2=>⟨d,e,h2,μ2,rh2,rd.mono rh1 g2,re,f2⟩⟩⟩
end
def Zt6{T:Tb}{Γ:Gm}{X:Cx}{Y:Yx}{E:XK}{k:Nat}(G:Gd T Γ X Y E k)(f:Bf)(hb:bok f=Wz){e:Expr}{es:List Expr}{t:TA}{p pos:Pos}(hg:Gl X (Zpr f))(ha:PA X (e::es) t)
 (he:YA (e::es) X.env=(WA,eval e X.env)::YA es X.env) (hpl:(YS pos (YA es X.env)).any (·.1)=WA):PE X (.Call (.Name (Zpr f) p) (e::es) [] pos) (tCB (rF Y E (ZbJ T.GD f)) t):=by
 have hY:=G.gk.K;cases f with
 |len=>exact Zep (Zru hY) hg (G.blt _ (by decide)) (by decide +kernel) ha (by decide) (by decide) he hpl
 |isi=>exact Zep (Zrv hY) hg (G.blt _ (by decide)) (by decide +kernel) ha (by decide) (by decide) he hpl
 |int=>cases hb
 |tup=>exact ZmA (Zrr hY) hg (G.blt _ (by decide)) (by decide +kernel) ha (by decide) (by decide) he hpl
 |lst=>cases hb
 |sum=>exact Zep (Zrs G.room.hd hY) hg (G.blt _ (by decide)) (by decide +kernel) ha (by decide) (by decide) he hpl
 |all=>cases hb
 |mx=>cases hb
 |srt=>exact Zep (Zrt G.room.hd G.gk) hg (G.blt _ (by decide)) (by decide +kernel) ha (by decide) (by decide) he hpl
end IV
end
section
namespace IV
open PySem PySem.Spec PyProof.Rows L2
def Zpj(G:Gd T Γ X Y E k)(h:Zm6 Γ d x=Wz):PE X x (ZbQ T Y E (.cst d)):=by
 have go:∀{v:V},(∀H B,RD Y H B d v)->PE X x (tC v)->PE X x (ZbQ T Y E (.cst d)):=λ{v} rd p=>PE.imp p λZ H Q ⟨S,h,B,rh,rs,f⟩=>Fin.ok (r:=rd H B) (show Fin Y (RD Y) H B (.ok d h) Q E from f) rh;unfold Zm6 at h;split at h
 . rename_i c q;obtain⟨k,p,rfl⟩:=Zhy q;unfold Zv5 at h;split at h
   . have e:=of_decide_eq_true h;subst e;exact go (λ_ _=>.int _) Zn9
   . rw[Oa]at h;have e:=of_decide_eq_true h.1;subst e;exact go (λ_ _=>.str _ h.2) Zs0
   . have e:=of_decide_eq_true h;subst e;exact go (λ_ _=>.bl _) Zve
   . exact go (λ_ _=>.non) Zn6
   . cases h
 . cases d with
   |ty n=>
    simp only at h;cases q:asName x with
    |none=>rw[q]at h;cases h
    |some y=>
     rw[q]at h;rw[Oa,Oa]at h;obtain⟨⟨h1,h2⟩,h3⟩:=h;obtain⟨p,rfl⟩:=Zee q;have e:=of_decide_eq_true h2;subst e;obtain⟨g1,g2⟩:=G.gl h3;have hn:=of_decide_eq_true h1;have all:(Zlt.all λn=>WB (bootBuiltins (Str.ofString n)=Wx (.type n))&&WB (Str.ofString n ≠ "__name__")&&WB (Str.ofString n∈(["len", "isinstance", "int", "tuple", "list", "sum", "all", "sorted", "range", "enumerate", "reversed", "str", "bool", "max"]:List Str)))=Wz:=by decide +kernel
     rw[OC]at all;have a:=all n hn;rw[Oa,Oa]at a;exact go (λ_ _=>.ty _) (ZqA g1 (G.blt _ (of_decide_eq_true a.2)) (of_decide_eq_true a.1.1) rfl (of_decide_eq_true a.1.2) g2)
   |_=>cases h
def R.bind_eq{α β:Type}{r:R α}{k:α->Hd->R β}{b:β}{h:Hd}(e:r.bind k=.ok b h):∃a h1,r=.ok a h1/\k a h1=.ok b h:=by
 cases r with
 |bad=>cases e
 |ok a h1=>exact⟨a,h1,rfl,e⟩
 |exc c h1=>cases e
def R.bind_assoc{α β γ:Type}{r:R α}{k:α->Hd->R β}{l:β->Hd->R γ}:(r.bind k).bind l=r.bind λa h=>(k a h).bind l:=by cases r<;>rfl
def Ztg(e:opC GD op x y h=.ok r h'):∃b,r=.bl b:=by
 have i2:∀{f:Int->Int->Bool},ZhS f x y h=.ok r h'->∃b,r=.bl b:=λe=>by
  unfold ZhS at e;split at e
  . cases e;exact⟨_,rfl⟩
  . cases e
 have eq:∀{n:Bool},Zb8 n x y h=.ok r h'->∃b,r=.bl b:=λe=>by
  unfold IV.Zb8 at e;split at e
  . split at e
    . cases e;exact⟨_,rfl⟩
    . cases e
  . cases e
 have inn:∀{n:Bool},ZbT GD n x y h=.ok r h'->∃b,r=.bl b:=λe=>by
  unfold ZbT at e;split at e
  . split at e
    . cases e;exact⟨_,rfl⟩
    . cases e
  . split at e
    . cases e;exact⟨_,rfl⟩
    . cases e
 have n1:∀{n:Bool},opN n x y h=.ok r h'->∃b,r=.bl b:=λe=>by
  unfold opN at e;split at e
  . cases e;exact⟨_,rfl⟩
  . cases e
 unfold opC at e;split at e
 . exact eq e
 . exact eq e
 . exact i2 e
 . exact i2 e
 . exact i2 e
 . exact i2 e
 . exact inn e
 . exact inn e
 . exact n1 e
 . exact n1 e
def Zvu(m:Mf):Slot "list" (ZrP m) (mid m)/\typeOf (.builtin (mid m))=pure (.type "method_descriptor"):=by
 cases m with
 |app=>exact⟨PySem.F.slot_list_append,PySem.F.type_list_append⟩
 |ext=>exact⟨PySem.F.slot_list_extend,PySem.F.type_list_extend⟩
 |pop=>exact⟨PySem.F.slot_list_pop,PySem.F.type_list_pop⟩
 |rev=>exact⟨PySem.F.slot_list_reverse,PySem.F.type_list_reverse⟩
 |clr=>exact⟨PySem.F.slot_list_clear,PySem.F.type_list_clear⟩
section
variable {Y:Yx}{α β α' β':Type}{rel:Hp->List Yi->α->β->Prop}{rel':Hp->List Yi->α'->β'->Prop}{H0 H H1:Hp}{μ0 B μ1:List Yi}{E:XK}
def Fin.bindB(g0:Gr H0 μ0 H B)(f:Fin Y rel' H0 μ0 (r.bind k) Q E)
 (hk:∀a h1 b H1 μ1,r=.ok a h1->Gr H B H1 μ1->RH Y H1 μ1 h1->rel H1 μ1 a b->Fin Y rel' H0 μ0 (k a h1) Q E->Q1 b H1):Fin Y rel H B r Q1 E:=by
 cases r with
 |bad=>exact f
 |ok a h=>exact λb H' μ' g' rh rl=>hk a h b H' μ' rfl g' rh rl f
 |exc c h=>exact λH' μ' C g'=>f H' μ' C (g0.trans g')
def Fin.bindAt(g0:Gr H0 μ0 H B)(f:Fin Y rel' H0 μ0 (r.bind k) Q E)
 (hk:∀a h1 b H1 μ1,r=.ok a h1->Gr H B H1 μ1->RH Y H1 μ1 h1->rel H1 μ1 a b->Fin Y rel' H0 μ0 (k a h1) Q E->Q1 b H1):Fin Y rel H B r Q1 E:=by
 cases r with
 |bad=>exact f
 |ok a h=>exact λb H' μ' g' rh rl=>hk a h b H' μ' rfl g' rh rl f
 |exc c h=>exact λH' μ' C g'=>f H' μ' C (g0.trans g')
end
noncomputable def Zjo:List Nat->TGs
 |[]=>Zrb
 |i::is=>Zjp (Zdg i) (Zjo is)
noncomputable def tgR(K:Yk):Tg->TG
 |.nm i=>Zdg i
 |.two i j=>Zra K 2 (Zjp (Zdg i) (Zjp (Zdg j) Zrb))
 |.many is=>Zra K is.length (Zjo is)
theorem ZiC:∀is:List Nat,is.foldr max 0<k->ZjY k (Zjo is)
 |[],_=>Zlw
 |i::is,h=>by simp only[List.foldr_cons]at h;exact ZfI (by lia) (ZiC is (by lia))
def ZuA(K:Yk)(g:Tg):Znd (tgk g) (tgR K g):=by
 cases g with
 |nm i=>exact ZpN (OH i)
 |two i j=>exact Znq (ZfI (show i<max i j+1 by lia) (ZfI (show j<max i j+1 by lia) Zlw))
 |many is=>exact Znq (ZiC is (OH _))
theorem ZeT:∀(is:List Nat) (es:List Expr),ZeC N own is es=Wz->(assignEach es env).length=is.length/\List.findIdx? (λx=>x.fst) (assignEach es env)=Wy
 |[],[],_=>⟨rfl,rfl⟩
 |i::is,e::es,h=>by
  unfold ZeC at h;rw[Oa]at h;obtain⟨x,p,rfl,_⟩:=Za4 h.1;obtain⟨a,b⟩:=ZeT (env:=env) is _ h.2;constructor
  . simp[assignEach,a]
  . simp only[assignEach,List.findIdx?_cons,b];rfl
 |[],_::_,h=>by cases h
 |_::_,[],h=>by simp[ZeC]at h
theorem ZiZ(hN:X.N=N)(nd:X.N.Nodup)(ho:∀x,own x=Wz->Loc X.env.scope x/\(X.fn x=Wz\/X.env.scope.names.lookup x=Wx .local)):∀(is:List Nat) (es:List Expr),ZeC N own is es=Wz->PGs X es (Zjo is)
 |[],[],_=>ZlI
 |i::is,e::es,h=>by unfold ZeC at h;rw[Oa]at h;obtain⟨x,p,rfl,e1,e2⟩:=Za4 h.1;obtain⟨o1,o2⟩:=ho _ e2;exact Zf7 (Zfu nd (by rw[hN];exact e1) o1 o2) (ZiZ hN nd ho is _ h.2)
 |[],_::_,h=>by cases h
 |_::_,[],h=>by simp[ZeC]at h
def ZlJ(hN:X.N=N)(nd:X.N.Nodup)(hc:X.calm=Wz)(ho:∀x,own x=Wz->Loc X.env.scope x/\(X.fn x=Wz\/X.env.scope.names.lookup x=Wx .local))(h:Zk4 N own g tg=Wz):PG X tg (tgR X.K g):=by
 cases g with
 |nm i=>obtain⟨x,p,rfl,e1,e2⟩:=Za4 h;obtain⟨o1,o2⟩:=ho _ e2;exact Zfu nd (by rw[hN];exact e1) o1 o2
 |two i j=>obtain⟨x,p,y,q,k,r,rfl,⟨a1,a2⟩,b1,b2⟩:=ZhC h;obtain⟨o1,o2⟩:=ho _ a2;obtain⟨p1,p2⟩:=ho _ b2;exact Zn3 hc (Zf7 (Zfu nd (by rw[hN];exact a1) o1 o2) (Zf7 (Zfu nd (by rw[hN];exact b1) p1 p2) ZlI))
 |many is=>obtain⟨es,k,r,rfl,h⟩:=Zgg h;exact Zn3 (hn:=(ZeT _ _ h).1) (hst:=(ZeT _ _ h).2) hc (ZiZ hN nd ho _ _ h)
theorem ZlQ:∀(is:List Nat) {ds:List D}{vs:List V}{S:Ev}{Z:L2.St},RDs Y H B ds vs->RS Y H B S Z->ds.length=is.length->(∀σ1,RS Y H B (Zj9 is ds S) σ1->Q σ1 H)->Zjo is vs Z H Q
 |[],ds,vs,S,Z,r,rs,hl,q=>by
  cases r with
  |nil=>exact⟨rfl,q _ rs⟩
  |cons a s=>simp at hl
 |i::is,ds,vs,S,Z,r,rs,hl,q=>by
  cases r with
  |nil=>simp at hl
  |cons a s=>exact⟨_,_,rfl,ZlQ is s (rs.set a) (by simpa using hl) q⟩
def Zil{Y:Yx}{K:Yk}{Q:L2.St->Hp->Prop}(hY:Y.K=K)(r:RD Y H B d v)(rs:RS Y H B S Z)(e:ZbK g d S=Wx ρ1)(q:∀σ1,RS Y H B ρ1 σ1->Q σ1 H):tgR K g v Z H Q:=by
 cases g with
 |nm i=>cases e;exact q _ (rs.set r)
 |two i j=>
  unfold ZbK at e;simp only at e;split at e
  . cases e;obtain⟨a,vs,rfl,t,s⟩:=r.tup_inv;obtain⟨x,y,rfl,r1,r2⟩:=s.two;exact⟨a,_,rfl,hY ▸ t,rfl,x,_,rfl,y,_,rfl,rfl,q _ ((rs.set r1).set r2)⟩
  . cases e
 |many is=>
  unfold ZbK at e;simp only at e;split at e
  . split at e
    . rename_i hl;cases e;obtain⟨a,vs,rfl,t,s⟩:=r.tup_inv;exact⟨a,vs,rfl,hY ▸ t,by rw[<- s.length,hl],ZlQ is s rs hl q⟩
    . cases e
  . cases e
section
variable {Y:Yx}{H:Hp}{B:List Yi}{h:Hd}{Dd:Yi}{ys zs:List V}
def Znw{K:Yk}(hD:H Dd=Wx (.lst ys))(t:SqT K H a vs):SqT K (upd H Dd (.lst zs)) a vs:=by
 rcases t with t|t
 . rcases t with t|⟨o,t⟩
   . exact .inl (.inl (by rw[Zg (λz=>by rw[z,hD]at t;cases t)];exact t))
   . exact .inl (.inr ⟨o,by rw[Zg (λz=>by rw[z,hD]at t;cases t)];exact t⟩)
 . exact .inr t
def ZoY{K:Yk}(hD:H Dd=Wx (.lst ys))(t:FzL K H a vs):FzL K (upd H Dd (.lst zs)) a vs:=by
 rcases t with ⟨o,t⟩|t
 . exact .inl ⟨o,by rw[Zg (λz=>by rw[z,hD]at t;cases t)];exact t⟩
 . exact .inr t
mutual
theorem RD.swap(hD:H Dd=Wx (.lst ys)):∀{d:D}{v:V},RD Y H B d v->RD Y (upd H Dd (.lst zs)) B d v
 |_,_,.non=>.non
 |_,_,.bl b=>.bl b
 |_,_,.int i=>.int i
 |_,_,.str x ok=>.str x ok
 |_,_,.tup t s=>.tup (Znw hD t) (RDs.swap hD s)
 |_,_,.ref e=>.ref e
 |_,_,.ty n=>.ty n
 |_,_,.ro t s=>.ro (ZoY hD t) (RDs.swap hD s)
 |_,_,.kd e=>.kd e
theorem RDs.swap(hD:H Dd=Wx (.lst ys)):∀{d:List D}{v:List V},RDs Y H B d v->RDs Y (upd H Dd (.lst zs)) B d v
 |_,_,.nil=>.nil
 |_,_,.cons a s=>.cons (RD.swap hD a) (RDs.swap hD s)
end
theorem RKs.swap(hD:H Dd=Wx (.lst ys)):∀{d:List (κ×D)}{v:List (κ×V)},RKs Y H B d v->RKs Y (upd H Dd (.lst zs)) B d v
 |_,_,.nil=>.nil
 |_,_,.cons a s=>.cons (a.swap hD) (s.swap hD)
theorem RH.swap(hD:H Dd=Wx (.lst ys))(hn:Dd ∉ B)(r:RH Y H B h):RH Y (upd H Dd (.lst zs)) B h:=by
 refine⟨r.len,r.nd,λi o a e1 e2=>?_,r.ks⟩;have ne:a≠Dd:=λz=>hn (z ▸ O2 e2);have q:=r.ob i o a e1 e2;cases o with
 |lst ds=>obtain⟨vs,z,s⟩:=q;exact⟨vs,by rw[Zg ne];exact z,s.swap hD⟩
 |dic ds=>obtain⟨vs,z,s⟩:=q;exact⟨vs,by rw[Zg ne];exact z,s.swap hD⟩
 |ins C ds=>obtain⟨a1,a2,a3,z,m,s⟩:=q;exact⟨a1,a2,a3,by rw[Zg ne];exact z,m,s.swap hD⟩
 |fdic ds=>obtain⟨o,vs,z,s⟩:=q;exact⟨o,vs,by rw[Zg ne];exact z,s.swap hD⟩
def Gr.out(g:Gr H B H' μ')(hD:H Dd=Wx o)(hn:Dd ∉ B):H' Dd=Wx o/\Dd ∉ μ':=⟨g.keep _ _ hn hD,λhm=>(g.new _ hm).elim hn λz=>by rw[hD]at z;cases z⟩
end
section
variable {Y:Yx}{H:Hp}{B:List Yi}{p:Yi}
mutual
theorem RD.more:∀{d:D}{v:V},RD Y H B d v->RD Y H (B++[p]) d v
 |_,_,.non=>.non
 |_,_,.bl b=>.bl b
 |_,_,.int i=>.int i
 |_,_,.str x ok=>.str x ok
 |_,_,.tup t s=>.tup t (RDs.more s)
 |_,_,.ref e=>.ref (by rw[Oe (Ob.mp e).1];exact e)
 |_,_,.ty n=>.ty n
 |_,_,.ro t s=>.ro t (RDs.more s)
 |_,_,.kd e=>.kd e
theorem RDs.more:∀{d:List D}{v:List V},RDs Y H B d v->RDs Y H (B++[p]) d v
 |_,_,.nil=>.nil
 |_,_,.cons a s=>.cons (RD.more a) (RDs.more s)
end
theorem RKs.more:∀{d:List (κ×D)}{v:List (κ×V)},RKs Y H B d v->RKs Y H (B++[p]) d v
 |_,_,.nil=>.nil
 |_,_,.cons a s=>.cons a.more s.more
theorem RO.more(q:RO Y H B a o):RO Y H (B++[p]) a o:=by
 cases o with
 |lst ds=>obtain⟨vs,z,s⟩:=q;exact⟨vs,z,s.more⟩
 |dic ds=>obtain⟨vs,z,s⟩:=q;exact⟨vs,z,s.more⟩
 |ins C ds=>obtain⟨a1,a2,a3,z,m,s⟩:=q;exact⟨a1,a2,a3,z,m,s.more⟩
 |fdic ds=>obtain⟨o,vs,z,s⟩:=q;exact⟨o,vs,z,s.more⟩
end
def Zl6{T:Tb}{Y:Yx}{E:XK}{K:Yk}(hY:Y.K=K){js:List (Option Nat)}{g:Tg}{c:Option Tx}{e:Ex}{tc:TT}{J:It}{w:Wk}{H1:Hp}{μ1:List Yi}{h1:Hd}{S:Ev}{Z:L2.St}{Q:VK}{Dd:Yi}
 (htc:∀Z H Q,(∃S h B,RH Y H B h/\RS Y H B S Z/\Fin Y (λ_ _ (a b:Bool)=>a=b) H B (tsto T c S h) Q E)->tc Z H Q)
 (rh:RH Y H1 μ1 h1) (rs:RS Y H1 μ1 S Z) (wj:WJ Y H1 μ1 w J) (f:Fin Y (RD Y) H1 μ1 ((Zz w.src g (tsto T c) (ev T e) w.xs (Zbp js S) [] h1).bind λxs h2=>Zc0 (.lst xs) h2) Q E) (hD:H1 Dd=Wy) :
 ∃W:Nat->Nat->List V->Hp->Prop,(∃m,W 0 m [] (upd H1 Dd (.lst []))) /\
  ∀i m ys H,W i m ys H->H Dd=Wx (.lst ys)->(J.stop i H/\Q (.ref Dd) H) \/
   (J.go i H/\ys.length<sizeLine/\∀x H',J.yld i H x H'->tgR K g x (capt js Z) H' λσ2 H2=>tc σ2 H2 λb H3=>
    if b=Wz then ZbQ T Y E e σ2 H3 λy H4=>H4 Dd=Wx (.lst ys)/\∃m',m'<m/\W (i+1) m' (ys++[y]) (upd H4 Dd (.lst (ys++[y])))
    else H3 Dd=Wx (.lst ys)/\∃m',m'<m/\W (i+1) m' ys H3):=by
 have n1:Dd ∉ μ1:=λz=>by have:=rh.mut z;rw[hD]at this;exact this
 refine⟨λi m ys H=>∃acc h B,i<=w.xs.length/\m=w.xs.length - i/\Gr H1 μ1 H B/\RH Y H B h/\RDs Y H B acc ys/\Dd ∉ B /\
  Fin Y (RD Y) H1 μ1 ((Zz w.src g (tsto T c) (ev T e) (w.xs.drop i) (Zbp js S) acc h).bind λxs h2=>Zc0 (.lst xs) h2) Q E,⟨w.xs.length,[],h1,μ1,Yy _,by simp,Gr.lay0 hD,rh.lay0 hD,.nil,n1,f⟩,?_⟩
 rintro i m ys H ⟨acc,h,B,hi,rfl,g1,rh1,ra,nD,f1⟩ hl;by_cases hlt:i<w.xs.length
 . obtain⟨d,hd⟩:∃d,w.xs[i]? = Wx d:=⟨_,Og hlt⟩
   have hdrop:w.xs.drop i=d::w.xs.drop (i+1):=by rw[List.drop_eq_getElem_cons hlt];have:=Og hlt;rw[hd]at this;rw[<- YF this]
   rw[hdrop,Zz]at f1;by_cases hs:Wk.stays w.src h=Wz/\acc.length<sizeLine
   . rw[if_pos hs]at f1;obtain⟨go,yl⟩:=(wj H B h g1 rh1 hs.1).1 i d hd;refine .inr ⟨go,by rw[<- ra.length];exact hs.2,λx H' hy=>?_⟩;obtain⟨g2,rh2,rx⟩:=yl x H' hy;obtain⟨hl2,nD2⟩:=g2.out hl nD;have g02:=g1.trans g2;split at f1
     . exact f1.elim
     . rename_i ρ1 hb;refine Zil hY rx ((rs.mono rh g02).capt js) hb λσ1 rs1=>htc σ1 H' _ ⟨ρ1,h,B,rh2,rs1,?_⟩;rw[R.bind_assoc]at f1;refine Fin.bindAt g02 f1 λb h3 b' H3 μ3 _ g3 rh3 eb f3=>?_;subst eb;obtain⟨hl3,nD3⟩:=g3.out hl2 nD2;have g03:=g02.trans g3;cases b with
       |true=>
        rw[if_pos rfl]at f3 ⊢;rw[R.bind_assoc]at f3;refine⟨ρ1,h3,μ3,rh3,rs1.mono rh2 g3,Fin.bindAt g03 f3 λy h4 y' H4 μ4 _ g4 rh4 ry f4=>?_⟩;obtain⟨hl4,nD4⟩:=g4.out hl3 nD3;refine⟨hl4,_,Nat.sub_lt_sub_left hlt (OH i),acc++[y],h4,μ4,hlt,rfl,?_,rh4.swap hl4 nD4,?_,nD4,f4⟩
        . have g04:=g03.trans g4;exact⟨g04.pre,g04.new,λb o hb e=>by rw[Zg (λz=>by rw[z,hD]at e;cases e)];exact g04.keep b o hb e,λb u v e=>by rw[Zg (λz=>by rw[z,hD]at e;cases e)];exact g04.fz b u v e⟩
        . exact((((ra.mono rh1 g2).mono rh2 g3).mono rh3 g4).append (.cons ry .nil)).swap hl4
       |false=>rw[if_neg (by decide)]at f3 ⊢;exact⟨hl3,_,Nat.sub_lt_sub_left hlt (OH i),acc,h3,μ3,hlt,rfl,g03,rh3,(ra.mono rh1 g2).mono rh2 g3,nD3,f3⟩
   . rw[if_neg hs]at f1;exact f1.elim
 . have he:i=w.xs.length:=by lia
   subst he;rw[List.drop_eq_nil_of_le (Oq _),Zz]at f1;by_cases hs:Wk.stays w.src h=Wz
   . rw[if_pos hs]at f1;refine .inl ⟨(wj H B h g1 rh1 hs).2,?_⟩;have f2:Fin Y (RD Y) H1 μ1 (.ok (.ref h.length) (h++[.lst acc])) Q E:=f1;have gg:Gr H B H (B++[Dd])->True:=λ_=>trivial;have g3:Gr H1 μ1 H (B++[Dd]):=by
      refine⟨λj a e=>?_,λa ha=>?_,g1.keep,g1.fz⟩
      . have:=g1.pre j a e;rw[Oe (Ob.mp this).1];exact this
      . rcases OD.mp ha with z|z
        . exact g1.new a z
        . rw[Ox.mp z];exact .inr hD
     refine f2.at g3 ?_ (.ref (by rw[rh1.len];simp));have pre:∀{d:D}{v:V},RD Y H B d v->RD Y H (B++[Dd]) d v:=λr=>r.more;refine⟨by simp[rh1.len],?_,λj o a e1 e2=>?_,ZkB rh1.ks trivial⟩
     . rw[List.nodup_append];refine⟨rh1.nd,by simp,λa ha b hb=>?_⟩;rw[Ox.mp hb];intro z;exact nD (z ▸ ha)
     . by_cases hj:j<h.length
       . rw[Oe hj]at e1;rw[Oe (by rw[<- rh1.len];exact hj)]at e2;exact(rh1.ob j o a e1 e2).more
       . have hj':j=h.length:=by
          have:=(Ob.mp e1).1;simp at this
          lia
         subst hj';rw[Om (Oq _)]at e1;rw[Om (by rw[rh1.len];exact Oq _)]at e2;simp[rh1.len]at e1 e2;subst e1;subst e2;exact⟨ys,hl,ra.more⟩
   . rw[if_neg hs]at f1;exact f1.elim
end IV
end
section
namespace IV
open PySem PySem.Spec PyProof.Rows L2
section
variable {Y:Yx}{H:Hp}{B:List Yi}{h:Hd}
theorem RKs.look:∀{fs:List (Str×D)}{gs:List (Str×V)},RKs Y H B fs gs->(∀d,fs.lookup f=Wx d->∃v,gs.lookup f=Wx v/\RD Y H B d v)/\(fs.lookup f=Wy->gs.lookup f=Wy)
 |_,_,.nil=>⟨λd e=>by simp at e,λ_=>rfl⟩
 |_,_,.cons (k:=k) (d:=d0) (v:=v0) a s=>by
  by_cases e:f=k
  . subst e;exact⟨λd z=>by simp at z;subst z;exact⟨_,by simp,a⟩,λz=>by simp at z⟩
  . have b:(f==k)=WA:=by simpa using e
    obtain⟨q1,q2⟩:=RKs.look (f:=f) s;refine⟨λd z=>?_,λz=>?_⟩
    . rw[OF,b]at z ⊢;exact q1 d z
    . rw[OF,b]at z ⊢;exact q2 z
theorem RKs.putAF(r:RD Y H B d v):∀{fs:List (Str×D)}{gs:List (Str×V)},RKs Y H B fs gs->RKs Y H B (Zmt f d fs) (Zb6 f v gs)
 |_,_,.nil=>.cons r .nil
 |_,_,.cons (k:=k) a s=>by
  unfold Zmt Zb6;by_cases e:k=f
  . rw[if_pos e,if_pos e];exact .cons r s
  . rw[if_neg e,if_neg e];exact .cons a (RKs.putAF r s)
def Zgq(rh:RH Y H B h)(r:RD Y H B d v)(e:ZX d h=Wx (C,fs)):∃i a Ca dx gs,d=.ref i/\v=.ref a/\B[i]? = Wx a/\h[i]? = Wx (.ins C fs)/\H a=Wx (.ins Ca dx gs)/\Y.mg C=Wx (.ref Ca)/\RKs Y H B fs gs:=by
 unfold ZX at e;split at e
 . rename_i i;split at e
   . rename_i C' fs' hi;cases e;cases r with
     |ref q=>rename_i a;obtain⟨Ca,dx,gs,z,m,s⟩:=rh.ob i _ a hi q;exact⟨i,a,Ca,dx,gs,rfl,rfl,q,hi,z,m,s⟩
   . cases e
 . cases e
def ZqW(rh:RH Y H B h)(hx:H x=Wy)(hd:H dx=Wy)(ne:dx≠x)(m:Y.mg C=Wx (.ref Ca)):RH Y (upd (upd H dx (.own x)) x (.ins Ca dx [])) (B++[x]) (h++[.ins C []])/\Gr H B (upd (upd H dx (.own x)) x (.ins Ca dx [])) (B++[x]):=by
 have hx':upd H dx (.own x) x=Wy:=by rw[Zg (λz=>ne z.symm)];exact hx
 exact⟨(rh.lay0 hd).lay hx' ⟨Ca,dx,[],Zi,m,.nil⟩,(Gr.lay0 hd).trans (Gr.lay hx')⟩
end
def ZmM(hbase:attributeBase o name env (eval o env)=eval o env)
 (hform:methodCallForm (args.length+([]:List Keyword).length) (YS pos (YA args env)) (backToKw pos (We [] env))=Wz) (hline:(apos.endLine==pos.line)=Wz) :
 eval (.Call (.Attribute o name apos) args [] pos) env=(do
  let ov <- eval o env
  standAt apos.atName
  let (f,first) <- holding [ov] (getMethod ov name (do return (<- importBound o env).getD Wz))
  callWith pos f first (YS pos (YA args env)) (backToKw pos (We [] env))):=by
 have hpos:methodCallPos Wz o env apos pos=pure pos:=by unfold methodCallPos;simp[hline]
 rw[arm_eval_Call,hbase];unfold methodCall;simp only[hform,hpos];rfl
section
variable {T:Tb}{Γ:Gm}{X:Cx}{Y:Yx}{E:XK}{k:Nat}
def Zua(G:Gd T Γ X Y E k)(hc:(Cs.all λC=>WB (C∈Γ.kl.cs))=Wz)(hf:f∈Γ.kl.ats)(rh:RH Y H B h)(rd:RD Y H B d x)(ff:Fin Y (RD Y) H B (ZgS Cs f d h) Q E):
 ∃a C dx fs v,x=.ref a/\H a=Wx (.ins C dx fs)/\Cls X.K C/\ZaV X.K C f/\fs.lookup f=Wx v/\Q v H:=by
 unfold ZgS at ff;split at ff
 . rename_i C fs e;obtain⟨hC,ff⟩:=ff.iff;obtain⟨i,a,Ca,dx,gs,rfl,rfl,q,hi,z,m,s⟩:=Zgq rh rd e;obtain⟨w,e1,ff⟩:=ff.ofO;obtain⟨v,l,rv⟩:=(s.look (f:=f)).1 w e1;rw[OC]at hc;obtain⟨Ca',m',cl,na⟩:=G.cls C (of_decide_eq_true (hc C hC));rw[G.gk.mg,m']at m;cases m;exact⟨a,Ca,dx,gs,v,rfl,z,cl,na f hf,l,ff.ok rh rv⟩
 . exact ff.elim
def ZnB(G:Gd T Γ X Y E k)(hc:(Cs.all λC=>WB (C∈Γ.kl.cs))=Wz)(hf:f∈Γ.kl.ats)(rh:RH Y H B h)(rd:RD Y H B d x)(re:RD Y H B e y)(ff:Fin Y (RD Y) H B (ZhI Cs f d e h) Q E):
 ∃a C dx fs,x=.ref a/\H a=Wx (.ins C dx fs)/\Cls X.K C/\ZaV X.K C f/\fs.length<1000/\Q .non (upd H a (.ins C dx (Zb6 f y fs))):=by
 unfold ZhI at ff;split at ff
 . rename_i i;split at ff
   . rename_i C fs hi;obtain⟨⟨hC,hl⟩,ff⟩:=ff.iff;obtain⟨i',a,Ca,dx,gs,e1,rfl,q,hi',z,m,s⟩:=Zgq rh rd (show ZX (.ref i) h=Wx (C,fs) by simp[ZX,hi]);cases e1;rw[OC]at hc;obtain⟨Ca',m',cl,na⟩:=G.cls C (of_decide_eq_true (hc C hC));have m0:=m;rw[G.gk.mg,m']at m;cases m;refine⟨a,Ca,dx,gs,rfl,z,cl,na f hf,by rw[<- s.length];exact hl,ff.at (Gr.write (O2 q) (by rw[z];trivial)) (rh.write q ?_ (by rw[z];trivial)) .non⟩;exact⟨Ca,dx,_,Zi,m0,(RKs.putAF re s).mono rh (Gr.write (O2 q) (by rw[z];trivial))⟩
   . exact ff.elim
 . exact ff.elim
def Zvv(G:Gd T Γ X Y E k)(h2:C∈Γ.kl.is)(h3:glb Γ C=Wz)(h4:chks Γ es ys=Wz)(ha:PA X ys (ZpX T Y E es)):PE X (.Call (.Name C p) ys [] pos) (ZbQ T Y E (.mk C es)):=by
 obtain⟨a,f,fd,ps,m,M,F,B_⟩:=G.mks _ h2;obtain⟨g1,g2⟩:=G.gl h3;have key:∀(ds:List D) (h1:Hd) (xs:List V) (H1:Hp) (μ1:List Yi) (Q:VK),RH Y H1 μ1 h1->RDs Y H1 μ1 ds xs->Fin Y (RD Y) H1 μ1 (Zon T.C C ds h1) Q E->∀x dx,H1 x=Wy->H1 dx=Wy->dx≠x ->
  Zfi T Y (mnm C (O "__init__")) (.ref x::(xs++[])) (upd (upd H1 dx (.own x)) x (.ins a dx [])) (λv H2=>v=.non/\Q (.ref x) H2) E:=by
  intro ds h1 xs H1 μ1 Q rh1 rds f1 x dx hx hd ne;obtain⟨rh2,g2⟩:=ZqW (C:=C) (Ca:=a) rh1 hx hd ne (by rw[G.gk.mg];exact m);have px:(μ1++[x])[h1.length]? = Wx x:=by rw[rh1.len];simp
  refine⟨.ref h1.length::ds,h1++[.ins C []],μ1++[x],rh2,.cons (.ref px) (by rw[Yt];exact rds.mono rh1 g2),?_⟩;refine Fin.bind (Fin.mono g2 f1) λd h3 v H3 μ3 _ g3 rh3 rd3 f3=>?_;cases d with
  |non=>cases rd3;exact⟨rfl,f3.ok rh3 (.ref (g3.pre _ _ px))⟩
  |_=>exact f3.elim
 cases ys with
 |nil=>
  cases es with
  |nil=>exact(Zn8 M F G.room1 g1 m B_ .nil G.pass g2).imp λZ H Q ⟨S,h,B,rh,rs,f⟩=>key [] h [] H B Q rh .nil f
  |cons e r=>unfold chks at h4;cases h4
 |cons y ys=>
  have st:Z6 y=Wz:=by
   cases es with
   |nil=>unfold chks at h4;cases h4
   |cons e r=>unfold chks at h4;rw[Oa,Oa]at h4;exact h4.1.2
  have sp:∀pos,(YS pos (YA ys X.env)).any (·.1)=WA:=by
   cases es with
   |nil=>unfold chks at h4;cases h4
   |cons e r=>unfold chks at h4;rw[Oa,Oa]at h4;exact Zbw Γ X.env r ys h4.2
  exact(Zqu M F G.room1 g1 m B_ .nil G.pass ha g2 (Zq X.env st) (sp _)).imp λZ H Q ⟨S,h,B,rh,rs,f⟩=>⟨S,h,B,rh,rs,Fin.bind f λds h1 xs H1 μ1 _ g rh1 rds f1=>key ds h1 xs H1 μ1 Q rh1 rds f1⟩
def Ztn(G:Gd T Γ X Y E k)(h5:(C,n)∈Γ.kl.ms)(h3:Zda xo=Wz)(h4:chks Γ es ys=Wz)(h6:ys.length<29)(h7:(ap.endLine==cp.line)=Wz)(ho:PE X xo (ZbQ T Y E o))(ha:PA X ys (ZpX T Y E es)):
 PE X (.Call (.Attribute xo n ap) ys [] cp) (ZbQ T Y E (.mcl C n o es)):=by
 obtain⟨a,f,fd,ps,mm,c,hm,F,B_⟩:=G.mts _ h5;have hform:methodCallForm (ys.length+([]:List Keyword).length) (YS cp (YA ys X.env)) (backToKw cp (We [] X.env))=Wz:=by
  unfold methodCallForm;rw[ZeL Γ X.env es ys h4];have h30:WB (ys.length+([]:List Keyword).length+(if (backToKw cp (We [] X.env)).isEmpty then 0 else 1)<30)=Wz:=by
   rw[decide_eq_true_eq];show ys.length+0+0<30
   lia
  rw[h30];rfl
 have ht:=ZmM (o:=xo) (name:=n) (apos:=ap) (pos:=cp) (args:=ys) (env:=X.env) (Zfy h3) hform h7;have key:∀(d:D) (h1:Hd) (x:V) (H1:Hp) (μ1:List Yi) (S:Ev) (Z:L2.St) (Q:VK),RH Y H1 μ1 h1->RS Y H1 μ1 S Z->RD Y H1 μ1 d x->Fin Y (RD Y) H1 μ1 (match ZX d h1 with
  |some (C',fs)=>if C'=C/\fs.lookup n=Wy then(evs T es S h1).bind λxs h2=>T.C (mnm C n) (d::xs) h2 else .bad
  |none=>.bad) Q E->∃b dx fs,x=.ref b/\H1 b=Wx (.ins a dx fs)/\fs.lookup n=Wy/\ZpX T Y E es Z H1 λvs H2=>Zfi T Y (mnm C n) (x::(vs++[])) H2 Q E:=by
  intro d h1 x H1 μ1 S Z Q rh1 rs1 rd f1;split at f1
  . rename_i C' fs e;obtain⟨⟨e1,e2⟩,f1⟩:=f1.iff;subst e1;obtain⟨i,b,Ca,dx,gs,rfl,rfl,q,hi,z,m',s⟩:=Zgq rh1 rd e;rw[G.gk.mg,mm]at m';cases m';refine⟨b,dx,gs,rfl,z,(s.look (f:=n)).2 e2,S,h1,μ1,rh1,rs1,f1.bind λds h2 vs H2 μ2 _ g2 rh2 rds f2=>⟨_,h2,μ2,rh2,.cons (rd.mono rh1 g2) (by rw[Yt];exact rds),f2⟩⟩
  . exact f1.elim
 cases ys with
 |nil=>
  cases es with
  |nil=>
   refine(Zn7 ho c hm F G.room B_ .nil G.pass ht).imp λZ H Q ⟨S,h,B,rh,rs,f⟩=>⟨S,h,B,rh,rs,Fin.bind f λd h1 x H1 μ1 _ g rh1 rd f1=>?_⟩
   obtain⟨b,dx,fs,e1,e2,e3,ρ',h',μ',rh',rs',f'⟩:=key d h1 x H1 μ1 S Z Q rh1 (rs.mono rh g) rd f1;exact⟨b,dx,fs,e1,e2,e3,f'.ok rh' .nil⟩
  |cons e r=>unfold chks at h4;cases h4
 |cons y ys=>
  have st:Z6 y=Wz:=by
   cases es with
   |nil=>unfold chks at h4;cases h4
   |cons e r=>unfold chks at h4;rw[Oa,Oa]at h4;exact h4.1.2
  have sp:∀pos,(YS pos (YA ys X.env)).any (·.1)=WA:=by
   cases es with
   |nil=>unfold chks at h4;cases h4
   |cons e r=>unfold chks at h4;rw[Oa,Oa]at h4;exact Zbw Γ X.env r ys h4.2
  exact(Zqs ho c hm F G.room B_ .nil G.pass ha (Zq X.env st) (sp _) ht).imp λZ H Q ⟨S,h,B,rh,rs,f⟩=>⟨S,h,B,rh,rs,Fin.bind f λd h1 x H1 μ1 _ g rh1 rd f1=>key d h1 x H1 μ1 S Z Q rh1 (rs.mono rh g) rd f1⟩
end
end IV
end
section
namespace IV
open PySem PySem.Spec PyProof.Rows L2
def Zrm(G:Gd T Γ X Y E k)(ha:PE X l (ZbQ T Y E a))(hb:PE X r (ZbQ T Y E b))(hm:ZeO r=Wz):PT X (.Compare l [op] [r] pos) (ZnD T Y E (.ex (.cmp op a b))):=by refine(Zqg (Zof (E:=E) G.room G.h60 G.gk op) ha hb (ZlP hm)).imp λZ H Q ⟨S,h,B,rh,rs,f⟩=>ZpY (f:=opC T.GD op) rh rs ?_;refine Fin.bind (show Fin Y _ H B ((ev T (.cmp op a b) S h).bind λx h1=>R.ofO (Zd4 T.GD x h1) h1) Q E from f) λd h1 x H1 μ1 er g rh1 rd f1=>?_;obtain⟨_,_,_,er⟩:=R.bind_eq (show(ev T a S h).bind _=.ok d h1 from er);obtain⟨_,_,_,er⟩:=R.bind_eq er;obtain⟨c,rfl⟩:=Ztg er;cases rd;exact⟨c,rfl,Fin.ok (show Fin Y _ H1 μ1 (.ok c h1) Q E from f1) rh1 rfl⟩
def Zro(h:chk Γ e (.Compare l o r p)=Wz):(∃op a b,e=.cmp op a b)\/(∃o1 o2 a b c,e=.cmp2 o1 o2 a b c)\/(∃a b,e=.lin a b):=by
 cases e with
 |lin a b=>exact .inr (.inr ⟨a,b,rfl⟩)
 |cmp op a b=>exact .inl ⟨op,a,b,rfl⟩
 |cmp2 o1 o2 a b c=>exact .inr (.inl ⟨o1,o2,a,b,c,rfl⟩)
 |cst d=>cases d<;>(unfold chk Zm6 at h;cases h)
 |_=>unfold chk at h;cases h
def Zmx(G:Gd T Γ X Y E k)(he:PE X x (ZbQ T Y E e))(h1:Zkh x=Wz)(hx:∀l o r p,x≠.Compare l o r p):PT X x (ZnD T Y E (.ex e)):=by
 refine(ZnU he (Zn1 h1 hx)).imp λZ H Q ⟨S,h,B,rh,rs,f⟩=>⟨S,h,B,rh,rs,Fin.bind (show Fin Y _ H B ((ev T e S h).bind λx h1=>R.ofO (Zd4 T.GD x h1) h1) Q E from f) λd h1 x H1 μ1 er g rh1 rd f1=>?_⟩
 obtain⟨b,eb,f1⟩:=f1.ofO;exact⟨b,ZpL G.gk.K rh1 rd eb,f1.ok rh1 rfl⟩
noncomputable def Zlv(T:Tb)(Y:Yx)(E:XK):Exs->List (TE×TE)
 |.nil=>[]
 |.cons k r=>match r with
  |.nil=>[]
  |.cons v r'=>(ZbQ T Y E k,ZbQ T Y E v)::Zlv T Y E r'
section
variable {Y:Yx}{H:Hp}{B:List Yi}{h:Hd}{Dd:Yi}{ys zs:List (Key×V)}
def Zmm{K:Yk}(hD:H Dd=Wx (.dK ys))(t:SqT K H a vs):SqT K (upd H Dd (.dK zs)) a vs:=by
 rcases t with t|t
 . rcases t with t|⟨o,t⟩
   . exact .inl (.inl (by rw[Zg (λz=>by rw[z,hD]at t;cases t)];exact t))
   . exact .inl (.inr ⟨o,by rw[Zg (λz=>by rw[z,hD]at t;cases t)];exact t⟩)
 . exact .inr t
def Zm2{K:Yk}(hD:H Dd=Wx (.dK ys))(t:FzL K H a vs):FzL K (upd H Dd (.dK zs)) a vs:=by
 rcases t with ⟨o,t⟩|t
 . exact .inl ⟨o,by rw[Zg (λz=>by rw[z,hD]at t;cases t)];exact t⟩
 . exact .inr t
mutual
theorem RD.swapD(hD:H Dd=Wx (.dK ys)):∀{d:D}{v:V},RD Y H B d v->RD Y (upd H Dd (.dK zs)) B d v
 |_,_,.non=>.non
 |_,_,.bl b=>.bl b
 |_,_,.int i=>.int i
 |_,_,.str x ok=>.str x ok
 |_,_,.tup t s=>.tup (Zmm hD t) (RDs.swapD hD s)
 |_,_,.ref e=>.ref e
 |_,_,.ty n=>.ty n
 |_,_,.ro t s=>.ro (Zm2 hD t) (RDs.swapD hD s)
 |_,_,.kd e=>.kd e
theorem RDs.swapD(hD:H Dd=Wx (.dK ys)):∀{d:List D}{v:List V},RDs Y H B d v->RDs Y (upd H Dd (.dK zs)) B d v
 |_,_,.nil=>.nil
 |_,_,.cons a s=>.cons (RD.swapD hD a) (RDs.swapD hD s)
end
theorem RKs.swapD(hD:H Dd=Wx (.dK ys)):∀{d:List (κ×D)}{v:List (κ×V)},RKs Y H B d v->RKs Y (upd H Dd (.dK zs)) B d v
 |_,_,.nil=>.nil
 |_,_,.cons a s=>.cons (a.swapD hD) (s.swapD hD)
theorem RO.swapD(hD:H Dd=Wx (.dK ys))(ne:a≠Dd)(q:RO Y H B a o):RO Y (upd H Dd (.dK zs)) B a o:=by
 cases o with
 |lst ds=>obtain⟨vs,z,s⟩:=q;exact⟨vs,by rw[Zg ne];exact z,s.swapD hD⟩
 |dic ds=>obtain⟨vs,z,s⟩:=q;exact⟨vs,by rw[Zg ne];exact z,s.swapD hD⟩
 |ins C ds=>obtain⟨a1,a2,a3,z,m,s⟩:=q;exact⟨a1,a2,a3,by rw[Zg ne];exact z,m,s.swapD hD⟩
 |fdic ds=>obtain⟨o,vs,z,s⟩:=q;exact⟨o,vs,by rw[Zg ne];exact z,s.swapD hD⟩
end
inductive RPs(Y:Yx)(H:Hp)(B:List Yi):List D->List (V×V)->Prop
 |nil:RPs Y H B [] []
 |cons {k v:D}{r:List D}{x y:V}{ps:List (V×V)}:RD Y H B k x->RD Y H B v y->RPs Y H B r ps->RPs Y H B (k::v::r) ((x,y)::ps)
theorem RPs.pairs:∀{ds:List D}{ps:List (V×V)}{kvs:List (Key×D)},RPs Y H B ds ps->Zc9 ds=Wx kvs->∃kvs':List (Key×V),ps=kvs'.map (λkv=>(kV kv.1,kv.2))/\RKs Y H B kvs kvs'
 |_,_,_,.nil,e=>by cases e;exact⟨[],rfl,.nil⟩
 |_,_,_,.cons a b s,e=>by
  rw[Zc9]at e;split at e
  . rename_i k r e1 e2;cases e;obtain⟨kvs',rfl,rk⟩:=s.pairs e2;have:=ZdG a e1;subst this;exact⟨(k,_)::kvs',rfl,.cons b rk⟩
  . cases e
theorem RPs.keysOk:∀{ds:List D}{ps:List (V×V)}{kvs:List (Key×D)},RPs Y H B ds ps->Zc9 ds=Wx kvs->Zbm kvs
 |_,_,_,.nil,e=>by cases e;intro p hp;cases hp
 |_,_,_,.cons a b s,e=>by
  rw[Zc9]at e;split at e
  . rename_i k r e1 e2;cases e;intro p hp x z;rcases O3.mp hp with rfl|hp
    . exact ZoE a e1 x z
    . exact s.keysOk e2 p hp x z
  . cases e
theorem Zev:∀{more kvs:List (Key×D)},Zbm more->Zbm kvs->Zbm (Zb9 kvs more)
 |[],kvs,_,h=>h
 |(k,d)::r,kvs,hm,h=>Zev (more:=r) (kvs:=putD kvs k d) (λp hp=>hm p (Oh _ hp)) (Zgk h (λx e=>hm (k,d) Oi x e))
theorem RKs.merge:∀{more:List (Key×D)}{more':List (Key×V)}{kvs:List (Key×D)}{kvs':List (Key×V)},RKs Y H B more more'->RKs Y H B kvs kvs'->RKs Y H B (Zb9 kvs more) (Zd6 kvs' more')
 |_,_,_,_,.nil,s=>s
 |_,_,_,_,.cons (k:=k) a r,s=>by have z:=RKs.merge r (s.put k a);exact z
def Zoc:∀(n:Nat) (ps:Exs) {K:List D->Hd->R D}{H:Hp}{B:List Yi}{h:Hd}{Q1:List (V×V)->Hp->Prop}{Γ:Gm}{ks:List (Option Expr)}{vs:List Expr},ks.length<=n->chkp Γ ps ks vs=Wz ->
 Gr H0 μ0 H B->RH Y H B h->RS Y H B S Z->Fin Y (RD Y) H0 μ0 ((evs T ps S h).bind K) Q E ->
 (∀ds h1 qs H1 μ1,Gr H B H1 μ1->RH Y H1 μ1 h1->RPs Y H1 μ1 ds qs->Fin Y (RD Y) H0 μ0 (K ds h1) Q E->Q1 qs H1)->ZhG (Zlv T Y E ps) Z H Q1:=by
 intro n;induction n with
 |zero=>
  intro ps K H B h Q1 Γ ks vs hl hc g0 rh rs f hq;cases ps with
  |nil=>exact hq [] h [] H B Gr.refl rh .nil f
  |cons k r=>
   cases r with
   |nil=>unfold chkp at hc;cases hc
   |cons v r'=>
    unfold chkp at hc;simp only at hc;split at hc
    . simp at hl
    . cases hc
 |succ n ih=>
  intro ps K H B h Q1 Γ ks vs hl hc g0 rh rs f hq;cases ps with
  |nil=>exact hq [] h [] H B Gr.refl rh .nil f
  |cons k r=>
   cases r with
   |nil=>unfold chkp at hc;cases hc
   |cons v r'=>
    unfold chkp at hc;simp only at hc;split at hc
    . rw[Oa]at hc;have f1:Fin Y (RD Y) H0 μ0 ((ev T k S h).bind λx h1=>(ev T v S h1).bind λy h2=>(evs T r' S h2).bind λxs h3=>K (x::y::xs) h3) Q E:=by
       have e:(evs T (.cons k (.cons v r')) S h).bind K=(ev T k S h).bind λx h1=>(ev T v S h1).bind λy h2=>(evs T r' S h2).bind λxs h3=>K (x::y::xs) h3:=by show((ev T k S h).bind λx h1=>((ev T v S h1).bind λy h2=>(evs T r' S h2).bind λxs h3=>R.ok (y::xs) h3).bind λxs h2=>R.ok (x::xs) h2).bind K=_;simp only[R.bind_assoc,R.bind_ok]
       rw[<- e];exact f
      refine⟨S,h,B,rh,rs,Fin.bindB g0 f1 λd h1 x H1 μ1 _ g1 rh1 rd f2=>?_⟩;refine⟨S,h1,μ1,rh1,rs.mono rh g1,Fin.bindB (g0.trans g1) f2 λe h2 y H2 μ2 _ g2 rh2 re f3=>?_⟩;refine ih r' (by simpa using hl) hc.2 ((g0.trans g1).trans g2) rh2 ((rs.mono rh g1).mono rh1 g2) f3 λds h3 qs H3 μ3 g3 rh3 rp f4=>?_;exact hq (d::e::ds) h3 ((x,y)::qs) H3 μ3 ((g1.trans g2).trans g3) rh3 (.cons ((rd.mono rh1 g2).mono rh2 g3) (re.mono rh2 g3) rp) f4
    . cases hc
def Zrk(ps:Exs)(G:Gd T Γ X Y E k)(h15:ks.length<=15)(hc:chkp Γ ps ks vs=Wz)(hp:PPs X pos ks vs (Zlv T Y E ps))(hall:ks.all (·.isSome)=Wz)(hl:ks.length=vs.length):PE X (.Dict ks vs pos) (ZbQ T Y E (.dictl ps)):=by
 by_cases h0:ks=[]
 . subst h0;cases vs with
   |cons a b=>cases hl
   |nil=>
    cases ps with
    |cons k r=>
     cases r with
     |nil=>unfold chkp at hc;cases hc
     |cons v r'=>unfold chkp at hc;cases hc
    |nil=>refine Zob.imp λZ H Q ⟨S,h,B,rh,rs,f⟩ p hp=>?_;have f:Fin Y (RD Y) H B (Zc0 (.dic []) h) Q E:=f;exact f.new rh hp ⟨[],Zi,.nil⟩ (λp hp=>by cases hp)
 . refine(Zqw hp hall hl h0 h15).imp λZ H Q ⟨S,h,B,rh,rs,f⟩ p hp=>?_;have np:p ∉ B:=λz=>by have:=rh.mut z;rw[hp]at this;exact this
   refine Zoc ks.length ps (Oq _) hc (Gr.lay0 hp) (rh.lay0 hp) (rs.mono rh (Gr.lay0 hp)) f λds h1 qs H1 μ1 g1 rh1 rp f1=>?_;obtain⟨hl1,nD⟩:=g1.out (Zi (H:=H)) np;have g01:Gr H B H1 μ1:=(Gr.lay0 hp).trans g1;split at f1
   . rename_i kvs ek;obtain⟨hz,f1⟩:=f1.iff;obtain⟨kvs',rfl,rk⟩:=rp.pairs ek;refine⟨hl1,kvs',rfl,by rw[<- rk.length];exact hz,?_⟩;have f2:Fin Y (RD Y) H B (.ok (.ref h1.length) (h1++[.dic (Zb9 [] kvs)])) Q E:=f1;have g3:Gr H B (upd H1 p (.dK (Zd6 [] kvs'))) (μ1++[p]):=by
      refine⟨λj a e=>?_,λa ha=>?_,λb o hb e=>?_,λb u v e=>by rw[Zg (λz=>by rw[z,hp]at e;cases e)];exact g01.fz b u v e⟩
      . have:=g01.pre j a e;rw[Oe (Ob.mp this).1];exact this
      . rcases OD.mp ha with z|z
        . exact g01.new a z
        . rw[Ox.mp z];exact .inr hp
      . rw[Zg (λz=>by rw[z,hp]at e;cases e)];exact g01.keep b o hb e
     refine f2.at g3 ?_ (.ref (by rw[rh1.len];simp));refine⟨by simp[rh1.len],?_,λj o a e1 e2=>?_,ZkB rh1.ks (show Zbm (Zb9 [] kvs)from Zev (rp.keysOk ek) (λp hp=>by cases hp))⟩
     . rw[List.nodup_append];refine⟨rh1.nd,by simp,λa ha b hb=>?_⟩;rw[Ox.mp hb];intro z;exact nD (z ▸ ha)
     . by_cases hj:j<h1.length
       . rw[Oe hj]at e1;rw[Oe (by rw[<- rh1.len];exact hj)]at e2;exact((rh1.ob j o a e1 e2).swapD hl1 (λz=>nD (z ▸ O2 e2))).more
       . have hj':j=h1.length:=by
          have:=(Ob.mp e1).1;simp at this
          lia
         subst hj';rw[Om (Oq _)]at e1;rw[Om (by rw[rh1.len];exact Oq _)]at e2;simp[rh1.len]at e1 e2;subst e1;subst e2;exact⟨_,Zi,((rk.merge .nil).swapD hl1).more⟩
   . exact f1.elim
mutual
theorem Zo:∀(e:Ex) {Γ:Gm}{X:Cx}{E:XK}{k:Nat}{x:Expr},Gd T Γ X Y E k->chk Γ e x=Wz->PE X x (ZbQ T Y E e)
 |.var i,Γ,X,E,k,x,G,h=>by
  unfold chk at h;split at h
  . rw[Oa,Oa,Oa]at h;obtain⟨⟨⟨h1,h2⟩,h3⟩,h4⟩:=h;refine(ZsY (by rw[G.N];exact of_decide_eq_true h1) (G.vis _ h2) (by simpa using h3) (by simpa using h4)).imp λZ H Q ⟨S,h,B,rh,rs,f⟩=>?_;obtain⟨d,e,f⟩:=Fin.ofO (show Fin Y (RD Y) H B (R.ofO (S[i]?).join h) Q E from f);obtain⟨v,e1,rd⟩:=rs.var e;exact⟨v,e1,f.ok rh rd⟩
  . cases h
 |.cst d,Γ,X,E,k,x,G,h=>Zpj G (by unfold chk at h;exact h)
 |.glo y,Γ,X,E,k,x,G,h=>by
  unfold chk at h;split at h
  . rw[Oa]at h;have e:=of_decide_eq_true h.1;subst e;obtain⟨g1,g2⟩:=G.gl h.2;intro pins s Z H Q I ⟨S,h,B,rh,rs,f⟩;obtain⟨d,e,f⟩:=Fin.ofO (show Fin Y (RD Y) H B (R.ofO (T.G y) h) Q E from f);obtain⟨v,u,hm,rv,rd⟩:=G.gk.g y d e;exact Zqv g1 hm rv g2 pins s Z H Q I (f.ok rh (rd H B))
  . cases h
 |.bin op a b,Γ,X,E,k,x,G,h=>by
  unfold chk at h;split at h
  . rw[Oa,Oa]at h;have e:=of_decide_eq_true h.1.1;subst e;exact(Zvb (Zth G.gk.K op) (Zo a G h.1.2) (Zo b G h.2)).imp λZ H Q ⟨S,h,B,rh,rs,f⟩=>ZpY rh rs f
  . cases h
 |.cmp op a b,Γ,X,E,k,x,G,h=>by
  unfold chk at h;split at h
  . rw[Oa,Oa,Oa]at h;have e:=of_decide_eq_true h.1.1.1;subst e;exact(Zqy (Zof G.room G.h60 G.gk op) (Zo a G h.1.1.2) (Zo b G h.1.2) (ZlP h.2)).imp λZ H Q ⟨S,h,B,rh,rs,f⟩=>ZpY rh rs f
  . cases h
 |.cmp2 o1 o2 a b c,Γ,X,E,k,x,G,h=>by unfold chk at h;cases h
 |.neg a,Γ,X,E,k,x,G,h=>by
  unfold chk at h;split at h
  . refine(Zu9 Zsf (Zo a G h)).imp λZ H Q ⟨S,h,B,rh,rs,f⟩=>⟨S,h,B,rh,rs,Fin.bind f λd h1 x H1 μ1 _ g rh1 rd f1=>?_⟩
    cases rd with
    |int i=>exact⟨i,rfl,Fin.ok f1 rh1 (.int _)⟩
    |_=>exact f1.elim
  . cases h
 |.nt a,Γ,X,E,k,x,G,h=>by
  unfold chk at h;split at h
  . refine(Zs1 (Zo a G h)).imp λZ H Q ⟨S,h,B,rh,rs,f⟩=>⟨S,h,B,rh,rs,Fin.bind f λd h1 x H1 μ1 _ g rh1 rd f1=>?_⟩
    cases rd with
    |bl i=>exact⟨i,rfl,Fin.ok f1 rh1 (.bl _)⟩
    |_=>exact f1.elim
  . cases h
 |.ands es,Γ,X,E,k,x,G,h=>by
  unfold chk at h;split at h
  . exact and_ok es G h
  . cases h
 |.ors es,Γ,X,E,k,x,G,h=>by
  unfold chk at h;split at h
  . exact or_ok es G h
  . cases h
 |.ite c a b,Γ,X,E,k,x,G,h=>by
  unfold chk at h;split at h
  . rw[Oa,Oa]at h;refine(Zoa (tst_ok c G h.1.1) (Zo a G h.1.2) (Zo b G h.2)).imp λZ H Q ⟨S,h,B,rh,rs,f⟩=>⟨S,h,B,rh,rs,Fin.bind f λd h1 x H1 μ1 _ g rh1 rd f1=>?_⟩
    subst rd;cases d with
    |true=>exact ZkQ ⟨S,h1,μ1,rh1,rs.mono rh g,f1⟩
    |false=>exact ZkR ⟨S,h1,μ1,rh1,rs.mono rh g,f1⟩
  . cases h
 |.tupl es,Γ,X,E,k,x,G,h=>by
  unfold chk at h;split at h
  . refine(ZsZ (evs_ok es G h)).imp λZ H Q ⟨S,h,B,rh,rs,f⟩=>⟨S,h,B,rh,rs,Fin.bind f λd h1 x H1 μ1 _ g rh1 rd f1=>?_⟩
    obtain⟨hz,f1⟩:=f1.iff;exact⟨by rw[<- rd.length];exact hz,λp hp=>f1.tup rh1 hp rd⟩
  . cases h
 |.lstl es,Γ,X,E,k,x,G,h=>by
  unfold chk at h;split at h
  . refine(Zs2 (evs_ok es G h)).imp λZ H Q ⟨S,h,B,rh,rs,f⟩=>⟨S,h,B,rh,rs,Fin.bind f λd h1 x H1 μ1 _ g rh1 rd f1=>?_⟩
    obtain⟨hz,f1⟩:=f1.iff;exact⟨by rw[<- rd.length];exact hz,λp hp=>f1.new rh1 hp ⟨_,Zi,rd.mono rh1 (Gr.lay hp)⟩⟩
  . cases h
 |.ix a i,Γ,X,E,k,x,G,h=>by
  unfold chk at h;split at h
  . rw[Oa,Oa]at h;exact(Zvc (ZqJ G.gk) (Zo a G h.1.1) (Zo i G h.1.2) (Zny h.2)).imp λZ H Q ⟨S,h,B,rh,rs,f⟩=>ZpY rh rs f
  . cases h
 |.sl a lo hi,Γ,X,E,k,x,G,h=>by
  unfold chk at h;split at h
  . rw[Oa,Oa]at h;refine(Zn4 (ZqH (E:=E) G.gk.K) (Zo a G h.1.1) (evo_ok lo G h.1.2) (evo_ok hi G h.2)).imp λZ H Q ⟨S,h,B,rh,rs,f⟩=>⟨S,h,B,rh,rs,Fin.bind f λd h1 x H1 μ1 _ g rh1 rd f1=>⟨S,h1,μ1,rh1,rs.mono rh g,Fin.bind f1 λl h2 l' H2 μ2 _ g2 rh2 rl f2=>⟨S,h2,μ2,rh2,(rs.mono rh g).mono rh1 g2,Fin.bind f2 λu h3 u' H3 μ3 _ g3 rh3 ru f3=>?_⟩⟩⟩
    subst rl ru;exact⟨d,h3,μ3,rh3,(rd.mono rh1 g2).mono rh2 g3,f3⟩
  . cases h
 |.blt f es,Γ,X,E,k,x,G,h=>by
  unfold chk at h;split at h
  . rename_i y ys _;rw[Oa,Oa]at h;have e:=of_decide_eq_true h.1.1;subst e;have hs:=h.2;have st:Z6 y=Wz:=by
     cases es with
     |nil=>rw[chks]at hs;cases hs
     |cons e r=>rw[chks,Oa,Oa]at hs;exact hs.1.2
    have sp:∀pos,(YS pos (YA ys X.env)).any (·.1)=WA:=by
     cases es with
     |nil=>rw[chks]at hs;cases hs
     |cons e r=>rw[chks,Oa,Oa]at hs;exact Zbw Γ X.env r ys hs.2
    exact(Zt6 G f ((Oa _ _).mp h.1.2).1 (G.gl ((Oa _ _).mp h.1.2).2).1 (evs_ok es G h.2) (Zq X.env st) (sp _)).imp λZ H Q ⟨S,h,B,rh,rs,f⟩=>⟨S,h,B,rh,rs,Fin.bind f λd h1 x H1 μ1 _ g rh1 rd f1=>⟨d,h1,μ1,rh1,rd,f1⟩⟩
  . cases h
 |.call f es,Γ,X,E,k,x,G,h=>by
  unfold chk at h;split at h
  . rename_i y ys _;rw[Oa,Oa,Oa]at h;have e:=of_decide_eq_true h.1.1.1;subst e;obtain⟨ps,hd⟩:=G.defs _ (of_decide_eq_true h.1.1.2);obtain⟨g1,g2⟩:=G.gl h.1.2;have hs:=h.2;have st:Z6 y=Wz:=by
     cases es with
     |nil=>rw[chks]at hs;cases hs
     |cons e r=>rw[chks,Oa,Oa]at hs;exact hs.1.2
    have sp:∀pos,(YS pos (YA ys X.env)).any (·.1)=WA:=by
     cases es with
     |nil=>rw[chks]at hs;cases hs
     |cons e r=>rw[chks,Oa,Oa]at hs;exact Zbw Γ X.env r ys hs.2
    exact(Zs4 hd G.room g1 G.pass (evs_ok es G h.2) g2 (Zq X.env st) (sp _)).imp λZ H Q ⟨S,h,B,rh,rs,f⟩=>⟨S,h,B,rh,rs,Fin.bind f λd h1 x H1 μ1 _ g rh1 rd f1=>⟨d,h1,μ1,rh1,rd,f1⟩⟩
  . cases h
 |.meth m o es,Γ,X,E,k,x,G,h=>by
  unfold chk at h;split at h
  . rename_i xo n ap ys cp;rw[Oa,Oa,Oa,Oa,Oa]at h;obtain⟨⟨⟨⟨⟨h1,h2⟩,h3⟩,h4⟩,h5⟩,h6⟩:=h;have e:=of_decide_eq_true h1;subst e;obtain⟨sl,ty⟩:=Zvu m;have tyl:∀{H1:Hp}{μ1:List Yi}{h1:Hd}{d:D}{v:V},RH Y H1 μ1 h1->RD Y H1 μ1 d v->Zdf d h1=Wz->tyV X.K "list" v H1:=by
     intro H1 μ1 h1 d v rh r il;cases r with
     |ref q=>
      rename_i i a;have:∃xs,h1[i]? = Wx (.lst xs):=by
       unfold Zdf at il;simp only at il;split at il
       . exact⟨_,by assumption⟩
       . cases il
      obtain⟨xs,hx⟩:=this;obtain⟨vs,hl,_⟩:=rh.ob i _ a hx q;exact .inl ⟨rfl,vs,.of hl⟩
     |_=>cases il
    cases ys with
    |nil=>
     refine(Zs5 PySem.F.plainAttrs_list sl ty (ZlO (Y:=Y) (E:=E) G.gk.K m) (Zo o G h2) (Zfy h3) h6).imp λZ H Q ⟨S,h,B,rh,rs,f⟩=>⟨S,h,B,rh,rs,Fin.bind f λd h1 x H1 μ1 _ g rh1 rd f1=>?_⟩
     obtain⟨il,f1⟩:=f1.iff;refine⟨tyl rh1 rd il,?_⟩;cases es with
     |nil=>exact⟨d,[],h1,μ1,rh1,rd,.nil,f1⟩
     |cons e r=>unfold chks at h4;cases h4
    |cons y ys=>
     have st:Z6 y=Wz:=by
      cases es with
      |nil=>unfold chks at h4;cases h4
      |cons e r=>unfold chks at h4;rw[Oa,Oa]at h4;exact h4.1.2
     have sp:∀pos,(YS pos (YA ys X.env)).any (·.1)=WA:=by
      cases es with
      |nil=>unfold chks at h4;cases h4
      |cons e r=>unfold chks at h4;rw[Oa,Oa]at h4;exact Zbw Γ X.env r ys h4.2
     refine(Zvd PySem.F.plainAttrs_list sl ty (ZlO (Y:=Y) (E:=E) G.gk.K m) (Zo o G h2) (evs_ok es G h4) (Zfy h3) ?_ h6 (Zq X.env st) (sp _)).imp λZ H Q ⟨S,h,B,rh,rs,f⟩=>⟨S,h,B,rh,rs,Fin.bind f λd h1 x H1 μ1 _ g rh1 rd f1=>?_⟩
     . rw[ZeL Γ X.env es (y::ys) h4];have:=of_decide_eq_true h5;have h30:WB ((y::ys).length+([]:List Keyword).length+(if ([]:List Keyword).isEmpty then 0 else 1)<30)=Wz:=by
        rw[decide_eq_true_eq];simp only[List.isEmpty_nil,List.length_nil,if_true]
        lia
       rw[h30];rfl
     . obtain⟨il,f1⟩:=f1.iff;exact⟨tyl rh1 rd il,S,h1,μ1,rh1,rs.mono rh g,f1.bind λds h2 xs H2 μ2 _ g2 rh2 rds f2=>⟨d,ds,h2,μ2,rh2,rd.mono rh1 g2,rds,f2⟩⟩
  . cases h
 |.comp NC js it g c e,Γ,X,E,k,x,G,h=>by
  unfold chk at h;split at h
  . rename_i scope _;rw[Oa,Oa,Oa,Oa,Oa,Oa,Oa]at h;obtain⟨⟨⟨⟨⟨⟨⟨h0,h1⟩,h2⟩,h3⟩,h4⟩,h5⟩,h6⟩,h7⟩:=h;have S_:=ZjD h1;rw[<- G.N,<- G.sc h0]at S_;have Gc:=λ(pins:List (Yi×Obj)) (Z:L2.St) (C:Yi) (s3:Yb) (H3:Hp) (fp:List Yi) (i3:Inv X pins Z H3 s3) (j3:∀b∈fp,Zbt X pins H3 b) (k3:C=s3.heap.objs.size)=>G.comp NC scope C s3 H3 fp S_.nd (G.passC h0 pins Z NC scope C s3 H3 fp i3 j3 k3);rw[OC]at h5;refine(Zqx (g:=tgR X.K g) (tc:=λZ H Q=>∃S h B,RH Y H B h/\RS Y H B S Z/\Fin Y (λ_ _ (a b:Bool)=>a=b) H B (tsto T c S h) Q E) (te:=ZbQ T Y E e) S_ rfl G.calm (evi_ok it G h2) (λpins Z C s3 H3 fp i3 j3 k3=>⟨ZlJ rfl S_.nd rfl (λx hx=>?_) h4,?_,Zo e (Gc pins Z C s3 H3 fp i3 j3 k3) h7⟩) (ZuA X.K g) (λj hj=>of_decide_eq_true (h5 j (List.mem_range.mpr hj))) (Zj8 X.env h3)).imp
     λZ H Q ⟨S,h,B,rh,rs,f⟩=>⟨S,h,B,rh,rs,Fin.bind f λw h1 J H1 μ1 _ g1 rh1 wj f1 D hD=>Zl6 G.gk.K (λ_ _ _ z=>z) rh1 (rs.mono rh g1) wj f1 hD⟩
    . have hl:=of_decide_eq_true hx;have:(relabel scope X.env).names.lookup x=Wx .local:=by rw[ZaH,hl];rfl
      exact⟨.inl this,.inr this⟩
    . exact ifs_ok c (Gc pins Z C s3 H3 fp i3 j3 k3) h6
  . cases h
 |.sorts e,Γ,X,E,k,x,G,h=>by unfold chk at h;cases h
 |.trev e,Γ,X,E,k,x,G,h=>by unfold chk at h;cases h
 |.lrv e,Γ,X,E,k,x,G,h=>by unfold chk at h;cases h
 |.tix o e,Γ,X,E,k,x,G,h=>by unfold chk at h;cases h
 |.lix o e,Γ,X,E,k,x,G,h=>by unfold chk at h;cases h
 |.lin a b,Γ,X,E,k,x,G,h=>by unfold chk at h;cases h
 |.any,Γ,X,E,k,x,G,h=>λpins s Z H Q I ⟨S,h,B,rh,rs,f⟩=>f.elim
 |.att Cs o f,Γ,X,E,k,x,G,h=>by
  unfold chk at h;split at h
  . rw[Oa,Oa,Oa,Oa]at h;obtain⟨⟨⟨⟨h1,h2⟩,h3⟩,h4⟩,h5⟩:=h;have e:=of_decide_eq_true h1;subst e;exact(Zs3 (Zo o G h2) (Zfy h3)).imp λZ H Q ⟨S,h,B,rh,rs,f⟩=>⟨S,h,B,rh,rs,Fin.bind f λd h1 x H1 μ1 _ g rh1 rd f1=>Zua G h4 (of_decide_eq_true h5) rh1 rd f1⟩
  . cases h
 |.mk C es,Γ,X,E,k,x,G,h=>by
  unfold chk at h;split at h
  . rw[Oa,Oa,Oa]at h;obtain⟨⟨⟨h1,h2⟩,h3⟩,h4⟩:=h;have e:=of_decide_eq_true h1;subst e;exact Zvv G (of_decide_eq_true h2) h3 h4 (evs_ok es G h4)
  . cases h
 |.mcl C m o es,Γ,X,E,k,x,G,h=>by
  unfold chk at h;split at h
  . rw[Oa,Oa,Oa,Oa,Oa,Oa]at h;obtain⟨⟨⟨⟨⟨⟨h1,h2⟩,h3⟩,h4⟩,h5⟩,h6⟩,h7⟩:=h;have e:=of_decide_eq_true h1;subst e;exact Ztn G (of_decide_eq_true h5) h3 h4 (of_decide_eq_true h6) h7 (Zo o G h2) (evs_ok es G h4)
  . cases h
 |.maxd a d,Γ,X,E,k,x,G,h=>by
  unfold chk at h;split at h
  . rw[Oa,Oa,Oa,Oa,Oa]at h;obtain⟨⟨⟨⟨⟨h1,h2⟩,h3⟩,h4⟩,h5⟩,h6⟩:=h;have e1:=of_decide_eq_true h1;have e2:=of_decide_eq_true h2;subst e1 e2;refine(Zqt (G.gl h3).1 (G.blt _ (by decide)) G.calm (Zo a G h4) (Zo d G h6) (Zq X.env h5)).imp λZ H Q ⟨S,h,B,rh,rs,f⟩=>⟨S,h,B,rh,rs,Fin.bind f λx h1 v H1 μ1 _ g rh1 rx f1=>⟨S,h1,μ1,rh1,rs.mono rh g,Fin.bind f1 λy h2 u H2 μ2 _ g2 rh2 ry f2=>?_⟩⟩
    cases ry with
    |int d=>obtain⟨r,er,f2⟩:=Fin.ofO (show Fin Y (RD Y) H2 μ2 (R.ofO (((lstOf x h2).bind intsOf).map λns=>.int (Zdc ns d)) h2) Q E from f2);obtain⟨ns,e2,rfl⟩:=Oo.mp er;obtain⟨zs,e3,e4⟩:=Option.bind_eq_some_iff.mp e2;obtain⟨a,vs,rfl,hl,rv⟩:=(rx.mono rh1 g2).lstOf rh2 e3;rw[Zgp rv e4]at hl;exact⟨a,ns,d,rfl,rfl,G.gk.K ▸ hl,f2.ok rh2 (.int _)⟩
    |_=>exact f2.elim
  . cases h
 |.dictl ps,Γ,X,E,k,x,G,h=>by
  unfold chk at h;split at h
  . rw[Oa]at h;obtain⟨p1,p2,p3⟩:=pairs_ok ps G h.2;exact Zrk ps G (of_decide_eq_true h.1) h.2 p1 p2 p3
  . cases h
theorem evs_ok:∀(e:Exs) {Γ:Gm}{X:Cx}{E:XK}{k:Nat}{x:List Expr},Gd T Γ X Y E k->chks Γ e x=Wz->PA X x (ZpX T Y E e)
 |.nil,Γ,X,E,k,x,G,h=>by
  rw[chks]at h;cases x with
  |nil=>exact Zf9.imp λZ H Q ⟨S,h,B,rh,rs,f⟩=>Fin.ok (show Fin Y (RDs Y) H B (.ok [] h) Q E from f) rh .nil
  |cons a b=>cases h
 |.cons e r,Γ,X,E,k,x,G,h=>by
  cases x with
  |nil=>rw[chks]at h;cases h
  |cons y ys=>
   rw[chks,Oa,Oa]at h;exact(Zeq (Zo e G h.1.1) (evs_ok r G h.2) (Zq X.env h.1.2)).imp λZ H Q ⟨S,h,B,rh,rs,f⟩=>⟨S,h,B,rh,rs,Fin.bind f λd h1 x H1 μ1 _ g rh1 rd f1=>⟨S,h1,μ1,rh1,rs.mono rh g,f1.bind λds h2 xs H2 μ2 _ g2 rh2 rds f2=>f2.ok rh2 (.cons (rd.mono rh1 g2) rds)⟩⟩
theorem and_ok:∀(e:Exs) {Γ:Gm}{X:Cx}{E:XK}{k:Nat}{x:List Expr}{pos:Pos},Gd T Γ X Y E k->chks Γ e x=Wz->PE X (.BoolOp .And x pos) (ZbQ T Y E (.ands e))
 |.nil,Γ,X,E,k,x,pos,G,h=>λpins s Z H Q I ⟨S,h,B,rh,rs,f⟩=>f.elim
 |.cons e r,Γ,X,E,k,x,pos,G,h=>by
  cases x with
  |nil=>rw[chks]at h;cases h
  |cons y ys=>
   rw[chks,Oa,Oa]at h;cases r with
   |nil=>
    have h2:=h.2;rw[chks]at h2;cases ys with
    |nil=>exact(Zn5 (Zo e G h.1.1)).imp λZ H Q q=>q
    |cons a b=>cases h2
   |cons e' r'=>
    cases ys with
    |nil=>have h2:=h.2;rw[chks]at h2;cases h2
    |cons z zs=>
     refine(Zs6 (Zo e G h.1.1) (and_ok (.cons e' r') G h.2)).imp λZ H Q ⟨S,h,B,rh,rs,f⟩=>⟨S,h,B,rh,rs,Fin.bind f λd h1 x H1 μ1 _ g rh1 rd f1=>?_⟩
     cases rd with
     |bl c=>
      refine⟨c,rfl,?_⟩;cases c with
      |true=>exact ZkQ ⟨S,h1,μ1,rh1,rs.mono rh g,f1⟩
      |false=>exact ZkR (Fin.ok f1 rh1 (.bl _))
     |_=>exact f1.elim
theorem or_ok:∀(e:Exs) {Γ:Gm}{X:Cx}{E:XK}{k:Nat}{x:List Expr}{pos:Pos},Gd T Γ X Y E k->chks Γ e x=Wz->PE X (.BoolOp .Or x pos) (ZbQ T Y E (.ors e))
 |.nil,Γ,X,E,k,x,pos,G,h=>λpins s Z H Q I ⟨S,h,B,rh,rs,f⟩=>f.elim
 |.cons e r,Γ,X,E,k,x,pos,G,h=>by
  cases x with
  |nil=>rw[chks]at h;cases h
  |cons y ys=>
   rw[chks,Oa,Oa]at h;cases r with
   |nil=>
    have h2:=h.2;rw[chks]at h2;cases ys with
    |nil=>exact(Zn5 (Zo e G h.1.1)).imp λZ H Q q=>q
    |cons a b=>cases h2
   |cons e' r'=>
    cases ys with
    |nil=>have h2:=h.2;rw[chks]at h2;cases h2
    |cons z zs=>
     refine(Zva (Zo e G h.1.1) (or_ok (.cons e' r') G h.2)).imp λZ H Q ⟨S,h,B,rh,rs,f⟩=>⟨S,h,B,rh,rs,Fin.bind f λd h1 x H1 μ1 _ g rh1 rd f1=>?_⟩
     cases rd with
     |bl c=>
      refine⟨c,rfl,?_⟩;cases c with
      |true=>exact ZkQ (Fin.ok f1 rh1 (.bl _))
      |false=>exact ZkR ⟨S,h1,μ1,rh1,rs.mono rh g,f1⟩
     |_=>exact f1.elim
theorem evo_ok:∀(e:Option Ex) {Γ:Gm}{X:Cx}{E:XK}{k:Nat}{x:Option Expr},Gd T Γ X Y E k->chko Γ e x=Wz->PO X x (ZwM T Y E e)
 |none,Γ,X,E,k,x,G,h=>by
  unfold chko at h;cases x with
  |none=>exact Zqn.imp λZ H Q ⟨S,h,B,rh,rs,f⟩=>Fin.ok (show Fin Y _ H B (.ok Wy h) Q E from f) rh rfl
  |some a=>cases h
 |some e,Γ,X,E,k,x,G,h=>by
  unfold chko at h;cases x with
  |none=>cases h
  |some a=>
   refine(Zqm (Zo e G h)).imp λZ H Q ⟨S,h,B,rh,rs,f⟩=>⟨S,h,B,rh,rs,Fin.bind f λd h1 x H1 μ1 _ g rh1 rd f1=>?_⟩
   cases rd with
   |int i=>exact⟨i,rfl,Fin.ok f1 rh1 rfl⟩
   |_=>exact f1.elim
theorem tst_ok:∀ (e:Tx) {Γ:Gm}{X:Cx}{E:XK}{k:Nat}{x:Expr},Gd T Γ X Y E k->chkt Γ e x=Wz->PT X x (ZnD T Y E e)
 | .ex e,Γ,X,E,k,x,G,h=>by
   unfold chkt at h;rw [Oa] at h;have pl:=Zmx G (Zo e G h.2) h.1;by_cases hx:∀ l o r p,x≠.Compare l o r p
   . exact pl hx
   . have h2:=h.2;cases e with
     | cmp op a b =>
       unfold chk at h2;split at h2
       . rw [Oa,Oa,Oa] at h2;have e:=of_decide_eq_true h2.1.1.1;subst e;exact Zrm G (Zo a G h2.1.1.2) (Zo b G h2.1.2) h2.2
       . cases h2
     | lin a b=>unfold chk at h2;cases h2
     | cmp2 o1 o2 a b c=>unfold chk at h2;cases h2
     | _ =>
       refine pl fun l o r p z=>?_;subst z;rcases Zro h2 with ⟨_,_,_,q⟩|⟨_,_,_,_,_,q⟩|⟨_,_,q⟩<;>cases q
 | .ands ts,Γ,X,E,k,x,G,h=>by
   unfold chkt at h;split at h
   . exact (tand_ok ts G h).pt
   . cases h
 | .ors ts,Γ,X,E,k,x,G,h=>by
   unfold chkt at h;split at h
   . exact (tor_ok ts G h).pt
   . cases h
 | .nt t,Γ,X,E,k,x,G,h=>by
   unfold chkt at h;split at h
   . exact (ZsO (tst_ok t G h)).imp fun Z H Q ⟨S,h,B,rh,rs,f⟩=>⟨S,h,B,rh,rs,Fin.bind (show Fin Y _ H B ((tst T t S h).bind fun c h1=>.ok (!c) h1) Q E from f) fun d h1 x H1 μ1 er g rh1 rd f1=>by
       subst rd;exact Fin.ok f1 rh1 rfl⟩
   . cases h
theorem tand_ok:∀(e:Txs) {Γ:Gm}{X:Cx}{E:XK}{k:Nat}{x:List Expr}{pos:Pos},Gd T Γ X Y E k->chkts Γ e x=Wz->PW X (.BoolOp .And x pos) (ZnD T Y E (.ands e))
 |.one t,Γ,X,E,k,x,pos,G,h=>by
  unfold chkts at h;split at h
  . exact(Zqe (tst_ok t G h)).imp λZ H Q q=>q
  . cases h
 |.cons t ts,Γ,X,E,k,x,pos,G,h=>by
  unfold chkts at h;split at h
  . rw[Oa]at h;refine(ZsM (tst_ok t G h.1) (tand_ok ts G h.2)).imp λZ H Q ⟨S,h,B,rh,rs,f⟩=>⟨S,h,B,rh,rs,Fin.bind (show Fin Y _ H B ((tst T t S h).bind λc h1=>if c then tstAnd T ts S h1 else .ok WA h1) Q E from f) λd h1 x H1 μ1 er g rh1 rd f1=>?_⟩
    subst rd;cases d with
    |true=>exact ZkQ ⟨S,h1,μ1,rh1,rs.mono rh g,f1⟩
    |false=>exact ZkR (Fin.ok f1 rh1 rfl)
  . cases h
theorem tor_ok:∀(e:Txs) {Γ:Gm}{X:Cx}{E:XK}{k:Nat}{x:List Expr}{pos:Pos},Gd T Γ X Y E k->chkts Γ e x=Wz->PW X (.BoolOp .Or x pos) (ZnD T Y E (.ors e))
 |.one t,Γ,X,E,k,x,pos,G,h=>by
  unfold chkts at h;split at h
  . exact(ZsL (tst_ok t G h)).imp λZ H Q q=>q
  . cases h
 |.cons t ts,Γ,X,E,k,x,pos,G,h=>by
  unfold chkts at h;split at h
  . rw[Oa]at h;refine(Zu6 (tst_ok t G h.1) (tor_ok ts G h.2)).imp λZ H Q ⟨S,h,B,rh,rs,f⟩=>⟨S,h,B,rh,rs,Fin.bind (show Fin Y _ H B ((tst T t S h).bind λc h1=>if c then .ok Wz h1 else tstOr T ts S h1) Q E from f) λd h1 x H1 μ1 er g rh1 rd f1=>?_⟩
    subst rd;cases d with
    |true=>exact ZkQ (Fin.ok f1 rh1 rfl)
    |false=>exact ZkR ⟨S,h1,μ1,rh1,rs.mono rh g,f1⟩
  . cases h
theorem ifs_ok:∀(c:Option Tx) {Γ:Gm}{X:Cx}{E:XK}{k:Nat}{x:List Expr},Gd T Γ X Y E k->chkf Γ c x=Wz->PIf X x (λZ H Q=>∃S h B,RH Y H B h/\RS Y H B S Z/\Fin Y (λ_ _ (a b:Bool)=>a=b) H B (tsto T c S h) Q E)
 |none,Γ,X,E,k,x,G,h=>by
  unfold chkf at h;cases x with
  |nil=>intro pins s Z H Q I ⟨S,h,B,rh,rs,f⟩;exact Zqp pins s Z H Q I (Fin.ok (show Fin Y (λ_ _ (a b:Bool)=>a=b) H B (.ok Wz h) Q E from f) rh rfl)
  |cons a b=>cases h
 |some t,Γ,X,E,k,x,G,h=>by
  unfold chkf at h;split at h
  . exact Zqo (tst_ok t G h)
  . cases h
theorem evi_ok:∀(e:Ix) {Γ:Gm}{X:Cx}{E:XK}{k:Nat}{x tg:Expr},Gd T Γ X Y E k->chki Γ e tg x=Wz->PI X tg x (ZwN T Y E e)
 |.pl e,Γ,X,E,k,x,tg,G,h=>by
  unfold chki at h;refine(ZsW (Zo e G h)).imp λZ H Q ⟨S,h,B,rh,rs,f⟩=>⟨S,h,B,rh,rs,Fin.bind (show Fin Y _ H B ((ev T e S h).bind λx h1=>R.ofO (Zar x h1) h1) Q E from f) λd h1 x H1 μ1 er g rh1 rd f1=>?_⟩
  obtain⟨w,ew,f1⟩:=f1.ofO;exact ZpF G.gk.K rh1 rd ew λJ wj=>f1.ok rh1 wj
 |.rng e,Γ,X,E,k,x,tg,G,h=>by
  unfold chki at h;split at h
  . rw[Oa,Oa,Oa]at h;obtain⟨⟨⟨h1,h2⟩,h3⟩,h4⟩:=h;have e1:=of_decide_eq_true h1;subst e1;refine(Zmz (G.gl h2).1 (G.blt _ (by decide)) (Zeq (Zo e G h3) Zf9 (Zq X.env h4)) (Zq X.env h4)).imp λZ H Q ⟨S,h,B,rh,rs,f⟩=>⟨S,h,B,rh,rs,Fin.bind f λd h1 x H1 μ1 er g rh1 rd f1=>?_⟩
    cases rd with
    |int j=>obtain⟨hz,f1⟩:=Fin.iff (show Fin Y (WJ Y) H1 μ1 (if Zap j=Wz then .ok ⟨Wy,ZG 0 j.toNat⟩ h1 else .bad) Q E from f1);unfold Zap at hz;rw[Oa]at hz;exact⟨j,rfl,of_decide_eq_true hz.1,of_decide_eq_true hz.2,f1.ok rh1 Zsb⟩
    |_=>exact f1.elim
  . cases h
 |.rng2 a b,Γ,X,E,k,x,tg,G,h=>by unfold chki at h;cases h
 |.enu e,Γ,X,E,k,x,tg,G,h=>by
  unfold chki at h;split at h
  . rw[Oa,Oa,Oa,Oa]at h;obtain⟨⟨⟨⟨h1,h2⟩,h3⟩,h4⟩,h5⟩:=h;have e1:=of_decide_eq_true h1;subst e1;have:∃es kk tp,tg=.Tuple es kk tp:=by cases tg<;>first|exact⟨_,_,_,rfl⟩|cases h5
    obtain⟨es,kk,tp,rfl⟩:=this;refine(Zqr (G.gl h2).1 (G.blt _ (by decide)) (Zeq (Zo e G h3) Zf9 (Zq X.env h4)) (Zq X.env h4)).imp λZ H Q ⟨S,h,B,rh,rs,f⟩=>⟨S,h,B,rh,rs,Fin.bind f λd h1 x H1 μ1 er g rh1 rd f1=>?_⟩
    obtain⟨w,ew,f1⟩:=f1.ofO;obtain⟨w0,ew0,rfl⟩:=Oo.mp ew;cases d with
    |ro xs=>
     cases ew0;cases rd with
     |ro t s=>refine⟨_,rfl,⟨_,G.gk.K ▸ t.sq⟩,f1.ok rh1 (Zlp (ZrA G.gk.K rh1 t s) λH2 μ2 h2 g2 rh2 st=>⟨_,G.gk.K ▸ (g2.rdF rh1 t).sq,s.mono rh1 g2⟩)⟩
    |ref i=>
     unfold Zlq at ew0;simp only at ew0;split at ew0
     . rename_i xs hi;cases ew0;obtain⟨a,vs,rfl,hm,hl,s⟩:=rd.lst rh1 hi;refine⟨a,rfl,⟨vs,.of hl⟩,f1.ok rh1 (Zlp (Zng hm) λH2 μ2 h2 g2 rh2 st=>?_)⟩;obtain⟨vs2,hl2,s2⟩:=rh2.ob i _ a (ZfL st) (g2.pre i a hm);exact⟨vs2,.of hl2,s2⟩
     . cases ew0
    |_=>cases ew0
  . cases h
 |.rev e,Γ,X,E,k,x,tg,G,h=>by
  unfold chki at h;split at h
  . rw[Oa,Oa,Oa]at h;obtain⟨⟨⟨h1,h2⟩,h3⟩,h4⟩:=h;have e1:=of_decide_eq_true h1;subst e1;refine(Zqq (G.gl h2).1 (G.blt _ (by decide)) (Zeq (Zo e G h3) Zf9 (Zq X.env h4)) (Zq X.env h4)).imp λZ H Q ⟨S,h,B,rh,rs,f⟩=>⟨S,h,B,rh,rs,Fin.bind f λd h1 x H1 μ1 er g rh1 rd f1=>?_⟩
    obtain⟨w,ew,f1⟩:=f1.ofO;obtain⟨w0,ew0,rfl⟩:=Oo.mp ew;cases d with
    |tup xs=>cases ew0;obtain⟨a,vs,rfl,t,s⟩:=rd.tup_inv;exact⟨a,vs,rfl,.inl ⟨G.gk.K ▸ t,f1.ok rh1 (Zsc G.gk.K rh1 t s)⟩⟩
    |ref i=>
     unfold ZfF at ew0;simp only at ew0;split at ew0
     . rename_i xs ex;cases ew0;obtain⟨a,vs,rfl,hi,hl,s⟩:=rd.lst rh1 ex;exact⟨a,vs,rfl,.inr ⟨.of hl,by rw[<- s.length];exact f1.ok rh1 (ZpB hi)⟩⟩
     . cases ew0
    |_=>cases ew0
  . cases h
 |.en1 e,Γ,X,E,k,x,tg,G,h=>by
  unfold chki at h;split at h
  . rw[Oa,Oa,Oa,Oa,Oa]at h;obtain⟨⟨⟨⟨⟨h1,h0⟩,h2⟩,h3⟩,h4⟩,h5⟩:=h;have e1:=of_decide_eq_true h1;have e0:=of_decide_eq_true h0;subst e1 e0;have:∃es kk tp,tg=.Tuple es kk tp:=by cases tg<;>first|exact⟨_,_,_,rfl⟩|cases h5
    obtain⟨es,kk,tp,rfl⟩:=this;refine(ZsV (G.gl h2).1 (G.blt _ (by decide)) (Zo e G h3) Zn9 (Zq X.env h4)).imp λZ H Q ⟨S,h,B,rh,rs,f⟩=>⟨S,h,B,rh,rs,Fin.bind f λd h1 x H1 μ1 er g rh1 rd f1=>?_⟩
    cases d with
    |tup xs=>obtain⟨a,vs,rfl,t,s⟩:=rd.tup_inv;exact⟨a,rfl,rfl,⟨vs,G.gk.K ▸ t⟩,f1.ok rh1 (Zsd G.gk.K rh1 t s)⟩
    |_=>exact f1.elim
  . cases h
 |.en0 e,Γ,X,E,k,x,tg,G,h=>by unfold chki at h;cases h
 |.dk e,Γ,X,E,k,x,tg,G,h=>by unfold chki at h;exact(Zu8 (Zo e G h)).imp λZ H Q ⟨S,h,B,rh,rs,f⟩=>⟨S,h,B,rh,rs,Fin.bind f λd h1 x H1 μ1 er g rh1 rd f1=>ZtR rh1 rd f1⟩
theorem pairs_ok:∀(ps:Exs) {Γ:Gm}{X:Cx}{E:XK}{k:Nat}{ks:List (Option Expr)}{vs:List Expr}{pos:Pos},Gd T Γ X Y E k->chkp Γ ps ks vs=Wz->PPs X pos ks vs (Zlv T Y E ps)/\ks.all (·.isSome)=Wz/\ks.length=vs.length
 |.nil,Γ,X,E,k,ks,vs,pos,G,h=>by
  unfold chkp at h;rw[Oa]at h;cases ks with
  |nil=>cases vs with
   |nil=>exact⟨Zql,rfl,rfl⟩
   |cons a b=>cases h.2
  |cons a b=>cases h.1
 |.cons e r,Γ,X,E,k,ks,vs,pos,G,h=>by
  cases r with
  |nil=>unfold chkp at h;cases h
  |cons v r'=>
   unfold chkp at h;simp only at h;split at h
   . rw[Oa,Oa]at h;obtain⟨p1,p2,p3⟩:=pairs_ok r' (pos:=pos) G h.2;refine⟨ZnZ (Zo e G h.1.1) (Zo v G h.1.2) p1,?_,?_⟩
     . rw[List.all_cons,p2];rfl
     . rw[Os,Os,p3]
   . cases h
end
end IV
end
section
namespace IV
open PySem PySem.Spec PyProof.Rows L2
noncomputable def Zes:Expr->Bool
 |.ListComp _ _ _ _|.SetComp _ _ _ _|.DictComp _ _ _ _ _=>WA
 |_=>Wz
noncomputable def Zok:Expr->Bool
 |.Tuple _ _ _=>WA
 |_=>Wz
noncomputable def Zjm:Expr->Expr->Bool
 |.Name _ _,.ListComp _ _ _ _=>Wz
 |_,_=>WA
noncomputable def Zrp(Γ:Gm)(C:Str)(e:Expr):Bool:=match asName e with
 |some c=>WB (c=C)&&WB (C∈Γ.kl.xs)&&glb Γ c
 |none=>WA
noncomputable def ZrZ(Γ:Gm)(C:Str)(e:Ex)(x:Expr):Bool:=match x with
 |.Call g as ks _=>Zrp Γ C g&&ks.isEmpty&&chks Γ (.cons e .nil) as
 |_=>WA
noncomputable def Zl9(Γ:Gm)(i:Nat)(e:Ex)(b:List Stmt):Bool:=match b with
 |[s]=>match s with
  |.Assign ts x _=>(match ts with
   |[g]=>Zk4 Γ.N (ownD Γ.sc) (.nm i) g
   |_=>WA)&&chk Γ e x
  |_=>WA
 |_=>WA
noncomputable def ZrY(Γ:Gm)(i:Nat)(C:Str)(hs:List ExceptHandler):Bool:=match hs with
 |[.ExceptHandler (Wx t) Wy b _]=>Zrp Γ C t&&Zl9 Γ i (.cst .non) b
 |_=>WA
def Zl8(h:Zrp Γ C e=Wz):(∃p,e=.Name C p)/\C∈Γ.kl.xs/\glb Γ C=Wz:=by
 unfold Zrp at h;cases q:asName e with
 |none=>rw[q]at h;cases h
 |some c=>rw[q]at h;rw[Oa,Oa]at h;obtain⟨p,rfl⟩:=Zee q;have e:=of_decide_eq_true h.1.1;subst e;exact⟨⟨p,rfl⟩,of_decide_eq_true h.1.2,h.2⟩
def ZjJ(h:Zl9 Γ i e b=Wz):∃n p x q,b=[.Assign [.Name n p] x q]/\Γ.N[i]? = Wx n/\ownD Γ.sc n=Wz/\chk Γ e x=Wz:=by
 unfold Zl9 at h;cases b with
 |nil=>cases h
 |cons s r=>
  cases r with
  |cons _ _=>cases h
  |nil=>
   cases s with
   |Assign ts x q=>
    simp only[Oa]at h;obtain⟨h1,h2⟩:=h;cases ts with
    |nil=>cases h1
    |cons g r=>
     cases r with
     |cons _ _=>cases h1
     |nil=>obtain⟨n,p,rfl,e1,e2⟩:=Za4 h1;exact⟨n,p,x,q,rfl,e1,e2,h2⟩
   |_=>cases h
mutual
noncomputable def Zdo(Γ:Gm):Sx->Stmt->Bool
 |.ret e,s=>match s with
  |.Return (Wx x) _=>chk Γ e x
  |_=>WA
 |.set g e,s=>match s with
  |.Assign [tg] x _=>Zk4 Γ.N (ownD Γ.sc) g tg&&chk Γ e x&&((Zes x&&(!isTup tg || Zok x)) || Zjm tg x)
  |_=>WA
 |.put o i e,s=>match s with
  |.Assign [.Subscript xo xi _] x _=>chk Γ o xo&&chk Γ i xi&&chk Γ e x&&Zgc xi&&Zes x
  |_=>WA
 |.aug i op e,s=>match s with
  |.AugAssign (.Name y _) op' x _=>WB (op=.Add)&&WB (op'=.Add)&&WB (Γ.N[i]? = Wx y)&&ownD Γ.sc y&&chk Γ e x
  |_=>WA
 |.drp e,s=>match s with
  |.Expr x _=>chk Γ e x&&Zes x
  |_=>WA
 |.iff c a b,s=>match s with
  |.If t xs ys _=>chkt Γ c t&&chkSs Γ a xs&&chkSs Γ b ys
  |_=>WA
 |.whl c b,s=>match s with
  |.While t xs [] _=>chkt Γ c t&&chkSs Γ b xs
  |_=>WA
 |.forr g it b,s=>match s with
  |.For tg x xs [] _=>chki Γ it tg x&&ZeO x&&Zk4 Γ.N (ownD Γ.sc) g tg&&chkSs Γ b xs
  |_=>WA
 |.pas,s=>match s with
  |.Pass _=>Wz
  |_=>WA
 |.brk,s=>match s with
  |.Break _=>Wz
  |_=>WA
 |.cnt,s=>match s with
  |.Continue _=>Wz
  |_=>WA
 |.seta Cs o f e,s=>match s with
  |.Assign [.Attribute xo n _] x _=>WB (n=f)&&chk Γ o xo&&chk Γ e x&&Zes x&&(Cs.all λC=>WB (C∈Γ.kl.cs))&&WB (f∈Γ.kl.ats)
  |_=>WA
 |.auga Cs o f e,s=>match s with
  |.AugAssign (.Attribute xo n _) op x _=>WB (op=.Add)&&WB (n=f)&&chk Γ o xo&&chk Γ e x&&(Cs.all λC=>WB (C∈Γ.kl.cs))&&WB (f∈Γ.kl.ats)
  |_=>WA
 |.any,_=>Wz
 |.rai C e,s=>match s with
  |.Raise (Wx x) Wy _=>ZrZ Γ C e x
  |_=>WA
 |.trs i f es C,s=>match s with
  |.Try b hs o q _=>o.isEmpty&&q.isEmpty&&Zl9 Γ i (.call f es) b&&ZrY Γ i C hs
  |_=>WA
noncomputable def chkSs(Γ:Gm):Sxs->List Stmt->Bool
 |.nil,ss=>ss.isEmpty
 |.cons s r,ss=>match ss with
  |x::xs=>Zdo Γ s x&&chkSs Γ r xs
  |[]=>WA
end
def ZE(Y:Yx)(H:Hp)(B:List Yi)(r:R (Fl×Ev))(D:Ends)(E:XK):Prop:=match r with
 |.bad=>False
 |.ok p h'=>∀H' μ',Gr H B H' μ'->RH Y H' μ' h'->match p.1 with
  |.nx=>∀σ',RS Y H' μ' p.2 σ'->D.nx σ' H'
  |.bk=>∀σ',RS Y H' μ' p.2 σ'->D.bk σ' H'
  |.ct=>∀σ',RS Y H' μ' p.2 σ'->D.ct σ' H'
  |.rt d=>∀v,RD Y H' μ' d v->D.rt v H'
 |.exc c h'=>∀H' μ' C,Gr H B H' μ'->RH Y H' μ' h'->Y.mg c=Wx (.ref C)->E (.ref C) Wy H'
section
variable {Y:Yx}{α β:Type}{rel:Hp->List Yi->α->β->Prop}{H H1:Hp}{B μ1:List Yi}{E:XK}{D:Ends}
def ZE.mono(g:Gr H B H1 μ1)(f:ZE Y H B r D E):ZE Y H1 μ1 r D E:=by
 cases r with
 |bad=>exact f
 |ok a h=>exact λH' μ' g'=>f H' μ' (g.trans g')
 |exc c h=>exact λH' μ' C g'=>f H' μ' C (g.trans g')
theorem ZE.bind(f:ZE Y H B (r.bind k) D E)
 (hk:∀a h1 b H1 μ1,r=.ok a h1->Gr H B H1 μ1->RH Y H1 μ1 h1->rel H1 μ1 a b->ZE Y H1 μ1 (k a h1) D E->Q1 b H1):Fin Y rel H B r Q1 E:=by
 cases r with
 |bad=>exact f
 |ok a h=>exact λb H' μ' g' rh rl=>hk a h b H' μ' rfl g' rh rl (ZE.mono g' f)
 |exc c h=>exact f
theorem ZE.ofO(f:ZE Y H B ((R.ofO o h).bind k) D E):∃a,o=Wx a/\ZE Y H B (k a h) D E:=by
 cases o with
 |none=>exact f.elim
 |some a=>exact⟨a,rfl,f⟩
theorem ZE.nx(f:ZE Y H B (.ok (.nx,S) h) D E)(rh:RH Y H B h)(rs:RS Y H B S Z):D.nx Z H:=f H B Gr.refl rh Z rs
def ZE.part(f:ZE Y H B (r.bind k) D E)
 (hk:∀p h1 H1 μ1,r=.ok p h1->Gr H B H1 μ1->RH Y H1 μ1 h1->ZE Y H1 μ1 (k p h1) D E->match p.1 with
  |.nx=>∀σ',RS Y H1 μ1 p.2 σ'->D1.nx σ' H1
  |.bk=>∀σ',RS Y H1 μ1 p.2 σ'->D1.bk σ' H1
  |.ct=>∀σ',RS Y H1 μ1 p.2 σ'->D1.ct σ' H1
  |.rt d=>∀v,RD Y H1 μ1 d v->D1.rt v H1):ZE Y H B r D1 E:=by
 cases r with
 |bad=>exact f
 |ok p h=>exact λH' μ' g' rh=>hk p h H' μ' rfl g' rh (ZE.mono g' f)
 |exc c h=>exact f
end
noncomputable def ZuP(T:Tb)(Y:Yx)(E:XK)(s:Sx):TS:=λD Z H=>∃S h B,RH Y H B h/\RS Y H B S Z/\ZE Y H B (xs1 T s S h) D E
noncomputable def ZrH(T:Tb)(Y:Yx)(E:XK)(s:Sxs):TS:=λD Z H=>∃S h B,RH Y H B h/\RS Y H B S Z/\ZE Y H B (xs2 T s S h) D E
def _root_.L2.PS.imp(h:PS X s t)(i:∀D Z H,t' D Z H->t D Z H):PS X s t':=λpins s Z H D I q=>h pins s Z H D I (i D Z H q)
def _root_.L2.PSs.imp(h:PSs X s t)(i:∀D Z H,t' D Z H->t D Z H):PSs X s t':=λpins s Z H D I q=>h pins s Z H D I (i D Z H q)
structure XOk(K:Yk)(a:Yi):Prop extends ExcN K a where
 own:PySem.W.excIn K a [.type "ValueError",.type "Exception",.type "BaseException",.type "object"] "ValueError.__new__" = Wz
 sub:YV K (.ref a) (.ref a)=Wx Wz
structure GdS(T:Tb)(Γ:Gm)(X:Cx)(Y:Yx)(E:XK)(k:Nat):Prop extends Gd T Γ X Y E k where
 top:Γ.top=Wz
 fnt:∀x,X.fn x=Wz
 own:PassesOwn (model X.prog X.w) X.A X.env X.xe
 bk:X.env.blockKind=.function
 rz:Ziw X E
 stk:X.stack=X.env::X.outer
 frm:X.env.frame=Wx X.env.locals
 xcs:∀C∈Γ.kl.xs,∃a,X.mg C=Wx (.ref a)/\XOk X.K a
theorem GdS.ownD(G:GdS T Γ X Y E k):∀x,ownD Γ.sc x=Wz->Loc X.env.scope x/\(X.fn x=Wz\/X.env.scope.names.lookup x=Wx .local):=by intro x h;refine⟨?_,.inl (G.fnt x)⟩;unfold IV.ownD at h;rw[G.sc G.top];rw[Ww]at h;exact h.imp of_decide_eq_true of_decide_eq_true
def ZdB(h:Zes x=Wz):swapsWith x t n env=pure WA:=by cases x<;>first|rfl|cases h
def ZeK(h:(!isTup tg || Zok x)=Wz)(hg:∀es p,tg≠.List es p):swappedStores [tg] x env=pure Wy:=by
 cases tg with
 |List es p=>exact absurd rfl (hg es p)
 |Tuple es k p=>cases x<;>first|rfl|cases h
 |_=>rfl
def ZnC(G:GdS T Γ X Y E k)
 (hi:Γ.N[i]? = Wx y) (ho:ownD Γ.sc y=Wz) (h:chk Γ e (.ListComp elt gs scope pos)=Wz):PS X (.Assign [.Name y py] (.ListComp elt gs scope pos) spos) (Znu (ZbQ T Y E e) (Zdg i)):=by
 obtain⟨o1,o2⟩:=G.ownD y ho;have hy:X.N[i]? = Wx y:=by rw[G.N];exact hi
 by_cases sw:swapsWith (.ListComp elt gs scope pos) (Wx (.Name y py)) spos.line X.env=pure Wz
 . cases e with
   |comp NC js it g c e=>
    unfold chk at h;split at h
    . rename_i heq;cases heq;rw[Oa,Oa,Oa,Oa,Oa,Oa,Oa]at h;obtain⟨⟨⟨⟨⟨⟨⟨h0,h1⟩,h2⟩,h3⟩,h4⟩,h5⟩,h6⟩,h7⟩:=h;have S_:=ZjD h1;rw[<- G.N,<- G.sc h0]at S_;have Gc:=λ(pins:List (Yi×Obj)) (Z:L2.St) (C:Yi) (s3:Yb) (H3:Hp) (fp:List Yi) (i3:Inv X pins Z H3 s3) (j3:∀b∈fp,Zbt X pins H3 b) (k3:C=s3.heap.objs.size)=>G.toGd.comp NC scope C s3 H3 fp S_.nd (G.passC h0 pins Z NC scope C s3 H3 fp i3 j3 k3);rw[OC]at h5;refine(Zke (g:=tgR X.K g) (tc:=λZ H Q=>∃S h B,RH Y H B h/\RS Y H B S Z/\Fin Y (λ_ _ (a b:Bool)=>a=b) H B (tsto T c S h) Q E) (te:=ZbQ T Y E e) G.nd hy o1 o2 S_ rfl G.calm (evi_ok it G.toGd h2) (λpins Z C s3 H3 fp i3 j3 k3=>⟨ZlJ rfl S_.nd rfl (λx hx=>?_) h4,?_,Zo e (Gc pins Z C s3 H3 fp i3 j3 k3) h7⟩) (ZuA X.K g) (λj hj=>of_decide_eq_true (h5 j (List.mem_range.mpr hj))) (Zj8 X.env h3) sw).imp
       λD Z H q=>?_
      . have hl:=of_decide_eq_true hx;have:(relabel scope X.env).names.lookup x=Wx .local:=by rw[ZaH,hl];rfl
        exact⟨.inl this,.inr this⟩
      . exact ifs_ok c (Gc pins Z C s3 H3 fp i3 j3 k3) h6
      . obtain⟨S,h,B,rh,rs,f⟩:=q;exact⟨S,h,B,rh,rs,Fin.bind f λw h1 J H1 μ1 _ g1 rh1 wj f1 D hD=>Zl6 G.gk.K (λ_ _ _ z=>z) rh1 (rs.mono rh g1) wj f1 hD⟩
    . cases h
   |cst d=>cases d<;>(unfold chk Zm6 at h;cases h)
   |any=>exact λpins s Z H D I ⟨S,h,B,rh,rs,f⟩=>f.elim
   |_=>unfold chk at h;cases h
 . refine Zkf G.nd hy o1 (Zo e G.toGd h) ?_ o2;have e1:swapsWith (.ListComp elt gs scope pos) (Wx (.Name y py)) spos.line X.env=pure (X.env.blockKind==.function&&X.env.kindOf y==Wx .local&&py.line==pos.line&&!(scope.names.any λ(n,k)=>n==y&&(k==.local || k==.cell))):=rfl;cases q:(X.env.blockKind==.function&&X.env.kindOf y==Wx .local&&py.line==pos.line&&!(scope.names.any λ(n,k)=>n==y&&(k==.local || k==.cell)))with
   |true=>rw[q]at e1;exact absurd e1 sw
   |false=>rw[q]at e1;exact e1
def Zt9{T:Tb}(G:Gd T Γ X Y E k)(hc:(Cs.all λC=>WB (C∈Γ.kl.cs))=Wz)(hf:f∈Γ.kl.ats){D:Ends}(rh1:RH Y H1 μ1 h1)(rs1:RS Y H1 μ1 S Z)(rd:RD Y H1 μ1 d x)
 (f1:ZE Y H1 μ1 ((ZgS Cs f d h1).bind λv h2=>(ev T e S h2).bind λy h3=>match v,y with
  |.int a,.int b=>if (ZX d h1).map (·.1)=(ZX d h3).map (·.1)then(ZhI Cs f d (.int (a+b)) h3).bind λ_ h4=>.ok (.nx,S) h4 else .bad
  |_,_=>.bad) D E) :
 ∃a C dx fs v,x=.ref a/\H1 a=Wx (.ins C dx fs)/\Cls X.K C/\ZaV X.K C f/\fs.lookup f=Wx v /\
  ZbQ T Y E e Z H1 λy H2=>Zu5 v y H2 λz H3=>∃dx' fs',H3 a=Wx (.ins C dx' fs')/\fs'.length<1000/\D.nx Z (upd H3 a (.ins C dx' (Zb6 f z fs'))):=by
 unfold ZgS at f1;cases ei:ZX d h1 with
 |none=>rw[ei]at f1;exact f1.elim
 |some p=>
  obtain⟨C,fs⟩:=p;rw[ei]at f1;simp only at f1;by_cases hC:C∈Cs
  . rw[if_pos hC]at f1;obtain⟨w,e1,f1⟩:=f1.ofO;obtain⟨i,a,Ca,dx,gs,rfl,rfl,q,hi,z,m,s⟩:=Zgq rh1 rd ei;obtain⟨v,l,rv⟩:=(s.look (f:=f)).1 w e1;have hc':=hc;rw[OC]at hc';obtain⟨Ca',m',cl,na⟩:=G.cls C (of_decide_eq_true (hc' C hC));have m0:=m;rw[G.gk.mg,m']at m;cases m;refine⟨a,Ca,dx,gs,v,rfl,z,cl,na f hf,l,S,h1,μ1,rh1,rs1,ZE.bind f1 λy h3 u H3 μ3 _ g3 rh3 ry f3=>?_⟩;cases w with
    |int p=>
     cases y with
     |int r=>
      cases rv;cases ry;refine⟨p,r,rfl,rfl,?_⟩;simp only at f3;by_cases hk:Option.map (·.1) (Wx (C,fs))=(ZX (.ref i) h3).map (·.1)
      . rw[if_pos hk]at f3;obtain⟨a',C',dx',fs',e4,z',_,_,l',nx⟩:=ZnB (Q:=λ_ H'=>D.nx Z H') G hc hf rh3 (rd.mono rh1 g3) (.int _) (ZE.bind f3 λ_ h4 _ H4 μ4 _ g4 rh4 _ f4=>f4.nx rh4 ((rs1.mono rh1 g3).mono rh3 g4));cases e4;cases e5:ZX (.ref i) h3 with
        |none=>rw[e5]at hk;cases hk
        |some p3=>obtain⟨C3,fs3⟩:=p3;rw[e5]at hk;cases hk;obtain⟨i3,a3,Ca3,dx3,gs3,e6,e7,_,_,z3,m3,_⟩:=Zgq rh3 (rd.mono rh1 g3) e5;cases e7;rw[m0]at m3;cases m3;rw[z']at z3;cases z3;exact⟨dx',fs',z',l',nx⟩
      . rw[if_neg hk]at f3;exact f3.elim
     |_=>exact f3.elim
    |_=>exact f3.elim
  . rw[if_neg hC]at f1;exact f1.elim
theorem _root_.IV.Gd.nox(G:Gd T Γ X Y E k):Gd T Γ X.nox Y E0 k:=⟨⟨G.gk.K,G.gk.mg,G.gk.gd,G.gk.g,G.gk.bare⟩,G.N,G.sc,G.vis,G.glo,G.nd,G.calm,G.room,G.h60,Zhd,G.defs,G.blt,G.room1,λ_ _ _ _ _ _ _ _ _ _ _ _=>Zhd,G.cls,G.mts,G.mks⟩
def Znf(f:Fin Y rel H B r.plain Q E):Fin Y rel H B r Q E0:=by
 cases r with
 |bad=>exact f.elim
 |ok a h=>exact f
 |exc c h=>exact f.elim
def Ztj(hN:X.N.Nodup)(hi:X.N[i]? = Wx n)(hx:Loc X.env.scope n)(hf:X.fn n=Wz\/X.env.scope.names.lookup n=Wx .local)(hv:chk Γ (.cst .non) v=Wz):
 PSs (cxH X a oe) [.Assign [.Name n px] v pos] (λD Z H=>D.nx (Z.set i (Wx .non)) H):=by
 unfold chk Zm6 at hv;split at hv
 . rename_i c q;obtain⟨k,p,rfl⟩:=Zhy q;cases c with
   |none=>exact(Zqh (Zkf (X:=cxH X a oe) hN hi hx Zn6 rfl hf)).imp λD Z H q=>q
   |_=>cases hv
 . cases hv
mutual
theorem ZuN:∀ (s:Sx) {Γ:Gm}{X:Cx}{E:XK}{k:Nat}{x:Stmt},GdS T Γ X Y E k->Zdo Γ s x=Wz->PS X x (ZuP T Y E s)
 | .ret e,Γ,X,E,k,x,G,h=>by
   unfold Zdo at h;split at h
   . exact (ZsP (Zo e G.toGd h)).imp fun D Z H ⟨S,h,B,rh,rs,f⟩=>⟨S,h,B,rh,rs,ZE.bind f fun d h1 v H1 μ1 _ g rh1 rd f1=>f1 H1 μ1 Gr.refl rh1 v rd⟩
   . cases h
 | .set g e,Γ,X,E,k,x,G,h=>by
   unfold Zdo at h;split at h
   . rename_i tg xe pos;rw [Oa,Oa] at h;obtain ⟨⟨h1,h2⟩,h3⟩:=h;have fin:∀ {D:Ends}{Z:L2.St}{H:Hp},ZuP T Y E (.set g e) D Z H->Znu (ZbQ T Y E e) (tgR X.K g) D Z H:=fun {D Z H} ⟨S,h,B,rh,rs,f⟩=>⟨S,h,B,rh,rs,ZE.bind f fun d h1 v H1 μ1 _ g1 rh1 rd f1=>by
       obtain ⟨ρ1,eb,f1⟩:=f1.ofO;exact Zil G.gk.K rd (rs.mono rh g1) eb fun σ1 rs1=>f1.nx rh1 rs1⟩
     rw [Ww,Oa] at h3;have pg:=ZlJ (X:=X) G.N G.nd G.calm G.ownD h1;rcases h3 with ⟨h3,h4⟩|h3
     . cases g with
       | nm i =>
         obtain ⟨y,py,rfl,e1,e2⟩:=Za4 (show Zi3 Γ.N (ownD Γ.sc) i tg=Wz from h1);obtain ⟨o1,o2⟩:=G.ownD y e2;exact (Zkf G.nd (by rw [G.N];exact e1) o1 (Zo e G.toGd h2) (ZdB h3) o2).imp fun D Z H q=>fin q
       | two i j =>
         obtain ⟨x,p,y,q,k,r,rfl,_⟩:=ZhC h1;exact (Zkg (pos:=pos) (Zo e G.toGd h2) pg (by unfold swapsWithSole;exact ZdB h3) (ZeK h4 (fun _ _ z=>by cases z)) rfl).imp fun D Z H q=>fin q
       | many is =>
         obtain ⟨es,k,r,rfl,_⟩:=Zgg h1;exact (Zkg (pos:=pos) (Zo e G.toGd h2) pg (by unfold swapsWithSole;exact ZdB h3) (ZeK h4 (fun _ _ z=>by cases z)) rfl).imp fun D Z H q=>fin q
     . unfold Zjm at h3;split at h3
       . rename_i y0 p0 _ _ _ _;cases g with
         | nm i =>
           obtain ⟨y,py,q,e1,e2⟩:=Za4 (show Zi3 Γ.N (ownD Γ.sc) i (.Name y0 p0)=Wz from h1);cases q;exact (ZnC G e1 e2 h2).imp fun D Z H q=>fin q
         | two i j=>obtain ⟨x,p,y,q,k,r,z,_⟩:=ZhC h1;cases z
         | many is=>obtain ⟨es,k,r,z,_⟩:=Zgg h1;cases z
       . cases h3
   . cases h
 | .put o i e,Γ,X,E,k,x,G,h=>by
   unfold Zdo at h;split at h
   . rename_i xo xi p1 xe p2;rw [Oa,Oa,Oa,Oa] at h;obtain ⟨⟨⟨⟨h1,h2⟩,h3⟩,h4⟩,h5⟩:=h;refine (Zkg (pos:=p2) (Zo e G.toGd h3) (ZsX (pos:=p1) (Zo o G.toGd h1) (Zo i G.toGd h2) (ZsN (Y:=Y) (E:=E)) ?_) (by unfold swapsWithSole;exact ZdB h5) (ZeK rfl (fun _ _ z=>by cases z)) rfl).imp fun D Z H ⟨S,h,B,rh,rs,f⟩=>⟨S,h,B,rh,rs,ZE.bind f fun d h1 v H1 μ1 _ g1 rh1 rd f1 =>
       ⟨S,h1,μ1,rh1,rs.mono rh g1,f1.bind fun d2 h2 v2 H2 μ2 _ g2 rh2 rd2 f2=>⟨S,h2,μ2,rh2,(rs.mono rh g1).mono rh1 g2,f2.bind fun d3 h3 v3 H3 μ3 _ g3 rh3 rd3 f3 =>
         ⟨d2,d3,d,h3,μ3,rh3,rd2.mono rh2 g3,rd3,(rd.mono rh1 g2).mono rh2 g3,f3.bind fun _ h4 _ H4 μ4 _ g4 rh4 _ f4=>f4.nx rh4 ((((rs.mono rh g1).mono rh1 g2).mono rh2 g3).mono rh3 g4)⟩⟩⟩⟩
     cases xi<;>first|(intro _;rfl)|cases h4
   . cases h
 | .aug i op e,Γ,X,E,k,x,G,h=>by
   unfold Zdo at h;split at h
   . rw [Oa,Oa,Oa,Oa] at h;obtain ⟨⟨⟨⟨h1,h2⟩,h3⟩,h4⟩,h5⟩:=h;have e1:=of_decide_eq_true h1;have e2:=of_decide_eq_true h2;subst e1 e2;obtain ⟨o1,o2⟩:=G.ownD _ h4;refine (ZsS G.nd (by rw [G.N];exact of_decide_eq_true h3) o1 (Zo e G.toGd h5) ZtM o2).imp fun D Z H ⟨S,h,B,rh,rs,f⟩=>?_;obtain ⟨d,ed,f⟩:=ZE.ofO f;obtain ⟨v,ev,rd⟩:=rs.var ed;refine ⟨v,ev,S,h,B,rh,rs,ZE.bind f fun d2 h2 v2 H2 μ2 _ g2 rh2 rd2 f2=>?_⟩;cases rd with
     | int a =>
       cases rd2 with
       | int b=>exact ⟨a,b,rfl,rfl,ZE.nx f2 rh2 ((rs.mono rh g2).set (.int _))⟩
       | _=>exact f2.elim
     | _=>exact f2.elim
   . cases h
 | .drp e,Γ,X,E,k,x,G,h=>by
   unfold Zdo at h;split at h
   . rw [Oa] at h;exact (Zqk (Zo e G.toGd h.1) (ZdB h.2)).imp fun D Z H ⟨S,h,B,rh,rs,f⟩=>⟨S,h,B,rh,rs,ZE.bind f fun d h1 v H1 μ1 _ g1 rh1 rd f1=>f1.nx rh1 (rs.mono rh g1)⟩
   . cases h
 | .iff c a b,Γ,X,E,k,x,G,h=>by
   unfold Zdo at h;split at h
   . rw [Oa,Oa] at h;refine (Zu7 (tst_ok c G.toGd h.1.1) (sts_ok a G h.1.2) (sts_ok b G h.2)).imp fun D Z H ⟨S,h,B,rh,rs,f⟩=>⟨S,h,B,rh,rs,ZE.bind f fun t h1 v H1 μ1 _ g1 rh1 rd f1=>?_⟩
     subst rd;cases t with
     | true=>exact ZkQ ⟨S,h1,μ1,rh1,rs.mono rh g1,f1⟩
     | false=>exact ZkR ⟨S,h1,μ1,rh1,rs.mono rh g1,f1⟩
   . cases h
 | .whl c b,Γ,X,E,k,x,G,h=>by
   unfold Zdo at h;split at h
   . rw [Oa] at h;refine (ZnW G.own (tst_ok c G.toGd h.1) (sts_ok b G h.2)).imp fun D Z H ⟨S,h,B,rh,rs,f⟩=>?_;refine ⟨fun m Z H=>∃ S h B,RH Y H B h/\RS Y H B S Z/\ZE Y H B (ZO (tst T c) (xs2 T b) m S h) D E,⟨T.L,S,h,B,rh,rs,f⟩,?_⟩;rintro m Z H ⟨S,h,B,rh,rs,f⟩;cases m with
     | zero=>exact f.elim
     | succ m =>
       refine ⟨S,h,B,rh,rs,ZE.bind f fun t h1 v H1 μ1 _ g1 rh1 rd f1=>?_⟩;subst rd;cases t with
       | false=>exact ZkR (ZE.nx f1 rh1 (rs.mono rh g1))
       | true =>
         refine ZkQ ⟨fun σ' H'=>∃ S h B,RH Y H' B h/\RS Y H' B S σ'/\ZE Y H' B (ZO (tst T c) (xs2 T b) m S h) D E,fun σ' H' q=>⟨m,OH m,q⟩,S,h1,μ1,rh1,rs.mono rh g1,?_⟩;refine ZE.part f1 fun p h2 H2 μ2 _ g2 rh2 f2=>?_;obtain ⟨fl,ρ2⟩:=p;cases fl with
         | nx=>exact fun σ' rs'=>⟨ρ2,h2,μ2,rh2,rs',f2⟩
         | ct=>exact fun σ' rs'=>⟨ρ2,h2,μ2,rh2,rs',f2⟩
         | bk=>exact fun σ' rs'=>ZE.nx f2 rh2 rs'
         | rt d=>exact fun v rv=>f2 H2 μ2 Gr.refl rh2 v rv
   . cases h
 | .forr g it b,Γ,X,E,k,x,G,h=>by
   unfold Zdo at h;split at h
   . rw [Oa,Oa,Oa] at h;obtain ⟨⟨⟨h1,h2⟩,h3⟩,h4⟩:=h;refine (ZsQ G.own G.calm (evi_ok it G.toGd h1) (ZlJ (X:=X) G.N G.nd G.calm G.ownD h3) (sts_ok b G h4) (Zj8 X.env h2)).imp fun D Z H ⟨S,h,B,rh,rs,f⟩=>⟨S,h,B,rh,rs,ZE.bind f fun w h1 J H1 μ1 _ g1 rh1 wj f1=>?_⟩
     refine ⟨fun i m Z H=>∃ S h B,i<=w.xs.length/\m=w.xs.length - i/\Gr H1 μ1 H B/\RH Y H B h/\RS Y H B S Z/\ZE Y H B (ZK w.src g (xs2 T b) (w.xs.drop i) S h) D E,⟨w.xs.length,S,h1,μ1,Yy _,by simp,Gr.refl,rh1,rs.mono rh g1,f1⟩,?_⟩;rintro i m Z H ⟨S,h,B,hi,rfl,g0,rh,rs,f⟩;by_cases hlt:i<w.xs.length
     . obtain ⟨d,hd⟩:∃ d,w.xs[i]? = Wx d:=⟨_,Og hlt⟩
       have hdrop:w.xs.drop i=d::w.xs.drop (i+1):=by
         rw [List.drop_eq_getElem_cons hlt];have:=Og hlt;rw [hd] at this;rw [<- YF this]
       rw [hdrop,ZK] at f;by_cases hs:Wk.stays w.src h=Wz
       . rw [if_pos hs] at f;obtain ⟨go,yl⟩:=(wj H B h g0 rh hs).1 i d hd;refine .inr ⟨go,fun σ' H'=>∃ S h B,i+1<=w.xs.length/\Gr H1 μ1 H' B/\RH Y H' B h/\RS Y H' B S σ'/\ZE Y H' B (ZK w.src g (xs2 T b) (w.xs.drop (i+1)) S h) D E,fun σ' H' ⟨S,h,B,q1,q2,q3,q4,q5⟩=>⟨_,Nat.sub_lt_sub_left hlt (OH i),S,h,B,q1,rfl,q2,q3,q4,q5⟩,fun x H' hy=>?_⟩;obtain ⟨g2,rh2,rx⟩:=yl x H' hy;split at f
         . exact f.elim
         . rename_i ρ1 hb;refine Zil G.gk.K rx (rs.mono rh g2) hb fun σ1 rs1=>⟨ρ1,h,B,rh2,rs1,ZE.part (ZE.mono g2 f) fun p h3 H3 μ3 _ g3 rh3 f3=>?_⟩
           have g03:=(g0.trans g2).trans g3;obtain ⟨fl,ρ2⟩:=p;cases fl with
           | nx=>exact fun σ' rs'=>⟨ρ2,h3,μ3,hlt,g03,rh3,rs',f3⟩
           | ct=>exact fun σ' rs'=>⟨ρ2,h3,μ3,hlt,g03,rh3,rs',f3⟩
           | bk=>exact fun σ' rs'=>ZE.nx f3 rh3 rs'
           | rt d=>exact fun v rv=>f3 H3 μ3 Gr.refl rh3 v rv
       . rw [if_neg hs] at f;exact f.elim
     . have he:i=w.xs.length:=by lia
       subst he;rw [List.drop_eq_nil_of_le (Oq _),ZK] at f;by_cases hs:Wk.stays w.src h=Wz
       . rw [if_pos hs] at f;exact .inl ⟨(wj H B h g0 rh hs).2,ZE.nx f rh rs⟩
       . rw [if_neg hs] at f;exact f.elim
   . cases h
 | .pas,Γ,X,E,k,x,G,h=>by
   unfold Zdo at h;split at h
   . exact Zqj.imp fun D Z H ⟨S,h,B,rh,rs,f⟩=>ZE.nx f rh rs
   . cases h
 | .brk,Γ,X,E,k,x,G,h=>by
   unfold Zdo at h;split at h
   . exact ZnY.imp fun D Z H ⟨S,h,B,rh,rs,f⟩=>f H B Gr.refl rh Z rs
   . cases h
 | .cnt,Γ,X,E,k,x,G,h=>by
   unfold Zdo at h;split at h
   . exact ZiY.imp fun D Z H ⟨S,h,B,rh,rs,f⟩=>f H B Gr.refl rh Z rs
   . cases h
 | .any,Γ,X,E,k,x,G,h=>fun pins s Z H D I ⟨S,h,B,rh,rs,f⟩=>f.elim
 | .rai C e,Γ,X,E,k,x,G,h=>by
   unfold Zdo at h;split at h
   . rename_i x pos;cases x with
     | Call g as ks cp =>
       unfold ZrZ at h;rw [Oa,Oa] at h;obtain ⟨⟨h1,h2⟩,h3⟩:=h;obtain ⟨⟨np,rfl⟩,hx,hg⟩:=Zl8 h1;cases ks with
       | cons _ _=>cases h2
       | nil =>
         cases as with
         | nil=>rw [chks] at h3;cases h3
         | cons y ys =>
           rw [chks,Oa,Oa] at h3;cases ys with
           | cons _ _=>rw [chks] at h3;cases h3.2
           | nil =>
             obtain ⟨ca,m,xo⟩:=G.xcs _ hx;obtain ⟨g1,g2⟩:=G.gl hg;exact (ZnX G.rz G.calm PySem.F.excBase_ValueError g1 m xo.own (Zeq (Zo e G.toGd h3.1.1) Zf9 (Zq X.env h3.1.2)) g2 (Zq X.env h3.1.2) rfl).imp fun D Z H ⟨S,h,B,rh,rs,f⟩=>⟨S,h,B,rh,rs,ZE.bind f fun d h1 v H1 μ1 _ g1 rh1 rd f1 =>
               ⟨by show 1<=sizeLine;decide,f1 H1 μ1 ca Gr.refl rh1 (by rw [G.gk.mg];exact m)⟩⟩
     | _=>cases h
   . cases h
 | .trs i f es C,Γ,X,E,k,x,G,h=>by
   unfold Zdo at h;split at h
   . rename_i b hs o q pos;rw [Oa,Oa,Oa] at h;obtain ⟨⟨⟨h1,h2⟩,h3⟩,h4⟩:=h;cases o with
     | cons _ _=>cases h1
     | nil =>
     cases q with
     | cons _ _=>cases h2
     | nil =>
     obtain ⟨n,px,xe,ap,rfl,hn,hown,h5⟩:=ZjJ h3;unfold ZrY at h4;split at h4
     . rename_i t bd hp;rw [Oa] at h4;obtain ⟨⟨np,rfl⟩,hxs,hg⟩:=Zl8 h4.1;obtain ⟨n',px',v,pos',rfl,hn',_,h11⟩:=ZjJ h4.2;cases hn.symm.trans hn';unfold chk at h5;split at h5
       . rename_i fx p y ys cp;rw [Oa,Oa,Oa] at h5;obtain ⟨⟨⟨h6,h7⟩,h8⟩,h4⟩:=h5;have e1:=of_decide_eq_true h6;subst e1;obtain ⟨ps,hd⟩:=G.defs _ (of_decide_eq_true h7);obtain ⟨g1,g2⟩:=G.gl h8;obtain ⟨c1,c2⟩:=G.gl hg;obtain ⟨ca,m,xo⟩:=G.xcs _ hxs;obtain ⟨o1,o2⟩:=G.ownD _ hown;have hi:X.N[i]? = Wx n:=by rw [G.N];exact hn
         have hs:=h4;have st:Z6 y=Wz:=by
           cases es with
           | nil=>rw [chks] at hs;cases hs
           | cons e r=>rw [chks,Oa,Oa] at hs;exact hs.1.2
         have sp:∀ pos,(YS pos (YA ys X.env)).any (·.1)=WA:=by
           cases es with
           | nil=>rw [chks] at hs;cases hs
           | cons e r=>rw [chks,Oa,Oa] at hs;exact Zbw Γ X.env r ys hs.2
         refine (Zmu hd G.room g1 (evs_ok es G.toGd.nox h4) c1 m xo.toExcN G.nd hi o1 o2 G.stk G.frm (fun a oe=>Ztj G.nd hi o1 o2 h11) g2 c2 (Zq X.env st) (sp _) rfl).imp fun D Z H ⟨S,h,B,rh,rs,f⟩=>⟨S,h,B,rh,rs,Znf (ZE.bind f fun ds h1 vs H1 μ1 _ g1 rh1 rds f1=>⟨ds,h1,μ1,rh1,rds,?_⟩)⟩
         have rs1:=rs.mono rh g1;cases q:T.C fx ds h1 with
         | bad=>rw [q] at f1;exact f1.elim
         | ok w h2 =>
           rw [q] at f1;exact fun b H' μ' g2 rh2 rb=>f1 H' μ' g2 rh2 _ ((rs1.mono rh1 g2).set rb)
         | exc w h2 =>
           rw [q] at f1;unfold ZgB at f1;by_cases e:w=C
           . subst e;simp only [if_true] at f1;intro H' μ' C' g2 rh2 mc;rw [G.gk.mg,m] at mc;cases mc;exact ⟨ca,rfl,xo.sub,fun a oe=>f1 H' μ' g2 rh2 _ ((rs1.mono rh1 g2).set .non)⟩
           . simp only [if_neg e] at f1;exact f1.elim
       . cases h5
     . cases h4
   . cases h
 | .seta Cs o f e,Γ,X,E,k,x,G,h=>by
   unfold Zdo at h;split at h
   . rw [Oa,Oa,Oa,Oa,Oa] at h;obtain ⟨⟨⟨⟨⟨h1,h2⟩,h3⟩,h4⟩,h5⟩,h6⟩:=h;have en:=of_decide_eq_true h1;subst en;exact (ZsR (Zo o G.toGd h2) (Zo e G.toGd h3) (ZdB h4)).imp fun D Z H ⟨S,h,B,rh,rs,f⟩=>⟨S,h,B,rh,rs,ZE.bind f fun d h1 v H1 μ1 _ g1 rh1 rd f1=>⟨S,h1,μ1,rh1,rs.mono rh g1,ZE.bind f1 fun d2 h2 v2 H2 μ2 _ g2 rh2 rd2 f2 =>
       ZnB (Q:=fun _ H'=>D.nx Z H') G.toGd h5 (of_decide_eq_true h6) rh2 rd2 (rd.mono rh1 g2) (ZE.bind f2 fun _ h3 _ H3 μ3 _ g3 rh3 _ f3=>f3.nx rh3 (((rs.mono rh g1).mono rh1 g2).mono rh2 g3))⟩⟩
   . cases h
 | .auga Cs o f e,Γ,X,E,k,x,G,h=>by
   unfold Zdo at h;split at h
   . rw [Oa,Oa,Oa,Oa,Oa] at h;obtain ⟨⟨⟨⟨⟨h0,h1⟩,h2⟩,h3⟩,h5⟩,h6⟩:=h;have eo:=of_decide_eq_true h0;have en:=of_decide_eq_true h1;subst eo;subst en;exact (Zmv (Zo o G.toGd h2) (Zo e G.toGd h3) ZtN).imp fun D Z H ⟨S,h,B,rh,rs,f⟩=>⟨S,h,B,rh,rs,ZE.bind f fun d h1 x H1 μ1 _ g1 rh1 rd f1=>Zt9 G.toGd h5 (of_decide_eq_true h6) rh1 (rs.mono rh g1) rd f1⟩
   . cases h
theorem sts_ok:∀(s:Sxs) {Γ:Gm}{X:Cx}{E:XK}{k:Nat}{x:List Stmt},GdS T Γ X Y E k->chkSs Γ s x=Wz->PSs X x (ZrH T Y E s)
 |.nil,Γ,X,E,k,x,G,h=>by
  unfold chkSs at h;cases x with
  |nil=>exact Zqi.imp λD Z H ⟨S,h,B,rh,rs,f⟩=>ZE.nx f rh rs
  |cons a b=>cases h
 |.cons s r,Γ,X,E,k,x,G,h=>by
  unfold chkSs at h;split at h
  . rw[Oa]at h;refine(ZnV (ZuN s G h.1) (sts_ok r G h.2)).imp λD Z H ⟨S,h,B,rh,rs,f⟩=>⟨S,h,B,rh,rs,ZE.part f λp h1 H1 μ1 _ g1 rh1 f1=>?_⟩
    obtain⟨fl,ρ1⟩:=p;cases fl with
    |nx=>exact λσ' rs'=>⟨ρ1,h1,μ1,rh1,rs',f1⟩
    |bk=>exact λσ' rs'=>f1 H1 μ1 Gr.refl rh1 σ' rs'
    |ct=>exact λσ' rs'=>f1 H1 μ1 Gr.refl rh1 σ' rs'
    |rt d=>exact λv rv=>f1 H1 μ1 Gr.refl rh1 v rv
  . cases h
end
end IV
end
section
set_option tactic.hygienic false
namespace IV
open PySem PySem.Spec PyProof.Rows L2
structure BodyOk(K:Yk)(kl:Kl)(fs:List Str)(x q:Str)(fd:Fd)(st:Stmt)(f:Yi)(fdd:FuncData):Prop where
 fn:Fun K x q st f fdd
 sc:FnScope fd.N fd.ps (ZU st)
 hb:∀(kV doc pm:Yj) (an:Option Yi) (cdv ct:Yj) (us:List Yj),us.length=fd.ps.length->bindArgs (PySem.W.fnOf x q (ZdI st) (ZbW st) (ZU st) .none kV doc pm an cdv ct) ⟨us,[]⟩=pure (fd.ps.zip us)
 ck:chkSs ⟨fd.N,ZU st,fs,Wz,kl⟩ fd.body (ZbW st)=Wz
structure DefOk(K:Yk)(mg:Str->Option Yj)(kl:Kl)(fs:List Str)(x:Str)(fd:Fd)(st:Stmt)(f:Yi)(fdd:FuncData):Prop where
 bd:BodyOk K kl fs x x fd st f fdd
 mg:mg x=Wx (.ref f)
structure Md(Pr:Yh)(w:Yg)(K:Yk)(mg:Str->Option Yj)(P:Pg)(kl:Kl):Prop where
 bare:ZfG K=Wz
 gd:∀x kvs,P.GD x=Wx kvs->∃a kvs',mg x=Wx (.ref a)/\DkK Pr w K a kvs'/\∀H B,RKs ⟨K,mg⟩ H B kvs kvs'
 g:∀x d,P.G x=Wx d->∃v u,mg x=Wx u/\RelV v u/\∀H B,RD ⟨K,mg⟩ H B d v
 blt:∀x∈(["len", "isinstance", "int", "tuple", "list", "sum", "all", "sorted", "range", "enumerate", "reversed", "str", "bool", "max"]:List Str),mg x=Wy
 defs:∀x fd,P.tb.lookup x=Wx fd->∃st f fdd,DefOk K mg kl (P.tb.map (·.1)) x fd st f fdd
 cls:∀C∈kl.cs,∃a,mg C=Wx (.ref a)/\Cls K a/\∀f∈kl.ats,ZaV K a f
 mts:∀p∈kl.ms,∃a f fdd fd st q,mg p.1=Wx (.ref a)/\Cls K a/\Meth K a p.2 f/\P.look (mnm p.1 p.2)=Wx fd/\BodyOk K kl (P.tb.map (·.1)) p.2 q fd st f fdd
 mks:∀C∈kl.is,∃a f fdd fd st q,mg C=Wx (.ref a)/\Mk K a f/\P.look (mnm C (O "__init__"))=Wx fd/\BodyOk K kl (P.tb.map (·.1)) (O "__init__") q fd st f fdd
 xcs:∀C∈kl.xs,∃a,mg C=Wx (.ref a)/\XOk K a
def Znv(r:RDs Y H B ds vs):RS Y H B (Zu N ds) (L2.start N vs):=by
 refine⟨by simp[Zu,L2.start,r.length],λi d e=>?_⟩;unfold Zu at e;unfold L2.start;by_cases hi:i<ds.length
 . rw[Oe (by simpa using hi),On]at e;rw[Oe (by simpa[<- r.length]using hi),On];obtain⟨d',e1,e2⟩:=Oo.mp e;cases e2;obtain⟨v,h1,h2⟩:=r.get e1;exact⟨v,by rw[h1];rfl,h2⟩
 . rw[Om (by simpa using hi)]at e;have:=O2 e;rw[List.mem_replicate]at this;cases this.2
def Zp0(f:Fin Y (RD Y) H B (Zh r) Q E):ZE Y H B r {nx:=λ_ H'=>Q .non H',rt:=Q} E:=by
 cases r with
 |bad=>exact f.elim
 |exc c h=>exact f
 |ok p h=>
  obtain⟨fl,S⟩:=p;cases fl with
  |nx=>exact λH' μ' g rh σ' _=>f .non H' μ' g rh .non
  |bk=>exact f.elim
  |ct=>exact f.elim
  |rt d=>exact λH' μ' g rh v rv=>f v H' μ' g rh rv
section
variable {Pr:Yh}{w:Yg}{K:Yk}{mg:Str->Option Yj}{base:YG}{P:Pg}{kl:Kl}
def ZhW(h:P.tb.lookup x=Wx fd):P.look x=Wx fd:=by unfold Pg.look;rw[h]
def Znx(hl:P.look x=Wx fd)(h:Zfi (P.tbl n) ⟨K,mg⟩ x vs H Q E):vs.length=fd.ps.length:=by
 obtain⟨ds,h,B,rh,rs,f⟩:=h;cases n with
 |zero=>exact f.elim
 |succ n=>have f:Fin ⟨K,mg⟩ (RD ⟨K,mg⟩) H B (run P (n+1) x ds h) Q E:=f;rw[run,hl]at f;obtain⟨hz,_⟩:=f.iff;rw[<- rs.length];exact hz
structure Lev(Pr:Yh)(w:Yg)(K:Yk)(mg:Str->Option Yj)(base:YG)(P:Pg)(kl:Kl)(n:Nat):Prop where
 defs:∀y∈P.tb.map (·.1),∃ps,Def Pr w K mg base (2 * n+61) y ps (Zfi (P.tbl n) ⟨K,mg⟩ y)
 mts:∀p∈kl.ms,∃a f fd ps,mg p.1=Wx (.ref a)/\Cls K a/\Meth K a p.2 f/\FnOk Pr w K mg base (CXF Pr w) (2 * n+61) f fd ps (Zfi (P.tbl n) ⟨K,mg⟩ (mnm p.1 p.2))/\Binds K fd ps []
 mks:∀C∈kl.is,∃a f fd ps,mg C=Wx (.ref a)/\Mk K a f/\FnOk Pr w K mg base (CXF Pr w) (2 * n+61) f fd ps (Zfi (P.tbl n) ⟨K,mg⟩ (mnm C (O "__init__")))/\Binds K fd ps []
def Zif(M:Md Pr w K mg P kl){x nm q:Str}{fd:Fd}{st:Stmt}{f:Yi}{fdd:FuncData}(hl:P.look x=Wx fd)(o:BodyOk K kl (P.tb.map (·.1)) nm q fd st f fdd):
 ∀n,Lev Pr w K mg base P kl n->FnOk Pr w K mg base (CXF Pr w) (2 * (n+1)+61) f fdd fd.ps (Zfi (P.tbl (n+1)) ⟨K,mg⟩ x):=by
 intro n ih;obtain⟨oc,od,kV,doc,pm,an,cdv,ct,osl,rfl,lk,hcd⟩:=o.fn.ex;have S_:=o.sc;rw[show 2 * (n+1)+61=(2 * n+61+1)+1 by lia];refine ZvS lk hcd S_ (λvs H Q E h=>Znx hl h) λA outer s H vs Q E hr hsp=>?_;refine body_of (t:=ZrH (P.tbl n) ⟨K,mg⟩ E fd.body) (sts_ok fd.body (k:=2 * n+61) (Γ:=⟨fd.N,ZU st,P.tb.map (·.1),Wz,kl⟩) ⟨⟨⟨rfl,rfl,M.gd,M.g,M.bare⟩,rfl,λ_=>rfl,λy hy=>?_,λy hy=>hy,S_.nd,rfl,hr.mono (by lia),by lia,ZqB λ_ _ z=>z,ih.defs,M.blt,hr,λ_ _ _ _ _ _ _ _ _ i3 j3 k3=>ZmC i3 j3 k3 λ_ _ z=>z,M.cls,ih.mts,ih.mks⟩,rfl,λ_=>rfl,PassesOwn.leaving,?_,ZnG,rfl,rfl,M.xcs⟩ o.ck) ?_
 . unfold ZpH at hy;rw[Ww,Ww]at hy;rcases hy with (hy|hy)|hy
   . exact .inl (of_decide_eq_true hy)
   . exact .inr (.inl (of_decide_eq_true hy))
   . exact .inr (.inr (of_decide_eq_true hy))
 . show(if (ZU st).kind.isAnnotationScope then ScopeKind.function else(ZU st).kind)=.function;rw[S_.kind];rfl
 . obtain⟨ds,h,B,rh,rs,f⟩:=hsp;have f:Fin ⟨K,mg⟩ (RD ⟨K,mg⟩) H B (run P (n+1) x ds h) Q E:=f;rw[run,hl]at f;obtain⟨hz,f⟩:=f.iff;exact⟨Zu fd.N ds,h,B,rh,Znv rs,Zp0 f⟩
def mem_lookup{α:Type}{l:List (Str×α)}{x:Str}(h:x∈l.map (·.1)):∃a,l.lookup x=Wx a:=by
 induction l with
 |nil=>simp at h
 |cons p r ih=>
  rw[OF];by_cases e:x=p.1
  . have:(x==p.1)=Wz:=by simpa using e
    rw[this];exact⟨_,rfl⟩
  . have:(x==p.1)=WA:=by simpa using e
    rw[this];exact ih (by simpa[e]using h)
def Zh7{x:Str}{fd:Fd}{f:Yi}{fdd:FuncData}(hl:P.look x=Wx fd):FnOk Pr w K mg base (CXF Pr w) (2 * 0+61) f fdd fd.ps (Zfi (P.tbl 0) ⟨K,mg⟩ x):=⟨λvs H Q E h=>Znx hl h,λA outer s H args us vs Q E _ _ _ _ h=>by obtain⟨ds,h,B,rh,rs,f⟩:=h;exact f.elim⟩
def Zpz(M:Md Pr w K mg P kl):∀n,Lev Pr w K mg base P kl n:=by
 intro n;induction n with
 |zero=>
  refine⟨λy hy=>?_,λp hp=>?_,λC hC=>?_⟩
  . obtain⟨fd,hl⟩:=mem_lookup hy;obtain⟨st,f,fdd,o⟩:=M.defs y fd hl;exact⟨fd.ps,f,fdd,o.mg,o.bd.fn.kp,o.bd.fn.binds o.bd.hb,Zh7 (ZhW hl)⟩
  . obtain⟨a,f,fdd,fd,st,q,m,c,me,hl,o⟩:=M.mts p hp;exact⟨a,f,fdd,fd.ps,m,c,me,Zh7 hl,o.fn.binds o.hb⟩
  . obtain⟨a,f,fdd,fd,st,q,m,me,hl,o⟩:=M.mks C hC;exact⟨a,f,fdd,fd.ps,m,me,Zh7 hl,o.fn.binds o.hb⟩
 |succ n ih=>
  refine⟨λy hy=>?_,λp hp=>?_,λC hC=>?_⟩
  . obtain⟨fd,hl⟩:=mem_lookup hy;obtain⟨st,f,fdd,o⟩:=M.defs y fd hl;exact⟨fd.ps,f,fdd,o.mg,o.bd.fn.kp,o.bd.fn.binds o.bd.hb,Zif M (ZhW hl) o.bd n ih⟩
  . obtain⟨a,f,fdd,fd,st,q,m,c,me,hl,o⟩:=M.mts p hp;exact⟨a,f,fdd,fd.ps,m,c,me,Zif M hl o n ih,o.fn.binds o.hb⟩
  . obtain⟨a,f,fdd,fd,st,q,m,me,hl,o⟩:=M.mks C hC;exact⟨a,f,fdd,fd.ps,m,me,Zif M hl o n ih,o.fn.binds o.hb⟩
def Ztz(M:Md Pr w K mg P kl){x:Str}{a:Str}{fd:Fd}{fa:Yi}(n:Nat)(hl:P.tb.lookup x=Wx fd)(hps:fd.ps=[a])(hm:mg x=Wx (.ref fa)):
 ∃fdd:FuncData,(∀(s:Yb) (v:Yj),BindsTo s fdd ⟨[v],[]⟩ [(a,v)])/\∀base:YG,FnOk Pr w K mg base (CXF Pr w) (2 * (n+1)+61) fa fdd [a] (Zfi (P.tbl (n+1)) ⟨K,mg⟩ x):=by
 obtain⟨st,f,fdd,o⟩:=M.defs x fd hl;have e:=hm.symm.trans o.mg;cases e;refine⟨fdd,λs v=>?_,λbase=>hps ▸ Zif M (ZhW hl) o.bd n (Zpz M n)⟩;obtain⟨oc,od,kV,doc,pm,an,cdv,ct,osl,rfl,lk,hcd⟩:=o.bd.fn.ex;have:=o.bd.hb kV doc pm an cdv ct [v] (by rw[hps];rfl);rw[hps]at this;exact BindsTo.of_eq this
end
def Zut{α:Type}{us:List α}(h:us.length=0):us=[]:=List.length_eq_zero_iff.mp h
def Zme{α:Type}{us:List α}{n:Nat}(h:us.length=n+1):∃a r,us=a::r/\r.length=n:=by
 cases us with
 |nil=>cases h
 |cons a r=>exact⟨a,r,rfl,Nat.succ.inj h⟩
def Zus{α:Type}{us:List α}(h:us.length=1):∃a0,us=[a0]:=by obtain⟨a0,r,rfl,h2⟩:=Zme h;exact⟨a0,by rw[Zut h2]⟩
def Zur{α:Type}{us:List α}(h:us.length=2):∃a0 a1,us=[a0,a1]:=by obtain⟨a0,r,rfl,h2⟩:=Zme h;obtain⟨a1,rfl⟩:=Zus h2;exact⟨a0,a1,rfl⟩
def Zuq{α:Type}{us:List α}(h:us.length=3):∃a0 a1 a2,us=[a0,a1,a2]:=by obtain⟨a0,r,rfl,h2⟩:=Zme h;obtain⟨a1,a2,rfl⟩:=Zur h2;exact⟨a0,a1,a2,rfl⟩
def Zup{α:Type}{us:List α}(h:us.length=4):∃a0 a1 a2 a3,us=[a0,a1,a2,a3]:=by obtain⟨a0,r,rfl,h2⟩:=Zme h;obtain⟨a1,a2,a3,rfl⟩:=Zuq h2;exact⟨a0,a1,a2,a3,rfl⟩
def Zuo{α:Type}{us:List α}(h:us.length=5):∃a0 a1 a2 a3 a4,us=[a0,a1,a2,a3,a4]:=by obtain⟨a0,r,rfl,h2⟩:=Zme h;obtain⟨a1,a2,a3,a4,rfl⟩:=Zup h2;exact⟨a0,a1,a2,a3,a4,rfl⟩
def Zwu{α:Type}{us:List α}(h:us.length=6):∃a0 a1 a2 a3 a4 a5,us=[a0,a1,a2,a3,a4,a5]:=by obtain⟨a0,r,rfl,h2⟩:=Zme h;obtain⟨a1,a2,a3,a4,a5,rfl⟩:=Zuo h2;exact⟨a0,a1,a2,a3,a4,a5,rfl⟩
end IV
end
section
namespace IV
open PySem PySem.Spec PyProof.Rows L2
def All(p:α->Prop):List α->Prop
 |[]=>True
 |a::l=>p a/\All p l
theorem All.mem:∀{l:List α},All p l->∀a∈l,p a
 |[],_,a,h=>by simp at h
 |b::l,⟨h1,h2⟩,a,h=>by
  rcases O3.mp h with rfl|h
  . exact h1
  . exact All.mem h2 a h
def lookup_mem{α:Type}{l:List (Str×α)}{a:α}(h:l.lookup x=Wx a):(x,a)∈l:=by
 induction l with
 |nil=>cases h
 |cons p r ih=>
  rw[OF]at h;by_cases e:x=p.1
  . have:(x==p.1)=Wz:=by simpa using e
    rw[this]at h;cases h;subst e;exact Oi
  . have:(x==p.1)=WA:=by simpa using e
    rw[this]at h;exact Oh _ (ih h)
noncomputable def spL(K:Yk):Sp:=λvs H Q _=>∃(a:Yi) (ns:List Int),vs=[.ref a]/\SqL K H a (ns.map V.int)/\ns.length<=63/\Zrz H/\∀H',Q (.bl Wz) H'
theorem ZlZ:∀ns:List Int,RDs Y H B (ns.map D.int) (ns.map V.int)
 |[]=>.nil
 |n::r=>.cons (.int n) (ZlZ r)
def Zun{l:PySem.W.OpenLaw}{q:Yh}{loose:List Str}{XP:(Str->Option Yj)->YG->Prop}{YP:Yg->YG->Prop}{d:DefRec}{K:Params->Yk}{P:Pg}{kl:Kl}{fd:Fd}(n:Nat)(hn:l.most=Wx 63)(hdf:d.params.defaults=[])(hd:d.name=O "law")(hr:Room (2 * (n+1)+61) callerA)
 (hY:∀(w:Yg) (h:YG),YP w h->(K w.params).In h) (hl:P.tb.lookup (O "law")=Wx fd) (hps:fd.ps=[O "_law_script"])
 (hrun:∀ns:List Int,ns.length<=63->∃h',run P (n+1) (O "law") [.ro (ns.map .int)] []=.ok (.bl Wz) h')
 (M:∀(w:Yg) (mg:Str->Option Yj) (h:YG),(K w.params).In h->h.Ns Yd mg->Md l.prog w (K w.params) mg P kl) :
 PySem.W.WalkO q loose XP YP l.row.toRowW d [] (λf vs=>PySem.call f vs):=by
 refine L2.ZpG (n:=63) (k:=2 * (n+1)+61) (x := "_law_script") (CX:=λw=>CXF l.prog w) (sp:=λw=>spL (K w.params)) hn (by decide) hdf hr hY (λw mg fa h KX G hmg=>?_) (λ_ _ a ns hl hO hS=>⟨a,ns,rfl,hS,hl,hO,λ_=>rfl⟩) λ_ _ _ _ _ z=>by obtain⟨_,_,_,_,_,_,_,_,_,_,_,_,_,z⟩:=z;exact z
 rw[hd]at hmg;obtain⟨fdd,hb,F⟩:=Ztz (M w mg h KX G) n hl hps hmg;refine⟨fdd,hb,λbase _ _=>(F base).imp λvs H Q E hsp=>?_⟩;obtain⟨a,ns,rfl,hS,hz,hO,hq⟩:=hsp;obtain⟨h',e⟩:=hrun ns hz;refine⟨[.ro (ns.map .int)],[],[],⟨rfl,.nil,λi o a e=>by simp at e,λi o e=>by simp at e⟩,.cons (.ro ?_ (ZlZ ns)) .nil,?_⟩
 . rcases hS with hS|hS
   . rcases hS with hS|hS
     . rcases hO a with z|⟨o,xs,z⟩<;>(rw[z]at hS;cases hS)
     . exact .inl hS
   . exact .inr hS
 . show Fin _ _ H [] (run P (n+1) (O "law") [.ro (ns.map .int)] []) Q E;rw[e];exact λb H' μ' _ _ r=>by cases r;exact hq H'
def Zc5{K:Yk}(h:K.lookup a=Wx ⟨.type "tuple",od,.seq its n,sl⟩)(hz:its.size<=sizeLine)(r:Zn vs its.toList):SqT K H a vs:=
 .inr ⟨_,its,n,h,rfl,rfl,hz,r⟩
end IV
end
section
namespace IV
open PySem L2 PyProof.Rows
structure Chk(kl:Kl)(fs:List Str)(x q:Str)(fd:Fd)(st:Stmt):Prop where
 sc:FnScope fd.N fd.ps (ZU st)
 hb:∀(kV doc pm:Yj) (an:Option Yi) (cdv ct:Yj) (us:List Yj),us.length=fd.ps.length->bindArgs (PySem.W.fnOf x q (ZdI st) (ZbW st) (ZU st) .none kV doc pm an cdv ct) ⟨us,[]⟩=pure (fd.ps.zip us)
 ck:chkSs ⟨fd.N,ZU st,fs,Wz,kl⟩ fd.body (ZbW st)=Wz
variable {K:Yk}{h:YG}{mg:Str->Option Yj}{kl:Kl}{fs:List Str}{x q C:Str}{fd:Fd}{st:Stmt}{ca:Yi}{P:Pg}
def Chk.bd(c:Chk kl fs x q fd st)(F:Fun K x q st f fdd):BodyOk K kl fs x q fd st f fdd:=⟨F,c.sc,c.hb,c.ck⟩
def ZB(K:Yk)(x:Str)(st:Stmt):Prop:=∃f fdd,Yl K Yd x=Wx (Wx (.ref f))/\Fun K x x st f fdd
def Zll(K:Yk)(ca:Yi)(x q:Str)(st:Stmt):Prop:=∃f fdd,YJ K (.ref ca) x=Wx (Wx (.ref f))/\PySem.W.isFn K (.ref f)=Wz/\Wh K (.ref f)=Wz/\Fun K x q st f fdd
def Ze(X:K.In h)(G:h.Ns Yd mg)(d:ZB K x st)(c:Chk kl fs x x fd st):∃st f fdd,DefOk K mg kl fs x fd st f fdd:=by obtain⟨f,fdd,a,F⟩:=d;exact⟨st,f,fdd,c.bd F,YO X G a⟩
def Zfw(X:K.In h)(G:h.Ns Yd mg)(y:Yl K Yd C=Wx (Wx (.ref ca)))(cl:Cls K ca)(d:Zll K ca x q st)(c:Chk kl (P.tb.map (·.1)) x q fd st)(e:P.look (mnm C x)=Wx fd):∃a f fdd fd st q,mg C=Wx (.ref a)/\Cls K a/\Meth K a x f/\P.look (mnm C x)=Wx fd/\BodyOk K kl (P.tb.map (·.1)) x q fd st f fdd:=by obtain⟨f,fdd,u1,u2,u3,F⟩:=d;exact⟨ca,f,fdd,fd,st,q,YO X G y,cl,⟨u1,u2,u3⟩,e,c.bd F⟩
def Ztm(X:K.In h)(G:h.Ns Yd mg)(y:Yl K Yd C=Wx (Wx (.ref ca)))(m:PySem.W.makesIn K ca=Wz)(k:Wh K (.ref ca)=Wz)(d:Zll K ca (O "__init__") q st)(c:Chk kl (P.tb.map (·.1)) (O "__init__") q fd st)(e:P.look (mnm C (O "__init__"))=Wx fd):∃a f fdd fd st q,mg C=Wx (.ref a)/\Mk K a f/\P.look (mnm C (O "__init__"))=Wx fd/\BodyOk K kl (P.tb.map (·.1)) (O "__init__") q fd st f fdd:=by obtain⟨f,fdd,u1,u2,u3,F⟩:=d;exact⟨ca,f,fdd,fd,st,q,YO X G y,⟨m,u1,u2,k⟩,e,c.bd F⟩
end IV
end
section
set_option tactic.hygienic false
namespace IV
open PySem L2
def ZhU(h:Str.ofString a=Str.ofString b):a=b:=by
 have e:∀s:String,(Str.ofString s).cps.toList=s.toList.map Char.toNat:=λs=>by show(cpsOfBytes 0 0 s.toByteArray.data.toList).toArray.toList=_;rw[cpsOfBytes_string]
 have h1:=congrArg (λs:Str=>s.cps.toList) h;simp only[e]at h1;have h2:a.toList=b.toList:=by
  have inj:∀{x y:Char},x.toNat=y.toNat->x=y:=λ{x y} q=>by have:x.val=y.val:=UInt32.toNat_inj.mp q;exact Char.ext this
  exact(List.map_inj_right λx y q=>inj q).mp h1
 exact String.toList_inj.mp h2
@[simp] theorem ofString_eq(a b:String):(Str.ofString a=Str.ofString b)↔a=b:=⟨ZhU,λh=>h ▸ rfl⟩
@[simp] theorem ZqT(a b:String):(Str.ofString a==Str.ofString b)=(a==b):=by rw[Bool.eq_iff_iff];simp
def Un(k:γ):Type:=Unit
noncomputable def un:Un k:=()
noncomputable def R.bnd(r:R α)(k:α->Hd->R β)(u:Un k:=un):R β:=r.bind k
@[simp] theorem Zp:R.bnd (.ok a h) k u=k a h:=rfl
@[simp] theorem Zwq:R.bnd (R.bad:R α) k u=.bad:=rfl
section
variable {T:Tb}{S:Ev}{h:Hd}
@[simp] theorem bind_ok:(R.ok a h).bind k=k a h:=rfl
@[simp] theorem bind_bad:(R.bad:R α).bind k=.bad:=rfl
@[simp] theorem ofO_some:R.ofO (Wx a) h=.ok a h:=rfl
@[simp] theorem Zmy:(R.ok a h).plain=.ok a h:=rfl
@[simp] theorem Zia{i}:ev T (.var i) S h=R.ofO (S[i]?).join h:=rfl
@[simp] theorem ZtU{d}:ev T (.cst d) S h=.ok d h:=rfl
@[simp] theorem Zpa{x}:ev T (.glo x) S h=R.ofO (T.G x) h:=rfl
@[simp] theorem Zk0{op a b}:ev T (.bin op a b) S h=(ev T a S h).bnd λx h1=>(ev T b S h1).bnd λy h2=>opB op x y h2:=rfl
@[simp] theorem ZtV{op a b}:ev T (.cmp op a b) S h=(ev T a S h).bnd λx h1=>(ev T b S h1).bnd λy h2=>opC T.GD op x y h2:=rfl
@[simp] theorem Zxk{a}:ev T (.neg a) S h=(ev T a S h).bnd λx h1=>match x with
 |.int i=>.ok (.int (-i)) h1
 |_=>.bad:=rfl
@[simp] theorem ZxH{a}:ev T (.nt a) S h=(ev T a S h).bnd λx h1=>match x with
 |.bl b=>.ok (.bl (!b)) h1
 |_=>.bad:=rfl
@[simp] theorem Zrj{es}:ev T (.ands es) S h=evAnd T es S h:=rfl
@[simp] theorem Zo8{es}:ev T (.ors es) S h=evOr T es S h:=rfl
@[simp] theorem Zui{e}:evAnd T (.cons e .nil) S h=ev T e S h:=rfl
@[simp] theorem Zm3{e e' r}:evAnd T (.cons e (.cons e' r)) S h=(ev T e S h).bnd λx h1=>match x with
 |.bl Wz=>evAnd T (.cons e' r) S h1
 |.bl WA=>.ok (.bl WA) h1
 |_=>.bad:=rfl
@[simp] theorem ZvY{e}:evOr T (.cons e .nil) S h=ev T e S h:=rfl
@[simp] theorem Zjx{e e' r}:evOr T (.cons e (.cons e' r)) S h=(ev T e S h).bnd λx h1=>match x with
 |.bl Wz=>.ok (.bl Wz) h1
 |.bl WA=>evOr T (.cons e' r) S h1
 |_=>.bad:=rfl
@[simp] theorem Zxo{c a b}:ev T (.ite c a b) S h=(tst T c S h).bnd λc h1=>if c then ev T a S h1 else ev T b S h1:=rfl
@[simp] theorem Zl3{es}:ev T (.tupl es) S h=(evs T es S h).bnd λxs h1=>if xs.length<=sizeLine then .ok (.tup xs) h1 else .bad:=rfl
@[simp] theorem Zl4{es}:ev T (.lstl es) S h=(evs T es S h).bnd λxs h1=>if xs.length<=sizeLine then Zc0 (.lst xs) h1 else .bad:=rfl
@[simp] theorem Zjw{a i}:ev T (.ix a i) S h=(ev T a S h).bnd λx h1=>(ev T i S h1).bnd λy h2=>Z5 T.GD x y h2:=rfl
@[simp] theorem Zo7{a lo hi}:ev T (.sl a lo hi) S h=(ev T a S h).bnd λx h1=>(evo T lo S h1).bnd λl h2=>(evo T hi S h2).bnd λu h3=>ZgJ x l u h3:=rfl
@[simp] theorem ZtX{f es}:ev T (.blt f es) S h=(evs T es S h).bnd λxs h1=>ZbJ T.GD f xs h1:=rfl
@[simp] theorem Zic{f es}:ev T (.call f es) S h=(evs T es S h).bnd λxs h1=>T.C f xs h1:=rfl
@[simp] theorem Zfx{m o es}:ev T (.meth m o es) S h=(ev T o S h).bnd λx h1=>if Zdf x h1 then(evs T es S h1).bnd λxs h2=>ZaI m x xs h2 else .bad:=rfl
@[simp] theorem Zez{NC js it g c e}:ev T (.comp NC js it g c e) S h=(evi T it S h).bnd λw h1=>(Zz w.src g (tsto T c) (ev T e) w.xs (Zbp js S) [] h1).bnd λxs h2=>Zc0 (.lst xs) h2:=rfl
@[simp] theorem Zwp{e d}:ev T (.maxd e d) S h=(ev T e S h).bnd λx h1=>(ev T d S h1).bnd λy h2=>Zmb x y h2:=rfl
@[simp] theorem ZvX{ps}:ev T (.dictl ps) S h=(evs T ps S h).bnd λxs h1=>match Zc9 xs with
 |some kvs=>if kvs.length<=15 then Zc0 (.dic (Zb9 [] kvs)) h1 else .bad
 |none=>.bad:=rfl
@[simp] theorem Zxp{Cs o f}:ev T (.att Cs o f) S h=(ev T o S h).bnd λx h1=>ZgS Cs f x h1:=rfl
@[simp] theorem ZvW{C es}:ev T (.mk C es) S h=(evs T es S h).bnd λxs h1=>Zon T.C C xs h1:=rfl
@[simp] theorem Zo9{C m o es}:ev T (.mcl C m o es) S h=(ev T o S h).bnd λx h1=>match ZX x h1 with
 |some (C',fs)=>if C'=C/\fs.lookup m=Wy then(evs T es S h1).bnd λxs h2=>T.C (mnm C m) (x::xs) h2 else .bad
 |none=>.bad:=rfl
@[simp] theorem Zwo{e}:ev T (.trev e) S h=(ev T e S h).bnd λx h1=>Zr3 x h1:=rfl
@[simp] theorem Zxl{e}:ev T (.lrv e) S h=(ev T e S h).bnd λx h1=>Zv9 x h1:=rfl
@[simp] theorem Zxj{o e}:ev T (.tix o e) S h=(ev T o S h).bnd λx h1=>if ZvL x then(ev T e S h1).bnd λy h2=>Zv8 x y h2 else .bad:=rfl
@[simp] theorem Zxm{o e}:ev T (.lix o e) S h=(ev T o S h).bnd λx h1=>if Zdf x h1 then(ev T e S h1).bnd λy h2=>Zwa x y h2 else .bad:=rfl
@[simp] theorem Zxn{a b}:ev T (.lin a b) S h=(ev T a S h).bnd λx h1=>(ev T b S h1).bnd λy h2=>Zwb x y h2:=rfl
@[simp] theorem Zul{Cs o f e}:xs1 T (.seta Cs o f e) S h=(ev T e S h).bnd λd h1=>(ev T o S h1).bnd λx h2=>(ZhI Cs f x d h2).bnd λ_ h3=>.ok (.nx,S) h3:=rfl
@[simp] theorem Zum{Cs o f e}:xs1 T (.auga Cs o f e) S h=(ev T o S h).bnd λx h1=>(ZgS Cs f x h1).bnd λv h2=>(ev T e S h2).bnd λy h3=>match v,y with
 |.int a,.int b=>if (ZX x h1).map (·.1)=(ZX x h3).map (·.1)then(ZhI Cs f x (.int (a+b)) h3).bnd λ_ h4=>.ok (.nx,S) h4 else .bad
 |_,_=>.bad:=rfl
@[simp] theorem Zh8:evs T .nil S h=.ok [] h:=rfl
@[simp] theorem Zcx{e es}:evs T (.cons e es) S h=(ev T e S h).bnd λx h1=>(evs T es S h1).bnd λxs h2=>.ok (x::xs) h2:=rfl
@[simp] theorem ZvU:evo T Wy S h=.ok Wy h:=rfl
@[simp] theorem Zo6{e}:evo T (Wx e) S h=(ev T e S h).bnd λx h1=>match x with
 |.int i=>.ok (Wx i) h1
 |_=>.bad:=rfl
@[simp] theorem Znp{e}:tst T (.ex e) S h=(ev T e S h).bnd λx h1=>R.ofO (Zd4 T.GD x h1) h1:=rfl
@[simp] theorem ZiB{ts}:tst T (.ands ts) S h=tstAnd T ts S h:=rfl
@[simp] theorem Zlu{ts}:tst T (.ors ts) S h=tstOr T ts S h:=rfl
@[simp] theorem Zwv{a}:tst T (.nt a) S h=(tst T a S h).bnd λc h1=>.ok (!c) h1:=rfl
@[simp] theorem Zsg{t}:tstAnd T (.one t) S h=tst T t S h:=rfl
@[simp] theorem ZeY{t ts}:tstAnd T (.cons t ts) S h=(tst T t S h).bnd λc h1=>if c then tstAnd T ts S h1 else .ok WA h1:=rfl
@[simp] theorem Zuf{t}:tstOr T (.one t) S h=tst T t S h:=rfl
@[simp] theorem ZfH{t ts}:tstOr T (.cons t ts) S h=(tst T t S h).bnd λc h1=>if c then .ok Wz h1 else tstOr T ts S h1:=rfl
@[simp] theorem Zmi:tsto T Wy S h=.ok Wz h:=rfl
@[simp] theorem Zue{t}:tsto T (Wx t) S h=tst T t S h:=rfl
@[simp] theorem ZtT{e}:evi T (.pl e) S h=(ev T e S h).bnd λx h1=>R.ofO (Zar x h1) h1:=rfl
@[simp] theorem Zl2{e}:evi T (.rng e) S h=(ev T e S h).bnd λx h1=>match x with
 |.int j=>if Zap j then .ok ⟨Wy,ZG 0 j.toNat⟩ h1 else .bad
 |_=>.bad:=rfl
@[simp] theorem Zrh{e}:evi T (.enu e) S h=(ev T e S h).bnd λx h1=>R.ofO ((Zlq x h1).map λw=>⟨w.src,ZcU w.xs⟩) h1:=rfl
@[simp] theorem Zrg{e}:evi T (.rev e) S h=(ev T e S h).bnd λx h1=>R.ofO ((ZfF x h1).map λw=>⟨w.src,w.xs.reverse⟩) h1:=rfl
@[simp] theorem Zri{e}:evi T (.en1 e) S h=(ev T e S h).bnd λx h1=>match x with
 |.tup xs=>.ok ⟨Wy,Zd8 xs⟩ h1
 |_=>.bad:=rfl
@[simp] theorem Zwn{e}:evi T (.en0 e) S h=(ev T e S h).bnd λx h1=>match x with
 |.tup xs=>.ok ⟨Wy,ZcU xs⟩ h1
 |_=>.bad:=rfl
@[simp] theorem Zxi{e}:evi T (.dk e) S h=(ev T e S h).bnd λx h1=>Zo0 x h1:=rfl
@[simp] theorem Zfp{e}:xs1 T (.ret e) S h=(ev T e S h).bnd λx h1=>.ok (.rt x,S) h1:=rfl
@[simp] theorem Zef{g e}:xs1 T (.set g e) S h=(ev T e S h).bnd λx h1=>(R.ofO (ZbK g x S) h1).bnd λρ1 h2=>.ok (.nx,ρ1) h2:=rfl
@[simp] theorem Zlm{o i e}:xs1 T (.put o i e) S h=(ev T e S h).bnd λx h1=>(ev T o S h1).bnd λy h2=>(ev T i S h2).bnd λz h3=>(Zbo y z x h3).bnd λ_ h4=>.ok (.nx,S) h4:=rfl
@[simp] theorem Zlo{e}:xs1 T (.drp e) S h=(ev T e S h).bnd λ_ h1=>.ok (.nx,S) h1:=rfl
@[simp] theorem Zln{c a b}:xs1 T (.iff c a b) S h=(tst T c S h).bnd λt h1=>if t then xs2 T a S h1 else xs2 T b S h1:=rfl
@[simp] theorem Zwh{c b}:xs1 T (.whl c b) S h=ZO (tst T c) (xs2 T b) T.L S h:=rfl
@[simp] theorem ZfD{g it b}:xs1 T (.forr g it b) S h=(evi T it S h).bnd λw h1=>ZK w.src g (xs2 T b) w.xs S h1:=rfl
@[simp] theorem Zwg:xs2 T .nil S h=.ok (.nx,S) h:=rfl
@[simp] theorem ZfC{s r}:xs2 T (.cons s r) S h=(xs1 T s S h).bnd λp h1=>match p with
 |(.nx,ρ1)=>xs2 T r ρ1 h1
 |p=>.ok p h1:=rfl
def Za(e:xs1 T s S h=.ok (.nx,ρ1) h1):xs2 T (.cons s r) S h=xs2 T r ρ1 h1:=by rw[ZfC,e];rfl
def Zf(e:xs1 T s S h=.ok (.rt d,ρ1) h1):xs2 T (.cons s r) S h=.ok (.rt d,ρ1) h1:=by rw[ZfC,e];rfl
@[simp] theorem Zwr{i d}:ZbK (.nm i) d S=Wx (S.set i (Wx d)):=rfl
@[simp] theorem ZjN{i j a b}:ZbK (.two i j) (.tup [a,b]) S=Wx ((S.set i (Wx a)).set j (Wx b)):=rfl
@[simp] theorem ZwP:Zh (.ok (.rt d,S) h)=.ok d h:=rfl
@[simp] theorem ZwQ:Zh (.ok (.nx,S) h)=.ok .non h:=rfl
end
@[simp] theorem Zmo:seqOf (.tup xs) h=Wx xs:=rfl
@[simp] theorem Zvm:ZhS f (.int i) (.int j) h=.ok (.bl (f i j)) h:=rfl
section
variable {GD:Str->Option (List (Key×D))}{h:Hd}
@[simp] theorem Zkn{x y}:opC GD .Eq x y h=Zb8 WA x y h:=rfl
@[simp] theorem Ztf{x y}:opC GD .NotEq x y h=Zb8 Wz x y h:=rfl
@[simp] theorem Zw5{i j}:opC GD .Lt (.int i) (.int j) h=.ok (.bl (WB (i<j))) h:=rfl
@[simp] theorem Zw6{i j}:opC GD .LtE (.int i) (.int j) h=.ok (.bl (WB (i<=j))) h:=rfl
@[simp] theorem Zw7{i j}:opC GD .Gt (.int i) (.int j) h=.ok (.bl (WB (j<i))) h:=rfl
@[simp] theorem Zw8{i j}:opC GD .GtE (.int i) (.int j) h=.ok (.bl (WB (j<=i))) h:=rfl
@[simp] theorem Zkm{x}:opC GD .Is x .non h=.ok (.bl (WB (x=.non))) h:=rfl
@[simp] theorem Zog{x}:opC GD .IsNot x .non h=.ok (.bl (!WB (x=.non))) h:=rfl
@[simp] theorem Zuh{s n}:opC GD .In (.str s) (.kd n) h=match GD n with
 |some kvs=>.ok (.bl (Zab kvs (.inr s)).isSome) h
 |none=>.bad:=by
 show ZbT GD WA (.str s) (.kd n) h=_;unfold ZbT;simp only[seqOf,lstOf,dicOf,keyOf];cases GD n<;>rfl
@[simp] theorem ZhT{s n}:opC GD .NotIn (.str s) (.kd n) h=match GD n with
 |some kvs=>.ok (.bl (!(Zab kvs (.inr s)).isSome)) h
 |none=>.bad:=by
 show ZbT GD Wz (.str s) (.kd n) h=_;unfold ZbT;simp only[seqOf,lstOf,dicOf,keyOf];cases GD n<;>rfl
def Zj0(ss:List Str):(ss.map D.str).all D.flat=Wz:=by rw[OC];intro x hx;obtain⟨s,_,rfl⟩:=List.mem_map.mp hx;rfl
def any_words(ss:List Str)(x:Str):((ss.map D.str).any λz=>eqF z (.str x))=WB (x∈ss):=by
 induction ss with
 |nil=>rfl
 |cons s r ih=>
  rw[Op,Wg,ih];show((s==x) || WB (x∈r))=_;by_cases e:s=x
  . subst e;simp
  . have:(s==x)=WA:=by simpa using e
    rw[this];have e':¬ x=s:=λq=>e q.symm;simp[e']
def ZcB{ss:List Str}{x:Str}:opC GD .In (.str x) (.tup (ss.map .str)) h=.ok (.bl (WB (x∈ss))) h:=by show ZbT GD WA (.str x) (.tup (ss.map .str)) h=_;unfold ZbT;rw[Zmo];simp only[Zj0,any_words];rfl
@[simp] theorem Zvl{xs i}:Z5 GD (.tup xs) (.int i) h=R.ofO (atI xs i) h:=rfl
@[simp] theorem Zwl{xs i}:Z5 GD (.ro xs) (.int i) h=R.ofO (atI xs i) h:=rfl
@[simp] theorem ZqK{n s}:Z5 GD (.kd n) (.str s) h=match GD n with
 |some kvs=>R.ofO (Zab kvs (.inr s)) h
 |none=>.bad:=rfl
def ZS{i k xs}(e:h[i]? = Wx (.lst xs)):Z5 GD (.ref i) (.int k) h=R.ofO (atI xs k) h:=by unfold Z5;simp only[seqOf,lstOf,e]
@[simp] theorem Zwc{α:Type}{x:α}{l:List α}:atI (x::l) 0=Wx x:=by simp[atI,ixN]
def Zb2{α:Type}{l:List α}{k:Nat}:atI l (k:Int)=l[k]? := by
 unfold atI ixN;by_cases hk:k<l.length
 . simp[hk]
 . simp[hk]
@[simp] theorem ZxK{α:Type}{x y:α}{l:List α}:atI (x::y::l) 1=Wx y:=Zb2 (k:=1)
@[simp] theorem ZxJ{α:Type}{x y z:α}{l:List α}:atI (x::y::z::l) 2=Wx z:=Zb2 (k:=2)
@[simp] theorem ZxI{α:Type}{x y z w:α}{l:List α}:atI (x::y::z::w::l) 3=Wx w:=Zb2 (k:=3)
def ZjW{α:Type}{l:List α}{x:α}:atI (l++[x]) (-1)=Wx x:=by
 unfold atI ixN;rw[if_neg (by decide),if_pos (by simp;lia)];have:(-1+((l++[x]).length:Int)).toNat=l.length:=by simp;lia
 simp only[Yz,this];simp
@[simp] theorem Zvk{xs l u}:ZgJ (.tup xs) l u h=.ok (.tup (cutD xs l u)) h:=rfl
@[simp] theorem Zuj{x:D}{l:List D}:cutD (x::l) (Wx 1) Wy=l:=by simp[cutD,HT.sIx]
@[simp] theorem Zwk{b}:Zd4 GD (.bl b) h=Wx b:=rfl
@[simp] theorem Zuz{i}:Zd4 GD (.int i) h=Wx (i != 0):=rfl
@[simp] theorem Zux{xs}:Zd4 GD (.tup xs) h=Wx (!xs.isEmpty):=rfl
@[simp] theorem Zuy:Zd4 GD .non h=Wx WA:=rfl
@[simp] theorem ZqO{i j}:opB .Add (.int i) (.int j) h=.ok (.int (i+j)) h:=rfl
@[simp] theorem Zwm{i j}:opB .Sub (.int i) (.int j) h=.ok (.int (i - j)) h:=rfl
def ZR(hj:0<j):opB .Mod (.int i) (.int j) h=.ok (.int (i % j)) h:=if_pos hj
def ZcD(hj:0<j/\j<1073741824):opB .FloorDiv (.int i) (.int j) h=.ok (.int (i / j)) h:=if_pos hj
def Zer(hj:i.natAbs<2 ^ 2000/\j.natAbs<2 ^ 2000):opB .Mult (.int i) (.int j) h=.ok (.int (i * j)) h:=if_pos hj
def ZcC(hl:xs.length+ys.length<=sizeLine):opB .Add (.tup xs) (.tup ys) h=.ok (.tup (xs++ys)) h:=if_pos hl
@[simp] theorem Zgb:Zb8 n (.str x) (.str y) h=.ok (.bl (if n then !WB (x=y)else WB (x=y))) h:=by
 have e:YQ (.str x) (.str y)=WB (x=y):=by show(x==y)=_;rw[Bool.beq_eq_decide_eq]
 have q:Zb8 n (.str x) (.str y) h=if min (PyData.str x).depth (PyData.str y).depth<=1100 then .ok (.bl (if n then !YQ (.str x) (.str y)else YQ (.str x) (.str y))) h else .bad:=rfl;rw[q,if_pos (by simp[PyData.depth]),e]
@[simp] theorem Zoe:Zb8 n (.int x) (.int y) h=.ok (.bl (if n then !WB (x=y)else WB (x=y))) h:=by
 have e:YQ (.int x) (.int y)=WB (x=y):=by show(x==y)=_;rw[Bool.beq_eq_decide_eq]
 have q:Zb8 n (.int x) (.int y) h=if min (PyData.int x).depth (PyData.int y).depth<=1100 then .ok (.bl (if n then !YQ (.int x) (.int y)else YQ (.int x) (.int y))) h else .bad:=rfl;rw[q,if_pos (by simp[PyData.depth]),e]
end
@[simp] theorem Zug{xs:List D}(h:xs.length<=1000):xs.length<=sizeLine:=OE h (by decide)
def Zc(e:P.tb.lookup f=Wx fd)(hl:ds.length=fd.ps.length):run P (n+1) f ds h=Zh (xs2 ⟨P.G,P.GD,run P n,P.L⟩ fd.body (Zu fd.N ds) h):=by rw[run,show P.look f=Wx fd by unfold Pg.look;rw[e]];simp only;rw[if_pos hl]
def Zd5(hn:P.tb.lookup f=Wy)(e:P.ms.lookup f=Wx fd)(hl:ds.length=fd.ps.length):run P (n+1) f ds h=Zh (xs2 ⟨P.G,P.GD,run P n,P.L⟩ fd.body (Zu fd.N ds) h):=by rw[run,show P.look f=Wx fd by unfold Pg.look;rw[hn];exact e];simp only;rw[if_pos hl]
section
variable {h:Hd}{x y z w:DO}{r:List DO}
@[simp] theorem Zc2:(h++x::r)[h.length]? = Wx x:=by simp
@[simp] theorem ZxN:(h++x::y::r)[h.length+1]? = Wx y:=by simp
@[simp] theorem ZxM:(h++x::y::z::r)[h.length+2]? = Wx z:=by simp
@[simp] theorem ZxL:(h++x::y::z::w::r)[h.length+3]? = Wx w:=by simp
@[simp] theorem ZnS:(h++x::r).set h.length o=h++o::r:=by simp
@[simp] theorem ZxG:(h++x::y::r).set (h.length+1) o=h++x::o::r:=by simp
@[simp] theorem ZxF:(h++x::y::z::r).set (h.length+2) o=h++x::y::o::r:=by simp
end
@[simp] theorem ZqU:Zc0 o h=.ok (.ref h.length) (h++[o]):=rfl
section
variable {h:Hd}
def Zbx(e:h[i]? = Wx (.lst ys))(hz:ys.length<sizeLine):ZaI .app (.ref i) [d] h=.ok .non (h.set i (.lst (ys++[d]))):=by simp only[ZaI,e,Zge,Zos];rw[if_pos hz]
def Zgf(e:h[i]? = Wx (.lst (ys++[d]))):ZaI .pop (.ref i) [] h=.ok d (h.set i (.lst ys)):=by simp only[ZaI,e,Zge,ZqX];simp
def Zay(e:h[i]? = Wx (.lst ys)):Zdf (.ref i) h=Wz:=by simp[Zdf,e]
def ZpK(e:h[i]? = Wx (.lst ys)):Zd4 GD (.ref i) h=Wx (!ys.isEmpty):=by simp[Zd4,e]
@[simp] theorem ZvR:ZK Wy g body [] S h=.ok (.nx,S) h:=rfl
def Zaz:ZK Wy g body (d::ds) S h=match ZbK g d S with
 |none=>.bad
 |some ρ1=>(body ρ1 h).bnd λp h2=>match p with
  |(.nx,ρ2)=>ZK Wy g body ds ρ2 h2
  |(.ct,ρ2)=>ZK Wy g body ds ρ2 h2
  |(.bk,ρ2)=>.ok (.nx,ρ2) h2
  |(.rt d,ρ2)=>.ok (.rt d,ρ2) h2:=rfl
def ZQ:Zz src g test elt (d::ds) S acc h=if Wk.stays src h/\acc.length<sizeLine then match ZbK g d S with
 |none=>.bad
 |some ρ1=>(test ρ1 h).bnd λb h1=>if b then(elt ρ1 h1).bnd λx h2=>Zz src g test elt ds S (acc++[x]) h2 else Zz src g test elt ds S acc h1
 else .bad:=rfl
def Zax:ZO test body (n+1) S h=(test S h).bnd λb h1=>if b then(body S h1).bnd λp h2=>match p with
 |(.nx,ρ2)=>ZO test body n ρ2 h2
 |(.ct,ρ2)=>ZO test body n ρ2 h2
 |(.bk,ρ2)=>.ok (.nx,ρ2) h2
 |(.rt d,ρ2)=>.ok (.rt d,ρ2) h2
 else .ok (.nx,S) h1:=rfl
end
inductive Wd where
 |add|sub|mul|lt
 deriving DecidableEq
noncomputable def Wd.s:Wd->Str
 |.add=>O "+"
 |.sub=>O "-"
 |.mul=>O "*"
 |.lt=>O "<"
inductive T where
 |num (n:Int)|name (x:Str)|fn (x:Str) (e:T)|rcc (f x:Str) (e:T)|call (f a:T)|iff (c t e:T)|op (w:Wd) (a b:T)
noncomputable def T.d:T->D
 |.num n=>.tup [.str (O "num"),.int n]
 |.name x=>.tup [.str (O "name"),.str x]
 |.fn x e=>.tup [.str (O "fn"),.str x,e.d]
 |.rcc f x e=>.tup [.str (O "rec"),.str f,.str x,e.d]
 |.call f a=>.tup [.str (O "call"),f.d,a.d]
 |.iff c t e=>.tup [.str (O "if"),c.d,t.d,e.d]
 |.op w a b=>.tup [.str w.s,a.d,b.d]
noncomputable def T.parts:T->List T
 |.num _|.name _=>[]
 |.fn _ e|.rcc _ _ e=>[e]
 |.call f a=>[f,a]
 |.iff c t e=>[c,t,e]
 |.op _ a b=>[a,b]
noncomputable def T.places:T->List T
 |.num n=>[.num n]
 |.name x=>[.name x]
 |.fn x e=>.fn x e::e.places
 |.rcc f x e=>.rcc f x e::e.places
 |.call f a=>.call f a::(f.places++a.places)
 |.iff c t e=>.iff c t e::(c.places++(t.places++e.places))
 |.op w a b=>.op w a b::(a.places++b.places)
noncomputable def T.size(t:T):Nat:=t.places.length
def T.places_parts(t:T):t.places=t::t.parts.flatMap T.places:=by cases t<;>simp[T.places,T.parts]
end IV
end
section
namespace IV
open PySem L2
section
variable {U:Tb}{S:Ev}{h h1:Hd}{f:Str}{as:List D}{r:R D}
noncomputable abbrev Tb.say(U:Tb)(r:R D):Tb:=⟨U.G,U.GD,λ_ _ _=>r,U.L⟩
def ZD(e:U.C f as h1=r)(q:xs1 U s S h=xs1 (U.say (U.C f as h1)) s S h)(z:xs1 (U.say r) s S h=y):xs1 U s S h=y:=by rw[q,e,z]
def Zs(e:tst U c S h=.ok Wz h1):xs1 U (.iff c a b) S h=xs2 U a S h1:=by rw[Zln,e];rfl
def Zt(e:tst U c S h=.ok WA h1):xs1 U (.iff c a b) S h=xs2 U b S h1:=by rw[Zln,e];rfl
def Zx(q:ev U e S h=.ok d h1):xs1 U (.ret e) S h=.ok (.rt d,S) h1:=by rw[Zfp,q];rfl
def Zj(q:ev U e S h=.ok d h1):xs1 U (.set (.nm i) e) S h=.ok (.nx,S.set i (Wx d)) h1:=by rw[Zef,q];rfl
def Zca(q:evi U it S h=.ok w h1):xs1 U (.forr g it b) S h=ZK w.src g (xs2 U b) w.xs S h1:=by rw[ZfD,q];rfl
def Zk(p:ev U a S h=.ok x h1)(q:ev U b S h1=.ok y h2):ev U (.bin op a b) S h=opB op x y h2:=by rw[Zk0,p];simp only[Zp,q]
def Zw(p:ev U a S h=.ok x h1)(q:ev U b S h1=.ok y h2):ev U (.cmp op a b) S h=opC U.GD op x y h2:=by rw[ZtV,p];simp only[Zp,q]
def Zc1(q:ev U e S h=.ok (.bl b) h1):tst U (.ex e) S h=.ok b h1:=by rw[Znp,q];rfl
def Zm{b c:Bool}{y:R Bool}(q:y=.ok b h1)(e:b=c):y=.ok c h1:=e ▸ q
noncomputable def hdS:Sxs->Sx
 |.cons s _=>s
 |.nil=>.pas
noncomputable def tlS:Sxs->Sxs
 |.cons _ r=>r
 |.nil=>.nil
def rt1(e:xs1 U (hdS ss) S h=.ok (.rt d,ρ1) h2)(hs:ss=.cons (hdS ss) (tlS ss)):Zh (xs2 U ss S h)=.ok d h2:=by rw[hs,Zf e];rfl
def nx1(e:xs1 U (hdS ss) S h=.ok (.nx,ρ1) h2)(hs:ss=.cons (hdS ss) (tlS ss)):xs2 U ss S h=xs2 U (tlS ss) ρ1 h2:=by rw[hs,Za e];rfl
def Zb(p:ev U a S h=.ok x h1)(q:evs U es S h1=.ok xs h2):evs U (.cons a es) S h=.ok (x::xs) h2:=by rw[Zcx,p,Zp,q];rfl
def ZtW(p:evs U es S h=.ok xs h1):ev U (.call g es) S h=U.C g xs h1:=by rw[Zic,p];rfl
def ZjM(a:atI xs z=Wx d)(p:evs U es S h=.ok xs h)(q:ev U e S (h++[.lst xs])=.ok (.int z) (h++[.lst xs]))(hz:xs.length<=1000):ev U (.ix (.lstl es) e) S h=.ok d (h++[.lst xs]):=by rw[Zjw,Zl4,p,Zp,if_pos (OE hz (by decide)),ZqU,Zp,q,Zp,ZS (xs:=xs) (by simp),a];rfl
def Zl(e:U.C g xs h1=y)(p:evs U es S h=.ok xs h1):ev U (.call g es) S h=y:=(ZtW p).trans e
def ZV(p:evs U es S h=.ok xs h1)(hz:xs.length<=1000):ev U (.tupl es) S h=.ok (.tup xs) h1:=by rw[Zl3,p,Zp,if_pos (OE hz (by decide))]
def ZoS(p:ev U e S h=.ok x h1)(n:x≠.non):tst U (.ex (.cmp .Is e (.cst .non))) S h=.ok WA h1:=Zc1 ((Zw p rfl).trans (by rw[Zkm,decide_eq_false n]))
def ZmY(p:ev U e S h=.ok .non h1):tst U (.ex (.cmp .Is e (.cst .non))) S h=.ok Wz h1:=Zc1 ((Zw p rfl).trans (by rw[Zkm,decide_eq_true rfl]))
def Zak(p:ev U a S h=.ok (.str x) h1)(q:ev U b S h1=.ok (.str y) h2):tst U (.ex (.cmp .Eq a b)) S h=.ok (WB (x=y)) h2:=Zc1 ((Zw p q).trans (by rw[Zkn,Zgb];rfl))
def ZeS(p:ev U a S h=.ok (.int x) h1)(q:ev U b S h1=.ok (.int y) h2):tst U (.ex (.cmp .Eq a b)) S h=.ok (WB (x=y)) h2:=Zc1 ((Zw p q).trans (by rw[Zkn,Zoe];rfl))
def Zr(p:ev U a S h=.ok x h1)(q:ev U b S h1=.ok y h2):ev U (.ix a b) S h=Z5 U.GD x y h2:=by rw[Zjw,p,Zp,q,Zp]
def Zr7(p:tst U a S h=.ok Wz h1)(q:tst U b S h1=.ok c h2):tst U (.ands (.cons a (.one b))) S h=.ok c h2:=by rw[ZiB,ZeY,p];exact q
def Zwd(p:tst U a S h=.ok WA h1):tst U (.ands (.cons a (.one b))) S h=.ok WA h1:=by rw[ZiB,ZeY,p];rfl
def Zs7(p:tst U a S h=.ok Wz h1):tst U (.ors (.cons a (.one b))) S h=.ok Wz h1:=by rw[Zlu,ZfH,p];rfl
def ZmD(p:tst U a S h=.ok WA h1)(q:tst U b S h1=.ok c h2):tst U (.ors (.cons a (.one b))) S h=.ok c h2:=by rw[Zlu,ZfH,p];exact q
def ZgD(A:Tb->β)(e:U.C f as h1=r)(q:A U=A (U.say (U.C f as h1)))(z:A (U.say r)=y):A U=y:=by rw[q,e,z]
def Zv6(A:Tb->β)(eg:U.G x=Wx d)(q:A U=A ⟨λ_=>U.G x,U.GD,U.C,U.L⟩)(z:A ⟨λ_=>Wx d,U.GD,U.C,U.L⟩=y):A U=y:=by rw[q,eg,z]
end
end IV
end
section
set_option tactic.hygienic false
namespace Gn
open PySem L2 IV
noncomputable def ZbL:Sxs:=(.cons (.iff (.ex (.cmp .NotIn (.ix (.var 0) (.cst (.int 0))) (.glo (O "FORMS")))) (.cons (.ret (.tupl .nil)) .nil) .nil) (.cons (.ret (.sl (.var 0) (Wx (.bin .Add (.cst (.int 1)) (.ix (.ix (.glo (O "FORMS")) (.ix (.var 0) (.cst (.int 0)))) (.cst (.int 0))))) Wy)) .nil))
noncomputable def ZbD:Fd:=⟨[(O "E")],[(O "E")],ZbL⟩
noncomputable def ZjR:Sxs:=(.cons (.set (.nm 1) (.lstl .nil)) (.cons (.set (.nm 2) (.lstl (.cons (.var 0) .nil))) (.cons (.whl (.ex (.var 2)) (.cons (.set (.nm 3) (.meth .pop (.var 2) .nil)) (.cons (.drp (.meth .app (.var 1) (.cons (.var 3) .nil))) (.cons (.forr (.nm 4) (.rev (.call (O "parts_of") (.cons (.var 3) .nil))) (.cons (.drp (.meth .app (.var 2) (.cons (.var 4) .nil))) .nil)) .nil)))) (.cons (.ret (.var 1)) .nil))))
noncomputable def ZbC:Fd:=⟨[(O "E")],[(O "E"),(O "found"),(O "waiting"),(O "place"),(O "part")],ZjR⟩
noncomputable def Zce:Sxs:=(.cons (.iff (.ex (.cmp .Lt (.var 1) (.blt .len (.cons (.var 0) .nil)))) (.cons (.ret (.ix (.var 0) (.var 1))) .nil) .nil) (.cons (.ret (.cst (.int 0))) .nil))
noncomputable def ZM:Fd:=⟨[(O "_law_script"),(O "_law_k")],[(O "_law_script"),(O "_law_k")],Zce⟩
noncomputable def Zfh:Sxs:=(.cons (.set (.nm 2) (.bin .Add (.bin .Pow (.cst (.int 10)) (.cst (.int 30))) (.cst (.int 57)))) (.cons (.set (.nm 3) (.bin .Mult (.bin .Mod (.var 0) (.var 2)) (.cst (.int 271828182845904523536028747135)))) (.cons (.set (.nm 3) (.bin .Add (.var 3) (.bin .Mult (.bin .Mult (.var 1) (.var 1)) (.cst (.int 314159265358979323846264338327))))) (.cons (.ret (.bin .Mod (.bin .Add (.var 3) (.cst (.int 577215664901532860606512090082))) (.var 2))) .nil))))
noncomputable def ZaC:Fd:=⟨[(O "_law_cell"),(O "_law_k")],[(O "_law_cell"),(O "_law_k"),(O "_law_big"),(O "_law_number_here")],Zfh⟩
noncomputable def Zeb:Sxs:=(.cons (.set (.nm 1) (.ix (.var 0) (.cst (.int 1)))) (.cons (.put (.var 0) (.cst (.int 1)) (.bin .Add (.var 1) (.cst (.int 1)))) (.cons (.iff (.ex (.cmp .Lt (.var 1) (.blt .len (.cons (.ix (.var 0) (.cst (.int 0))) .nil)))) (.cons (.ret (.ix (.ix (.var 0) (.cst (.int 0))) (.var 1))) .nil) .nil) (.cons (.ret (.call (O "_law_mixed") (.cons (.var 1) (.cons (.cst (.int 7)) .nil)))) .nil))))
noncomputable def ZbF:Fd:=⟨[(O "_law_state")],[(O "_law_state"),(O "_law_at")],Zeb⟩
noncomputable def Zfg:Sxs:=(.cons (.set (.nm 1) (.cst (.str (O "abcdefghijklmnopqrstuvwxyz")))) (.cons (.set (.nm 2) (.bin .Add (.cst (.int 1)) (.bin .Mod (.var 0) (.cst (.int 8))))) (.cons (.set (.nm 3) (.bin .Mod (.bin .FloorDiv (.var 0) (.cst (.int 8))) (.var 2))) (.cons (.set (.nm 4) (.bin .FloorDiv (.var 0) (.cst (.int 64)))) (.cons (.set (.nm 5) (.cst (.str (O "")))) (.cons (.forr (.nm 6) (.rng (.cst (.int 8))) (.cons (.set (.nm 5) (.bin .Add (.var 5) (.ix (.var 1) (.bin .Mod (.var 4) (.cst (.int 26)))))) (.cons (.set (.nm 4) (.bin .FloorDiv (.var 4) (.cst (.int 26)))) .nil))) (.cons (.set (.nm 7) (.lstl .nil)) (.cons (.forr (.nm 6) (.rng (.cst (.int 5))) (.cons (.set (.nm 8) (.ix (.var 1) (.bin .Mod (.bin .Add (.var 4) (.bin .Mult (.cst (.int 5)) (.var 6))) (.cst (.int 26))))) (.cons (.set (.nm 9) (.bin .Add (.bin .Add (.sl (.var 5) Wy (Wx (.var 3))) (.var 8)) (.sl (.var 5) (Wx (.bin .Add (.var 3) (.cst (.int 1)))) (Wx (.var 2))))) (.cons (.iff (.ex (.cmp .Eq (.bin .Mod (.bin .FloorDiv (.var 4) (.cst (.int 26))) (.cst (.int 4))) (.cst (.int 1)))) (.cons (.set (.nm 9) (.sl (.var 5) Wy (Wx (.bin .Sub (.cst (.int 8)) (.var 6))))) .nil) .nil) (.cons (.iff (.ex (.cmp .In (.var 9) (.tupl (.cons (.cst (.str (O "fn"))) (.cons (.cst (.str (O "rec"))) (.cons (.cst (.str (O "call"))) (.cons (.cst (.str (O "if"))) .nil))))))) (.cons (.set (.nm 9) (.bin .Mult (.cst (.str (O "q"))) (.blt .len (.cons (.var 9) .nil)))) .nil) .nil) (.cons (.drp (.meth .app (.var 7) (.cons (.var 9) .nil))) .nil)))))) (.cons (.ret (.var 7)) .nil)))))))))
noncomputable def ZaB:Fd:=⟨[(O "_law_number_here")],[(O "_law_number_here"),(O "_law_letters"),(O "_law_long"),(O "_law_place"),(O "_law_rest"),(O "_law_base"),(O "_law_k"),(O "_law_found"),(O "_law_sign"),(O "_law_word")],Zfg⟩
noncomputable def Zff:Sxs:=(.cons (.set (.nm 2) (.dictl .nil)) (.cons (.forr (.two 3 4) (.pl (.var 0)) (.cons (.put (.var 2) (.var 3) (.var 4)) .nil)) (.cons (.ret (.comp [(O "_law_name"),(O "_law_wish"),(O "_law_known")] [Wy,Wx 1,Wx 2] (.pl (.blt .srt (.cons (.var 2) .nil))) (.nm 0) (Wx (.ex (.cmp .Eq (.ix (.var 2) (.var 0)) (.var 1)))) (.var 0))) .nil)))
noncomputable def ZaA:Fd:=⟨[(O "_law_scope"),(O "_law_wish")],[(O "_law_scope"),(O "_law_wish"),(O "_law_known"),(O "_law_name"),(O "_law_held")],Zff⟩
noncomputable def ZaE:Sxs:=(.cons (.iff (.ex (.cmp .Eq (.var 0) (.cst (.str (O "n"))))) (.cons (.ret (.tupl (.cons (.cst (.str (O "num"))) (.cons (.ix (.lstl (.cons (.cst (.int 0)) (.cons (.cst (.int 1)) (.cons (.cst (.int 2)) (.cons (.bin .Mod (.bin .FloorDiv (.var 1) (.cst (.int 7))) (.cst (.int 1000000))) .nil))))) (.bin .Mod (.var 1) (.cst (.int 4)))) .nil)))) .nil) .nil) (.cons (.iff (.ex (.cmp .Eq (.var 0) (.cst (.str (O "f"))))) (.cons (.ret (.tupl (.cons (.cst (.str (O "fn"))) (.cons (.cst (.str (O "w"))) (.cons (.tupl (.cons (.cst (.str (O "-"))) (.cons (.tupl (.cons (.cst (.str (O "name"))) (.cons (.cst (.str (O "w"))) .nil))) (.cons (.tupl (.cons (.cst (.str (O "num"))) (.cons (.bin .Mod (.var 1) (.cst (.int 3))) .nil))) .nil)))) .nil))))) .nil) .nil) (.cons (.ret (.tupl (.cons (.cst (.str (O "fn"))) (.cons (.cst (.str (O "w"))) (.cons (.tupl (.cons (.cst (.str (O "call"))) (.cons (.tupl (.cons (.cst (.str (O "name"))) (.cons (.cst (.str (O "w"))) .nil))) (.cons (.tupl (.cons (.cst (.str (O "num"))) (.cons (.bin .Mod (.var 1) (.cst (.int 5))) .nil))) .nil)))) .nil))))) .nil)))
noncomputable def Za9:Fd:=⟨[(O "_law_wish"),(O "_law_number_here")],[(O "_law_wish"),(O "_law_number_here")],ZaE⟩
noncomputable def Za0:Sx:=(.set (.nm 6) (.ix (.var 4) (.bin .Mod (.var 1) (.cst (.int 5)))))
noncomputable def Zaa:Sx:=(.iff (.ex (.cmp .Eq (.var 0) (.cst (.str (O "g"))))) (.cons (.ret (.tupl (.cons (.cst (.str (O "fn"))) (.cons (.var 6) (.cons (.call (O "_law_any") (.cons (.cst (.str (O "n"))) (.cons (.bin .Add (.var 2) (.lstl (.cons (.tupl (.cons (.var 6) (.cons (.cst (.str (O "f"))) .nil))) .nil))) (.cons (.var 3) (.cons (.var 4) (.cons (.var 5) .nil)))))) .nil))))) .nil) .nil)
noncomputable def Z9:Sx:=(.iff (.ex (.cmp .Eq (.bin .Mod (.bin .FloorDiv (.var 1) (.cst (.int 5))) (.cst (.int 3))) (.cst (.int 0)))) (.cons (.ret (.tupl (.cons (.cst (.str (O "fn"))) (.cons (.var 6) (.cons (.call (O "_law_any") (.cons (.cst (.str (O "n"))) (.cons (.bin .Add (.var 2) (.lstl (.cons (.tupl (.cons (.var 6) (.cons (.cst (.str (O "n"))) .nil))) .nil))) (.cons (.var 3) (.cons (.var 4) (.cons (.var 5) .nil)))))) .nil))))) .nil) .nil)
noncomputable def ZaZ:Sx:=(.set (.nm 7) (.ix (.var 4) (.bin .Mod (.bin .Add (.bin .Add (.bin .Mod (.var 1) (.cst (.int 5))) (.cst (.int 1))) (.bin .Mod (.bin .FloorDiv (.var 1) (.cst (.int 15))) (.cst (.int 4)))) (.cst (.int 5)))))
noncomputable def ZaY:Sx:=(.set (.nm 8) (.bin .Add (.var 2) (.lstl (.cons (.tupl (.cons (.var 7) (.cons (.cst (.str (O "f"))) .nil))) (.cons (.tupl (.cons (.var 6) (.cons (.cst (.str (O "n"))) .nil))) .nil)))))
noncomputable def ZaX:Sx:=(.set (.nm 9) (.tupl (.cons (.cst (.str (O "call"))) (.cons (.tupl (.cons (.cst (.str (O "name"))) (.cons (.var 7) .nil))) (.cons (.tupl (.cons (.cst (.str (O "-"))) (.cons (.tupl (.cons (.cst (.str (O "name"))) (.cons (.var 6) .nil))) (.cons (.tupl (.cons (.cst (.str (O "num"))) (.cons (.cst (.int 1)) .nil))) .nil)))) .nil)))))
noncomputable def Z8:Sx:=(.iff (.ex (.cmp .Eq (.bin .Mod (.bin .FloorDiv (.var 1) (.cst (.int 60))) (.cst (.int 3))) (.cst (.int 0)))) (.cons (.set (.nm 9) (.call (O "_law_any") (.cons (.cst (.str (O "n"))) (.cons (.var 8) (.cons (.var 3) (.cons (.var 4) (.cons (.var 5) .nil))))))) .nil) (.cons (.iff (.ex (.cmp .Eq (.bin .Mod (.bin .FloorDiv (.var 1) (.cst (.int 60))) (.cst (.int 3))) (.cst (.int 1)))) (.cons (.set (.nm 9) (.tupl (.cons (.ix (.lstl (.cons (.cst (.str (O "+"))) (.cons (.cst (.str (O "*"))) .nil))) (.bin .Mod (.bin .FloorDiv (.var 1) (.cst (.int 180))) (.cst (.int 2)))) (.cons (.call (O "_law_any") (.cons (.cst (.str (O "n"))) (.cons (.var 8) (.cons (.var 3) (.cons (.var 4) (.cons (.bin .Sub (.var 5) (.cst (.int 1))) .nil)))))) (.cons (.var 9) .nil))))) .nil) .nil) .nil))
noncomputable def Z7:Sx:=(.ret (.tupl (.cons (.cst (.str (O "rec"))) (.cons (.var 7) (.cons (.var 6) (.cons (.tupl (.cons (.cst (.str (O "if"))) (.cons (.tupl (.cons (.cst (.str (O "name"))) (.cons (.var 6) .nil))) (.cons (.var 9) (.cons (.call (O "_law_any") (.cons (.cst (.str (O "n"))) (.cons (.var 8) (.cons (.var 3) (.cons (.var 4) (.cons (.bin .Sub (.var 5) (.cst (.int 1))) .nil)))))) .nil))))) .nil))))))
noncomputable def ZgH:Sxs:=(.cons Za0 (.cons Zaa (.cons Z9 (.cons ZaZ (.cons ZaY (.cons ZaX (.cons Z8 (.cons Z7 .nil))))))))
noncomputable def Z3:Fd:=⟨[(O "_law_wish"),(O "_law_rest"),(O "_law_scope"),(O "_law_state"),(O "_law_names_here"),(O "_law_room")],[(O "_law_wish"),(O "_law_rest"),(O "_law_scope"),(O "_law_state"),(O "_law_names_here"),(O "_law_room"),(O "_law_x"),(O "_law_f"),(O "_law_inner"),(O "_law_again")],ZgH⟩
noncomputable def Zdx:Sx:=(.set (.nm 5) (.bin .Mod (.var 0) (.cst (.int 6))))
noncomputable def ZbN:Sx:=(.iff (.ex (.cmp .Eq (.var 5) (.cst (.int 0)))) (.cons (.ret (.call (O "_law_plain") (.cons (.cst (.str (O "n"))) (.cons (.bin .FloorDiv (.var 0) (.cst (.int 6))) .nil)))) .nil) .nil)
noncomputable def ZbM:Sx:=(.iff (.ex (.cmp .Lt (.var 5) (.cst (.int 3)))) (.cons (.set (.nm 6) (.call (O "_law_any") (.cons (.cst (.str (O "n"))) (.cons (.var 1) (.cons (.var 2) (.cons (.var 3) (.cons (.var 4) .nil))))))) (.cons (.ret (.tupl (.cons (.ix (.lstl (.cons (.cst (.str (O "+"))) (.cons (.cst (.str (O "-"))) (.cons (.cst (.str (O "*"))) (.cons (.cst (.str (O "<"))) .nil))))) (.bin .Mod (.bin .FloorDiv (.var 0) (.cst (.int 6))) (.cst (.int 4)))) (.cons (.var 6) (.cons (.call (O "_law_any") (.cons (.cst (.str (O "n"))) (.cons (.var 1) (.cons (.var 2) (.cons (.var 3) (.cons (.var 4) .nil)))))) .nil))))) .nil)) .nil)
noncomputable def Zdw:Sx:=(.set (.nm 7) (.ix (.lstl (.cons (.cst (.str (O "f"))) (.cons (.cst (.str (O "f"))) (.cons (.cst (.str (O "g"))) .nil)))) (.bin .Sub (.var 5) (.cst (.int 3)))))
noncomputable def Zdv:Sx:=(.set (.nm 8) (.call (O "_law_any") (.cons (.var 7) (.cons (.var 1) (.cons (.var 2) (.cons (.var 3) (.cons (.var 4) .nil)))))))
noncomputable def Zdu:Sx:=(.ret (.tupl (.cons (.cst (.str (O "call"))) (.cons (.var 8) (.cons (.call (O "_law_any") (.cons (.ix (.dictl (.cons (.cst (.str (O "f"))) (.cons (.cst (.str (O "n"))) (.cons (.cst (.str (O "g"))) (.cons (.cst (.str (O "f"))) .nil))))) (.var 7)) (.cons (.var 1) (.cons (.var 2) (.cons (.var 3) (.cons (.var 4) .nil)))))) .nil)))))
noncomputable def ZcO:Sxs:=(.cons Zdx (.cons ZbN (.cons ZbM (.cons Zdw (.cons Zdv (.cons Zdu .nil))))))
noncomputable def ZaK:Fd:=⟨[(O "_law_rest"),(O "_law_scope"),(O "_law_state"),(O "_law_names_here"),(O "_law_room")],[(O "_law_rest"),(O "_law_scope"),(O "_law_state"),(O "_law_names_here"),(O "_law_room"),(O "_law_way"),(O "_law_one"),(O "_law_wish"),(O "_law_fun")],ZcO⟩
noncomputable def Zbg:Sx:=(.put (.var 2) (.cst (.int 2)) (.bin .Sub (.ix (.var 2) (.cst (.int 2))) (.cst (.int 1))))
noncomputable def Zb1:Sx:=(.set (.nm 5) (.call (O "_law_next") (.cons (.var 2) .nil)))
noncomputable def Zbf:Sx:=(.iff (.ex (.cmp .Eq (.bin .Mod (.var 5) (.cst (.int 29))) (.cst (.int 0)))) (.cons (.set (.nm 0) (.ix (.lstl (.cons (.cst (.str (O "n"))) (.cons (.cst (.str (O "f"))) (.cons (.cst (.str (O "g"))) .nil)))) (.bin .Mod (.bin .FloorDiv (.var 5) (.cst (.int 29))) (.cst (.int 3))))) .nil) .nil)
noncomputable def Zb0:Sx:=(.set (.nm 6) (.bin .FloorDiv (.var 5) (.cst (.int 87))))
noncomputable def Zbe:Sx:=(.set (.nm 7) (.call (O "_law_there") (.cons (.var 1) (.cons (.var 0) .nil))))
noncomputable def Zbd:Sx:=(.iff (.ands (.cons (.ex (.cmp .NotEq (.var 7) (.lstl .nil))) (.one (.ex (.cmp .Eq (.bin .Mod (.var 6) (.cst (.int 3))) (.cst (.int 0))))))) (.cons (.ret (.tupl (.cons (.cst (.str (O "name"))) (.cons (.ix (.var 7) (.bin .Mod (.bin .FloorDiv (.var 6) (.cst (.int 3))) (.blt .len (.cons (.var 7) .nil)))) .nil)))) .nil) .nil)
noncomputable def ZaF:Sx:=(.iff (.ors (.cons (.ex (.cmp .Lt (.var 4) (.cst (.int 1)))) (.one (.ex (.cmp .Lt (.ix (.var 2) (.cst (.int 2))) (.cst (.int 0))))))) (.cons (.ret (.call (O "_law_plain") (.cons (.var 0) (.cons (.bin .FloorDiv (.var 6) (.cst (.int 3))) .nil)))) .nil) .nil)
noncomputable def ZbZ:Sx:=(.set (.nm 6) (.bin .FloorDiv (.var 6) (.cst (.int 30))))
noncomputable def Zbc:Sx:=(.iff (.ex (.cmp .Eq (.bin .Mod (.var 6) (.cst (.int 8))) (.cst (.int 0)))) (.cons (.set (.nm 8) (.call (O "_law_any") (.cons (.cst (.str (O "n"))) (.cons (.var 1) (.cons (.var 2) (.cons (.var 3) (.cons (.bin .Sub (.var 4) (.cst (.int 1))) .nil))))))) (.cons (.set (.nm 9) (.call (O "_law_any") (.cons (.var 0) (.cons (.var 1) (.cons (.var 2) (.cons (.var 3) (.cons (.bin .Sub (.var 4) (.cst (.int 1))) .nil))))))) (.cons (.ret (.tupl (.cons (.cst (.str (O "if"))) (.cons (.var 8) (.cons (.var 9) (.cons (.call (O "_law_any") (.cons (.var 0) (.cons (.var 1) (.cons (.var 2) (.cons (.var 3) (.cons (.bin .Sub (.var 4) (.cst (.int 1))) .nil)))))) .nil)))))) .nil))) .nil)
noncomputable def ZaS:Sx:=(.iff (.ex (.cmp .Eq (.var 0) (.cst (.str (O "n"))))) (.cons (.ret (.call (O "_law_number") (.cons (.bin .FloorDiv (.var 6) (.cst (.int 8))) (.cons (.var 1) (.cons (.var 2) (.cons (.var 3) (.cons (.bin .Sub (.var 4) (.cst (.int 1))) .nil))))))) .nil) .nil)
noncomputable def Zbr:Sx:=(.ret (.call (O "_law_function") (.cons (.var 0) (.cons (.bin .FloorDiv (.var 6) (.cst (.int 8))) (.cons (.var 1) (.cons (.var 2) (.cons (.var 3) (.cons (.bin .Sub (.var 4) (.cst (.int 1))) .nil))))))))
noncomputable def Zm9:Sxs:=(.cons Zbg (.cons Zb1 (.cons Zbf (.cons Zb0 (.cons Zbe (.cons Zbd (.cons ZaF (.cons ZbZ (.cons Zbc (.cons ZaS (.cons Zbr .nil)))))))))))
noncomputable def ZaW:Fd:=⟨[(O "_law_wish"),(O "_law_scope"),(O "_law_state"),(O "_law_names_here"),(O "_law_room")],[(O "_law_wish"),(O "_law_scope"),(O "_law_state"),(O "_law_names_here"),(O "_law_room"),(O "_law_number_here"),(O "_law_rest"),(O "_law_there_here"),(O "_law_asked_of"),(O "_law_first")],Zm9⟩
noncomputable def Zdt:Sxs:=(.cons (.ret (.bin .Add (.cst (.int 1)) (.blt .sum (.cons (.comp [(O "_law_part")] [Wy] (.pl (.var 0)) (.nm 0) (Wx (.ex (.blt .isi (.cons (.var 0) (.cons (.cst (.ty "tuple")) .nil))))) (.call (O "_law_width") (.cons (.var 0) .nil))) .nil)))) .nil)
noncomputable def Z2:Fd:=⟨[(O "_law_told")],[(O "_law_told")],Zdt⟩
noncomputable def Zec:Sxs:=(.cons (.ret (.maxd (.comp [(O "_law_part")] [Wy] (.pl (.var 0)) (.nm 0) (Wx (.ex (.blt .isi (.cons (.var 0) (.cons (.cst (.ty "tuple")) .nil))))) (.bin .Add (.cst (.int 1)) (.call (O "_law_deep") (.cons (.var 0) .nil)))) (.cst (.int 0)))) .nil)
noncomputable def Zau:Fd:=⟨[(O "_law_told")],[(O "_law_told")],Zec⟩
noncomputable def Zaq:Sx:=(.set (.nm 2) (.comp [(O "_law_k"),(O "_law_cell")] [Wy,Wy] (.enu (.sl (.var 0) (Wx (.var 1)) Wy)) (.two 0 1) Wy (.call (O "_law_mixed") (.cons (.var 1) (.cons (.bin .Add (.var 0) (.cst (.int 2))) .nil)))))
noncomputable def ZcY:Sx:=(.set (.nm 3) (.lstl (.cons (.var 2) (.cons (.cst (.int 0)) (.cons (.cst (.int 26)) .nil)))))
noncomputable def ZcX:Sx:=(.set (.nm 4) (.call (O "_law_names") (.cons (.call (O "_law_next") (.cons (.var 3) .nil)) .nil)))
noncomputable def ZcW:Sx:=(.set (.nm 5) (.call (O "_law_any") (.cons (.cst (.str (O "n"))) (.cons (.lstl .nil) (.cons (.var 3) (.cons (.var 4) (.cons (.cst (.int 7)) .nil)))))))
noncomputable def Zbl:Sx:=(.forr (.nm 6) (.rng (.cst (.int 2))) (.cons (.iff (.ex (.cmp .Lt (.call (O "_law_width") (.cons (.var 5) .nil)) (.cst (.int 50)))) (.cons (.put (.var 3) (.cst (.int 2)) (.cst (.int 12))) (.cons (.set (.nm 5) (.tupl (.cons (.cst (.str (O "+"))) (.cons (.var 5) (.cons (.call (O "_law_any") (.cons (.cst (.str (O "n"))) (.cons (.lstl .nil) (.cons (.var 3) (.cons (.var 4) (.cons (.cst (.int 6)) .nil)))))) .nil))))) .nil)) .nil) .nil))
noncomputable def Zbk:Sx:=(.iff (.ors (.cons (.ex (.cmp .Gt (.call (O "_law_width") (.cons (.var 5) .nil)) (.cst (.int 100)))) (.one (.ex (.cmp .Gt (.call (O "_law_deep") (.cons (.var 5) .nil)) (.cst (.int 20))))))) (.cons (.set (.nm 5) (.call (O "_law_plain") (.cons (.cst (.str (O "n"))) (.cons (.call (O "_law_next") (.cons (.var 3) .nil)) .nil)))) .nil) .nil)
noncomputable def ZcV:Sx:=(.ret (.var 5))
noncomputable def ZgY:Sxs:=(.cons Zaq (.cons ZcY (.cons ZcX (.cons ZcW (.cons Zbl (.cons Zbk (.cons ZcV .nil)))))))
noncomputable def Zag:Fd:=⟨[(O "_law_script"),(O "_law_start")],[(O "_law_script"),(O "_law_start"),(O "_law_cells"),(O "_law_state"),(O "_law_names_here"),(O "_law_told"),(O "_law_k")],ZgY⟩
noncomputable def Zcp:List (Key×D):=[(.inr (O "fn"),.tup [.int 1,.int 1]),(.inr (O "rec"),.tup [.int 2,.int 1]),(.inr (O "call"),.tup [.int 0,.int 2]),(.inr (O "if"),.tup [.int 0,.int 3]),(.inr (O "+"),.tup [.int 0,.int 2]),(.inr (O "-"),.tup [.int 0,.int 2]),(.inr (O "*"),.tup [.int 0,.int 2]),(.inr (O "<"),.tup [.int 0,.int 2])]
structure Tre(P:Pg):Prop where
 parts:P.tb.lookup (O "parts_of")=Wx ZbD
 g:P.G (O "FORMS")=Wx (.kd (O "FORMS"))
 gd:P.GD (O "FORMS")=Wx Zcp
 big:1000000<=P.L
def ZbU(H:Tre P)(hU:U.G=P.G/\U.GD=P.GD)(q:ev U e S h=.ok (.str w) h)(f:Zab Zcp (.inr w)=x):tst U (.ex (.cmp .NotIn e (.glo (O "FORMS")))) S h=.ok (!x.isSome) h:=by
 have g:ev U (.glo (O "FORMS")) S h=.ok (.kd (O "FORMS")) h:=by rw[Zpa,hU.1,H.g];rfl
 refine Zc1 ((Zw q g).trans ?_);rw[ZhT,hU.2,H.gd];simp only[f]
def Zl1(H:Tre P)(hU:U.G=P.G/\U.GD=P.GD)(q:ev U e S h=.ok (.str w) h)(f:Zab Zcp (.inr w)=Wx x):ev U (.ix (.glo (O "FORMS")) e) S h=.ok x h:=by
 have g:ev U (.glo (O "FORMS")) S h=.ok (.kd (O "FORMS")) h:=by rw[Zpa,hU.1,H.g];rfl
 rw[Zjw,g,Zp,q,Zp,ZqK,hU.2,H.gd];simp only[f];rfl
def ZdY:ev U (.ix (.var 0) (.cst (.int 0))) (Wx (.tup (.str w::ds))::S) h=.ok (.str w) h:=by show R.ofO (atI (D.str w::ds) 0) h=_;rw[Zwc];rfl
def ZkW(H:Tre P)(hU:U.G=P.G/\U.GD=P.GD)(e:Zab Zcp (.inr w)=Wx (.tup [.int a,.int b])):ev U (.bin .Add (.cst (.int 1)) (.ix (.ix (.glo (O "FORMS")) (.ix (.var 0) (.cst (.int 0)))) (.cst (.int 0)))) [Wx (.tup (.str w::ds))] h=.ok (.int (1+a)) h:=by refine(Zk (x:=.int 1) (y:=.int a) rfl ?_).trans rfl;rw[Zjw,Zl1 H hU ZdY e];rfl
def Zib(q:ev U e S h=.ok (.int l) h):evo U (Wx e) S h=.ok (Wx l) h:=by rw[Zo6,q];rfl
def Zly(p:ev U a S h=.ok x h)(q:evo U lo S h=.ok l h)(r:evo U hi S h=.ok u h):ev U (.sl a lo hi) S h=ZgJ x l u h:=by simp only[Zo7,p,Zp,q,r]
def Zi0(H:Tre P)(n:Nat)(h:Hd)(w:Str)(ds:List D)(e:Zab Zcp (.inr w)=Wy):run P (n+1) (O "parts_of") [.tup (.str w::ds)] h=.ok (.tup []) h:=by rw[Zc H.parts rfl];show Zh (xs2 (P.tbl n) ZbL [Wx (.tup (.str w::ds))] h)=_;rw[ZbL,Zf ((Zs (ZbU H ⟨rfl,rfl⟩ ZdY e)).trans (Zf (Zx (d:=.tup []) rfl)))];rfl
def Zcm(H:Tre P)(n:Nat)(h:Hd)(w:Str)(ds:List D)(a b:Int)(e:Zab Zcp (.inr w)=Wx (.tup [.int a,.int b])):run P (n+1) (O "parts_of") [.tup (.str w::ds)] h=.ok (.tup (cutD (.str w::ds) (Wx (1+a)) Wy)) h:=by
 rw[Zc H.parts rfl];show Zh (xs2 (P.tbl n) ZbL [Wx (.tup (.str w::ds))] h)=_;have q:=ZkW H (U:=P.tbl n) ⟨rfl,rfl⟩ (ds:=ds) (h:=h) e;have r:ev (P.tbl n) (.sl (.var 0) (Wx (.bin .Add (.cst (.int 1)) (.ix (.ix (.glo (O "FORMS")) (.ix (.var 0) (.cst (.int 0)))) (.cst (.int 0))))) Wy) [Wx (.tup (.str w::ds))] h=.ok (.tup (cutD (.str w::ds) (Wx (1+a)) Wy)) h:=by exact(Zly (a:=.var 0) (x:=.tup (.str w::ds)) rfl (Zib q) rfl).trans rfl
 rw[ZbL,Za ((Zt (ZbU H ⟨rfl,rfl⟩ ZdY e)).trans rfl),Zf (Zx r)];rfl
def Zfs(H:Tre P)(n:Nat)(t:T)(h:Hd):run P (n+1) (O "parts_of") [t.d] h=.ok (.tup (t.parts.map T.d)) h:=by
 cases t with
 |num z=>exact Zi0 H n h (O "num") _ rfl
 |name x=>exact Zi0 H n h (O "name") _ rfl
 |fn x e=>exact Zcm H n h (O "fn") _ 1 1 rfl
 |rcc f x e=>exact Zcm H n h (O "rec") _ 2 1 rfl
 |call f a=>exact Zcm H n h (O "call") _ 0 2 rfl
 |iff c a b=>exact Zcm H n h (O "if") _ 0 3 rfl
 |op w a b=>exact Zcm H n h w.s _ 0 2 (by cases w<;>rfl)
theorem Zfc(p:Option D):∀(ps:List D) (W:List D) (q:Option D),W.length+ps.length<=1000000->∃q',
 ZK Wy (.nm 4) (xs2 U (.cons (.drp (.meth .app (.var 2) (.cons (.var 4) .nil))) .nil)) ps [Wx E,Wx (.ref h.length),Wx (.ref (h.length+1)),p,q] (h++[.lst F,.lst W])
  = .ok (.nx,[Wx E,Wx (.ref h.length),Wx (.ref (h.length+1)),p,q']) (h++[.lst F,.lst (W++ps)])
 |[],W,q,hz=>⟨q,by simp⟩
 |d::ds,W,q,hz=>by
  obtain⟨q',e⟩:=Zfc (U:=U) (h:=h) (F:=F) (E:=E) p ds (W++[d]) (Wx d) (by simp at hz ⊢;lia);refine⟨q',?_⟩;have hz2:W.length<sizeLine:=by simp at hz;rw[YC];lia
  rw[Zaz];simp[Zdf,ZaI,Zge,Zos,hz2,e]
def Zki(t:T):1<=t.places.length:=by rw[T.places_parts];simp
theorem ZdX:∀W:List T,W.length<=(W.flatMap T.places).length
 |[]=>by simp
 |t::W=>by
  have:=Zki t;have:=ZdX W;rw[List.flatMap_cons,OA,Os]
  lia
theorem Zi9(H:Tre P)(n:Nat):∀(fuel:Nat) (W:List T) (F:List D) (p q:Option D),(W.flatMap T.places).length<fuel->F.length+(W.flatMap T.places).length<=900000->∃p' q',
 ZO (tst ⟨P.G,P.GD,run P (n+1),P.L⟩ (.ex (.var 2))) (xs2 ⟨P.G,P.GD,run P (n+1),P.L⟩ (.cons (.set (.nm 3) (.meth .pop (.var 2) .nil)) (.cons (.drp (.meth .app (.var 1) (.cons (.var 3) .nil))) (.cons (.forr (.nm 4) (.rev (.call (O "parts_of") (.cons (.var 3) .nil))) (.cons (.drp (.meth .app (.var 2) (.cons (.var 4) .nil))) .nil)) .nil))))
  fuel [Wx E,Wx (.ref h.length),Wx (.ref (h.length+1)),p,q] (h++[.lst F,.lst (W.map T.d).reverse])
  = .ok (.nx,[Wx E,Wx (.ref h.length),Wx (.ref (h.length+1)),p',q']) (h++[.lst (F++(W.flatMap T.places).map T.d),.lst []])
 |0,W,F,p,q,h1,h2=>by lia
 |fuel+1,[],F,p,q,h1,h2=>⟨p,q,by rw[Zax];simp[Zd4]⟩
 |fuel+1,t::W,F,p,q,h1,h2=>by
  have e0:((t::W).flatMap T.places)=t::((t.parts++W).flatMap T.places):=by rw[List.flatMap_cons,T.places_parts t,List.flatMap_append];simp
  rw[e0]at h1 h2 ⊢;have hp:t.parts.length<=3:=by cases t<;>simp[T.parts]
  simp only[Os]at h1 h2;have h3:=ZdX (t.parts++W);rw[OA]at h3;obtain⟨q1,e1⟩:=Zfc (U:=⟨P.G,P.GD,run P (n+1),P.L⟩) (h:=h) (F:=F++[t.d]) (E:=E) (Wx t.d) (t.parts.map T.d).reverse (W.map T.d).reverse q (by simp;lia);obtain⟨p',q',e2⟩:=Zi9 H (h:=h) (E:=E) n fuel (t.parts++W) (F++[t.d]) (Wx t.d) q1 (by lia) (by rw[OA,List.length_singleton];lia);refine⟨p',q',?_⟩;have hz2:F.length<sizeLine:=by rw[YC];lia
  rw[Zax];simp[Zd4,Zdf,ZaI,Zge,Zos,ZqX,hz2,Zfs H,ZfF,e1];simpa using e2
def ZnJ(H:Tre P)(hp:P.tb.lookup (O "places")=Wx ZbC)(n:Nat)(t:T)(h:Hd)(hz:t.size<=800000):run P (n+2) (O "places") [t.d] h=.ok (.ref h.length) (h++[.lst (t.places.map T.d),.lst []]):=by rw[Zc hp (by rfl)];obtain⟨p',q',e⟩:=Zi9 H (h:=h) (E:=t.d) n P.L [t] [] Wy Wy (by have:=H.big;unfold T.size at hz;simp;lia) (by unfold T.size at hz;simp;lia);simp at e;simp[ZbC,ZjR,Zu,YC,e]
end Gn
end
section
namespace IV
open PySem L2
section
variable {U:Tb}{S:Ev}{h h1 h2 h3:Hd}
def Zfm(p:ev U o S h=.ok (.ref i) h1)(l:h1[i]? = Wx (.lst ys))(q:evs U es S h1=.ok xs h2)(e:ZaI m (.ref i) xs h2=r):ev U (.meth m o es) S h=r:=by rw[Zfx,p,Zp,Zay l,if_pos rfl,q];exact e
def Zdm(q:ev U e S h=.ok d h1):xs1 U (.drp e) S h=.ok (.nx,S) h1:=by rw[Zlo,q];rfl
def ZbV(p:ev U o S h=.ok (.ref i) h1)(l:h1[i]? = Wx (.ins C fs))(f:fs.lookup m=Wy)(q:evs U es S h1=.ok xs h2)(e:U.C (mnm C m) (.ref i::xs) h2=r):ev U (.mcl C m o es) S h=r:=by rw[Zo9,p,Zp,show ZX (.ref i) h1=Wx (C,fs) by simp[ZX,l]];simp only[f,and_self,if_true,q];exact e
def Zpb(p:evi U it S h=.ok w h1)(q:Zz w.src g (tsto U c) (ev U e) w.xs (Zbp js S) [] h1=.ok xs h2):ev U (.comp NC js it g c e) S h=.ok (.ref h2.length) (h2++[.lst xs]):=by rw[Zez,p,Zp,q];rfl
def ZtS(p:ev U e S h=.ok (.tup xs) h1):evi U (.rev e) S h=.ok ⟨Wy,xs.reverse⟩ h1:=by rw[Zrg,p];rfl
def Zgw(p:ev U e S h=.ok (.tup xs) h1):evi U (.pl e) S h=.ok ⟨Wy,xs⟩ h1:=by rw[ZtT,p];rfl
def Zjv(p:evs U es S h=.ok xs h1)(hz:xs.length<=1000):ev U (.lstl es) S h=.ok (.ref h1.length) (h1++[.lst xs]):=by rw[Zl4,p,Zp,if_pos (OE hz (by decide))];rfl
def Zpc(p:evs U es S h=.ok xs h1)(q:ZbJ U.GD f xs h1=r):ev U (.blt f es) S h=r:=by rw[ZtX,p];exact q
def ZlR(e:h[i]? = Wx (.lst ys)):ZbJ GD .len [.ref i] h=.ok (.int ys.length) h:=by simp only[ZbJ,ZjU,seqOf,lstOf,e];rfl
def ZrC(p:ev U e S h=.ok (.ref i) h1)(l:h1[i]? = Wx (.lst ys)):tst U (.ex e) S h=.ok (!ys.isEmpty) h1:=by rw[Znp,p,Zp,ZpK l];rfl
def Zfq(e:test S h=.ok Wz h1)(q:body S h1=.ok (.nx,ρ1) h2):ZO test body (n+1) S h=ZO test body n ρ1 h2:=by rw[Zax,e,Zp,if_pos rfl,q];rfl
def ZhB(e:test S h=.ok WA h1):ZO test body (n+1) S h=.ok (.nx,S) h1:=by rw[Zax,e];rfl
def ZtO(p:ev U a S h=.ok (.int x) h1)(q:ev U b S h1=.ok (.int y) h2):tst U (.ex (.cmp .Gt a b)) S h=.ok (WB (y<x)) h2:=Zc1 (Zw p q)
def Ztp(p:ev U a S h=.ok (.int x) h1)(q:ev U b S h1=.ok (.int y) h2):tst U (.ex (.cmp .Lt a b)) S h=.ok (WB (x<y)) h2:=Zc1 (Zw p q)
def Zcb(b:ZbK g d S=Wx ρ1)(q:body ρ1 h=.ok (.nx,ρ2) h2):ZK Wy g body (d::ds) S h=ZK Wy g body ds ρ2 h2:=by rw[Zaz,b];simp only;rw[q];rfl
def Ziz(e:test S h=.ok Wz h1)(q:body S h1=.ok (.rt d,ρ1) h2):ZO test body (n+1) S h=.ok (.rt d,ρ1) h2:=by rw[Zax,e,Zp,if_pos rfl,q];rfl
def ZoQ(p:ev U e S h=.ok x h1):tst U (.ex (.cmp .IsNot e (.cst .non))) S h=.ok (!WB (x=.non)) h1:=Zc1 ((Zw p rfl).trans Zog)
def Zo2(b:ZbK g d S=Wx ρ1)(q:body ρ1 h=.ok (.rt x,ρ2) h2):ZK Wy g body (d::ds) S h=.ok (.rt x,ρ2) h2:=by rw[Zaz,b];simp only;rw[q];rfl
variable {c:Str}
def Zc4(q:xs1 U s S h=.exc c h1):xs2 U (.cons s r) S h=.exc c h1:=by rw[xs2,q];rfl
def Zjz(q:ev U e S h=.exc c h1):xs1 U (.drp e) S h=.exc c h1:=by rw[Zlo,q];rfl
def ZnA(q:ev U e S h=.exc c h1):xs1 U (.set (.nm i) e) S h=.exc c h1:=by rw[Zef,q];rfl
def ZuS(q:ev U e S h=.ok d h1):xs1 U (.rai c e) S h=.exc c h1:=by rw[xs1,q];rfl
def ZpC(e:test S h=.ok Wz h1)(q:body S h1=.exc c h2):ZO test body (n+1) S h=.exc c h2:=by rw[Zax,e,Zp,if_pos rfl,q];rfl
def Zo1(b:ZbK g d S=Wx ρ1)(q:body ρ1 h=.exc c h2):ZK Wy g body (d::ds) S h=.exc c h2:=by rw[Zaz,b];simp only;rw[q];rfl
def Zju(p:ev U a S h=.exc c h1):evs U (.cons a es) S h=.exc c h1:=by rw[Zcx,p];rfl
def Zh9(p:ev U a S h=.ok x h1)(q:evs U es S h1=.exc c h2):evs U (.cons a es) S h=.exc c h2:=by rw[Zcx,p,Zp,q];rfl
def ZrT(p:evs U es S h=.exc c h1):ev U (.tupl es) S h=.exc c h1:=by rw[Zl3,p];rfl
def ZvV(p:ev U o S h=.ok (.ref i) h1)(l:h1[i]? = Wx (.ins C fs))(f:fs.lookup m=Wy)(q:evs U es S h1=.exc c h2):ev U (.mcl C m o es) S h=.exc c h2:=by rw[Zo9,p,Zp,show ZX (.ref i) h1=Wx (C,fs) by simp[ZX,l]];simp only[f,and_self,if_true,q];rfl
def Zsh(p:evs U es S h=.ok xs h1)(q:U.C f xs h1=.ok d h2):xs1 U (.trs i f es c) S h=.ok (.nx,S.set i (Wx d)) h2:=by rw[xs1,p];show ZgB c i S (U.C f xs h1)=_;rw[q];rfl
def Zuw(p:evs U es S h=.ok xs h1)(q:U.C f xs h1=.exc c h2):xs1 U (.trs i f es c) S h=.ok (.nx,S.set i (Wx .non)) h2:=by rw[xs1,p];show ZgB c i S (U.C f xs h1)=_;rw[q];simp[ZgB]
end
end IV
end
section
set_option tactic.hygienic false
set_option exponentiation.threshold 3000
namespace Gn
open PySem L2 IV
def Up(i:Nat)(h h':Hd):Prop:=h.length<=h'.length/\∀m,m<h.length->m≠i->h'[m]? = h[m]?
def Up.refl:Up i h h:=⟨Oq _,λ_ _ _=>rfl⟩
theorem Up.trans(x:Up i a b)(y:Up i b c):Up i a c:=⟨OE x.1 y.1,λm h1 h2=>(y.2 m (O4 h1 x.1) h2).trans (x.2 m h1 h2)⟩
theorem Up.set:Up i h (h.set i o):=⟨by simp,λm _ h2=>by rw[Oc (YL h2)]⟩
def Up.app:Up i h (h++g):=⟨by simp,λm h1 _=>Oe h1⟩
def ZN{h:Hd}(e:h[i]? = Wx o):i<h.length:=(Ob.mp e).1
def Up.at{i m:Nat}(u:Up i h h')(e:h[m]? = Wx o)(ne:m≠i):h'[m]? = Wx o:=(u.2 m (ZN e) ne).trans e
def Alk(P:Pg)(f:Str)(fd:Fd):Prop:=∃ps N,ps.length=fd.ps.length/\N.length=fd.N.length/\P.tb.lookup f=Wx ⟨ps,N,fd.body⟩
def Alk.same(e:P.tb.lookup f=Wx fd):Alk P f fd:=⟨fd.ps,fd.N,rfl,rfl,e⟩
def Zfr(e:Alk P f fd)(hl:ds.length=fd.ps.length):run P (n+1) f ds h=Zh (xs2 ⟨P.G,P.GD,run P n,P.L⟩ fd.body (Zu fd.N ds) h):=by obtain⟨ps,N,h1,h2,e⟩:=e;rw[Zc e (hl.trans h1.symm)];unfold Zu;rw[h2]
structure Mkr(P:Pg):Prop where
 mixed:P.tb.lookup (O "_law_mixed")=Wx ZaC
 next:P.tb.lookup (O "_law_next")=Wx ZbF
 names:P.tb.lookup (O "_law_names")=Wx ZaB
 there:P.tb.lookup (O "_law_there")=Wx ZaA
 plain:P.tb.lookup (O "_law_plain")=Wx Za9
 function:Alk P (O "_law_function") Z3
 number:Alk P (O "_law_number") ZaK
 any:Alk P (O "_law_any") ZaW
 width:P.tb.lookup (O "_law_width")=Wx Z2
 deep:P.tb.lookup (O "_law_deep")=Wx Zau
 program:Alk P (O "_law_program") Zag
structure Gen(P:Pg):Prop extends Tre P,Mkr P
noncomputable def big:Int:=1000000000000000000000000000057
noncomputable def mixed(c k:Int):Int:=(c % big * 271828182845904523536028747135+k * k * 314159265358979323846264338327+577215664901532860606512090082) % big
def ZZ(h:-(2 ^ 128)<i)(h2:i<2 ^ 128):i.natAbs<2 ^ 2000:=by
 have:i.natAbs<2 ^ 128:=by lia
 exact O4 this (Nat.pow_le_pow_right (by decide) (by decide))
def Zml(hk:-(2 ^ 60)<k/\k<2 ^ 60):0<=k * k/\k * k<2 ^ 120:=by
 have a:k.natAbs<2 ^ 60:=by lia
 have b:k.natAbs * k.natAbs<2 ^ 60 * 2 ^ 60:=Nat.mul_lt_mul'' a a;have c2:((k.natAbs * k.natAbs:Nat):Int)=k * k:=Int.natAbs_mul_self;rw[<- c2];constructor
 . lia
 . have:((k.natAbs * k.natAbs:Nat):Int)<((2 ^ 60 * 2 ^ 60:Nat):Int):=Int.ofNat_lt.mpr b;exact this
def ZhL(H:Mkr P)(n:Nat)(c k:Int)(h:Hd)(hk:-(2 ^ 60)<k/\k<2 ^ 60):run P (n+1) (O "_law_mixed") [.int c,.int k] h=.ok (.int (mixed c k)) h:=by
 rw[Zc H.mixed rfl];have hp:opB .Pow (.int 10) (.int 30) h=.ok (.int 1000000000000000000000000000000) h:=by show(if (0:Int)<=30/\(30:Int)<=1000000/\(10:Int).natAbs<2 ^ 64 then R.ok (D.int (10 ^ (30:Int).toNat)) h else R.bad)=_;rw[if_pos (by decide)];rfl
 have h1:0<=c % 1000000000000000000000000000057/\c % 1000000000000000000000000000057<1000000000000000000000000000057:=⟨Int.emod_nonneg _ (by decide),Int.emod_lt_of_pos _ (by decide)⟩
 have hkk:=Zml hk;have e1:opB .Mod (.int c) (.int 1000000000000000000000000000057) h=.ok (.int (c % 1000000000000000000000000000057)) h:=ZR (by decide);have e2:opB .Mult (.int (c % 1000000000000000000000000000057)) (.int 271828182845904523536028747135) h=.ok (.int (c % 1000000000000000000000000000057 * 271828182845904523536028747135)) h:=Zer ⟨ZZ (by lia) (by lia),ZZ (by decide) (by decide)⟩;have e3:opB .Mult (.int k) (.int k) h=.ok (.int (k * k)) h:=Zer ⟨ZZ (by lia) (by lia),ZZ (by lia) (by lia)⟩;have e4:opB .Mult (.int (k * k)) (.int 314159265358979323846264338327) h=.ok (.int (k * k * 314159265358979323846264338327)) h:=Zer ⟨ZZ (by lia) (by lia),ZZ (by decide) (by decide)⟩;have e5:opB .Mod (.int (c % 1000000000000000000000000000057 * 271828182845904523536028747135+k * k * 314159265358979323846264338327+577215664901532860606512090082)) (.int 1000000000000000000000000000057) h=.ok (.int (mixed c k)) h:=ZR (by decide);simp[ZaC,Zfh,Zu,hp,e1,e2,e3,e4,e5]
def St3(h:Hd)(i j:Nat)(cs:List Int)(at' b:Int):Prop:=h[i]? = Wx (.lst [.ref j,.int at',.int b])/\h[j]? = Wx (.lst (cs.map .int))/\i≠j
def Zkd{P:Pg}(H:Mkr P)(n:Nat)(st:St3 h i j cs a b)(ha:0<=a/\a<2 ^ 50):∃v,run P (n+2) (O "_law_next") [.ref i] h=.ok (.int v) (h.set i (.lst [.ref j,.int (a+1),.int b]))/\(v∈cs\/v=mixed a 7):=by
 obtain⟨h1,h2,ne⟩:=st;rw[Zc H.next (by rfl)];have i1:=ZN h1;have i2:(h.set i (.lst [.ref j,.int (a+1),.int b]))[i]? = Wx (.lst [.ref j,.int (a+1),.int b]):=by rw[Ol i1]
 have i3:(h.set i (.lst [.ref j,.int (a+1),.int b]))[j]? = Wx (.lst (cs.map .int)):=by rw[Oc ne];exact h2
 have hput:Zbo (.ref i) (.int 1) (.int (a+1)) h=.ok () (h.set i (.lst [.ref j,.int (a+1),.int b])):=by simp only[Zbo,h1];rfl
 have x1:xs1 (P.tbl (n+1)) (.set (.nm 1) (.ix (.var 0) (.cst (.int 1)))) [Wx (.ref i),Wy] h=.ok (.nx,[Wx (.ref i),Wx (.int a)]) h:=Zj ((Zr rfl rfl).trans ((ZS h1).trans rfl));have x2:xs1 (P.tbl (n+1)) (.put (.var 0) (.cst (.int 1)) (.bin .Add (.var 1) (.cst (.int 1)))) [Wx (.ref i),Wx (.int a)] h=.ok (.nx,[Wx (.ref i),Wx (.int a)]) (h.set i (.lst [.ref j,.int (a+1),.int b])):=by rw[Zlm];show(Zbo (.ref i) (.int 1) (.int (a+1)) h).bnd _=_;rw[hput];rfl
 generalize h.set i (.lst [.ref j,.int (a+1),.int b])=h' at *;have e0:ev (P.tbl (n+1)) (.ix (.var 0) (.cst (.int 0))) [Wx (.ref i),Wx (.int a)] h'=.ok (.ref j) h':=(Zr rfl rfl).trans ((ZS i2).trans rfl);have tt:tst (P.tbl (n+1)) (.ex (.cmp .Lt (.var 1) (.blt .len (.cons (.ix (.var 0) (.cst (.int 0))) .nil)))) [Wx (.ref i),Wx (.int a)] h'=.ok (WB (a<(cs.map D.int).length)) h':=Ztp rfl (Zpc (Zb e0 rfl) (ZlR i3));rw[Yu]at tt;have x3:xs2 (P.tbl (n+1)) Zeb [Wx (.ref i),Wy] h=xs2 (P.tbl (n+1)) (tlS (tlS Zeb)) [Wx (.ref i),Wx (.int a)] h':=(nx1 x1 rfl).trans (nx1 x2 rfl);by_cases hc:a<cs.length
 . obtain⟨k,rfl⟩:∃k:Nat,a=k:=⟨a.toNat,by lia⟩
   have hk:k<cs.length:=by lia
   have hat:atI (cs.map D.int) (k:Int)=Wx (.int cs[k]):=by rw[IV.Zb2,On,Og hk];rfl
   exact⟨cs[k],(congrArg Zh x3).trans (rt1 ((Zs (Zm tt (decide_eq_true hc))).trans (Zf (Zx ((Zr e0 rfl).trans ((ZS i3).trans (by rw[hat];rfl)))))) rfl),.inl (List.getElem_mem hk)⟩
 . exact⟨mixed a 7,(congrArg Zh (x3.trans (nx1 ((Zt (Zm tt (decide_eq_false hc))).trans rfl) rfl))).trans (rt1 (Zx (Zl (ZhL H n a 7 _ (by decide)) rfl)) rfl),.inr rfl⟩
def Cl:List Str->T->Prop
 |_,.num n=>0<=n/\n<1000000
 |sc,.name x=>x∈sc
 |sc,.fn x e=>Cl (x::sc) e
 |sc,.rcc f x e=>Cl (x::f::sc) e/\f≠x
 |sc,.call f a=>Cl sc f/\Cl sc a
 |sc,.iff c t e=>Cl sc c/\Cl sc t/\Cl sc e
 |sc,.op _ a b=>Cl sc a/\Cl sc b
noncomputable def dep:T->Nat
 |.num _|.name _=>0
 |.fn _ e|.rcc _ _ e=>dep e+1
 |.call f a=>max (dep f) (dep a)+1
 |.iff c t e=>max (dep c) (max (dep t) (dep e))+1
 |.op _ a b=>max (dep a) (dep b)+1
def at4(k:Int)(h0:0<=k)(h4:k<4):∃v,atI [D.int a,.int b,.int c,.int d] k=Wx (.int v)/\(v=a\/v=b\/v=c\/v=d):=by
 have:k=0\/k=1\/k=2\/k=3:=by lia
 rcases this with rfl|rfl|rfl|rfl
 . exact⟨a,by simp,.inl rfl⟩
 . exact⟨b,by simp,.inr (.inl rfl)⟩
 . exact⟨c,by simp,.inr (.inr (.inl rfl))⟩
 . exact⟨d,by simp,.inr (.inr (.inr rfl))⟩
def ZhK(H:Mkr P)(n:Nat)(w:Str)(v:Int)(h:Hd)(sc:List Str):∃t g,run P (n+1) (O "_law_plain") [.str w,.int v] h=.ok (T.d t) (h++g)/\Cl sc t/\dep t<=2/\t.size<=4:=by
 rw[Zc H.plain (by rfl)];by_cases w1:w=O "n"
 . obtain⟨u,e,hu⟩:=at4 (a:=0) (b:=1) (c:=2) (d:=v / 7 % 1000000) (v % 4) (by lia) (by lia);refine⟨.num u,[.lst [.int 0,.int 1,.int 2,.int (v / 7 % 1000000)]],?_,by show 0<=u/\u<1000000;lia,by show 0<=2;lia,by show 1<=4;lia⟩;exact rt1 (U:=P.tbl n) (ss:=ZaE) ((Zs (Zm (Zak rfl rfl) (decide_eq_true w1))).trans (Zf (Zx (ZV (Zb rfl (Zb (ZjM e (Zb rfl (Zb rfl (Zb rfl (Zb ((Zk (x:=.int (v / 7)) ((Zk rfl rfl).trans (ZcD (by decide))) rfl).trans (ZR (by decide))) rfl)))) ((Zk rfl rfl).trans (ZR (by decide))) (Nat.le_of_ble_eq_true rfl)) rfl)) (Nat.le_of_ble_eq_true rfl))))) rfl
 . have x1:xs2 (P.tbl n) ZaE [Wx (.str w),Wx (.int v)] h=xs2 (P.tbl n) (tlS ZaE) [Wx (.str w),Wx (.int v)] h:=nx1 ((Zt (Zm (Zak rfl rfl) (decide_eq_false w1))).trans rfl) rfl;by_cases w2:w=O "f"
   . refine⟨.fn (O "w") (.op .sub (.name (O "w")) (.num (v % 3))),[],?_,?_,by simp only[dep];lia,by show 4<=4;lia⟩
     . rw[Yt];exact(congrArg Zh x1).trans (rt1 (U:=P.tbl n) (ss:=tlS ZaE) ((Zs (Zm (Zak rfl rfl) (decide_eq_true w2))).trans (Zf (Zx (ZV (Zb rfl (Zb rfl (Zb (ZV (Zb rfl (Zb rfl (Zb (ZV (Zb rfl (Zb ((Zk rfl rfl).trans (ZR (by decide))) rfl)) (Nat.le_of_ble_eq_true rfl)) rfl))) (Nat.le_of_ble_eq_true rfl)) rfl))) (Nat.le_of_ble_eq_true rfl))))) rfl)
     . exact⟨Oi,by show 0<=v % 3/\v % 3<1000000;lia⟩
   . refine⟨.fn (O "w") (.call (.name (O "w")) (.num (v % 5))),[],?_,?_,by simp only[dep];lia,by show 4<=4;lia⟩
     . rw[Yt];exact(congrArg Zh (x1.trans (nx1 ((Zt (Zm (Zak rfl rfl) (decide_eq_false w2))).trans rfl) rfl))).trans (rt1 (U:=P.tbl n) (ss:=tlS (tlS ZaE)) (Zx (ZV (Zb rfl (Zb rfl (Zb (ZV (Zb rfl (Zb rfl (Zb (ZV (Zb rfl (Zb ((Zk rfl rfl).trans (ZR (by decide))) rfl)) (Nat.le_of_ble_eq_true rfl)) rfl))) (Nat.le_of_ble_eq_true rfl)) rfl))) (Nat.le_of_ble_eq_true rfl))) rfl)
     . exact⟨Oi,by show 0<=v % 5/\v % 5<1000000;lia⟩
noncomputable def ZF:Str:=O "abcdefghijklmnopqrstuvwxyz"
def Zi8:ZF.length=26:=by decide +kernel
def Zkw:Yp ZF=Wz:=by decide +kernel
def Wl(n:Nat)(x:Str):Prop:=Yp x=Wz/\x.length<=n
noncomputable def ltr(k:Int):Nat:=ZF.cps.toList.getD k.toNat 0
noncomputable def lt1(k:Int):Str:=⟨#[ltr k]⟩
def Zkx(k:Int)(h0:0<=k)(h1:k<26):Z5 GD (.str ZF) (.int k) h=.ok (.str (lt1 k)) h/\Wl 1 (lt1 k):=by
 obtain⟨m,rfl⟩:∃m:Nat,k=m:=⟨k.toNat,by lia⟩
 have hl:ZF.cps.toList.length=26:=by decide +kernel
 have hm:m<ZF.cps.toList.length:=by lia
 have el:ltr m=ZF.cps.toList[m]:=by show ZF.cps.toList.getD (m:Int).toNat 0=_;rw[Int.toNat_natCast,List.getD_eq_getElem?_getD,Og hm];rfl
 have e:atI ZF.cps.toList (m:Int)=Wx ZF.cps.toList[m]:=by rw[IV.Zb2,Og hm]
 unfold lt1;rw[el];refine⟨?_,Zko Zkw (List.getElem_mem hm),by show(#[ZF.cps.toList[m]]:Array Nat).size<=1;simp⟩;have q:Z5 GD (.str ZF) (.int (m:Int)) h=if ZF.length<=sizeLine then R.ofO ((atI ZF.cps.toList (m:Int)).map λc=>.str ⟨#[c]⟩) h else .bad:=rfl;rw[q,if_pos (by rw[Zi8,YC];decide),e];rfl
def len_cat{x y:Str}:(x++y).length=x.length+y.length:=by show(x.cps++y.cps).size=_;rw[Array.size_append];rfl
def ZeD{x y:Str}(hx:Wl a x)(hy:Wl b y)(hz:a+b<=1000):opB .Add (.str x) (.str y) h=.ok (.str (x++y)) h/\Wl (a+b) (x++y):=by have hl:(x++y).length=x.length+y.length:=len_cat;refine⟨if_pos (by rw[YC];have:=hx.2;have:=hy.2;lia),Zhh hx.1 hy.1,by rw[hl];have:=hx.2;have:=hy.2;lia⟩
theorem ZoB{U:Tb}:∀(ks:List Int) (r:Int) (x:Str) (m:Nat) (k:Option D),Wl m x->x.length=m->m+ks.length<=100->∃r' x' k',Wl (m+ks.length) x'/\x'.length=m+ks.length /\
 ZK Wy (.nm 6) (xs2 U (.cons (.set (.nm 5) (.bin .Add (.var 5) (.ix (.var 1) (.bin .Mod (.var 4) (.cst (.int 26)))))) (.cons (.set (.nm 4) (.bin .FloorDiv (.var 4) (.cst (.int 26)))) .nil))) (ks.map D.int) [a,Wx (.str ZF),l,p,Wx (.int r),Wx (.str x),k,f,sg,wd] h
  = .ok (.nx,[a,Wx (.str ZF),l,p,Wx (.int r'),Wx (.str x'),k',f,sg,wd]) h
 |[],r,x,m,k,hx,hn,hm=>⟨r,x,k,hx,hn,rfl⟩
 |c::cs,r,x,m,k,hx,hn,hm=>by
  obtain⟨e1,hy⟩:=Zkx (GD:=U.GD) (h:=h) (r % 26) (by lia) (by lia);obtain⟨e2,hxy⟩:=ZeD (h:=h) hx hy (by simp at hm;lia);obtain⟨r',x',k',h1,h2,e3⟩:=ZoB (U:=U) (h:=h) (a:=a) (l:=l) (p:=p) (f:=f) (sg:=sg) (wd:=wd) cs (r / 26) (x++lt1 (r % 26)) (m+1) (Wx (.int c)) hxy (by rw[len_cat,hn];rfl) (by simp at hm ⊢;lia);have hcl:m+(c::cs).length=m+1+cs.length:=by rw[Os];lia
  refine⟨r',x',k',by rw[hcl];exact h1,by rw[hcl];exact h2,?_⟩;have e4:opB .Mod (.int r) (.int 26) h=.ok (.int (r % 26)) h:=ZR (by decide);have e5:opB .FloorDiv (.int r) (.int 26) h=.ok (.int (r / 26)) h:=ZcD (by decide);rw[Op,Zaz];simp[e4,e1,e2,e5,e3]
def Zsx(x:Str)(l u:Option Int):(Yq x l u).length<=x.length:=by
 unfold Yq;split
 . exact Oq _
 . show((Builtin.Str.strSliceIndices l u 1 x.length).filterMap (x.cps[·]?)).toArray.size<=_;rw[Of];refine OE (List.length_filterMap_le _ _) ?_;unfold Builtin.Str.strSliceIndices;refine PySem.sliceRange_length_le _ _ _ _ (λ_=>?_) (λz=>absurd (by decide) z);cases l<;>cases u<;>simp<;>lia
def ZdD(hx:Wl m x)(hm:m<=1000)(l u:Option Int):ZgJ (.str x) l u h=.ok (.str (Yq x l u)) h/\Wl m (Yq x l u):=by
 refine⟨if_pos (by rw[YC];have:=hx.2;lia),Zoi hx.1 (ZfN _ _ _),?_⟩;have:=hx.2;have q:(Yq x l u).length<=x.length:=Zsx x l u
 lia
def in4:opC GD .In (.str x) (.tup [.str (O "fn"),.str (O "rec"),.str (O "call"),.str (O "if")]) h=.ok (.bl (WB (x∈[O "fn",O "rec",O "call",O "if"]))) h:=ZcB (ss:=[O "fn",O "rec",O "call",O "if"])
def len_str(hx:Wl m x)(hm:m<=1000):ZbJ GD .len [.str x] h=.ok (.int x.length) h:=by show(if x.length<=sizeLine then _ else _)=_;exact if_pos (by rw[YC];have:=hx.2;lia)
def ZrK(hx:Wl m x)(hm:m<=1000):opB .Mult (.str (O "q")) (.int x.length) h=.ok (.str (ZeM (O "q") x.length)) h/\Wl m (ZeM (O "q") x.length):=by
 have hq:(O "q").length=1:=by decide +kernel
 have:=hx.2;refine⟨if_pos ⟨by lia,by lia,by rw[hq];decide⟩,Zoj (by decide +kernel) _,?_⟩;rw[Zeo,hq]
 lia
noncomputable def nmW(b:Str)(l p r c:Int):Str:=if r / 26 % 4=1 then Yq b Wy (Wx (8 - c))else Yq b Wy (Wx p)++lt1 ((r+5 * c) % 26)++Yq b (Wx (p+1)) (Wx l)
noncomputable def nmQ(w:Str):Str:=if w∈[O "fn",O "rec",O "call",O "if"]then ZeM (O "q") w.length else w
noncomputable def nm(b:Str)(l p r c:Int):Str:=nmQ (nmW b l p r c)
def Zom(hb:Wl 8 b)(l p r c:Int):Wl 20 (nmW b l p r c):=by
 unfold nmW;split
 . have q:=(ZdD (h:=[]) hb (by decide) Wy (Wx (8 - c))).2;exact⟨q.1,by have:=q.2;lia⟩
 . have q1:=(ZdD (h:=[]) hb (by decide) Wy (Wx p)).2;have q2:=(Zkx (GD:=λ_=>Wy) (h:=[]) ((r+5 * c) % 26) (by lia) (by lia)).2;have q3:=(ZdD (h:=[]) hb (by decide) (Wx (p+1)) (Wx l)).2;have q:=(ZeD (h:=[]) (ZeD (h:=[]) q1 q2 (by decide)).2 q3 (by decide)).2;exact⟨q.1,by have:=q.2;lia⟩
def Zvp(hb:Wl 8 b)(l p r c:Int):Wl 20 (nm b l p r c):=by
 unfold nm nmQ;split
 . exact(ZrK (h:=[]) (Zom hb l p r c) (by decide)).2
 . exact Zom hb l p r c
noncomputable def Ztw:Sx:=.set (.nm 8) (.ix (.var 1) (.bin .Mod (.bin .Add (.var 4) (.bin .Mult (.cst (.int 5)) (.var 6))) (.cst (.int 26))))
noncomputable def Ztv:Sx:=.set (.nm 9) (.bin .Add (.bin .Add (.sl (.var 5) Wy (Wx (.var 3))) (.var 8)) (.sl (.var 5) (Wx (.bin .Add (.var 3) (.cst (.int 1)))) (Wx (.var 2))))
noncomputable def Ztr:Tx:=.ex (.cmp .Eq (.bin .Mod (.bin .FloorDiv (.var 4) (.cst (.int 26))) (.cst (.int 4))) (.cst (.int 1)))
noncomputable def Zvz:Sx:=.set (.nm 9) (.sl (.var 5) Wy (Wx (.bin .Sub (.cst (.int 8)) (.var 6))))
noncomputable def Ztq:Exs:=(.cons (.cst (.str (O "fn"))) (.cons (.cst (.str (O "rec"))) (.cons (.cst (.str (O "call"))) (.cons (.cst (.str (O "if"))) .nil))))
noncomputable def ZvA:Sx:=.set (.nm 9) (.bin .Mult (.cst (.str (O "q"))) (.blt .len (.cons (.var 9) .nil)))
noncomputable def Ztt:Sx:=.drp (.meth .app (.var 7) (.cons (.var 9) .nil))
noncomputable def Zts:Sxs:=.cons (.iff (.ex (.cmp .In (.var 9) (.tupl Ztq))) (.cons ZvA .nil) .nil) (.cons Ztt .nil)
noncomputable def Ztu:Sxs:=.cons Ztw (.cons Ztv (.cons (.iff Ztr (.cons Zvz .nil) .nil) Zts))
noncomputable def vn(a:Option D)(l p r:Int)(b:Str)(q:Nat)(k sg wd:Option D):Ev:=[a,Wx (.str ZF),Wx (.int l),Wx (.int p),Wx (.int r),Wx (.str b),k,Wx (.ref q),sg,wd]
def Zox(hw:Wl 20 wd)(hz:ds.length<16777216):xs2 U Zts (vn a l p r b h.length k sg (Wx (.str wd))) (h++[.lst ds])=.ok (.nx,vn a l p r b h.length k sg (Wx (.str (nmQ wd)))) (h++[.lst (ds++[.str (nmQ wd)])]):=by
 have ap:∀w:Str,xs1 U Ztt (vn a l p r b h.length k sg (Wx (.str w))) (h++[.lst ds])=.ok (.nx,vn a l p r b h.length k sg (Wx (.str w))) (h++[.lst (ds++[.str w])]):=λw=>by have e:=Zdm (Zfm (U:=U) (S:=vn a l p r b h.length k sg (Wx (.str w))) (o:=.var 7) (es:=.cons (.var 9) .nil) rfl Zc2 rfl (Zbx (d:=.str w) (Zc2 (h:=h) (x:=.lst ds) (r:=[])) (by rw[YC];exact hz)));rw[show(h++[DO.lst ds]).set h.length (.lst (ds++[.str w]))=h++[.lst (ds++[.str w])] by simp]at e;exact e
 have i4:tst U (.ex (.cmp .In (.var 9) (.tupl Ztq))) (vn a l p r b h.length k sg (Wx (.str wd))) (h++[.lst ds])=.ok (WB (wd∈[O "fn",O "rec",O "call",O "if"])) (h++[.lst ds]):=Zc1 ((Zw (x:=.str wd) rfl (ZV (xs:=[.str (O "fn"),.str (O "rec"),.str (O "call"),.str (O "if")]) rfl (by decide))).trans in4);unfold nmQ;by_cases hin:wd∈[O "fn",O "rec",O "call",O "if"]
 . rw[if_pos hin];exact(Za ((Zs (Zm i4 (decide_eq_true hin))).trans ((Za (Zj ((Zk rfl (Zpc rfl (len_str hw (by decide)))).trans (ZrK hw (by decide)).1))).trans rfl))).trans ((Za (ap _)).trans rfl)
 . rw[if_neg hin];exact(Za ((Zt (Zm i4 (decide_eq_false hin))).trans rfl)).trans ((Za (ap _)).trans rfl)
def ZvB(hb:Wl 8 b)(hc:0<=c/\c<100)(hz:ds.length<16777216):xs2 U Ztu (vn a l p r b h.length (Wx (.int c)) sg wd) (h++[.lst ds])=.ok (.nx,vn a l p r b h.length (Wx (.int c)) (Wx (.str (lt1 ((r+5 * c) % 26)))) (Wx (.str (nm b l p r c)))) (h++[.lst (ds++[.str (nm b l p r c)])]):=by
 obtain⟨e1,hy⟩:=Zkx (GD:=U.GD) (h:=h++[.lst ds]) ((r+5 * c) % 26) (by lia) (by lia);obtain⟨f1,w1⟩:=ZdD (h:=h++[.lst ds]) hb (by decide) Wy (Wx p);obtain⟨f2,w2⟩:=ZdD (h:=h++[.lst ds]) hb (by decide) (Wx (p+1)) (Wx l);obtain⟨f3,w3⟩:=ZdD (h:=h++[.lst ds]) hb (by decide) Wy (Wx (8 - c));obtain⟨c1,v1⟩:=ZeD (h:=h++[.lst ds]) w1 hy (by decide);obtain⟨c2,v2⟩:=ZeD (h:=h++[.lst ds]) v1 w2 (by decide);have m5:opB .Mult (.int 5) (.int c) (h++[.lst ds])=.ok (.int (5 * c)) (h++[.lst ds]):=Zer ⟨ZZ (by decide) (by decide),ZZ (by lia) (by lia)⟩;unfold nm nmW;generalize lt1 ((r+5 * c) % 26)=y at *;have x8:xs1 U Ztw (vn a l p r b h.length (Wx (.int c)) sg wd) (h++[.lst ds])=.ok (.nx,vn a l p r b h.length (Wx (.int c)) (Wx (.str y)) wd) (h++[.lst ds]):=Zj ((Zr (x:=.str ZF) rfl ((Zk (x:=.int (r+5 * c)) ((Zk rfl ((Zk rfl rfl).trans m5)).trans rfl) rfl).trans (ZR (by decide)))).trans e1);have g1:ev U (.sl (.var 5) Wy (Wx (.var 3))) (vn a l p r b h.length (Wx (.int c)) (Wx (.str y)) wd) (h++[.lst ds])=.ok (.str (Yq b Wy (Wx p))) (h++[.lst ds]):=f1;have g2:ev U (.sl (.var 5) (Wx (.bin .Add (.var 3) (.cst (.int 1)))) (Wx (.var 2))) (vn a l p r b h.length (Wx (.int c)) (Wx (.str y)) wd) (h++[.lst ds])=.ok (.str (Yq b (Wx (p+1)) (Wx l))) (h++[.lst ds]):=f2;have g3:∀w,ev U (.sl (.var 5) Wy (Wx (.bin .Sub (.cst (.int 8)) (.var 6)))) (vn a l p r b h.length (Wx (.int c)) (Wx (.str y)) w) (h++[.lst ds])=.ok (.str (Yq b Wy (Wx (8 - c)))) (h++[.lst ds]):=λ_=>f3;have x9:xs1 U Ztv (vn a l p r b h.length (Wx (.int c)) (Wx (.str y)) wd) (h++[.lst ds])=.ok (.nx,vn a l p r b h.length (Wx (.int c)) (Wx (.str y)) (Wx (.str (Yq b Wy (Wx p)++y++Yq b (Wx (p+1)) (Wx l))))) (h++[.lst ds]):=Zj ((Zk ((Zk g1 rfl).trans c1) g2).trans c2);have tt:tst U Ztr (vn a l p r b h.length (Wx (.int c)) (Wx (.str y)) (Wx (.str (Yq b Wy (Wx p)++y++Yq b (Wx (p+1)) (Wx l))))) (h++[.lst ds])=.ok (WB (r / 26 % 4=1)) (h++[.lst ds]):=ZeS ((Zk (x:=.int (r / 26)) ((Zk rfl rfl).trans (ZcD (by decide))) rfl).trans (ZR (by decide))) rfl;refine(Za x8).trans ((Za x9).trans ?_);by_cases hr:r / 26 % 4=1
 . rw[if_pos hr];exact(Za ((Zs (Zm tt (decide_eq_true hr))).trans ((Za (Zj (g3 _))).trans rfl))).trans (Zox ⟨w3.1,by have:=w3.2;lia⟩ hz)
 . rw[if_neg hr];exact(Za ((Zt (Zm tt (decide_eq_false hr))).trans rfl)).trans (Zox ⟨v2.1,by have:=v2.2;lia⟩ hz)
theorem ZlT(hb:Wl 8 b):∀(ks:List Int) (fo:List Str) (k sg wd:Option D),fo.length+ks.length<=100->(∀c∈ks,0<=c/\c<100)->∃k' sg' wd',
 ZK Wy (.nm 6) (xs2 U Ztu) (ks.map D.int) (vn a l p r b h.length k sg wd) (h++[.lst (fo.map .str)])
  = .ok (.nx,vn a l p r b h.length k' sg' wd') (h++[.lst ((fo++ks.map (nm b l p r)).map .str)])
 |[],fo,k,sg,wd,h2,h3=>⟨k,sg,wd,by rw[Oy,Oy,Yt];rfl⟩
 |c::cs,fo,k,sg,wd,h2,h3=>by rw[Os]at h2;obtain⟨k',sg',wd',e3⟩:=ZlT (U:=U) (h:=h) (a:=a) (l:=l) (p:=p) (r:=r) hb cs (fo++[nm b l p r c]) (Wx (.int c)) (Wx (.str (lt1 ((r+5 * c) % 26)))) (Wx (.str (nm b l p r c))) (by rw[OA,List.length_singleton];lia) (λz hz=>h3 z (.tail _ hz));refine⟨k',sg',wd',(Zcb rfl (ZvB hb (h3 c (.head _)) (by rw[Yu];lia))).trans ?_⟩;rw[List.map_append,Oz]at e3;exact e3
def ZtD:∀k∈[[102,110],[114,101,99],[99,97,108,108],[105,102]],∀l∈[[102,110],[114,101,99],[99,97,108,108],[105,102],YK k.length 113],k=l\/k.length≠l.length\/∀i,i<4->∃j,j<4/\j≠i/\k[j]?≠l[j]? := by decide +kernel
def ZlV(ne:x≠y)(a:List Nat)(h:a++x::b∈[[102,110],[114,101,99],[99,97,108,108],[105,102]]):a++y::b ∉ [[102,110],[114,101,99],[99,97,108,108],[105,102]]/\a++y::b≠YK (a++x::b).length 113:=by
 have l4:(a++x::b).length<=4:=by
  have:∀k∈[[102,110],[114,101,99],[99,97,108,108],[105,102]],k.length<=4:=by decide
  exact this _ h
 have sl:(a++x::b).length=(a++y::b).length:=by simp
 have no:∀l∈[[102,110],[114,101,99],[99,97,108,108],[105,102],YK (a++x::b).length 113],a++y::b≠l:=λl hl e=>by
  rcases ZtD _ h l hl with q|q|q
  . rw[<- e]at q;exact ne (List.cons.inj (List.append_cancel_left q)).1
  . exact q (by rw[<- e];exact sl)
  . obtain⟨j,_,nj,d⟩:=q a.length (by simp at l4;lia);rw[<- e]at d;rcases Nat.lt_or_ge j a.length with z|z
    . exact d (by rw[Oe z,Oe z])
    . rw[Om z,Om z]at d;obtain⟨m,hm⟩:∃m,j - a.length=m+1:=⟨j - a.length - 1,by lia⟩
      rw[hm]at d;exact d rfl
 refine⟨λm=>no _ (Ys [YK (a++x::b).length 113] m) rfl,no _ (Ov [[102,110],[114,101,99],[99,97,108,108],[105,102]] (Ox.mpr rfl))⟩
def ZoD:w∈[O "fn",O "rec",O "call",O "if"]↔w.cps.toList∈[[102,110],[114,101,99],[99,97,108,108],[105,102]]:=by
 have e:[[102,110],[114,101,99],[99,97,108,108],[105,102]]=[O "fn",O "rec",O "call",O "if"].map (·.cps.toList):=by decide +kernel
 rw[e];refine⟨λh=>List.mem_map_of_mem h,λh=>?_⟩;obtain⟨v,hv,q⟩:=List.mem_map.mp h;have:v=w:=by obtain⟨⟨v⟩⟩:=v;obtain⟨⟨w⟩⟩:=w;cases q;rfl
 exact this ▸ hv
def ZiQ:∀n,(ZeM (O "q") n).cps.toList=YK n 113
 |n=>by
  have:∀(n:Nat) (a:Array Nat),((YK n (O "q").cps).foldl (·++·) a).toList=a.toList++YK n 113:=by
   intro n;induction n with
   |zero=>intro a;simp
   |succ n ih=>intro a;rw[List.replicate_succ,Wu,ih,Array.toList_append,Oz,List.replicate_succ];rfl
  have q:=this n #[];simpa[ZeM]using q
def nq(hv:v.cps.toList=a++x::b)(hw:w.cps.toList=a++y::b)(ne:x≠y):nmQ v≠nmQ w:=by
 have hl:v.length=(a++x::b).length/\w.length=(a++y::b).length:=by rw[<- hv,<- hw];exact⟨by simp[Str.length],by simp[Str.length]⟩
 unfold nmQ;intro e;have e':=congrArg (·.cps.toList) e;simp only[ZoD]at e';split at e'
 . rename_i kv;rw[hv]at kv;obtain⟨k1,k2⟩:=ZlV ne a kv;rw[if_neg (by rw[hw];exact k1),ZiQ,hw,hl.1]at e';exact k2 e'.symm
 . split at e'
   . rename_i kw;rw[hw]at kw;obtain⟨k1,k2⟩:=ZlV (YL ne) a kw;rw[ZiQ,hv,hl.2]at e';exact k2 e'
   . rw[hv,hw]at e';have:=List.append_cancel_left e';exact ne (List.cons.inj this).1
def ZlL(w:Str):(nmQ w).length=w.length:=by
 unfold nmQ;split
 . rw[Zeo,show(O "q").length=1 by decide +kernel,Nat.mul_one]
 . rfl
def ZqY:∀i j:Fin 26,ltr (i.val:Int)=ltr (j.val:Int)->i=j:=by decide +kernel
theorem Zvq(hb:b.length=8)(hc:0<=c/\c<5)(hd:0<=d/\d<5)(ne:c≠d):nm b l p r c≠nm b l p r d:=by
 unfold nm nmW;split
 . intro e;have e':=congrArg Str.length e;have len:∀ z:Int,0<=z/\z<5->(Yq b Wy (Wx (8 - z))).length=(8 - z).toNat:=fun z hz=>by
     have h8:b.cps.toList.length=8:=by simpa [Str.length] using hb
     rw [StrLaws.sliceText_to ⟨by lia,by lia⟩];show (List.take (8 - z - 0).toNat (List.drop 0 b.cps.toList)).toArray.size=_;rw [Of,List.length_take,List.drop_zero,h8]
     lia
   rw [ZlL,ZlL,len c hc,len d hd] at e'
   lia
 . refine nq (a:=(Yq b Wy (Wx p)).cps.toList) (b:=(Yq b (Wx (p+1)) (Wx l)).cps.toList) (x:=ltr ((r+5 * c) % 26)) (y:=ltr ((r+5 * d) % 26)) ?_ ?_ ?_
   . show (_++#[ltr ((r+5 * c) % 26)]++_:Array Nat).toList=_;simp
   . show (_++#[ltr ((r+5 * d) % 26)]++_:Array Nat).toList=_;simp
   . intro e;have q:=ZqY ⟨((r+5 * c) % 26).toNat,by lia⟩ ⟨((r+5 * d) % 26).toNat,by lia⟩ (by
       show ltr (((r+5 * c) % 26).toNat:Int)=ltr (((r+5 * d) % 26).toNat:Int);rw [Int.toNat_of_nonneg (by lia),Int.toNat_of_nonneg (by lia)];exact e)
     have q:=Fin.mk.inj q
     lia
def Zol(hb:b.length=8):(([0,1,2,3,4]:List Int).map (nm b l p r)).Nodup:=by
 refine List.pairwise_map.mpr (List.Pairwise.imp_of_mem (R:=λx y=>x≠y) (λ{x y} hx hy ne=>Zvq hb ?_ ?_ ne) (by decide))
 . simp at hx;lia
 . simp at hy;lia
def Zp5(H:Mkr P)(n:Nat)(v:Int)(h:Hd):∃ns:List Str,ns.length=5/\(∀x∈ns,Wl 20 x)/\ns.Nodup/\run P (n+1) (O "_law_names") [.int v] h=.ok (.ref h.length) (h++[.lst (ns.map .str)]):=by
 rw[Zc H.names rfl];have u8:ZG 0 8=[0,1,2,3,4,5,6,7].map D.int:=by rfl
 have u5:ZG 0 5=[0,1,2,3,4].map D.int:=by rfl
 have m8:opB .Mod (.int v) (.int 8) h=.ok (.int (v % 8)) h:=ZR (by decide);have d8:opB .FloorDiv (.int v) (.int 8) h=.ok (.int (v / 8)) h:=ZcD (by decide);have mp:opB .Mod (.int (v / 8)) (.int (1+v % 8)) h=.ok (.int (v / 8 % (1+v % 8))) h:=ZR (by lia);have d64:opB .FloorDiv (.int v) (.int 64) h=.ok (.int (v / 64)) h:=ZcD (by decide);obtain⟨r',b,k',hb,hb8,e1⟩:=ZoB (U:=⟨P.G,P.GD,run P n,P.L⟩) (h:=h) (a:=Wx (.int v)) (l:=Wx (.int (1+v % 8))) (p:=Wx (.int (v / 8 % (1+v % 8)))) (f:=Wy) (sg:=Wy) (wd:=Wy) [0,1,2,3,4,5,6,7] (v / 64) (O "") 0 Wy ⟨by decide +kernel,by decide +kernel⟩ (by decide +kernel) (by decide);obtain⟨k2,sg',wd',e2⟩:=ZlT (U:=⟨P.G,P.GD,run P n,P.L⟩) (h:=h) (a:=Wx (.int v)) (l:=1+v % 8) (p:=v / 8 % (1+v % 8)) (r:=r') hb [0,1,2,3,4] [] k' Wy Wy (by decide) (by decide);refine⟨[0,1,2,3,4].map (nm b (1+v % 8) (v / 8 % (1+v % 8)) r'),rfl,λx hx=>?_,Zol hb8,?_⟩
 . obtain⟨c,_,rfl⟩:=List.mem_map.mp hx;exact Zvp hb _ _ _ _
 generalize nm b (1+v % 8) (v / 8 % (1+v % 8)) r'=F at e2 ⊢;simp only[Oy,OB]at e2;have s8:Zap 8=Wz:=by decide
 have s5:Zap 5=Wz:=by decide
 unfold ZF at e1;unfold vn Ztu Zts Ztw Ztv Ztr Zvz Ztq ZvA Ztt ZF at e2;rw[<- u8]at e1;rw[<- u5]at e2
 try simp at e1
 try simp at e2
 simp[ZaB,Zfg,Zu,m8,d8,mp,d64,s8,s5,e1,e2,YC]
end Gn
end
section
set_option tactic.hygienic false
namespace Gn
open PySem L2 IV
noncomputable abbrev Scp:=List (Str×Str)
noncomputable def pairOf(p:Str×Str):D:=.tup [.str p.1,.str p.2]
def Zne(h:Hd)(k:Nat)(sc:Scp):Prop:=h[k]? = Wx (.lst (sc.map pairOf))
structure KnOk(sc:Scp)(kn:List (Key×D)):Prop where
 key:∀p∈kn,∃x,p.1=YE x/\x∈sc.map (·.1)
 val:∀p∈kn,∃s,p.2=D.str s
def ZiW(h:p∈putD kn k v):p∈kn\/p=(k,v):=by
 unfold putD at h;split at h
 . obtain⟨q,hq,e⟩:=List.mem_map.mp h;split at e
   . rename_i ek;right;rw[<- e,ek]
   . left;rw[<- e];exact hq
 . rcases OD.mp h with z|z
   . exact .inl z
   . exact .inr (Ox.mp z)
def ZnT:(putD kn k v).length<=kn.length+1:=by unfold putD;split<;>simp
def Zqf(hz:kn.length<1000):Zbo (.ref h.length) (.str x) v (h++[.dic kn])=.ok () (h++[.dic (putD kn (.inr x) v)]):=by simp only[Zbo,Zc2,keyOf];rw[if_pos (by rw[YC];lia)];simp
theorem ZlS(hs:Zne h k sc0):∀(sc:Scp) (kn:List (Key×D)) (a b:Option D),(∀p∈sc,p∈sc0)->KnOk sc0 kn->kn.length+sc.length<=500->∃kn' a' b',KnOk sc0 kn'/\kn'.length<=kn.length+sc.length /\
 ZK (Wx (k,sc0.map pairOf)) (.two 3 4) (xs2 U (.cons (.put (.var 2) (.var 3) (.var 4)) .nil)) (sc.map pairOf) [Wx (.ref k),w,Wx (.ref h.length),a,b] (h++[.dic kn])
  = .ok (.nx,[Wx (.ref k),w,Wx (.ref h.length),a',b']) (h++[.dic kn'])
 |[],kn,a,b,h1,h2,h3=>by
  refine⟨kn,a,b,h2,by simp,?_⟩;have:(h++[DO.dic kn])[k]? = Wx (.lst (sc0.map pairOf)):=by rw[Oe (ZN hs)];exact hs
  simp[ZK,Wk.stays,this]
 |(x,s)::sc,kn,a,b,h1,h2,h3=>by
  simp only[Os]at h3;have st:(h++[DO.dic kn])[k]? = Wx (.lst (sc0.map pairOf)):=by rw[Oe (ZN hs)];exact hs
  have hk:KnOk sc0 (putD kn (.inr x) (.str s)):=by
   refine⟨λp hp=>?_,λp hp=>?_⟩
   . rcases ZiW hp with z|rfl
     . exact h2.key p z
     . exact⟨x,rfl,List.mem_map.mpr ⟨(x,s),h1 _ (by simp),rfl⟩⟩
   . rcases ZiW hp with z|rfl
     . exact h2.val p z
     . exact⟨s,rfl⟩
  have pl:=ZnT (kn:=kn) (k:=.inr x) (v:=.str s);obtain⟨kn',a',b',q1,q2,e⟩:=ZlS (U:=U) (w:=w) hs sc (putD kn (.inr x) (.str s)) (Wx (.str x)) (Wx (.str s)) (λp hp=>h1 p (by simp[hp])) hk (by lia);refine⟨kn',a',b',q1,by simp only[Os];lia,?_⟩;rw[Op,ZK];simp only[Wk.stays,st,decide_true,if_true];have e2:=Zqf (h:=h) (kn:=kn) (x:=x) (v:=.str s) (by lia);simp[pairOf,e2];simpa[pairOf]using e
def find_key(hx:YE x∈kn.map (·.1)):∃v,Zab kn (.inr x)=Wx v/\(YE x,v)∈kn:=by
 induction kn with
 |nil=>simp at hx
 |cons p r ih=>
  unfold Zab;by_cases e:p.1=YE x
  . refine⟨p.2,?_,?_⟩
    . simp[Wv,e]
    . rw[<- e];exact Oi
  . obtain⟨v,h1,h2⟩:=ih (by simpa[YL e]using hx);refine⟨v,?_,Oh _ h2⟩;simpa[Wv,e,Zab]using h1
theorem ZlX{sc:Scp}:∀{kn:List (Key×D)},(∀p∈kn,∃x,p.1=YE x/\x∈sc.map (·.1))->∃ss,ZdF kn=Wx ss/\ss.length=kn.length/\(∀x∈ss,x∈sc.map (·.1)/\YE x∈kn.map (·.1))
 |[],_=>⟨[],rfl,rfl,by simp⟩
 |(k,v)::r,h=>by
  obtain⟨x,e,hx⟩:=h (k,v) (by simp);cases e;obtain⟨ss,e1,e2,e3⟩:=ZlX (kn:=r) λp hp=>h p (by simp[hp]);refine⟨x::ss,by rw[ZdF,e1];rfl,by simp[e2],λy hy=>?_⟩;rcases O3.mp hy with rfl|hy
  . exact⟨hx,by simp⟩
  . exact⟨(e3 y hy).1,by simp[(e3 y hy).2]⟩
theorem ZkA{U:Tb}{so:List Str}(hv:∀p∈kn,∃s,p.2=D.str s):∀(xs:List Str) (acc:List Str),(∀x∈xs,YE x∈kn.map (·.1))->acc.length+xs.length<=1000->∃ys,(∀y∈ys,y∈xs) /\
 Zz (Wx (h.length+1,so.map D.str)) (.nm 0) (tsto U (Wx (.ex (.cmp .Eq (.ix (.var 2) (.var 0)) (.var 1))))) (ev U (.var 0)) (xs.map D.str) [Wy,Wx (.str w),Wx (.ref h.length)] (acc.map .str) (h++[.dic kn,.lst (so.map .str)])
  = .ok ((acc++ys).map .str) (h++[.dic kn,.lst (so.map .str)])
 |[],acc,h1,h2=>⟨[],by simp,by simp[Zz,Wk.stays]⟩
 |x::xs,acc,h1,h2=>by
  simp only[Os]at h2;obtain⟨v,e1,hm⟩:=find_key (h1 x (by simp));obtain⟨s,rfl⟩:∃s,v=D.str s:=hv _ hm;have ix:Z5 U.GD (.ref h.length) (.str x) (h++[.dic kn,.lst (so.map .str)])=.ok (.str s) (h++[.dic kn,.lst (so.map .str)]):=by simp[Z5,dicOf,e1]
  have hz:acc.length<sizeLine:=by rw[YC];lia
  by_cases hw:s=w
  . obtain⟨ys,q1,q2⟩:=ZkA (U:=U) (h:=h) (w:=w) (so:=so) hv xs (acc++[x]) (λy hy=>h1 y (by simp[hy])) (by simp;lia);refine⟨x::ys,λy hy=>?_,?_⟩
    . rcases O3.mp hy with rfl|hy
      . simp
      . simp[q1 y hy]
    . rw[Op,ZQ];simp at q2;simp[Wk.stays,hz,ix,hw,q2]
  . obtain⟨ys,q1,q2⟩:=ZkA (U:=U) (h:=h) (w:=w) (so:=so) hv xs acc (λy hy=>h1 y (by simp[hy])) (by lia);refine⟨ys,λy hy=>by simp[q1 y hy],?_⟩;rw[Op,ZQ];simp at q2;simp[Wk.stays,hz,ix,hw,q2]
def Zp3{P:Pg}(H:Mkr P)(n:Nat){sc:Scp}(w:Str)(hs:Zne h k sc)(hl:sc.length<=60)(hok:∀p∈sc,Yp p.1=Wz):∃(ys:List Str) (g:Hd),(∀y∈ys,y∈sc.map (·.1))/\g.length=2 /\
 run P (n+1) (O "_law_there") [.ref k,.str w] h=.ok (.ref (h.length+2)) (h++g++[.lst (ys.map .str)]):=by
 rw[Zc H.there rfl];obtain⟨kn,a',b',hk,hkl,e1⟩:=ZlS (U:=⟨P.G,P.GD,run P n,P.L⟩) (w:=Wx (.str w)) hs sc [] Wy Wy (λ_ hp=>hp) ⟨by simp,by simp⟩ (by simp;lia);obtain⟨ss,e2,e3,e4⟩:=ZlX hk.key;have all:ss.all Yp=Wz:=by rw[OC];intro x hx;obtain⟨p,hp,rfl⟩:=List.mem_map.mp (e4 x hx).1;exact hok p hp
 have perm:=ZdC ss;obtain⟨ys,q1,q2⟩:=ZkA (U:=⟨P.G,P.GD,run P n,P.L⟩) (h:=h) (kn:=kn) (w:=w) (so:=Zcj ss) hk.val (Zcj ss) [] (λx hx=>(e4 x (perm.mem_iff.mp hx)).2) (by rw[perm.length_eq];simp at hkl ⊢;lia);refine⟨ys,[.dic kn,.lst ((Zcj ss).map .str)],λy hy=>(e4 y (perm.mem_iff.mp (q1 y hy))).1,rfl,?_⟩;have hsrt:ZbJ P.GD .srt [.ref h.length] (h++[.dic kn])=.ok (.ref (h.length+1)) (h++[.dic kn,.lst ((Zcj ss).map .str)]):=by show ZeF P.GD [.ref h.length] (h++[.dic kn])=_;simp only[ZeF,dicOf,Zc2,Yz,e2];rw[if_pos ⟨by simp at hkl;lia,all⟩];simp
 have hw1:Zar (.ref k) (h++[DO.dic []])=Wx ⟨Wx (k,sc.map pairOf),sc.map pairOf⟩:=by
  have:(h++[DO.dic []])[k]? = Wx (.lst (sc.map pairOf)):=by rw[Oe (ZN hs)];exact hs
  simp[Zar,this]
 have hw2:Zar (.ref (h.length+1)) (h++[DO.dic kn,.lst ((Zcj ss).map .str)])=Wx ⟨Wx (h.length+1,(Zcj ss).map .str),(Zcj ss).map .str⟩:=by simp[Zar]
 simp at q2 e1;simp[ZaA,Zff,Zu,Zc9,Zb9,hw1,e1,hsrt,hw2,Zbp,q2]
end Gn
end
section
namespace Gn
open PySem L2 IV
structure Ctx(cs:List Int)(ns:List Str)(h:Hd)(i j m k:Nat)(sc:Scp)(a b:Int):Prop where
 st:St3 h i j cs a b
 nm:h[m]? = Wx (.lst (ns.map .str))
 n5:ns.length=5
 nok:∀x∈ns,Wl 20 x
 nd:ns.Nodup
 sca:Zne h k sc
 sco:∀p∈sc,Wl 20 p.1
 im:i≠m
 ik:i≠k
 ab:0<=a
variable {P:Pg}{cs:List Int}{ns:List Str}{h h':Hd}{i j m k:Nat}{sc:Scp}{a b a' b':Int}
def Ctx.up(c:Ctx cs ns h i j m k sc a b)(u:Up i h h')(st:St3 h' i j cs a' b')(ab:0<=a'):Ctx cs ns h' i j m k sc a' b':=⟨st,u.at c.nm (YL c.im),c.n5,c.nok,c.nd,u.at c.sca (YL c.ik),c.sco,c.im,c.ik,ab⟩
def St3.app(s:St3 h i j cs a b):St3 (h++g) i j cs a b:=⟨by rw[Oe (ZN s.1)];exact s.1,by rw[Oe (ZN s.2.1)];exact s.2.1,s.2.2⟩
theorem Ctx.app(c:Ctx cs ns h i j m k sc a b):Ctx cs ns (h++g) i j m k sc a b:=c.up Up.app c.st.app c.ab
def Ctx.name(c:Ctx cs ns h i j m k sc a b)(v:Int)(h0:0<=v)(h5:v<5):∃x,Z5 GD (.ref m) (.int v) h=.ok (.str x) h/\Wl 20 x/\ns[v.toNat]? = Wx x:=by
 obtain⟨q,rfl⟩:∃q:Nat,v=q:=⟨v.toNat,by lia⟩
 have hq:q<ns.length:=by have:=c.n5;lia
 refine⟨ns[q],?_,c.nok _ (List.getElem_mem hq),Og hq⟩;rw[ZS c.nm,IV.Zb2,On,Og hq];rfl
noncomputable def A(r:Nat):Int:=4 ^ (r+1)
def ZjZ(r:Nat):0<A r:=Int.pow_pos (by decide)
def Zud(r:Nat):A (r+1)=4 * A r:=by unfold A;rw[Int.pow_succ];lia
inductive Made(cs:List Int)(h:Hd)(i j:Nat)(sc:Scp)(a mx:Int)(dm:Nat)(r:R D):Prop
 |mk (t:T) (h':Hd) (a' b':Int) (e:r=.ok (T.d t) h') (u:Up i h h') (s:St3 h' i j cs a' b') (l1:a<=a') (l2:a'<=a+mx) (c:Cl (sc.map (·.1)) t) (p:dep t<=dm)
def Zmd(P:Pg)(r n0:Nat):Prop:=∀(n:Nat) (cs:List Int) (ns:List Str) (h:Hd) (i j m k:Nat) (sc:Scp) (a b:Int) (w:Str) (room:Int),room<=r->Ctx cs ns h i j m k sc a b->sc.length+2 * r<=50->a+A r<2 ^ 50 ->
 Made cs h i j sc a (A r) (3 * r+3) (run P (n+n0) (O "_law_any") [.str w,.ref k,.ref i,.ref m,.int room] h)
def Zpx(H:Mkr P)(n:Nat)(c:Ctx cs ns h i j m k sc a b)(w:Str)(room:Int)(hl:sc.length<=50)(ha:a<2 ^ 50)(T1 T2 T3:Option D):∃(v:Int) (w':Str) (ys:List Str) (h':Hd) (l:Nat),
 xs2 ⟨P.G,P.GD,run P (n+2),P.L⟩ (.cons Zbg (.cons Zb1 (.cons Zbf (.cons Zb0 (.cons Zbe .nil))))) [Wx (.str w),Wx (.ref k),Wx (.ref i),Wx (.ref m),Wx (.int room),T1,T2,T3,Wy,Wy] h
  = .ok (.nx,[Wx (.str w'),Wx (.ref k),Wx (.ref i),Wx (.ref m),Wx (.int room),Wx (.int v),Wx (.int (v / 87)),Wx (.ref l),Wy,Wy]) h'/\Up i h h'/\Ctx cs ns h' i j m k sc (a+1) (b - 1)/\h'[l]? = Wx (.lst (ys.map .str))/\(∀y∈ys,y∈sc.map (·.1)):=by
 have i1:=c.st.1;have lt:=ZN i1;have p1:Zbo (.ref i) (.int 2) (.int (b - 1)) h=.ok () (h.set i (.lst [.ref j,.int a,.int (b - 1)])):=by simp only[Zbo,i1];rfl
 have s1:St3 (h.set i (.lst [.ref j,.int a,.int (b - 1)])) i j cs a (b - 1):=⟨by rw[Ol lt],by rw[Oc c.st.2.2];exact c.st.2.1,c.st.2.2⟩
 have c1:=c.up Up.set s1 c.ab;obtain⟨v,e2,_⟩:=Zkd H n s1 ⟨c.ab,ha⟩;have lt1:i<(h.set i (.lst [.ref j,.int a,.int (b - 1)])).length:=by simpa using lt
 have s2:St3 ((h.set i (.lst [.ref j,.int a,.int (b - 1)])).set i (.lst [.ref j,.int (a+1),.int (b - 1)])) i j cs (a+1) (b - 1):=⟨by rw[Ol lt1],by rw[Oc c.st.2.2];exact s1.2.1,c.st.2.2⟩
 have c2:=c1.up Up.set s2 (by have:=c.ab;lia);generalize hh2:(h.set i (.lst [.ref j,.int a,.int (b - 1)])).set i (.lst [.ref j,.int (a+1),.int (b - 1)])=h2 at e2 s2 c2;have u2:Up i h h2:=hh2 ▸ Up.set.trans Up.set;have m29:∀h,opB .Mod (.int v) (.int 29) h=.ok (.int (v % 29)) h:=λh=>ZR (by decide);have d29:∀h,opB .FloorDiv (.int v) (.int 29) h=.ok (.int (v / 29)) h:=λh=>ZcD (by decide);have m3:∀h,opB .Mod (.int (v / 29)) (.int 3) h=.ok (.int (v / 29 % 3)) h:=λh=>ZR (by decide);have d87:∀h,opB .FloorDiv (.int v) (.int 87) h=.ok (.int (v / 87)) h:=λh=>ZcD (by decide);have hix:Z5 P.GD (.ref i) (.int 2) h=.ok (.int b) h:=by rw[ZS i1];simp
 have step3:∃(w':Str) (h3:Hd),xs1 ⟨P.G,P.GD,run P (n+2),P.L⟩ Zbf [Wx (.str w),Wx (.ref k),Wx (.ref i),Wx (.ref m),Wx (.int room),Wx (.int v),T2,T3,Wy,Wy] h2
  = .ok (.nx,[Wx (.str w'),Wx (.ref k),Wx (.ref i),Wx (.ref m),Wx (.int room),Wx (.int v),T2,T3,Wy,Wy]) h3/\Up i h2 h3/\Ctx cs ns h3 i j m k sc (a+1) (b - 1):=by
  have tt:tst (P.tbl (n+2)) (.ex (.cmp .Eq (.bin .Mod (.var 5) (.cst (.int 29))) (.cst (.int 0)))) [Wx (.str w),Wx (.ref k),Wx (.ref i),Wx (.ref m),Wx (.int room),Wx (.int v),T2,T3,Wy,Wy] h2=.ok (WB (v % 29=0)) h2:=ZeS ((Zk rfl rfl).trans (m29 h2)) rfl;by_cases hv:v % 29=0
  . have go:∀w':Str,atI [D.str (O "n"),.str (O "f"),.str (O "g")] (v / 29 % 3)=Wx (D.str w')->xs1 (P.tbl (n+2)) Zbf [Wx (.str w),Wx (.ref k),Wx (.ref i),Wx (.ref m),Wx (.int room),Wx (.int v),T2,T3,Wy,Wy] h2
     = .ok (.nx,[Wx (.str w'),Wx (.ref k),Wx (.ref i),Wx (.ref m),Wx (.int room),Wx (.int v),T2,T3,Wy,Wy]) (h2++[.lst [.str (O "n"),.str (O "f"),.str (O "g")]]):=λw' e=>
     (Zs (Zm tt (decide_eq_true hv))).trans ((Za (Zj (ZjM e rfl ((Zk (x:=.int (v / 29)) ((Zk rfl rfl).trans (d29 _)) rfl).trans (m3 _)) (by decide)))).trans rfl)
    have q:v / 29 % 3=0\/v / 29 % 3=1\/v / 29 % 3=2:=by lia
    rcases q with q|q|q
    . exact⟨O "n",_,go _ (by rw[q];rfl),Up.app,c2.app⟩
    . exact⟨O "f",_,go _ (by rw[q];rfl),Up.app,c2.app⟩
    . exact⟨O "g",_,go _ (by rw[q];rfl),Up.app,c2.app⟩
  . exact⟨w,h2,(Zt (Zm tt (decide_eq_false hv))).trans rfl,Up.refl,c2⟩
 obtain⟨w',h3,e3,u3,c3⟩:=step3;obtain⟨ys,g,hy,hg,e5⟩:=Zp3 H (n+1) w' c3.sca (by lia) (λp hp=>(c3.sco p hp).1);refine⟨v,w',ys,h3++g++[.lst (ys.map .str)],h3.length+2,?_,(u2.trans u3).trans (Up.app.trans Up.app),c3.app.app,?_,hy⟩
 . have x1:xs1 ⟨P.G,P.GD,run P (n+2),P.L⟩ Zbg [Wx (.str w),Wx (.ref k),Wx (.ref i),Wx (.ref m),Wx (.int room),T1,T2,T3,Wy,Wy] h=.ok (.nx,[Wx (.str w),Wx (.ref k),Wx (.ref i),Wx (.ref m),Wx (.int room),T1,T2,T3,Wy,Wy]) (h.set i (.lst [.ref j,.int a,.int (b - 1)])):=by have q:ev (P.tbl (n+2)) (.bin .Sub (.ix (.var 2) (.cst (.int 2))) (.cst (.int 1))) [Wx (.str w),Wx (.ref k),Wx (.ref i),Wx (.ref m),Wx (.int room),T1,T2,T3,Wy,Wy] h=.ok (.int (b - 1)) h:=(Zk (x:=.int b) ((Zr rfl rfl).trans hix) rfl).trans rfl;rw[Zbg,Zlm];show(ev (P.tbl (n+2)) (.bin .Sub (.ix (.var 2) (.cst (.int 2))) (.cst (.int 1))) _ h).bnd _=_;rw[q];show(Zbo (.ref i) (.int 2) (.int (b - 1)) h).bnd _=_;rw[p1];rfl
   have x2:xs1 ⟨P.G,P.GD,run P (n+2),P.L⟩ Zb1 [Wx (.str w),Wx (.ref k),Wx (.ref i),Wx (.ref m),Wx (.int room),T1,T2,T3,Wy,Wy] (h.set i (.lst [.ref j,.int a,.int (b - 1)]))=.ok (.nx,[Wx (.str w),Wx (.ref k),Wx (.ref i),Wx (.ref m),Wx (.int room),Wx (.int v),T2,T3,Wy,Wy]) h2:=by exact Zj (Zl e2 rfl)
   have x4:∀q,xs1 ⟨P.G,P.GD,run P (n+2),P.L⟩ Zb0 [Wx (.str w'),Wx (.ref k),Wx (.ref i),Wx (.ref m),Wx (.int room),Wx (.int v),q,T3,Wy,Wy] h3=.ok (.nx,[Wx (.str w'),Wx (.ref k),Wx (.ref i),Wx (.ref m),Wx (.int room),Wx (.int v),Wx (.int (v / 87)),T3,Wy,Wy]) h3:=by exact λq=>Zj ((Zk rfl rfl).trans (d87 _))
   have x5:xs1 ⟨P.G,P.GD,run P (n+2),P.L⟩ Zbe [Wx (.str w'),Wx (.ref k),Wx (.ref i),Wx (.ref m),Wx (.int room),Wx (.int v),Wx (.int (v / 87)),T3,Wy,Wy] h3=.ok (.nx,[Wx (.str w'),Wx (.ref k),Wx (.ref i),Wx (.ref m),Wx (.int room),Wx (.int v),Wx (.int (v / 87)),Wx (.ref (h3.length+2)),Wy,Wy]) (h3++g++[.lst (ys.map .str)]):=by simp only[Zbe,Zef,Zic,Zcx,Zh8,Zia,O0,OJ,Option.join_some,ofO_some,Zp,bind_ok,e5];rfl
   exact(Za x1).trans ((Za x2).trans ((Za e3).trans ((Za (x4 _)).trans ((Za x5).trans rfl))))
 . have:h3.length+2=(h3++g).length:=by simp[hg]
   rw[this];simp
end Gn
end
section
set_option tactic.hygienic false
namespace Gn
open PySem L2 IV
variable {P:Pg}{cs:List Int}{ns:List Str}{h h':Hd}{i j m k:Nat}{sc:Scp}{a b a' b':Int}
theorem Cl.mono{sc sc':List Str}:∀ {t:T},(∀ x∈sc,x∈sc')->Cl sc t->Cl sc' t
 | .num n,_,c=>c
 | .name x,s,c=>s x c
 | .fn x e,s,c=>Cl.mono (t:=e) (fun y hy=>by
     rcases O3.mp hy with z|z
     . rw [z];exact Oi
     . exact Oh _ (s y z)) c
 | .rcc f x e,s,c=>⟨Cl.mono (t:=e) (fun y hy=>by
     rcases O3.mp hy with z|z
     . rw [z];exact Oi
     . rcases O3.mp z with q|q
       . rw [q];exact Oh _ Oi
       . exact Oh _ (Oh _ (s y q))) c.1,c.2⟩
 | .call f e,s,c=>⟨Cl.mono s c.1,Cl.mono s c.2⟩
 | .iff p q r,s,c=>⟨Cl.mono s c.1,Cl.mono s c.2.1,Cl.mono s c.2.2⟩
 | .op w p q,s,c=>⟨Cl.mono s c.1,Cl.mono s c.2⟩
noncomputable def ZpD(z:Int):Wd:=if z=0 then .add else if z=1 then .sub else if z=2 then .mul else .lt
def wd4(z:Int)(h0:0<=z)(h4:z<4):atI [D.str (O "+"),.str (O "-"),.str (O "*"),.str (O "<")] z=Wx (.str (ZpD z).s):=by
 have:z=0\/z=1\/z=2\/z=3:=by lia
 rcases this with rfl|rfl|rfl|rfl<;>simp[ZpD,Wd.s]
noncomputable def me(rest:Int)(k i m:Nat)(room:Int)(a b c d:Option D):Ev:=[Wx (.int rest),Wx (.ref k),Wx (.ref i),Wx (.ref m),Wx (.int room),a,b,c,d]
def Zti(H:Mkr P)(ih:Zmd P r n0)(hn:1<=n0)(n:Nat)(c:Ctx cs ns h i j m k sc a b)(rest:Int)(room:Int)(hr:room<=r)(hl:sc.length+2 * r<=50)(ha:a+2 * A r<2 ^ 50):
 Made cs h i j sc a (2 * A r) (3 * r+4) (run P (n+n0+1) (O "_law_number") [.int rest,.ref k,.ref i,.ref m,.int room] h):=by
 have Ap:=ZjZ r;rw[Zfr H.number rfl];show Made cs h i j sc a (2 * A r) (3 * r+4) (Zh (xs2 (P.tbl (n+n0)) ZcO (me rest k i m room Wy Wy Wy Wy) h));have x1:∀h,xs1 (P.tbl (n+n0)) Zdx (me rest k i m room Wy Wy Wy Wy) h=.ok (.nx,me rest k i m room (Wx (.int (rest % 6))) Wy Wy Wy) h:=λh=>rfl;rw[ZcO,Za (x1 h)];obtain⟨n1,e1⟩:∃n1,n+n0=n1+1:=⟨n+n0 - 1,by lia⟩
 by_cases h0:rest % 6=0
 . obtain⟨t,g,e2,ct,pt⟩:=ZhK H n1 (O "n") (rest / 6) h (sc.map (·.1));refine⟨t,h++g,a,b,?_,Up.app,c.st.app,by lia,by lia,ct,by lia⟩;rw[<- e1]at e2;have x2:xs1 (P.tbl (n+n0)) ZbN (me rest k i m room (Wx (.int (rest % 6))) Wy Wy Wy) h=.ok (.rt t.d,me rest k i m room (Wx (.int (rest % 6))) Wy Wy Wy) (h++g):=(Zs (Zm (ZeS rfl rfl) (decide_eq_true h0))).trans (Zf (ZD e2 rfl rfl));rw[Zf x2];rfl
 . have x2:xs1 (P.tbl (n+n0)) ZbN (me rest k i m room (Wx (.int (rest % 6))) Wy Wy Wy) h=.ok (.nx,me rest k i m room (Wx (.int (rest % 6))) Wy Wy Wy) h:=(Zt (Zm (ZeS rfl rfl) (decide_eq_false h0))).trans rfl;rw[Za x2];have lt:tst (P.tbl (n+n0)) (.ex (.cmp .Lt (.var 5) (.cst (.int 3)))) (me rest k i m room (Wx (.int (rest % 6))) Wy Wy Wy) h=.ok (WB (rest % 6<3)) h:=rfl;by_cases h3:rest % 6<3
   . obtain⟨t1,g1,a1,b1,e2,u1,s1,l1,l2,c1,p1⟩:=ih n cs ns h i j m k sc a b (O "n") room hr c hl (by lia);have cc:=c.up u1 s1 (by have:=c.ab;lia);obtain⟨t2,g2,a2,b2,e3,u2,s2,l3,l4,c2,p2⟩:=ih n cs ns (g1++[.lst [.str (O "+"),.str (O "-"),.str (O "*"),.str (O "<")]]) i j m k sc a1 b1 (O "n") room hr cc.app hl (by lia);refine⟨.op (ZpD (rest / 6 % 4)) t1 t2,g2,a2,b2,?_,u1.trans (Up.app.trans u2),s2,by lia,by lia,⟨c1,c2⟩,by simp only[dep];lia⟩;have w4:=wd4 (rest / 6 % 4) (by lia) (by lia);have x3:xs1 (P.tbl (n+n0)) ZbM (me rest k i m room (Wx (.int (rest % 6))) Wy Wy Wy) h=.ok (.rt (T.op (ZpD (rest / 6 % 4)) t1 t2).d,me rest k i m room (Wx (.int (rest % 6))) (Wx t1.d) Wy Wy) g2:=by refine(Zs (Zm lt (decide_eq_true h3))).trans ?_;refine(Za (ρ1:=me rest k i m room (Wx (.int (rest % 6))) (Wx t1.d) Wy Wy) (h1:=g1) (ZD e2 rfl rfl)).trans ?_;exact Zf (Zx (ZV (Zb (ZjM w4 rfl rfl (by simp)) (Zb rfl (Zb (Zl e3 rfl) rfl))) (by simp)))
     rw[Zf x3];rfl
   . have w3:∃ws,(ws=O "f" \/ ws=O "g")/\atI [D.str (O "f"),.str (O "f"),.str (O "g")] (rest % 6 - 3)=Wx (.str ws):=by
      have:rest % 6 - 3=0\/rest % 6 - 3=1\/rest % 6 - 3=2:=by lia
      rcases this with q|q|q<;>rw[q]<;>simp
     obtain⟨ws,hws,w3⟩:=w3;obtain⟨t1,g1,a1,b1,e2,u1,s1,l1,l2,c1,p1⟩:=ih n cs ns (h++[.lst [.str (O "f"),.str (O "f"),.str (O "g")]]) i j m k sc a b ws room hr c.app hl (by lia);have cc:=c.app.up u1 s1 (by have:=c.ab;lia);have dd:∃ws',Z5 P.GD (.ref g1.length) (.str ws) (g1++[.dic [(.inr (O "f"),.str (O "n")),(.inr (O "g"),.str (O "f"))]])=.ok (.str ws') (g1++[.dic [(.inr (O "f"),.str (O "n")),(.inr (O "g"),.str (O "f"))]]):=by
      rcases hws with rfl|rfl
      . exact⟨O "n",by simp[Z5,dicOf,Zab]⟩
      . exact⟨O "f",by simp[Z5,dicOf,Zab]⟩
     obtain⟨ws',dd⟩:=dd;obtain⟨t2,g2,a2,b2,e3,u2,s2,l3,l4,c2,p2⟩:=ih n cs ns (g1++[.dic [(.inr (O "f"),.str (O "n")),(.inr (O "g"),.str (O "f"))]]) i j m k sc a1 b1 ws' room hr cc.app hl (by lia);refine⟨.call t1 t2,g2,a2,b2,?_,Up.app.trans (u1.trans (Up.app.trans u2)),s2,by lia,by lia,⟨c1,c2⟩,by simp only[dep];lia⟩;have x3:xs1 (P.tbl (n+n0)) ZbM (me rest k i m room (Wx (.int (rest % 6))) Wy Wy Wy) h=.ok (.nx,me rest k i m room (Wx (.int (rest % 6))) Wy Wy Wy) h:=(Zt (Zm lt (decide_eq_false h3))).trans rfl;have x4:xs1 (P.tbl (n+n0)) Zdw (me rest k i m room (Wx (.int (rest % 6))) Wy Wy Wy) h=.ok (.nx,me rest k i m room (Wx (.int (rest % 6))) Wy (Wx (.str ws)) Wy) (h++[.lst [.str (O "f"),.str (O "f"),.str (O "g")]]):=Zj (i:=7) (ZjM w3 rfl rfl (by simp));have x5:xs1 (P.tbl (n+n0)) Zdv (me rest k i m room (Wx (.int (rest % 6))) Wy (Wx (.str ws)) Wy) (h++[.lst [.str (O "f"),.str (O "f"),.str (O "g")]])=.ok (.nx,me rest k i m room (Wx (.int (rest % 6))) Wy (Wx (.str ws)) (Wx t1.d)) g1:=ZD e2 rfl rfl;have p6:ev (P.tbl (n+n0)) (.ix (.dictl (.cons (.cst (.str (O "f"))) (.cons (.cst (.str (O "n"))) (.cons (.cst (.str (O "g"))) (.cons (.cst (.str (O "f"))) .nil))))) (.var 7)) (me rest k i m room (Wx (.int (rest % 6))) Wy (Wx (.str ws)) (Wx t1.d)) g1=.ok (.str ws') (g1++[.dic [(.inr (O "f"),.str (O "n")),(.inr (O "g"),.str (O "f"))]]):=dd;have x6:xs1 (P.tbl (n+n0)) Zdu (me rest k i m room (Wx (.int (rest % 6))) Wy (Wx (.str ws)) (Wx t1.d)) g1=.ok (.rt (T.call t1 t2).d,me rest k i m room (Wx (.int (rest % 6))) Wy (Wx (.str ws)) (Wx t1.d)) g2:=Zx (ZV (Zb rfl (Zb rfl (Zb ((ZtW (Zb p6 rfl)).trans e3) rfl))) (by simp));rw[Za x3,Za x4,Za x5,Zf x6];rfl
end Gn
end
section
set_option tactic.hygienic false
namespace Gn
open PySem L2 IV
variable {P:Pg}{cs:List Int}{ns:List Str}{h h':Hd}{i j m k:Nat}{sc:Scp}{a b a' b':Int}
def Ctx.wider(c:Ctx cs ns h i j m k sc a b)(more:Scp)(hm:∀p∈more,Wl 20 p.1):Ctx cs ns (h++[.lst (more.map pairOf),.lst ((sc++more).map pairOf)]) i j m (h.length+1) (sc++more) a b:=by
 have c1:=c.app (g:=[.lst (more.map pairOf),.lst ((sc++more).map pairOf)]);refine⟨c1.st,c1.nm,c1.n5,c1.nok,c1.nd,by unfold Zne;simp,λp hp=>?_,c1.im,?_,c1.ab⟩
 . rcases OD.mp hp with z|z
   . exact c.sco p z
   . exact hm p z
 . have:=ZN c.st.1
   lia
def Zih(c:Ctx cs ns h i j m k sc a b)(more:Scp)(hz:sc.length+more.length<=100):opB .Add (.ref k) (.ref h.length) (h++[.lst (more.map pairOf)])=.ok (.ref (h.length+1)) (h++[.lst (more.map pairOf),.lst ((sc++more).map pairOf)]):=by
 have hk:(h++[DO.lst (more.map pairOf)])[k]? = Wx (.lst (sc.map pairOf)):=by rw[Oe (ZN c.sca)];exact c.sca
 simp only[opB,Znc,hk,Zc2];rw[if_pos (by simp;rw[YC];lia)];simp
def ZuM{sc:Scp}{x s:Str}:∀y∈(sc++[(x,s)]).map (·.1),y∈x::sc.map (·.1):=λy hy=>by
 rw[List.map_append]at hy;rcases OD.mp hy with z|z
 . exact Oh _ z
 . have:y=x:=by simpa using z
   rw[this];exact Oi
def unlike{ns:List Str}(n5:ns.length=5)(nd:ns.Nodup){x f:Str}{rest:Int}(ax:ns[(rest % 5).toNat]? = Wx x)(af:ns[((rest % 5+1+rest / 15 % 4) % 5).toNat]? = Wx f):f≠x:=λe=>by
 have q:=(List.getElem?_inj (i:=(rest % 5).toNat) (j:=((rest % 5+1+rest / 15 % 4) % 5).toNat) (by rw[n5];lia) nd).mp (by rw[ax,af,e])
 lia
noncomputable def fe(w:Str)(rest:Int)(k i m:Nat)(room:Int)(a b c d:Option D):Ev:=[Wx (.str w),Wx (.int rest),Wx (.ref k),Wx (.ref i),Wx (.ref m),Wx (.int room),a,b,c,d]
def ZvT{N:Nat}{s:Str}{w:Str}{rest:Int}{room:Int}{x:Str}{t1:T}{g1 h1:Hd}(hc:opB .Add (.ref k) (.ref h.length) (h++[.lst ([(x,s)].map pairOf)])=.ok (.ref (h.length+1)) h1)(e1:run P N (O "_law_any") [.str (O "n"),.ref (h.length+1),.ref i,.ref m,.int room] h1=.ok t1.d g1):ev (P.tbl N) (.tupl (.cons (.cst (.str (O "fn"))) (.cons (.var 6) (.cons (.call (O "_law_any") (.cons (.cst (.str (O "n"))) (.cons (.bin .Add (.var 2) (.lstl (.cons (.tupl (.cons (.var 6) (.cons (.cst (.str s)) .nil))) .nil))) (.cons (.var 3) (.cons (.var 4) (.cons (.var 5) .nil)))))) .nil)))) (fe w rest k i m room (Wx (.str x)) Wy Wy Wy) h=.ok (T.fn x t1).d g1:=by have b:ev (P.tbl N) (.bin .Add (.var 2) (.lstl (.cons (.tupl (.cons (.var 6) (.cons (.cst (.str s)) .nil))) .nil))) (fe w rest k i m room (Wx (.str x)) Wy Wy Wy) h=.ok (.ref (h.length+1)) h1:=(Zk (x:=.ref k) (y:=.ref h.length) (h1:=h) (h2:=h++[.lst ([(x,s)].map pairOf)]) rfl rfl).trans hc;exact ZV (Zb rfl (Zb rfl (Zb ((ZtW (Zb rfl (Zb b rfl))).trans e1) rfl))) (by simp)
def ZtQ(H:Mkr P){r n0:Nat}(ih:Zmd P r n0)(n:Nat)(c:Ctx cs ns h i j m k sc a b)(w:Str)(rest:Int)(room:Int)(hr:room<=r)(hl:sc.length+2+2 * r<=50)(ha:a+2 * A r<2 ^ 50):
 Made cs h i j sc a (2 * A r) (3 * r+6) (run P (n+n0+1) (O "_law_function") [.str w,.int rest,.ref k,.ref i,.ref m,.int room] h):=by
 have Ap:=ZjZ r;have hab:=c.ab;rw[Zfr H.function rfl];obtain⟨x,ex,wx,ax⟩:=c.name (GD:=P.GD) (rest % 5) (by clear ih ha hab hl hr;lia) (by clear ih ha hab hl hr;lia);show Made cs h i j sc a (2 * A r) (3 * r+6) (Zh (xs2 (P.tbl (n+n0)) (.cons Za0 (.cons Zaa (.cons Z9 (.cons ZaZ (.cons ZaY (.cons ZaX (.cons Z8 (.cons Z7 .nil)))))))) (fe w rest k i m room Wy Wy Wy Wy) h));have x1:xs1 (P.tbl (n+n0)) Za0 (fe w rest k i m room Wy Wy Wy Wy) h=.ok (.nx,fe w rest k i m room (Wx (.str x)) Wy Wy Wy) h:=by exact Zj (i:=6) ex
 rw[Za x1];by_cases hg:w=O "g"
 . have hc:=Zih c [(x,O "f")] (by simp;lia);obtain⟨t1,g1,a1,b1,e1,u1,s1,l1,l2,c1,p1⟩:=ih n cs ns _ i j m (h.length+1) (sc++[(x,O "f")]) a b (O "n") room hr (c.wider [(x,O "f")] (by simp[wx])) (by simp;lia) (by lia);refine⟨.fn x t1,g1,a1,b1,?_,Up.app.trans u1,s1,l1,by lia,Cl.mono (t:=t1) ZuM c1,by simp only[dep];lia⟩;have e:xs1 (P.tbl (n+n0)) Zaa (fe w rest k i m room (Wx (.str x)) Wy Wy Wy) h=.ok (.rt (T.fn x t1).d,fe w rest k i m room (Wx (.str x)) Wy Wy Wy) g1:=by subst hg;exact(Zs rfl).trans (Zf (Zx (ZvT hc e1)))
   rw[Zf e];rfl
 have x2:xs1 (P.tbl (n+n0)) Zaa (fe w rest k i m room (Wx (.str x)) Wy Wy Wy) h=.ok (.nx,fe w rest k i m room (Wx (.str x)) Wy Wy Wy) h:=by exact(Zt (Zm (Zak rfl rfl) (decide_eq_false hg))).trans rfl
 rw[Za x2];by_cases h3:rest / 5 % 3=0
 . have hc:=Zih c [(x,O "n")] (by simp;lia);obtain⟨t1,g1,a1,b1,e1,u1,s1,l1,l2,c1,p1⟩:=ih n cs ns _ i j m (h.length+1) (sc++[(x,O "n")]) a b (O "n") room hr (c.wider [(x,O "n")] (by simp[wx])) (by simp;lia) (by lia);refine⟨.fn x t1,g1,a1,b1,?_,Up.app.trans u1,s1,l1,by lia,Cl.mono (t:=t1) ZuM c1,by simp only[dep];lia⟩;have e:xs1 (P.tbl (n+n0)) Z9 (fe w rest k i m room (Wx (.str x)) Wy Wy Wy) h=.ok (.rt (T.fn x t1).d,fe w rest k i m room (Wx (.str x)) Wy Wy Wy) g1:=(Zs (Zm (ZeS (x:=rest / 5 % 3) rfl rfl) (decide_eq_true h3))).trans (Zf (Zx (ZvT hc e1)));rw[Zf e];rfl
 have x3:xs1 (P.tbl (n+n0)) Z9 (fe w rest k i m room (Wx (.str x)) Wy Wy Wy) h=.ok (.nx,fe w rest k i m room (Wx (.str x)) Wy Wy Wy) h:=by exact(Zt (Zm (ZeS (x:=rest / 5 % 3) rfl rfl) (decide_eq_false h3))).trans rfl
 obtain⟨f,ef,wf,af⟩:=c.name (GD:=P.GD) ((rest % 5+1+rest / 15 % 4) % 5) (by clear ih ha hab hl hr;lia) (by clear ih ha hab hl hr;lia);have nfx:f≠x:=unlike c.n5 c.nd ax af;have x4:xs1 (P.tbl (n+n0)) ZaZ (fe w rest k i m room (Wx (.str x)) Wy Wy Wy) h=.ok (.nx,fe w rest k i m room (Wx (.str x)) (Wx (.str f)) Wy Wy) h:=by exact Zj (i:=7) ef
 have hc:=Zih c [(f,O "f"),(x,O "n")] (by simp;lia);have cw:=c.wider [(f,O "f"),(x,O "n")] (by simp[wx,wf]);have sub:∀y∈(sc++[(f,O "f"),(x,O "n")]).map (·.1),y∈x::f::sc.map (·.1):=λy hy=>by simp at hy ⊢;rcases hy with z|z|z<;>simp[z]
 generalize hh1:(h++[DO.lst ([(f,O "f"),(x,O "n")].map pairOf),.lst ((sc++[(f,O "f"),(x,O "n")]).map pairOf)])=h1 at hc cw;have ug:Up i h h1:=by rw[<- hh1];exact Up.app
 have hl1:h1.length=h.length+2:=by rw[<- hh1];simp
 have x5:xs1 (P.tbl (n+n0)) ZaY (fe w rest k i m room (Wx (.str x)) (Wx (.str f)) Wy Wy) h=.ok (.nx,fe w rest k i m room (Wx (.str x)) (Wx (.str f)) (Wx (.ref (h.length+1))) Wy) h1:=by exact Zj (i:=8) ((Zk (x:=.ref k) (y:=.ref h.length) (h1:=h) (h2:=h++[.lst ([(f,O "f"),(x,O "n")].map pairOf)]) rfl rfl).trans hc)
 have x6:xs1 (P.tbl (n+n0)) ZaX (fe w rest k i m room (Wx (.str x)) (Wx (.str f)) (Wx (.ref (h.length+1))) Wy) h1=.ok (.nx,fe w rest k i m room (Wx (.str x)) (Wx (.str f)) (Wx (.ref (h.length+1))) (Wx (T.call (.name f) (.op .sub (.name x) (.num 1))).d)) h1:=by exact rfl
 rw[Za x3,Za x4,Za x5,Za x6];generalize hsc:sc++[(f,O "f"),(x,O "n")]=sc1 at cw sub hh1;have hsl:sc1.length=sc.length+2:=by rw[<- hsc];simp
 clear x1 x2 x3 x4 x5 x6 hc hh1 hsc ex ef;have last:∀(t1:T) (g1:Hd) (a1 b1:Int),Up i h1 g1->St3 g1 i j cs a1 b1->a<=a1->a1<=a+A r->Cl (x::f::sc.map (·.1)) t1->dep t1<=3 * r+4 ->
  xs1 (P.tbl (n+n0)) Z8 (fe w rest k i m room (Wx (.str x)) (Wx (.str f)) (Wx (.ref (h.length+1))) (Wx (T.call (.name f) (.op .sub (.name x) (.num 1))).d)) h1=.ok (.nx,fe w rest k i m room (Wx (.str x)) (Wx (.str f)) (Wx (.ref (h.length+1))) (Wx t1.d)) g1 ->
  Made cs h i j sc a (2 * A r) (3 * r+6) (Zh (xs2 (P.tbl (n+n0)) (.cons Z8 (.cons Z7 .nil)) (fe w rest k i m room (Wx (.str x)) (Wx (.str f)) (Wx (.ref (h.length+1))) (Wx (T.call (.name f) (.op .sub (.name x) (.num 1))).d)) h1)):=by
  intro t1 g1 a1 b1 u1 s1 l1 l2 c1 p1 x7;rw[Za x7];obtain⟨t2,g2,a2,b2,e2,u2,s2,l3,l4,c2,p2⟩:=ih n cs ns g1 i j m (h.length+1) sc1 a1 b1 (O "n") (room - 1) (by clear ha;lia) (cw.up u1 s1 (by clear hl ha hr;lia)) (by clear ha hr;lia) (by clear hl hr;lia);refine⟨.rcc f x (.iff (.name x) t1 t2),g2,a2,b2,?_,ug.trans (u1.trans u2),s2,Int.le_trans l1 l3,by clear hl hr ha;lia,⟨⟨Oi,c1,Cl.mono sub c2⟩,nfx⟩,by simp only[dep];clear hl hr ha;lia⟩;have e:xs1 (P.tbl (n+n0)) Z7 (fe w rest k i m room (Wx (.str x)) (Wx (.str f)) (Wx (.ref (h.length+1))) (Wx t1.d)) g1=.ok (.rt (T.rcc f x (.iff (.name x) t1 t2)).d,fe w rest k i m room (Wx (.str x)) (Wx (.str f)) (Wx (.ref (h.length+1))) (Wx t1.d)) g2:=by exact Zx (ZV (Zb rfl (Zb rfl (Zb rfl (Zb (ZV (Zb rfl (Zb rfl (Zb rfl (Zb (Zl e2 rfl) rfl)))) (by simp)) rfl)))) (by simp))
  rw[Zf e];rfl
 by_cases q0:rest / 60 % 3=0
 . obtain⟨t1,g1,a1,b1,e1,u1,s1,l1,l2,c1,p1⟩:=ih n cs ns h1 i j m (h.length+1) sc1 a b (O "n") room hr cw (by clear ha hr;lia) (by clear hl hr;lia);refine last t1 g1 a1 b1 u1 s1 l1 l2 (Cl.mono sub c1) (by lia) ?_;exact(Zs (Zm (ZeS (x:=rest / 60 % 3) rfl rfl) (decide_eq_true q0))).trans (Za (ZD e1 rfl rfl))
 . by_cases q1:rest / 60 % 3=1
   . have w2:∃wd:Wd,atI [D.str (O "+"),.str (O "*")] (rest / 180 % 2)=Wx (.str wd.s):=by
      have:rest / 180 % 2=0\/rest / 180 % 2=1:=by clear ih ha hl hr q0 q1;lia
      rcases this with z|z<;>rw[z]
      . exact⟨.add,by simp[Wd.s]⟩
      . exact⟨.mul,by simp[Wd.s]⟩
     obtain⟨wd,w2⟩:=w2;obtain⟨t1,g1,a1,b1,e1,u1,s1,l1,l2,c1,p1⟩:=ih n cs ns _ i j m (h.length+1) sc1 a b (O "n") (room - 1) (by clear ha;lia) (cw.app (g:=[.lst [.str (O "+"),.str (O "*")]])) (by clear ha hr;lia) (by clear hl hr;lia);refine last (.op wd t1 (.call (.name f) (.op .sub (.name x) (.num 1)))) g1 a1 b1 (Up.app.trans u1) s1 l1 l2 ⟨Cl.mono sub c1,Oh _ Oi,Oi,by show(0:Int)<=1/\(1:Int)<1000000;decide⟩ (by simp only[dep];clear hl hr ha;lia) ?_;exact(Zt (Zm (ZeS (x:=rest / 60 % 3) rfl rfl) (decide_eq_false q0))).trans (Za ((Zs (Zm (ZeS (x:=rest / 60 % 3) rfl rfl) (decide_eq_true q1))).trans (Za (Zj (i:=9) (ZV (Zb (ZjM w2 rfl rfl (by simp)) (Zb (Zl e1 rfl) rfl)) (by simp))))))
   . refine last (.call (.name f) (.op .sub (.name x) (.num 1))) h1 a b Up.refl cw.st (Int.le_refl _) (by lia) ⟨Oh _ Oi,Oi,by show(0:Int)<=1/\(1:Int)<1000000;decide⟩ (by simp only[dep];lia) ?_;exact(Zt (Zm (ZeS (x:=rest / 60 % 3) rfl rfl) (decide_eq_false q0))).trans (Za ((Zt (Zm (ZeS (x:=rest / 60 % 3) rfl rfl) (decide_eq_false q1))).trans rfl))
end Gn
end
section
set_option tactic.hygienic false
namespace Gn
open PySem L2 IV
variable {P:Pg}{cs:List Int}{ns:List Str}{h h':Hd}{i j m k:Nat}{sc:Scp}{a b a' b':Int}
theorem ZlG(rd:Nat->Option PyData):∀ys:List Str,D.pys rd (ys.map D.str)=Wx (ys.map PyData.str)
 |[]=>rfl
 |y::ys=>by rw[Op,D.pys,ZlG rd ys];rfl
def Ztk{l:Nat}{ys:List Str}(e:h[l]? = Wx (.lst (ys.map .str))):Zb8 Wz (.ref l) (.ref h.length) (h++[.lst []])=.ok (.bl (!ys.isEmpty)) (h++[.lst []]):=by
 have e1:(h++[DO.lst []])[l]? = Wx (.lst (ys.map .str)):=by rw[Oe (ZN e)];exact e
 have p1:ZiU (h++[.lst []]) (.ref l)=Wx (.list (ys.map .str)):=by show ZhJ (h++[.lst []]) 4 l=_;rw[ZhJ,e1];simp[ZlG]
 have p2:ZiU (h++[DO.lst []]) (.ref h.length)=Wx (.list []):=by show ZhJ (h++[.lst []]) 4 h.length=_;rw[ZhJ,Zc2];rfl
 unfold IV.Zb8;rw[p1,p2];simp only;have d0:min (PyData.list (ys.map .str)).depth (PyData.list []).depth<=1100:=by
  have:(PyData.list []).depth<=1:=by decide +kernel
  lia
 rw[if_pos d0];cases ys with
 |nil=>rfl
 |cons y r=>rfl
def ZI{U:Tb}{R:Sxs}{ρ':Ev}{h':Hd}{s:Sx}{A B_:Sxs}{S:Ev}{h:Hd}(e:xs2 U (.cons s A) S h=.ok (.nx,ρ') h')(q:∀ρ1 h1,xs2 U A ρ1 h1=.ok (.nx,ρ') h'->xs2 U B_ ρ1 h1=xs2 U R ρ' h'):xs2 U (.cons s B_) S h=xs2 U R ρ' h':=by
 rw[ZfC]at e ⊢;cases r1:xs1 U s S h with
 |bad=>rw[r1]at e;cases e
 |exc c h1=>rw[r1]at e;cases e
 |ok p h1=>
  rw[r1]at e;obtain⟨fl,ρ1⟩:=p;cases fl with
  |nx=>exact q ρ1 h1 e
  |bk=>cases e
  |ct=>cases e
  |rt d=>cases e
def Zuk(R:Sxs)(e:xs2 U (.cons s1 (.cons s2 (.cons s3 (.cons s4 (.cons s5 .nil))))) S h=.ok (.nx,ρ') h'):xs2 U (.cons s1 (.cons s2 (.cons s3 (.cons s4 (.cons s5 R))))) S h=xs2 U R ρ' h':=ZI e λ_ _ e=>ZI e λ_ _ e=>ZI e λ_ _ e=>ZI e λ_ _ e=>ZI e λ_ _ e=>by cases e;rfl
noncomputable def ae(w:Str)(k i m:Nat)(room v q:Int)(l:Nat)(a b:Option D):Ev:=[Wx (.str w),Wx (.ref k),Wx (.ref i),Wx (.ref m),Wx (.int room),Wx (.int v),Wx (.int q),Wx (.ref l),a,b]
def any_gen(H:Mkr P)(n1:Nat)(c:Ctx cs ns h i j m k sc a b)(w:Str)(room:Int)(mx:Int)(dm:Nat)(hdm:2<=dm)(hl:sc.length<=50)(ha:a<2 ^ 50)(hmx:1<=mx)
 (rc:1<=room->∃r n0 n',room - 1<=(r:Nat)/\Zmd P r n0/\n1+2=n'+n0+1/\1<=n0/\sc.length+2+2 * r<=50/\1+3 * A r<=mx/\a+mx<2 ^ 50/\3 * r+6<=dm) :
 Made cs h i j sc a mx dm (run P (n1+3) (O "_law_any") [.str w,.ref k,.ref i,.ref m,.int room] h):=by
 have hab:=c.ab;rw[Zfr H.any rfl];obtain⟨v,w',ys,h5,l,e5,u5,c5,hy,hys⟩:=Zpx H n1 c w room hl ha Wy Wy Wy;have st:Zu ZaW.N [.str w,.ref k,.ref i,.ref m,.int room]=[Wx (.str w),Wx (.ref k),Wx (.ref i),Wx (.ref m),Wx (.int room),Wy,Wy,Wy,Wy,Wy]:=rfl;rw[st,show ZaW.body=.cons Zbg (.cons Zb1 (.cons Zbf (.cons Zb0 (.cons Zbe (.cons Zbd (.cons ZaF (.cons ZbZ (.cons Zbc (.cons ZaS (.cons Zbr .nil))))))))))from rfl,Zuk _ e5];show Made cs h i j sc a mx dm (Zh (xs2 (P.tbl (n1+2)) (.cons Zbd (.cons ZaF (.cons ZbZ (.cons Zbc (.cons ZaS (.cons Zbr .nil)))))) (ae w' k i m room v (v / 87) l Wy Wy) h5));have nn:=Ztk hy;have t1:tst (P.tbl (n1+2)) (.ex (.cmp .NotEq (.var 7) (.lstl .nil))) (ae w' k i m room v (v / 87) l Wy Wy) h5=.ok (!ys.isEmpty) (h5++[.lst []]):=Zc1 ((Zw (x:=.ref l) (y:=.ref h5.length) (h1:=h5) (h2:=h5++[DO.lst []]) rfl rfl).trans nn);have t2:∀h,tst (P.tbl (n1+2)) (.ex (.cmp .Eq (.bin .Mod (.var 6) (.cst (.int 3))) (.cst (.int 0)))) (ae w' k i m room v (v / 87) l Wy Wy) h=.ok (WB (v / 87 % 3=0)) h:=λh=>ZeS rfl rfl;have t8:∀h,tst (P.tbl (n1+2)) (.ex (.cmp .Eq (.bin .Mod (.var 6) (.cst (.int 8))) (.cst (.int 0)))) (ae w' k i m room v (v / 87 / 30) l Wy Wy) h=.ok (WB (v / 87 / 30 % 8=0)) h:=λh=>ZeS rfl rfl;by_cases hn:ys.isEmpty=WA/\v / 87 % 3=0
 ·
  have hp:0<ys.length:=by
   cases ys with
   |nil=>simp at hn
   |cons y r=>simp
  have ix:opB .Mod (.int (v / 87 / 3)) (.int ys.length) (h5++[.lst []])=.ok (.int (v / 87 / 3 % ys.length)) (h5++[.lst []]):=ZR (by lia);have hb:(0:Int)<=v / 87 / 3 % ys.length/\v / 87 / 3 % ys.length<ys.length:=⟨Int.emod_nonneg _ (by lia),Int.emod_lt_of_pos _ (by lia)⟩
  obtain⟨q,hq⟩:∃q:Nat,v / 87 / 3 % ys.length=q:=⟨(v / 87 / 3 % ys.length).toNat,by lia⟩
  have hql:q<ys.length:=by lia
  have hl5:(h5++[DO.lst []])[l]? = Wx (.lst (ys.map .str)):=by rw[Oe (ZN hy)];exact hy
  have len:ZbJ P.GD .len [.ref l] (h5++[.lst []])=.ok (.int ys.length) (h5++[.lst []]):=by simp only[ZbJ,ZjU,seqOf,lstOf,hl5];simp
  have at5:Z5 P.GD (.ref l) (.int (q:Int)) (h5++[.lst []])=.ok (.str ys[q]) (h5++[.lst []]):=by rw[ZS hl5,IV.Zb2,On,Og hql];rfl
  refine⟨.name ys[q],h5++[.lst []],a+1,b - 1,?_,u5.trans Up.app,c5.st.app,by lia,by lia,hys _ (List.getElem_mem hql),Yy _⟩;have x6:xs1 (P.tbl (n1+2)) Zbd (ae w' k i m room v (v / 87) l Wy Wy) h5=.ok (.rt (T.name ys[q]).d,(ae w' k i m room v (v / 87) l Wy Wy)) (h5++[.lst []]):=by have el:ev (P.tbl (n1+2)) (.blt .len (.cons (.var 7) .nil)) (ae w' k i m room v (v / 87) l Wy Wy) (h5++[.lst []])=.ok (.int ys.length) (h5++[.lst []]):=len;have ei:ev (P.tbl (n1+2)) (.bin .Mod (.bin .FloorDiv (.var 6) (.cst (.int 3))) (.blt .len (.cons (.var 7) .nil))) (ae w' k i m room v (v / 87) l Wy Wy) (h5++[.lst []])=.ok (.int (q:Int)) (h5++[.lst []]):=(Zk (x:=.int (v / 87 / 3)) rfl el).trans (ix.trans (by rw[hq]));rw[hn.1]at t1;exact(Zs (Zr7 t1 (Zm (t2 _) (decide_eq_true hn.2)))).trans (Zf (Zx (ZV (Zb rfl (Zb ((Zr (x:=.ref l) rfl ei).trans at5) rfl)) (by simp))))
  rw[Zf x6];rfl
 . have x6:xs1 (P.tbl (n1+2)) Zbd (ae w' k i m room v (v / 87) l Wy Wy) h5
    = .ok (.nx,(ae w' k i m room v (v / 87) l Wy Wy)) (h5++[.lst []]):=by
    cases q:ys.isEmpty with
    |true=>rw[q]at t1;exact(Zt (Zwd t1)).trans rfl
    |false=>rw[q]at t1;have h3:¬ v / 87 % 3=0:=λz=>hn ⟨q,z⟩;exact(Zt (Zr7 t1 (Zm (t2 _) (decide_eq_false h3)))).trans rfl
   have c6:=c5.app (g:=[.lst []]);have u6:=u5.trans (Up.app (i:=i) (g:=[.lst []]));clear t1 nn;generalize hh6:h5++[.lst []]=h6 at x6 c6 u6;rw[Za x6];have ix2:Z5 P.GD (.ref i) (.int 2) h6=.ok (.int (b - 1)) h6:=by rw[ZS c6.st.1];simp
   have r1:tst (P.tbl (n1+2)) (.ex (.cmp .Lt (.var 4) (.cst (.int 1)))) (ae w' k i m room v (v / 87) l Wy Wy) h6=.ok (WB (room<1)) h6:=rfl;have r2:tst (P.tbl (n1+2)) (.ex (.cmp .Lt (.ix (.var 2) (.cst (.int 2))) (.cst (.int 0)))) (ae w' k i m room v (v / 87) l Wy Wy) h6=.ok (WB (b - 1<0)) h6:=Zc1 ((Zw (y:=.int 0) (h2:=h6) ((Zr (x:=.ref i) (y:=.int 2) rfl rfl).trans ix2) rfl).trans rfl);obtain⟨t,g,ep,ct,pt⟩:=ZhK H (n1+1) w' (v / 87 / 3) h6 (sc.map (·.1));by_cases hr:room<1
   . refine⟨t,h6++g,a+1,b - 1,?_,u6.trans Up.app,c6.st.app,by lia,by lia,ct,by lia⟩;have x7:xs1 (P.tbl (n1+2)) ZaF (ae w' k i m room v (v / 87) l Wy Wy) h6=.ok (.rt t.d,(ae w' k i m room v (v / 87) l Wy Wy)) (h6++g):=(Zs (Zs7 (Zm r1 (decide_eq_true hr)))).trans (Zf (ZD ep rfl rfl));rw[Zf x7];rfl
   . by_cases hb:b - 1<0
     . refine⟨t,h6++g,a+1,b - 1,?_,u6.trans Up.app,c6.st.app,by lia,by lia,ct,by lia⟩;have x7:xs1 (P.tbl (n1+2)) ZaF (ae w' k i m room v (v / 87) l Wy Wy) h6=.ok (.rt t.d,(ae w' k i m room v (v / 87) l Wy Wy)) (h6++g):=(Zs (ZmD (Zm r1 (decide_eq_false hr)) (Zm r2 (decide_eq_true hb)))).trans (Zf (ZD ep rfl rfl));rw[Zf x7];rfl
     . obtain⟨r,n0,n',q1,ih,q2,q3,q4,q5,q6,q7⟩:=rc (by lia);have Ap:=ZjZ r;have x7:xs1 (P.tbl (n1+2)) ZaF (ae w' k i m room v (v / 87) l Wy Wy) h6
        = .ok (.nx,(ae w' k i m room v (v / 87) l Wy Wy)) h6:=by
        exact(Zt (ZmD (Zm r1 (decide_eq_false hr)) (Zm r2 (decide_eq_false hb)))).trans rfl
       have x8:xs1 (P.tbl (n1+2)) ZbZ (ae w' k i m room v (v / 87) l Wy Wy) h6
        = .ok (.nx,(ae w' k i m room v (v / 87 / 30) l Wy Wy)) h6:=by
        exact rfl
       rw[Za x7,Za x8];by_cases h8:v / 87 / 30 % 8=0
       . obtain⟨t1,g1,a1,b1,e1,u1,s1,l1,l2,c1,p1⟩:=ih (n'+1) cs ns h6 i j m k sc (a+1) (b - 1) (O "n") (room - 1) q1 c6 (by lia) (by lia);have cc1:=c6.up u1 s1 (by lia);obtain⟨t2,g2,a2,b2,e2,u2,s2,l3,l4,c2,p2⟩:=ih (n'+1) cs ns g1 i j m k sc a1 b1 w' (room - 1) q1 cc1 (by lia) (by lia);have cc2:=cc1.up u2 s2 (by lia);obtain⟨t3,g3,a3,b3,e3,u3,s3,l5,l6,c3,p3⟩:=ih (n'+1) cs ns g2 i j m k sc a2 b2 w' (room - 1) q1 cc2 (by lia) (by lia);rw[show n'+1+n0=n1+2 by lia]at e1 e2 e3;refine⟨.iff t1 t2 t3,g3,a3,b3,?_,u6.trans (u1.trans (u2.trans u3)),s3,by lia,by lia,⟨c1,c2,c3⟩,by simp only[dep];lia⟩;have x9:xs1 (P.tbl (n1+2)) Zbc (ae w' k i m room v (v / 87 / 30) l Wy Wy) h6=.ok (.rt (T.iff t1 t2 t3).d,(ae w' k i m room v (v / 87 / 30) l (Wx t1.d) (Wx t2.d))) g3:=by refine(Zs (Zm (t8 _) (decide_eq_true h8))).trans ?_;refine(Za (ρ1:=ae w' k i m room v (v / 87 / 30) l (Wx t1.d) Wy) (h1:=g1) (ZD e1 rfl rfl)).trans ?_;refine(Za (ρ1:=ae w' k i m room v (v / 87 / 30) l (Wx t1.d) (Wx t2.d)) (h1:=g2) (ZD e2 rfl rfl)).trans ?_;exact Zf (ZD e3 rfl rfl)
         rw[Zf x9];rfl
       . have x9:xs1 (P.tbl (n1+2)) Zbc (ae w' k i m room v (v / 87 / 30) l Wy Wy) h6=.ok (.nx,(ae w' k i m room v (v / 87 / 30) l Wy Wy)) h6:=(Zt (Zm (t8 _) (decide_eq_false h8))).trans rfl;rw[Za x9];by_cases hw:w'=O "n"
         . obtain⟨t1,g1,a1,b1,e1,u1,s1,l1,l2,c1,p1⟩:=Zti H ih q3 n' c6 (v / 87 / 30 / 8) (room - 1) q1 (by lia) (by lia);rw[<- q2]at e1;refine⟨t1,g1,a1,b1,?_,u6.trans u1,s1,by lia,by lia,c1,by lia⟩;have x10:xs1 (P.tbl (n1+2)) ZaS (ae w' k i m room v (v / 87 / 30) l Wy Wy) h6=.ok (.rt t1.d,(ae w' k i m room v (v / 87 / 30) l Wy Wy)) g1:=(Zs (Zm (Zak rfl rfl) (decide_eq_true hw))).trans (Zf (ZD e1 rfl rfl));rw[Zf x10];rfl
         . obtain⟨t1,g1,a1,b1,e1,u1,s1,l1,l2,c1,p1⟩:=ZtQ H ih n' c6 w' (v / 87 / 30 / 8) (room - 1) q1 (by lia) (by lia);rw[<- q2]at e1;refine⟨t1,g1,a1,b1,?_,u6.trans u1,s1,by lia,by lia,c1,by lia⟩;have x10:xs1 (P.tbl (n1+2)) ZaS (ae w' k i m room v (v / 87 / 30) l Wy Wy) h6=.ok (.nx,(ae w' k i m room v (v / 87 / 30) l Wy Wy)) h6:=(Zt (Zm (Zak rfl rfl) (decide_eq_false hw))).trans rfl;have x11:xs1 (P.tbl (n1+2)) Zbr (ae w' k i m room v (v / 87 / 30) l Wy Wy) h6=.ok (.rt t1.d,(ae w' k i m room v (v / 87 / 30) l Wy Wy)) g1:=ZD e1 rfl rfl;rw[Za x10,Zf x11];rfl
theorem Zpw(H:Mkr P):∀r:Nat,Zmd P r (2 * r+3)
 |0=>λn cs ns h i j m k sc a b w room hr c hl ha=>by have:=any_gen H n c w room (A 0) 3 (by decide) (by lia) (by have:=ZjZ 0;lia) (by decide) (λz=>by lia);exact this
 |r+1=>λn cs ns h i j m k sc a b w room hr c hl ha=>by have Ap:=ZjZ r;have As:=Zud r;have:=any_gen H (n+2 * r+2) c w room (A (r+1)) (3 * (r+1)+3) (by lia) (by lia) (by lia) (by lia) (λ_=>⟨r,2 * r+3,n,by lia,Zpw H r,by lia,by lia,by lia,by lia,by lia,by lia⟩);rw[show n+(2 * (r+1)+3)=n+2 * r+2+3 by lia];exact this
end Gn
end
section
namespace Gn
open PySem L2 IV
noncomputable def front:T->List D
 |.num n=>[.str (O "num"),.int n]
 |.name x=>[.str (O "name"),.str x]
 |.fn x _=>[.str (O "fn"),.str x]
 |.rcc f x _=>[.str (O "rec"),.str f,.str x]
 |.call _ _=>[.str (O "call")]
 |.iff _ _ _=>[.str (O "if")]
 |.op w _ _=>[.str w.s]
def Zph(t:T):t.d=.tup (front t++t.parts.map T.d):=by cases t<;>rfl
noncomputable def Zh3:D->Bool
 |.str _|.int _=>Wz
 |_=>WA
def ZkV(t:T):∀d∈front t,Zh3 d=Wz:=by cases t<;>simp[front,Zh3]
def ZoR(hf:Zh3 d=Wz):ZbJ GD .isi [d,.ty "tuple"] h=.ok (.bl WA) h:=by
 cases d with
 |str x=>rfl
 |int x=>rfl
 |_=>cases hf
def Zq7:ZbJ GD .isi [.tup xs,.ty "tuple"] h=.ok (.bl Wz) h:=rfl
noncomputable abbrev isT:Tx:=.ex (.blt .isi (.cons (.var 0) (.cons (.cst (.ty "tuple")) .nil)))
theorem ZgA{U:Tb}{acc rest:List D}:∀ds:List D,(∀d∈ds,Zh3 d=Wz)->acc.length<sizeLine->Zz Wy (.nm 0) (tsto U (Wx isT)) (ev U e) (ds++rest) [Wy] acc h=Zz Wy (.nm 0) (tsto U (Wx isT)) (ev U e) rest [Wy] acc h
 |[],_,_=>rfl
 |d::ds,hd,hz=>by have:=ZoR (GD:=U.GD) (h:=h) (hd d (by simp));rw[List.cons_append,ZQ];simp[Wk.stays,hz,this];exact ZgA ds (λx hx=>hd x (by simp[hx])) hz
theorem Zgy{U:Tb}{f:T->Int}:∀(ts:List T) (acc:List D) (h:Hd),(∀t∈ts,∀h,∃g,ev U e [Wx t.d] h=.ok (.int (f t)) (h++g))->acc.length+ts.length<=1000->∃g,Zz Wy (.nm 0) (tsto U (Wx isT)) (ev U e) (ts.map T.d) [Wy] acc h=.ok (acc++ts.map λt=>.int (f t)) (h++g)
 |[],acc,h,_,_=>⟨[],by simp[Zz,Wk.stays]⟩
 |t::ts,acc,h,ht,hz=>by
  simp only[Os]at hz;obtain⟨g1,e1⟩:=ht t (by simp) h;obtain⟨g2,e2⟩:=Zgy (U:=U) (e:=e) (f:=f) ts (acc++[.int (f t)]) (h++g1) (λx hx=>ht x (by simp[hx])) (by simp;lia);refine⟨g1++g2,?_⟩;have hz2:acc.length<sizeLine:=by rw[YC];lia
  have it:ZbJ U.GD .isi [t.d,.ty "tuple"] h=.ok (.bl Wz) h:=by rw[Zph];exact Zq7
  rw[Op,ZQ];simp[Wk.stays,hz2,it,e1,e2]
def ZeB{U:Tb}{f:T->Int}(t:T)(h:Hd)(ht:∀s∈t.parts,∀h,∃g,ev U e [Wx s.d] h=.ok (.int (f s)) (h++g)):∃g,Zz Wy (.nm 0) (tsto U (Wx isT)) (ev U e) (front t++t.parts.map T.d) [Wy] [] h=.ok (t.parts.map λs=>.int (f s)) (h++g):=by obtain⟨g,e1⟩:=Zgy (f:=f) t.parts [] h ht (by cases t<;>simp[T.parts]);refine⟨g,?_⟩;rw[ZgA _ (ZkV t) (by rw[YC];simp),e1];simp
theorem ints_map(f:T->Int):∀ts:List T,intsOf (ts.map λs=>D.int (f s))=Wx (ts.map f)
 |[]=>rfl
 |t::ts=>by rw[Op,intsOf,ints_map f ts];rfl
variable {P:Pg}
def Zlz(t:T):(t.size:Int)=1+(t.parts.map λs=>(s.size:Int)).sum:=by
 unfold T.size;rw[T.places_parts];have:∀ts:List T,((ts.flatMap T.places).length:Int)=(ts.map λs=>(s.places.length:Int)).sum:=by
  intro ts;induction ts with
  |nil=>rfl
  |cons t ts ih=>rw[List.flatMap_cons,OA,Op,OI,<- ih];lia
 rw[Os,<- this]
 lia
def ZeA{t s:T}(hs:s∈t.parts):dep s<dep t:=by
 cases t<;>simp[T.parts]at hs<;>simp only[dep]
 . subst hs;lia
 . subst hs;lia
 . rcases hs with rfl|rfl<;>lia
 . rcases hs with rfl|rfl|rfl<;>lia
 . rcases hs with rfl|rfl<;>lia
theorem Zp1 (H:Mkr P):∀ (d n:Nat) (t:T) (h:Hd),dep t<=d->∃ g,run P (n+d+1) (O "_law_width") [t.d] h=.ok (.int t.size) (h++g):=by
 intro d;induction d with
 | zero =>
   intro n t h hd;rw [Zc H.width rfl];obtain ⟨g,e⟩:=ZeB (U:=⟨P.G,P.GD,run P (n+0),P.L⟩) (e:=.call (O "_law_width") (.cons (.var 0) .nil)) (f:=fun s=>(s.size:Int)) t h (fun s hs=>by have:=ZeA hs;lia);refine ⟨g++[.lst (t.parts.map fun s=>.int s.size)],?_⟩;rw [Zlz,Zph];have sm:ZbJ P.GD .sum [.ref (h++g).length] (h++g++[.lst (t.parts.map fun s=>D.int s.size)])=.ok (.int (t.parts.map fun s=>(s.size:Int)).sum) (h++g++[.lst (t.parts.map fun s=>D.int s.size)]):=by
     simp only [ZbJ,Zpu,lstOf,Zc2,Yz,ints_map];rfl
   simp at sm e;simp [Z2,Zdt,Zu,Zar,Zbp,e,sm]
 | succ d ih =>
   intro n t h hd;rw [Zc H.width rfl];obtain ⟨g,e⟩:=ZeB (U:=⟨P.G,P.GD,run P (n+(d+1)),P.L⟩) (e:=.call (O "_law_width") (.cons (.var 0) .nil)) (f:=fun s=>(s.size:Int)) t h (fun s hs h1=>by
     have:=ZeA hs;obtain ⟨g,e⟩:=ih n s h1 (by lia);refine ⟨g,?_⟩;have e':run P (n+(d+1)) (O "_law_width") [s.d] h1=.ok (.int s.size) (h1++g):=e;simp [e'])
   refine ⟨g++[.lst (t.parts.map fun s=>.int s.size)],?_⟩;rw [Zlz,Zph];have sm:ZbJ P.GD .sum [.ref (h++g).length] (h++g++[.lst (t.parts.map fun s=>D.int s.size)])=.ok (.int (t.parts.map fun s=>(s.size:Int)).sum) (h++g++[.lst (t.parts.map fun s=>D.int s.size)]):=by
     simp only [ZbJ,Zpu,lstOf,Zc2,Yz,ints_map];rfl
   simp at sm e;simp [Z2,Zdt,Zu,Zar,Zbp,e,sm]
end Gn
end
section
namespace Gn
open PySem L2 IV
variable {P:Pg}
def max2(x y:Nat):(if (1+(y:Int)) > 1+x then 1+(y:Int)else 1+x)=((max x y+1:Nat):Int):=by split<;>lia
def Zt3(t:T):Zdc (t.parts.map λs=>1+(dep s:Int)) 0=dep t:=by
 cases t with
 |num n=>rfl
 |name x=>rfl
 |fn x e=>simp[T.parts,Zdc,dep];lia
 |rcc f x e=>simp[T.parts,Zdc,dep];lia
 |call f a=>simp only[T.parts,Zdc,dep,Op,Oy,Wu,List.foldl_nil];rw[max2]
 |op w f a=>simp only[T.parts,Zdc,dep,Op,Oy,Wu,List.foldl_nil];rw[max2]
 |iff c t e=>simp only[T.parts,Zdc,dep,Op,Oy,Wu,List.foldl_nil];rw[max2];split<;>lia
theorem ZsH (H:Mkr P):∀ (d n:Nat) (t:T) (h:Hd),dep t<=d->∃ g,run P (n+d+1) (O "_law_deep") [t.d] h=.ok (.int (dep t)) (h++g):=by
 have fin:∀ (t:T) (h g:Hd),Zmb (.ref (h++g).length) (.int 0) (h++g++[.lst (t.parts.map fun s=>D.int (1+(dep s:Int)))])=.ok (.int (dep t)) (h++g++[.lst (t.parts.map fun s=>D.int (1+(dep s:Int)))]):=by
   intro t h g;have q:intsOf (t.parts.map fun s=>D.int (1+(dep s:Int)))=Wx (t.parts.map fun s=>1+(dep s:Int)):=ints_map (fun s=>1+(dep s:Int)) t.parts;simp only [Zmb,lstOf,Zc2,Yz,q,Yv,Zt3,ofO_some]
 intro d;induction d with
 | zero =>
   intro n t h hd;rw [Zc H.deep rfl];obtain ⟨g,e⟩:=ZeB (U:=⟨P.G,P.GD,run P (n+0),P.L⟩) (e:=.bin .Add (.cst (.int 1)) (.call (O "_law_deep") (.cons (.var 0) .nil))) (f:=fun s=>1+(dep s:Int)) t h (fun s hs=>by have:=ZeA hs;lia);refine ⟨g++[.lst (t.parts.map fun s=>.int (1+(dep s:Int)))],?_⟩;have sm:=fin t h g;rw [Zph];simp at sm e;simp [Zau,Zec,Zu,Zar,Zbp,e,sm]
 | succ d ih =>
   intro n t h hd;rw [Zc H.deep rfl];obtain ⟨g,e⟩:=ZeB (U:=⟨P.G,P.GD,run P (n+(d+1)),P.L⟩) (e:=.bin .Add (.cst (.int 1)) (.call (O "_law_deep") (.cons (.var 0) .nil))) (f:=fun s=>1+(dep s:Int)) t h (fun s hs h1=>by
     have:=ZeA hs;obtain ⟨g,e⟩:=ih n s h1 (by lia);refine ⟨g,?_⟩;have e':run P (n+(d+1)) (O "_law_deep") [s.d] h1=.ok (.int (dep s)) (h1++g):=e;simp [e'])
   refine ⟨g++[.lst (t.parts.map fun s=>.int (1+(dep s:Int)))],?_⟩;have sm:=fin t h g;rw [Zph];simp at sm e;simp [Zau,Zec,Zu,Zar,Zbp,e,sm]
theorem Zgz(H:Mkr P)(hk:h[k]? = Wx (.lst xs0)):∀(xs:List Int) (j:Nat) (acc:List Int),acc.length+xs.length<=1000->j+xs.length<=1000->∃cs:List Int,cs.length=acc.length+xs.length /\
 Zz (Wx (k,xs0)) (.two 0 1) (tsto ⟨P.G,P.GD,run P (n+1),P.L⟩ Wy) (ev ⟨P.G,P.GD,run P (n+1),P.L⟩ (.call (O "_law_mixed") (.cons (.var 1) (.cons (.bin .Add (.var 0) (.cst (.int 2))) .nil)))) (xs.mapIdx λq x=>D.tup [.int ((q+j:Nat):Int),.int x]) [Wy,Wy] (acc.map .int) h
  = .ok (cs.map .int) h
 |[],j,acc,_,_=>⟨acc,by simp,by simp[Zz,Wk.stays,hk]⟩
 |x::xs,j,acc,h1,h2=>by
  simp only[Os]at h1 h2;obtain⟨cs,q1,q2⟩:=Zgz H hk xs (j+1) (acc++[mixed x ((j:Int)+2)]) (by simp;lia) (by lia);refine⟨cs,by simp at q1;simp;lia,?_⟩;have e1:=ZhL H n x ((j:Int)+2) h ⟨by lia,by lia⟩;have hz:acc.length<sizeLine:=by rw[YC];lia
  have ei:(λ(q:Nat) (x:Int)=>D.tup [.int ((q+1+j:Nat):Int),.int x])=λq x=>D.tup [.int ((q+(j+1):Nat):Int),.int x]:=by funext q x;rw[show q+1+j=q+(j+1) by lia]
  rw[List.mapIdx_cons,ZQ];simp only[Wk.stays,hk,decide_true,true_and,Yu,hz,if_true,ZjN,List.set_cons_zero,List.set_cons_succ,Zmi,Zmy,Zp,bind_ok,Zic,Zcx,Zh8,Zia,O0,OJ,Option.join_some,ofO_some,Zk0,ZtU,ZqO,Nat.zero_add,e1];rw[ei];have:=q2;rw[List.map_append]at this;exact this
end Gn
end
section
set_option tactic.hygienic false
namespace Gn
open PySem L2 IV
variable {P:Pg}{cs:List Int}{ns:List Str}{h h':Hd}{i j m:Nat}{a b:Int}
def Zpy(H:Mkr P)(r N:Nat)(hN:2 * r+3<=N)(c:Ctx cs ns h i j m k sc a b)(w:Str)(room:Int)(hr:room<=r)(hl:sc.length+2 * r<=50)(ha:a+A r<2 ^ 50):
 Made cs h i j sc a (A r) (3 * r+3) (run P N (O "_law_any") [.str w,.ref k,.ref i,.ref m,.int room] h):=by
 have:=Zpw H r (N - (2 * r+3)) cs ns h i j m k sc a b w room hr c hl ha;rw[show N - (2 * r+3)+(2 * r+3)=N by lia]at this;exact this
def Ziy(H:Mkr P)(N:Nat)(t:T)(h:Hd)(hd:dep t<N):∃g,run P N (O "_law_width") [t.d] h=.ok (.int t.size) (h++g):=by obtain⟨g,e⟩:=Zp1 H (dep t) (N - dep t - 1) t h (Oq _);rw[show N - dep t - 1+dep t+1=N by lia]at e;exact⟨g,e⟩
def Zrl(H:Mkr P)(N:Nat)(t:T)(h:Hd)(hd:dep t<N):∃g,run P N (O "_law_deep") [t.d] h=.ok (.int (dep t)) (h++g):=by obtain⟨g,e⟩:=ZsH H (dep t) (N - dep t - 1) t h (Oq _);rw[show N - dep t - 1+dep t+1=N by lia]at e;exact⟨g,e⟩
def Ctx.bare(c:Ctx cs ns h i j m k sc a b):Ctx cs ns (h++[.lst []]) i j m h.length [] a b:=by
 have c1:=c.app (g:=[.lst []]);refine⟨c1.st,c1.nm,c1.n5,c1.nok,c1.nd,by unfold Zne;simp,by simp,c1.im,?_,c1.ab⟩;have:=ZN c.st.1
 lia
noncomputable def vp(ro:D)(st:Int)(o2 o3 o4 o5 o6:Option D):Ev:=[Wx ro,Wx (.int st),o2,o3,o4,o5,o6]
noncomputable def ZqZ:Sxs:=(.cons (.iff (.ex (.cmp .Lt (.call (O "_law_width") (.cons (.var 5) .nil)) (.cst (.int 50)))) (.cons (.put (.var 3) (.cst (.int 2)) (.cst (.int 12))) (.cons (.set (.nm 5) (.tupl (.cons (.cst (.str (O "+"))) (.cons (.var 5) (.cons (.call (O "_law_any") (.cons (.cst (.str (O "n"))) (.cons (.lstl .nil) (.cons (.var 3) (.cons (.var 4) (.cons (.cst (.int 6)) .nil)))))) .nil))))) .nil)) .nil) .nil)
inductive Turned(cs:List Int)(ns:List Str)(h:Hd)(i j m k:Nat)(sc:Scp)(a:Int)(dm:Nat)(S:Option D->Ev)(r:R (Fl×Ev)):Prop
 |mk (t:T) (h':Hd) (a' b':Int) (e:r=.ok (.nx,S (Wx t.d)) h') (c:Cl [] t) (d:dep t<=dm) (u:Up i h h') (x:Ctx cs ns h' i j m k sc a' b') (l:a'<=a+65536)
def turn(H:Mkr P)(hN:40<=N)(c:Ctx cs ns h i j m k sc a b)(ct:Cl [] t)(hd:dep t<=30)(ha:a<2 ^ 45)(ro:D)(st:Int)(o2 o6:Option D):Turned cs ns h i j m k sc a (max (dep t) 21+1) (λo=>vp ro st o2 (Wx (.ref i)) (Wx (.ref m)) o o6)
 (xs2 (P.tbl N) ZqZ (vp ro st o2 (Wx (.ref i)) (Wx (.ref m)) (Wx t.d) o6) h):=by
 have A6:A 6=16384:=by decide
 obtain⟨g,ew⟩:=Ziy H N t h (by lia);have c1:=c.app (g:=g);have te:tst (P.tbl N) (.ex (.cmp .Lt (.call (O "_law_width") (.cons (.var 5) .nil)) (.cst (.int 50)))) (vp ro st o2 (Wx (.ref i)) (Wx (.ref m)) (Wx t.d) o6) h=.ok (WB ((t.size:Int)<50)) (h++g):=Ztp (Zl ew rfl) rfl;by_cases hw:(t.size:Int)<50
 . have p1:Zbo (.ref i) (.int 2) (.int 12) (h++g)=.ok () ((h++g).set i (.lst [.ref j,.int a,.int 12])):=by simp only[Zbo,c1.st.1];rfl
   have s1:St3 ((h++g).set i (.lst [.ref j,.int a,.int 12])) i j cs a 12:=⟨by rw[Ol (ZN c1.st.1)],by rw[Oc c1.st.2.2];exact c1.st.2.1,c1.st.2.2⟩
   obtain⟨h2,p1,u1,c2⟩:∃h2,Zbo (.ref i) (.int 2) (.int 12) (h++g)=.ok () h2/\Up i h h2/\Ctx cs ns h2 i j m k sc a 12:=⟨_,p1,Up.app.trans Up.set,c1.up Up.set s1 c.ab⟩
   obtain⟨t1,h3,a1,b1,e1,u3,s3,l1,l2,c3,p3⟩:=Zpy H 6 N (by lia) c2.bare (O "n") 6 (by decide) (by simp) (by rw[A6];lia);have u4:=u1.trans ((Up.app (i:=i) (g:=[.lst []])).trans u3);have x1:xs1 (P.tbl N) (.put (.var 3) (.cst (.int 2)) (.cst (.int 12))) (vp ro st o2 (Wx (.ref i)) (Wx (.ref m)) (Wx t.d) o6) (h++g)=.ok (.nx,vp ro st o2 (Wx (.ref i)) (Wx (.ref m)) (Wx t.d) o6) h2:=by show R.bnd (Zbo (.ref i) (.int 2) (.int 12) (h++g)) _=_;rw[p1];rfl
   refine⟨.op .add t t1,h3,a1,b1,?_,⟨ct,c3⟩,by simp only[dep];lia,u4,c.up u4 s3 (by have:=c.ab;lia),by rw[A6]at l2;lia⟩;refine(Za ((Zs (Zm te (decide_eq_true hw))).trans ((Za x1).trans ((Za (Zj (ZV (Zb rfl (Zb rfl (Zb (Zl e1 (Zb rfl (Zb (Zjv rfl (by simp)) rfl))) rfl))) (by simp)))).trans rfl)))).trans rfl
 . exact⟨t,h++g,a,b,(Za ((Zt (Zm te (decide_eq_false hw))).trans rfl)).trans rfl,ct,by lia,Up.app,c1,by lia⟩
def ZuY(zs:List Int)(st:Int)(hz:zs.length<=100):∃ys:List Int,ys.length<=100/\∀h:Hd,ZgJ (.ro (zs.map D.int)) (Wx st) Wy h=.ok (.ref h.length) (h++[.lst (ys.map .int)]):=by
 refine⟨(zs.drop (HT.sIx zs.length 0 (Wx st))).take (HT.sIx zs.length zs.length Wy - HT.sIx zs.length 0 (Wx st)),?_,λh=>?_⟩
 . rw[List.length_take,List.length_drop]
   lia
 . show Zc0 (.lst (cutD (zs.map D.int) (Wx st) Wy)) h=_;simp[cutD,List.map_drop,List.map_take]
inductive Begun(h:Hd)(S:Option D->Option D->Option D->Ev)(r:Sxs->R (Fl×Ev))(U:Tb):Prop
 |mk (cs:List Int) (ns:List Str) (h':Hd) (i j m:Nat) (e:∀s,r s=xs2 U s (S (Wx (.ref j)) (Wx (.ref i)) (Wx (.ref m))) h') (c:Ctx cs ns (h'++[.lst []]) i j m h'.length [] 1 26) (l:h.length<=i) (u:Up i h h')
def ZsU(H:Mkr P)(hN:40<=N)(zs:List Int)(st:Int)(h:Hd)(hz:zs.length<=100):Begun h (λo2 o3 o4=>vp (.ro (zs.map .int)) st o2 o3 o4 Wy Wy) (λs=>xs2 (P.tbl N) (.cons Zaq (.cons ZcY (.cons ZcX s))) (vp (.ro (zs.map .int)) st Wy Wy Wy Wy Wy) h) (P.tbl N):=by
 obtain⟨N,rfl⟩:∃N3,N=N3+2:=⟨N - 2,by lia⟩
 obtain⟨ys,hyl,osl⟩:=ZuY zs st hz;obtain⟨cs,hcl,ec⟩:=Zgz H (n:=N+1) (h:=h++[.lst (ys.map .int)]) (k:=h.length) (xs0:=ys.map .int) (by simp) ys 0 [] (by simp;lia) (by lia);have en:ZcU (ys.map D.int)=ys.mapIdx λq x=>D.tup [.int ((q+0:Nat):Int),.int x]:=by unfold ZcU;apply List.ext_getElem?;intro q;simp[List.getElem?_mapIdx];cases ys[q]?<;>rfl
 have ei:evi (P.tbl (N+2)) (.enu (.sl (.var 0) (Wx (.var 1)) Wy)) (vp (.ro (zs.map .int)) st Wy Wy Wy Wy Wy) h=.ok ⟨Wx (h.length,ys.map .int),ZcU (ys.map D.int)⟩ (h++[.lst (ys.map .int)]):=by rw[Zrh,show ev (P.tbl (N+2)) (.sl (.var 0) (Wx (.var 1)) Wy) (vp (.ro (zs.map .int)) st Wy Wy Wy Wy Wy) h=.ok (.ref h.length) (h++[.lst (ys.map .int)])from osl h,Zp];simp[Zlq]
 rw[<- en]at ec;have x1:xs1 (P.tbl (N+2)) Zaq (vp (.ro (zs.map .int)) st Wy Wy Wy Wy Wy) h=.ok (.nx,vp (.ro (zs.map .int)) st (Wx (.ref (h++[DO.lst (ys.map .int)]).length)) Wy Wy Wy Wy) (h++[.lst (ys.map .int)]++[.lst (cs.map .int)]):=Zj (Zpb ei ec);generalize D.ro (zs.map .int)=ro at *;obtain⟨h1,j,u1,k1,lj,x1⟩:∃(h1:Hd) (j:Nat),Up h1.length h h1/\h1[j]? = Wx (.lst (cs.map .int))/\j<h1.length/\xs1 (P.tbl (N+2)) Zaq (vp ro st Wy Wy Wy Wy Wy) h=.ok (.nx,vp ro st (Wx (.ref j)) Wy Wy Wy Wy) h1:=⟨_,_,Up.app.trans Up.app,Zc2,by simp,x1⟩
 have s2:St3 (h1++[.lst [.ref j,.int 0,.int 26]]) h1.length j cs 0 26:=⟨Zc2,by rw[Oe lj];exact k1,by lia⟩
 obtain⟨v,e3,_⟩:=Zkd H N s2 (by decide);rw[ZnS]at e3;obtain⟨ns,n5,nok,nnd,e4⟩:=Zp5 H (N+1) v (h1++[.lst [.ref j,.int 1,.int 26]]);have hle:=u1.1;refine⟨cs,ns,h1++[.lst [.ref j,.int 1,.int 26]]++[.lst (ns.map .str)],h1.length,j,(h1++[DO.lst [.ref j,.int 1,.int 26]]).length,λs=>?_,⟨⟨by simp,by simp[Oe lj,k1],by lia⟩,by simp,n5,nok,nnd,by unfold Zne;simp,by simp,by simp,by simp,by decide⟩,hle,?_⟩
 . exact(Za x1).trans ((Za (Zj (Zjv (Zb rfl (Zb rfl (Zb rfl rfl))) (by simp)))).trans ((Za (Zj (Zl e4 (Zb (Zl e3 rfl) rfl)))).trans rfl))
 . rw[Oz];exact⟨by simp;lia,λm a n=>by rw[Oe (by lia)];exact u1.2 m a n⟩
inductive Sixth(h:Hd)(i:Nat)(S:Option D->Ev)(r:R (Fl×Ev)):Prop
 |mk (t:T) (h':Hd) (e:r=.ok (.nx,S (Wx t.d)) h') (c:Cl [] t) (s:t.size<=100) (d:dep t<=20) (u:Up i h h')
def ZsT(H:Mkr P)(hN:40<=N)(c:Ctx cs ns h i j m k sc a b)(ct:Cl [] t)(hd:dep t<=26)(ha:a<2 ^ 50)(ro:D)(st:Int)(o2 o4 o6:Option D):Sixth h i (λo=>vp ro st o2 (Wx (.ref i)) o4 o o6) (xs1 (P.tbl N) Zbk (vp ro st o2 (Wx (.ref i)) o4 (Wx t.d) o6) h):=by
 obtain⟨g1,ew⟩:=Ziy H N t h (by lia);obtain⟨g2,ed⟩:=Zrl H N t (h++g1) (by lia);have tw:tst (P.tbl N) (.ex (.cmp .Gt (.call (O "_law_width") (.cons (.var 5) .nil)) (.cst (.int 100)))) (vp ro st o2 (Wx (.ref i)) o4 (Wx t.d) o6) h=.ok (WB ((100:Int)<t.size)) (h++g1):=ZtO (Zl ew rfl) rfl;have td:tst (P.tbl N) (.ex (.cmp .Gt (.call (O "_law_deep") (.cons (.var 5) .nil)) (.cst (.int 20)))) (vp ro st o2 (Wx (.ref i)) o4 (Wx t.d) o6) (h++g1)=.ok (WB ((20:Int)<dep t)) (h++g1++g2):=ZtO (Zl ed rfl) rfl;have plain:∀{q:Sxs} (g:Hd),∃t' h',xs2 (P.tbl N) (.cons (.set (.nm 5) (.call (O "_law_plain") (.cons (.cst (.str (O "n"))) (.cons (.call (O "_law_next") (.cons (.var 3) .nil)) .nil)))) .nil) (vp ro st o2 (Wx (.ref i)) o4 (Wx t.d) o6) (h++g)=.ok (.nx,vp ro st o2 (Wx (.ref i)) o4 (Wx (T.d t')) o6) h'/\Cl [] t'/\dep t'<=2/\t'.size<=4/\Up i h h':=λg=>by
  obtain⟨N,rfl⟩:∃N3,N=N3+2:=⟨N - 2,by lia⟩
  obtain⟨v,e8,_⟩:=Zkd H N (c.app (g:=g)).st ⟨c.ab,ha⟩;obtain⟨tp,gp,e9,q1,q2,q3⟩:=ZhK H (N+1) (O "n") v ((h++g).set i (.lst [.ref j,.int (a+1),.int b])) [];exact⟨tp,_,(Za (Zj (Zl e9 (Zb rfl (Zb (Zl e8 rfl) rfl))))).trans rfl,q1,q2,q3,(Up.app.trans Up.set).trans Up.app⟩
 by_cases hw:(100:Int)<t.size
 . obtain⟨t',h',e,q1,q2,q3,u⟩:=plain (q:=.nil) g1;exact⟨t',h',(Zs (Zs7 (Zm tw (decide_eq_true hw)))).trans e,q1,by lia,by lia,u⟩
 . have tw':=Zm tw (decide_eq_false hw);by_cases hq:(20:Int)<dep t
   . obtain⟨t',h',e,q1,q2,q3,u⟩:=plain (q:=.nil) (g1++g2);rw[<- Oz]at e;exact⟨t',h',(Zs (ZmD tw' (Zm td (decide_eq_true hq)))).trans e,q1,by lia,by lia,u⟩
   . exact⟨t,_,(Zt (ZmD tw' (Zm td (decide_eq_false hq)))).trans rfl,ct,by lia,by lia,Up.app.trans Up.app⟩
def Zmr(H:Mkr P)(hN:40<=N)(zs:List Int)(st:Int)(h:Hd)(hz:zs.length<=100):∃t h',run P (N+1) (O "_law_program") [.ro (zs.map .int),.int st] h=.ok (T.d t) h'/\Cl [] t/\t.size<=100/\dep t<=20/\h.length<=h'.length/\∀q,q<h.length->h'[q]? = h[q]? := by
 rw[Zfr H.program rfl];have A7:A 7=65536:=by decide
 cases ZsU H hN zs st h hz with
 |mk cs ns h3 i j m e3 c4 li u3=>
 cases Zpy H 7 N (by lia) c4 (O "n") 7 (by decide) (by decide) (by rw[A7];decide)with
 |mk t4 h4 a4 b4 e5 u4 s4 l1 l2 ct4 d4=>
 rw[A7]at l2;cases turn H hN (c4.up u4 s4 (by lia)) ct4 (by lia) (by lia) (.ro (zs.map .int)) st (Wx (.ref j)) (Wx (.int 0))with
 |mk t5 h5 a5 b5 e6 ct5 d5 u5 c6 l4=>
 cases turn H hN c6 ct5 (by lia) (by lia) (.ro (zs.map .int)) st (Wx (.ref j)) (Wx (.int 1))with
 |mk t6 h6 a6 b6 e7 ct6 d6 u6 c7 l6=>
 cases ZsT H hN c7 ct6 (by lia) (by lia) (.ro (zs.map .int)) st (Wx (.ref j)) (Wx (.ref m)) (Wx (.int 1))with
 |mk t hh x6 ct sz dt u=>
 have u8:=(u3.trans ((Up.app (i:=i) (g:=[.lst []])).trans ((u4.trans u5).trans u6))).trans u;refine⟨t,hh,?_,ct,sz,dt,u8.1,λq hq=>u8.2 q hq (by lia)⟩;have x5:xs1 (P.tbl N) Zbl (vp (.ro (zs.map .int)) st (Wx (.ref j)) (Wx (.ref i)) (Wx (.ref m)) (Wx t4.d) Wy) h4=.ok (.nx,vp (.ro (zs.map .int)) st (Wx (.ref j)) (Wx (.ref i)) (Wx (.ref m)) (Wx t6.d) (Wx (.int 1))) h6:=(Zca (w:=⟨Wy,[.int 0,.int 1]⟩) rfl).trans ((Zcb rfl e6).trans ((Zcb rfl e7).trans rfl));exact(congrArg Zh ((e3 (.cons ZcW (.cons Zbl (.cons Zbk (.cons ZcV .nil))))).trans ((Za (Zj (Zl e5 (Zb rfl (Zb (Zjv rfl (by simp)) rfl))))).trans ((Za x5).trans ((Za x6).trans rfl))))).trans rfl
end Gn
end
section
namespace Rw
open PySem L2 IV Gn
noncomputable def Z4:Sxs:=(.cons (.forr (.two 2 3) (.pl (.var 1)) (.cons (.iff (.ex (.cmp .Eq (.var 2) (.var 0))) (.cons (.ret (.var 3)) .nil) .nil) .nil)) (.cons (.ret (.cst .non)) .nil))
noncomputable def Zaw:Fd:=⟨[(O "name"),(O "around")],[(O "name"),(O "around"),(O "known"),(O "thing")],Z4⟩
noncomputable def ZcK:Sxs:=(.cons (.iff (.ex (.cmp .Eq (.ix (.var 0) (.cst (.int 0))) (.cst (.str (O "num"))))) (.cons (.ret (.var 0)) .nil) .nil) (.cons (.iff (.ex (.cmp .Eq (.ix (.var 0) (.cst (.int 0))) (.cst (.str (O "name"))))) (.cons (.ret (.call (O "bound_to") (.cons (.ix (.var 0) (.cst (.int 1))) (.cons (.var 1) .nil)))) .nil) .nil) (.cons (.ret (.tupl (.cons (.cst (.str (O "clo"))) (.cons (.var 0) (.cons (.var 1) .nil))))) .nil)))
noncomputable def Zbz:Fd:=⟨[(O "E"),(O "around")],[(O "E"),(O "around")],ZcK⟩
noncomputable def Zhw:Sxs:=(.cons (.ret (.ix (.call (O "parts_of") (.cons (.ix (.var 0) (.cst (.int 1))) .nil)) (.cst (.int 0)))) .nil)
noncomputable def Zcu:Fd:=⟨[(O "W")],[(O "W")],Zhw⟩
noncomputable def Zcz:Sxs:=(.cons (.iff (.ex (.cmp .Eq (.ix (.ix (.var 0) (.cst (.int 1))) (.cst (.int 0))) (.cst (.str (O "fn"))))) (.cons (.ret (.bin .Add (.tupl (.cons (.tupl (.cons (.ix (.ix (.var 0) (.cst (.int 1))) (.cst (.int 1))) (.cons (.var 1) .nil))) .nil)) (.ix (.var 0) (.cst (.int 2))))) .nil) .nil) (.cons (.ret (.bin .Add (.tupl (.cons (.tupl (.cons (.ix (.ix (.var 0) (.cst (.int 1))) (.cst (.int 2))) (.cons (.var 1) .nil))) (.cons (.tupl (.cons (.ix (.ix (.var 0) (.cst (.int 1))) (.cst (.int 1))) (.cons (.var 0) .nil))) .nil))) (.ix (.var 0) (.cst (.int 2))))) .nil))
noncomputable def Zct:Fd:=⟨[(O "W"),(O "V")],[(O "W"),(O "V")],Zcz⟩
noncomputable def Zfn:Sxs:=(.cons (.iff (.ex (.cmp .Is (.var 0) (.cst .non))) (.cons (.ret (.tupl (.cons (.cst (.str (O "stuck"))) .nil))) .nil) .nil) (.cons (.ret (.tupl (.cons (.cst (.str (O "loud"))) (.cons (.var 0) .nil)))) .nil))
noncomputable def ZY:Fd:=⟨[(O "state")],[(O "state")],Zfn⟩
noncomputable def Zdy:Sxs:=(.cons (.iff (.ex (.cmp .NotEq (.ix (.var 0) (.cst (.int 0))) (.cst (.str (O "num"))))) (.cons (.ret (.cst .non)) .nil) .nil) (.cons (.ret (.ite (.ex (.cmp .Eq (.ix (.var 0) (.cst (.int 1))) (.cst (.int 0)))) (.var 2) (.var 1))) .nil))
noncomputable def ZaN:Fd:=⟨[(O "C"),(O "T"),(O "E")],[(O "C"),(O "T"),(O "E")],Zdy⟩
noncomputable def ZH:Sxs:=(.cons (.iff (.ors (.cons (.ex (.cmp .NotEq (.ix (.var 1) (.cst (.int 0))) (.cst (.str (O "num"))))) (.one (.ex (.cmp .NotEq (.ix (.var 2) (.cst (.int 0))) (.cst (.str (O "num")))))))) (.cons (.ret (.cst .non)) .nil) .nil) (.cons (.iff (.ex (.cmp .Eq (.var 0) (.cst (.str (O "<"))))) (.cons (.ret (.tupl (.cons (.cst (.str (O "num"))) (.cons (.ite (.ex (.cmp .Lt (.ix (.var 1) (.cst (.int 1))) (.ix (.var 2) (.cst (.int 1))))) (.cst (.int 1)) (.cst (.int 0))) .nil)))) .nil) .nil) (.cons (.iff (.ex (.cmp .Eq (.var 0) (.cst (.str (O "+"))))) (.cons (.ret (.tupl (.cons (.cst (.str (O "num"))) (.cons (.bin .Mod (.bin .Add (.ix (.var 1) (.cst (.int 1))) (.ix (.var 2) (.cst (.int 1)))) (.glo (O "BEYOND"))) .nil)))) .nil) .nil) (.cons (.iff (.ex (.cmp .Eq (.var 0) (.cst (.str (O "-"))))) (.cons (.ret (.tupl (.cons (.cst (.str (O "num"))) (.cons (.bin .Mod (.bin .Sub (.ix (.var 1) (.cst (.int 1))) (.ix (.var 2) (.cst (.int 1)))) (.glo (O "BEYOND"))) .nil)))) .nil) .nil) (.cons (.ret (.tupl (.cons (.cst (.str (O "num"))) (.cons (.bin .Mod (.bin .Mult (.ix (.var 1) (.cst (.int 1))) (.ix (.var 2) (.cst (.int 1)))) (.glo (O "BEYOND"))) .nil)))) .nil)))))
noncomputable def Za6:Fd:=⟨[(O "word"),(O "first"),(O "second")],[(O "word"),(O "first"),(O "second")],ZH⟩
mutual
inductive Th where
 |num (n:Int)|clo (E:T) (ar:Ar)
inductive Ar where
 |nil|cons (x:Str) (v:Th) (r:Ar)
end
mutual
noncomputable def Th.d:Th->D
 |.num n=>.tup [.str (O "num"),.int n]
 |.clo E ar=>.tup [.str (O "clo"),E.d,.tup ar.ds]
noncomputable def Ar.ds:Ar->List D
 |.nil=>[]
 |.cons x v r=>.tup [.str x,v.d]::r.ds
end
inductive Wt where
 |arg (A:T) (ar:Ar)|fn (V:Th)|iff (t e:T) (ar:Ar)|right (w:Wd) (F:T) (ar:Ar)|left (w:Wd) (V:Th)
inductive Sta where
 |go (E:T) (ar:Ar) (rest:List Wt)|back (V:Th) (rest:List Wt)
inductive Ans where
 |quiet (s:Sta)|loud (s:Sta)|value|stuck
noncomputable def Ar.get(x:Str):Ar->Option Th
 |.nil=>Wy
 |.cons y v r=>if y=x then Wx v else r.get x
noncomputable def Ar.len:Ar->Nat
 |.nil=>0
 |.cons _ _ r=>r.len+1
theorem Ar.ds_len:∀ar:Ar,ar.ds.length=ar.len
 |.nil=>by simp[Ar.ds,Ar.len]
 |.cons x v r=>by simp[Ar.ds,Ar.len,Ar.ds_len r]
noncomputable def thD:Option Th->D
 |none=>.non
 |some v=>v.d
structure Thg(P:Pg):Prop extends Gen P where
 bound_to:P.tb.lookup (O "bound_to")=Wx Zaw
 thing_of:P.tb.lookup (O "thing_of")=Wx Zbz
 body_of:P.tb.lookup (O "body_of")=Wx Zcu
 entered:P.tb.lookup (O "entered")=Wx Zct
 loud_or_stuck:P.tb.lookup (O "loud_or_stuck")=Wx ZY
 chosen:P.tb.lookup (O "chosen")=Wx ZaN
 worked:P.tb.lookup (O "worked")=Wx Za6
 once:P.G (O "AT_ONCE")=Wx (.tup [.str (O "num"),.str (O "name"),.str (O "fn"),.str (O "rec")])
 beyond:P.G (O "BEYOND")=Wx (.int 1000000)
variable {P:Pg}{h:Hd}
theorem ZlU{U:Tb}{x:Str}{A:Option D}:∀(ar:Ar) (k v:Option D),∃k' v',ZK Wy (.two 2 3) (xs2 U (.cons (.iff (.ex (.cmp .Eq (.var 2) (.var 0))) (.cons (.ret (.var 3)) .nil) .nil) .nil)) ar.ds [Wx (.str x),A,k,v] h
 = match ar.get x with
  |some th=>.ok (.rt th.d,[Wx (.str x),A,k',v']) h
  |none=>.ok (.nx,[Wx (.str x),A,k',v']) h
 |.nil,k,v=>⟨k,v,rfl⟩
 |.cons y th r,k,v=>by
  by_cases e:y=x
  . refine⟨Wx (.str y),Wx th.d,?_⟩;rw[Ar.ds,Zaz];simp[Ar.get,e]
  . obtain⟨k',v',q⟩:=ZlU (U:=U) (x:=x) (A:=A) r (Wx (.str y)) (Wx th.d);refine⟨k',v',?_⟩;rw[Ar.ds,Zaz];simp[Ar.get,e,q]
def ZhP(H:Thg P)(n:Nat)(x:Str)(ar:Ar):run P (n+1) (O "bound_to") [.str x,.tup ar.ds] h=.ok (thD (ar.get x)) h:=by
 rw[Zc H.bound_to rfl];obtain⟨k',v',q⟩:=ZlU (h:=h) (U:=⟨P.G,P.GD,run P n,P.L⟩) (x:=x) (A:=Wx (.tup ar.ds)) ar Wy Wy;cases e:ar.get x with
 |none=>rw[e]at q;show Zh (xs2 (P.tbl n) Z4 [Wx (.str x),Wx (.tup ar.ds),Wy,Wy] h)=_;rw[nx1 (U:=P.tbl n) (ss:=Z4) (ρ1:=[Wx (.str x),Wx (.tup ar.ds),k',v']) (h2:=h) ((Zca rfl).trans q) rfl];rfl
 |some th=>rw[e]at q;exact rt1 (U:=P.tbl n) (ss:=Z4) (S:=[Wx (.str x),Wx (.tup ar.ds),Wy,Wy]) ((Zca rfl).trans q) rfl
def Zf4(H:Thg P)(n:Nat)(V:Th)(T E:D):run P (n+1) (O "chosen") [V.d,T,E] h=.ok (match V with|.num z=>if z=0 then E else T|_=>.non) h:=by
 rw[Zc H.chosen (by cases V<;>rfl)];cases V with
 |num z=>by_cases e:z=0<;>simp[ZaN,Zdy,Zu,Th.d,e]
 |clo E ar=>exact rfl
noncomputable def wk(w:Wd)(a b:Int):Int:=match w with
 |.lt=>if a<b then 1 else 0
 |.add=>(a+b) % 1000000
 |.sub=>(a - b) % 1000000
 |.mul=>a * b % 1000000
noncomputable def wkD(w:Wd):Th->Th->D
 |.num a,.num b=>(Th.num (wk w a b)).d
 |_,_=>.non
def worked_nn(hw:P.tb.lookup (O "worked")=Wx Za6)(hb:P.G (O "BEYOND")=Wx (.int 1000000))(n:Nat)(w:Wd)(hx:0<=x/\x<1000000)(hy:0<=y/\y<1000000):run P (n+1) (O "worked") [.str w.s,(T.num x).d,(T.num y).d] h=.ok (T.num (wk w x y)).d h:=by
 rw[Zc hw (by rfl)];have gb:∀S,ev (P.tbl n) (.glo (O "BEYOND")) S h=.ok (.int 1000000) h:=λS=>by show R.ofO (P.G (O "BEYOND")) h=_;rw[hb];rfl
 have m2:opB .Mult (.int x) (.int y) h=.ok (.int (x * y)) h:=Zer ⟨ZZ (by lia) (by lia),ZZ (by lia) (by lia)⟩;have fin:∀(S:Ev) (e:Ex) (z:Int),ev (P.tbl n) e S h=.ok (.int z) h->xs1 (P.tbl n) (.ret (.tupl (.cons (.cst (.str (O "num"))) (.cons (.bin .Mod e (.glo (O "BEYOND"))) .nil)))) S h=.ok (.rt (T.num (z % 1000000)).d,S) h:=λS e z q=>Zx (ZV (Zb rfl (Zb ((Zk q (gb S)).trans (ZR (by decide))) rfl)) (by simp))
 show Zh (xs2 (P.tbl n) ZH [Wx (.str w.s),Wx (T.num x).d,Wx (T.num y).d] h)=_;rw[nx1 (U:=P.tbl n) (ss:=ZH) (ρ1:=[Wx (.str w.s),Wx (T.num x).d,Wx (T.num y).d]) (h2:=h) rfl rfl];cases w with
 |lt=>by_cases e:x<y<;>simp[ZH,tlS,T.d,Wd.s,wk,e,YC]
 |add=>rw[nx1 (U:=P.tbl n) (ss:=tlS ZH) (ρ1:=[Wx (.str Wd.add.s),Wx (T.num x).d,Wx (T.num y).d]) (h2:=h) rfl rfl];exact rt1 (U:=P.tbl n) (ss:=tlS (tlS ZH)) ((Zs rfl).trans (Zf (fin _ _ (x+y) rfl))) rfl
 |sub=>rw[nx1 (U:=P.tbl n) (ss:=tlS ZH) (ρ1:=[Wx (.str Wd.sub.s),Wx (T.num x).d,Wx (T.num y).d]) (h2:=h) rfl rfl,nx1 (U:=P.tbl n) (ss:=tlS (tlS ZH)) (ρ1:=[Wx (.str Wd.sub.s),Wx (T.num x).d,Wx (T.num y).d]) (h2:=h) rfl rfl];exact rt1 (U:=P.tbl n) (ss:=tlS (tlS (tlS ZH))) ((Zs rfl).trans (Zf (fin _ _ (x - y) rfl))) rfl
 |mul=>rw[nx1 (U:=P.tbl n) (ss:=tlS ZH) (ρ1:=[Wx (.str Wd.mul.s),Wx (T.num x).d,Wx (T.num y).d]) (h2:=h) rfl rfl,nx1 (U:=P.tbl n) (ss:=tlS (tlS ZH)) (ρ1:=[Wx (.str Wd.mul.s),Wx (T.num x).d,Wx (T.num y).d]) (h2:=h) rfl rfl,nx1 (U:=P.tbl n) (ss:=tlS (tlS (tlS ZH))) (ρ1:=[Wx (.str Wd.mul.s),Wx (T.num x).d,Wx (T.num y).d]) (h2:=h) rfl rfl];exact rt1 (U:=P.tbl n) (ss:=tlS (tlS (tlS (tlS ZH)))) (fin _ _ (x * y) m2) rfl
def Zf3(H:Thg P)(n:Nat)(w:Wd)(V W:Th)(hv:∀z,V=.num z->0<=z/\z<1000000)(hw:∀z,W=.num z->0<=z/\z<1000000):
 run P (n+1) (O "worked") [.str w.s,V.d,W.d] h=.ok (wkD w V W) h:=by
 cases V with
 |clo E ar=>rw[Zc H.worked (by cases W<;>rfl)];exact rfl
 |num a=>
  cases W with
  |clo E ar=>rw[Zc H.worked (by rfl)];exact rfl
  |num b=>exact worked_nn H.worked H.beyond n w (hv a rfl) (hw b rfl)
end Rw
end
section
namespace Rw
open PySem L2 IV Gn
variable {P:Pg}{h:Hd}
noncomputable def isFn:T->Bool
 |.fn _ _|.rcc _ _ _=>Wz
 |_=>WA
noncomputable def Ar.keys:Ar->List Str
 |.nil=>[]
 |.cons x _ r=>x::r.keys
theorem Ar.get_some:∀{ar:Ar},x∈ar.keys->∃v,ar.get x=Wx v
 |.nil,h=>by simp[Ar.keys]at h
 |.cons y v r,h=>by
  by_cases e:y=x
  . exact⟨v,by simp[Ar.get,e]⟩
  . have:x∈r.keys:=by
     simp[Ar.keys]at h;rcases h with z|z
     . exact absurd z.symm e
     . exact z
    obtain⟨u,q⟩:=Ar.get_some this;exact⟨u,by simp[Ar.get,e,q]⟩
mutual
def Zch:Th->Prop
 |.num n=>0<=n/\n<1000000
 |.clo E ar=>isFn E=Wz/\Cl ar.keys E/\ArOk ar
def ArOk:Ar->Prop
 |.nil=>True
 |.cons _ v r=>Zch v/\ArOk r
end
noncomputable def thing(E:T)(ar:Ar):Option Th:=match E with
 |.num n=>Wx (.num n)
 |.name x=>ar.get x
 |.fn x e=>Wx (.clo (.fn x e) ar)
 |.rcc f x e=>Wx (.clo (.rcc f x e) ar)
 |_=>Wy
noncomputable def step:Sta->Ans
 |.go E ar rest=>match E with
  |.call F A=>.quiet (.go F ar (.arg A ar::rest))
  |.iff C t e=>.quiet (.go C ar (.iff t e ar::rest))
  |.op w x y=>.quiet (.go x ar (.right w y ar::rest))
  |E=>match thing E ar with
   |some v=>.quiet (.back v rest)
   |none=>.stuck
 |.back V rest=>match rest with
  |[]=>.value
  |.arg A ar::r=>.quiet (.go A ar (.fn V::r))
  |.right w F ar::r=>.quiet (.go F ar (.left w V::r))
  |.fn W::r=>match W with
   |.clo (.fn x e) ar=>.loud (.go e (.cons x V ar) r)
   |.clo (.rcc f x e) ar=>.loud (.go e (.cons x V (.cons f (.clo (.rcc f x e) ar) ar)) r)
   |_=>.stuck
  |.iff t e ar::r=>match V with
   |.num z=>.loud (.go (if z=0 then e else t) ar r)
   |_=>.stuck
  |.left w W::r=>match W,V with
   |.num a,.num b=>.loud (.back (.num (wk w a b)) r)
   |_,_=>.stuck
def Zp2(H:Thg P)(n:Nat)(E:T)(ar:Ar)(v:Th)(e:thing E ar=Wx v):run P (n+2) (O "thing_of") [E.d,.tup ar.ds] h=.ok v.d h:=by
 rw[Zc H.thing_of (by cases E<;>rfl)];cases E with
 |num z=>cases e;exact rfl
 |name x=>have q:=ZhP H n (h:=h) x ar;rw[show ar.get x=Wx v from e]at q;show Zh (xs2 (P.tbl (n+1)) ZcK [Wx (T.name x).d,Wx (.tup ar.ds)] h)=_;rw[nx1 (U:=P.tbl (n+1)) (ss:=ZcK) (ρ1:=[Wx (T.name x).d,Wx (.tup ar.ds)]) (h2:=h) rfl rfl];exact rt1 (U:=P.tbl (n+1)) (ss:=tlS ZcK) (ZD q rfl rfl) rfl
 |fn x b=>cases e;exact rfl
 |rcc f x b=>cases e;exact rfl
 |_=>cases e
def ZqQ(w:Str):opC P.GD .In (.str w) (.tup [.str (O "num"),.str (O "name"),.str (O "fn"),.str (O "rec")]) h=.ok (.bl (WB (w∈[O "num",O "name",O "fn",O "rec"]))) h:=ZcB (ss:=[O "num",O "name",O "fn",O "rec"])
def Zxs(d:D)(ds:List D)(hz:ds.length<=1000000):opB .Add (.tup [d]) (.tup ds) h=.ok (.tup (d::ds)) h:=ZcC (by rw[YC];simp;lia)
end Rw
end
section
set_option maxHeartbeats 2000000
namespace Rw
open PySem L2 IV Gn
variable {P:Pg}{h:Hd}
def Zc3:Wt->Prop
 |.arg A ar=>Cl ar.keys A/\ArOk ar
 |.fn V=>Zch V
 |.iff t e ar=>Cl ar.keys t/\Cl ar.keys e/\ArOk ar
 |.right _ F ar=>Cl ar.keys F/\ArOk ar
 |.left _ V=>Zch V
def ZdK:Sta->Prop
 |.go E ar rest=>Cl ar.keys E/\ArOk ar/\∀w∈rest,Zc3 w
 |.back V rest=>Zch V/\∀w∈rest,Zc3 w
def ZnN(H:Thg P)(n:Nat)(E e:T)(ar:Ar)(he:E.parts=[e]):run P (n+2) (O "body_of") [(Th.clo E ar).d] h=.ok e.d h:=by rw[Zc H.body_of rfl];have q:=Zfs H.toTre n E h;rw[he]at q;exact rt1 (U:=P.tbl (n+1)) (ss:=Zhw) (S:=[Wx (Th.clo E ar).d]) (ZD q rfl rfl) rfl
def Zhc(H:Thg P)(n:Nat)(E e:T)(ar ar':Ar)(V:Th)(hz:ar.len<=1000000)(he:(∃x,E=.fn x e/\ar'=.cons x V ar)\/∃f x,E=.rcc f x e/\ar'=.cons x V (.cons f (.clo E ar) ar)):run P (n+1) (O "entered") [(Th.clo E ar).d,V.d] h=.ok (.tup ar'.ds) h:=by
 rw[Zc H.entered rfl];have hl:ar.ds.length<=1000000:=by rw[Ar.ds_len];exact hz
 rcases he with ⟨x,rfl,rfl⟩|⟨f,x,rfl,rfl⟩
 . exact rt1 (U:=P.tbl n) (ss:=Zcz) (S:=[Wx (Th.clo (.fn x e) ar).d,Wx V.d]) ((Zs rfl).trans (Zf (Zx ((Zk (x:=.tup [.tup [.str x,V.d]]) (y:=.tup ar.ds) rfl rfl).trans (Zxs _ ar.ds hl))))) rfl
 . show Zh (xs2 (P.tbl n) Zcz [Wx (Th.clo (.rcc f x e) ar).d,Wx V.d] h)=_;rw[nx1 (U:=P.tbl n) (ss:=Zcz) (ρ1:=[Wx (Th.clo (.rcc f x e) ar).d,Wx V.d]) (h2:=h) rfl rfl];exact rt1 (U:=P.tbl n) (ss:=tlS Zcz) (Zx ((Zk (x:=.tup [.tup [.str x,V.d],.tup [.str f,(Th.clo (.rcc f x e) ar).d]]) (y:=.tup ar.ds) rfl rfl).trans (ZcC (by rw[YC];simp;lia)))) rfl
end Rw
end
section
namespace IV
open PySem L2
mutual
noncomputable def D.pure:D->Bool
 |.non|.bl _|.int _|.str _=>Wz
 |.tup xs=>D.pures xs
 |_=>WA
noncomputable def D.pures:List D->Bool
 |[]=>Wz
 |x::xs=>D.pure x&&D.pures xs
end
mutual
noncomputable def D.dp:D->Nat
 |.tup xs=>D.dps xs+1
 |_=>0
noncomputable def D.dps:List D->Nat
 |[]=>0
 |x::xs=>max (D.dp x) (D.dps xs)
end
mutual
theorem ZlH:∀d:D,d.pure=Wz->∃p,D.py rd d=Wx p/\p.depth<=d.dp/\YQ p p=Wz
 |.non,_=>⟨.none,rfl,Oq _,rfl⟩
 |.bl b,_=>⟨.bool b,rfl,Oq _,by simp[YQ]⟩
 |.int b,_=>⟨.int b,rfl,Oq _,by simp[YQ]⟩
 |.str b,_=>⟨.str b,rfl,Oq _,by simp[YQ]⟩
 |.tup xs,h=>by
  obtain⟨ps,e1,e2,e3⟩:=pys_same (rd:=rd) xs (by simpa[D.pure]using h);refine⟨.tuple ps,by simp[D.py,e1],?_,?_⟩
  . simp only[PyData.depth,D.dp];lia
  . simpa[YQ]using e3
 |.ref _,h=>by cases h
 |.ty _,h=>by cases h
 |.ro _,h=>by cases h
 |.kd _,h=>by cases h
theorem pys_same:∀ds:List D,D.pures ds=Wz->∃ps,D.pys rd ds=Wx ps/\PyData.depthAll ps<=D.dps ds/\PyData.eqvAll ps ps=Wz
 |[],_=>⟨[],rfl,Oq _,by simp[PyData.eqvAll]⟩
 |x::xs,h=>by
  rw[D.pures,Oa]at h;obtain⟨p,a1,a2,a3⟩:=ZlH (rd:=rd) x h.1;obtain⟨ps,b1,b2,b3⟩:=pys_same (rd:=rd) xs h.2;refine⟨p::ps,by simp[D.pys,a1,b1],?_,?_⟩
  . simp only[PyData.depthAll,D.dps];lia
  . simp[PyData.eqvAll,a3,b3]
end
def Zhg(hp:d.pure=Wz)(hd:d.dp<=1100):Zb8 n d d h=.ok (.bl (!n)) h:=by obtain⟨p,e1,e2,e3⟩:=ZlH (rd:=ZhJ h 4) d hp;unfold Zb8;rw[show ZiU h d=Wx p from e1];simp only;rw[if_pos (by lia),e3];cases n<;>rfl
end IV
end
section
namespace Rw
open PySem L2 IV Gn
theorem T.pure_d:∀t:T,t.d.pure=Wz
 |.num _=>rfl
 |.name _=>rfl
 |.fn _ e=>by simp[T.d,D.pure,D.pures,T.pure_d e]
 |.rcc _ _ e=>by simp[T.d,D.pure,D.pures,T.pure_d e]
 |.call f a=>by simp[T.d,D.pure,D.pures,T.pure_d f,T.pure_d a]
 |.iff c t e=>by simp[T.d,D.pure,D.pures,T.pure_d c,T.pure_d t,T.pure_d e]
 |.op _ f a=>by simp[T.d,D.pure,D.pures,T.pure_d f,T.pure_d a]
theorem T.dp_d:∀t:T,t.d.dp=dep t+1
 |.num _=>rfl
 |.name _=>rfl
 |.fn _ e=>by simp[T.d,D.dp,D.dps,T.dp_d e,dep]
 |.rcc _ _ e=>by simp[T.d,D.dp,D.dps,T.dp_d e,dep]
 |.call f a=>by simp[T.d,D.dp,D.dps,T.dp_d f,T.dp_d a,dep]
 |.iff c t e=>by simp[T.d,D.dp,D.dps,T.dp_d c,T.dp_d t,T.dp_d e,dep]
 |.op _ f a=>by simp[T.d,D.dp,D.dps,T.dp_d f,T.dp_d a,dep]
theorem Zhz:∀{ar:Ar},ArOk ar->ar.get x=Wx v->Zch v
 |.nil,_,h=>by simp[Ar.get]at h
 |.cons y u r,a,h=>by
  by_cases e:y=x
  . simp[Ar.get,e]at h;subst h;exact a.1
  . simp[Ar.get,e]at h;exact Zhz a.2 h
def wk_ok(w:Wd)(a b:Int):0<=wk w a b/\wk w a b<1000000:=by
 cases w<;>simp only[wk]
 . lia
 . lia
 . exact⟨Int.emod_nonneg _ (by decide),Int.emod_lt_of_pos _ (by decide)⟩
 . split<;>lia
def Zal{α:Type}{p:α->Prop}{x:α}{xs:List α}(a:p x)(b:∀y∈xs,p y):∀y∈x::xs,p y:=by
 intro y hy;rcases O3.mp hy with rfl|hy
 . exact a
 . exact b y hy
end Rw
end
section
namespace Dm
open PySem L2 IV Gn Rw
noncomputable def Ziu:Sxs:=(.cons (.ret (.tupl (.cons (.tupl .nil) (.cons (.tupl .nil) (.cons (.tupl (.cons (.var 0) .nil)) (.cons (.tupl .nil) .nil)))))) .nil)
noncomputable def ZaM:Fd:=⟨[(O "E")],[(O "E")],Ziu⟩
noncomputable def ZjP:Sxs:=(.cons (.iff (.nt (.ex (.var 1))) (.cons (.ret (.tupl (.cons (.cst (.str (O "value"))) .nil))) .nil) .nil) (.cons (.set (.nm 2) (.ix (.var 1) (.cst (.int 0)))) (.cons (.ret (.tupl (.cons (.cst (.str (O "quiet"))) (.cons (.tupl (.cons (.bin .Add (.ix (.var 2) (.cst (.int 0))) (.sl (.var 0) (Wx (.neg (.cst (.int 1)))) Wy)) (.cons (.ix (.var 2) (.cst (.int 1))) (.cons (.ix (.var 2) (.cst (.int 2))) (.cons (.sl (.var 1) (Wx (.cst (.int 1))) Wy) .nil))))) .nil)))) .nil)))
noncomputable def Za7:Fd:=⟨[(O "stack"),(O "dump")],[(O "stack"),(O "dump"),(O "below")],ZjP⟩
noncomputable def ZgV:Sxs:=(.cons (.iff (.ex (.cmp .Eq (.ix (.var 0) (.cst (.int 0))) (.cst (.str (O "call"))))) (.cons (.ret (.tupl (.cons (.ix (.var 0) (.cst (.int 1))) (.cons (.ix (.var 0) (.cst (.int 2))) (.cons (.tupl (.cons (.cst (.str (O "apply"))) .nil)) .nil))))) .nil) .nil) (.cons (.iff (.ex (.cmp .Eq (.ix (.var 0) (.cst (.int 0))) (.cst (.str (O "if"))))) (.cons (.ret (.tupl (.cons (.ix (.var 0) (.cst (.int 1))) (.cons (.tupl (.cons (.cst (.str (O "choose"))) (.cons (.ix (.var 0) (.cst (.int 2))) (.cons (.ix (.var 0) (.cst (.int 3))) .nil)))) .nil)))) .nil) .nil) (.cons (.ret (.tupl (.cons (.ix (.var 0) (.cst (.int 1))) (.cons (.ix (.var 0) (.cst (.int 2))) (.cons (.tupl (.cons (.cst (.str (O "work"))) (.cons (.ix (.var 0) (.cst (.int 0))) .nil))) .nil))))) .nil)))
noncomputable def Zae:Fd:=⟨[(O "E")],[(O "E")],ZgV⟩
noncomputable def ZgW:Sxs:=(.cons (.set (.nm 1) (.ix (.ix (.var 0) (.cst (.int 2))) (.cst (.int 0)))) (.cons (.set (.nm 2) (.sl (.ix (.var 0) (.cst (.int 2))) (Wx (.cst (.int 1))) Wy)) (.cons (.iff (.ex (.cmp .In (.ix (.var 1) (.cst (.int 0))) (.glo (O "AT_ONCE")))) (.cons (.ret (.tupl (.cons (.bin .Add (.ix (.var 0) (.cst (.int 0))) (.tupl (.cons (.call (O "thing_of") (.cons (.var 1) (.cons (.ix (.var 0) (.cst (.int 1))) .nil))) .nil))) (.cons (.ix (.var 0) (.cst (.int 1))) (.cons (.var 2) (.cons (.ix (.var 0) (.cst (.int 3))) .nil)))))) .nil) .nil) (.cons (.ret (.tupl (.cons (.ix (.var 0) (.cst (.int 0))) (.cons (.ix (.var 0) (.cst (.int 1))) (.cons (.bin .Add (.call (O "taken_apart") (.cons (.var 1) .nil)) (.var 2)) (.cons (.ix (.var 0) (.cst (.int 3))) .nil)))))) .nil))))
noncomputable def Zaf:Fd:=⟨[(O "state")],[(O "state"),(O "E"),(O "todo")],ZgW⟩
noncomputable def ZeW:Sxs:=(.cons (.set (.nm 4) (.ix (.var 0) (.neg (.cst (.int 2))))) (.cons (.iff (.ex (.cmp .Eq (.ix (.var 4) (.cst (.int 0))) (.cst (.str (O "num"))))) (.cons (.ret (.cst .non)) .nil) .nil) (.cons (.ret (.tupl (.cons (.tupl .nil) (.cons (.call (O "entered") (.cons (.var 4) (.cons (.ix (.var 0) (.neg (.cst (.int 1)))) .nil))) (.cons (.tupl (.cons (.call (O "body_of") (.cons (.var 4) .nil)) .nil)) (.cons (.bin .Add (.tupl (.cons (.tupl (.cons (.sl (.var 0) Wy (Wx (.neg (.cst (.int 2))))) (.cons (.var 1) (.cons (.var 2) .nil)))) .nil)) (.var 3)) .nil)))))) .nil)))
noncomputable def Zcv:Fd:=⟨[(O "stack"),(O "around"),(O "todo"),(O "dump")],[(O "stack"),(O "around"),(O "todo"),(O "dump"),(O "W")],ZeW⟩
noncomputable def ZeV:Sxs:=(.cons (.set (.nm 5) (.call (O "chosen") (.cons (.ix (.var 1) (.neg (.cst (.int 1)))) (.cons (.ix (.var 0) (.cst (.int 1))) (.cons (.ix (.var 0) (.cst (.int 2))) .nil))))) (.cons (.iff (.ex (.cmp .Is (.var 5) (.cst .non))) (.cons (.ret (.cst .non)) .nil) .nil) (.cons (.ret (.tupl (.cons (.sl (.var 1) Wy (Wx (.neg (.cst (.int 1))))) (.cons (.var 2) (.cons (.bin .Add (.tupl (.cons (.var 5) .nil)) (.var 3)) (.cons (.var 4) .nil)))))) .nil)))
noncomputable def Zcs:Fd:=⟨[(O "order"),(O "stack"),(O "around"),(O "todo"),(O "dump")],[(O "order"),(O "stack"),(O "around"),(O "todo"),(O "dump"),(O "E")],ZeV⟩
noncomputable def Zea:Sxs:=(.cons (.set (.nm 5) (.call (O "worked") (.cons (.ix (.var 0) (.cst (.int 1))) (.cons (.ix (.var 1) (.neg (.cst (.int 2)))) (.cons (.ix (.var 1) (.neg (.cst (.int 1)))) .nil))))) (.cons (.iff (.ex (.cmp .Is (.var 5) (.cst .non))) (.cons (.ret (.cst .non)) .nil) .nil) (.cons (.ret (.tupl (.cons (.bin .Add (.sl (.var 1) Wy (Wx (.neg (.cst (.int 2))))) (.tupl (.cons (.var 5) .nil))) (.cons (.var 2) (.cons (.var 3) (.cons (.var 4) .nil)))))) .nil)))
noncomputable def ZbA:Fd:=⟨[(O "order"),(O "stack"),(O "around"),(O "todo"),(O "dump")],[(O "order"),(O "stack"),(O "around"),(O "todo"),(O "dump"),(O "N")],Zea⟩
noncomputable def ZaD:Sxs:=(.cons (.iff (.ex (.cmp .Eq (.ix (.var 0) (.cst (.int 0))) (.cst (.str (O "apply"))))) (.cons (.set (.nm 5) (.call (O "applied") (.cons (.var 1) (.cons (.var 2) (.cons (.var 3) (.cons (.var 4) .nil)))))) .nil) (.cons (.iff (.ex (.cmp .Eq (.ix (.var 0) (.cst (.int 0))) (.cst (.str (O "choose"))))) (.cons (.set (.nm 5) (.call (O "gone_on") (.cons (.var 0) (.cons (.var 1) (.cons (.var 2) (.cons (.var 3) (.cons (.var 4) .nil))))))) .nil) (.cons (.set (.nm 5) (.call (O "reckoned") (.cons (.var 0) (.cons (.var 1) (.cons (.var 2) (.cons (.var 3) (.cons (.var 4) .nil))))))) .nil)) .nil)) (.cons (.ret (.call (O "loud_or_stuck") (.cons (.var 5) .nil))) .nil))
noncomputable def Za8:Fd:=⟨[(O "order"),(O "stack"),(O "around"),(O "todo"),(O "dump")],[(O "order"),(O "stack"),(O "around"),(O "todo"),(O "dump"),(O "state")],ZaD⟩
noncomputable def ZjS:Sxs:=(.cons (.set (.nm 1) (.ix (.var 0) (.cst (.int 2)))) (.cons (.iff (.nt (.ex (.var 1))) (.cons (.ret (.call (O "taken_off") (.cons (.ix (.var 0) (.cst (.int 0))) (.cons (.ix (.var 0) (.cst (.int 3))) .nil)))) .nil) .nil) (.cons (.iff (.ex (.cmp .In (.ix (.ix (.var 1) (.cst (.int 0))) (.cst (.int 0))) (.glo (O "ORDERS")))) (.cons (.ret (.call (O "loud_step") (.cons (.ix (.var 1) (.cst (.int 0))) (.cons (.ix (.var 0) (.cst (.int 0))) (.cons (.ix (.var 0) (.cst (.int 1))) (.cons (.sl (.var 1) (Wx (.cst (.int 1))) Wy) (.cons (.ix (.var 0) (.cst (.int 3))) .nil))))))) .nil) .nil) (.cons (.ret (.tupl (.cons (.cst (.str (O "quiet"))) (.cons (.call (O "quiet_state") (.cons (.var 0) .nil)) .nil)))) .nil))))
noncomputable def Zba:Fd:=⟨[(O "state")],[(O "state"),(O "todo")],ZjS⟩
structure Dmp(P:Pg):Prop extends Thg P where
 dump_begun:P.tb.lookup (O "dump_begun")=Wx ZaM
 taken_off:P.tb.lookup (O "taken_off")=Wx Za7
 taken_apart:P.tb.lookup (O "taken_apart")=Wx Zae
 quiet_state:P.tb.lookup (O "quiet_state")=Wx Zaf
 applied:P.tb.lookup (O "applied")=Wx Zcv
 gone_on:P.tb.lookup (O "gone_on")=Wx Zcs
 reckoned:P.tb.lookup (O "reckoned")=Wx ZbA
 loud_step:P.tb.lookup (O "loud_step")=Wx Za8
 dump_step:P.tb.lookup (O "dump_step")=Wx Zba
 orders:P.G (O "ORDERS")=Wx (.tup [.str (O "apply"),.str (O "work"),.str (O "choose")])
inductive It where
 |ex (E:T)|app|work (w:Wd)|cho (t e:T)
noncomputable def It.d:It->D
 |.ex E=>E.d
 |.app=>.tup [.str (O "apply")]
 |.work w=>.tup [.str (O "work"),.str w.s]
 |.cho t e=>.tup [.str (O "choose"),t.d,e.d]
noncomputable def sd(rs:List Th):List D:=(rs.map Th.d).reverse
def ZW(v:Th)(rs:List Th):sd (v::rs)=sd rs++[v.d]:=by simp[sd]
def Zka(rs:List Th):(sd rs).length=rs.length:=by simp[sd]
structure Lv where
 st:List Th
 ar:Ar
 todo:List It
noncomputable def Lv.d(l:Lv):D:=.tup [.tup (sd l.st),.tup l.ar.ds,.tup (l.todo.map It.d)]
structure Sta where
 st:List Th
 ar:Ar
 todo:List It
 dump:List Lv
noncomputable def Sta.d(s:Sta):D:=.tup [.tup (sd s.st),.tup s.ar.ds,.tup (s.todo.map It.d),.tup (s.dump.map Lv.d)]
inductive Ans where
 |quiet (s:Sta)|loud (s:Sta)|value|stuck
noncomputable def Ans.d:Ans->D
 |.quiet s=>.tup [.str (O "quiet"),s.d]
 |.loud s=>.tup [.str (O "loud"),s.d]
 |.value=>.tup [.str (O "value")]
 |.stuck=>.tup [.str (O "stuck")]
noncomputable def apart:T->List It
 |.call F A=>[.ex F,.ex A,.app]
 |.iff C t e=>[.ex C,.cho t e]
 |.op w x y=>[.ex x,.ex y,.work w]
 |_=>[]
noncomputable def quiet(E:T)(st:List Th)(ar:Ar)(r:List It)(dump:List Lv):Sta:=match thing E ar with
 |some v=>⟨v::st,ar,r,dump⟩
 |none=>⟨st,ar,apart E++r,dump⟩
noncomputable def call(W V:Th)(st:List Th)(ar:Ar)(r:List It)(dump:List Lv):Ans:=match W with
 |.clo (.fn x e) ar'=>.loud ⟨[],.cons x V ar',[.ex e],⟨st,ar,r⟩::dump⟩
 |.clo (.rcc f x e) ar'=>.loud ⟨[],.cons x V (.cons f (.clo (.rcc f x e) ar') ar'),[.ex e],⟨st,ar,r⟩::dump⟩
 |_=>.stuck
noncomputable def choose(V:Th)(t e:T)(st:List Th)(ar:Ar)(r:List It)(dump:List Lv):Ans:=match V with
 |.num z=>.loud ⟨st,ar,.ex (if z=0 then e else t)::r,dump⟩
 |_=>.stuck
noncomputable def reckon(w:Wd)(W V:Th)(st:List Th)(ar:Ar)(r:List It)(dump:List Lv):Ans:=match W,V with
 |.num a,.num b=>.loud ⟨.num (wk w a b)::st,ar,r,dump⟩
 |_,_=>.stuck
noncomputable def step(s:Sta):Ans:=match s.todo with
 |[]=>match s.dump with
  |[]=>.value
  |l::r=>match s.st with
   |v::_=>.quiet ⟨v::l.st,l.ar,l.todo,r⟩
   |[]=>.stuck
 |.ex E::r=>.quiet (quiet E s.st s.ar r s.dump)
 |.app::r=>match s.st with
  |V::W::st=>call W V st s.ar r s.dump
  |_=>.stuck
 |.cho t e::r=>match s.st with
  |V::st=>choose V t e st s.ar r s.dump
  |_=>.stuck
 |.work w::r=>match s.st with
  |V::W::st=>reckon w W V st s.ar r s.dump
  |_=>.stuck
variable {P:Pg}{h:Hd}
def Zr5:atI (xs++[v]) (-1)=Wx v:=ZjW
def Zr4:atI (xs++[w]++[v]) (-2)=Wx w:=by
 unfold atI ixN;rw[if_neg (by decide),if_pos (by simp;lia)];have:(-2+((xs++[w]++[v]).length:Int)).toNat=xs.length:=by simp;lia
 simp only[Yz,this];simp
def Zk3:cutD (xs++[v]) Wy (Wx (-1))=xs:=by simp[cutD,HT.sIx,show(-1+((xs.length:Int)+1)).toNat=xs.length by lia]
def Zpi:cutD (xs++[w]++[v]) Wy (Wx (-2))=xs:=by simp[cutD,HT.sIx,show(-2+((xs.length:Int)+2)).toNat=xs.length by lia]
def Zt5:cutD (xs++[v]) (Wx (-1)) Wy=[v]:=by simp[cutD,HT.sIx,show(-1+((xs.length:Int)+1)).toNat=xs.length by lia]
def Zj5(hc:Cl ar.keys E)(e:thing E ar=Wy):(∃F A,E=.call F A)\/(∃C t f,E=.iff C t f)\/∃w x y,E=.op w x y:=by
 cases E with
 |call F A=>exact .inl ⟨F,A,rfl⟩
 |iff C t f=>exact .inr (.inl ⟨C,t,f,rfl⟩)
 |op w x y=>exact .inr (.inr ⟨w,x,y,rfl⟩)
 |name x=>obtain⟨v,q⟩:=Ar.get_some (show x∈ar.keys from hc);rw[show thing (.name x) ar=Wx v from q]at e;cases e
 |_=>cases e
def Znb(E:T):(apart E).length<=3:=by cases E<;>simp[apart]
end Dm
end
section
namespace Dm
open PySem L2 IV Gn Rw
variable {P:Pg}{h:Hd}
def cat(hz:xs.length+ys.length<=1000000):opB .Add (.tup xs) (.tup ys) h=.ok (.tup (xs++ys)) h:=ZcC (by rw[YC];lia)
def Zhe(w:Str):opC P.GD .In (.str w) (.tup [.str (O "apply"),.str (O "work"),.str (O "choose")]) h=.ok (.bl (WB (w∈[O "apply",O "work",O "choose"]))) h:=ZcB (ss:=[O "apply",O "work",O "choose"])
noncomputable def off(v:Th):List Lv->Ans
 |[]=>.value
 |l::r=>.quiet ⟨v::l.st,l.ar,l.todo,r⟩
section
variable {U:Tb}{S:Ev}{h1:Hd}
def ZgT(t:tst U c S h=.ok Wz h):Zh (xs2 U (.cons (.iff c (.cons (.ret e) .nil) b) r) S h)=ev U e S h:=by rw[xs2,Zs t,xs2,Zfp];cases ev U e S h<;>rfl
def Zfl(t:tst U c S h=.ok WA h):Zh (xs2 U (.cons (.iff c a .nil) r) S h)=Zh (xs2 U r S h):=by rw[xs2,Zt t];rfl
def Zh6:Zh (xs2 U (.cons (.ret e) r) S h)=ev U e S h:=by rw[xs2,Zfp];cases ev U e S h<;>rfl
def le1(e:Nat.ble n 1000=Wz):n<=1000:=Nat.le_of_ble_eq_true e
def Zsv(p:ev U a S h=.ok (.tup (x::xs)) h1):ev U (.sl a (Wx (.cst (.int 1))) Wy) S h=.ok (.tup xs) h1:=by rw[Zo7,p];simp
def ZoP:Z5 GD (.tup (x::xs)) (.int 0) h=.ok x h:=by simp
def Zsy(p:ev U a S h=.ok (.tup xs) h1):ev U (.sl a Wy (Wx (.neg (.cst (.int k))))) S h=.ok (.tup (cutD xs Wy (Wx (-k)))) h1:=by rw[Zo7,p];rfl
end
def ZuV(H:Dmp P)(n:Nat)(v:Th)(st:List Th)(dump:List Lv)(hz:∀l∈dump,l.st.length<=1000):run P (n+1) (O "taken_off") [.tup (sd (v::st)),.tup (dump.map Lv.d)] h=.ok (off v dump).d h:=by
 rw[Zc H.taken_off (by rfl)];cases dump with
 |nil=>exact(ZgT (U:=P.tbl n) rfl).trans rfl
 |cons l r=>
  have c1:opB .Add (.tup (sd l.st)) (.tup [v.d]) h=.ok (.tup (sd (v::l.st))) h:=by rw[ZW];exact cat (by rw[Zka];have:=hz l (.head _);simp;lia)
  have sl:ev (P.tbl n) (.sl (.var 0) (Wx (.neg (.cst (.int 1)))) Wy) [Wx (.tup (sd (v::st))),Wx (.tup ((l::r).map Lv.d)),Wx l.d] h=.ok (.tup [v.d]) h:=by show R.ok (D.tup (cutD (sd (v::st)) (Wx (-1)) Wy)) h=_;rw[ZW,Zt5]
  exact(Zfl (U:=P.tbl n) rfl).trans ((congrArg Zh (Za (Zj (d:=l.d) ((Zr (x:=.tup (l.d::r.map Lv.d)) rfl rfl).trans ZoP)))).trans (Zh6.trans (ZV (Zb rfl (Zb (ZV (Zb ((Zk rfl sl).trans c1) (Zb rfl (Zb rfl (Zb (Zsv rfl) rfl)))) (le1 rfl)) rfl)) (le1 rfl))))
def Zqb(H:Dmp P)(n:Nat)(E:T)(ar:Ar)(hc:Cl ar.keys E)(e:thing E ar=Wy):run P (n+1) (O "taken_apart") [E.d] h=.ok (.tup ((apart E).map It.d)) h:=by
 rw[Zc H.taken_apart (by rfl)];rcases Zj5 hc e with ⟨F,A,rfl⟩|⟨C,t,f,rfl⟩|⟨w,x,y,rfl⟩
 . exact(ZgT (U:=P.tbl n) (Zm (Zak rfl rfl) (by decide))).trans rfl
 . exact(Zfl (U:=P.tbl n) (Zm (Zak rfl rfl) (by decide))).trans ((ZgT (Zm (Zak rfl rfl) (by decide))).trans rfl)
 . exact(Zfl (U:=P.tbl n) (Zm (Zak (x:=w.s) rfl rfl) (by cases w<;>decide))).trans ((Zfl (Zm (Zak (x:=w.s) rfl rfl) (by cases w<;>decide))).trans (Zh6.trans rfl))
noncomputable def hd:T->Str
 |.num _=>O "num"
 |.name _=>O "name"
 |.fn _ _=>O "fn"
 |.rcc _ _ _=>O "rec"
 |.call _ _=>O "call"
 |.iff _ _ _=>O "if"
 |.op w _ _=>w.s
noncomputable def tl:T->List D
 |.num n=>[.int n]
 |.name x=>[.str x]
 |.fn x e=>[.str x,e.d]
 |.rcc f x e=>[.str f,.str x,e.d]
 |.call f a=>[f.d,a.d]
 |.iff c t e=>[c.d,t.d,e.d]
 |.op _ a b=>[a.d,b.d]
def Zt4(E:T):E.d=.tup (.str (hd E)::tl E):=by cases E<;>rfl
def ZqR(hc:Cl ar.keys E):WB (hd E∈[O "num",O "name",O "fn",O "rec"])=(thing E ar).isSome:=by
 cases E with
 |name x=>obtain⟨v,q⟩:=Ar.get_some (show x∈ar.keys from hc);rw[show thing (.name x) ar=Wx v from q];rfl
 |op w a b=>cases w<;>rfl
 |_=>rfl
def Zhf(E:T):WB (hd E∈[O "apply",O "work",O "choose"])=WA:=by
 cases E with
 |op w a b=>cases w<;>rfl
 |_=>rfl
def Zoh(H:Dmp P)(n:Nat)(hc:Cl ar.keys E)(p:ev (P.tbl n) e S h=.ok E.d h):tst (P.tbl n) (.ex (.cmp .In (.ix e (.cst (.int 0))) (.glo (O "AT_ONCE")))) S h=.ok (thing E ar).isSome h:=by
 have oi:=ZqQ (P:=P) (h:=h) (hd E);rw[ZqR hc]at oi;have eg:ev (P.tbl n) (.glo (O "AT_ONCE")) S h=.ok (.tup [.str (O "num"),.str (O "name"),.str (O "fn"),.str (O "rec")]) h:=by show R.ofO (P.G (O "AT_ONCE")) h=_;rw[H.once];exact rfl
 exact Zc1 ((Zw (x:=.str (hd E)) ((Zr p rfl).trans (by rw[Zt4];simp)) eg).trans oi)
def Zp4(H:Dmp P)(n:Nat)(E:T)(st:List Th)(ar:Ar)(r:List It)(dump:List Lv)(hc:Cl ar.keys E)(h1:st.length<=1000)(h2:r.length<=1000):run P (n+3) (O "quiet_state") [Sta.d ⟨st,ar,.ex E::r,dump⟩] h=.ok (quiet E st ar r dump).d h:=by
 rw[Zc H.quiet_state (by rfl)];refine(congrArg Zh ((Za (Zj (U:=P.tbl (n+2)) (h1:=h) (d:=E.d) ((Zr (x:=.tup (E.d::r.map It.d)) rfl rfl).trans ZoP))).trans (Za (Zj (U:=P.tbl (n+2)) (d:=.tup (r.map It.d)) (Zsv (x:=E.d) rfl))))).trans ?_;cases e:thing E ar with
 |some v=>have c1:opB .Add (.tup (sd st)) (.tup [v.d]) h=.ok (.tup (sd st++[v.d])) h:=cat (by rw[Zka];simp;lia);rw[show quiet E st ar r dump=⟨v::st,ar,r,dump⟩ by unfold quiet;rw[e]];refine(ZgT (Zm (Zoh H (n+2) hc rfl) (by rw[e];rfl))).trans ?_;exact(ZV (Zb ((Zk rfl (ZV (Zb (Zl (Zp2 H.toThg n (h:=h) E ar v e) rfl) rfl) (le1 rfl))).trans c1) (Zb rfl (Zb rfl (Zb rfl rfl)))) (le1 rfl)).trans (by rw[<- ZW];rfl)
 |none=>have c2:=cat (h:=h) (xs:=(apart E).map It.d) (ys:=r.map It.d) (by have:=Znb E;simp;lia);rw[show quiet E st ar r dump=⟨st,ar,apart E++r,dump⟩ by unfold quiet;rw[e]];refine(Zfl (Zm (Zoh H (n+2) hc rfl) (by rw[e];rfl))).trans (Zh6.trans ?_);exact(ZV (Zb rfl (Zb rfl (Zb ((Zk (Zl (Zqb H (n+1) (h:=h) E ar hc e) rfl) rfl).trans c2) (Zb rfl rfl)))) (le1 rfl)).trans (by rw[<- List.map_append];rfl)
def los(H:Dmp P)(n:Nat)(s:Sta):run P (n+1) (O "loud_or_stuck") [s.d] h=.ok (Ans.loud s).d h:=by rw[Zc H.loud_or_stuck (by rfl)];exact(Zfl (U:=P.tbl n) (ZoS rfl (λz=>by cases z))).trans (Zh6.trans rfl)
def Zq0(H:Dmp P)(n:Nat):run P (n+1) (O "loud_or_stuck") [.non] h=.ok Ans.stuck.d h:=by rw[Zc H.loud_or_stuck (by rfl)];exact(ZgT (U:=P.tbl n) (ZmY rfl)).trans rfl
noncomputable def v5(i:It)(st:List Th)(ar:Ar)(r:List It)(dump:List Lv)(o:Option D):Ev:=[Wx i.d,Wx (.tup (sd st)),Wx (.tup ar.ds),Wx (.tup (r.map It.d)),Wx (.tup (dump.map Lv.d)),o]
def Zku{n:Nat}{i:It}{st:List Th}{ar:Ar}{r:List It}{dump:List Lv}{x:D}{a:Ans}(p:xs1 (P.tbl n) (hdS ZaD) (v5 i st ar r dump Wy) h=.ok (.nx,v5 i st ar r dump (Wx x)) h)(q:run P n (O "loud_or_stuck") [x] h=.ok a.d h):Zh (xs2 (P.tbl n) ZaD (v5 i st ar r dump Wy) h)=.ok a.d h:=(congrArg Zh (nx1 p rfl)).trans (Zh6.trans (Zl q rfl))
def Zu0(H:Dmp P)(n:Nat)(W V:Th)(st:List Th)(ar:Ar)(r:List It)(dump:List Lv)(okW:Zch W)(hW:∀E ar,W=.clo E ar->ar.len<=1000000)(hd:dump.length<=1000):run P (n+4) (O "loud_step") [It.app.d,.tup (sd (V::W::st)),.tup ar.ds,.tup (r.map It.d),.tup (dump.map Lv.d)] h=.ok (call W V st ar r dump).d h:=by
 rw[Zc H.loud_step (by rfl)];have ap:∀(s:D) (a:Ans),run P (n+3) (O "applied") [.tup (sd (V::W::st)),.tup ar.ds,.tup (r.map It.d),.tup (dump.map Lv.d)] h=.ok s h->run P (n+3) (O "loud_or_stuck") [s] h=.ok a.d h->Zh (xs2 (P.tbl (n+3)) ZaD (v5 .app (V::W::st) ar r dump Wy) h)=.ok a.d h:=λs a e1 e2=>Zku ((Zs (Zm (Zak rfl rfl) (by decide))).trans ((Za (Zj (Zl e1 rfl))).trans rfl)) e2
 have a2:∀S:Ev,(S[0]?).join=Wx (.tup (sd (V::W::st)))->ev (P.tbl (n+2)) (.ix (.var 0) (.neg (.cst (.int 2)))) S h=.ok W.d h:=λS e=>by refine(Zr (x:=.tup (sd (V::W::st))) (by rw[Zia,e];rfl) rfl).trans ?_;rw[ZW,ZW];show R.ofO (atI (sd st++[W.d]++[V.d]) (-2)) h=_;rw[Zr4];rfl
 have a1:∀S:Ev,(S[0]?).join=Wx (.tup (sd (V::W::st)))->ev (P.tbl (n+2)) (.ix (.var 0) (.neg (.cst (.int 1)))) S h=.ok V.d h:=λS e=>by refine(Zr (x:=.tup (sd (V::W::st))) (by rw[Zia,e];rfl) rfl).trans ?_;rw[ZW];show R.ofO (atI (sd (W::st)++[V.d]) (-1)) h=_;rw[Zr5];rfl
 have a3:cutD (sd (V::W::st)) Wy (Wx (-2))=sd st:=by rw[ZW,ZW,Zpi]
 have cd:∀x:D,opB .Add (.tup [x]) (.tup (dump.map Lv.d)) h=.ok (.tup (x::dump.map Lv.d)) h:=λx=>cat (by simp;lia);have x1:xs2 (P.tbl (n+2)) ZeW [Wx (.tup (sd (V::W::st))),Wx (.tup ar.ds),Wx (.tup (r.map It.d)),Wx (.tup (dump.map Lv.d)),Wy] h=xs2 (P.tbl (n+2)) (tlS ZeW) [Wx (.tup (sd (V::W::st))),Wx (.tup ar.ds),Wx (.tup (r.map It.d)),Wx (.tup (dump.map Lv.d)),Wx W.d] h:=nx1 (Zj (a2 _ rfl)) rfl;have go:∀(E e:T) (ar' ar2:Ar),W=.clo E ar'->run P (n+2) (O "body_of") [W.d] h=.ok e.d h->run P (n+2) (O "entered") [W.d,V.d] h=.ok (.tup ar2.ds) h->run P (n+3) (O "applied") [.tup (sd (V::W::st)),.tup ar.ds,.tup (r.map It.d),.tup (dump.map Lv.d)] h=.ok (Sta.d ⟨[],ar2,[.ex e],⟨st,ar,r⟩::dump⟩) h:=λE e ar' ar2 eW q1 q2=>by rw[Zc H.applied (by rfl)];refine(congrArg Zh x1).trans ((Zfl (Zm (Zak (x:=O "clo") (by rw[eW];rfl) rfl) (by decide))).trans (Zh6.trans ?_));exact ZV (Zb rfl (Zb (Zl q2 (Zb rfl (Zb (a1 _ rfl) rfl))) (Zb (ZV (Zb (Zl q1 rfl) rfl) (le1 rfl)) (Zb ((Zk (ZV (Zb (ZV (Zb ((Zsy rfl).trans (by rw[show -(2:Int)=-2 from rfl,a3])) (Zb rfl (Zb rfl rfl))) (le1 rfl)) rfl) (le1 rfl)) rfl).trans (cd _)) rfl)))) (le1 rfl)
 cases W with
 |num z=>refine ap .non .stuck ?_ (Zq0 H (n+2));rw[Zc H.applied (by rfl)];exact(congrArg Zh x1).trans ((ZgT (Zm (Zak (x:=O "num") rfl rfl) (by decide))).trans rfl)
 |clo E ar'=>
  have hl:ar'.len<=1000000:=hW E ar' rfl;cases E with
  |fn x e=>exact ap _ (.loud _) (go _ e ar' (.cons x V ar') rfl (ZnN H.toThg n (h:=h) (.fn x e) e ar' rfl) (Zhc H.toThg (n+1) (h:=h) (.fn x e) e ar' (.cons x V ar') V hl (.inl ⟨x,rfl,rfl⟩))) (los H (n+2) _)
  |rcc f x e=>exact ap _ (.loud _) (go _ e ar' (.cons x V (.cons f (.clo (.rcc f x e) ar') ar')) rfl (ZnN H.toThg n (h:=h) (.rcc f x e) e ar' rfl) (Zhc H.toThg (n+1) (h:=h) (.rcc f x e) e ar' (.cons x V (.cons f (.clo (.rcc f x e) ar') ar')) V hl (.inr ⟨f,x,rfl,rfl⟩))) (los H (n+2) _)
  |_=>exact absurd okW.1 (by simp[isFn])
def Zww(t:T):t.d≠.non:=λz=>by cases t<;>cases z
def ZuO{n:Nat}{i:It}{V:Th}{st:List Th}{ar:Ar}{r:List It}{dump:List Lv}{o:Option D}:ev (P.tbl n) (.ix (.var 1) (.neg (.cst (.int 1)))) (v5 i (V::st) ar r dump o) h=.ok V.d h:=by refine(Zr (x:=.tup (sd (V::st))) (y:=.int (-1)) rfl rfl).trans ?_;rw[ZW];show R.ofO (atI (sd st++[V.d]) (-1)) h=_;rw[Zr5];rfl
def ZuZ(H:Dmp P)(n:Nat)(V:Th)(t e:T)(st:List Th)(ar:Ar)(r:List It)(dump:List Lv)(h2:r.length<=1000):run P (n+3) (O "loud_step") [(It.cho t e).d,.tup (sd (V::st)),.tup ar.ds,.tup (r.map It.d),.tup (dump.map Lv.d)] h=.ok (choose V t e st ar r dump).d h:=by
 rw[Zc H.loud_step (by rfl)];have ap:∀(s:D) (a:Ans),run P (n+2) (O "gone_on") [(It.cho t e).d,.tup (sd (V::st)),.tup ar.ds,.tup (r.map It.d),.tup (dump.map Lv.d)] h=.ok s h->run P (n+2) (O "loud_or_stuck") [s] h=.ok a.d h->Zh (xs2 (P.tbl (n+2)) ZaD (v5 (.cho t e) (V::st) ar r dump Wy) h)=.ok a.d h:=λs a e1 e2=>Zku ((Zt (Zm (Zak rfl rfl) (by decide))).trans ((Za ((Zs (Zm (Zak rfl rfl) (by decide))).trans ((Za (Zj (Zl e1 rfl))).trans rfl))).trans rfl)) e2
 have x1:∀c:D,run P (n+1) (O "chosen") [V.d,t.d,e.d] h=.ok c h->xs2 (P.tbl (n+1)) ZeV (v5 (.cho t e) (V::st) ar r dump Wy) h=xs2 (P.tbl (n+1)) (tlS ZeV) (v5 (.cho t e) (V::st) ar r dump (Wx c)) h:=λc q=>nx1 (Zj (Zl q (Zb ZuO rfl))) rfl;have q:=Zf4 H.toThg n (h:=h) V t.d e.d;cases V with
 |num z=>
  have q:run P (n+1) (O "chosen") [(Th.num z).d,t.d,e.d] h=.ok (if z=0 then e else t).d h:=q.trans (by show R.ok (if z=0 then e.d else t.d) h=_;split<;>rfl);have cd:opB .Add (.tup [(if z=0 then e else t).d]) (.tup (r.map It.d)) h=.ok (.tup ((if z=0 then e else t).d::r.map It.d)) h:=cat (by simp;lia);have a3:cutD (sd (Th.num z::st)) Wy (Wx (-1))=sd st:=by rw[ZW,Zk3]
  show _=R.ok (Ans.loud ⟨st,ar,.ex (if z=0 then e else t)::r,dump⟩).d h;generalize (if z=0 then e else t)=y at q cd;refine ap (Sta.d ⟨st,ar,.ex y::r,dump⟩) (.loud _) ?_ (los H (n+1) _);rw[Zc H.gone_on (by rfl)];exact(congrArg Zh (x1 _ q)).trans ((Zfl (ZoS rfl (Zww y))).trans (Zh6.trans (ZV (Zb ((Zsy rfl).trans (by rw[show -(1:Int)=-1 from rfl,a3])) (Zb rfl (Zb ((Zk (ZV (Zb rfl rfl) (le1 rfl)) rfl).trans cd) (Zb rfl rfl)))) (le1 rfl))))
 |clo E ar2=>refine ap .non .stuck ?_ (Zq0 H (n+1));rw[Zc H.gone_on (by rfl)];exact(congrArg Zh (x1 _ q)).trans ((ZgT (ZmY rfl)).trans rfl)
def ZsC(H:Dmp P)(n:Nat)(w:Wd)(W V:Th)(st:List Th)(ar:Ar)(r:List It)(dump:List Lv)(okW:Zch W)(okV:Zch V)(h2:st.length<=1000):run P (n+3) (O "loud_step") [(It.work w).d,.tup (sd (V::W::st)),.tup ar.ds,.tup (r.map It.d),.tup (dump.map Lv.d)] h=.ok (reckon w W V st ar r dump).d h:=by
 rw[Zc H.loud_step (by rfl)];have ap:∀(s:D) (a:Ans),run P (n+2) (O "reckoned") [(It.work w).d,.tup (sd (V::W::st)),.tup ar.ds,.tup (r.map It.d),.tup (dump.map Lv.d)] h=.ok s h->run P (n+2) (O "loud_or_stuck") [s] h=.ok a.d h->Zh (xs2 (P.tbl (n+2)) ZaD (v5 (.work w) (V::W::st) ar r dump Wy) h)=.ok a.d h:=λs a e1 e2=>Zku ((Zt (Zm (Zak rfl rfl) (by decide))).trans ((Za ((Zt (Zm (Zak rfl rfl) (by decide))).trans ((Za (Zj (Zl e1 rfl))).trans rfl))).trans rfl)) e2
 have a2:ev (P.tbl (n+1)) (.ix (.var 1) (.neg (.cst (.int 2)))) (v5 (.work w) (V::W::st) ar r dump Wy) h=.ok W.d h:=by refine(Zr (x:=.tup (sd (V::W::st))) (y:=.int (-2)) rfl rfl).trans ?_;rw[ZW,ZW];show R.ofO (atI (sd st++[W.d]++[V.d]) (-2)) h=_;rw[Zr4];rfl
 have a3:cutD (sd (V::W::st)) Wy (Wx (-2))=sd st:=by rw[ZW,ZW,Zpi]
 have q:=Zf3 H.toThg n (h:=h) w W V (λz e=>by subst e;exact okW) (λz e=>by subst e;exact okV);have x1:xs2 (P.tbl (n+1)) Zea (v5 (.work w) (V::W::st) ar r dump Wy) h=xs2 (P.tbl (n+1)) (tlS Zea) (v5 (.work w) (V::W::st) ar r dump (Wx (wkD w W V))) h:=nx1 (Zj (Zl q (Zb rfl (Zb a2 (Zb ZuO rfl))))) rfl;have stuck:wkD w W V=.non->run P (n+2) (O "reckoned") [(It.work w).d,.tup (sd (V::W::st)),.tup ar.ds,.tup (r.map It.d),.tup (dump.map Lv.d)] h=.ok .non h:=λe1=>by rw[Zc H.reckoned (by rfl)];rw[e1]at x1;exact(congrArg Zh x1).trans ((ZgT (ZmY rfl)).trans rfl)
 cases W with
 |clo E ar=>exact ap .non .stuck (stuck rfl) (Zq0 H (n+1))
 |num x=>
  cases V with
  |clo E ar=>exact ap .non .stuck (stuck rfl) (Zq0 H (n+1))
  |num y=>
   have cd:opB .Add (.tup (sd st)) (.tup [(Th.num (wk w x y)).d]) h=.ok (.tup (sd (.num (wk w x y)::st))) h:=by rw[ZW];exact cat (by rw[Zka];simp;lia)
   refine ap (Sta.d ⟨.num (wk w x y)::st,ar,r,dump⟩) (.loud _) ?_ (los H (n+1) _);rw[Zc H.reckoned (by rfl)];exact(congrArg Zh x1).trans ((Zfl (ZoS rfl (λz=>by cases z))).trans (Zh6.trans (ZV (Zb ((Zk ((Zsy rfl).trans (by rw[show -(2:Int)=-2 from rfl,a3])) (ZV (Zb rfl rfl) (le1 rfl))).trans cd) (Zb rfl (Zb rfl (Zb rfl rfl)))) (le1 rfl))))
end Dm
end
section
namespace Tm
open PySem L2 IV
noncomputable def Zan:Sxs:=(.cons (.iff (.ex (.cmp .NotIn (.ix (.var 0) (.cst (.int 0))) (.glo (O "FORMS")))) (.cons (.ret (.tupl .nil)) .nil) .nil) (.cons (.ret (.sl (.var 0) (Wx (.cst (.int 1))) (Wx (.bin .Add (.cst (.int 1)) (.ix (.ix (.glo (O "FORMS")) (.ix (.var 0) (.cst (.int 0)))) (.cst (.int 0))))))) .nil))
noncomputable def Zaj:Fd:=⟨[(O "E")],[(O "E")],Zan⟩
noncomputable def ZbO:Sxs:=(.cons (.iff (.ex (.cmp .NotIn (.ix (.var 0) (.cst (.int 0))) (.glo (O "FORMS")))) (.cons (.ret (.var 0)) .nil) .nil) (.cons (.ret (.sl (.var 0) Wy (Wx (.bin .Add (.cst (.int 1)) (.ix (.ix (.glo (O "FORMS")) (.ix (.var 0) (.cst (.int 0)))) (.cst (.int 0))))))) .nil))
noncomputable def ZbG:Fd:=⟨[(O "E")],[(O "E")],ZbO⟩
noncomputable def Zam:Sxs:=(.cons (.iff (.ex (.cmp .NotIn (.ix (.var 0) (.cst (.int 0))) (.glo (O "FORMS")))) (.cons (.ret (.cst (.int 0))) .nil) .nil) (.cons (.ret (.ix (.ix (.glo (O "FORMS")) (.ix (.var 0) (.cst (.int 0)))) (.cst (.int 1)))) .nil))
noncomputable def Zai:Fd:=⟨[(O "front")],[(O "front")],Zam⟩
noncomputable def Zma:Sxs:=(.cons (.set (.nm 1) (.lstl .nil)) (.cons (.forr (.nm 2) (.rev (.var 0)) (.cons (.set (.nm 3) (.comp [(O "k"),(O "done")] [Wy,Wx 1] (.rng (.call (O "count_parts") (.cons (.var 2) .nil))) (.nm 0) Wy (.meth .pop (.var 1) .nil))) (.cons (.drp (.meth .app (.var 1) (.cons (.bin .Add (.var 2) (.blt .tup (.cons (.var 3) .nil))) .nil))) .nil))) (.cons (.ret (.ix (.var 1) (.cst (.int 0)))) .nil)))
noncomputable def ZdH:Fd:=⟨[(O "fronts")],[(O "fronts"),(O "done"),(O "front"),(O "parts")],Zma⟩
noncomputable def Zhv:Sxs:=(.cons (.ret (.cmp .Gt (.blt .len (.cons (.call (O "places") (.cons (.var 0) .nil)) .nil)) (.glo (O "WIDEST")))) .nil)
noncomputable def Zbu:Fd:=⟨[(O "E")],[(O "E")],Zhv⟩
noncomputable def Z4:Sxs:=(.cons (.forr (.two 2 3) (.pl (.var 1)) (.cons (.iff (.ex (.cmp .Eq (.var 2) (.var 0))) (.cons (.ret (.var 3)) .nil) .nil) .nil)) (.cons (.ret (.cst .non)) .nil))
noncomputable def Zaw:Fd:=⟨[(O "name"),(O "around")],[(O "name"),(O "around"),(O "known"),(O "thing")],Z4⟩
noncomputable def Zpt:Sxs:=(.cons (.iff (.ex (.cmp .Eq (.ix (.var 0) (.cst (.int 0))) (.cst (.str (O "clo"))))) (.cons (.ret (.sl (.var 0) (Wx (.cst (.int 1))) Wy)) .nil) .nil) (.cons (.ret (.tupl (.cons (.var 0) (.cons (.tupl .nil) .nil)))) .nil))
noncomputable def Zdj:Fd:=⟨[(O "thing")],[(O "thing")],Zpt⟩
noncomputable def Zle:Sxs:=(.cons (.iff (.ex (.cmp .NotEq (.ix (.var 0) (.cst (.int 0))) (.cst (.str (O "name"))))) (.cons (.ret (.cst .non)) .nil) .nil) (.cons (.ret (.call (O "bound_to") (.cons (.ix (.var 0) (.cst (.int 1))) (.cons (.var 1) .nil)))) .nil))
noncomputable def Zat:Fd:=⟨[(O "place"),(O "around")],[(O "place"),(O "around")],Zle⟩
noncomputable def ZjO:Sxs:=(.cons (.ret (.bin .Add (.blt .tup (.cons (.comp [(O "name")] [Wy] (.pl (.call (O "bound_names") (.cons (.var 0) .nil))) (.nm 0) Wy (.tupl (.cons (.var 0) (.cons (.cst .non) .nil)))) .nil)) (.var 1))) .nil)
noncomputable def Zcq:Fd:=⟨[(O "place"),(O "around")],[(O "place"),(O "around")],ZjO⟩
noncomputable def Zlf:Sxs:=(.cons (.ret (.cmp .In (.ix (.var 0) (.cst (.int 0))) (.glo (O "VALUES")))) .nil)
noncomputable def Zav:Fd:=⟨[(O "E")],[(O "E")],Zlf⟩
noncomputable def ZcM:Sx:=(.set (.nm 2) (.blt .tup (.cons (.comp [(O "name"),(O "filling")] [Wy,Wx 1] (.dk (.var 1)) (.nm 0) Wy (.tupl (.cons (.var 0) (.cons (.tupl (.cons (.cst (.str (O "clo"))) (.cons (.ix (.var 1) (.var 0)) (.cons (.tupl .nil) .nil)))) .nil)))) .nil)))
noncomputable def ZcL:Sx:=(.ret (.mcl (O "Pen") (O "filled") (.mk (O "Pen") (.cons (.cst .non) .nil)) (.cons (.var 0) (.cons (.var 2) .nil))))
noncomputable def Zps:Sxs:=(.cons ZcM (.cons ZcL .nil))
noncomputable def Zdi:Fd:=⟨[(O "E"),(O "filling")],[(O "E"),(O "filling"),(O "around")],Zps⟩
noncomputable def ZgX:Sxs:=(.cons (.iff (.ex (.cmp .Eq (.ix (.var 0) (.cst (.int 0))) (.cst (.str (O "if"))))) (.cons (.ret (.sl (.var 0) (Wx (.cst (.int 1))) (Wx (.cst (.int 2))))) .nil) .nil) (.cons (.ret (.call (O "parts_of") (.cons (.var 0) .nil))) .nil))
noncomputable def ZC:Fd:=⟨[(O "E")],[(O "E")],ZgX⟩
noncomputable def Zit:Sxs:=(.cons (.forr (.two 1 2) (.en1 (.call (O "parts_first") (.cons (.var 0) .nil))) (.cons (.iff (.nt (.ex (.call (O "is_value") (.cons (.var 2) .nil)))) (.cons (.ret (.var 1)) .nil) .nil) .nil)) (.cons (.ret (.cst .non)) .nil))
noncomputable def ZaL:Fd:=⟨[(O "E")],[(O "E"),(O "k"),(O "part")],Zit⟩
noncomputable def ZgF:Sxs:=(.cons (.set (.nm 1) (.lstl (.cons (.tupl (.cons (.var 0) (.cons (.call (O "first_open") (.cons (.var 0) .nil)) .nil))) .nil))) (.cons (.whl (.ex (.cmp .IsNot (.ix (.ix (.var 1) (.neg (.cst (.int 1)))) (.cst (.int 1))) (.cst .non))) (.cons (.set (.nm 2) (.ix (.ix (.ix (.var 1) (.neg (.cst (.int 1)))) (.cst (.int 0))) (.ix (.ix (.var 1) (.neg (.cst (.int 1)))) (.cst (.int 1))))) (.cons (.drp (.meth .app (.var 1) (.cons (.tupl (.cons (.var 2) (.cons (.call (O "first_open") (.cons (.var 2) .nil)) .nil))) .nil))) .nil))) (.cons (.ret (.var 1)) .nil)))
noncomputable def Zby:Fd:=⟨[(O "E")],[(O "E"),(O "way"),(O "inner")],ZgF⟩
noncomputable def Zdz:Sxs:=(.cons (.iff (.ex (.cmp .Eq (.ix (.var 0) (.cst (.int 0))) (.cst (.str (O "fn"))))) (.cons (.ret (.call (O "put_in") (.cons (.ix (.var 0) (.cst (.int 2))) (.cons (.dictl (.cons (.ix (.var 0) (.cst (.int 1))) (.cons (.var 1) .nil))) .nil)))) .nil) .nil) (.cons (.iff (.ex (.cmp .Eq (.ix (.var 0) (.cst (.int 0))) (.cst (.str (O "rec"))))) (.cons (.ret (.call (O "put_in") (.cons (.ix (.var 0) (.cst (.int 3))) (.cons (.dictl (.cons (.ix (.var 0) (.cst (.int 1))) (.cons (.var 0) (.cons (.ix (.var 0) (.cst (.int 2))) (.cons (.var 1) .nil))))) .nil)))) .nil) .nil) (.cons (.ret (.cst .non)) .nil)))
noncomputable def Zdk:Fd:=⟨[(O "F"),(O "A")],[(O "F"),(O "A")],Zdz⟩
noncomputable def Zdy:Sxs:=(.cons (.iff (.ex (.cmp .NotEq (.ix (.var 0) (.cst (.int 0))) (.cst (.str (O "num"))))) (.cons (.ret (.cst .non)) .nil) .nil) (.cons (.ret (.ite (.ex (.cmp .Eq (.ix (.var 0) (.cst (.int 1))) (.cst (.int 0)))) (.var 2) (.var 1))) .nil))
noncomputable def ZaN:Fd:=⟨[(O "C"),(O "T"),(O "E")],[(O "C"),(O "T"),(O "E")],Zdy⟩
noncomputable def ZgE:Sx:=(.iff (.ors (.cons (.ex (.cmp .NotEq (.ix (.var 1) (.cst (.int 0))) (.cst (.str (O "num"))))) (.one (.ex (.cmp .NotEq (.ix (.var 2) (.cst (.int 0))) (.cst (.str (O "num")))))))) (.cons (.ret (.cst .non)) .nil) .nil)
noncomputable def Zk8:Sx:=(.iff (.ex (.cmp .Eq (.var 0) (.cst (.str (O "<"))))) (.cons (.ret (.tupl (.cons (.cst (.str (O "num"))) (.cons (.ite (.ex (.cmp .Lt (.ix (.var 1) (.cst (.int 1))) (.ix (.var 2) (.cst (.int 1))))) (.cst (.int 1)) (.cst (.int 0))) .nil)))) .nil) .nil)
noncomputable def Zk7:Sx:=(.iff (.ex (.cmp .Eq (.var 0) (.cst (.str (O "+"))))) (.cons (.ret (.tupl (.cons (.cst (.str (O "num"))) (.cons (.bin .Mod (.bin .Add (.ix (.var 1) (.cst (.int 1))) (.ix (.var 2) (.cst (.int 1)))) (.glo (O "BEYOND"))) .nil)))) .nil) .nil)
noncomputable def Zk6:Sx:=(.iff (.ex (.cmp .Eq (.var 0) (.cst (.str (O "-"))))) (.cons (.ret (.tupl (.cons (.cst (.str (O "num"))) (.cons (.bin .Mod (.bin .Sub (.ix (.var 1) (.cst (.int 1))) (.ix (.var 2) (.cst (.int 1)))) (.glo (O "BEYOND"))) .nil)))) .nil) .nil)
noncomputable def Zk5:Sx:=(.ret (.tupl (.cons (.cst (.str (O "num"))) (.cons (.bin .Mod (.bin .Mult (.ix (.var 1) (.cst (.int 1))) (.ix (.var 2) (.cst (.int 1)))) (.glo (O "BEYOND"))) .nil))))
noncomputable def ZH:Sxs:=(.cons ZgE (.cons Zk8 (.cons Zk7 (.cons Zk6 (.cons Zk5 .nil)))))
noncomputable def Za6:Fd:=⟨[(O "word"),(O "first"),(O "second")],[(O "word"),(O "first"),(O "second")],ZH⟩
noncomputable def Zlj:Sx:=(.iff (.ex (.cmp .Eq (.ix (.var 0) (.cst (.int 0))) (.cst (.str (O "call"))))) (.cons (.ret (.call (O "called") (.cons (.ix (.var 0) (.cst (.int 1))) (.cons (.ix (.var 0) (.cst (.int 2))) .nil)))) .nil) .nil)
noncomputable def Zli:Sx:=(.iff (.ex (.cmp .Eq (.ix (.var 0) (.cst (.int 0))) (.cst (.str (O "if"))))) (.cons (.ret (.call (O "chosen") (.cons (.ix (.var 0) (.cst (.int 1))) (.cons (.ix (.var 0) (.cst (.int 2))) (.cons (.ix (.var 0) (.cst (.int 3))) .nil))))) .nil) .nil)
noncomputable def Zlh:Sx:=(.ret (.call (O "worked") (.cons (.ix (.var 0) (.cst (.int 0))) (.cons (.ix (.var 0) (.cst (.int 1))) (.cons (.ix (.var 0) (.cst (.int 2))) .nil)))))
noncomputable def ZaT:Sxs:=(.cons Zlj (.cons Zli (.cons Zlh .nil)))
noncomputable def Zdl:Fd:=⟨[(O "E")],[(O "E")],ZaT⟩
noncomputable def ZgG:Sxs:=(.cons (.set (.nm 2) (.var 1)) (.cons (.forr (.two 3 4) (.rev (.var 0)) (.cons (.set (.nm 2) (.bin .Add (.bin .Add (.sl (.var 3) Wy (Wx (.var 4))) (.tupl (.cons (.var 2) .nil))) (.sl (.var 3) (Wx (.bin .Add (.var 4) (.cst (.int 1)))) Wy))) .nil)) (.cons (.ret (.var 2)) .nil)))
noncomputable def ZbB:Fd:=⟨[(O "way"),(O "E")],[(O "way"),(O "E"),(O "whole"),(O "place"),(O "inner")],ZgG⟩
noncomputable def ZbY:Sx:=(.iff (.ex (.call (O "is_value") (.cons (.var 0) .nil))) (.cons (.ret (.tupl (.cons (.cst (.str (O "value"))) .nil))) .nil) .nil)
noncomputable def Zdr:Sx:=(.set (.nm 1) (.call (O "way_down") (.cons (.var 0) .nil)))
noncomputable def Zdq:Sx:=(.set (.nm 2) (.call (O "become") (.cons (.ix (.ix (.var 1) (.neg (.cst (.int 1)))) (.cst (.int 0))) .nil)))
noncomputable def ZbX:Sx:=(.iff (.ex (.cmp .Is (.var 2) (.cst .non))) (.cons (.ret (.tupl (.cons (.cst (.str (O "stuck"))) .nil))) .nil) .nil)
noncomputable def Zdp:Sx:=(.ret (.tupl (.cons (.cst (.str (O "loud"))) (.cons (.call (O "put_back") (.cons (.sl (.var 1) Wy (Wx (.neg (.cst (.int 1))))) (.cons (.var 2) .nil))) .nil))))
noncomputable def Zm8:Sxs:=(.cons ZbY (.cons Zdr (.cons Zdq (.cons ZbX (.cons Zdp .nil)))))
noncomputable def Zcr:Fd:=⟨[(O "E")],[(O "E"),(O "way"),(O "F")],Zm8⟩
noncomputable def Zld:Sx:=(.set (.nm 2) (.lstl (.cons (.var 0) .nil)))
noncomputable def Zlc:Sx:=(.set (.nm 3) (.call (O "stepped") (.cons (.var 0) .nil)))
noncomputable def Zlb:Sx:=(.whl (.ex (.cmp .Eq (.ix (.var 3) (.cst (.int 0))) (.cst (.str (O "loud"))))) (.cons (.iff (.ex (.cmp .Gt (.blt .len (.cons (.var 2) .nil)) (.var 1))) (.cons (.ret (.tupl (.cons (.var 2) (.cons (.cst (.str (O "open"))) .nil)))) .nil) .nil) (.cons (.iff (.ex (.call (O "is_wide") (.cons (.ix (.var 3) (.cst (.int 1))) .nil))) (.cons (.ret (.tupl (.cons (.var 2) (.cons (.cst (.str (O "wide"))) .nil)))) .nil) .nil) (.cons (.drp (.meth .app (.var 2) (.cons (.ix (.var 3) (.cst (.int 1))) .nil))) (.cons (.set (.nm 3) (.call (O "stepped") (.cons (.ix (.var 3) (.cst (.int 1))) .nil))) .nil)))))
noncomputable def Zla:Sx:=(.ret (.tupl (.cons (.var 2) (.cons (.ix (.var 3) (.cst (.int 0))) .nil))))
noncomputable def ZjQ:Sxs:=(.cons Zld (.cons Zlc (.cons Zlb (.cons Zla .nil))))
noncomputable def Zdh:Fd:=⟨[(O "E"),(O "most")],[(O "E"),(O "most"),(O "row"),(O "step")],ZjQ⟩
noncomputable def ZdA:Sxs:=(.cons (.seta [(O "Pen")] (.var 0) (O "most") (.var 1)) (.cons (.seta [(O "Pen")] (.var 0) (O "used") (.cst (.int 0))) .nil))
noncomputable def ZT:Fd:=⟨[(O "self"),(O "most")],[(O "self"),(O "most")],ZdA⟩
noncomputable def Zk9(x:Sx):Sxs:=(.cons (.iff (.ex (.cmp .Eq (.att [(O "Pen")] (.var 0) (O "used")) (.att [(O "Pen")] (.var 0) (O "most")))) (.cons x .nil) .nil) (.cons (.auga [(O "Pen")] (.var 0) (O "used") (.cst (.int 1))) .nil))
noncomputable def ZkY(x:Sx):Fd:=⟨[(O "self")],[(O "self")],Zk9 x⟩
noncomputable def ZcR:Sxs:=(.cons (.set (.nm 3) (.lstl .nil)) (.cons (.set (.nm 4) (.lstl (.cons (.tupl (.cons (.var 1) (.cons (.var 2) .nil))) .nil))) (.cons (.whl (.ex (.var 4)) (.cons (.set (.nm 5) (.meth .pop (.var 4) .nil)) (.cons (.set (.nm 6) (.call (O "meant_by") (.cons (.ix (.var 5) (.cst (.int 0))) (.cons (.ix (.var 5) (.cst (.int 1))) .nil)))) (.cons (.iff (.ex (.cmp .Is (.var 6) (.cst .non))) (.cons (.drp (.mcl (O "Pen") (O "take_place") (.var 0) .nil)) (.cons (.drp (.meth .app (.var 3) (.cons (.call (O "front_of") (.cons (.ix (.var 5) (.cst (.int 0))) .nil)) .nil))) (.cons (.set (.nm 7) (.call (O "within") (.cons (.ix (.var 5) (.cst (.int 0))) (.cons (.ix (.var 5) (.cst (.int 1))) .nil)))) (.cons (.drp (.meth .ext (.var 4) (.cons (.comp [(O "part"),(O "inner")] [Wy,Wx 7] (.rev (.call (O "parts_of") (.cons (.ix (.var 5) (.cst (.int 0))) .nil))) (.nm 0) Wy (.tupl (.cons (.var 0) (.cons (.var 1) .nil)))) .nil))) .nil)))) (.cons (.drp (.meth .app (.var 4) (.cons (.call (O "opened") (.cons (.var 6) .nil)) .nil))) .nil)) .nil)))) (.cons (.ret (.call (O "built") (.cons (.var 3) .nil))) .nil))))
noncomputable def ZaP:Fd:=⟨[(O "self"),(O "E"),(O "around")],[(O "self"),(O "E"),(O "around"),(O "fronts"),(O "waiting"),(O "pair"),(O "thing"),(O "inner")],ZcR⟩
structure Trb(P:Pg):Prop extends Gn.Tre P where
 bound_names:P.tb.lookup (O "bound_names")=Wx Zaj
 front_of:P.tb.lookup (O "front_of")=Wx ZbG
 count_parts:P.tb.lookup (O "count_parts")=Wx Zai
 built:P.tb.lookup (O "built")=Wx ZdH
 bound_to:P.tb.lookup (O "bound_to")=Wx Zaw
 opened:P.tb.lookup (O "opened")=Wx Zdj
 meant_by:P.tb.lookup (O "meant_by")=Wx Zat
 within:P.tb.lookup (O "within")=Wx Zcq
 n_Pen___init__:P.tb.lookup (mnm (O "Pen") (O "__init__"))=Wy
 Pen___init__:P.ms.lookup (mnm (O "Pen") (O "__init__"))=Wx ZT
 n_Pen_take_place:P.tb.lookup (mnm (O "Pen") (O "take_place"))=Wy
 tk:∃x,P.ms.lookup (mnm (O "Pen") (O "take_place"))=Wx (ZkY x)
 n_Pen_filled:P.tb.lookup (mnm (O "Pen") (O "filled"))=Wy
 Pen_filled:P.ms.lookup (mnm (O "Pen") (O "filled"))=Wx ZaP
structure Trm(P:Pg):Prop extends Trb P where
 is_value:P.tb.lookup (O "is_value")=Wx Zav
 put_in:P.tb.lookup (O "put_in")=Wx Zdi
 parts_first:P.tb.lookup (O "parts_first")=Wx ZC
 first_open:P.tb.lookup (O "first_open")=Wx ZaL
 way_down:P.tb.lookup (O "way_down")=Wx Zby
 called:P.tb.lookup (O "called")=Wx Zdk
 chosen:P.tb.lookup (O "chosen")=Wx ZaN
 worked:P.tb.lookup (O "worked")=Wx Za6
 become:P.tb.lookup (O "become")=Wx Zdl
 put_back:P.tb.lookup (O "put_back")=Wx ZbB
 stepped:P.tb.lookup (O "stepped")=Wx Zcr
 gv:P.G (O "VALUES")=Wx (.tup [.str (O "num"),.str (O "fn"),.str (O "rec")])
 gb:P.G (O "BEYOND")=Wx (.int 1000000)
structure Trw(P:Pg):Prop extends Trm P where
 is_wide:P.tb.lookup (O "is_wide")=Wx Zbu
 row_of:P.tb.lookup (O "row_of")=Wx Zdh
 gw:P.G (O "WIDEST")=Wx (.int 120)
 pl:P.tb.lookup (O "places")=Wx Gn.ZbC
end Tm
end
section
namespace Tm
open PySem L2 IV
variable {P:Pg}{h:Hd}
section
variable {w:Wd}
@[simp] theorem Zwt:(w.s=O "num")↔False:=by cases w<;>simp[Wd.s]
@[simp] theorem Zwi:(w.s=O "name")↔False:=by cases w<;>simp[Wd.s]
@[simp] theorem Zwj:(w.s=O "call")↔False:=by cases w<;>simp[Wd.s]
@[simp] theorem ZxD:(w.s=O "if")↔False:=by cases w<;>simp[Wd.s]
@[simp] theorem ZxE:(w.s=O "fn")↔False:=by cases w<;>simp[Wd.s]
@[simp] theorem Zws:(w.s=O "rec")↔False:=by cases w<;>simp[Wd.s]
@[simp] theorem ZfE:Zab Gn.Zcp (.inr w.s)=Wx (.tup [.int 0,.int 2]):=by cases w<;>rfl
end
noncomputable def bnd:T->List Str
 |.fn x _=>[x]
 |.rcc f x _=>[f,x]
 |_=>[]
noncomputable def fr:T->List D
 |.num n=>[.str (O "num"),.int n]
 |.name x=>[.str (O "name"),.str x]
 |.fn x _=>[.str (O "fn"),.str x]
 |.rcc f x _=>[.str (O "rec"),.str f,.str x]
 |.call _ _=>[.str (O "call")]
 |.iff _ _ _=>[.str (O "if")]
 |.op w _ _=>[.str w.s]
def Zxq(t:T):t.d=.tup (fr t++t.parts.map T.d):=by cases t<;>rfl
def ZhP(H:Trb P)(n:Nat)(t:T)(h:Hd):run P (n+1) (O "bound_names") [t.d] h=.ok (.tup ((bnd t).map .str)) h:=by
 have no:∀(w:Str) (ds:List D),Zab Gn.Zcp (.inr w)=Wy->run P (n+1) (O "bound_names") [.tup (.str w::ds)] h=.ok (.tup []) h:=λw ds e=>by rw[Zc H.bound_names rfl];show Zh (xs2 (P.tbl n) Zan [Wx (.tup (.str w::ds))] h)=_;rw[Zan,Zf ((Zs (Gn.ZbU H.toTre ⟨rfl,rfl⟩ Gn.ZdY e)).trans (Zf (Zx (d:=.tup []) rfl)))];rfl
 have yes:∀(w:Str) (ds:List D) (a b:Int),Zab Gn.Zcp (.inr w)=Wx (.tup [.int a,.int b])->run P (n+1) (O "bound_names") [.tup (.str w::ds)] h=.ok (.tup (cutD (.str w::ds) (Wx 1) (Wx (1+a)))) h:=λw ds a b e=>by rw[Zc H.bound_names rfl];show Zh (xs2 (P.tbl n) Zan [Wx (.tup (.str w::ds))] h)=_;have q:=Gn.ZkW H.toTre (U:=P.tbl n) ⟨rfl,rfl⟩ (ds:=ds) (h:=h) e;have r:ev (P.tbl n) (.sl (.var 0) (Wx (.cst (.int 1))) (Wx (.bin .Add (.cst (.int 1)) (.ix (.ix (.glo (O "FORMS")) (.ix (.var 0) (.cst (.int 0)))) (.cst (.int 0)))))) [Wx (.tup (.str w::ds))] h=.ok (.tup (cutD (.str w::ds) (Wx 1) (Wx (1+a)))) h:=(Gn.Zly (a:=.var 0) (x:=.tup (.str w::ds)) rfl rfl (Gn.Zib q)).trans rfl;rw[Zan,Za ((Zt (Gn.ZbU H.toTre ⟨rfl,rfl⟩ Gn.ZdY e)).trans rfl),Zf (Zx r)];rfl
 cases t with
 |num z=>exact no (O "num") _ rfl
 |name x=>exact no (O "name") _ rfl
 |fn x e=>exact yes (O "fn") _ 1 1 rfl
 |rcc f x e=>exact yes (O "rec") _ 2 1 rfl
 |call f a=>exact yes (O "call") _ 0 2 rfl
 |iff c a b=>exact yes (O "if") _ 0 3 rfl
 |op w a b=>exact yes w.s _ 0 2 ZfE
def Zjq(H:Trb P)(n:Nat)(h:Hd)(w:Str)(ds:List D)(e:Zab Gn.Zcp (.inr w)=Wy):run P (n+1) (O "front_of") [.tup (.str w::ds)] h=.ok (.tup (.str w::ds)) h:=by rw[Zc H.front_of rfl];show Zh (xs2 (P.tbl n) ZbO [Wx (.tup (.str w::ds))] h)=_;rw[ZbO,Zf ((Zs (Gn.ZbU H.toTre ⟨rfl,rfl⟩ Gn.ZdY e)).trans (Zf (Zx (d:=.tup (.str w::ds)) rfl)))];rfl
def Zco(H:Trb P)(n:Nat)(h:Hd)(w:Str)(ds:List D)(a b:Int)(e:Zab Gn.Zcp (.inr w)=Wx (.tup [.int a,.int b])):run P (n+1) (O "front_of") [.tup (.str w::ds)] h=.ok (.tup (cutD (.str w::ds) Wy (Wx (1+a)))) h:=by rw[Zc H.front_of rfl];show Zh (xs2 (P.tbl n) ZbO [Wx (.tup (.str w::ds))] h)=_;have q:=Gn.ZkW H.toTre (U:=P.tbl n) ⟨rfl,rfl⟩ (ds:=ds) (h:=h) e;have r:ev (P.tbl n) (.sl (.var 0) Wy (Wx (.bin .Add (.cst (.int 1)) (.ix (.ix (.glo (O "FORMS")) (.ix (.var 0) (.cst (.int 0)))) (.cst (.int 0)))))) [Wx (.tup (.str w::ds))] h=.ok (.tup (cutD (.str w::ds) Wy (Wx (1+a)))) h:=(Gn.Zly (a:=.var 0) (x:=.tup (.str w::ds)) rfl rfl (Gn.Zib q)).trans rfl;rw[ZbO,Za ((Zt (Gn.ZbU H.toTre ⟨rfl,rfl⟩ Gn.ZdY e)).trans rfl),Zf (Zx r)];rfl
def Zp6(H:Trb P)(n:Nat)(t:T)(h:Hd):run P (n+1) (O "front_of") [t.d] h=.ok (.tup (fr t)) h:=by
 cases t with
 |num z=>exact Zjq H n h (O "num") _ rfl
 |name x=>exact Zjq H n h (O "name") _ rfl
 |fn x e=>exact Zco H n h (O "fn") _ 1 1 rfl
 |rcc f x e=>exact Zco H n h (O "rec") _ 2 1 rfl
 |call f a=>exact Zco H n h (O "call") _ 0 2 rfl
 |iff c a b=>exact Zco H n h (O "if") _ 0 3 rfl
 |op w a b=>exact Zco H n h w.s _ 0 2 ZfE
def Zp9(H:Trb P)(n:Nat)(t:T)(h:Hd):run P (n+1) (O "count_parts") [.tup (fr t)] h=.ok (.int t.parts.length) h:=by
 have no:∀(w:Str) (ds:List D),Zab Gn.Zcp (.inr w)=Wy->run P (n+1) (O "count_parts") [.tup (.str w::ds)] h=.ok (.int 0) h:=λw ds e=>by rw[Zc H.count_parts rfl];show Zh (xs2 (P.tbl n) Zam [Wx (.tup (.str w::ds))] h)=_;rw[Zam,Zf ((Zs (Gn.ZbU H.toTre ⟨rfl,rfl⟩ Gn.ZdY e)).trans (Zf (Zx (d:=.int 0) rfl)))];rfl
 have yes:∀(w:Str) (ds:List D) (a b:Int),Zab Gn.Zcp (.inr w)=Wx (.tup [.int a,.int b])->run P (n+1) (O "count_parts") [.tup (.str w::ds)] h=.ok (.int b) h:=λw ds a b e=>by
  rw[Zc H.count_parts rfl];show Zh (xs2 (P.tbl n) Zam [Wx (.tup (.str w::ds))] h)=_;have r:ev (P.tbl n) (.ix (.ix (.glo (O "FORMS")) (.ix (.var 0) (.cst (.int 0)))) (.cst (.int 1))) [Wx (.tup (.str w::ds))] h=.ok (.int b) h:=by rw[Zjw,Gn.Zl1 H.toTre ⟨rfl,rfl⟩ Gn.ZdY e];rfl
  rw[Zam,Za ((Zt (Gn.ZbU H.toTre ⟨rfl,rfl⟩ Gn.ZdY e)).trans rfl),Zf (Zx r)];rfl
 cases t with
 |num z=>exact no (O "num") _ rfl
 |name x=>exact no (O "name") _ rfl
 |fn x e=>exact yes (O "fn") _ 1 1 rfl
 |rcc f x e=>exact yes (O "rec") _ 2 1 rfl
 |call f a=>exact yes (O "call") _ 0 2 rfl
 |iff c a b=>exact yes (O "if") _ 0 3 rfl
 |op w a b=>exact yes w.s _ 0 2 ZfE
noncomputable abbrev Ar:=List (Str×Option T)
noncomputable def thd(V:T):D:=.tup [.str (O "clo"),V.d,.tup []]
noncomputable def ard(p:Str×Option T):D:=.tup [.str p.1,match p.2 with|some V=>thd V|none=>.non]
noncomputable def get:Ar->Str->Option T
 |[],_=>Wy
 |(y,v)::r,x=>if y=x then v else get r x
noncomputable abbrev En:=List (Str×Option Rw.Th)
noncomputable def edd(p:Str×Option Rw.Th):D:=.tup [.str p.1,Rw.thD p.2]
noncomputable def Zd9:En->Str->Option Rw.Th
 |[],_=>Wy
 |(y,v)::r,x=>if y=x then v else Zd9 r x
noncomputable def Zou:Sxs:=(.cons (.iff (.ex (.cmp .Eq (.var 2) (.var 0))) (.cons (.ret (.var 3)) .nil) .nil) .nil)
theorem ZvG:∀(ar:En) (a b:Option D),(∃S,ZK Wy (.two 2 3) (xs2 U Zou) (ar.map edd) [Wx (.str x),Wx o,a,b] h=.ok (.rt (Rw.thD (Zd9 ar x)),S) h)\/(Zd9 ar x=Wy/\∃S,ZK Wy (.two 2 3) (xs2 U Zou) (ar.map edd) [Wx (.str x),Wx o,a,b] h=.ok (.nx,S) h)
 |[],a,b=>.inr ⟨rfl,_,rfl⟩
 |(y,v)::r,a,b=>by
  have tt:tst U (.ex (.cmp .Eq (.var 2) (.var 0))) [Wx (.str x),Wx o,Wx (.str y),Wx (Rw.thD v)] h=.ok (WB (y=x)) h:=Zak rfl rfl;by_cases e:y=x
  . refine .inl ⟨[Wx (.str x),Wx o,Wx (.str y),Wx (Rw.thD v)],?_⟩;rw[Zd9,if_pos e];exact Zo2 rfl (Zf ((Zs (Zm tt (decide_eq_true e))).trans (Zf (Zx rfl))))
  . have b1:xs2 U Zou [Wx (.str x),Wx o,Wx (.str y),Wx (Rw.thD v)] h=.ok (.nx,[Wx (.str x),Wx o,Wx (.str y),Wx (Rw.thD v)]) h:=(Za ((Zt (Zm tt (decide_eq_false e))).trans rfl)).trans rfl;have s1:=Zcb (g:=.two 2 3) (ds:=r.map edd) (S:=[Wx (.str x),Wx o,a,b]) (d:=edd (y,v)) rfl b1;rw[Zd9,if_neg e];rcases ZvG (U:=U) (x:=x) (o:=o) r (Wx (.str y)) (Wx (Rw.thD v))with ⟨S,q⟩|⟨q0,S,q⟩
    . exact .inl ⟨S,s1.trans q⟩
    . exact .inr ⟨q0,S,s1.trans q⟩
def ZwR(H:Trb P)(n:Nat)(x:Str)(ar:En):run P (n+1) (O "bound_to") [.str x,.tup (ar.map edd)] h=.ok (Rw.thD (Zd9 ar x)) h:=by
 rw[Zc H.bound_to (by rfl)];rcases ZvG (U:=P.tbl n) (h:=h) (x:=x) (o:=.tup (ar.map edd)) ar Wy Wy with ⟨S,q⟩|⟨q0,S,q⟩
 . have w:xs2 (P.tbl n) Z4 [Wx (.str x),Wx (.tup (ar.map edd)),Wy,Wy] h=.ok (.rt (Rw.thD (Zd9 ar x)),S) h:=Zf ((Zca (Zgw rfl)).trans q);exact congrArg Zh w
 . have w:xs2 (P.tbl n) Z4 [Wx (.str x),Wx (.tup (ar.map edd)),Wy,Wy] h=.ok (.rt .non,S) h:=(Za ((Zca (Zgw rfl)).trans q)).trans (Zf (Zx rfl));rw[q0];exact congrArg Zh w
noncomputable def mean(ar:Ar):T->Option T
 |.name x=>get ar x
 |_=>Wy
noncomputable def Zcy(ar:En):T->Option Rw.Th
 |.name x=>Zd9 ar x
 |_=>Wy
def ZhM(H:Trb P)(n:Nat)(t:T)(ar:En):run P (n+2) (O "meant_by") [t.d,.tup (ar.map edd)] h=.ok (Rw.thD (Zcy ar t)) h:=by
 rw[Zc H.meant_by (by cases t<;>rfl)];cases t with
 |name x=>exact ZgD (U:=P.tbl (n+1)) (λU=>Zh (xs2 U Zat.body (Zu Zat.N [(T.name x).d,.tup (ar.map edd)]) h)) (ZwR H n (h:=h) x ar) rfl rfl
 |op w a b=>cases w<;>exact rfl
 |_=>exact rfl
noncomputable def inn(t:T)(ar:Ar):Ar:=(bnd t).map (λx=>(x,Wy))++ar
noncomputable def Zcc(t:T)(ar:En):En:=(bnd t).map (λx=>(x,Wy))++ar
theorem ZjL:∀(xs:List Str) (acc:List D),acc.length+xs.length<=1000->Zz Wy (.nm 0) (tsto U Wy) (ev U (.tupl (.cons (.var 0) (.cons (.cst .non) .nil)))) (xs.map .str) [Wy] acc h=.ok (acc++(xs.map λx=>D.tup [.str x,.non])) h
 |[],acc,_=>by simp[Zz,Wk.stays]
 |x::xs,acc,hz=>by
  have ih:=ZjL (U:=U) xs (acc++[.tup [.str x,.non]]) (by simp at hz ⊢;lia);have hl:acc.length<16777216:=by simp at hz;lia
  rw[Op,ZQ];simp[Wk.stays,hl,YC];simpa using ih
def ZnH(H:Trb P)(n:Nat)(t:T)(ar:En)(hz:ar.length<=100000):run P (n+2) (O "within") [t.d,.tup (ar.map edd)] h=.ok (.tup ((Zcc t ar).map edd)) (h++[.lst ((bnd t).map λx=>.tup [.str x,.non])]):=by
 rw[Zc H.within (by cases t<;>rfl)];have e:=ZhP H n t h;have hb:(bnd t).length<=2:=by cases t<;>simp[bnd]
 have c:=ZjL (U:=⟨P.G,P.GD,run P (n+1),P.L⟩) (h:=h) (bnd t) [] (by simp;lia);have cat:∀h',opB .Add (.tup ((bnd t).map λx=>D.tup [.str x,.non])) (.tup (ar.map edd)) h'=.ok (.tup ((Zcc t ar).map edd)) h':=by intro h';rw[ZcC (by rw[YC];simp;lia)];simp[Zcc,edd,Rw.thD,Wa]
 simp at c;simp[Zcq,ZjO,Zu,e,Zar,Zbp,c,ZbJ,Zna,lstOf,cat]
noncomputable def opn:Rw.Th->T×Rw.Ar
 |.num n=>(.num n,.nil)
 |.clo E ar=>(E,ar)
def ZiS(H:Trb P)(n:Nat)(v:Rw.Th):run P (n+1) (O "opened") [v.d] h=.ok (.tup [(opn v).1.d,.tup (opn v).2.ds]) h:=by rw[Zc H.opened (by cases v<;>rfl)];cases v<;>exact rfl
end Tm
end
section
namespace Tm
open PySem L2 IV
variable {P:Pg}
noncomputable def sub:Ar->T->T
 |_,.num n=>.num n
 |ar,.name x=>(get ar x).getD (.name x)
 |ar,.fn x e=>.fn x (sub ((x,Wy)::ar) e)
 |ar,.rcc f x e=>.rcc f x (sub ((f,Wy)::(x,Wy)::ar) e)
 |ar,.call f a=>.call (sub ar f) (sub ar a)
 |ar,.iff c t e=>.iff (sub ar c) (sub ar t) (sub ar e)
 |ar,.op w a b=>.op w (sub ar a) (sub ar b)
def NN(ar:Ar):Prop:=∀x,get ar x=Wy
def NN.cons(h:NN ar)(y:Str):NN ((y,Wy)::ar):=λx=>by
 unfold get;split
 . rfl
 . exact h x
theorem Zbv:∀(t:T) {ar:Ar},NN ar->sub ar t=t
 |.num _,_,_=>rfl
 |.name x,_,h=>by rw[sub,h x];rfl
 |.fn x e,_,h=>by rw[sub,Zbv e (h.cons x)]
 |.rcc f x e,_,h=>by rw[sub,Zbv e ((h.cons x).cons f)]
 |.call f a,_,h=>by rw[sub,Zbv f h,Zbv a h]
 |.iff c t e,_,h=>by rw[sub,Zbv c h,Zbv t h,Zbv e h]
 |.op w a b,_,h=>by rw[sub,Zbv a h,Zbv b h]
def Zd(t:T):t.size=1+(t.parts.map T.size).sum:=by
 unfold T.size;rw[T.places_parts];simp only[Os,List.length_flatMap]
 lia
def Zac(t:T):1<=t.size:=by rw[Zd];lia
def Zmk(t:T)(ar:Ar)(h:mean ar t=Wy):(sub ar t).parts=t.parts.map (sub (inn t ar))/\fr (sub ar t)=fr t:=by
 cases t with
 |name x=>rw[sub,show get ar x=Wy from h];exact⟨rfl,rfl⟩
 |_=>exact⟨rfl,rfl⟩
def ZmN{t:T}{V:T}(h:mean ar t=Wx V):sub ar t=V:=by
 cases t with
 |name x=>rw[sub,show get ar x=Wx V from h];rfl
 |_=>cases h
end Tm
namespace Rw
open PySem L2 IV
mutual
noncomputable def rd:Th->T
 |.num n=>.num n
 |.clo E ar=>Tm.sub (ra ar) E
noncomputable def ra:Ar->List (Str×Option T)
 |.nil=>[]
 |.cons x v r=>(x,Wx (rd v))::ra r
end
end Rw
namespace Tm
open PySem L2 IV
variable {P:Pg}
noncomputable def er(e:En):Ar:=e.map λp=>(p.1,p.2.map Rw.rd)
noncomputable def up:Rw.Ar->En
 |.nil=>[]
 |.cons x v r=>(x,Wx v)::up r
theorem Zls:∀ar:Rw.Ar,(up ar).map edd=ar.ds
 |.nil=>by rw[up,Rw.Ar.ds];rfl
 |.cons x v r=>by rw[up,Rw.Ar.ds,Op,Zls r];rfl
theorem Zpd:∀ar:Rw.Ar,er (up ar)=Rw.ra ar
 |.nil=>by rw[up,Rw.ra];rfl
 |.cons x v r=>by rw[up,Rw.ra,<- Zpd r];rfl
theorem Zj2:∀ar:Rw.Ar,(up ar).length=ar.len
 |.nil=>rfl
 |.cons x v r=>by rw[up,Rw.Ar.len,Os,Zj2 r]
theorem ZkU(x:Str):∀e:En,get (er e) x=(Zd9 e x).map Rw.rd
 |[]=>rfl
 |(y,v)::r=>by
  show(if y=x then v.map Rw.rd else get (er r) x)=(if y=x then v else Zd9 r x).map Rw.rd;split
  . rfl
  . exact ZkU x r
def ZtY(t:T)(e:En):er (Zcc t e)=inn t (er e):=by simp[er,Zcc,inn,Wa]
noncomputable def tel(p:T×En):T:=sub (er p.2) p.1
def Zk2(h:Zcy e t=Wy):mean (er e) t=Wy:=by
 cases t with
 |name x=>show get (er e) x=Wy;rw[ZkU,show Zd9 e x=Wy from h];rfl
 |_=>rfl
def ZhF(v:Rw.Th):tel ((opn v).1,up (opn v).2)=Rw.rd v:=by
 cases v with
 |num n=>rw[Rw.rd];rfl
 |clo E ar=>show sub (er (up ar)) E=_;rw[Zpd,Rw.rd]
def Zgx{t:T}{v:Rw.Th}(h:Zcy e t=Wx v):tel (t,e)=Rw.rd v:=by
 cases t with
 |name x=>refine ZmN ?_;show get (er e) x=_;rw[ZkU,show Zd9 e x=Wx v from h];rfl
 |_=>cases h
def Zg0(h:Zcy e t=Wy):(tel (t,e)).parts=t.parts.map (λs=>tel (s,Zcc t e))/\fr (tel (t,e))=fr t:=by obtain⟨a,b⟩:=Zmk t (er e) (Zk2 h);refine⟨a.trans ?_,b⟩;rw[<- ZtY];rfl
noncomputable def tf(t:T):D:=.tup (fr t)
def ZdU{h:Hd}(e:h[i]? = Wx o):i<h.length:=(Ob.mp e).1
def keep{h:Hd}{i:Nat}{g:Hd}(e:h[i]? = Wx o):(h++g)[i]? = Wx o:=by rw[Oe (ZdU e)];exact e
structure B_(h0 h:Hd)(fk dk:Nat)(fs ds:List D):Prop where
 f:h[fk]? = Wx (.lst fs)
 d:h[dk]? = Wx (.lst ds)
 ne:dk≠fk
 o1:h0.length<=dk
 ol:h0.length<=h.length
 old:∀i,i<h0.length->h[i]? = h0[i]?
theorem B_.set{h0 h:Hd}(b:B_ h0 h fk dk fs ds)(es:List D):B_ h0 (h.set dk (.lst es)) fk dk fs es:=⟨by rw[Oc b.ne];exact b.f,by rw[Ol (ZdU b.d)],b.ne,b.o1,by simpa using b.ol,λi hi=>by rw[Oc (by have:=b.o1;lia)];exact b.old i hi⟩
def B_.app{h0 h g:Hd}{fk dk:Nat}{fs ds:List D}(b:B_ h0 h fk dk fs ds):B_ h0 (h++g) fk dk fs ds:=⟨keep b.f,keep b.d,b.ne,b.o1,by have:=b.ol;simp;lia,λi hi=>by rw[Oe (by have:=b.ol;lia)];exact b.old i hi⟩
theorem Zr0:∀(ks xs D0 acc:List D) (h:Hd),ks.length=xs.length->acc.length+xs.length<=1000->B_ h0 h fk dk fs (D0++xs.reverse)->∃h',
 Zz Wy (.nm 0) (tsto U Wy) (ev U (.meth .pop (.var 1) .nil)) ks [Wy,Wx (.ref dk)] acc h=.ok (acc++xs) h'/\B_ h0 h' fk dk fs D0
 |[],[],D0,acc,h,_,_,b=>⟨h,by simp[Zz,Wk.stays],by simpa using b⟩
 |[],_::_,_,_,_,e,_,_=>by cases e
 |_::_,[],_,_,_,e,_,_=>by cases e
 |k::ks,x::xs,D0,acc,h,e,hz,b=>by
  have b1:B_ h0 h fk dk fs ((D0++xs.reverse)++[x]):=by simpa using b
  obtain⟨h',q,b2⟩:=Zr0 (U:=U) ks xs D0 (acc++[x]) _ (by simpa using e) (by simp at hz ⊢;lia) (b1.set (D0++xs.reverse));refine⟨h',?_,b2⟩;have pp:=Zgf b1.d;have il:=Zay b1.d;have hl:acc.length<16777216:=by simp at hz;lia
  rw[ZQ];simp[Wk.stays,hl,YC,il,pp];simpa using q
noncomputable def Zet:Sxs:=(.cons (.set (.nm 3) (.comp [(O "k"),(O "done")] [Wy,Wx 1] (.rng (.call (O "count_parts") (.cons (.var 2) .nil))) (.nm 0) Wy (.meth .pop (.var 1) .nil))) (.cons (.drp (.meth .app (.var 1) (.cons (.bin .Add (.var 2) (.blt .tup (.cons (.var 3) .nil))) .nil))) .nil))
def ZpQ(H:Trb P)(n:Nat){h0 h:Hd}{fk dk:Nat}{fs D0:List D}(t:T)(b:B_ h0 h fk dk fs (D0++(t.parts.map T.d).reverse))(hz:D0.length<=1000000)(o0 o3:Option D):∃h' o3',
 xs2 (P.tbl (n+1)) Zet [o0,Wx (.ref dk),Wx (tf t),o3] h=.ok (.nx,[o0,Wx (.ref dk),Wx (tf t),o3']) h'/\B_ h0 h' fk dk fs (D0++[t.d]):=by
 have hp:t.parts.length<=3:=by cases t<;>simp[T.parts]
 have hf:(fr t).length<=3:=by cases t<;>simp[fr]
 have ec:=Zp9 H n t h;obtain⟨h1,q1,b1⟩:=Zr0 (U:=P.tbl (n+1)) (ZG 0 t.parts.length) (t.parts.map T.d) D0 [] h (by simp[ZG]) (by simp;lia) b;have s62:Zap (t.parts.length:Int)=Wz:=by simp[Zap];lia
 have b2:=(b1.app (g:=[.lst (t.parts.map T.d)])).set (D0++[t.d]);refine⟨_,Wx (.ref h1.length),?_,b2⟩;have k1:(h1++[DO.lst (t.parts.map T.d)])[dk]? = Wx (.lst D0):=keep b1.d;have x1:xs1 (P.tbl (n+1)) (.set (.nm 3) (.comp [(O "k"),(O "done")] [Wy,Wx 1] (.rng (.call (O "count_parts") (.cons (.var 2) .nil))) (.nm 0) Wy (.meth .pop (.var 1) .nil))) [o0,Wx (.ref dk),Wx (tf t),o3] h=.ok (.nx,[o0,Wx (.ref dk),Wx (tf t),Wx (.ref h1.length)]) (h1++[.lst (t.parts.map T.d)]):=by
  have ei:evi (P.tbl (n+1)) (.rng (.call (O "count_parts") (.cons (.var 2) .nil))) [o0,Wx (.ref dk),Wx (tf t),o3] h=.ok ⟨Wy,ZG 0 t.parts.length⟩ h:=by have e1:ev (P.tbl (n+1)) (.call (O "count_parts") (.cons (.var 2) .nil)) [o0,Wx (.ref dk),Wx (tf t),o3] h=.ok (.int t.parts.length) h:=ec;rw[Zl2,e1,Zp];exact(if_pos s62).trans (by rw[Int.toNat_natCast])
  rw[Zef,Zez,ei,Zp];simp only[Zbp,Op,Oy,Option.bind_none,Yz];rw[show([o0,Wx (D.ref dk),Wx (tf t),o3][1]?).join=Wx (.ref dk)from rfl,q1];rfl
 have x2:xs1 (P.tbl (n+1)) (.drp (.meth .app (.var 1) (.cons (.bin .Add (.var 2) (.blt .tup (.cons (.var 3) .nil))) .nil))) [o0,Wx (.ref dk),Wx (tf t),Wx (.ref h1.length)] (h1++[.lst (t.parts.map T.d)])=.ok (.nx,[o0,Wx (.ref dk),Wx (tf t),Wx (.ref h1.length)]) (List.set (h1++[.lst (t.parts.map T.d)]) dk (.lst (D0++[t.d]))):=by
  have ap:=Zbx (d:=t.d) k1 (by rw[YC];lia);have il:=Zay k1;have ad:∀h',opB .Add (tf t) (.tup (t.parts.map T.d)) h'=.ok t.d h':=λh'=>by rw[Zxq];exact ZcC (by rw[YC];simp;lia)
  simp[il,ZbJ,Zna,lstOf,ad,ap]
 rw[Zet,Za x1,Za x2];rfl
end Tm
end
section
namespace Tm
open PySem L2 IV
variable {P:Pg}
def Zjr(e:h[j]? = Wx (.lst L))(b:ZbK g d S=Wx ρ1)(q:body ρ1 h=.ok (.nx,ρ2) h2):ZK (Wx (j,L)) g body (d::ds) S h=ZK (Wx (j,L)) g body ds ρ2 h2:=by
 have:Wk.stays (Wx (j,L)) h=Wz:=by simp[Wk.stays,e]
 rw[ZK,if_pos this,b];simp only;rw[q];rfl
def Zjs(e:h[j]? = Wx (.lst L)):ZK (Wx (j,L)) g body [] S h=.ok (.nx,S) h:=by
 have:Wk.stays (Wx (j,L)) h=Wz:=by simp[Wk.stays,e]
 rw[ZK,if_pos this]
noncomputable def wb(P:Pg)(n fk dk:Nat)(fs:List D)(o0:Option D)(rest:List D)(o2 o3:Option D)(h:Hd):R (Fl×Ev):=ZK (Wx (fk,fs)) (.nm 2) (xs2 (P.tbl (n+1)) Zet) rest [o0,Wx (.ref dk),o2,o3] h
def Bt(P:Pg)(n:Nat)(h0:Hd)(fk dk:Nat)(fs:List D)(o0:Option D)(xs D0 D1:List D):Prop:=∀(rest:List D) (h:Hd) (o2 o3:Option D),B_ h0 h fk dk fs D0->∃h' o2' o3',wb P n fk dk fs o0 (xs++rest) o2 o3 h=wb P n fk dk fs o0 rest o2' o3' h'/\B_ h0 h' fk dk fs D1
section
variable {n:Nat}{h0:Hd}{fk dk:Nat}{fs:List D}{o0:Option D}{xs ys D0 D1 D2:List D}
def Bt.trans(a:Bt P n h0 fk dk fs o0 xs D0 D1)(b:Bt P n h0 fk dk fs o0 ys D1 D2):Bt P n h0 fk dk fs o0 (xs++ys) D0 D2:=λrest h o2 o3 q=>by obtain⟨h1,o21,o31,e1,q1⟩:=a (ys++rest) h o2 o3 q;obtain⟨h2,o22,o32,e2,q2⟩:=b rest h1 o21 o31 q1;exact⟨h2,o22,o32,by rw[Oz,e1,e2],q2⟩
def Bt.front(H:Trb P)(t:T)(hz:D0.length<=1000000):Bt P n h0 fk dk fs o0 [tf t] (D0++(t.parts.map T.d).reverse) (D0++[t.d]):=λrest h o2 o3 b=>by obtain⟨h',o3',e,b'⟩:=ZpQ H n t b hz o0 o3;exact⟨h',Wx (tf t),o3',Zjr b.f rfl e,b'⟩
end
theorem Zb7(H:Trb P):∀(t:T) (D0:List D),D0.length+t.size<=1000000->Bt P n h0 fk dk fs o0 (t.places.map tf).reverse D0 (D0++[t.d])
 |.num m,D0,hz=>by simpa[T.places,T.parts]using Bt.front (P:=P) (n:=n) (h0:=h0) (fk:=fk) (dk:=dk) (fs:=fs) (o0:=o0) (D0:=D0) H (.num m) (by lia)
 |.name m,D0,hz=>by simpa[T.places,T.parts]using Bt.front (P:=P) (n:=n) (h0:=h0) (fk:=fk) (dk:=dk) (fs:=fs) (o0:=o0) (D0:=D0) H (.name m) (by lia)
 |.fn x e,D0,hz=>by rw[Zd]at hz;simp only[T.parts,Op,Oy,OI,List.sum_nil]at hz;have a:=(Zb7 H (n:=n) (h0:=h0) (fk:=fk) (dk:=dk) (fs:=fs) (o0:=o0) e D0 (by lia)).trans (Bt.front H (.fn x e) (by lia));simpa[T.places,T.parts]using a
 |.rcc f x e,D0,hz=>by rw[Zd]at hz;simp only[T.parts,Op,Oy,OI,List.sum_nil]at hz;have a:=(Zb7 H (n:=n) (h0:=h0) (fk:=fk) (dk:=dk) (fs:=fs) (o0:=o0) e D0 (by lia)).trans (Bt.front H (.rcc f x e) (by lia));simpa[T.places,T.parts]using a
 |.call f a,D0,hz=>by rw[Zd]at hz;simp only[T.parts,Op,Oy,OI,List.sum_nil]at hz;have s1:=Zac f;have q:=(Zb7 H (n:=n) (h0:=h0) (fk:=fk) (dk:=dk) (fs:=fs) (o0:=o0) a D0 (by lia)).trans (Zb7 H f (D0++[a.d]) (by simp;lia));have r:=Bt.front (P:=P) (n:=n) (h0:=h0) (fk:=fk) (dk:=dk) (fs:=fs) (o0:=o0) (D0:=D0) H (.call f a) (by lia);simp only[T.parts,Op,Oy,List.reverse_cons,List.reverse_nil,OB]at r;rw[<- Oz]at r;simpa[T.places]using q.trans r
 |.op w f a,D0,hz=>by rw[Zd]at hz;simp only[T.parts,Op,Oy,OI,List.sum_nil]at hz;have s1:=Zac f;have q:=(Zb7 H (n:=n) (h0:=h0) (fk:=fk) (dk:=dk) (fs:=fs) (o0:=o0) a D0 (by lia)).trans (Zb7 H f (D0++[a.d]) (by simp;lia));have r:=Bt.front (P:=P) (n:=n) (h0:=h0) (fk:=fk) (dk:=dk) (fs:=fs) (o0:=o0) (D0:=D0) H (.op w f a) (by lia);simp only[T.parts,Op,Oy,List.reverse_cons,List.reverse_nil,OB]at r;rw[<- Oz]at r;simpa[T.places]using q.trans r
 |.iff c t e,D0,hz=>by rw[Zd]at hz;simp only[T.parts,Op,Oy,OI,List.sum_nil]at hz;have s1:=Zac c;have s2:=Zac t;have q:=((Zb7 H (n:=n) (h0:=h0) (fk:=fk) (dk:=dk) (fs:=fs) (o0:=o0) e D0 (by lia)).trans (Zb7 H t (D0++[e.d]) (by simp;lia))).trans (Zb7 H c (D0++[e.d]++[t.d]) (by simp;lia));have r:=Bt.front (P:=P) (n:=n) (h0:=h0) (fk:=fk) (dk:=dk) (fs:=fs) (o0:=o0) (D0:=D0) H (.iff c t e) (by lia);simp only[T.parts,Op,Oy,List.reverse_cons,List.reverse_nil,OB]at r;rw[<- Oz,<- Oz]at r;simpa[T.places]using q.trans r
theorem Zqa (H:Trb P) (n:Nat) (t:T) (hf:h[fk]? = Wx (.lst (t.places.map tf))) (hz:t.size<=500000):∃ g,run P (n+2) (O "built") [.ref fk] h=.ok t.d (h++g):=by
 rw [Zc H.built (by rfl)];have b0:B_ h (h++[.lst []]) fk h.length (t.places.map tf) []:=⟨keep hf,by simp,by have:=ZdU hf;lia,Oq _,by simp,fun i hi=>Oe hi⟩
 obtain ⟨h1,o2,o3,e1,b1⟩:=Zb7 H (n:=n) (o0:=Wx (.ref fk)) t [] (by simp;lia) [] _ Wy Wy b0;have e2:wb P n fk h.length (t.places.map tf) (Wx (.ref fk)) [] o2 o3 h1=.ok (.nx,[Wx (.ref fk),Wx (.ref h.length),o2,o3]) h1:=Zjs b1.f;rw [e2,Yt] at e1;have ex:∃ g,h1=h++g:=⟨h1.drop h.length,by
   apply List.ext_getElem?;intro i;rcases Nat.lt_or_ge i h.length with q|q
   . rw [b1.old i q,Oe q]
   . rw [Om q,List.getElem?_drop];congr 1
     lia⟩
 obtain ⟨g,rfl⟩:=ex;refine ⟨g,?_⟩;have x0:=ZS (GD:=P.GD) (k:=0) b1.d;have hw:ZfF (.ref fk) (h++[.lst []])=Wx ⟨Wx (fk,t.places.map tf),t.places.map tf⟩:=by simp [ZfF,b0.f]
 unfold wb Zet at e1;simp only [Pg.tbl] at e1;simp only [OB] at x0;simp [ZdH,Zma,Zu,YC,hw,e1,x0]
end Tm
end
section
namespace Tm
open PySem L2 IV
variable {P:Pg}
noncomputable def Zas(mo:D)(u:Int):DO:=.ins (O "Pen") [(O "most",mo),(O "used",.int u)]
def Lim(mo:D)(z:Int):Prop:=mo=.non\/∃m:Int,mo=.int m/\z<=m
def ZrN(H:Trb P)(n:Nat)(mo:D)(h:Hd):Zon (run P (n+1)) (O "Pen") [mo] h=.ok (.ref h.length) (h++[Zas mo 0]):=by unfold Zon;rw[Zd5 H.n_Pen___init__ H.Pen___init__ (by rfl)];simp[ZT,ZdA,Zu,ZhI,Zmt,YC,Zas]
def Zq8:IV.Zb8 WA (D.int u) D.non h=.ok (D.bl WA) h:=by
 have e:YQ (.int u) .none=WA:=by simp[YQ]
 show(if min (PyData.int u).depth PyData.none.depth<=1100 then R.ok (D.bl (if WA then !YQ (.int u) .none else YQ (.int u) .none)) h else .bad)=_;rw[if_pos (by simp[PyData.depth]),e];rfl
def ZnI(H:Trb P)(n:Nat)(lm:Lim mo (u+1))(hp:h[pk]? = Wx (Zas mo u)):run P (n+1) (mnm (O "Pen") (O "take_place")) [.ref pk] h=.ok .non (h.set pk (Zas mo (u+1))):=by
 obtain⟨x,ht⟩:=H.tk;rw[Zd5 H.n_Pen_take_place ht (by rfl)];have ne:IV.Zb8 WA (D.int u) mo h=.ok (D.bl WA) h:=by
  rcases lm with rfl|⟨m,rfl,q⟩
  . exact Zq8
  . have:¬ u=m:=by lia
    simp[this]
 unfold Zas at hp ⊢;simp[ZkY,Zk9,Zu,ZgS,ZX,hp,Wp,ne,ZhI,Zmt]
def Wid(P:Pg):Prop:=∃m,P.ms.lookup (mnm (O "Pen") (O "take_place"))=Wx (ZkY (.rai (O "Wide") (.cst m)))
def ZiR(H:Trb P)(w:Wid P)(n:Nat)(hp:h[pk]? = Wx (Zas (.int u) u)):run P (n+1) (mnm (O "Pen") (O "take_place")) [.ref pk] h=.exc (O "Wide") h:=by
 obtain⟨m,ht⟩:=w;rw[Zd5 H.n_Pen_take_place ht (by rfl)];have t1:tst (P.tbl n) (.ex (.cmp .Eq (.att [(O "Pen")] (.var 0) (O "used")) (.att [(O "Pen")] (.var 0) (O "most")))) [Wx (.ref pk)] h=.ok Wz h:=by unfold Zas at hp;simp[ZgS,ZX,hp,Wp]
 exact congrArg Zh (Zc4 (r:=tlS (Zk9 (.rai (O "Wide") (.cst m)))) ((Zs t1).trans (Zc4 (ZuS rfl))))
noncomputable def pr(p:T×En):D:=.tup [p.1.d,.tup (p.2.map edd)]
structure Fi(mo:D)(h0 h:Hd)(pk fk wk:Nat)(u:Int)(F:List D)(W:List D):Prop where
 p:h[pk]? = Wx (Zas mo u)
 f:h[fk]? = Wx (.lst F)
 w:h[wk]? = Wx (.lst W)
 ne:fk≠wk
 o2:h0.length<=fk
 o3:h0.length<=wk
 ol:h0.length<=h.length
 old:∀i,i<h0.length->i≠pk->h[i]? = h0[i]?
section
variable {mo:D}{h0 h g:Hd}{pk fk wk:Nat}{u:Int}{F W:List D}
def Fi.app(q:Fi mo h0 h pk fk wk u F W):Fi mo h0 (h++g) pk fk wk u F W:=⟨keep q.p,keep q.f,keep q.w,q.ne,q.o2,q.o3,by have:=q.ol;simp;lia,λi hi hn=>by rw[Oe (by have:=q.ol;lia)];exact q.old i hi hn⟩
def Zgd{i j:Nat}{l:List D}(a:h[i]? = Wx (Zas mo u))(b:h[j]? = Wx (.lst l)):i≠j:=λz=>by rw[z,b]at a;cases a
def Fi.setP(q:Fi mo h0 h pk fk wk u F W)(v:Int):Fi mo h0 (h.set pk (Zas mo v)) pk fk wk v F W:=⟨by rw[Ol (ZdU q.p)],by rw[Oc (Zgd q.p q.f)];exact q.f,by rw[Oc (Zgd q.p q.w)];exact q.w,q.ne,q.o2,q.o3,by simpa using q.ol,λi hi hn=>by rw[Oc (YL hn)];exact q.old i hi hn⟩
def Fi.setF(q:Fi mo h0 h pk fk wk u F W)(G:List D):Fi mo h0 (h.set fk (.lst G)) pk fk wk u G W:=⟨by rw[Oc (Zgd q.p q.f).symm];exact q.p,by rw[Ol (ZdU q.f)],by rw[Oc q.ne];exact q.w,q.ne,q.o2,q.o3,by simpa using q.ol,λi hi hn=>by rw[Oc (by have:=q.o2;lia)];exact q.old i hi hn⟩
def Fi.setW(q:Fi mo h0 h pk fk wk u F W)(G:List D):Fi mo h0 (h.set wk (.lst G)) pk fk wk u F G:=⟨by rw[Oc (Zgd q.p q.w).symm];exact q.p,by rw[Oc q.ne.symm];exact q.f,by rw[Ol (ZdU q.w)],q.ne,q.o2,q.o3,by simpa using q.ol,λi hi hn=>by rw[Oc (by have:=q.o3;lia)];exact q.old i hi hn⟩
theorem Fi.pop{d:D}(q:Fi mo h0 h pk fk wk u F (W++[d])):∃h1,ZaI .pop (.ref wk) [] h=.ok d h1/\Fi mo h0 h1 pk fk wk u F W:=⟨_,Zgf q.w,q.setW W⟩
def Fi.push(q:Fi mo h0 h pk fk wk u F W)(d:D)(hF:F.length<=1000000):∃h1,ZaI .app (.ref fk) [d] h=.ok .non h1/\Fi mo h0 h1 pk fk wk u (F++[d]) W:=⟨_,Zbx q.f (by rw[YC];lia),q.setF _⟩
def Fi.wait(q:Fi mo h0 h pk fk wk u F W)(d:D)(hW:W.length<=1000000):∃h1,ZaI .app (.ref wk) [d] h=.ok .non h1/\Fi mo h0 h1 pk fk wk u F (W++[d]):=⟨_,Zbx q.w (by rw[YC];lia),q.setW _⟩
theorem Fi.ext(q:Fi mo h0 h pk fk wk u F W)(xs:List D)(hW:W.length+xs.length<=1001000):∃h1,ZaI .ext (.ref wk) [.ref h.length] (h++[.lst xs])=.ok .non h1/\Fi mo h0 h1 pk fk wk u F (W++xs):=by have q1:=q.app (g:=[.lst xs]);refine⟨_,?_,q1.setW (W++xs)⟩;simp only[ZaI,q1.w,Zge,Zto,Zc2];rw[if_pos (by rw[YC];lia)]
def Fi.take(H:Trb P)(n:Nat)(lm:Lim mo (u+1))(q:Fi mo h0 h pk fk wk u F W):∃h1,run P (n+1) (mnm (O "Pen") (O "take_place")) [.ref pk] h=.ok .non h1/\Fi mo h0 h1 pk fk wk (u+1) F W:=⟨_,ZnI H n lm q.p,q.setP _⟩
end
noncomputable def ve(pk fk wk:Nat)(o1 o2 o5 o6 o7:Option D):Ev:=[Wx (.ref pk),o1,o2,Wx (.ref fk),Wx (.ref wk),o5,o6,o7]
noncomputable def fl1:Sx:=(.set (.nm 5) (.meth .pop (.var 4) .nil))
noncomputable def fl2:Sx:=(.set (.nm 6) (.call (O "meant_by") (.cons (.ix (.var 5) (.cst (.int 0))) (.cons (.ix (.var 5) (.cst (.int 1))) .nil))))
noncomputable def fa1:Sx:=(.drp (.mcl (O "Pen") (O "take_place") (.var 0) .nil))
noncomputable def fa2:Sx:=(.drp (.meth .app (.var 3) (.cons (.call (O "front_of") (.cons (.ix (.var 5) (.cst (.int 0))) .nil)) .nil)))
noncomputable def fa3:Sx:=(.set (.nm 7) (.call (O "within") (.cons (.ix (.var 5) (.cst (.int 0))) (.cons (.ix (.var 5) (.cst (.int 1))) .nil))))
noncomputable def fa4:Sx:=(.drp (.meth .ext (.var 4) (.cons (.comp [(O "part"),(O "inner")] [Wy,Wx 7] (.rev (.call (O "parts_of") (.cons (.ix (.var 5) (.cst (.int 0))) .nil))) (.nm 0) Wy (.tupl (.cons (.var 0) (.cons (.var 1) .nil)))) .nil)))
noncomputable def fb1:Sx:=(.drp (.meth .app (.var 4) (.cons (.call (O "opened") (.cons (.var 6) .nil)) .nil)))
noncomputable def fl3:Sx:=(.iff (.ex (.cmp .Is (.var 6) (.cst .non))) (.cons fa1 (.cons fa2 (.cons fa3 (.cons fa4 .nil)))) (.cons fb1 .nil))
noncomputable def ZdE:Sxs:=.cons fl1 (.cons fl2 (.cons fl3 .nil))
def Zrd:ZcR=.cons (.set (.nm 3) (.lstl .nil)) (.cons (.set (.nm 4) (.lstl (.cons (.tupl (.cons (.var 1) (.cons (.var 2) .nil))) .nil))) (.cons (.whl (.ex (.var 4)) ZdE) (.cons (.ret (.call (O "built") (.cons (.var 3) .nil))) .nil))):=rfl
theorem Zpq:∀(ds acc:List D),acc.length+ds.length<=1000->Zz Wy (.nm 0) (tsto U Wy) (ev U (.tupl (.cons (.var 0) (.cons (.var 1) .nil)))) ds [Wy,Wx a] acc h=.ok (acc++ds.map λd=>D.tup [d,a]) h
 |[],acc,_=>by simp[Zz,Wk.stays]
 |x::xs,acc,hz=>by
  have ih:=Zpq (U:=U) (h:=h) (a:=a) xs (acc++[.tup [x,a]]) (by simp at hz ⊢;lia);have hl:acc.length<16777216:=by simp at hz;lia
  rw[ZQ];simp[Wk.stays,hl,YC];simpa using ih
def ZpP(H:Trb P)(n:Nat)(t:T)(ar:En)(hm:Zcy ar t=Wy)(lm:Lim mo (u+1))(q:Fi mo h0 h pk fk wk u F (W++[pr (t,ar)]))(hF:F.length<=1000000)(hW:W.length<=1000000)(ha:ar.length<=90000)(o1 o2 o5 o6 o7:Option D):∃h' o5' o6' o7',
 xs2 (P.tbl (n+2)) ZdE (ve pk fk wk o1 o2 o5 o6 o7) h=.ok (.nx,ve pk fk wk o1 o2 o5' o6' o7') h'/\Fi mo h0 h' pk fk wk (u+1) (F++[tf t]) (W++(t.parts.reverse.map λs=>pr (s,Zcc t ar))):=by
 obtain⟨h1,pp,q1⟩:=q.pop;have em:=ZhM H n (h:=h1) t ar;rw[hm]at em;obtain⟨h2,e2,q2⟩:=q1.take H (n+1) lm;obtain⟨h3,e3,q3⟩:=q2.push (tf t) hF;obtain⟨h4,e4,q4⟩:∃h4,run P (n+2) (O "within") [t.d,.tup (ar.map edd)] h3=.ok (.tup ((Zcc t ar).map edd)) h4/\Fi mo h0 h4 pk fk wk (u+1) (F++[tf t]) W:=⟨_,ZnH H n t ar (by lia),q3.app⟩
 have hp:t.parts.length<=3:=by cases t<;>simp[T.parts]
 obtain⟨h5,e5,q5⟩:=q4.ext ((t.parts.map T.d).reverse.map λd=>D.tup [d,.tup ((Zcc t ar).map edd)]) (by simp;lia);have ec:=Zpq (U:=P.tbl (n+2)) (h:=h4) (a:=.tup ((Zcc t ar).map edd)) (t.parts.map T.d).reverse [] (by simp;lia);refine⟨h5,Wx (pr (t,ar)),Wx .non,Wx (.tup ((Zcc t ar).map edd)),?_,by simpa[pr,List.map_reverse,Wa]using q5⟩;refine(Za (Zj (Zfm rfl q.w rfl pp))).trans ((Za (Zj (Zl em rfl))).trans ((Za ((Zs (ZmY rfl)).trans ?_)).trans rfl));refine(Za (Zdm (ZbV rfl q1.p rfl rfl e2))).trans ((Za (Zdm (Zfm rfl q2.f (Zb (Zl (Zp6 H (n+1) t h2) rfl) rfl) e3))).trans ?_);exact(Za (Zj (Zl e4 rfl))).trans ((Za (Zdm (Zfm rfl q4.w (Zb (Zpb (ZtS (Zl (Gn.Zfs H.toTre (n+1) t h4) rfl)) ec) rfl) e5))).trans rfl)
def Zsk(H:Trb P)(w:Wid P)(n:Nat)(t:T)(ar:En)(hm:Zcy ar t=Wy)(q:Fi (.int u) h0 h pk fk wk u F (W++[pr (t,ar)]))(o1 o2 o5 o6 o7:Option D):∃h',
 xs2 (P.tbl (n+2)) ZdE (ve pk fk wk o1 o2 o5 o6 o7) h=.exc (O "Wide") h'/\Fi (.int u) h0 h' pk fk wk u F W:=by
 obtain⟨h1,pp,q1⟩:=q.pop;have em:=ZhM H n (h:=h1) t ar;rw[hm]at em;refine⟨h1,?_,q1⟩;exact(Za (Zj (Zfm rfl q.w rfl pp))).trans ((Za (Zj (Zl em rfl))).trans (Zc4 ((Zs (ZmY rfl)).trans (Zc4 (Zjz (ZbV rfl q1.p rfl rfl (ZiR H w (n+1) q1.p)))))))
def ZpO(H:Trb P)(n:Nat)(t:T)(ar:En)(hm:Zcy ar t=Wx v)(q:Fi mo h0 h pk fk wk u F (W++[pr (t,ar)]))(hW:W.length<=1000000)(o1 o2 o5 o6 o7:Option D):∃h' o5' o6' o7',
 xs2 (P.tbl (n+2)) ZdE (ve pk fk wk o1 o2 o5 o6 o7) h=.ok (.nx,ve pk fk wk o1 o2 o5' o6' o7') h'/\Fi mo h0 h' pk fk wk u F (W++[pr ((opn v).1,up (opn v).2)]):=by
 obtain⟨h1,pp,q1⟩:=q.pop;have em:=ZhM H n (h:=h1) t ar;rw[hm]at em;obtain⟨h2,e2,q2⟩:=q1.wait (pr ((opn v).1,up (opn v).2)) hW;have eo:=ZiS H (n+1) (h:=h1) v;rw[<- Zls]at eo;refine⟨h2,Wx (pr (t,ar)),Wx v.d,o7,?_,q2⟩;refine(Za (Zj (Zfm rfl q.w rfl pp))).trans ((Za (Zj (Zl em rfl))).trans ((Za ((Zt (ZoS rfl (λz=>by cases v<;>cases z))).trans ?_)).trans rfl));exact(Za (Zdm (Zfm rfl q1.w (Zb (Zl eo rfl) rfl) e2))).trans rfl
end Tm
end
section
namespace Rw
open PySem L2 IV
mutual
def ThG(N:Nat):Th->Prop
 |.num _=>True
 |.clo E ar=>(∀x,E≠.name x)/\ar.len+2 * E.size<=2 * N/\ArG N ar
def ArG(N:Nat):Ar->Prop
 |.nil=>True
 |.cons _ v r=>ThG N v/\ArG N r
end
end Rw
namespace Tm
open PySem L2 IV
variable {P:Pg}
theorem ZcH:∀(xs:List Str) (ar:Ar) {x:Str}{V:T},get (xs.map (λy=>(y,Wy))++ar) x=Wx V->get ar x=Wx V
 |[],ar,x,V,e=>e
 |y::xs,ar,x,V,e=>by
  rw[Op,List.cons_append,get]at e;split at e
  . cases e
  . exact ZcH xs ar e
def ZhQ{t s:T}(hs:s∈t.parts):s.size+1<=t.size:=by
 rw[Zd t];have:∀l:List T,s∈l->s.size<=(l.map T.size).sum:=by
  intro l;induction l with
  |nil=>intro z;cases z
  |cons a r ih=>
   intro z;rw[Op,OI];rcases O3.mp z with rfl|z
   . lia
   . have:=ih z;lia
 have:=this _ hs
 lia
def Wok(N:Nat)(p:T×En):Prop:=p.2.length+2 * p.1.size<=2 * N/\∀q∈p.2,∀v,q.2=Wx v->Rw.ThG N v
def Wok.part{N:Nat}(w:Wok N (t,ar))(hs:s∈t.parts):Wok N (s,Zcc t ar):=by
 have h1:=ZhQ hs;have hb:(bnd t).length<=2:=by cases t<;>simp[bnd]
 have h2:=w.1;have:(Zcc t ar).length=(bnd t).length+ar.length:=by simp[Zcc]
 refine⟨?_,λq hq v e=>?_⟩
 . simp only at h2 ⊢
   lia
 . rcases OD.mp hq with hq|hq
   . obtain⟨y,_,rfl⟩:=List.mem_map.mp hq;cases e
   . exact w.2 q hq v e
theorem Zse:∀{ar:Rw.Ar},Rw.ArG N ar->∀q∈up ar,∀v,q.2=Wx v->Rw.ThG N v
 |.nil,_,q,hq,_,_=>by cases hq
 |.cons x w r,h,q,hq,v,e=>by
  rcases O3.mp hq with rfl|hq
  . cases e;exact h.1
  . exact Zse h.2 q hq v e
def Wok.thing(hN:1<=N)(h:Rw.ThG N v):Wok N ((opn v).1,up (opn v).2):=by
 cases v with
 |num n=>refine⟨?_,λq hq=>by cases hq⟩;show 0+2 * 1<=2 * N;lia
 |clo E ar=>refine⟨?_,Zse h.2.2⟩;have:=h.2.1;show(up ar).length+2 * E.size<=2 * N;rw[Zj2];exact this
theorem Zjy:∀{e:En},Zd9 e x=Wx v->∃q∈e,q.2=Wx v
 |[],h=>by cases h
 |(y,o)::r,h=>by
  rw[Zd9]at h;split at h
  . exact⟨_,Oi,h⟩
  . obtain⟨q,hq,e⟩:=Zjy h;exact⟨q,Oh _ hq,e⟩
def Wok.mean(w:Wok N (t,e))(h:Zcy e t=Wx v):Rw.ThG N v:=by
 cases t with
 |name x=>obtain⟨q,hq,e⟩:=Zjy (show Zd9 e x=Wx v from h);exact w.2 q hq v e
 |_=>cases h
def Zod(h:Rw.ThG N v):Zcy (up (opn v).2) (opn v).1=Wy:=by
 cases v with
 |num n=>rfl
 |clo E ar=>cases E with
  |name x=>exact absurd rfl (h.1 x)
  |_=>rfl
noncomputable def tot(W:List (T×En)):Nat:=(W.map λp=>(tel p).size).sum
def ZhE(A B_:List (T×En)):tot (A++B_)=tot A+tot B_:=by simp[tot]
def ZhD(p:T×En):tot [p]=(tel p).size:=by simp[tot]
def Zmj(h:Zcy e t=Wy):(tel (t,e)).size=1+tot (t.parts.reverse.map λs=>(s,Zcc t e)):=by rw[Zd,(Zg0 h).1];simp[tot,List.map_reverse,Wa]
noncomputable def com(W:List (T×En)):List D:=(W.reverse.flatMap λp=>(tel p).places).map tf
def Zig(W:List (T×En))(p:T×En):com (W++[p])=(tel p).places.map tf++com W:=by simp[com]
def Zm5(W:List (T×En))(h:Zcy e t=Wy):com (W++[(t,e)])=tf t::com (W++t.parts.reverse.map λs=>(s,Zcc t e)):=by obtain⟨h1,h2⟩:=Zg0 h;rw[Zig,T.places_parts,Op,show tf (tel (t,e))=tf t by unfold tf;rw[h2],h1];simp[com,List.flatMap_append,List.map_reverse,List.flatMap_map]
def Bud(P:Pg)(mo:D)(u:Int)(K n:Nat):Prop:=(mo=.non/\n<=K)\/(mo=.int (u+(K:Int))/\(n<=K\/Wid P))
noncomputable def nb(e:En)(t:T):Nat:=match Zcy e t with
 |some _=>1
 |none=>0
noncomputable def nbs(W:List (T×En)):Nat:=match W.getLast? with
 |some p=>nb p.2 p.1
 |none=>0
def Zvs(e:En)(t:T):nb e t<=1:=by unfold nb;split<;>lia
def Zoo(W:List (T×En)):nbs W<=1:=by unfold nbs;split;exact Zvs _ _;lia
def ZlM(W:List (T×En))(p:T×En):nbs (W++[p])=nb p.2 p.1:=by simp[nbs]
def Old(h0 h:Hd)(pk:Nat):Prop:=h0.length<=h.length/\∀i,i<h0.length->i≠pk->h[i]? = h0[i]?
inductive Fld(P:Pg)(n:Nat)(mo:D)(h0:Hd)(pk fk wk:Nat)(o1 o2:Option D)(u:Int)(F:List D)(W:List (T×En))(K:Nat):R (Fl×Ev)->Prop
 |ok {h':Hd}{o5 o6 o7:Option D} (le:tot W<=K) (q:Fi mo h0 h' pk fk wk (u+(tot W:Int)) (F++com W) []):Fld P n mo h0 pk fk wk o1 o2 u F W K (.ok (.nx,ve pk fk wk o1 o2 o5 o6 o7) h')
 |ex {h':Hd} (lt:K<tot W) (q:Old h0 h' pk):Fld P n mo h0 pk fk wk o1 o2 u F W K (.exc (O "Wide") h')
theorem Zkz(H:Trb P)(n:Nat)(hN:1<=N)(hN2:N<=45000):∀ (fuel:Nat) (W:List (T×En)) (F:List D) (u:Int) (h:Hd) (o5 o6 o7:Option D) (K:Nat),Bud P mo u K (tot W)->2 * K+1+nbs W<=fuel->F.length+K<=400000->W.length+3 * K<=1000000->(∀ p∈W,Wok N p)->Fi mo h0 h pk fk wk u F (W.map pr) ->
   Fld P n mo h0 pk fk wk o1 o2 u F W K (ZO (tst (P.tbl (n+2)) (.ex (.var 4))) (xs2 (P.tbl (n+2)) ZdE) fuel (ve pk fk wk o1 o2 o5 o6 o7) h)
 | 0,W,F,u,h,o5,o6,o7,K,_,hf,_,_,_,_=>by lia
 | fuel+1,W,F,u,h,o5,o6,o7,K,bu,hf,hz,hw,ok,q=>by
   rcases List.eq_nil_or_concat W with rfl|⟨V,p,rfl⟩
   . rw [ZhB (ZrC rfl q.w)];exact .ok (Yy _) (by simpa [com,tot] using q)
   . obtain ⟨t,ar⟩:=p;rw [List.concat_eq_append] at bu hf hw ok q ⊢;have q':Fi mo h0 h pk fk wk u F (V.map pr++[pr (t,ar)]):=by simpa using q
     have hW:=ok (t,ar) (by simp);have okV:∀ p∈V,Wok N p:=fun p hp=>ok p (by simp [hp]);rw [ZlM] at hf;simp only at hf;rw [OA,List.length_singleton] at hw;have hV:(V.map pr).length<=1000000:=by rw [Yu];lia
     have ha:ar.length<=90000:=by have:=hW.1;simp only at this;lia
     have tt:=Zm (ZrC (U:=P.tbl (n+2)) (S:=ve pk fk wk o1 o2 o5 o6 o7) (e:=.var 4) rfl q'.w) (c:=true) (by simp);have e1:tot (V++[(t,ar)])=tot V+(tel (t,ar)).size:=by rw [ZhE,ZhD]
     cases hm:Zcy ar t with
     | none =>
       have t1:=Zmj hm;rw [show nb ar t=0 by unfold nb;rw [hm]] at hf;cases K with
       | zero =>
         rcases bu with ⟨_,z⟩|⟨rfl,z⟩
         . lia
         . rcases z with z|z
           . lia
           . have q2:Fi (.int u) h0 h pk fk wk u F (V.map pr++[pr (t,ar)]):=by simpa using q'
             obtain ⟨h1,x,q1⟩:=Zsk H z n t ar hm q2 o1 o2 o5 o6 o7;rw [ZpC tt x];exact .ex (by lia) ⟨q1.ol,q1.old⟩
       | succ K =>
         have lm:Lim mo (u+1):=by
           rcases bu with ⟨e,_⟩|⟨e,_⟩
           . exact .inl e
           . exact .inr ⟨_,e,by lia⟩
         obtain ⟨h1,o51,o61,o71,x,q1⟩:=ZpP H n t ar hm lm q' (by lia) hV ha o1 o2 o5 o6 o7;rw [Zfq tt x];have e2:tot (V++t.parts.reverse.map fun s=>(s,Zcc t ar))=tot V+tot (t.parts.reverse.map fun s=>(s,Zcc t ar)):=ZhE _ _;have hp:t.parts.length<=3:=by cases t<;>simp [T.parts]
         have nl:=Zoo (V++t.parts.reverse.map fun s=>(s,Zcc t ar));have ih:=Zkz H n hN hN2 (o1:=o1) (o2:=o2) fuel (V++t.parts.reverse.map fun s=>(s,Zcc t ar)) (F++[tf t]) (u+1) h1 o51 o61 o71 K (by
           rcases bu with ⟨e,z⟩|⟨e,z⟩
           . exact .inl ⟨e,by lia⟩
           . exact .inr ⟨by rw [e];congr 1;lia,z.imp (fun z=>by lia) id⟩) (by lia) (by rw [OA,List.length_singleton];lia) (by rw [OA,Yu,List.length_reverse];lia) (fun p hp=>by
           rcases OD.mp hp with hp|hp
           . exact okV p hp
           . obtain ⟨s,hs,rfl⟩:=List.mem_map.mp hp;exact hW.part (by simpa using hs)) (by simpa [List.map_map,Wa] using q1)
         generalize ZO _ _ _ _ _=r at ih ⊢;cases ih with
         | ok le q =>
           refine .ok (by lia) ?_;rw [Zm5 V hm,show u+((tot (V++[(t,ar)]):Nat):Int)=u+1+((tot (V++t.parts.reverse.map fun s=>(s,Zcc t ar)):Nat):Int) by rw [e1,e2,t1];lia];simpa using q
         | ex lt q=>exact .ex (by lia) q
     | some v =>
       rw [show nb ar t=1 by unfold nb;rw [hm]] at hf;have g:=hW.mean hm;have s1:(tel (t,ar)).size=(tel ((opn v).1,up (opn v).2)).size:=by rw [Zgx hm,ZhF]
       have e2:tot (V++[((opn v).1,up (opn v).2)])=tot (V++[(t,ar)]):=by rw [e1,ZhE,ZhD,s1]
       obtain ⟨h1,o51,o61,o71,x,q1⟩:=ZpO H n t ar hm q' hV o1 o2 o5 o6 o7;rw [Zfq tt x];have ih:=Zkz H n hN hN2 (o1:=o1) (o2:=o2) fuel (V++[((opn v).1,up (opn v).2)]) F u h1 o51 o61 o71 K (by rw [e2];exact bu) (by rw [ZlM];unfold nb;rw [Zod g];simp only;lia) hz (by rw [OA,List.length_singleton];lia) (fun p hp=>by
         rcases OD.mp hp with hp|hp
         . exact okV p hp
         . rw [Ox.mp hp];exact Wok.thing hN g) (by simpa using q1)
       have e3:com (V++[((opn v).1,up (opn v).2)])=com (V++[(t,ar)]):=by rw [Zig,Zig,Zgx hm,ZhF]
       generalize ZO _ _ _ _ _=r at ih ⊢;cases ih with
       | ok le q =>
         rw [e2,e3] at q;exact .ok (by lia) q
       | ex lt q=>exact .ex (by lia) q
end Tm
end
section
namespace Tm
open PySem L2 IV
variable {P:Pg}
theorem grown{h0 h:Hd}(hl:h0.length<=h.length)(old:∀ i,i<h0.length->h[i]? = h0[i]?):∃ g,h=h0++g:=⟨h.drop h0.length,by
 apply List.ext_getElem?;intro i;rcases Nat.lt_or_ge i h0.length with q|q
 . rw [old i q,Oe q]
 . rw [Om q,List.getElem?_drop];congr 1
   lia⟩
def Aft(h0 h:Hd)(pk:Nat)(mo:D)(u:Int):Prop:=h[pk]? = Wx (Zas mo u)/\h0.length<=h.length/\∀i,i<h0.length->i≠pk->h[i]? = h0[i]?
inductive Out(h0:Hd)(pk:Nat)(mo:D)(t:T)(u:Int)(K:Nat):R D->Prop
 |ok {h':Hd} (le:t.size<=K) (a:Aft h0 h' pk mo (u+(t.size:Int))):Out h0 pk mo t u K (.ok t.d h')
 |ex {h':Hd} (lt:K<t.size) (a:Old h0 h' pk):Out h0 pk mo t u K (.exc (O "Wide") h')
def ZnL(H:Trb P)(n:Nat)(hN:1<=N)(hN2:N<=45000)(t:T)(e:En)(a:Aft h0 h pk mo u)(bu:Bud P mo u K (tel (t,e)).size)(hK:K<=300000)(hw:Wok N (t,e)):
 Out h0 pk mo (tel (t,e)) u K (run P (n+3) (mnm (O "Pen") (O "filled")) [.ref pk,t.d,.tup (e.map edd)] h):=by
 obtain⟨hp,hl,old⟩:=a;rw[Zd5 H.n_Pen_filled H.Pen_filled (by rfl)];have q0:Fi mo h0 (h++[.lst [],.lst ([(t,e)].map pr)]) pk h.length (h.length+1) u [] ([(t,e)].map pr):=⟨keep hp,by simp,by simp,by lia,hl,by lia,by simp;lia,λi hi hn=>by rw[Oe (by lia)];exact old i hi hn⟩
 have e1:=ZhD (t,e);have big:=H.big;have nl:=Zoo [(t,e)];have x:=Zkz H n hN hN2 (o1:=Wx t.d) (o2:=Wx (.tup (e.map edd))) P.L [(t,e)] [] u _ Wy Wy Wy K (by rw[e1];exact bu) (by lia) (by simp only[List.length_nil];lia) (by simp only[Os,List.length_nil];lia) (λp hp=>by rw[Ox.mp hp];exact hw) q0;have x1:xs1 (P.tbl (n+2)) (.set (.nm 3) (.lstl .nil)) [Wx (.ref pk),Wx t.d,Wx (.tup (e.map edd)),Wy,Wy,Wy,Wy,Wy] h=.ok (.nx,[Wx (.ref pk),Wx t.d,Wx (.tup (e.map edd)),Wx (.ref h.length),Wy,Wy,Wy,Wy]) (h++[.lst []]):=Zj (Zjv rfl (by decide));have x2:xs1 (P.tbl (n+2)) (.set (.nm 4) (.lstl (.cons (.tupl (.cons (.var 1) (.cons (.var 2) .nil))) .nil))) [Wx (.ref pk),Wx t.d,Wx (.tup (e.map edd)),Wx (.ref h.length),Wy,Wy,Wy,Wy] (h++[.lst []])=.ok (.nx,[Wx (.ref pk),Wx t.d,Wx (.tup (e.map edd)),Wx (.ref h.length),Wx (.ref (h.length+1)),Wy,Wy,Wy]) (h++[.lst [],.lst ([(t,e)].map pr)]):=by have:=Zj (U:=P.tbl (n+2)) (i:=4) (Zjv (S:=[Wx (.ref pk),Wx t.d,Wx (.tup (e.map edd)),Wx (.ref h.length),Wy,Wy,Wy,Wy]) (h:=h++[.lst []]) (es:=.cons (.tupl (.cons (.var 1) (.cons (.var 2) .nil))) .nil) (Zb (ZV (Zb rfl (Zb rfl rfl)) (by simp)) rfl) (by simp));simpa[pr]using this
 have key:∀y,Fld P n mo h0 pk h.length (h.length+1) (Wx t.d) (Wx (.tup (e.map edd))) u [] [(t,e)] K y->xs1 (P.tbl (n+2)) (.whl (.ex (.var 4)) ZdE) [Wx (.ref pk),Wx t.d,Wx (.tup (e.map edd)),Wx (.ref h.length),Wx (.ref (h.length+1)),Wy,Wy,Wy] (h++[.lst [],.lst ([(t,e)].map pr)])=y->Out h0 pk mo (tel (t,e)) u K (Zh (xs2 (P.tbl (n+2)) ZcR [Wx (.ref pk),Wx t.d,Wx (.tup (e.map edd)),Wy,Wy,Wy,Wy,Wy] h)):=by
  intro y x z;rw[Zrd,Za x1,Za x2];cases x with
  |ex lt q=>rw[Zc4 z];exact .ex (by rw[e1]at lt;exact lt) q
  |@ok h1 o5 o6 o7 le q1=>
   have qf:=q1.f;have ec:com [(t,e)]=(tel (t,e)).places.map tf:=by simp[com]
   rw[ec,OB]at qf;rw[e1]at le q1;obtain⟨g2,e3⟩:=Zqa H n (tel (t,e)) qf (by lia);have q2:=q1.app (g:=g2);have x4:xs1 (P.tbl (n+2)) (.ret (.call (O "built") (.cons (.var 3) .nil))) (ve pk h.length (h.length+1) (Wx t.d) (Wx (.tup (e.map edd))) o5 o6 o7) h1=.ok (.rt (tel (t,e)).d,ve pk h.length (h.length+1) (Wx t.d) (Wx (.tup (e.map edd))) o5 o6 o7) (h1++g2):=Zx (Zl e3 rfl);rw[Za z,Zf x4];exact .ok le ⟨q2.p,q2.ol,q2.old⟩
 exact key _ x rfl
noncomputable abbrev Fil:=List (Str×T)
noncomputable def Fil.ar(f:Fil):Ar:=f.map λp=>(p.1,Wx p.2)
noncomputable def fen(f:Fil):En:=f.map λp=>(p.1,Wx (Rw.Th.clo p.2 .nil))
def Zre(f:Fil):f.ar.map ard=(fen f).map edd:=by simp[Fil.ar,fen,ard,edd,thd,Rw.thD,Rw.Th.d,Rw.Ar.ds,Wa]
def ZtZ(f:Fil):er (fen f)=f.ar:=by simp[er,fen,Fil.ar,Rw.rd,Rw.ra,Zbv _ (show NN []from λ_=>rfl),Wa]
noncomputable def Fil.kv(f:Fil):List (Key×D):=f.map λp=>(.inr p.1,p.2.d)
theorem Zlr:∀{f:Fil}{x:Str}{V:T},(f.map (·.1)).Nodup->(x,V)∈f->Zab f.kv (.inr x)=Wx V.d
 |(y,W)::r,x,V,nd,hm=>by
  rw[Op,List.nodup_cons]at nd;unfold Zab Fil.kv;rw[Op,Wv];rcases O3.mp hm with e|hm
  . cases e;simp
  . have ne:y≠x:=λz=>nd.1 (by rw[z];exact List.mem_map.mpr ⟨(x,V),hm,rfl⟩);have:¬ (YE y:Key)=YE x:=λz=>ne (Sum.inr.inj z);simp only[this,decide_false];exact Zlr nd.2 hm
noncomputable def fe1:Ex:=(.tupl (.cons (.var 0) (.cons (.tupl (.cons (.cst (.str (O "clo"))) (.cons (.ix (.var 1) (.var 0)) (.cons (.tupl .nil) .nil)))) .nil)))
theorem Zr1{U:Tb}{f:Fil}(nd:(f.map (·.1)).Nodup)(hd:h[dk]? = Wx (.fdic f.kv)):∀(r:Fil) (acc:List D),(∀p∈r,p∈f)->acc.length+r.length<=1000 ->
 Zz Wy (.nm 0) (tsto U Wy) (ev U fe1) (r.map λp=>D.str p.1) [Wy,Wx (.ref dk)] acc h=.ok (acc++r.ar.map ard) h
 |[],acc,_,_=>by simp[Zz,Wk.stays,Fil.ar]
 |(x,V)::r,acc,hm,hz=>by
  have ih:=Zr1 (U:=U) nd hd r (acc++[ard (x,Wx V)]) (λp hp=>hm p (Oh _ hp)) (by simp at hz ⊢;lia);have hl:acc.length<16777216:=by simp at hz;lia
  have hv:=Zlr nd (hm (x,V) Oi);have ix:Z5 U.GD (.ref dk) (.str x) h=.ok V.d h:=by simp[Z5,dicOf,hd,hv]
  have ee:ev U fe1 [Wx (.str x),Wx (.ref dk)] h=.ok (ard (x,Wx V)) h:=by simp[fe1,ix,YC,ard,thd]
  rw[Op,ZQ];simp[Wk.stays,hl,YC,ee];simpa[Fil.ar]using ih
def ZrM(H:Trm P)(n:Nat)(t:T)(f:Fil){h0 h:Hd}(nd:(f.map (·.1)).Nodup)(hf:f.length<=100)(hd:h[dk]? = Wx (.dic f.kv))(ho:h0.length<=dk)(hl:h0.length<=h.length)(old:∀i,i<h0.length->h[i]? = h0[i]?){N:Nat}(hN:1<=N)(hN2:N<=45000)(hw:Wok N (t,fen f))(hz:(sub f.ar t).size<=300000):
 ∃g,run P (n+4) (O "put_in") [t.d,.ref dk] h=.ok (sub f.ar t).d (h0++g):=by
 rw[Zc H.put_in (by rfl)];have hdl:=ZdU hd;generalize hh1:h.set dk (.fdic f.kv)=h1;have d1:h1[dk]? = Wx (.fdic f.kv):=by rw[<- hh1,Ol hdl]
 have l1:h1.length=h.length:=by rw[<- hh1];simp
 have old1:∀i,i<h0.length->h1[i]? = h0[i]? := λi hi=>by rw[<- hh1,Oc (by lia)];exact old i hi
 have ec:=Zr1 (U:=P.tbl (n+3)) nd d1 f [] (λp hp=>hp) (by simp;lia);have ks:(f.kv.map λp=>ZoF p.1)=f.map λp=>D.str p.1:=by simp[Fil.kv,ZoF,Wa]
 have x1:xs1 (P.tbl (n+3)) ZcM [Wx t.d,Wx (.ref dk),Wy] h=.ok (.nx,[Wx t.d,Wx (.ref dk),Wx (.tup (f.ar.map ard))]) (h1++[.lst (f.ar.map ard)]):=by
  have ei:evi (P.tbl (n+3)) (.dk (.var 1)) [Wx t.d,Wx (.ref dk),Wy] h=.ok ⟨Wy,f.map λp=>D.str p.1⟩ h1:=by simp[Zo0,hd,hh1,ks]
  have ev1:ev (P.tbl (n+3)) (.comp [(O "name"),(O "filling")] [Wy,Wx 1] (.dk (.var 1)) (.nm 0) Wy fe1) [Wx t.d,Wx (.ref dk),Wy] h=.ok (.ref h1.length) (h1++[.lst (f.ar.map ard)]):=by rw[Zez,ei,Zp];simp only[Zbp,Op,Oy,Option.bind_none,Yz];rw[show([Wx t.d,Wx (D.ref dk),Wy][1]?).join=Wx (.ref dk)from rfl,ec];rfl
  unfold fe1 at ev1;simp[-Zez,ZcM,ev1,ZbJ,Zna,lstOf]
 generalize hh2:h1++[DO.lst (f.ar.map ard)]=h2 at x1;have l2:h2.length=h.length+1:=by rw[<- hh2];simp[l1]
 have old2:∀i,i<h0.length->(h2++[Zas .non 0])[i]? = h0[i]? := λi hi=>by rw[Oe (by lia),<- hh2,Oe (by lia)];exact old1 i hi
 have ep:=ZrN H.toTrb (n+2) .non h2;have et:tel (t,fen f)=sub f.ar t:=by show sub (er (fen f)) t=_;rw[ZtZ]
 have o:=ZnL H.toTrb n hN hN2 t (fen f) (mo:=.non) (h0:=h0) (h:=h2++[Zas .non 0]) (pk:=h2.length) (u:=0) (K:=(sub f.ar t).size) ⟨by simp,by simp;lia,λi hi _=>old2 i hi⟩ (.inl ⟨rfl,by rw[et];exact Oq _⟩) hz hw;rw[et,<- Zre]at o;obtain⟨h3,e,a3⟩:∃h3,run P (n+3) (mnm (O "Pen") (O "filled")) [.ref h2.length,t.d,.tup (f.ar.map ard)] (h2++[Zas .non 0])=.ok (sub f.ar t).d h3/\Aft h0 h3 h2.length .non (0+((sub f.ar t).size:Int)):=by
  generalize run P (n+3) _ _ _=r at o;cases o with
  |ok le a=>exact⟨_,rfl,a⟩
  |ex lt a=>lia
 obtain⟨g,rfl⟩:=grown a3.2.1 (λi hi=>a3.2.2 i hi (by lia));refine⟨g,?_⟩;have io:ZX (.ref h2.length) (h2++[Zas .non 0])=Wx (O "Pen",[(O "most",.non),(O "used",.int 0)]):=by simp[ZX,Zas]
 have x2:xs1 (P.tbl (n+3)) ZcL [Wx t.d,Wx (.ref dk),Wx (.tup (f.ar.map ard))] h2=.ok (.rt (sub f.ar t).d,[Wx t.d,Wx (.ref dk),Wx (.tup (f.ar.map ard))]) (h0++g):=by simp[ZcL,Pg.tbl,ep,io,Wp,e]
 show Zh (xs2 (P.tbl (n+3)) (.cons ZcM (.cons ZcL .nil)) [Wx t.d,Wx (.ref dk),Wy] h)=_;rw[Za x1,Zf x2];rfl
end Tm
end
section
namespace Tm
open PySem L2 IV
variable {P:Pg}{h:Hd}
noncomputable def isV:T->Bool
 |.num _|.fn _ _|.rcc _ _ _=>Wz
 |_=>WA
noncomputable def pf:T->List T
 |.iff c _ _=>[c]
 |t=>t.parts
noncomputable def Zey:Nat->List T->Option Nat
 |_,[]=>Wy
 |k,t::r=>if isV t then Zey (k+1) r else Wx k
noncomputable def fo(t:T):Option Nat:=Zey 1 (pf t)
noncomputable def oN:Option Nat->D
 |some k=>.int (k:Int)
 |none=>.non
def ZrO(H:Trm P)(n:Nat)(t:T):run P (n+1) (O "is_value") [t.d] h=.ok (.bl (isV t)) h:=by
 rw[Zc H.is_value (by cases t<;>rfl)];refine Zv6 (U:=P.tbl n) (λU=>Zh (xs2 U Zav.body (Zu Zav.N [t.d]) h)) H.gv ?_ ?_
 . cases t with
   |op w a b=>cases w<;>exact rfl
   |_=>exact rfl
 . cases t with
   |op w a b=>cases w<;>exact rfl
   |_=>exact rfl
def ZwS(H:Trm P)(n:Nat)(t:T):run P (n+2) (O "parts_first") [t.d] h=.ok (.tup ((pf t).map T.d)) h:=by
 rw[Zc H.parts_first (by cases t<;>rfl)];have ep:=Gn.Zfs H.toTre n t h;cases t with
 |iff c a b=>exact rfl
 |op w a b=>exact ZgD (U:=P.tbl (n+1)) (λU=>Zh (xs2 U ZC.body (Zu ZC.N [(T.op w a b).d]) h)) ep (by cases w<;>rfl) (by cases w<;>rfl)
 |_=>exact ZgD (U:=P.tbl (n+1)) (λU=>Zh (xs2 U ZC.body (Zu ZC.N [T.d _]) h)) ep rfl rfl
noncomputable def Ze8:Sxs:=(.cons (.iff (.nt (.ex (.call (O "is_value") (.cons (.var 2) .nil)))) (.cons (.ret (.var 1)) .nil) .nil) .nil)
noncomputable def cnt(k:Nat):List T->List D
 |[]=>[]
 |t::r=>.tup [.int ((k+1:Nat):Int),t.d]::cnt (k+1) r
theorem ZjG:∀(ts:List T) (k:Nat),((ts.map T.d).mapIdx λi x=>D.tup [.int ((k+i+1:Nat):Int),x])=cnt k ts
 |[],_=>rfl
 |t::r,k=>by
  rw[Op,List.mapIdx_cons,cnt,<- ZjG r (k+1)];congr 1
  . congr 1;funext i x;congr 4
    lia
theorem ZvI(H:Trm P)(n:Nat):∀(ts:List T) (k:Nat) (a b:Option D),(∃S,ZK Wy (.two 1 2) (xs2 (P.tbl (n+1)) Ze8) (cnt k ts) [Wx E,a,b] h=.ok (.rt (oN (Zey (k+1) ts)),S) h)\/(Zey (k+1) ts=Wy/\∃S,ZK Wy (.two 1 2) (xs2 (P.tbl (n+1)) Ze8) (cnt k ts) [Wx E,a,b] h=.ok (.nx,S) h)
 |[],k,a,b=>.inr ⟨rfl,_,rfl⟩
 |t::r,k,a,b=>by
  have ev:=ZrO H n (h:=h) t;rw[cnt,Zaz];cases hv:isV t with
  |false=>rw[hv]at ev;refine .inl ⟨[Wx E,Wx (.int ((k+1:Nat):Int)),Wx t.d],?_⟩;simp[Ze8,Pg.tbl,ev,Zey,hv,oN]
  |true=>
   rw[hv]at ev;have x:xs2 (P.tbl (n+1)) Ze8 [Wx E,Wx (.int ((k+1:Nat):Int)),Wx t.d] h=.ok (.nx,[Wx E,Wx (.int ((k+1:Nat):Int)),Wx t.d]) h:=by simp[Ze8,Pg.tbl,ev]
   have ih:=ZvI H n (E:=E) r (k+1) (Wx (.int ((k+1:Nat):Int))) (Wx t.d);simp only[ZjN,List.set_cons_zero,List.set_cons_succ,x,Zp,Zey,hv,if_true];exact ih
def ZuX(H:Trm P)(n:Nat)(t:T):run P (n+3) (O "first_open") [t.d] h=.ok (oN (fo t)) h:=by
 rw[Zc H.first_open (by cases t<;>rfl)];have ep:=ZwS H n (h:=h) t;have ei:evi (P.tbl (n+2)) (.en1 (.call (O "parts_first") (.cons (.var 0) .nil))) [Wx t.d,Wy,Wy] h=.ok ⟨Wy,cnt 0 (pf t)⟩ h:=by have e1:ev (P.tbl (n+2)) (.call (O "parts_first") (.cons (.var 0) .nil)) [Wx t.d,Wy,Wy] h=.ok (.tup ((pf t).map T.d)) h:=ep;rw[Zri,e1,Zp];have:=ZjG (pf t) 0;simp only[Nat.zero_add]at this;simp only[Zd8,this]
 show Zh (xs2 (P.tbl (n+2)) (.cons (.forr (.two 1 2) (.en1 (.call (O "parts_first") (.cons (.var 0) .nil))) Ze8) (.cons (.ret (.cst .non)) .nil)) [Wx t.d,Wy,Wy] h)=_;rcases ZvI H (n+1) (E:=t.d) (h:=h) (pf t) 0 Wy Wy with ⟨S,q⟩|⟨q0,S,q⟩
 . have x:xs1 (P.tbl (n+2)) (.forr (.two 1 2) (.en1 (.call (O "parts_first") (.cons (.var 0) .nil))) Ze8) [Wx t.d,Wy,Wy] h=.ok (.rt (oN (fo t)),S) h:=by rw[ZfD,ei,Zp];exact q
   rw[Zf x];rfl
 . have x:xs1 (P.tbl (n+2)) (.forr (.two 1 2) (.en1 (.call (O "parts_first") (.cons (.var 0) .nil))) Ze8) [Wx t.d,Wy,Wy] h=.ok (.nx,S) h:=by rw[ZfD,ei,Zp];exact q
   rw[Za x];have:fo t=Wy:=q0;rw[this];rfl
noncomputable def pth:T->List (T×Nat)
 |.call f a=>if isV f then(if isV a then []else(.call f a,2)::pth a)else(.call f a,1)::pth f
 |.op w f a=>if isV f then(if isV a then []else(.op w f a,2)::pth a)else(.op w f a,1)::pth f
 |.iff c t e=>if isV c then []else(.iff c t e,1)::pth c
 |_=>[]
noncomputable def bot:T->T
 |.call f a=>if isV f then(if isV a then .call f a else bot a)else bot f
 |.op w f a=>if isV f then(if isV a then .op w f a else bot a)else bot f
 |.iff c t e=>if isV c then .iff c t e else bot c
 |t=>t
noncomputable def ZbP(t:T):List D:=(pth t).map (λp=>D.tup [p.1.d,.int (p.2:Int)])++[.tup [(bot t).d,.non]]
def ZpE(t:T)(nv:isV t=WA)(nn:∀x,t≠.name x):(fo t=Wy/\pth t=[]/\bot t=t)\/∃k s,fo t=Wx k/\pth t=(t,k)::pth s/\bot t=bot s/\isV s=WA/\s∈t.parts/\(∀GD,Z5 GD t.d (.int (k:Int)) h=.ok s.d h):=by
 cases t with
 |num _=>cases nv
 |fn _ _=>cases nv
 |rcc _ _ _=>cases nv
 |name x=>exact absurd rfl (nn x)
 |call f a=>
  cases hf:isV f with
  |false=>exact .inr ⟨1,f,by simp[fo,pf,T.parts,Zey,hf],by simp[pth,hf],by simp[bot,hf],hf,by simp[T.parts],λGD=>by simp[T.d]⟩
  |true=>
   cases ha:isV a with
   |false=>exact .inr ⟨2,a,by simp[fo,pf,T.parts,Zey,hf,ha],by simp[pth,hf,ha],by simp[bot,hf,ha],ha,by simp[T.parts],λGD=>by simp[T.d]⟩
   |true=>exact .inl ⟨by simp[fo,pf,T.parts,Zey,hf,ha],by simp[pth,hf,ha],by simp[bot,hf,ha]⟩
 |op w f a=>
  cases hf:isV f with
  |false=>exact .inr ⟨1,f,by simp[fo,pf,T.parts,Zey,hf],by simp[pth,hf],by simp[bot,hf],hf,by simp[T.parts],λGD=>by simp[T.d]⟩
  |true=>
   cases ha:isV a with
   |false=>exact .inr ⟨2,a,by simp[fo,pf,T.parts,Zey,hf,ha],by simp[pth,hf,ha],by simp[bot,hf,ha],ha,by simp[T.parts],λGD=>by simp[T.d]⟩
   |true=>exact .inl ⟨by simp[fo,pf,T.parts,Zey,hf,ha],by simp[pth,hf,ha],by simp[bot,hf,ha]⟩
 |iff c a b=>
  cases hf:isV c with
  |false=>exact .inr ⟨1,c,by simp[fo,pf,Zey,hf],by simp[pth,hf],by simp[bot,hf],hf,by simp[T.parts],λGD=>by simp[T.d]⟩
  |true=>exact .inl ⟨by simp[fo,pf,Zey,hf],by simp[pth,hf],by simp[bot,hf]⟩
end Tm
end
section
namespace Tm
open PySem L2 IV
variable {P:Pg}{h:Hd}
def ZrQ:atI (l++[a]) (-1)=Wx a:=ZjW
def Zk3:cutD (l++[a]) Wy (Wx (-1))=l:=by
 have e:HT.sIx (l++[a]).length (l++[a]).length (Wx (-1))=l.length:=by simp[HT.sIx];lia
 have e0:HT.sIx (l++[a]).length 0 Wy=0:=by simp[HT.sIx]
 unfold cutD;rw[e,e0];simp
def Zrn(c:Gn.Cl [] t)(nv:isV t=WA)(hs:s∈t.parts):Gn.Cl [] s:=by
 cases t with
 |num _=>cases nv
 |fn _ _=>cases nv
 |rcc _ _ _=>cases nv
 |name _=>cases hs
 |call f a=>simp[T.parts]at hs;rcases hs with rfl|rfl;exact c.1;exact c.2
 |op w f a=>simp[T.parts]at hs;rcases hs with rfl|rfl;exact c.1;exact c.2
 |iff f a b=>simp[T.parts]at hs;rcases hs with rfl|rfl|rfl;exact c.1;exact c.2.1;exact c.2.2
def Zv4(c:Gn.Cl [] t):∀x,t≠.name x:=λx e=>by subst e;cases c
noncomputable def wd(t:T):D:=.tup [t.d,oN (fo t)]
noncomputable def wc:Tx:=(.ex (.cmp .IsNot (.ix (.ix (.var 1) (.neg (.cst (.int 1)))) (.cst (.int 1))) (.cst .non)))
noncomputable def Zot:Sxs:=(.cons (.set (.nm 2) (.ix (.ix (.ix (.var 1) (.neg (.cst (.int 1)))) (.cst (.int 0))) (.ix (.ix (.var 1) (.neg (.cst (.int 1)))) (.cst (.int 1))))) (.cons (.drp (.meth .app (.var 1) (.cons (.tupl (.cons (.var 2) (.cons (.call (O "first_open") (.cons (.var 2) .nil)) .nil))) .nil))) .nil))
theorem ZrR(H:Trm P)(n:Nat):∀(fuel:Nat) (t:T) (A:List D) (o2:Option D),t.size<=fuel->A.length+t.size<=1000000->Gn.Cl [] t->isV t=WA->∃o2',
 ZO (tst (P.tbl (n+3)) wc) (xs2 (P.tbl (n+3)) Zot) fuel [Wx E,Wx (.ref h.length),o2] (h++[.lst (A++[wd t])])=.ok (.nx,[Wx E,Wx (.ref h.length),o2']) (h++[.lst (A++ZbP t)])
 |0,t,A,o2,hf,_,_,_=>by have:=Zac t;lia
 |fuel+1,t,A,o2,hf,hz,c,nv=>by
  have e1:ev (P.tbl (n+3)) (.ix (.var 1) (.neg (.cst (.int 1)))) [Wx E,Wx (.ref h.length),o2] (h++[.lst (A++[wd t])])=.ok (wd t) (h++[.lst (A++[wd t])]):=(Zr rfl rfl).trans (by rw[ZS Zc2,ZrQ];rfl);have e2:ev (P.tbl (n+3)) (.ix (.ix (.var 1) (.neg (.cst (.int 1)))) (.cst (.int 1))) [Wx E,Wx (.ref h.length),o2] (h++[.lst (A++[wd t])])=.ok (oN (fo t)) (h++[.lst (A++[wd t])]):=(Zr e1 rfl).trans rfl;rcases ZpE (h:=h++[.lst (A++[wd t])]) t nv (Zv4 c)with ⟨h1,h2,h3⟩|⟨k,s,h1,h2,h3,h4,h5,h6⟩
  . refine⟨o2,(ZhB (Zm (ZoQ e2) (by rw[h1];simp[oN]))).trans ?_⟩;simp[ZbP,h2,h3,wd,h1,oN]
  . have sl:=ZhQ h5;obtain⟨o2',e⟩:=ZrR H n (E:=E) fuel s (A++[wd t]) (Wx s.d) (by lia) (by simp;lia) (Zrn c nv h5) h4;rw[h1]at e2;have ap:=Zbx (d:=wd s) (Zc2 (h:=h) (x:=.lst (A++[wd t])) (r:=[])) (by rw[YC];simp;lia);rw[ZnS]at ap;refine⟨o2',(Zfq (Zm (ZoQ e2) (by simp[oN])) ((Za (Zj ((Zr ((Zr e1 rfl).trans rfl) e2).trans (h6 P.GD)))).trans ((Za (Zdm (Zfm rfl Zc2 (Zb (ZV (Zb rfl (Zb (Zl (ZuX H n s) rfl) rfl)) (by simp)) rfl) ap))).trans rfl))).trans (Eq.trans e ?_)⟩;simp[ZbP,h2,h3,wd,h1,oN]
def ZuT(H:Trm P)(n:Nat)(t:T)(c:Gn.Cl [] t)(nv:isV t=WA)(hz:t.size<=100000):run P (n+4) (O "way_down") [t.d] h=.ok (.ref h.length) (h++[.lst (ZbP t)]):=by rw[Zc H.way_down (by rfl)];have big:=H.big;obtain⟨o2,e⟩:=ZrR H n (h:=h) (E:=t.d) P.L t [] Wy (by lia) (by simp;lia) c nv;have w:xs2 (P.tbl (n+3)) ZgF [Wx t.d,Wy,Wy] h=.ok (.rt (.ref h.length),[Wx t.d,Wx (.ref h.length),o2]) (h++[.lst ([]++ZbP t)]):=(Za (Zj (Zjv (Zb (ZV (Zb rfl (Zb (Zl (ZuX H n t) rfl) rfl)) (by simp)) rfl) (by simp)))).trans ((Za (s:=.whl wc Zot) e).trans (Zf (Zx rfl)));exact congrArg Zh w
noncomputable def ZcT:T->Nat->T->T
 |.call _ a,1,u=>.call u a
 |.call f _,2,u=>.call f u
 |.op w _ a,1,u=>.op w u a
 |.op w f _,2,u=>.op w f u
 |.iff _ t e,1,u=>.iff u t e
 |s,_,_=>s
noncomputable def Zbi:List (T×Nat)->T->T
 |[],u=>u
 |(s,k)::r,u=>ZcT s k (Zbi r u)
def p1c:ZcT (.call f a) 1 u=.call u a:=rfl
def p2c:ZcT (.call f a) 2 u=.call f u:=rfl
def p1o:ZcT (.op w f a) 1 u=.op w u a:=rfl
def p2o:ZcT (.op w f a) 2 u=.op w f u:=rfl
def p1i:ZcT (.iff c t e) 1 u=.iff u t e:=rfl
inductive Vp:T×Nat->Prop
 |c1 {f a:T}:Vp (.call f a,1)
 |c2 {f a:T}:Vp (.call f a,2)
 |o1 {w:Wd}{f a:T}:Vp (.op w f a,1)
 |o2 {w:Wd}{f a:T}:Vp (.op w f a,2)
 |i1 {c t e:T}:Vp (.iff c t e,1)
theorem ZeN:∀t:T,∀p∈pth t,Vp p
 |.num _,p,hp=>by cases hp
 |.name _,p,hp=>by cases hp
 |.fn _ _,p,hp=>by cases hp
 |.rcc _ _ _,p,hp=>by cases hp
 |.call f a,p,hp=>by
  simp only[pth]at hp;split at hp
  . split at hp
    . cases hp
    . rcases O3.mp hp with rfl|hp
      . exact .c2
      . exact ZeN a p hp
  . rcases O3.mp hp with rfl|hp
    . exact .c1
    . exact ZeN f p hp
 |.op w f a,p,hp=>by
  simp only[pth]at hp;split at hp
  . split at hp
    . cases hp
    . rcases O3.mp hp with rfl|hp
      . exact .o2
      . exact ZeN a p hp
  . rcases O3.mp hp with rfl|hp
    . exact .o1
    . exact ZeN f p hp
 |.iff c t e,p,hp=>by
  simp only[pth]at hp;split at hp
  . cases hp
  . rcases O3.mp hp with rfl|hp
    . exact .i1
    . exact ZeN c p hp
noncomputable def pd(p:T×Nat):D:=.tup [p.1.d,.int (p.2:Int)]
noncomputable def lb1:Sx:=(.set (.nm 2) (.bin .Add (.bin .Add (.sl (.var 3) Wy (Wx (.var 4))) (.tupl (.cons (.var 2) .nil))) (.sl (.var 3) (Wx (.bin .Add (.var 4) (.cst (.int 1)))) Wy)))
noncomputable def Zeu:Sxs:=(.cons lb1 .nil)
def Zsn(p:T×Nat)(v:Vp p)(u:T):xs2 U Zeu [Wx a,Wx b,Wx u.d,Wx p.1.d,Wx (.int (p.2:Int))] h=.ok (.nx,[Wx a,Wx b,Wx (ZcT p.1 p.2 u).d,Wx p.1.d,Wx (.int (p.2:Int))]) h:=by
 have o:∀(xs ys:List D),xs.length+ys.length<=10->opB .Add (.tup xs) (.tup ys) h=.ok (.tup (xs++ys)) h:=λxs ys q=>ZcC (by rw[YC];lia);obtain⟨s,k⟩:=p;have go:∀r,xs1 U lb1 [Wx a,Wx b,Wx u.d,Wx s.d,Wx (.int (k:Int))] h=.ok (.nx,[Wx a,Wx b,Wx r,Wx s.d,Wx (.int (k:Int))]) h->xs2 U Zeu [Wx a,Wx b,Wx u.d,Wx s.d,Wx (.int (k:Int))] h=.ok (.nx,[Wx a,Wx b,Wx r,Wx s.d,Wx (.int (k:Int))]) h:=λr e=>by rw[Zeu,Za e];rfl
 cases v with
 |c1=>exact go _ rfl
 |c2=>exact go _ rfl
 |o1=>exact go _ rfl
 |o2=>exact go _ rfl
 |i1=>exact go _ rfl
theorem ZoC(hw:h[wk]? = Wx (.lst L)):∀(ps:List (T×Nat)) (rest:List D) (u:T) (o3 o4:Option D),(∀p∈ps,Vp p)->∃o3' o4',
 ZK (Wx (wk,L)) (.two 3 4) (xs2 U Zeu) ((ps.map pd).reverse++rest) [Wx a,Wx b,Wx u.d,o3,o4] h=ZK (Wx (wk,L)) (.two 3 4) (xs2 U Zeu) rest [Wx a,Wx b,Wx (Zbi ps u).d,o3',o4'] h
 |[],rest,u,o3,o4,_=>⟨o3,o4,rfl⟩
 |p::ps,rest,u,o3,o4,v=>by obtain⟨o31,o41,e⟩:=ZoC (U:=U) (a:=a) (b:=b) hw ps (pd p::rest) u o3 o4 (λq hq=>v q (Oh _ hq));refine⟨Wx p.1.d,Wx (.int (p.2:Int)),?_⟩;rw[Op,List.reverse_cons,Oz,List.cons_append,OB,e];exact Zjr hw rfl (Zsn p (v p Oi) (Zbi ps u))
def ZsJ(H:Trm P)(n:Nat)(ps:List (T×Nat))(u:T)(hw:h[wk]? = Wx (.lst (ps.map pd)))(v:∀p∈ps,Vp p):run P (n+1) (O "put_back") [.ref wk,u.d] h=.ok (Zbi ps u).d h:=by
 rw[Zc H.put_back (by rfl)];obtain⟨o3,o4,e⟩:=ZoC (U:=P.tbl n) (a:=.ref wk) (b:=u.d) hw ps [] u Wy Wy v;rw[Yt,Zjs hw]at e;have ei:evi (P.tbl n) (.rev (.var 0)) [Wx (.ref wk),Wx u.d,Wx u.d,Wy,Wy] h=.ok ⟨Wx (wk,ps.map pd),(ps.map pd).reverse⟩ h:=by simp[ZfF,hw]
 have w:xs2 (P.tbl n) ZgG [Wx (.ref wk),Wx u.d,Wy,Wy,Wy] h=.ok (.rt (Zbi ps u).d,[Wx (.ref wk),Wx u.d,Wx (Zbi ps u).d,o3,o4]) h:=(Za (Zj rfl)).trans ((Za ((Zca ei).trans e)).trans (Zf (Zx rfl)));exact congrArg Zh w
end Tm
end
section
namespace Tm
open PySem L2 IV
variable {P:Pg}{h:Hd}
noncomputable def Za5(f:Str)(F:T)(x:Str)(A:T):Fil:=if f=x then [(x,A)]else [(f,F),(x,A)]
noncomputable def bec:T->Option T
 |.call F A=>match F with
  |.fn x e=>Wx (sub (Fil.ar [(x,A)]) e)
  |.rcc f x e=>Wx (sub (Fil.ar (Za5 f (.rcc f x e) x A)) e)
  |_=>Wy
 |.iff c t e=>match c with
  |.num z=>Wx (if z=0 then e else t)
  |_=>Wy
 |.op w a b=>match a,b with
  |.num a,.num b=>Wx (.num (_root_.Rw.wk w a b))
  |_,_=>Wy
 |_=>Wy
noncomputable def next(t:T):Option T:=(bec (bot t)).map (Zbi (pth t))
noncomputable def oT:Option T->D
 |some t=>t.d
 |none=>.non
theorem Zb4(hM:1<=M):∀(t:T) (ar:Ar),(∀x V,get ar x=Wx V->V.size<=M)->(sub ar t).size<=t.size * M
 |.num _,_,_=>by simp[sub,T.size,T.places];lia
 |.name x,ar,hv=>by
  cases e:get ar x with
  |none=>simp[sub,e,T.size,T.places];lia
  |some V=>have:=hv x V e;simp[sub,e];simp[T.size,T.places]at *;lia
 |.fn x e,ar,hv=>by
  have ih:=Zb4 hM e ((x,Wy)::ar) (λy V q=>hv y V (ZcH [x] ar q));rw[sub,Zd,Zd (.fn x e)];simp[T.parts,Nat.add_mul]at ih ⊢
  lia
 |.rcc f x e,ar,hv=>by
  have ih:=Zb4 hM e ((f,Wy)::(x,Wy)::ar) (λy V q=>hv y V (ZcH [f,x] ar q));rw[sub,Zd,Zd (.rcc f x e)];simp[T.parts,Nat.add_mul]at ih ⊢
  lia
 |.call f a,ar,hv=>by
  have i1:=Zb4 hM f ar hv;have i2:=Zb4 hM a ar hv;rw[sub,Zd,Zd (.call f a)];simp[T.parts,Nat.add_mul]at i1 i2 ⊢
  lia
 |.op w f a,ar,hv=>by
  have i1:=Zb4 hM f ar hv;have i2:=Zb4 hM a ar hv;rw[sub,Zd,Zd (.op w f a)];simp[T.parts,Nat.add_mul]at i1 i2 ⊢
  lia
 |.iff c t e,ar,hv=>by
  have i1:=Zb4 hM c ar hv;have i2:=Zb4 hM t ar hv;have i3:=Zb4 hM e ar hv;rw[sub,Zd,Zd (.iff c t e)];simp[T.parts,Nat.add_mul]at i1 i2 i3 ⊢
  lia
theorem ZoX:∀(f:Fil) {x:Str}{V:T},get f.ar x=Wx V->(x,V)∈f
 |[],x,V,e=>by cases e
 |(y,W)::r,x,V,e=>by
  rw[Fil.ar,Op,get]at e;split at e
  . rename_i q;cases e;rw[<- q];exact Oi
  . exact Oh _ (ZoX r e)
def ZkX{t:T}{f:Fil}(hs:∀p∈f,p.2.size<=300):(sub f.ar t).size<=t.size * 300:=Zb4 (M:=300) (by lia) t f.ar λx V e=>hs (x,V) (ZoX f e)
def Zo4{t:T}{f:Fil}(ht:t.size<=300)(hf:f.length<=2)(hs:∀p∈f,p.2.size<=300/\∀x,p.2≠.name x):Wok 301 (t,fen f)/\(sub f.ar t).size<=300000:=by
 have:=ZkX (t:=t) (f:=f) λp hp=>(hs p hp).1;refine⟨⟨?_,λq hq v e=>?_⟩,by lia⟩
 . have:(fen f).length=f.length:=by simp[fen]
   simp only
   lia
 . obtain⟨p,hp,rfl⟩:=List.mem_map.mp hq;cases e;refine⟨(hs p hp).2,?_,trivial⟩;have:=(hs p hp).1;show 0+2 * p.2.size<=602
   lia
theorem ZnM (H:Trm P) (n:Nat) (F A:T) (hv:isV F=Wz) (hF:F.size<=300) (hA:A.size<=300) (nA:∀ x,A≠.name x):∃ g,run P (n+5) (O "called") [F.d,A.d] h=.ok (oT (bec (.call F A))) (h++g):=by
 rw [Zc H.called (by cases F<;>rfl)];have gr:∀ (f:Fil),∃ k,k=h.length/\(h++[DO.dic f.kv])[k]? = Wx (.dic f.kv):=fun f=>⟨_,rfl,by simp⟩
 cases F with
 | num z=>exact ⟨[],by rw [Yt];exact rfl⟩
 | fn x e =>
   have he:e.size<=300:=by rw [Zd] at hF;simp [T.parts] at hF;lia
   obtain ⟨w1,w2⟩:=Zo4 (t:=e) (f:=[(x,A)]) he (by simp) (by simp;exact ⟨by lia,nA⟩);obtain ⟨g,q⟩:=ZrM H n e [(x,A)] (h0:=h) (h:=h++[.dic (Fil.kv [(x,A)])]) (dk:=h.length) (by simp) (by simp) (by simp) (Oq _) (by simp) (fun i hi=>Oe hi) (by lia) (by lia) w1 w2;refine ⟨g,?_⟩;exact rt1 (U:=P.tbl (n+4)) (ss:=Zdz) (S:=[Wx (T.fn x e).d,Wx A.d]) (ZD q rfl rfl) rfl
 | rcc f x e =>
   have he:e.size<=300:=by rw [Zd] at hF;simp [T.parts] at hF;lia
   have hlen:(Za5 f (.rcc f x e) x A).length<=2:=by unfold Za5;split<;>simp
   have hnd:((Za5 f (.rcc f x e) x A).map (·.1)).Nodup:=by
     unfold Za5;split
     . simp
     . simpa using (by assumption)
   obtain ⟨w1,w2⟩:=Zo4 (t:=e) (f:=Za5 f (.rcc f x e) x A) he hlen (by
     unfold Za5;split
     . simp;exact ⟨by lia,nA⟩
     . simp;exact ⟨hF,hA,nA⟩)
   obtain ⟨g,q⟩:=ZrM H n e (Za5 f (.rcc f x e) x A) (h0:=h) (h:=h++[.dic (Fil.kv (Za5 f (.rcc f x e) x A))]) (dk:=h.length) hnd (by lia) (by simp) (Oq _) (by simp) (fun i hi=>Oe hi) (by lia) (by lia) w1 w2;refine ⟨g,?_⟩;have mg:Zb9 [] [(YE f,(T.rcc f x e).d),(YE x,A.d)]=Fil.kv (Za5 f (.rcc f x e) x A):=by
     unfold Za5;by_cases z:f=x
     . subst z;simp [Zb9,putD,Fil.kv]
     . have:¬ (YE f:Key)=YE x:=fun q=>z (Sum.inr.inj q);simp [Zb9,putD,Fil.kv,z]
   rw [<- mg] at q;show Zh (xs2 (P.tbl (n+4)) Zdz [Wx (T.rcc f x e).d,Wx A.d] h)=_;rw [nx1 (U:=P.tbl (n+4)) (ss:=Zdz) (S:=[Wx (T.rcc f x e).d,Wx A.d]) (ρ1:=[Wx (T.rcc f x e).d,Wx A.d]) (h2:=h) rfl rfl];exact rt1 (U:=P.tbl (n+4)) (ss:=tlS Zdz) (ZD q rfl rfl) rfl
 | _=>cases hv
def Zf4(H:Trm P)(n:Nat)(c a b:T)(hv:isV c=Wz):run P (n+1) (O "chosen") [c.d,a.d,b.d] h=.ok (oT (bec (.iff c a b))) h:=by
 rw[Zc H.chosen (by rfl)];cases c with
 |num z=>by_cases e:z=0<;>simp[ZaN,Zdy,Zu,T.d,bec,oT,e]
 |fn x e=>exact rfl
 |rcc f x e=>exact rfl
 |_=>cases hv
def Zf3(H:Trm P)(n:Nat)(w:Wd)(a b:T)(va:isV a=Wz)(vb:isV b=Wz)(ca:Gn.Cl [] a)(cb:Gn.Cl [] b):run P (n+1) (O "worked") [.str w.s,a.d,b.d] h=.ok (oT (bec (.op w a b))) h:=by
 have no:∀(a b:T),xs1 (P.tbl n) ZgE [Wx (.str w.s),Wx a.d,Wx b.d] h=.ok (.rt .non,[Wx (.str w.s),Wx a.d,Wx b.d]) h->run P (n+1) (O "worked") [.str w.s,a.d,b.d] h=.ok .non h:=λa b e=>by rw[Zc H.worked (by rfl)];exact rt1 (U:=P.tbl n) (ss:=ZH) e rfl
 cases a with
 |num x=>
  cases b with
  |num y=>exact _root_.Rw.worked_nn H.worked H.gb n w ca cb
  |fn _ _=>exact no (.num x) (.fn _ _) rfl
  |rcc _ _ _=>exact no (.num x) (.rcc _ _ _) rfl
  |_=>cases vb
 |fn _ _=>exact no (.fn _ _) b rfl
 |rcc _ _ _=>exact no (.rcc _ _ _) b rfl
 |_=>cases va
def Red:T->Prop
 |.call f a=>isV f=Wz/\isV a=Wz
 |.op _ f a=>isV f=Wz/\isV a=Wz
 |.iff c _ _=>isV c=Wz
 |_=>False
theorem ZcI:∀t:T,isV t=WA->Gn.Cl [] t->Red (bot t)/\Gn.Cl [] (bot t)/\(bot t).size<=t.size
 |.num _,nv,_=>by cases nv
 |.name x,_,c=>by cases c
 |.fn _ _,nv,_=>by cases nv
 |.rcc _ _ _,nv,_=>by cases nv
 |.call f a,_,c=>by
  have z:(T.call f a).size=1+(f.size+a.size):=by rw[Zd];simp[T.parts]
  simp only[bot];split
  . split
    . exact⟨⟨by assumption,by assumption⟩,c,Oq _⟩
    . rename_i q;have ih:=ZcI a (by simpa using q) c.2;exact⟨ih.1,ih.2.1,by lia⟩
  . rename_i q;have ih:=ZcI f (by simpa using q) c.1;exact⟨ih.1,ih.2.1,by lia⟩
 |.op w f a,_,c=>by
  have z:(T.op w f a).size=1+(f.size+a.size):=by rw[Zd];simp[T.parts]
  simp only[bot];split
  . split
    . exact⟨⟨by assumption,by assumption⟩,c,Oq _⟩
    . rename_i q;have ih:=ZcI a (by simpa using q) c.2;exact⟨ih.1,ih.2.1,by lia⟩
  . rename_i q;have ih:=ZcI f (by simpa using q) c.1;exact⟨ih.1,ih.2.1,by lia⟩
 |.iff f a b,_,c=>by
  have z:(T.iff f a b).size=1+(f.size+(a.size+b.size)):=by rw[Zd];simp[T.parts]
  simp only[bot];split
  . exact⟨by assumption,c,Oq _⟩
  . rename_i q;have ih:=ZcI f (by simpa using q) c.1;exact⟨ih.1,ih.2.1,by lia⟩
theorem ZnO (H:Trm P) (n:Nat) (t:T) (r:Red t) (c:Gn.Cl [] t) (hz:t.size<=300):∃ g,run P (n+6) (O "become") [t.d] h=.ok (oT (bec t)) (h++g):=by
 rw [Zc H.become (by rfl)];cases t with
 | call F A =>
   have z:(T.call F A).size=1+(F.size+A.size):=by rw [Zd];simp [T.parts]
   obtain ⟨g,e⟩:=ZnM H n (h:=h) F A r.1 (by lia) (by lia) (fun x z=>by have:=r.2;rw [z] at this;cases this);exact ⟨g,rt1 (U:=P.tbl (n+5)) (ss:=ZaT) (S:=[Wx (T.call F A).d]) (ZD e rfl rfl) rfl⟩
 | iff a b d =>
   have e:=Zf4 H (n+4) (h:=h) a b d r;exact ⟨[],by
     rw [Yt];show Zh (xs2 (P.tbl (n+5)) ZaT [Wx (T.iff a b d).d] h)=_;rw [nx1 (U:=P.tbl (n+5)) (ss:=ZaT) (S:=[Wx (T.iff a b d).d]) (ρ1:=[Wx (T.iff a b d).d]) (h2:=h) rfl rfl];exact rt1 (U:=P.tbl (n+5)) (ss:=tlS ZaT) (ZD e rfl rfl) rfl⟩
 | op w a b =>
   have e:=Zf3 H (n+4) (h:=h) w a b r.1 r.2 c.1 c.2;exact ⟨[],by
     rw [Yt];show Zh (xs2 (P.tbl (n+5)) ZaT [Wx (T.op w a b).d] h)=_;rw [nx1 (U:=P.tbl (n+5)) (ss:=ZaT) (S:=[Wx (T.op w a b).d]) (ρ1:=[Wx (T.op w a b).d]) (h2:=h) (by cases w<;>rfl) rfl,nx1 (U:=P.tbl (n+5)) (ss:=tlS ZaT) (S:=[Wx (T.op w a b).d]) (ρ1:=[Wx (T.op w a b).d]) (h2:=h) (by cases w<;>rfl) rfl];exact rt1 (U:=P.tbl (n+5)) (ss:=tlS (tlS ZaT)) (ZD e rfl rfl) rfl⟩
 | _=>cases r
noncomputable def ans(t:T):D:=if isV t then .tup [.str (O "value")]else match next t with
 |some u=>.tup [.str (O "loud"),u.d]
 |none=>.tup [.str (O "stuck")]
def Zha(H:Trm P)(n:Nat)(t:T)(c:Gn.Cl [] t)(hz:t.size<=300):∃g,run P (n+7) (O "stepped") [t.d] h=.ok (ans t) (h++g):=by
 rw[Zc H.stepped (by rfl)];have ev:=ZrO H (n+5) (h:=h) t;show ∃g,Zh (xs2 (P.tbl (n+6)) (.cons ZbY (.cons Zdr (.cons Zdq (.cons ZbX (.cons Zdp .nil))))) [Wx t.d,Wy,Wy] h)=_;cases nv:isV t with
 |true=>rw[nv]at ev;refine⟨[],?_⟩;have x1:xs1 (P.tbl (n+6)) ZbY [Wx t.d,Wy,Wy] h=.ok (.rt (.tup [.str (O "value")]),[Wx t.d,Wy,Wy]) h:=ZD ev rfl rfl;rw[Zf x1,Yt,ans,nv];rfl
 |false=>
  rw[nv]at ev;have x1:xs1 (P.tbl (n+6)) ZbY [Wx t.d,Wy,Wy] h=.ok (.nx,[Wx t.d,Wy,Wy]) h:=ZD ev rfl rfl;have ew:=ZuT H (n+2) (h:=h) t c nv (by lia);have x2:xs1 (P.tbl (n+6)) Zdr [Wx t.d,Wy,Wy] h=.ok (.nx,[Wx t.d,Wx (.ref h.length),Wy]) (h++[.lst (ZbP t)]):=ZD ew rfl rfl;obtain⟨r1,r2,r3⟩:=ZcI t nv c;obtain⟨g,eb⟩:=ZnO H n (h:=h++[.lst (ZbP t)]) (bot t) r1 r2 (by lia);have ix:Z5 P.GD (.ref h.length) (.int (-1)) (h++[.lst (ZbP t)])=.ok (.tup [(bot t).d,.non]) (h++[.lst (ZbP t)]):=by rw[ZS (xs:=ZbP t) (by simp),ZbP,ZrQ];rfl
  have x3:xs1 (P.tbl (n+6)) Zdq [Wx t.d,Wx (.ref h.length),Wy] (h++[.lst (ZbP t)])=.ok (.nx,[Wx t.d,Wx (.ref h.length),Wx (oT (bec (bot t)))]) (h++[.lst (ZbP t)]++g):=Zj (Zl eb (Zb ((Zr ((Zr rfl rfl).trans ix) rfl).trans rfl) rfl));rw[Za x1,Za x2,Za x3];have kw:(h++[DO.lst (ZbP t)]++g)[h.length]? = Wx (.lst (ZbP t)):=by simp
  cases hb:bec (bot t)with
  |none=>refine⟨[.lst (ZbP t)]++g,?_⟩;have x4:xs1 (P.tbl (n+6)) ZbX [Wx t.d,Wx (.ref h.length),Wx (oT Wy)] (h++[.lst (ZbP t)]++g)=.ok (.rt (.tup [.str (O "stuck")]),[Wx t.d,Wx (.ref h.length),Wx (oT Wy)]) (h++[.lst (ZbP t)]++g):=(Zs (ZmY rfl)).trans (Zf (Zx rfl));rw[Zf x4,ans,nv,next,hb,<- Oz];rfl
  |some u=>
   generalize hh:h++[DO.lst (ZbP t)]++g=h1 at *;have nn:u.d≠.non:=by cases u<;>simp[T.d]
   have x4:xs1 (P.tbl (n+6)) ZbX [Wx t.d,Wx (.ref h.length),Wx (oT (Wx u))] h1=.ok (.nx,[Wx t.d,Wx (.ref h.length),Wx (oT (Wx u))]) h1:=(Zt (ZoS rfl nn)).trans rfl;have ep:=ZsJ H (n+5) (h:=h1++[.lst ((pth t).map pd)]) (wk:=h1.length) (pth t) u (by simp) (ZeN t);have sl:ZgJ (.ref h.length) Wy (Wx (-1)) h1=.ok (.ref h1.length) (h1++[.lst ((pth t).map pd)]):=by
    have:cutD (ZbP t) Wy (Wx (-1))=(pth t).map pd:=by rw[ZbP,Zk3];rfl
    simp[ZgJ,lstOf,kw,this]
   refine⟨[.lst (ZbP t)]++g++[.lst ((pth t).map pd)],?_⟩;have x5:xs1 (P.tbl (n+6)) Zdp [Wx t.d,Wx (.ref h.length),Wx (oT (Wx u))] h1=.ok (.rt (.tup [.str (O "loud"),(Zbi (pth t) u).d]),[Wx t.d,Wx (.ref h.length),Wx (oT (Wx u))]) (h1++[.lst ((pth t).map pd)]):=Zx (ZV (Zb rfl (Zb (Zl ep (Zb ((Gn.Zly rfl rfl rfl).trans sl) rfl)) rfl)) (by simp));rw[Za x4,Zf x5,ans,nv,next,hb,<- Oz,<- Oz,hh];rfl
end Tm
end
section
namespace Tm
open PySem L2 IV
variable {P:Pg}{h:Hd}
def Kp(ar:Ar)(sc sc':List Str):Prop:=∀x∈sc,(∃V,get ar x=Wx V/\Gn.Cl [] V)\/(get ar x=Wy/\x∈sc')
def Kp.bind(k:Kp ar sc sc')(y:Str):Kp ((y,Wy)::ar) (y::sc) (y::sc'):=λx hx=>by
 unfold get;by_cases e:y=x
 . rw[if_pos e];exact .inr ⟨rfl,by rw[e];exact Oi⟩
 . rw[if_neg e];rcases O3.mp hx with z|z
   . exact absurd z.symm e
   . rcases k x z with q|q
     . exact .inl q
     . exact .inr ⟨q.1,Oh _ q.2⟩
def Kp.two(k:Kp ar sc sc')(f x:Str):Kp ((f,Wy)::(x,Wy)::ar) (x::f::sc) (x::f::sc'):=λz hz=>by
 have q:=(k.bind x).bind f z (by simp at hz ⊢;rcases hz with h|h|h<;>simp[h]);rcases q with q|q
 . exact .inl q
 . exact .inr ⟨q.1,by have:=q.2;simp at this ⊢;rcases this with h|h|h<;>simp[h]⟩
theorem Zbj:∀(t:T) {ar:Ar}{sc sc':List Str},Kp ar sc sc'->Gn.Cl sc t->Gn.Cl sc' (sub ar t)
 |.num _,_,_,_,_,c=>c
 |.name x,ar,sc,sc',k,c=>by
  rcases k x c with ⟨V,e,cv⟩|⟨e,m⟩
  . rw[sub,e];exact Gn.Cl.mono (λy hy=>by cases hy) cv
  . rw[sub,e];exact m
 |.fn x e,_,_,_,k,c=>Zbj e (k.bind x) c
 |.rcc f x e,_,_,_,k,c=>⟨Zbj e (k.two f x) c.1,c.2⟩
 |.call f a,_,_,_,k,c=>⟨Zbj f k c.1,Zbj a k c.2⟩
 |.iff f a b,_,_,_,k,c=>⟨Zbj f k c.1,Zbj a k c.2.1,Zbj b k c.2.2⟩
 |.op _ f a,_,_,_,k,c=>⟨Zbj f k c.1,Zbj a k c.2⟩
def zc(f a:T):(T.call f a).size=1+(f.size+a.size):=by rw[Zd];simp[T.parts]
def zo(w:Wd)(f a:T):(T.op w f a).size=1+(f.size+a.size):=by rw[Zd];simp[T.parts]
def zi(f a b:T):(T.iff f a b).size=1+(f.size+(a.size+b.size)):=by rw[Zd];simp[T.parts]
def zf(x:Str)(e:T):(T.fn x e).size=1+e.size:=by rw[Zd];simp[T.parts]
def zr(f x:Str)(e:T):(T.rcc f x e).size=1+e.size:=by rw[Zd];simp[T.parts]
def l_2{a b c d:Nat}(p:a<c)(q:b<d):max a b<c+d:=Nat.max_lt.mpr ⟨O4 p (Nat.le_add_right _ _),O4 q (Wc _ _)⟩
def l_1{a c:Nat}(p:a<c):a+1<1+c:=by lia
theorem Zcd:∀t:T,Gn.dep t<t.size
 |.num _=>by simp[Gn.dep,T.size,T.places]
 |.name _=>by simp[Gn.dep,T.size,T.places]
 |.fn x e=>by rw[zf];exact l_1 (Zcd e)
 |.rcc f x e=>by rw[zr];exact l_1 (Zcd e)
 |.call f a=>by rw[zc];exact l_1 (l_2 (Zcd f) (Zcd a))
 |.op w f a=>by rw[zo];exact l_1 (l_2 (Zcd f) (Zcd a))
 |.iff c t e=>by rw[zi];exact l_1 (l_2 (Zcd c) (l_2 (Zcd t) (Zcd e)))
def Zo5{f:Fil}(hc:∀p∈f,Gn.Cl [] p.2)(sc:List Str)(hk:∀x∈sc,x∈f.map (·.1)):Kp f.ar sc []:=λx hx=>by
 have:∀(f:Fil),(∀p∈f,Gn.Cl [] p.2)->x∈f.map (·.1)->∃V,get f.ar x=Wx V/\Gn.Cl [] V:=by
  intro f;induction f with
  |nil=>intro _ z;cases z
  |cons p r ih=>
   intro hc z;rw[Fil.ar,Op,get];by_cases e:p.1=x
   . rw[if_pos e];exact⟨p.2,rfl,hc p Oi⟩
   . rw[if_neg e];rw[Op]at z;rcases O3.mp z with q|q
     . exact absurd q.symm e
     . exact ih (λp hp=>hc p (Oh _ hp)) q
 exact .inl (this f hc (hk x hx))
def Zrw(t u:T)(r:Red t)(c:Gn.Cl [] t)(hz:t.size<=300)(e:bec t=Wx u):Gn.Cl [] u/\u.size<=t.size * 300:=by
 cases t with
 |call F A=>
  have z:=zc F A;cases F with
  |fn x b=>cases e;have zb:=zf x b;have fo:=ZkX (t:=b) (f:=[(x,A)]) (by simp;lia);refine⟨Zbj b (Zo5 (by simp;exact c.2) [x] (by simp)) c.1,OE fo (Nat.mul_le_mul_right _ (by rw[z,zb];lia))⟩
  |rcc f x b=>
   cases e;have zb:=zr f x b;have mem:∀p∈Za5 f (.rcc f x b) x A,p.2=.rcc f x b\/p.2=A:=by
    intro p hp;unfold Za5 at hp;split at hp
    . simp at hp;rw[hp];exact .inr rfl
    . simp at hp;rcases hp with rfl|rfl
      . exact .inl rfl
      . exact .inr rfl
   have fo:=ZkX (t:=b) (f:=Za5 f (.rcc f x b) x A) (λp hp=>by rcases mem p hp with q|q<;>rw[q]<;>lia);refine⟨Zbj b (Zo5 (λp hp=>by rcases mem p hp with q|q<;>rw[q];exact c.1;exact c.2) [x,f] (by unfold Za5;split<;>simp_all)) c.1.1,OE fo (Nat.mul_le_mul_right _ (by rw[z,zb];lia))⟩
  |_=>cases e
 |iff a b d=>
  have z:=zi a b d;cases a with
  |num m=>
   simp only[bec,Option.some.injEq]at e;subst e;split
   . exact⟨c.2.2,by lia⟩
   . exact⟨c.2.1,by lia⟩
  |_=>cases e
 |op w a b=>
  cases a with
  |num x=>
   cases b with
   |num y=>cases e;have:=_root_.Rw.wk_ok w x y;exact⟨this,by simp[T.size,T.places]⟩
   |_=>cases e
  |_=>cases e
 |_=>cases r
def Zn0:∀(t:T) (u:T),Gn.Cl [] t->Gn.Cl [] u->Gn.Cl [] (Zbi (pth t) u)/\(Zbi (pth t) u).size<=t.size+u.size:=by
 have two:∀a b c u:Nat,a<=b+u->1+(a+c)<=1+(b+c)+u:=λa b c u q=>by lia
 have two':∀a b c u:Nat,a<=b+u->1+(c+a)<=1+(c+b)+u:=λa b c u q=>by lia
 have z2:=zc;have o2:=zo;have i2:=zi;intro t u;induction t with
 |num _=>exact λ_ cu=>⟨cu,Wc _ _⟩
 |name _=>exact λ_ cu=>⟨cu,Wc _ _⟩
 |fn _ _ _=>exact λ_ cu=>⟨cu,Wc _ _⟩
 |rcc _ _ _ _=>exact λ_ cu=>⟨cu,Wc _ _⟩
 |call f a q1 q2=>
  intro c cu;cases hf:isV f with
  |false=>simp only[pth,hf,Zbi,p1c,p2c,p1o,p2o,p1i,OG,if_false];exact⟨⟨(q1 c.1 cu).1,c.2⟩,by rw[z2,z2];exact two _ _ _ _ (q1 c.1 cu).2⟩
  |true=>
   cases ha:isV a with
   |false=>simp only[pth,hf,ha,Zbi,p1c,p2c,p1o,p2o,p1i,OG,if_false,if_true];exact⟨⟨c.1,(q2 c.2 cu).1⟩,by rw[z2,z2];exact two' _ _ _ _ (q2 c.2 cu).2⟩
   |true=>simp only[pth,hf,ha,Zbi,if_true];exact⟨cu,Wc _ _⟩
 |op w f a q1 q2=>
  intro c cu;cases hf:isV f with
  |false=>simp only[pth,hf,Zbi,p1c,p2c,p1o,p2o,p1i,OG,if_false];exact⟨⟨(q1 c.1 cu).1,c.2⟩,by rw[o2,o2];exact two _ _ _ _ (q1 c.1 cu).2⟩
  |true=>
   cases ha:isV a with
   |false=>simp only[pth,hf,ha,Zbi,p1c,p2c,p1o,p2o,p1i,OG,if_false,if_true];exact⟨⟨c.1,(q2 c.2 cu).1⟩,by rw[o2,o2];exact two' _ _ _ _ (q2 c.2 cu).2⟩
   |true=>simp only[pth,hf,ha,Zbi,if_true];exact⟨cu,Wc _ _⟩
 |iff f a b q1 q2 q3=>
  intro c cu;cases hf:isV f with
  |false=>simp only[pth,hf,Zbi,p1c,p2c,p1o,p2o,p1i,OG,if_false];exact⟨⟨(q1 c.1 cu).1,c.2.1,c.2.2⟩,by rw[i2,i2];exact two _ _ _ _ (q1 c.1 cu).2⟩
  |true=>simp only[pth,hf,Zbi,if_true];exact⟨cu,Wc _ _⟩
def Zi4{t u:T}(nv:isV t=WA)(c:Gn.Cl [] t)(hz:t.size<=120)(e:next t=Wx u):Gn.Cl [] u/\u.size<=40000:=by obtain⟨v,e1,rfl⟩:=Oo.mp e;obtain⟨r1,r2,r3⟩:=ZcI t nv c;obtain⟨b1,b2⟩:=Zrw (bot t) v r1 r2 (by lia) e1;obtain⟨p1,p2⟩:=Zn0 t v c b1;have:(bot t).size * 300<=120 * 300:=Nat.mul_le_mul_right _ (by lia);exact⟨p1,by lia⟩
end Tm
end
section
namespace Tm
open PySem L2 IV
variable {P:Pg}
noncomputable def row:Nat->T->List T×Str
 |0,t=>([t],if isV t then O "value" else match next t with
  |none=>O "stuck"
  |some _=>O "open")
 |m+1,t=>if isV t then([t],O "value")else match next t with
  |none=>([t],O "stuck")
  |some u=>if 120<u.size then([t],O "wide")else(t::(row m u).1,(row m u).2)
def ZsD(H:Trw P)(n:Nat)(t:T)(hz:t.size<=800000)(h:Hd):run P (n+3) (O "is_wide") [t.d] h=.ok (.bl (WB (120<t.size))) (h++[.lst (t.places.map T.d),.lst []]):=by
 rw[Zc H.is_wide (by rfl)];have e:=Gn.ZnJ H.toTrm.toTre H.pl n t h hz;have gw:=H.gw;generalize P.G=PG at gw;have l:(h++[DO.lst (t.places.map T.d),.lst []])[h.length]? = Wx (.lst (t.places.map T.d)):=by simp
 have c:WB ((120:Int)<(t.places.length:Int))=WB (120<t.size):=by
  rw[Bool.eq_iff_iff];simp only[decide_eq_true_eq];unfold T.size
  lia
 simp[Zbu,Zhv,Zu,e,gw,ZbJ,ZjU,seqOf,lstOf,c]
noncomputable def rw1:Sx:=(.iff (.ex (.cmp .Gt (.blt .len (.cons (.var 2) .nil)) (.var 1))) (.cons (.ret (.tupl (.cons (.var 2) (.cons (.cst (.str (O "open"))) .nil)))) .nil) .nil)
noncomputable def rw2:Sx:=(.iff (.ex (.call (O "is_wide") (.cons (.ix (.var 3) (.cst (.int 1))) .nil))) (.cons (.ret (.tupl (.cons (.var 2) (.cons (.cst (.str (O "wide"))) .nil)))) .nil) .nil)
noncomputable def rw3:Sx:=(.drp (.meth .app (.var 2) (.cons (.ix (.var 3) (.cst (.int 1))) .nil)))
noncomputable def rw4:Sx:=(.set (.nm 3) (.call (O "stepped") (.cons (.ix (.var 3) (.cst (.int 1))) .nil)))
noncomputable def Zkv:Sxs:=.cons rw1 (.cons rw2 (.cons rw3 (.cons rw4 .nil)))
noncomputable def rwc:Tx:=(.ex (.cmp .Eq (.ix (.var 3) (.cst (.int 0))) (.cst (.str (O "loud")))))
noncomputable def rwR:Sxs:=(.cons (.ret (.tupl (.cons (.var 2) (.cons (.ix (.var 3) (.cst (.int 0))) .nil)))) .nil)
noncomputable def rwF(U:Tb)(r:R (Fl×Ev)):R D:=Zh (r.bnd λp h1=>match p with
 |(.nx,ρ1)=>xs2 U rwR ρ1 h1
 |p=>.ok p h1)
noncomputable def vr(E:D)(M rk:Nat)(a:D):Ev:=[Wx E,Wx (.int (M:Int)),Wx (.ref rk),Wx a]
theorem ZrS(H:Trw P)(n:Nat)(M:Nat)(hM:M<=1000):∀(m:Nat) (t:T) (A:List T) (g:Hd) (fuel:Nat),A.length+m=M->m<fuel->Gn.Cl [] t->t.size<=120->∃g',
 rwF (P.tbl (n+7)) (ZO (tst (P.tbl (n+7)) rwc) (xs2 (P.tbl (n+7)) Zkv) fuel (vr E M h.length (ans t)) (h++.lst ((A++[t]).map T.d)::g))=.ok (.tup [.ref h.length,.str (row m t).2]) (h++.lst ((A++(row m t).1).map T.d)::g')
 |m,t,A,g,0,_,hf,_,_=>by lia
 |m,t,A,g,fuel+1,hA,hf,c,hz=>by
  have stop:∀w:Str,w≠O "loud" -> ans t=.tup [.str w]->row m t=([t],w)->∃g',rwF (P.tbl (n+7)) (ZO (tst (P.tbl (n+7)) rwc) (xs2 (P.tbl (n+7)) Zkv) (fuel+1) (vr E M h.length (ans t)) (h++.lst ((A++[t]).map T.d)::g))=.ok (.tup [.ref h.length,.str (row m t).2]) (h++.lst ((A++(row m t).1).map T.d)::g'):=by intro w hw e1 e2;rw[e1,e2];exact⟨g,(congrArg (rwF _) (ZhB (Zm (Zak rfl rfl) (decide_eq_false hw)))).trans rfl⟩
  cases nv:isV t with
  |true=>exact stop (O "value") (by simp) (by simp[ans,nv]) (by cases m<;>simp[row,nv])
  |false=>
   cases hn:next t with
   |none=>exact stop (O "stuck") (by simp) (by simp[ans,nv,hn]) (by cases m<;>simp[row,nv,hn])
   |some u=>
    obtain⟨cu,su⟩:=Zi4 nv c hz hn;rw[show ans t=.tup [.str (O "loud"),u.d] by simp[ans,nv,hn]];have te:∀h',tst (P.tbl (n+7)) rwc (vr E M h.length (.tup [.str (O "loud"),u.d])) h'=.ok Wz h':=λh'=>Zm (Zak rfl rfl) (decide_eq_true rfl);have tl:∀g,tst (P.tbl (n+7)) (.ex (.cmp .Gt (.blt .len (.cons (.var 2) .nil)) (.var 1))) (vr E M h.length (.tup [.str (O "loud"),u.d])) (h++.lst ((A++[t]).map T.d)::g)=.ok (WB ((M:Int)<((A++[t]).map T.d).length)) (h++.lst ((A++[t]).map T.d)::g):=λg=>ZtO (Zpc rfl (ZlR Zc2)) rfl;cases m with
    |zero=>
     have e:row 0 t=([t],O "open"):=by simp[row,nv,hn]
     rw[e];exact⟨g,(congrArg (rwF _) (Ziz (te _) (Zf ((Zs (Zm (tl g) (decide_eq_true (by simp;lia)))).trans (Zf (Zx (ZV (Zb rfl (Zb rfl rfl)) (by simp)))))))).trans rfl⟩
    |succ m=>
     have x1:=(Zt (U:=P.tbl (n+7)) (a:=.cons (.ret (.tupl (.cons (.var 2) (.cons (.cst (.str (O "open"))) .nil)))) .nil) (b:=.nil) (Zm (tl g) (decide_eq_false (by simp;lia)))).trans rfl;obtain⟨g1,ew⟩:∃g1,run P (n+7) (O "is_wide") [u.d] (h++.lst ((A++[t]).map T.d)::g)=.ok (.bl (WB (120<u.size))) (h++.lst ((A++[t]).map T.d)::g1):=⟨_,(ZsD H (n+4) u (by lia) _).trans (by rw[Oz];rfl)⟩
     by_cases hw:120<u.size
     . have e:row (m+1) t=([t],O "wide"):=by simp[row,nv,hn,hw]
       rw[e];rw[decide_eq_true hw]at ew;exact⟨g1,(congrArg (rwF _) (Ziz (te _) ((Za x1).trans (Zf ((Zs (Zc1 (Zl ew rfl))).trans (Zf (Zx (ZV (Zb rfl (Zb rfl rfl)) (by simp))))))))).trans rfl⟩
     . have er:row (m+1) t=(t::(row m u).1,(row m u).2):=by simp[row,nv,hn,hw]
       rw[decide_eq_false hw]at ew;have ap:=Zbx (d:=u.d) (Zc2 (h:=h) (x:=.lst ((A++[t]).map T.d)) (r:=g1)) (by rw[YC];simp;lia);rw[ZnS,show(A++[t]).map T.d++[u.d]=(A++[t]++[u]).map T.d by simp]at ap;obtain⟨g2,es⟩:=Zha H.toTrm n (h:=h++.lst ((A++[t]++[u]).map T.d)::g1) u cu (by lia);obtain⟨g',e⟩:=ZrS H n (h:=h) (E:=E) M hM m u (A++[t]) (g1++g2) fuel (by simp;lia) (by lia) cu (by lia);rw[er,show A++(t::(row m u).1,(row m u).2).1=A++[t]++(row m u).1 by simp];refine⟨g',(congrArg (rwF _) (Zfq (te _) ((Za x1).trans ((Za ((Zt (Zc1 (Zl ew rfl))).trans rfl)).trans ((Za (Zdm (Zfm rfl Zc2 (Zb rfl rfl) ap))).trans ((Za (Zj (Zl es rfl))).trans rfl)))))).trans ?_⟩;rw[Oz h];exact e
def ZuU(H:Trw P)(n:Nat)(t:T)(M:Nat)(hM:M<=1000)(c:Gn.Cl [] t)(hz:t.size<=120)(h:Hd):∃g,run P (n+8) (O "row_of") [t.d,.int (M:Int)] h=.ok (.tup [.ref h.length,.str (row M t).2]) (h++.lst ((row M t).1.map T.d)::g):=by rw[Zc H.row_of (by rfl)];obtain⟨g1,es⟩:=Zha H.toTrm n (h:=h++[.lst [t.d]]) t c (by lia);have big:=H.big;obtain⟨g',e⟩:=ZrS H n (h:=h) (E:=t.d) M hM M t [] g1 P.L (by simp) (by lia) c hz;refine⟨g',Eq.trans ?_ e⟩;have w:xs2 (P.tbl (n+7)) ZjQ [Wx t.d,Wx (.int (M:Int)),Wy,Wy] h=xs2 (P.tbl (n+7)) (.cons (.whl rwc Zkv) rwR) (vr t.d M h.length (ans t)) (h++.lst [t.d]::g1):=(Za (Zj (Zjv (Zb rfl rfl) (by simp)))).trans ((Za (Zj (Zl es rfl))).trans (by rw[Oz];rfl));exact congrArg Zh w
end Tm
end
section
namespace Rw
open PySem L2 IV Gn
theorem ZoV(x:Str):∀ar:Ar,Tm.get (ra ar) x=(ar.get x).map rd
 |.nil=>rfl
 |.cons y v r=>by
  rw[ra,Tm.get,Ar.get];split
  . rfl
  . exact ZoV x r
mutual
theorem ZrL:∀v:Th,Zch v->Cl [] (rd v)
 |.num n,h=>by rw[rd];exact h
 |.clo E ar,h=>by rw[rd];exact Tm.Zbj E (kp_ra ar h.2.2) h.2.1
theorem kp_ra:∀ar:Ar,ArOk ar->Tm.Kp (ra ar) ar.keys []
 |.nil,_=>λx hx=>by cases hx
 |.cons y v r,h=>λx hx=>by
  rw[ra,Tm.get];split
  . exact .inl ⟨rd v,rfl,ZrL v h.1⟩
  . rename_i ne;rcases O3.mp hx with e|hx
    . exact absurd e.symm ne
    . exact kp_ra r h.2 x hx
end
theorem Zj1:∀{ar:Ar}{x:Str}{V:T},ArOk ar->Tm.get (ra ar) x=Wx V->Cl [] V
 |.nil,x,V,_,e=>by cases e
 |.cons y v r,x,V,h,e=>by
  rw[ra,Tm.get]at e;split at e
  . cases e;exact ZrL v h.1
  . exact Zj1 h.2 e
def Zmq(h:Zch v):Tm.isV (rd v)=Wz:=by
 cases v with
 |num n=>rfl
 |clo E ar=>
  cases E with
  |fn x e=>rfl
  |rcc f x e=>rfl
  |_=>cases h.1
theorem Zb5:∀(t:T) {sc:List Str}{ar:List (Str×Option T)},Cl sc t->(∀y∈sc,Tm.get ar y=Wy)->Tm.sub ar t=t
 |.num _,_,_,_,_=>rfl
 |.name x,_,_,c,n=>by rw[Tm.sub,n x c];rfl
 |.fn x e,sc,ar,c,n=>by
  rw[Tm.sub,Zb5 e (sc:=x::sc) c λy hy=>?_];rw[Tm.get];split
  . rfl
  . rename_i ne;rcases O3.mp hy with q|q
    . exact absurd q.symm ne
    . exact n y q
 |.rcc f x e,sc,ar,c,n=>by
  rw[Tm.sub,Zb5 e (sc:=x::f::sc) c.1 λy hy=>?_];rw[Tm.get];split
  . rfl
  . rename_i nf;rw[Tm.get];split
    . rfl
    . rename_i nx;rcases O3.mp hy with q|q
      . exact absurd q.symm nx
      . rcases O3.mp q with q|q
        . exact absurd q.symm nf
        . exact n y q
 |.call f a,_,_,c,n=>by rw[Tm.sub,Zb5 f c.1 n,Zb5 a c.2 n]
 |.iff p q r,_,_,c,n=>by rw[Tm.sub,Zb5 p c.1 n,Zb5 q c.2.1 n,Zb5 r c.2.2 n]
 |.op w f a,_,_,c,n=>by rw[Tm.sub,Zb5 f c.1 n,Zb5 a c.2 n]
def Cmp(r t k:List (Str×Option T)):Prop:=∀x,(∃V,Tm.get r x=Wx V/\Tm.get k x=Wx V/\Cl [] V)\/(Tm.get r x=Wy/\Tm.get k x=Tm.get t x)
def Cmp.none(c:Cmp r t k)(y:Str):Cmp ((y,Wy)::r) ((y,Wy)::t) ((y,Wy)::k):=λx=>by
 simp only[Tm.get];split
 . exact .inr ⟨rfl,rfl⟩
 . exact c x
theorem ZaG:∀(e:T) {r t k:List (Str×Option T)},Cmp r t k->Tm.sub t (Tm.sub r e)=Tm.sub k e
 |.num _,_,_,_,_=>rfl
 |.name x,r,t,k,c=>by
  rcases c x with ⟨V,e1,e2,cl⟩|⟨e1,e2⟩
  . simp only[Tm.sub,e1,e2,Option.getD_some];exact Zb5 V cl (λy hy=>by cases hy)
  . simp only[Tm.sub,e1,e2,Option.getD_none]
 |.fn x e,_,_,_,c=>by rw[Tm.sub,Tm.sub,Tm.sub,ZaG e (c.none x)]
 |.rcc f x e,_,_,_,c=>by rw[Tm.sub,Tm.sub,Tm.sub,ZaG e ((c.none x).none f)]
 |.call f a,_,_,_,c=>by rw[Tm.sub,Tm.sub,Tm.sub,ZaG f c,ZaG a c]
 |.iff p q s,_,_,_,c=>by rw[Tm.sub,Tm.sub,Tm.sub,ZaG p c,ZaG q c,ZaG s c]
 |.op w f a,_,_,_,c=>by rw[Tm.sub,Tm.sub,Tm.sub,ZaG f c,ZaG a c]
def Zst{x:Str}{A:T}(ok:ArOk ar):Tm.sub [(x,Wx A)] (Tm.sub ((x,Wy)::ra ar) e)=Tm.sub ((x,Wx A)::ra ar) e:=by
 refine ZaG e λy=>?_;simp only[Tm.get];split
 . exact .inr ⟨rfl,rfl⟩
 . cases q:Tm.get (ra ar) y with
   |none=>exact .inr ⟨rfl,rfl⟩
   |some V=>exact .inl ⟨V,rfl,rfl,Zj1 ok q⟩
def ZpT{f x:Str}(ne:f≠x){F A:T}(ok:ArOk ar):Tm.sub [(f,Wx F),(x,Wx A)] (Tm.sub ((f,Wy)::(x,Wy)::ra ar) e)=Tm.sub ((x,Wx A)::(f,Wx F)::ra ar) e:=by
 refine ZaG e λy=>?_;simp only[Tm.get];by_cases q1:f=y
 . subst q1;rw[if_pos rfl,if_neg (YL ne),if_pos rfl,if_pos rfl];exact .inr ⟨rfl,rfl⟩
 . rw[if_neg q1,if_neg q1,if_neg q1];by_cases q2:x=y
   . rw[if_pos q2,if_pos q2,if_pos q2];exact .inr ⟨rfl,rfl⟩
   . rw[if_neg q2,if_neg q2,if_neg q2];cases q:Tm.get (ra ar) y with
     |none=>exact .inr ⟨rfl,rfl⟩
     |some V=>exact .inl ⟨V,rfl,rfl,Zj1 ok q⟩
noncomputable def fw:Wt->T->T
 |.arg A ar,t=>.call t (Tm.sub (ra ar) A)
 |.fn V,t=>.call (rd V) t
 |.iff a b ar,t=>.iff t (Tm.sub (ra ar) a) (Tm.sub (ra ar) b)
 |.right w F ar,t=>.op w t (Tm.sub (ra ar) F)
 |.left w V,t=>.op w (rd V) t
noncomputable def rnd(ws:List Wt)(t:T):T:=ws.foldl (λt w=>fw w t) t
noncomputable def read:Sta->T
 |.go E ar ws=>rnd ws (Tm.sub (ra ar) E)
 |.back V ws=>rnd ws (rd V)
structure Wn(t t':T)(k:Nat)(f:T->T):Prop where
 v:Tm.isV t'=WA
 l:(Tm.pth t').length=(Tm.pth t).length+k
 b:Tm.bot t'=Tm.bot t
 p:∀u,Tm.Zbi (Tm.pth t') u=f (Tm.Zbi (Tm.pth t) u)
def ZvP(ok:Zc3 w)(nv:Tm.isV t=WA):Wn t (fw w t) 1 (fw w):=by
 cases w with
 |arg A ar=>exact⟨rfl,by simp[fw,Tm.pth,nv],by simp[fw,Tm.bot,nv],λu=>by simp[fw,Tm.pth,nv,Tm.Zbi,Tm.ZcT]⟩
 |fn V=>have v:=Zmq ok;exact⟨rfl,by simp[fw,Tm.pth,nv,v],by simp[fw,Tm.bot,nv,v],λu=>by simp[fw,Tm.pth,nv,v,Tm.Zbi,Tm.ZcT]⟩
 |iff a b ar=>exact⟨rfl,by simp[fw,Tm.pth,nv],by simp[fw,Tm.bot,nv],λu=>by simp[fw,Tm.pth,nv,Tm.Zbi,Tm.ZcT]⟩
 |right w F ar=>exact⟨rfl,by simp[fw,Tm.pth,nv],by simp[fw,Tm.bot,nv],λu=>by simp[fw,Tm.pth,nv,Tm.Zbi,Tm.ZcT]⟩
 |left w V=>have v:=Zmq ok;exact⟨rfl,by simp[fw,Tm.pth,nv,v],by simp[fw,Tm.bot,nv,v],λu=>by simp[fw,Tm.pth,nv,v,Tm.Zbi,Tm.ZcT]⟩
theorem ZnE:∀(ws:List Wt) {t:T},(∀w∈ws,Zc3 w)->Tm.isV t=WA->Wn t (rnd ws t) ws.length (rnd ws)
 |[],t,_,nv=>⟨nv,rfl,rfl,λ_=>rfl⟩
 |w::ws,t,ok,nv=>by have a:=ZvP (ok w Oi) nv;have b:=ZnE ws (λx hx=>ok x (Oh _ hx)) a.v;exact⟨b.v,by rw[show rnd (w::ws) t=rnd ws (fw w t)from rfl,b.l,a.l,Os];lia,b.b.trans a.b,λu=>by rw[show rnd (w::ws) t=rnd ws (fw w t)from rfl,b.p,a.p];rfl⟩
def ZsB(ok:∀w∈ws,Zc3 w)(nv:Tm.isV t=WA)(hp:Tm.pth t=[])(hb:Tm.bot t=t):Tm.isV (rnd ws t)=WA/\Tm.next (rnd ws t)=(Tm.bec t).map (rnd ws)/\(Tm.pth (rnd ws t)).length=ws.length:=by have a:=ZnE ws ok nv;refine⟨a.v,?_,by rw[a.l,hp];exact Nat.zero_add _⟩;unfold Tm.next;rw[a.b,hb];refine congrArg (λf=>(Tm.bec t).map f) ?_;funext u;rw[a.p,hp];rfl
def At(s:Sta):Prop:=Tm.isV (read s)=WA/\∃V ws,s=.back V ws/\(Tm.pth (read s)).length+1=ws.length
def Sim(s:Sta):Ans->Prop
 |.quiet s'=>read s'=read s
 |.loud s'=>At s/\Tm.next (read s)=Wx (read s')
 |.value=>∃V,s=.back V []/\Tm.isV (read s)=Wz
 |.stuck=>At s/\Tm.next (read s)=Wy
def ZiD(s:Sta)(ok:ZdK s):Sim s (step s):=by
 cases s with
 |go E ar ws=>
  cases E with
  |num z=>exact rfl
  |name x=>
   obtain⟨v,e⟩:=Ar.get_some (ar:=ar) ok.1;have:step (.go (.name x) ar ws)=.quiet (.back v ws):=by simp only[step,thing,e]
   rw[this];show rnd ws (rd v)=rnd ws (Tm.sub (ra ar) (.name x));rw[Tm.sub,ZoV,e];rfl
  |fn x e=>exact rfl
  |rcc f x e=>exact rfl
  |call F A=>exact rfl
  |iff C t e=>exact rfl
  |op w x y=>exact rfl
 |back V ws=>
  cases ws with
  |nil=>exact⟨V,rfl,Zmq ok.1⟩
  |cons w r=>
   have okr:∀x∈r,Zc3 x:=λx hx=>ok.2 x (Oh _ hx);have okw:=ok.2 w Oi;have vV:=Zmq ok.1;have at':∀t:T,fw w (rd V)=t->Tm.isV t=WA->Tm.pth t=[]->Tm.bot t=t->At (.back V (w::r))/\Tm.next (read (.back V (w::r)))=(Tm.bec t).map (rnd r):=λt e nv hp hb=>by
    have q:=ZsB okr nv hp hb;have e2:read (.back V (w::r))=rnd r t:=by rw[<- e];rfl
    exact⟨⟨by rw[e2];exact q.1,V,w::r,rfl,by rw[e2,q.2.2];rfl⟩,by rw[e2];exact q.2.1⟩
   cases w with
   |arg A ar=>exact rfl
   |right w F ar=>exact rfl
   |fn W=>
    have vW:=Zmq okw;obtain⟨a,n⟩:=at' _ rfl rfl (by simp[fw,Tm.pth,vV,vW]) (by simp[fw,Tm.bot,vV,vW]);cases W with
    |num z=>exact⟨a,n⟩
    |clo E ar=>
     cases E with
     |fn x e=>refine⟨a,n.trans ?_⟩;show Wx (rnd r (Tm.sub [(x,Wx (rd V))] (Tm.sub ((x,Wy)::ra ar) e)))=Wx (rnd r (Tm.sub ((x,Wx (rd V))::ra ar) e));rw[Zst okw.2.2]
     |rcc f x e=>refine⟨a,n.trans ?_⟩;have ne:=okw.2.1.2;show Wx (rnd r (Tm.sub (Tm.Fil.ar (Tm.Za5 f (rd (.clo (.rcc f x e) ar)) x (rd V))) (Tm.sub ((f,Wy)::(x,Wy)::ra ar) e)))=Wx (rnd r (Tm.sub ((x,Wx (rd V))::(f,Wx (rd (.clo (.rcc f x e) ar)))::ra ar) e));rw[<- ZpT ne okw.2.2,Tm.Za5,if_neg ne];rfl
     |_=>cases okw.1
   |iff t e ar=>
    obtain⟨a,n⟩:=at' _ rfl rfl (by simp[fw,Tm.pth,vV]) (by simp[fw,Tm.bot,vV]);cases V with
    |num z=>refine⟨a,n.trans ?_⟩;show Wx (rnd r (if z=0 then Tm.sub (ra ar) e else Tm.sub (ra ar) t))=Wx (rnd r (Tm.sub (ra ar) (if z=0 then e else t)));split<;>rfl
    |clo E ar'=>
     cases E with
     |fn x e=>exact⟨a,n⟩
     |rcc f x e=>exact⟨a,n⟩
     |_=>cases ok.1.1
   |left w W=>
    have vW:=Zmq okw;obtain⟨a,n⟩:=at' _ rfl rfl (by simp[fw,Tm.pth,vV,vW]) (by simp[fw,Tm.bot,vV,vW]);cases W with
    |num y=>
     cases V with
     |num z=>exact⟨a,n⟩
     |clo E ar'=>
      cases E with
      |fn x e=>exact⟨a,n⟩
      |rcc f x e=>exact⟨a,n⟩
      |_=>cases ok.1.1
    |clo E ar'=>
     cases E with
     |fn x e=>exact⟨a,n⟩
     |rcc f x e=>exact⟨a,n⟩
     |_=>cases okw.1
end Rw
end
section
namespace Rw
open PySem L2 IV Gn
section
variable {N:Nat}
def Bd(N:Nat)(E:T)(ar:Ar):Prop:=ar.len+2 * E.size<=2 * N
mutual
def ThN(N:Nat):Th->Prop
 |.num _=>True
 |.clo E ar=>Bd N E ar/\ArN N ar
def ArN(N:Nat):Ar->Prop
 |.nil=>True
 |.cons _ v r=>ThN N v/\ArN N r
end
def WtN(N:Nat):Wt->Prop
 |.arg A ar=>Bd N A ar/\ArN N ar
 |.fn V=>ThN N V
 |.iff t e ar=>(Bd N t ar/\Bd N e ar)/\ArN N ar
 |.right _ F ar=>Bd N F ar/\ArN N ar
 |.left _ V=>ThN N V
def StN(N:Nat):Sta->Prop
 |.go E ar ws=>Bd N E ar/\ArN N ar/\∀w∈ws,WtN N w
 |.back V ws=>ThN N V/\∀w∈ws,WtN N w
theorem ZjX:∀{ar:Ar},ArN N ar->ar.get x=Wx v->ThN N v
 |.nil,_,e=>by cases e
 |.cons y u r,h,e=>by
  rw[Ar.get]at e;split at e
  . cases e;exact h.1
  . exact ZjX h.2 e
def ZcJ(h:Bd N E ar)(hf:F∈E.parts):Bd N F ar:=by
 have:=Tm.ZhQ hf;unfold Bd at *
 lia
def ZiE(ok:ZdK s)(b:StN N s)(e:step s=.quiet s'\/step s=.loud s'):ZdK s'/\StN N s':=by
 cases s with
 |go E ar ws=>
  cases E with
  |num z=>rcases e with e|e<;>cases e;exact⟨⟨ok.1,ok.2.2⟩,trivial,b.2.2⟩
  |name x=>
   obtain⟨v,q⟩:=Ar.get_some (ar:=ar) ok.1;have:step (.go (.name x) ar ws)=.quiet (.back v ws):=by simp only[step,thing,q]
   rw[this]at e;rcases e with e|e<;>cases e;exact⟨⟨Zhz ok.2.1 q,ok.2.2⟩,ZjX b.2.1 q,b.2.2⟩
  |fn x f=>rcases e with e|e<;>cases e;exact⟨⟨⟨rfl,ok.1,ok.2.1⟩,ok.2.2⟩,⟨b.1,b.2.1⟩,b.2.2⟩
  |rcc g x f=>rcases e with e|e<;>cases e;exact⟨⟨⟨rfl,ok.1,ok.2.1⟩,ok.2.2⟩,⟨b.1,b.2.1⟩,b.2.2⟩
  |call F A=>rcases e with e|e<;>cases e;exact⟨⟨ok.1.1,ok.2.1,Zal ⟨ok.1.2,ok.2.1⟩ ok.2.2⟩,ZcJ b.1 (by simp[T.parts]),b.2.1,Zal ⟨ZcJ b.1 (by simp[T.parts]),b.2.1⟩ b.2.2⟩
  |iff C t f=>rcases e with e|e<;>cases e;exact⟨⟨ok.1.1,ok.2.1,Zal ⟨ok.1.2.1,ok.1.2.2,ok.2.1⟩ ok.2.2⟩,ZcJ b.1 (by simp[T.parts]),b.2.1,Zal ⟨⟨ZcJ b.1 (by simp[T.parts]),ZcJ b.1 (by simp[T.parts])⟩,b.2.1⟩ b.2.2⟩
  |op w x y=>rcases e with e|e<;>cases e;exact⟨⟨ok.1.1,ok.2.1,Zal ⟨ok.1.2,ok.2.1⟩ ok.2.2⟩,ZcJ b.1 (by simp[T.parts]),b.2.1,Zal ⟨ZcJ b.1 (by simp[T.parts]),b.2.1⟩ b.2.2⟩
 |back V ws=>
  cases ws with
  |nil=>rcases e with e|e<;>cases e
  |cons w r=>
   have okr:∀x∈r,Zc3 x:=λx hx=>ok.2 x (Oh _ hx);have br:∀x∈r,WtN N x:=λx hx=>b.2 x (Oh _ hx);have okw:=ok.2 w Oi;have bw:=b.2 w Oi;cases w with
   |arg A ar=>rcases e with e|e<;>cases e;exact⟨⟨okw.1,okw.2,Zal ok.1 okr⟩,bw.1,bw.2,Zal b.1 br⟩
   |right w F ar=>rcases e with e|e<;>cases e;exact⟨⟨okw.1,okw.2,Zal ok.1 okr⟩,bw.1,bw.2,Zal b.1 br⟩
   |fn W=>
    cases W with
    |num z=>rcases e with e|e<;>cases e
    |clo E ar=>
     cases E with
     |fn x f=>
      rcases e with e|e<;>cases e;refine⟨⟨okw.2.1,⟨ok.1,okw.2.2⟩,okr⟩,?_,⟨b.1,bw.2⟩,br⟩;have h1:=bw.1;have h2:=Tm.Zd (.fn x f);simp only[T.parts,Op,Oy,OI,List.sum_nil]at h2;unfold Bd at *;rw[Ar.len]
      lia
     |rcc g x f=>
      rcases e with e|e<;>cases e;refine⟨⟨okw.2.1.1,⟨ok.1,okw,okw.2.2⟩,okr⟩,?_,⟨b.1,bw,bw.2⟩,br⟩;have h1:=bw.1;have h2:=Tm.Zd (.rcc g x f);simp only[T.parts,Op,Oy,OI,List.sum_nil]at h2;unfold Bd at *;rw[Ar.len,Ar.len]
      lia
     |_=>cases okw.1
   |iff t f ar=>
    cases V with
    |num z=>
     rcases e with e|e<;>cases e;by_cases q:z=0
     . simp only[q,if_true];exact⟨⟨okw.2.1,okw.2.2,okr⟩,bw.1.2,bw.2,br⟩
     . simp only[if_neg q];exact⟨⟨okw.1,okw.2.2,okr⟩,bw.1.1,bw.2,br⟩
    |clo E ar'=>rcases e with e|e<;>cases e
   |left w W=>
    cases W with
    |num y=>
     cases V with
     |num z=>rcases e with e|e<;>cases e;exact⟨⟨wk_ok w y z,okr⟩,trivial,br⟩
     |clo E ar'=>rcases e with e|e<;>cases e
    |clo E ar'=>rcases e with e|e<;>cases e
noncomputable def wm:Wt->Nat
 |.arg A _=>2 * A.size+1
 |.right _ F _=>2 * F.size+1
 |_=>0
noncomputable def wms(ws:List Wt):Nat:=(ws.map wm).sum
noncomputable def ms:Sta->Nat
 |.go E _ ws=>2 * E.size+wms ws
 |.back _ ws=>wms ws
def Zci(w:Wt)(ws:List Wt):wms (w::ws)=wm w+wms ws:=by simp[wms]
def Zrc(w:Wt)(t:T):t.size+1<=(fw w t).size:=by
 cases w with
 |arg A ar=>rw[fw,Tm.Zd (.call _ _)];simp[T.parts];lia
 |fn V=>rw[fw,Tm.Zd (.call _ _)];simp[T.parts];lia
 |iff a b ar=>rw[fw,Tm.Zd (.iff _ _ _)];simp[T.parts];lia
 |right w F ar=>rw[fw,Tm.Zd (.op _ _ _)];simp[T.parts];lia
 |left w V=>rw[fw,Tm.Zd (.op _ _ _)];simp[T.parts];lia
theorem Zc8:∀(ws:List Wt) (t:T),t.size+ws.length<=(rnd ws t).size
 |[],_=>Oq _
 |w::ws,t=>by
  have a:=Zrc w t;have b:=Zc8 ws (fw w t);rw[Os,show rnd (w::ws) t=rnd ws (fw w t)from rfl]
  lia
noncomputable def wts:Sta->List Wt
 |.go _ _ ws=>ws
 |.back _ ws=>ws
def Zix(s:Sta):(wts s).length<=(read s).size:=by
 cases s with
 |go E ar ws=>have:=Zc8 ws (Tm.sub (ra ar) E);exact OE (Wc _ _) this
 |back V ws=>have:=Zc8 ws (rd V);exact OE (Wc _ _) this
end
end Rw
end
section
namespace Dr
open PySem IV Gn
open Rw (Th Ar Wt Zch ArOk Zc3 ZdK StN WtN ThN ArN Bd read wm wms ms)
open Dm (It Lv)
inductive Cx:List Th->Ar->List It->List Wt->Prop
 |nil {ar:Ar}:Cx [] ar [] []
 |app {W:Th}{st:List Th}{ar:Ar}{r:List It}{ws:List Wt} (c:Cx st ar r ws):Cx (W::st) ar (.app::r) (.fn W::ws)
 |arg {A:T}{st:List Th}{ar:Ar}{r:List It}{ws:List Wt} (c:Cx st ar r ws):Cx st ar (.ex A::.app::r) (.arg A ar::ws)
 |work {w:Wd}{W:Th}{st:List Th}{ar:Ar}{r:List It}{ws:List Wt} (c:Cx st ar r ws):Cx (W::st) ar (.work w::r) (.left w W::ws)
 |right {w:Wd}{F:T}{st:List Th}{ar:Ar}{r:List It}{ws:List Wt} (c:Cx st ar r ws):Cx st ar (.ex F::.work w::r) (.right w F ar::ws)
 |cho {t e:T}{st:List Th}{ar:Ar}{r:List It}{ws:List Wt} (c:Cx st ar r ws):Cx st ar (.cho t e::r) (.iff t e ar::ws)
inductive Dx:List Lv->List Wt->Prop
 |nil:Dx [] []
 |cons {l:Lv}{d:List Lv}{ws vs:List Wt} (c:Cx l.st l.ar l.todo ws) (x:Dx d vs):Dx (l::d) (ws++vs)
inductive Re:Dm.Sta->Rw.Sta->Prop
 |go {E:T}{st:List Th}{ar:Ar}{r:List It}{d:List Lv}{ws vs:List Wt} (c:Cx st ar r ws) (x:Dx d vs):Re ⟨st,ar,.ex E::r,d⟩ (.go E ar (ws++vs))
 |back {V:Th}{st:List Th}{ar:Ar}{r:List It}{d:List Lv}{ws vs:List Wt} (c:Cx st ar r ws) (x:Dx d vs) (n:∀E q,r≠.ex E::q):Re ⟨V::st,ar,r,d⟩ (.back V (ws++vs))
inductive Qs:Rw.Sta->Rw.Sta->Prop
 |refl {s:Rw.Sta}:Qs s s
 |step {s s' t:Rw.Sta} (e:Rw.step s=.quiet s') (q:Qs s' t):Qs s t
def ZmK(c:Cx st ar r ws)(x:Dx d vs):∃Z,Re ⟨V::st,ar,r,d⟩ Z/\Qs (.back V (ws++vs)) Z:=by
 cases c with
 |nil=>exact⟨_,.back .nil x (λ_ _ z=>by cases z),.refl⟩
 |app c=>exact⟨_,.back (.app c) x (λ_ _ z=>by cases z),.refl⟩
 |arg c=>exact⟨_,.go (.app c) x,.step rfl .refl⟩
 |work c=>exact⟨_,.back (.work c) x (λ_ _ z=>by cases z),.refl⟩
 |right c=>exact⟨_,.go (.work c) x,.step rfl .refl⟩
 |cho c=>exact⟨_,.back (.cho c) x (λ_ _ z=>by cases z),.refl⟩
inductive Sd(s:Dm.Sta)(Z:Rw.Sta):Dm.Ans->Prop
 |quiet {s':Dm.Sta}{σ':Rw.Sta} (r:Re s' σ') (q:Qs Z σ') (hd:s'.dump.length<=s.dump.length):Sd s Z (.quiet s')
 |loud {s':Dm.Sta}{σ1 σ':Rw.Sta} (e:Rw.step Z=.loud σ1) (r:Re s' σ') (q:Qs σ1 σ') (hd:s'.dump.length<=s.dump.length+1) (hs:s'.st.length<=s.st.length) (hl:∀l∈s'.dump,l∈s.dump\/l.st.length<=s.st.length):Sd s Z (.loud s')
 |value (e:Rw.step Z=.value):Sd s Z .value
 |stuck (e:Rw.step Z=.stuck):Sd s Z .stuck
def ZoT:∀l∈(⟨st,ar,r⟩::d:List Lv),l∈d\/l.st.length<=(V::W::st).length:=λl hl=>by
 rcases O3.mp hl with rfl|hl
 . exact .inr (OE (Wo _) (Wo _))
 . exact .inl hl
def sim(r:Re s Z)(ok:ZdK Z):Sd s Z (Dm.step s):=by
 cases r with
 |@go E st ar r d ws vs c x=>
  show Sd _ _ (.quiet (Dm.quiet E st ar r d));cases E with
  |num n=>obtain⟨σ',r,q⟩:=ZmK (V:=.num n) c x;exact .quiet r (.step rfl q) (Oq _)
  |name y=>
   obtain⟨v,e⟩:=Rw.Ar.get_some (show y∈ar.keys from ok.1);have e1:Dm.quiet (.name y) st ar r d=⟨v::st,ar,r,d⟩:=by unfold Dm.quiet;rw[show Rw.thing (.name y) ar=Wx v from e]
   have e2:Rw.step (.go (.name y) ar (ws++vs))=.quiet (.back v (ws++vs)):=by simp only[Rw.step];rw[show Rw.thing (.name y) ar=Wx v from e]
   rw[e1];obtain⟨σ',r,q⟩:=ZmK (V:=v) c x;exact .quiet r (.step e2 q) (Oq _)
  |fn y e=>obtain⟨σ',r,q⟩:=ZmK (V:=.clo (.fn y e) ar) c x;exact .quiet r (.step rfl q) (Oq _)
  |rcc f y e=>obtain⟨σ',r,q⟩:=ZmK (V:=.clo (.rcc f y e) ar) c x;exact .quiet r (.step rfl q) (Oq _)
  |call F A=>exact .quiet (.go (.arg c) x) (.step rfl .refl) (Oq _)
  |iff C t e=>exact .quiet (.go (.cho c) x) (.step rfl .refl) (Oq _)
  |op w a b=>exact .quiet (.go (.right c) x) (.step rfl .refl) (Oq _)
 |@back V st ar r d ws vs c x n=>
  cases c with
  |nil=>
   cases x with
   |nil=>exact .value rfl
   |cons c' x'=>obtain⟨σ',r,q⟩:=ZmK (V:=V) c' x';exact .quiet r q (Wo _)
  |@app W st _ r ws c=>
   have okW:Zch W:=ok.2 _ (Ys _ Oi);cases W with
   |num z=>exact .stuck rfl
   |clo E ar'=>
    cases E with
    |fn y e=>exact .loud rfl (.go .nil (.cons (l:=⟨st,ar,r⟩) c x)) .refl (Oq _) (Yy _) ZoT
    |rcc f y e=>exact .loud rfl (.go .nil (.cons (l:=⟨st,ar,r⟩) c x)) .refl (Oq _) (Yy _) ZoT
    |_=>cases okW.1
  |arg c=>exact absurd rfl (n _ _)
  |right c=>exact absurd rfl (n _ _)
  |@work w W st _ r ws c=>
   cases W with
   |num a=>
    cases V with
    |num b=>obtain⟨σ',r,q⟩:=ZmK (V:=.num (Rw.wk w a b)) c x;exact .loud rfl r q (Wo _) (Wo _) (λl hl=>.inl hl)
    |clo E ar'=>exact .stuck rfl
   |clo E ar'=>exact .stuck rfl
  |@cho t e _ _ r ws c=>
   cases V with
   |num z=>exact .loud rfl (.go c x) .refl (Wo _) (Wo _) (λl hl=>.inl hl)
   |clo E ar'=>exact .stuck rfl
end Dr
end
section
namespace Dr
open PySem IV Gn
open Rw (Th Ar Wt Zch ArOk Zc3 ZdK StN WtN ThN ArN Bd read wm wms ms)
open Dm (It Lv Dmp sd off quiet call choose reckon)
variable {P:Pg}{h:Hd}{N:Nat}
def Cx.len(c:Cx st ar r ws):st.length<=ws.length/\r.length<=2 * ws.length:=by induction c<;>simp_all<;>lia
theorem Dx.len(x:Dx d vs):∀l∈d,l.st.length<=vs.length:=by
 induction x with
 |nil=>intro l hl;cases hl
 |cons c x ih=>
  intro l hl;have:=c.len;rw[OA];rcases O3.mp hl with rfl|hl
  . lia
  . have:=ih l hl;lia
def ZrV(H:Dmp P)(n:Nat)(hi:i.d=.tup (.str w::ds)):tst (P.tbl n) (.ex (.cmp .In (.ix (.ix (.var 1) (.cst (.int 0))) (.cst (.int 0))) (.glo (O "ORDERS")))) [Wx (Dm.Sta.d ⟨st,ar,i::r,d⟩),Wx (.tup ((i::r).map It.d))] h=.ok (WB (w∈[O "apply",O "work",O "choose"])) h:=by
 have eg:ev (P.tbl n) (.glo (O "ORDERS")) [Wx (Dm.Sta.d ⟨st,ar,i::r,d⟩),Wx (.tup ((i::r).map It.d))] h=.ok (.tup [.str (O "apply"),.str (O "work"),.str (O "choose")]) h:=by show R.ofO (P.G (O "ORDERS")) h=_;rw[H.orders];rfl
 exact Zc1 ((Zw (x:=.str w) ((Zr (x:=i.d) ((Zr (x:=.tup (i.d::r.map It.d)) rfl rfl).trans Dm.ZoP) rfl).trans (by rw[hi];exact Dm.ZoP)) eg).trans (Dm.Zhe w))
def Zid(H:Dmp P)(n:Nat){st:List Th}{a:Dm.Ans}(hi:i.d=.tup (.str w::ds))(hw:w∈[O "apply",O "work",O "choose"])(q:run P (n+1) (O "loud_step") [i.d,.tup (Dm.sd st),.tup ar.ds,.tup (r.map It.d),.tup (d.map Lv.d)] h=.ok a.d h):run P (n+2) (O "dump_step") [Dm.Sta.d ⟨st,ar,i::r,d⟩] h=.ok a.d h:=by rw[Zc H.dump_step (by rfl)];exact(congrArg Zh (nx1 (Zj (U:=P.tbl (n+1)) (d:=.tup ((i::r).map It.d)) rfl) rfl)).trans ((Dm.Zfl rfl).trans ((Dm.ZgT (Zm (ZrV H (n+1) hi) (decide_eq_true hw))).trans (Zl q (Zb ((Zr (x:=.tup (i.d::r.map It.d)) rfl rfl).trans Dm.ZoP) (Zb rfl (Zb rfl (Zb (Dm.Zsv (x:=i.d) rfl) (Zb rfl rfl))))))))
def Zp7(H:Dmp P)(n:Nat){s:Dm.Sta}{Z:Rw.Sta}(r:Re s Z)(ok:ZdK Z)(b:StN N Z)(hN2:N<=45000)(hz:(read Z).size<=120)(hd:s.dump.length<=900):run P (n+5) (O "dump_step") [s.d] h=.ok (Dm.step s).d h:=by
 have wl:=Rw.Zix Z;cases r with
 |@go E st ar r d ws vs c x=>have cl:=c.len;rw[show Rw.wts (.go E ar (ws++vs))=ws++vs from rfl,OA]at wl;have q:=Dm.Zp4 H (n+1) (h:=h) E st ar r d ok.1 (by lia) (by lia);have oi:=ZrV (h:=h) H (n+4) (st:=st) (ar:=ar) (r:=r) (d:=d) (i:=.ex E) (Dm.Zt4 E);rw[Dm.Zhf]at oi;rw[Zc H.dump_step (by rfl)];exact(congrArg Zh (nx1 (Zj (U:=P.tbl (n+4)) (d:=.tup ((It.ex E::r).map It.d)) rfl) rfl)).trans ((Dm.Zfl rfl).trans ((Dm.Zfl oi).trans (Dm.Zh6.trans (ZV (Zb rfl (Zb (Zl q rfl) rfl)) (Dm.le1 rfl)))))
 |@back V st ar r d ws vs c x nn=>
  have cl:=c.len;have xl:=x.len;rw[show Rw.wts (.back V (ws++vs))=ws++vs from rfl,OA]at wl;have okV:=ok.1;cases c with
  |nil=>
   have q:=Dm.ZuV H (n+3) (h:=h) V [] d (λl hl=>by have:=xl l hl;lia);have e:Dm.step ⟨[V],ar,[],d⟩=off V d:=by cases d<;>rfl
   rw[e,Zc H.dump_step (by rfl)];exact(congrArg Zh (nx1 (Zj (U:=P.tbl (n+4)) (d:=.tup []) rfl) rfl)).trans ((Dm.ZgT rfl).trans (Zl q rfl))
  |@app W st _ r ws c=>have okW:Zch W:=ok.2 _ (Ys _ Oi);have bW:ThN N W:=b.2 _ (Ys _ Oi);exact Zid H (n+3) rfl (by decide) (Dm.Zu0 H n (h:=h) W V st ar r d okW (λE ar' e=>by subst e;have:=bW.1;unfold Bd at this;lia) (by simp only at hd;lia))
  |arg c=>exact absurd rfl (nn _ _)
  |right c=>exact absurd rfl (nn _ _)
  |@work w W st _ r ws c=>have okW:Zch W:=ok.2 _ (Ys _ Oi);exact Zid H (n+3) rfl (by decide) (Dm.ZsC H (n+1) (h:=h) w W V st ar r d okW okV (by simp only[Os]at cl wl;lia))
  |@cho t e _ _ r ws c=>exact Zid H (n+3) rfl (by decide) (Dm.ZuZ H (n+1) (h:=h) V t e st ar r d (by simp only[Os]at cl wl;lia))
end Dr
end
section
namespace Pw
open PySem L2 IV
noncomputable def Zbs:Sxs:=(.cons (.drp (.mcl (O "Pen") (O "take_place") (.var 0) .nil)) (.cons (.ret (.bin .Add (.var 1) (.var 2))) .nil))
noncomputable def ZaO:Fd:=⟨[(O "self"),(O "front"),(O "parts")],[(O "self"),(O "front"),(O "parts")],Zbs⟩
noncomputable def Zed:Sxs:=(.cons (.set (.nm 2) (.call (O "opened") (.cons (.var 1) .nil))) (.cons (.ret (.mcl (O "Pen") (O "filled") (.var 0) (.cons (.ix (.var 2) (.cst (.int 0))) (.cons (.ix (.var 2) (.cst (.int 1))) .nil)))) .nil))
noncomputable def ZbI:Fd:=⟨[(O "self"),(O "thing")],[(O "self"),(O "thing"),(O "pair")],Zed⟩
structure Pnw(P:Pg):Prop where
 t:Tm.Trb P
 wd:Tm.Wid P
 gw:P.G (O "WIDEST")=Wx (.int 120)
 n_Pen_joined:P.tb.lookup (mnm (O "Pen") (O "joined"))=Wy
 Pen_joined:P.ms.lookup (mnm (O "Pen") (O "joined"))=Wx ZaO
 n_Pen_told:P.tb.lookup (mnm (O "Pen") (O "told"))=Wy
 Pen_told:P.ms.lookup (mnm (O "Pen") (O "told"))=Wx ZbI
end Pw
end
section
namespace Pw
open PySem L2 IV Tm
variable {P:Pg}{h0 h:Hd}{pk:Nat}
def ZrJ(q:ev U e S h=r):Zh (xs2 U (.cons (.ret e) .nil) S h)=r:=by rw[xs2,Zfp,q];cases r<;>rfl
theorem Aft.set(a:Aft h0 h pk mo u)(v:Int):Aft h0 (h.set pk (Zas mo v)) pk mo v:=⟨by rw[Ol (ZdU a.1)],by simpa using a.2.1,λi hi hn=>by rw[Oc (YL hn)];exact a.2.2 i hi hn⟩
abbrev Ot(h0:Hd)(pk:Nat)(t:T)(u:Nat)(r:R D):Prop:=Out h0 pk (.int 120) t (u:Int) (120 - u) r
section
variable {u N:Nat} (H:Pnw P) (n:Nat) (hN:1<=N) (hN2:N<=45000)
include H hN hN2
theorem ZlF(t:T)(e:En)(a:Aft h0 h pk (.int 120) (u:Int))(hu:u<=120)(hw:Wok N (t,e)):Ot h0 pk (tel (t,e)) u (run P (n+3) (mnm (O "Pen") (O "filled")) [.ref pk,t.d,.tup (e.map edd)] h):=ZnL H.t n hN hN2 t e a (.inr ⟨by congr 1;lia,.inr H.wd⟩) (by lia) hw
theorem ZhO(t:T)(ar:Rw.Ar)(a:Aft h0 h pk (.int 120) (u:Int))(hu:u<=120)(hw:Wok N (t,up ar)):Ot h0 pk (sub (Rw.ra ar) t) u (run P (n+3) (mnm (O "Pen") (O "filled")) [.ref pk,t.d,.tup ar.ds] h):=by have:=ZlF H n hN hN2 t (up ar) a hu hw;rw[Zls,show tel (t,up ar)=sub (Rw.ra ar) t by show sub (er (up ar)) t=_;rw[Zpd]]at this;exact this
theorem ZsE(v:Rw.Th)(a:Aft h0 h pk (.int 120) (u:Int))(hu:u<=120)(g:Rw.ThG N v):Ot h0 pk (Rw.rd v) u (run P (n+4) (mnm (O "Pen") (O "told")) [.ref pk,v.d] h):=by
 have o:=ZlF H n hN hN2 (opn v).1 (up (opn v).2) a hu (Wok.thing hN g);rw[ZhF,Zls]at o;have x1:xs1 (P.tbl (n+3)) (hdS Zed) [Wx (.ref pk),Wx v.d,Wy] h=.ok (.nx,[Wx (.ref pk),Wx v.d,Wx (.tup [(opn v).1.d,.tup (opn v).2.ds])]) h:=Zj (Zl (ZiS H.t (n+2) v) rfl);have e:run P (n+4) (mnm (O "Pen") (O "told")) [.ref pk,v.d] h=run P (n+3) (mnm (O "Pen") (O "filled")) [.ref pk,(opn v).1.d,.tup (opn v).2.ds] h:=by rw[Zd5 H.n_Pen_told H.Pen_told (by rfl)];exact(congrArg Zh (nx1 (U:=P.tbl (n+3)) (ss:=Zed) x1 rfl)).trans (ZrJ (ZbV rfl a.1 rfl rfl rfl))
 rw[e];exact o
omit hN hN2
theorem Zhb(fs ps:List D)(a:Aft h0 h pk (.int 120) (u:Int))(hu:u<120)(hz:fs.length+ps.length<=1000):run P (n+2) (mnm (O "Pen") (O "joined")) [.ref pk,.tup fs,.tup ps] h=.ok (.tup (fs++ps)) (h.set pk (Zas (.int 120) ((u:Int)+1))):=by have e:=ZnI H.t n (u:=(u:Int)) (.inr ⟨120,rfl,by lia⟩) a.1;rw[Zd5 H.n_Pen_joined H.Pen_joined (by rfl)];have x1:xs1 (P.tbl (n+1)) (hdS Zbs) [Wx (.ref pk),Wx (.tup fs),Wx (.tup ps)] h=.ok (.nx,[Wx (.ref pk),Wx (.tup fs),Wx (.tup ps)]) (h.set pk (Zas (.int 120) ((u:Int)+1))):=Zdm (ZbV rfl a.1 rfl rfl e);exact(congrArg Zh (nx1 (U:=P.tbl (n+1)) (ss:=Zbs) x1 rfl)).trans (ZrJ ((Zk rfl rfl).trans (ZcC (by rw[YC];lia))))
theorem ZiT(fs ps:List D)(a:Aft h0 h pk (.int 120) (120:Int)):run P (n+2) (mnm (O "Pen") (O "joined")) [.ref pk,.tup fs,.tup ps] h=.exc (O "Wide") h:=by have e:=ZiR H.t H.wd n a.1;rw[Zd5 H.n_Pen_joined H.Pen_joined (by rfl)];exact congrArg Zh (Zc4 (U:=P.tbl (n+1)) (r:=tlS Zbs) (Zjz (ZbV rfl a.1 rfl rfl e)))
inductive Po(h0:Hd)(pk:Nat)(fs:List D)(t:T)(k:Nat):R D->Prop
 |ok {h':Hd}{ps:List D}{u:Nat} (a:Aft h0 h' pk (.int 120) (u:Int)) (hu:u<=120) (e:t.d=.tup (fs++ps)) (z:k+t.size=u+1) (hz:fs.length+ps.length<=1000):Po h0 pk fs t k (.ok (.tup ps) h')
 |ex {h':Hd} (lt:120<k+t.size) (o:Old h0 h' pk):Po h0 pk fs t k (.exc (O "Wide") h')
theorem ZvK(hk:k<=120)(eo:ev (P.tbl (n+2)) o S h=.ok (.ref pk) h)(hp:h[pk]? = Wx (Zas (.int 120) w))(ef:ev (P.tbl (n+2)) fe S h=.ok (.tup fs) h)(po:Po h0 pk fs t k (ev (P.tbl (n+2)) pe S h)):
 Ot h0 pk t k (ev (P.tbl (n+2)) (.mcl (O "Pen") (O "joined") o (.cons fe (.cons pe .nil))) S h):=by
 generalize hr:ev (P.tbl (n+2)) pe S h=r at po;cases po with
 |ex lt o=>rw[ZvV eo hp rfl (Zh9 ef (Zju hr))];exact .ex (by lia) o
 |@ok h' ps u a hu e z hz=>
  have es:evs (P.tbl (n+2)) (.cons fe (.cons pe .nil)) S h=.ok [.tup fs,.tup ps] h':=Zb ef (Zb hr rfl);by_cases q:u=120
  . subst q;rw[ZbV eo hp rfl es (ZiT H n fs ps a)];exact .ex (by lia) a.2
  . rw[ZbV eo hp rfl es (Zhb H n fs ps a (by lia) hz),<- e];refine .ok (by lia) ?_;have:=Aft.set a ((u:Int)+1);rw[show(k:Int)+(t.size:Int)=(u:Int)+1 by lia];exact this
end
section
variable {U:Tb}{S:Ev}{fs:List D}{t A B_:T}{u k:Nat}{a b c:Ex}{x:D}
def Zw3(hu:u<=120)(ea:ev U a S h=.ok x h)(ob:Ot h0 pk A u (ev U b S h))(oc:∀h',Aft h0 h' pk (.int 120) ((u:Int)+(A.size:Int))->u+A.size<=120->Ot h0 pk B_ (u+A.size) (ev U c S h'))(e:t.d=.tup (fs++[x,A.d,B_.d]))(z:k+t.size=1+(u+(A.size+B_.size)))(hz:fs.length<=900):Po h0 pk fs t k (ev U (.tupl (.cons a (.cons b (.cons c .nil)))) S h):=by
 generalize hr:ev U b S h=r at ob;cases ob with
 |ex lt o=>rw[ZrT (Zh9 ea (Zju hr))];exact .ex (by lia) o
 |@ok h1 le q=>
  have oc:=oc h1 q (by lia);generalize hs:ev U c S h1=s at oc;cases oc with
  |ex lt o=>rw[ZrT (Zh9 ea (Zh9 hr (Zju hs)))];exact .ex (by lia) o
  |ok le2 q2=>rw[ZV (Zb ea (Zb hr (Zb hs rfl))) (by simp)];exact .ok (u:=u+A.size+B_.size) q2 (by lia) e (by lia) (by simp;lia)
end
end Pw
end
section
namespace Dr
open PySem L2 IV
noncomputable def ZcQ:Sx:=(.set (.nm 4) (.meth .pop (.var 2) .nil))
noncomputable def ZcP:Sx:=(.iff (.ex (.cmp .Eq (.ix (.var 1) (.cst (.int 0))) (.cst (.str (O "choose"))))) (.cons (.drp (.meth .app (.var 2) (.cons (.mcl (O "Pen") (O "joined") (.var 0) (.cons (.tupl (.cons (.cst (.str (O "if"))) .nil)) (.cons (.tupl (.cons (.var 4) (.cons (.mcl (O "Pen") (O "filled") (.var 0) (.cons (.ix (.var 1) (.cst (.int 1))) (.cons (.var 3) .nil))) (.cons (.mcl (O "Pen") (O "filled") (.var 0) (.cons (.ix (.var 1) (.cst (.int 2))) (.cons (.var 3) .nil))) .nil)))) .nil))) .nil))) .nil) (.cons (.iff (.ex (.cmp .Eq (.ix (.var 1) (.cst (.int 0))) (.cst (.str (O "apply"))))) (.cons (.drp (.meth .app (.var 2) (.cons (.mcl (O "Pen") (O "joined") (.var 0) (.cons (.tupl (.cons (.cst (.str (O "call"))) .nil)) (.cons (.tupl (.cons (.meth .pop (.var 2) .nil) (.cons (.var 4) .nil))) .nil))) .nil))) .nil) (.cons (.drp (.meth .app (.var 2) (.cons (.mcl (O "Pen") (O "joined") (.var 0) (.cons (.tupl (.cons (.ix (.var 1) (.cst (.int 1))) .nil)) (.cons (.tupl (.cons (.meth .pop (.var 2) .nil) (.cons (.var 4) .nil))) .nil))) .nil))) .nil)) .nil))
noncomputable def Zlg:Sxs:=(.cons ZcQ (.cons ZcP .nil))
noncomputable def ZbH:Fd:=⟨[(O "pen"),(O "order"),(O "done"),(O "around")],[(O "pen"),(O "order"),(O "done"),(O "around"),(O "last")],Zlg⟩
noncomputable def ZaR:Sx:=(.set (.nm 3) (.bin .Add (.comp [(O "thing"),(O "pen")] [Wy,Wx 0] (.pl (.ix (.var 1) (.cst (.int 0)))) (.nm 0) Wy (.mcl (O "Pen") (O "told") (.var 1) (.cons (.var 0) .nil))) (.var 2)))
noncomputable def ZaQ:Sx:=(.forr (.nm 4) (.pl (.ix (.var 1) (.cst (.int 2)))) (.cons (.iff (.ex (.cmp .In (.ix (.var 4) (.cst (.int 0))) (.glo (O "ORDERS")))) (.cons (.drp (.call (O "do_order") (.cons (.var 0) (.cons (.var 4) (.cons (.var 3) (.cons (.ix (.var 1) (.cst (.int 1))) .nil)))))) .nil) (.cons (.drp (.meth .app (.var 3) (.cons (.mcl (O "Pen") (O "filled") (.var 0) (.cons (.var 4) (.cons (.ix (.var 1) (.cst (.int 1))) .nil))) .nil))) .nil)) .nil))
noncomputable def Zds:Sx:=(.ret (.var 3))
noncomputable def Zim:Sxs:=(.cons ZaR (.cons ZaQ (.cons Zds .nil)))
noncomputable def ZaJ:Fd:=⟨[(O "pen"),(O "level"),(O "above")],[(O "pen"),(O "level"),(O "above"),(O "done"),(O "item")],Zim⟩
noncomputable def Zcg:Sx:=(.set (.nm 1) (.mk (O "Pen") (.cons (.glo (O "WIDEST")) .nil)))
noncomputable def Za2:Sx:=(.set (.nm 2) (.call (O "level_read") (.cons (.var 1) (.cons (.var 0) (.cons (.lstl .nil) .nil)))))
noncomputable def Za1:Sx:=(.forr (.nm 3) (.pl (.ix (.var 0) (.cst (.int 3)))) (.cons (.set (.nm 2) (.call (O "level_read") (.cons (.var 1) (.cons (.var 3) (.cons (.var 2) .nil))))) .nil))
noncomputable def Zcf:Sx:=(.ret (.ix (.var 2) (.cst (.int 0))))
noncomputable def ZjT:Sxs:=(.cons Zcg (.cons Za2 (.cons Za1 (.cons Zcf .nil))))
noncomputable def Zbb:Fd:=⟨[(O "state")],[(O "state"),(O "pen"),(O "done"),(O "level")],ZjT⟩
noncomputable def Zip:Sx:=(.set (.nm 1) (.cst .non))
noncomputable def Zio:Sx:=(.trs 1 (O "dump_read") (.cons (.var 0) .nil) (O "Wide"))
noncomputable def Zin:Sx:=(.ret (.var 1))
noncomputable def ZcN:Sxs:=(.cons Zip (.cons Zio (.cons Zin .nil)))
noncomputable def ZbE:Fd:=⟨[(O "_law_state")],[(O "_law_state"),(O "_law_told")],ZcN⟩
structure Drd(P:Pg):Prop where
 m:Dm.Dmp P
 p:Pw.Pnw P
 do_order:P.tb.lookup (O "do_order")=Wx ZbH
 level_read:P.tb.lookup (O "level_read")=Wx ZaJ
 dump_read:P.tb.lookup (O "dump_read")=Wx Zbb
 law_read:P.tb.lookup (O "_law_read")=Wx ZbE
noncomputable def Zvy:Ix:=(.pl (.ix (.var 1) (.cst (.int 2))))
noncomputable def Zw9:Sx:=(.iff (.ex (.cmp .In (.ix (.var 4) (.cst (.int 0))) (.glo (O "ORDERS")))) (.cons (.drp (.call (O "do_order") (.cons (.var 0) (.cons (.var 4) (.cons (.var 3) (.cons (.ix (.var 1) (.cst (.int 1))) .nil)))))) .nil) (.cons (.drp (.meth .app (.var 3) (.cons (.mcl (O "Pen") (O "filled") (.var 0) (.cons (.var 4) (.cons (.ix (.var 1) (.cst (.int 1))) .nil))) .nil))) .nil))
noncomputable def Zcn:Sxs:=(.cons Zw9 .nil)
def Zgj:ZaQ=.forr (.nm 4) Zvy Zcn:=rfl
noncomputable def ZvE:Ix:=(.pl (.ix (.var 0) (.cst (.int 3))))
noncomputable def Zxe:Sx:=(.set (.nm 2) (.call (O "level_read") (.cons (.var 1) (.cons (.var 3) (.cons (.var 2) .nil)))))
noncomputable def Zi7:Sxs:=(.cons Zxe .nil)
def ZgU:Za1=.forr (.nm 3) ZvE Zi7:=rfl
end Dr
end
section
namespace Rr
open PySem L2 IV Tm Pw
open Rw (Th Wt Sta Zch ArOk Zc3 ZdK ThN ArN WtN StN ThG ArG Bd rd ra fw rnd read)
variable {P:Pg}{h0 h:Hd}{pk N:Nat}
mutual
theorem ZeI:∀v:Th,Zch v->ThN N v->ThG N v
 |.num _,_,_=>trivial
 |.clo E ar,ok,b=>⟨λx z=>by (have q:=ok.1;rw[z]at q;cases q),b.1,arg_of ar ok.2.2 b.2⟩
theorem arg_of:∀ar:Rw.Ar,ArOk ar->ArN N ar->ArG N ar
 |.nil,_,_=>trivial
 |.cons _ v r,ok,b=>⟨ZeI v ok.1 b.1,arg_of r ok.2 b.2⟩
end
def Zd3(ok:ArOk ar)(b:Bd N E ar)(a:ArN N ar):Wok N (E,up ar):=⟨by show(up ar).length+2 * E.size<=2 * N;rw[Zj2];exact b,Zse (arg_of ar ok a)⟩
def Z0(f a:T):(T.call f a).size=1+(f.size+a.size):=by rw[Zd];simp[T.parts]
def ZbR(w:Wd)(f a:T):(T.op w f a).size=1+(f.size+a.size):=by rw[Zd];simp[T.parts]
def Zb3(c t e:T):(T.iff c t e).size=1+(c.size+(t.size+e.size)):=by rw[Zd];simp[T.parts]
inductive Rs(h:Hd)(t:T):R D->Prop
 |ok {g:Hd} (le:t.size<=120):Rs h t (.ok t.d (h++g))
 |ex {g:Hd} (lt:120<t.size):Rs h t (.exc (O "Wide") (h++g))
noncomputable def rdo(t:T):D:=if t.size<=120 then t.d else .non
end Rr
end
section
namespace Rr
open PySem L2 IV Tm Pw
open Rw (Th Wt Sta Ans Zch ArOk Zc3 ZdK ThN ArN WtN StN Bd rd ra fw rnd read step ms wm wms)
variable {P:Pg}{h:Hd}{N:Nat}
def Zsz(n:Bool)(t:T)(hz:t.size<=120)(h:Hd):IV.Zb8 n t.d t.d h=.ok (.bl (!n)) h:=Zhg (_root_.Rw.T.pure_d t) (by rw[_root_.Rw.T.dp_d];have:=Zcd t;lia)
theorem Zbh:∀(t:T) (ar:Ar),t.size<=(sub ar t).size
 |.num _,_=>Oq _
 |.name x,ar=>Zac _
 |.fn x e,ar=>by have:=Zbh e ((x,Wy)::ar);rw[sub,Zd (.fn x e),Zd (.fn x _)];simp[T.parts];lia
 |.rcc f x e,ar=>by have:=Zbh e ((f,Wy)::(x,Wy)::ar);rw[sub,Zd (.rcc f x e),Zd (.rcc f x _)];simp[T.parts];lia
 |.call f a,ar=>by have:=Zbh f ar;have:=Zbh a ar;rw[sub,Z0,Z0];lia
 |.iff c t e,ar=>by have:=Zbh c ar;have:=Zbh t ar;have:=Zbh e ar;rw[sub,Zb3,Zb3];lia
 |.op w f a,ar=>by have:=Zbh f ar;have:=Zbh a ar;rw[sub,ZbR,ZbR];lia
def ZvQ(w:Wt)(t:T):2 * t.size+wm w<=2 * (fw w t).size:=by
 cases w with
 |arg A ar=>have:=Zbh A (ra ar);rw[fw,Z0];simp only[wm];lia
 |right o F ar=>have:=Zbh F (ra ar);rw[fw,ZbR];simp only[wm];lia
 |fn V=>rw[fw,Z0];simp only[wm];lia
 |iff a b ar=>rw[fw,Zb3];simp only[wm];lia
 |left o V=>rw[fw,ZbR];simp only[wm];lia
theorem Zkc:∀(ws:List Wt) (t:T),2 * t.size+wms ws<=2 * (rnd ws t).size
 |[],t=>Oq _
 |w::ws,t=>by
  have h1:=Zkc ws (fw w t);have h2:=ZvQ w t;rw[Rw.Zci];show _<=2 * (rnd ws (fw w t)).size
  lia
def ZlN(s:Sta):ms s<=2 * (read s).size:=by
 cases s with
 |go E ar ws=>have h1:=Zkc ws (sub (ra ar) E);have h2:=Zbh E (ra ar);show 2 * E.size+wms ws<=2 * (rnd ws (sub (ra ar) E)).size;lia
 |back V ws=>have h1:=Zkc ws (rd V);show wms ws<=2 * (rnd ws (rd V)).size;lia
def Zvr(p:ev U a S h=.ok (.str x) h1)(q:ev U b S h1=.ok (.str y) h2):tst U (.ex (.cmp .NotEq a b)) S h=.ok (!WB (x=y)) h2:=Zc1 ((Zw p q).trans (by rw[Ztf,Zgb];rfl))
def ZsI(hc:P.tb.lookup (O "_law_cell_at")=Wx Gn.ZM)(n:Nat)(zs:List Int):∃v,run P (n+1) (O "_law_cell_at") [.ro (zs.map .int),.int 0] h=.ok (.int v) h:=by
 rw[Zc hc rfl];cases zs with
 |nil=>exact⟨0,by simp[Gn.ZM,Gn.Zce,Zu,ZbJ,ZjU,seqOf,lstOf]⟩
 |cons z zs=>
  refine⟨z,?_⟩;have:(0:Int)<(zs.length:Int)+1:=by lia
  simp[Gn.ZM,Gn.Zce,Zu,ZbJ,ZjU,seqOf,lstOf,this]
end Rr
end
section
namespace Dr
open PySem IV Tm Pw
open Rw (Th Wt Zch Zc3 ZdK StN WtN ThN ArN Bd read rd ra fw rnd ThG ArG)
open Dm (Lv)
open Rr (Z0 ZbR Zb3 ZeI Zd3)
variable {P:Pg}{h0 h:Hd}{pk dk N u:Nat}
structure Sl(h0 h:Hd)(pk dk u:Nat)(ds:List D):Prop where
 p:h[pk]? = Wx (Zas (.int 120) (u:Int))
 l:h[dk]? = Wx (.lst ds)
 ol:h0.length<=h.length
 o1:h0.length<=pk
 o2:h0.length<=dk
 old:∀i,i<h0.length->h[i]? = h0[i]?
section
variable {ds:List D}{h':Hd}
def Sl.self(s:Sl h0 h pk dk u ds):Aft h h pk (.int 120) (u:Int):=⟨s.p,Oq _,λ_ _ _=>rfl⟩
def Sl.ne(s:Sl h0 h pk dk u ds):pk≠dk:=Zgd s.p s.l
def Sl.aft(s:Sl h0 h pk dk u ds){v:Nat}(a:Aft h h' pk (.int 120) (v:Int)):Sl h0 h' pk dk v ds:=⟨a.1,by rw[a.2.2 dk (ZdU s.l) (YL s.ne)];exact s.l,OE s.ol a.2.1,s.o1,s.o2,λi hi=>by rw[a.2.2 i (O4 hi s.ol) (by have:=s.o1;lia)];exact s.old i hi⟩
def Sl.gone(s:Sl h0 h pk dk u ds)(o:Old h h' pk):∃g,h'=h0++g:=Tm.grown (OE s.ol o.1) λi hi=>by rw[o.2 i (O4 hi s.ol) (by have:=s.o1;lia)];exact s.old i hi
def Sl.self_gone(s:Sl h0 h pk dk u ds):∃g,h=h0++g:=Tm.grown s.ol s.old
def Sl.setL(s:Sl h0 h pk dk u ds)(es:List D):Sl h0 (h.set dk (.lst es)) pk dk u es:=⟨by rw[Oc (YL s.ne)];exact s.p,by rw[Ol (ZdU s.l)],by simpa using s.ol,s.o1,s.o2,λi hi=>by rw[Oc (by have:=s.o2;lia)];exact s.old i hi⟩
theorem Sl.pop(s:Sl h0 h pk dk u (ds++[d])):∃h1,ZaI .pop (.ref dk) [] h=.ok d h1/\Sl h0 h1 pk dk u ds:=⟨_,Zgf s.l,s.setL ds⟩
def Sl.push(s:Sl h0 h pk dk u ds)(d:D)(hz:ds.length<=1000):∃h1,ZaI .app (.ref dk) [d] h=.ok .non h1/\Sl h0 h1 pk dk u (ds++[d]):=⟨_,Zbx s.l (by rw[YC];lia),s.setL _⟩
end
inductive Od(h0:Hd)(pk dk:Nat)(xs:List D)(t:T)(k:Nat)(S:Ev):R (Fl×Ev)->Prop
 |ok {h':Hd} (le:k+t.size<=120) (s:Sl h0 h' pk dk (k+t.size) (xs++[t.d])):Od h0 pk dk xs t k S (.ok (.nx,S) h')
 |ex {g:Hd} (lt:120<k+t.size):Od h0 pk dk xs t k S (.exc (O "Wide") (h0++g))
def ZiX(s:Sl h0 h pk dk u xs)(hk:k<=120)(hz:xs.length<=1000)(eo:ev U o S h=.ok (.ref dk) h)(oe:Ot h pk t k (ev U e S h)):Od h0 pk dk xs t k S (xs1 U (.drp (.meth .app o (.cons e .nil))) S h):=by
 generalize hr:ev U e S h=r at oe;cases oe with
 |@ex h1 lt a=>
  have q:ev U (.meth .app o (.cons e .nil)) S h=.exc (O "Wide") h1:=by rw[Zfx,eo,Zp,Zay s.l,if_pos rfl,Zju hr];rfl
  rw[Zjz q];obtain⟨g,rfl⟩:=s.gone a;exact .ex (by lia)
 |ok le a=>have s1:=s.aft (v:=k+t.size) a;obtain⟨h2,e2,s2⟩:=s1.push t.d hz;rw[Zdm (Zfm eo s.l (Zb hr rfl) e2)];exact .ok (by lia) s2
section
variable {xs:List D}{k:Nat}
noncomputable def vo(od:D)(pk dk:Nat)(ad:D)(o4:Option D):Ev:=[Wx (.ref pk),Wx od,Wx (.ref dk),Wx ad,o4]
inductive Or(h0:Hd)(pk dk:Nat)(xs:List D)(t:T)(k:Nat):R D->Prop
 |ok {h':Hd} (le:k+t.size<=120) (s:Sl h0 h' pk dk (k+t.size) (xs++[t.d])):Or h0 pk dk xs t k (.ok .non h')
 |ex {g:Hd} (lt:120<k+t.size):Or h0 pk dk xs t k (.exc (O "Wide") (h0++g))
def Zvf(q:xs1 U s S h=r)(o:Od h0 pk dk xs t k S r):Or h0 pk dk xs t k (Zh (xs2 U (.cons s .nil) S h)):=by
 cases o with
 |ok le z=>rw[Za q];exact .ok le z
 |ex lt=>rw[Zc4 q];exact .ex lt
theorem Zjl(H:Drd P)(n:Nat){f a t:T}(hu:k+(f.size+a.size)<=120)(hz:xs.length<=900)(ef:∀ h',ev (P.tbl (n+2)) fe (vo od pk dk ad (Wx a.d)) h'=.ok (.tup fs) h')(hf:fs.length<=100)(et:t.d=.tup (fs++[f.d,a.d]))(zt:t.size=1+(f.size+a.size))(h1:Hd)(s1:Sl h0 h1 pk dk (k+(f.size+a.size)) (xs++[f.d])) :
   Od h0 pk dk xs t k (vo od pk dk ad (Wx a.d)) (xs1 (P.tbl (n+2)) (.drp (.meth .app (.var 2) (.cons (.mcl (O "Pen") (O "joined") (.var 0) (.cons fe (.cons (.tupl (.cons (.meth .pop (.var 2) .nil) (.cons (.var 4) .nil))) .nil))) .nil))) (vo od pk dk ad (Wx a.d)) h1):=by
 obtain ⟨h2,e2,s2⟩:=s1.pop;have es:evs (P.tbl (n+2)) (.cons fe (.cons (.tupl (.cons (.meth .pop (.var 2) .nil) (.cons (.var 4) .nil))) .nil)) (vo od pk dk ad (Wx a.d)) h1=.ok [.tup fs,.tup [f.d,a.d]] h2:=Zb (ef _) (Zb (ZV (Zb (Zfm rfl s1.l rfl e2) (Zb rfl rfl)) (by simp)) rfl);by_cases q:k+(f.size+a.size)=120
 . have a2:=s2.self;rw [q] at a2;have ej:ev (P.tbl (n+2)) (.mcl (O "Pen") (O "joined") (.var 0) (.cons fe (.cons (.tupl (.cons (.meth .pop (.var 2) .nil) (.cons (.var 4) .nil))) .nil))) (vo od pk dk ad (Wx a.d)) h1=.exc (O "Wide") h2:=ZbV rfl s1.p rfl es (ZiT H.p n fs _ a2);have em:ev (P.tbl (n+2)) (.meth .app (.var 2) (.cons (.mcl (O "Pen") (O "joined") (.var 0) (.cons fe (.cons (.tupl (.cons (.meth .pop (.var 2) .nil) (.cons (.var 4) .nil))) .nil))) .nil)) (vo od pk dk ad (Wx a.d)) h1=.exc (O "Wide") h2:=by
     rw [Zfx,show ev (P.tbl (n+2)) (.var 2) (vo od pk dk ad (Wx a.d)) h1=.ok (.ref dk) h1 from rfl,Zp,Zay s1.l,if_pos rfl,Zju ej];rfl
   rw [Zjz em];obtain ⟨g,rfl⟩:=s2.self_gone;exact .ex (by lia)
 . have ej:ev (P.tbl (n+2)) (.mcl (O "Pen") (O "joined") (.var 0) (.cons fe (.cons (.tupl (.cons (.meth .pop (.var 2) .nil) (.cons (.var 4) .nil))) .nil))) (vo od pk dk ad (Wx a.d)) h1=_:=ZbV rfl s1.p rfl es (Zhb H.p n fs _ s2.self (by lia) (by simp;lia));have s3:=s2.aft (v:=k+t.size) (by
     have:=Aft.set s2.self (((k+(f.size+a.size):Nat):Int)+1);rw [show ((k+t.size:Nat):Int)=((k+(f.size+a.size):Nat):Int)+1 by lia];exact this)
   obtain ⟨h4,e4,s4⟩:=s3.push t.d (by lia);rw [et] at e4;rw [Zdm (Zfm rfl s1.l (Zb ej rfl) e4)];exact .ok (by lia) s4
def ZI:xs2 U (.cons s .nil) S h=xs1 U s S h:=by
 rw[xs2];cases xs1 U s S h with
 |bad=>rfl
 |exc c h=>rfl
 |ok p h=>obtain⟨f,S⟩:=p;cases f<;>rfl
def Zga(H:Drd P)(n:Nat){i:Dm.It}(hw:i.d=.tup (.str w::ds))(hl:Zdf (.ref dk) h=Wz)(e1:ZaI .pop (.ref dk) [] h=.ok d h1)(q:xs1 (P.tbl (n+3)) ZcP (vo i.d pk dk ad (Wx d)) h1=xs1 (P.tbl (n+3)) s (vo i.d pk dk ad (Wx d)) h1)(o:Od h0 pk dk xs t k (vo i.d pk dk ad (Wx d)) (xs1 (P.tbl (n+3)) s (vo i.d pk dk ad (Wx d)) h1)):Or h0 pk dk xs t k (run P (n+4) (O "do_order") [.ref pk,i.d,.ref dk,ad] h):=by rw[Zc H.do_order (by rfl)];have x1:xs1 (P.tbl (n+3)) ZcQ (vo i.d pk dk ad Wy) h=.ok (.nx,vo i.d pk dk ad (Wx d)) h1:=Zj (by rw[Zfx,show ev (P.tbl (n+3)) (.var 2) (vo i.d pk dk ad Wy) h=.ok (.ref dk) h from rfl,Zp,if_pos hl];exact e1);show Or h0 pk dk xs t k (Zh (xs2 (P.tbl (n+3)) (.cons ZcQ (.cons ZcP .nil)) (vo i.d pk dk ad Wy) h));rw[Za x1];exact Zvf q o
def ZnK(H:Drd P)(n:Nat){f a:T}(s:Sl h0 h pk dk (k+(f.size+a.size)) (xs++[f.d]++[a.d]))(hu:k+(f.size+a.size)<=120)(hz:xs.length<=900):Or h0 pk dk xs (.call f a) k (run P (n+4) (O "do_order") [.ref pk,Dm.It.app.d,.ref dk,ad] h):=by obtain⟨h1,e1,s1⟩:=s.pop;refine Zga H n rfl (Zay s.l) e1 ((Zt (Zm (Zak rfl rfl) (by decide))).trans (ZI.trans ((Zs (Zm (Zak rfl rfl) (by decide))).trans ZI))) ?_;exact Zjl H (n+1) hu hz (λ_=>rfl) (by simp) rfl (Z0 f a) h1 s1
def ZlE(H:Drd P)(n:Nat){w:Wd}(s:Sl h0 h pk dk (k+(f.size+a.size)) (xs++[f.d]++[a.d]))(hu:k+(f.size+a.size)<=120)(hz:xs.length<=900):Or h0 pk dk xs (.op w f a) k (run P (n+4) (O "do_order") [.ref pk,(Dm.It.work w).d,.ref dk,ad] h):=by obtain⟨h1,e1,s1⟩:=s.pop;refine Zga H n rfl (Zay s.l) e1 ((Zt (Zm (Zak rfl rfl) (by decide))).trans (ZI.trans ((Zt (Zm (Zak rfl rfl) (by decide))).trans ZI))) ?_;exact Zjl H (n+1) hu hz (λ_=>rfl) (by simp) rfl (ZbR w f a) h1 s1
def ZsF(H:Drd P)(n:Nat)(hN:1<=N)(hN2:N<=45000){c t e:T}(wt:Wok N (t,up ar))(we:Wok N (e,up ar))(s:Sl h0 h pk dk (k+c.size) (xs++[c.d]))(hu:k+c.size<=120)(hz:xs.length<=900):Or h0 pk dk xs (.iff c (sub (ra ar) t) (sub (ra ar) e)) k (run P (n+4) (O "do_order") [.ref pk,(Dm.It.cho t e).d,.ref dk,.tup ar.ds] h):=by
 obtain⟨h1,e1,s1⟩:=s.pop;refine Zga H n rfl (Zay s.l) e1 ((Zs (Zm (Zak rfl rfl) (by decide))).trans ZI) ?_;refine ZiX s1 (by lia) (by lia) rfl (ZvK H.p (n+1) (by lia) rfl s1.p rfl (Zw3 (u:=k+c.size) hu rfl (A:=sub (ra ar) t) (B_:=sub (ra ar) e) ?_ (λh' a' hu'=>?_) rfl (by rw[Zb3];lia) (by simp)))
 . rw[ZbV (xs:=[t.d,.tup ar.ds]) rfl s1.p rfl rfl rfl];exact ZhO H.p n hN hN2 t ar s1.self hu wt
 . rw[ZbV (xs:=[e.d,.tup ar.ds]) rfl a'.1 rfl rfl rfl];exact ZhO H.p n hN hN2 e ar (u:=k+c.size+(sub (ra ar) t).size) (by simpa using a') hu' we
end
noncomputable def stk(st:List Th):List D:=(st.map λv=>(rd v).d).reverse
noncomputable def szs(st:List Th):Nat:=(st.map λv=>(rd v).size).sum
def ZfK(W:Th)(st:List Th):stk (W::st)=stk st++[(rd W).d]:=by simp[stk]
def Za3(W:Th)(st:List Th):szs (W::st)=(rd W).size+szs st:=by simp[szs]
def Zbq(st:List Th):(stk st).length=st.length:=by simp[stk]
def ZbS(c:Cx st ar r ws):∀t:T,t.size+szs st<=(rnd ws t).size:=by
 induction c with
 |nil=>exact λt=>Oq _
 |@app W _ _ _ _ c ih=>intro t;have:=ih (.call (rd W) t);rw[Z0]at this;rw[Za3];exact OE (by lia) this
 |@arg A _ ar _ _ c ih=>intro t;have:=ih (.call t (sub (ra ar) A));rw[Z0]at this;exact OE (by lia) this
 |@work w W _ _ _ _ c ih=>intro t;have:=ih (.op w (rd W) t);rw[ZbR]at this;rw[Za3];exact OE (by lia) this
 |@right w F _ ar _ _ c ih=>intro t;have:=ih (.op w t (sub (ra ar) F));rw[ZbR]at this;exact OE (by lia) this
 |@cho a b _ ar _ _ c ih=>intro t;have:=ih (.iff t (sub (ra ar) a) (sub (ra ar) b));rw[Zb3]at this;exact OE (by lia) this
section
variable {lvd ab:D}{ar:Rw.Ar}{ds:List D}
noncomputable def vv(pk:Nat)(lvd ab:D)(dk:Nat)(o4:Option D):Ev:=[Wx (.ref pk),Wx lvd,Wx ab,Wx (.ref dk),o4]
def Zsl(H:Drd P)(n:Nat)(e:d=.tup (.str w::es)):tst (P.tbl n) (.ex (.cmp .In (.ix (.var 4) (.cst (.int 0))) (.glo (O "ORDERS")))) (vv pk lvd ab dk (Wx d)) h=.ok (WB (w∈[O "apply",O "work",O "choose"])) h:=by
 have eg:ev (P.tbl n) (.glo (O "ORDERS")) (vv pk lvd ab dk (Wx d)) h=.ok (.tup [.str (O "apply"),.str (O "work"),.str (O "choose")]) h:=by show R.ofO (P.G (O "ORDERS")) h=_;rw[H.m.orders];rfl
 exact Zc1 ((Zw (x:=.str w) ((Zr (x:=d) rfl rfl).trans (by rw[e];simp)) eg).trans (Dm.Zhe w))
def Zxt(H:Drd P)(n:Nat){i:Dm.It}(e:i.d=.tup (.str w::es))(hw:WB (w∈[O "apply",O "work",O "choose"])=Wz)(hl1:∀h',Z5 P.GD lvd (.int 1) h'=.ok (.tup ar.ds) h')(q:run P (n+4) (O "do_order") [.ref pk,i.d,.ref dk,.tup ar.ds] h=.ok .non h'):xs2 (P.tbl (n+4)) Zcn (vv pk lvd ab dk (Wx i.d)) h=.ok (.nx,vv pk lvd ab dk (Wx i.d)) h':=ZI.trans ((Zs (Zm (Zsl H (n+4) e) hw)).trans (ZI.trans (Zdm (Zl q (Zb rfl (Zb rfl (Zb rfl (Zb ((Zr (x:=lvd) rfl rfl).trans (hl1 _)) rfl))))))))
def b_x(H:Drd P)(n:Nat){i:Dm.It}(e:i.d=.tup (.str w::es))(hw:WB (w∈[O "apply",O "work",O "choose"])=Wz)(hl1:∀h',Z5 P.GD lvd (.int 1) h'=.ok (.tup ar.ds) h')(q:run P (n+4) (O "do_order") [.ref pk,i.d,.ref dk,.tup ar.ds] h=.exc c h'):xs2 (P.tbl (n+4)) Zcn (vv pk lvd ab dk (Wx i.d)) h=.exc c h':=ZI.trans ((Zs (Zm (Zsl H (n+4) e) hw)).trans (ZI.trans (Zjz (Zl q (Zb rfl (Zb rfl (Zb rfl (Zb ((Zr (x:=lvd) rfl rfl).trans (hl1 _)) rfl))))))))
def Zxu(H:Drd P)(n:Nat)(hN:1<=N)(hN2:N<=45000)(E:T)(wE:Wok N (E,up ar))(hl1:∀h',Z5 P.GD lvd (.int 1) h'=.ok (.tup ar.ds) h')(s:Sl h0 h pk dk u ds)(hu:u<=120)(hz:ds.length<=1000):Od h0 pk dk ds (sub (ra ar) E) u (vv pk lvd ab dk (Wx E.d)) (xs2 (P.tbl (n+4)) Zcn (vv pk lvd ab dk (Wx E.d)) h):=by have tt:=Zsl H (n+4) (pk:=pk) (dk:=dk) (lvd:=lvd) (ab:=ab) (h:=h) (Dm.Zt4 E);rw[Dm.Zhf]at tt;rw[show xs2 (P.tbl (n+4)) Zcn (vv pk lvd ab dk (Wx E.d)) h=_ from ZI.trans ((Zt tt).trans ZI)];refine ZiX s hu hz rfl ?_;rw[ZbV (xs:=[E.d,.tup ar.ds]) rfl s.p rfl (Zb rfl (Zb ((Zr (x:=lvd) rfl rfl).trans (hl1 _)) rfl)) rfl];exact ZhO H.p (n+1) hN hN2 E ar s.self hu wE
inductive Lo(h0:Hd)(pk dk:Nat)(lvd ab:D)(t:T):R (Fl×Ev)->Prop
 |ok {h':Hd}{o4:Option D} (le:t.size<=120) (s:Sl h0 h' pk dk t.size [t.d]):Lo h0 pk dk lvd ab t (.ok (.nx,vv pk lvd ab dk o4) h')
 |ex {g:Hd} (lt:120<t.size):Lo h0 pk dk lvd ab t (.exc (O "Wide") (h0++g))
def Zgi(H:Drd P)(n:Nat){i:Dm.It}(e:i.d=.tup (.str w::es))(hw:WB (w∈[O "apply",O "work",O "choose"])=Wz)(hl1:∀h',Z5 P.GD lvd (.int 1) h'=.ok (.tup ar.ds) h')(o:Or h0 pk dk xs t k (run P (n+4) (O "do_order") [.ref pk,i.d,.ref dk,.tup ar.ds] h))(ht:k+t.size<=t'.size)
 (ih:∀h' o4,k+t.size<=120->Sl h0 h' pk dk (k+t.size) (xs++[t.d])->Lo h0 pk dk lvd ab t' (ZK Wy (.nm 4) (xs2 (P.tbl (n+4)) Zcn) r (vv pk lvd ab dk o4) h')):Lo h0 pk dk lvd ab t' (ZK Wy (.nm 4) (xs2 (P.tbl (n+4)) Zcn) (i.d::r) (vv pk lvd ab dk o4) h):=by
 generalize hr:run P (n+4) (O "do_order") [.ref pk,i.d,.ref dk,.tup ar.ds] h=y at o;cases o with
 |ok le s=>rw[Zcb (g:=.nm 4) (S:=vv pk lvd ab dk o4) (ρ1:=vv pk lvd ab dk (Wx i.d)) rfl (Zxt H n e hw hl1 hr)];exact ih _ _ le s
 |ex lt=>rw[Zo1 (g:=.nm 4) (S:=vv pk lvd ab dk o4) (ρ1:=vv pk lvd ab dk (Wx i.d)) rfl (b_x H n e hw hl1 hr)];exact .ex (by lia)
def Zow(H:Drd P)(n:Nat)(hN:1<=N)(hN2:N<=45000)(E:T)(wE:Wok N (E,up ar))(hl1:∀h',Z5 P.GD lvd (.int 1) h'=.ok (.tup ar.ds) h')(s:Sl h0 h pk dk u ds)(hu:u<=120)(hz:ds.length<=1000)(ht:u+(sub (ra ar) E).size<=t'.size)
 (ih:∀h' o4,u+(sub (ra ar) E).size<=120->Sl h0 h' pk dk (u+(sub (ra ar) E).size) (ds++[(sub (ra ar) E).d])->Lo h0 pk dk lvd ab t' (ZK Wy (.nm 4) (xs2 (P.tbl (n+4)) Zcn) r (vv pk lvd ab dk o4) h')):Lo h0 pk dk lvd ab t' (ZK Wy (.nm 4) (xs2 (P.tbl (n+4)) Zcn) (E.d::r) (vv pk lvd ab dk o4) h):=by
 have o:=Zxu H n hN hN2 E wE hl1 (ab:=ab) s hu hz;generalize hr:xs2 (P.tbl (n+4)) Zcn (vv pk lvd ab dk (Wx E.d)) h=y at o;cases o with
 |ok le s=>rw[Zcb (g:=.nm 4) (S:=vv pk lvd ab dk o4) (ρ1:=vv pk lvd ab dk (Wx E.d)) rfl hr];exact ih _ _ le s
 |ex lt=>rw[Zo1 (g:=.nm 4) (S:=vv pk lvd ab dk o4) (ρ1:=vv pk lvd ab dk (Wx E.d)) rfl hr];exact .ex (by lia)
def Sl.cast(s:Sl h0 h pk dk u ds)(e:u=v)(q:ds=es):Sl h0 h pk dk v es:=by subst e;subst q;exact s
def ZtB(H:Drd P)(n:Nat)(hN:1<=N)(hN2:N<=45000){st:List Th}(c:Cx st ar r ws):(∀w∈ws,Zc3 w)->(∀w∈ws,WtN N w)->(∀h',Z5 P.GD lvd (.int 1) h'=.ok (.tup ar.ds) h')->∀(t:T) (h:Hd) (o4:Option D),t.size+szs st<=120->st.length<=800->Sl h0 h pk dk (t.size+szs st) (stk st++[t.d]) ->
 Lo h0 pk dk lvd ab (rnd ws t) (ZK Wy (.nm 4) (xs2 (P.tbl (n+4)) Zcn) (r.map Dm.It.d) (vv pk lvd ab dk o4) h):=by
 induction c with
 |nil=>intro _ _ _ t h o4 hu _ s;exact .ok (o4:=o4) (show t.size<=120 by lia) (s.cast (show t.size+0=t.size from rfl) rfl)
 |@app W st ar r ws c ih=>intro ok b hl t h o4 hu hst s;have ok':=λw hw=>ok w (Oh _ hw);have b':=λw hw=>b w (Oh _ hw);rw[Za3]at hu s;rw[ZfK]at s;rw[Os]at hst;have rs:=ZbS c (.call (rd W) t);exact Zgi H n rfl (by decide) hl (ZnK H n (k:=szs st) (s.cast (by lia) rfl) (by lia) (by rw[Zbq];lia)) (by rw[YW];exact rs) λh' o4' le s'=>ih ok' b' hl (.call (rd W) t) h' o4' (by lia) (by lia) (s'.cast (YW _ _) rfl)
 |@work w W st ar r ws c ih=>intro ok b hl t h o4 hu hst s;have ok':=λw hw=>ok w (Oh _ hw);have b':=λw hw=>b w (Oh _ hw);rw[Za3]at hu s;rw[ZfK]at s;rw[Os]at hst;have rs:=ZbS c (.op w (rd W) t);exact Zgi H n rfl (by decide) hl (ZlE H n (k:=szs st) (s.cast (by lia) rfl) (by lia) (by rw[Zbq];lia)) (by rw[YW];exact rs) λh' o4' le s'=>ih ok' b' hl (.op w (rd W) t) h' o4' (by lia) (by lia) (s'.cast (YW _ _) rfl)
 |@arg A st ar r ws c ih=>intro ok b hl t h o4 hu hst s;have okA:=ok _ Oi;have bA:=b _ Oi;have ok':=λw hw=>ok w (Oh _ hw);have b':=λw hw=>b w (Oh _ hw);have rs:=ZbS c (.call t (sub (ra ar) A));rw[Z0]at rs;refine Zow H n hN hN2 A (Zd3 okA.2 bA.1 bA.2) hl s hu (by simp[Zbq];lia) (OE (by lia) rs) λh' o4' le s'=>?_;exact Zgi H n rfl (by decide) hl (ZnK H n (k:=szs st) (s'.cast (by lia) rfl) (by lia) (by rw[Zbq];lia)) (by rw[Z0,YW];exact rs) λh2 o4' le s'=>ih ok' b' hl (.call t (sub (ra ar) A)) h2 o4' (by lia) (by lia) (s'.cast (YW _ _) rfl)
 |@right w F st ar r ws c ih=>intro ok b hl t h o4 hu hst s;have okA:=ok _ Oi;have bA:=b _ Oi;have ok':=λw hw=>ok w (Oh _ hw);have b':=λw hw=>b w (Oh _ hw);have rs:=ZbS c (.op w t (sub (ra ar) F));rw[ZbR]at rs;refine Zow H n hN hN2 F (Zd3 okA.2 bA.1 bA.2) hl s hu (by simp[Zbq];lia) (OE (by lia) rs) λh' o4' le s'=>?_;exact Zgi H n rfl (by decide) hl (ZlE H n (k:=szs st) (s'.cast (by lia) rfl) (by lia) (by rw[Zbq];lia)) (by rw[ZbR,YW];exact rs) λh2 o4' le s'=>ih ok' b' hl (.op w t (sub (ra ar) F)) h2 o4' (by lia) (by lia) (s'.cast (YW _ _) rfl)
 |@cho a e st ar r ws c ih=>intro ok b hl t h o4 hu hst s;have okA:=ok _ Oi;have bA:=b _ Oi;have ok':=λw hw=>ok w (Oh _ hw);have b':=λw hw=>b w (Oh _ hw);have rs:=ZbS c (.iff t (sub (ra ar) a) (sub (ra ar) e));exact Zgi H n rfl (by decide) hl (ZsF H n hN hN2 (k:=szs st) (Zd3 okA.2.2 bA.1.1 bA.2) (Zd3 okA.2.2 bA.1.2 bA.2) (s.cast (YW _ _) rfl) (by lia) (by rw[Zbq];lia)) (by rw[YW];exact rs) λh' o4' le s'=>ih ok' b' hl (.iff t (sub (ra ar) a) (sub (ra ar) e)) h' o4' (by lia) hst (s'.cast (YW _ _) rfl)
end
end Dr
end
section
namespace Dr
open PySem IV Tm Pw
open Rw (Th Wt Zch Zc3 ZdK StN WtN ThN ArN Bd read rd ra fw rnd ThG ArG)
open Dm (Lv)
open Rr (Z0 ZbR Zb3 ZeI Zd3 Rs rdo)
variable {P:Pg}{h0 h:Hd}{pk dk N u:Nat}
def Zv3(hz:acc.length<=1000)(q:elt (S.set 0 (Wx d)) h=.ok x h2):Zz Wy (.nm 0) (tsto U Wy) elt (d::ds) S acc h=Zz Wy (.nm 0) (tsto U Wy) elt ds S (acc++[x]) h2:=by
 have hl:acc.length<sizeLine:=by rw[YC];lia
 rw[ZQ];simp[Wk.stays,hl,q]
def Zxr(hz:acc.length<=1000)(q:elt (S.set 0 (Wx d)) h=.exc c h2):Zz Wy (.nm 0) (tsto U Wy) elt (d::ds) S acc h=.exc c h2:=by
 have hl:acc.length<sizeLine:=by rw[YC];lia
 rw[Zz,if_pos ⟨rfl,hl⟩];show(elt (S.set 0 (Wx d)) h).bind _=_;rw[q];rfl
inductive Ct(h0:Hd)(pk:Nat)(xs:List D)(u:Nat):R (List D)->Prop
 |ok {h':Hd} (le:u<=120) (a:Aft h0 h' pk (.int 120) (u:Int)):Ct h0 pk xs u (.ok xs h')
 |ex {h':Hd} (lt:120<u) (o:Old h0 h' pk):Ct h0 pk xs u (.exc (O "Wide") h')
noncomputable def Zj6:Ex:=(.mcl (O "Pen") (O "told") (.var 1) (.cons (.var 0) .nil))
theorem Zpp(H:Drd P)(n:Nat)(hN:1<=N)(hN2:N<=45000):∀(vs:List Th) (acc:List D) (h:Hd) (u:Nat),(∀v∈vs,ThG N v)->u<=120->acc.length+vs.length<=1000->Aft h0 h pk (.int 120) (u:Int) ->
 Ct h0 pk (acc++vs.map λv=>(rd v).d) (u+szs vs) (Zz Wy (.nm 0) (tsto (P.tbl (n+4)) Wy) (ev (P.tbl (n+4)) Zj6) (vs.map Th.d) [Wy,Wx (.ref pk)] acc h)
 |[],acc,h,u,_,hu,_,a=>by have e:Zz Wy (.nm 0) (tsto (P.tbl (n+4)) Wy) (ev (P.tbl (n+4)) Zj6) ([].map Th.d) [Wy,Wx (.ref pk)] acc h=.ok acc h:=rfl;rw[e,Oy,Yt];exact .ok hu a
 |v::vs,acc,h,u,g,hu,hz,a=>by
  rw[Os]at hz;have o:=Pw.ZsE H.p n hN hN2 v a hu (g v Oi);rw[Za3];generalize hr:run P (n+4) (mnm (O "Pen") (O "told")) [.ref pk,v.d] h=y at o;cases o with
  |@ok h1 le a1=>have q:ev (P.tbl (n+4)) Zj6 [Wx v.d,Wx (.ref pk)] h=.ok (rd v).d h1:=ZbV rfl a.1 rfl (Zb rfl rfl) hr;rw[show(v::vs).map Th.d=v.d::vs.map Th.d from rfl,Zv3 (S:=[Wy,Wx (.ref pk)]) (by lia) q];have ih:=Zpp H n hN hN2 vs (acc++[(rd v).d]) h1 (u+(rd v).size) (λw hw=>g w (Oh _ hw)) (by lia) (by simp;lia) (by simpa using a1);rw[Oz,Nat.add_assoc]at ih;exact ih
  |@ex h1 lt o1=>have q:ev (P.tbl (n+4)) Zj6 [Wx v.d,Wx (.ref pk)] h=.exc (O "Wide") h1:=ZbV rfl a.1 rfl (Zb rfl rfl) hr;rw[show(v::vs).map Th.d=v.d::vs.map Th.d from rfl,Zxr (S:=[Wy,Wx (.ref pk)]) (by lia) q];exact .ex (by lia) o1
def ZpS(st:List Th):szs st.reverse=szs st:=by simp[szs]
inductive Lvr(h0:Hd)(pk:Nat)(t:T):R D->Prop
 |ok {h':Hd}{dk:Nat} (le:t.size<=120) (s:Sl h0 h' pk dk t.size [t.d]):Lvr h0 pk t (.ok (.ref dk) h')
 |ex {g:Hd} (lt:120<t.size):Lvr h0 pk t (.exc (O "Wide") (h0++g))
noncomputable def cmx:Ex:=(.comp [(O "thing"),(O "pen")] [Wy,Wx 0] (.pl (.ix (.var 1) (.cst (.int 0)))) (.nm 0) Wy Zj6)
theorem ZhN(H:Drd P)(n:Nat)(hN:1<=N)(hN2:N<=45000){lvd:D}{rs:List Th}{todo:List Dm.It}{ak:Nat}{ab:List D}{t:T}(e0:∀ h',Z5 P.GD lvd (.int 0) h'=.ok (.tup (Dm.sd rs)) h')(e2:∀ h',Z5 P.GD lvd (.int 2) h'=.ok (.tup (todo.map Dm.It.d)) h')
   (s:Sl h0 h pk ak u ab) (hu:u<=120) (gs:∀ v∈rs,ThG N v) (hz:rs.length<=900) (hab:ab.length<=10) (lt:u+szs rs<=t.size)
   (fin:∀ dk h',u+szs rs<=120->Sl h0 h' pk dk (u+szs rs) (stk rs++ab)->Lo h0 pk dk lvd (.ref ak) t (ZK Wy (.nm 4) (xs2 (P.tbl (n+4)) Zcn) (todo.map Dm.It.d) (vv pk lvd (.ref ak) dk Wy) h')):Lvr h0 pk t (run P (n+5) (O "level_read") [.ref pk,lvd,.ref ak] h):=by
 rw [Zc H.level_read (by rfl)];show Lvr h0 pk t (Zh (xs2 (P.tbl (n+4)) (.cons ZaR (.cons ZaQ (.cons Zds .nil))) [Wx (.ref pk),Wx lvd,Wx (.ref ak),Wy,Wy] h));have c:=Zpp H n hN hN2 rs.reverse [] h u (fun v hv=>gs v (by simpa using hv)) hu (by simp;lia) s.self;rw [ZpS,OB,show (rs.reverse.map fun v=>(rd v).d)=stk rs by simp [stk],show rs.reverse.map Th.d=Dm.sd rs by simp [Dm.sd]] at c;have ei:evi (P.tbl (n+4)) (.pl (.ix (.var 1) (.cst (.int 0)))) [Wx (.ref pk),Wx lvd,Wx (.ref ak),Wy,Wy] h=.ok ⟨Wy,Dm.sd rs⟩ h:=Zgw ((Zr (x:=lvd) rfl rfl).trans (e0 _));generalize hr:Zz Wy (.nm 0) (tsto (P.tbl (n+4)) Wy) (ev (P.tbl (n+4)) Zj6) (Dm.sd rs) [Wy,Wx (.ref pk)] [] h=y at c;cases c with
 | @ex h1 l o =>
   have ec:ev (P.tbl (n+4)) cmx [Wx (.ref pk),Wx lvd,Wx (.ref ak),Wy,Wy] h=.exc (O "Wide") h1:=by
     rw [cmx,Zez,ei,Zp];show (Zz Wy (.nm 0) (tsto (P.tbl (n+4)) Wy) (ev (P.tbl (n+4)) Zj6) (Dm.sd rs) [Wy,Wx (.ref pk)] [] h).bnd _=_;rw [hr];rfl
   have x1:xs1 (P.tbl (n+4)) ZaR [Wx (.ref pk),Wx lvd,Wx (.ref ak),Wy,Wy] h=.exc (O "Wide") h1:=ZnA (by
     show ev (P.tbl (n+4)) (.bin .Add cmx (.var 2)) _ h=_;rw [Zk0,ec];rfl)
   rw [Zc4 x1];obtain ⟨g,rfl⟩:=s.gone o;exact .ex (by lia)
 | @ok h1 le a =>
   have ec:ev (P.tbl (n+4)) cmx [Wx (.ref pk),Wx lvd,Wx (.ref ak),Wy,Wy] h=.ok (.ref h1.length) (h1++[.lst (stk rs)]):=Zpb ei hr;have s1:=(s.aft (v:=u+szs rs) a)
   have k1:(h1++[DO.lst (stk rs)])[ak]? = Wx (.lst ab):=keep s1.l;have k2:(h1++[DO.lst (stk rs)])[h1.length]? = Wx (.lst (stk rs)):=by simp
   have eb:opB .Add (.ref h1.length) (.ref ak) (h1++[.lst (stk rs)])=.ok (.ref (h1++[DO.lst (stk rs)]).length) (h1++[.lst (stk rs)]++[.lst (stk rs++ab)]):=by
     show Znc (.ref h1.length) (.ref ak) (h1++[.lst (stk rs)])=_;unfold Znc;simp only [k1,k2];rw [if_pos (by rw [Zbq,YC];lia)];rfl
   have x1:xs1 (P.tbl (n+4)) ZaR [Wx (.ref pk),Wx lvd,Wx (.ref ak),Wy,Wy] h=.ok (.nx,vv pk lvd (.ref ak) (h1++[DO.lst (stk rs)]).length Wy) (h1++[.lst (stk rs)]++[.lst (stk rs++ab)]):=Zj ((Zk ec rfl).trans eb);have s2:Sl h0 (h1++[.lst (stk rs)]++[.lst (stk rs++ab)]) pk (h1++[DO.lst (stk rs)]).length (u+szs rs) (stk rs++ab):=⟨keep (keep s1.p),by simp,by have:=s1.ol;simp;lia,s1.o1,by have:=s1.ol;simp;lia,fun i hi=>by
     have:=s1.ol;rw [Oe (by simp;lia),Oe (by lia)];exact s1.old i hi⟩
   rw [Za x1];have lo:=fin _ _ le s2;have ei2:evi (P.tbl (n+4)) Zvy (vv pk lvd (.ref ak) (h1++[DO.lst (stk rs)]).length Wy) (h1++[.lst (stk rs)]++[.lst (stk rs++ab)])=.ok ⟨Wy,todo.map Dm.It.d⟩ (h1++[.lst (stk rs)]++[.lst (stk rs++ab)]):=Zgw ((Zr (x:=lvd) rfl rfl).trans (e2 _));generalize hs:ZK Wy (.nm 4) (xs2 (P.tbl (n+4)) Zcn) (todo.map Dm.It.d) (vv pk lvd (.ref ak) (h1++[DO.lst (stk rs)]).length Wy) (h1++[.lst (stk rs)]++[.lst (stk rs++ab)])=y at lo;have x2:xs1 (P.tbl (n+4)) ZaQ (vv pk lvd (.ref ak) (h1++[DO.lst (stk rs)]).length Wy) (h1++[.lst (stk rs)]++[.lst (stk rs++ab)])=y:=by
     rw [Zgj];exact (Zca ei2).trans hs
   cases lo with
   | ex lt=>rw [Zc4 x2];exact .ex lt
   | ok le s=>rw [Za x2];exact .ok le s
def Cx.things(c:Cx st ar r ws):(∀w∈ws,Zc3 w)->(∀w∈ws,WtN N w)->∀v∈st,ThG N v:=by
 induction c with
 |nil=>intro _ _ v hv;cases hv
 |app c ih=>
  intro ok b v hv;rcases O3.mp hv with rfl|hv
  . exact ZeI _ (ok _ Oi) (b _ Oi)
  . exact ih (λw hw=>ok w (Oh _ hw)) (λw hw=>b w (Oh _ hw)) v hv
 |work c ih=>
  intro ok b v hv;rcases O3.mp hv with rfl|hv
  . exact ZeI _ (ok _ Oi) (b _ Oi)
  . exact ih (λw hw=>ok w (Oh _ hw)) (λw hw=>b w (Oh _ hw)) v hv
 |arg c ih=>intro ok b;exact ih (λw hw=>ok w (Oh _ hw)) (λw hw=>b w (Oh _ hw))
 |right c ih=>intro ok b;exact ih (λw hw=>ok w (Oh _ hw)) (λw hw=>b w (Oh _ hw))
 |cho c ih=>intro ok b;exact ih (λw hw=>ok w (Oh _ hw)) (λw hw=>b w (Oh _ hw))
noncomputable def vd(sd:D)(pk dk:Nat)(o3:Option D):Ev:=[Wx sd,Wx (.ref pk),Wx (.ref dk),o3]
inductive Ld(h0:Hd)(pk:Nat)(sd:D)(t:T):R (Fl×Ev)->Prop
 |ok {h':Hd}{dk:Nat}{o3:Option D} (le:t.size<=120) (s:Sl h0 h' pk dk t.size [t.d]):Ld h0 pk sd t (.ok (.nx,vd sd pk dk o3) h')
 |ex {g:Hd} (lt:120<t.size):Ld h0 pk sd t (.exc (O "Wide") (h0++g))
def ZtC(H:Drd P)(n:Nat)(hN:1<=N)(hN2:N<=45000){sd:D}{d:List Lv}{vs:List Wt}(x:Dx d vs):(∀w∈vs,Zc3 w)->(∀w∈vs,WtN N w)->(∀l∈d,l.st.length<=800)->∀(t:T) (h:Hd) (dk:Nat) (o3:Option D),t.size<=120->Sl h0 h pk dk t.size [t.d] ->
 Ld h0 pk sd (rnd vs t) (ZK Wy (.nm 3) (xs2 (P.tbl (n+5)) Zi7) (d.map Lv.d) (vd sd pk dk o3) h):=by
 induction x with
 |nil=>intro _ _ _ t h dk o3 hz s;exact .ok (o3:=o3) hz s
 |@cons l d ws vs c x ih=>
  intro ok b hl t h dk o3 hz s;have ok1:=λw hw=>ok w (Ys _ hw);have b1:=λw hw=>b w (Ys _ hw);have ok2:=λw hw=>ok w (Ov _ hw);have b2:=λw hw=>b w (Ov _ hw);have ll:=hl l Oi;have er:rnd (ws++vs) t=rnd vs (rnd ws t):=by simp[rnd]
  have lv:=ZhN H n hN hN2 (lvd:=l.d) (t:=rnd ws t) (λ_=>rfl) (λ_=>rfl) s hz (c.things ok1 b1) (by lia) (by simp) (ZbS c t) λdk' h' le s'=>ZtB H n hN hN2 c ok1 b1 (λ_=>rfl) t h' Wy le ll s';rw[er];generalize hr:run P (n+5) (O "level_read") [.ref pk,l.d,.ref dk] h=y at lv;cases lv with
  |@ok h1 dk1 le s1=>have w:xs2 (P.tbl (n+5)) Zi7 (vd sd pk dk (Wx l.d)) h=.ok (.nx,vd sd pk dk1 (Wx l.d)) h1:=ZI.trans (Zj (Zl hr rfl));rw[Op,Zcb (g:=.nm 3) (S:=vd sd pk dk o3) (ρ1:=vd sd pk dk (Wx l.d)) rfl w];exact ih ok2 b2 (λl' hl'=>hl l' (Oh _ hl')) (rnd ws t) h1 dk1 (Wx l.d) le s1
  |ex lt=>have w:xs2 (P.tbl (n+5)) Zi7 (vd sd pk dk (Wx l.d)) h=.exc (O "Wide") _:=ZI.trans (ZnA (Zl hr rfl));rw[Op,Zo1 (g:=.nm 3) (S:=vd sd pk dk o3) (ρ1:=vd sd pk dk (Wx l.d)) rfl w];have:=Rw.Zc8 vs (rnd ws t);exact .ex (by lia)
def ZlC(H:Drd P)(n:Nat)(hN:1<=N)(hN2:N<=45000){s:Dm.Sta}{vs:List Wt}{t:T}(x:Dx s.dump vs)(ok:∀w∈vs,Zc3 w)(b:∀w∈vs,WtN N w)(hl:∀l∈s.dump,l.st.length<=800)
 (lv:∀h' ,Sl h h' h.length (h.length+1) 0 []->Lvr h h.length t (run P (n+5) (O "level_read") [.ref h.length,s.d,.ref (h.length+1)] h')):Rs h (rnd vs t) (run P (n+6) (O "dump_read") [s.d] h):=by
 rw[Zc H.dump_read (by rfl)];show Rs h (rnd vs t) (Zh (xs2 (P.tbl (n+5)) (.cons Zcg (.cons Za2 (.cons Za1 (.cons Zcf .nil)))) [Wx s.d,Wy,Wy,Wy] h));have x1:xs1 (P.tbl (n+5)) Zcg [Wx s.d,Wy,Wy,Wy] h=.ok (.nx,[Wx s.d,Wx (.ref h.length),Wy,Wy]) (h++[Zas (.int 120) 0]):=by
  refine Zj (i:=1) ?_;have eg:ev (P.tbl (n+5)) (.glo (O "WIDEST")) [Wx s.d,Wy,Wy,Wy] h=.ok (.int 120) h:=by show R.ofO (P.G (O "WIDEST")) h=_;rw[H.p.gw];rfl
  simp only[ZvW,Zcx,Zh8,eg,Zp];exact ZrN H.p.t (n+4) (.int 120) h
 have s0:Sl h (h++[Zas (.int 120) 0]++[.lst []]) h.length (h.length+1) 0 []:=⟨by simp,by simp,by simp,Oq _,Wo _,λi hi=>by rw[Oz,Oe hi]⟩
 have el:ev (P.tbl (n+5)) (.lstl .nil) [Wx s.d,Wx (.ref h.length),Wy,Wy] (h++[Zas (.int 120) 0])=.ok (.ref (h.length+1)) (h++[Zas (.int 120) 0]++[.lst []]):=by have:=Zjv (U:=P.tbl (n+5)) (S:=[Wx s.d,Wx (.ref h.length),Wy,Wy]) (h:=h++[Zas (.int 120) 0]) (es:=.nil) (xs:=[]) rfl (by simp);simpa using this
 have es:evs (P.tbl (n+5)) (.cons (.var 1) (.cons (.var 0) (.cons (.lstl .nil) .nil))) [Wx s.d,Wx (.ref h.length),Wy,Wy] (h++[Zas (.int 120) 0])=.ok [.ref h.length,s.d,.ref (h.length+1)] (h++[Zas (.int 120) 0]++[.lst []]):=Zb rfl (Zb rfl (Zb el rfl));have lv:=lv _ s0;rw[Za x1];generalize hr:run P (n+5) (O "level_read") [.ref h.length,s.d,.ref (h.length+1)] (h++[Zas (.int 120) 0]++[.lst []])=y at lv;cases lv with
 |@ex g lt=>have x2:xs1 (P.tbl (n+5)) Za2 [Wx s.d,Wx (.ref h.length),Wy,Wy] (h++[Zas (.int 120) 0])=.exc (O "Wide") (h++g):=ZnA (Zl hr es);rw[Zc4 x2];have:=Rw.Zc8 vs t;exact .ex (by lia)
 |@ok h1 dk le s1=>
  have x2:xs1 (P.tbl (n+5)) Za2 [Wx s.d,Wx (.ref h.length),Wy,Wy] (h++[Zas (.int 120) 0])=.ok (.nx,vd s.d h.length dk Wy) h1:=Zj (Zl hr es);rw[Za x2];have ld:=ZtC H n hN hN2 (sd:=s.d) x ok b hl t h1 dk Wy le s1;have ei:evi (P.tbl (n+5)) ZvE (vd s.d h.length dk Wy) h1=.ok ⟨Wy,s.dump.map Lv.d⟩ h1:=Zgw ((Zr (x:=s.d) rfl rfl).trans rfl);generalize hs:ZK Wy (.nm 3) (xs2 (P.tbl (n+5)) Zi7) (s.dump.map Lv.d) (vd s.d h.length dk Wy) h1=y at ld;have x3:xs1 (P.tbl (n+5)) Za1 (vd s.d h.length dk Wy) h1=y:=by rw[ZgU];exact(Zca ei).trans hs
  cases ld with
  |ex lt=>rw[Zc4 x3];exact .ex lt
  |@ok h2 dk2 o3 le s2=>rw[Za x3];obtain⟨g,rfl⟩:=s2.self_gone;have x4:xs1 (P.tbl (n+5)) Zcf (vd s.d h.length dk2 o3) (h++g)=.ok (.rt (rnd vs t).d,vd s.d h.length dk2 o3) (h++g):=Zx ((Zr (x:=.ref dk2) (y:=.int 0) rfl rfl).trans (by rw[ZS s2.l];rfl));rw[Zf x4];exact .ok le
def Zp8(H:Drd P)(n:Nat)(hN:1<=N)(hN2:N<=45000){s:Dm.Sta}{Z:Rw.Sta}(r:Re s Z)(ok:ZdK Z)(b:StN N Z)(hd:∀l∈s.dump,l.st.length<=800)(hs:s.st.length<=800)(h:Hd):Rs h (read Z) (run P (n+6) (O "dump_read") [s.d] h):=by
 cases r with
 |@go E st ar r d ws vs c x=>
  have ok1:=λw hw=>ok.2.2 w (Ys _ hw);have b1:=λw hw=>b.2.2 w (Ys _ hw);have er:read (.go E ar (ws++vs))=rnd vs (rnd ws (sub (ra ar) E)):=by simp[Rw.read,rnd]
  rw[er];simp only at hs;have rs:=ZbS c (sub (ra ar) E);refine ZlC H n hN hN2 (s:=⟨st,ar,.ex E::r,d⟩) x (λw hw=>ok.2.2 w (Ov _ hw)) (λw hw=>b.2.2 w (Ov _ hw)) hd λh' s0=>?_;refine ZhN H n hN hN2 (rs:=st) (todo:=.ex E::r) (λ_=>rfl) (λ_=>rfl) s0 (by lia) (c.things ok1 b1) (by lia) (by simp) (by lia) λdk h2 le s2=>?_;have s2:=s2.cast (es:=stk st) (Nat.zero_add _) (Yt _);exact Zow H n hN hN2 E (Zd3 ok.2.1 b.1 b.2.1) (λ_=>rfl) s2 (by lia) (by rw[Zbq];lia) (by lia) λh3 o4 le s3=>ZtB H n hN hN2 c ok1 b1 (λ_=>rfl) (sub (ra ar) E) h3 o4 (by lia) hs (s3.cast (YW _ _) rfl)
 |@back V st ar r d ws vs c x nn=>
  have ok1:=λw hw=>ok.2 w (Ys _ hw);have b1:=λw hw=>b.2 w (Ys _ hw);have er:read (.back V (ws++vs))=rnd vs (rnd ws (rd V)):=by simp[Rw.read,rnd]
  rw[er];simp only[Os]at hs;have rs:=ZbS c (rd V);refine ZlC H n hN hN2 (s:=⟨V::st,ar,r,d⟩) x (λw hw=>ok.2 w (Ov _ hw)) (λw hw=>b.2 w (Ov _ hw)) hd λh' s0=>?_;refine ZhN H n hN hN2 (rs:=V::st) (todo:=r) (λ_=>rfl) (λ_=>rfl) s0 (by lia) (λv hv=>?_) (by simp;lia) (by simp) (by rw[Za3];lia) λdk h2 le s2=>?_
  . rcases O3.mp hv with rfl|hv
    . exact ZeI _ ok.1 b.1
    . exact c.things ok1 b1 v hv
  . rw[Za3]at le;exact ZtB H n hN hN2 c ok1 b1 (λ_=>rfl) (rd V) h2 Wy (by lia) (by lia) (s2.cast (by rw[Za3];lia) (by rw[Yt,ZfK]))
end Dr
end
section
namespace Dr
open PySem IV Tm Pw
open Rw (Th Wt Zch Zc3 ZdK StN WtN ThN read rd ra fw rnd ms wm wms)
open Dm (Lv)
open Rr (Z0 ZbR Zb3 Rs rdo)
variable {P:Pg}{h:Hd}{N:Nat}
def Qs.keep(q:Qs Z σ'):ZdK Z->StN N Z->ZdK σ'/\StN N σ'/\read σ'=read Z:=by
 induction q with
 |refl=>exact λok b=>⟨ok,b,rfl⟩
 |step e q ih=>intro ok b;obtain⟨ok1,b1⟩:=Rw.ZiE ok b (.inl e);have sm:=Rw.ZiD _ ok;rw[e]at sm;obtain⟨a,c,d⟩:=ih ok1 b1;exact⟨a,c,d.trans sm⟩
def Re.lens(r:Re s Z)(hz:(read Z).size<=120):s.st.length<=121/\∀l∈s.dump,l.st.length<=120:=by
 have wl:=Rw.Zix Z;cases r with
 |@go E st ar r d ws vs c x=>rw[show Rw.wts (.go E ar (ws++vs))=ws++vs from rfl,OA]at wl;have:=c.len;exact⟨by show st.length<=121;lia,λl hl=>by have:=x.len l hl;lia⟩
 |@back V st ar r d ws vs c x n=>rw[show Rw.wts (.back V (ws++vs))=ws++vs from rfl,OA]at wl;have:=c.len;exact⟨by show st.length+1<=121;lia,λl hl=>by have:=x.len l hl;lia⟩
structure Di(N:Nat)(s:Dm.Sta)(Z:Rw.Sta)(k:Nat):Prop where
 re:Re s Z
 ok:ZdK Z
 b:StN N Z
 dl:s.dump.length<=k
 hs:s.st.length<=700
 hl:∀l∈s.dump,l.st.length<=700
inductive Sp(N:Nat)(t:T)(k:Nat):Dm.Ans->Prop
 |quiet {s':Dm.Sta}{σ':Rw.Sta} (d:Di N s' σ' k) (er:read σ'=t):Sp N t k (.quiet s')
 |loud {s':Dm.Sta}{σ':Rw.Sta} (d:Di N s' σ' (k+1)) (nv:isV t=WA) (nx:next t=Wx (read σ')):Sp N t k (.loud s')
 |value (v:isV t=Wz):Sp N t k .value
 |stuck (nv:isV t=WA) (nx:next t=Wy):Sp N t k .stuck
theorem Di.step(d:Di N s Z k)(hz:(read Z).size<=120):Sp N (read Z) k (Dm.step s):=by
 have sm:=sim d.re d.ok;have rs:=Rw.ZiD Z d.ok;generalize ha:Dm.step s=a at sm;cases sm with
 |quiet r q hd=>obtain⟨ok',b',e'⟩:=q.keep d.ok d.b;obtain⟨l1,l2⟩:=r.lens (by rw[e'];exact hz);exact .quiet ⟨r,ok',b',OE hd d.dl,by lia,λl hl=>by have:=l2 l hl;lia⟩ e'
 |loud e r q l1 l2 l3=>
  rw[e]at rs;obtain⟨⟨nv,_⟩,nx⟩:=rs;obtain⟨ok1,b1⟩:=Rw.ZiE d.ok d.b (.inr e);obtain⟨ok',b',e'⟩:=q.keep ok1 b1;obtain⟨m1,m2⟩:=d.re.lens hz;refine .loud ⟨r,ok',b',OE l1 (Nat.succ_le_succ d.dl),by lia,λl hl=>?_⟩ nv (by rw[e'];exact nx);rcases l3 l hl with z|z
  . exact d.hl l z
  . lia
 |value e=>rw[e]at rs;obtain⟨_,_,v⟩:=rs;exact .value v
 |stuck e=>rw[e]at rs;obtain⟨⟨nv,_⟩,nx⟩:=rs;exact .stuck nv nx
def Di.begin(t:T)(c:Gn.Cl [] t):Di t.size ⟨[],.nil,[.ex t],[]⟩ (.go t .nil []) 0:=⟨.go (ws:=[]) (vs:=[]) .nil .nil,⟨c,trivial,λx hx=>by cases hx⟩,⟨by show 0+2 * t.size<=2 * t.size;lia,trivial,λx hx=>by cases hx⟩,Oq _,Yy _,λl hl=>by cases hl⟩
theorem Di.run(H:Drd P)(n:Nat)(d:Di N s Z k)(hN2:N<=45000)(hz:(read Z).size<=120)(hk:k<=900):run P (n+5) (O "dump_step") [s.d] h=.ok (Dm.step s).d h:=Zp7 H.m n d.re d.ok d.b hN2 hz (OE d.dl hk)
theorem Di.read(H:Drd P)(n:Nat)(d:Di N s Z k)(hN:1<=N)(hN2:N<=45000)(h:Hd):Rs h (Rw.read Z) (IV.run P (n+6) (O "dump_read") [s.d] h):=Zp8 H n hN hN2 d.re d.ok d.b (λl hl=>by have:=d.hl l hl;lia) (by have:=d.hs;lia) h
def Di.lread(H:Drd P)(n:Nat)(d:Di N s Z k)(hN:1<=N)(hN2:N<=45000)(h:Hd):∃g,IV.run P (n+7) (O "_law_read") [s.d] h=.ok (rdo (Rw.read Z)) (h++g):=by
 have r:=d.read H n hN hN2 h;rw[Zc H.law_read (by rfl)];show ∃g,Zh (xs2 (P.tbl (n+6)) ZcN [Wx s.d,Wy] h)=_;generalize hr:IV.run P (n+6) (O "dump_read") [s.d] h=y at r;cases r with
 |@ok g le=>refine⟨g,?_⟩;have w:xs2 (P.tbl (n+6)) ZcN [Wx s.d,Wy] h=.ok (.rt (Rw.read Z).d,[Wx s.d,Wx (Rw.read Z).d]) (h++g):=(Za (Zj rfl)).trans ((Za (Zsh (Zb rfl rfl) hr)).trans (Zf (Zx rfl)));rw[w,rdo,if_pos le];rfl
 |@ex g lt=>refine⟨g,?_⟩;have w:xs2 (P.tbl (n+6)) ZcN [Wx s.d,Wy] h=.ok (.rt .non,[Wx s.d,Wx .non]) (h++g):=(Za (Zj rfl)).trans ((Za (Zuw (Zb rfl rfl) hr)).trans (Zf (Zx rfl)));rw[w,rdo,if_neg (by lia)];rfl
end Dr
end
section
namespace Dr
open PySem IV Tm
open Rw (Th Wt read ms wm wms)
open Dm (Lv)
open Rr (Z0 ZbR Zb3 ZlN)
noncomputable def tz:List Dm.It->Nat
 |[]=>0
 |.ex E::r=>E.size+tz r
 |.app::r=>tz r
 |.work _::r=>tz r
 |.cho _ _::r=>tz r
noncomputable def lz(d:List Lv):Nat:=(d.map λl=>2 * tz l.todo+1).sum
noncomputable def dl(s:Dm.Sta):Nat:=2 * tz s.todo+lz s.dump
def Znl(E:T)(r:List Dm.It):tz (Dm.apart E++r)+1<=E.size+tz r:=by
 have:=Zac E;cases E with
 |call F A=>rw[Z0];simp only[Dm.apart,List.cons_append,OB,tz];lia
 |iff C t e=>rw[Zb3];simp only[Dm.apart,List.cons_append,OB,tz];lia
 |op w a b=>rw[ZbR];simp only[Dm.apart,List.cons_append,OB,tz];lia
 |_=>simp only[Dm.apart,OB];lia
def Zt2(e:Dm.step s=.quiet s'):dl s'<dl s:=by
 obtain⟨st,ar,todo,d⟩:=s;cases todo with
 |nil=>
  cases d with
  |nil=>cases e
  |cons l r=>
   cases st with
   |nil=>cases e
   |cons v st=>cases e;simp only[dl,lz,Op,OI,tz];lia
 |cons i r=>
  cases i with
  |ex E=>have e:Dm.Ans.quiet (Dm.quiet E st ar r d)=.quiet s':=e;cases e;have h1:=Znl E r;have h2:=Zac E;unfold Dm.quiet;split<;>(simp only[dl,tz];lia)
  |app=>
   rcases st with _|⟨V,_|⟨W,st⟩⟩
   . cases e
   . cases e
   . cases W with
     |num z=>cases e
     |clo E a=>cases E<;>cases e
  |cho a b=>
   rcases st with _|⟨V,st⟩
   . cases e
   . cases V<;>cases e
  |work w=>
   rcases st with _|⟨V,_|⟨W,st⟩⟩
   . cases e
   . cases e
   . cases W<;>cases V<;>cases e
def Cx.tz_le(c:Cx st ar r ws):2 * tz r<=wms ws:=by
 induction c with
 |nil=>exact Oq _
 |app c ih=>rw[Rw.Zci];simp only[tz,wm];lia
 |arg c ih=>rw[Rw.Zci];simp only[tz,wm];lia
 |work c ih=>rw[Rw.Zci];simp only[tz,wm];lia
 |right c ih=>rw[Rw.Zci];simp only[tz,wm];lia
 |cho c ih=>rw[Rw.Zci];simp only[tz,wm];lia
def ZhA(a b:List Wt):wms (a++b)=wms a+wms b:=by simp[wms]
def Dx.lz_le(x:Dx d vs):lz d<=wms vs+d.length:=by
 induction x with
 |nil=>exact Oq _
 |cons c x ih=>
  have:=c.tz_le;rw[ZhA];simp only[lz,Op,OI,Os]at ih ⊢
  lia
def Re.dl_le(r:Re s Z):dl s<=2 * (read Z).size+s.dump.length:=by
 have m:=ZlN Z;cases r with
 |@go E st ar r d ws vs c x=>
  have h1:=c.tz_le;have h2:=x.lz_le;rw[show ms (.go E ar (ws++vs))=2 * E.size+wms (ws++vs)from rfl,ZhA]at m;simp only[dl,tz]
  lia
 |@back V st ar r d ws vs c x n=>
  have h1:=c.tz_le;have h2:=x.lz_le;rw[show ms (.back V (ws++vs))=wms (ws++vs)from rfl,ZhA]at m;simp only[dl]
  lia
def Zv1(d:Di N s Z k)(hz:(read Z).size<=120):dl s<=240+k:=by
 have:=d.re.dl_le;have:=d.dl
 lia
end Dr
end
section
namespace K35L
open PySem L2 IV
noncomputable def ZcZ:Sx:=(.forr (.nm 1) (.rng (.cst (.int 600))) (.cons (.set (.nm 2) (.call (O "dump_step") (.cons (.var 0) .nil))) (.cons (.iff (.ex (.cmp .NotEq (.ix (.var 2) (.cst (.int 0))) (.cst (.str (O "quiet"))))) (.cons (.ret (.var 2)) .nil) .nil) (.cons (.set (.nm 0) (.ix (.var 2) (.cst (.int 1)))) .nil))))
noncomputable def Zfo:Sx:=(.ret (.tupl (.cons (.cst (.str (O "endless"))) .nil)))
noncomputable def Zd2:Sxs:=(.cons ZcZ (.cons Zfo .nil))
noncomputable def Zah:Fd:=⟨[(O "_law_state")],[(O "_law_state"),(O "_law_k"),(O "_law_answer")],Zd2⟩
noncomputable def Zis:Sx:=(.set (.nm 1) (.call (O "_law_program") (.cons (.var 0) (.cons (.cst (.int 1)) .nil))))
noncomputable def ZfB:Sx:=(.set (.two 2 3) (.call (O "row_of") (.cons (.var 1) (.cons (.bin .Mod (.call (O "_law_mixed") (.cons (.call (O "_law_cell_at") (.cons (.var 0) (.cons (.cst (.int 0)) .nil))) (.cons (.cst (.int 1)) .nil))) (.cst (.int 25))) .nil))))
noncomputable def Zir:Sx:=(.set (.nm 4) (.call (O "dump_begun") (.cons (.var 1) .nil)))
noncomputable def Ziq:Sx:=(.set (.nm 5) (.tupl (.cons (.cst (.str (O "none"))) .nil)))
noncomputable def ZfA:Sx:=(.forr (.nm 6) (.rng (.blt .len (.cons (.var 2) .nil))) (.cons (.iff (.ex (.cmp .NotEq (.call (O "_law_read") (.cons (.var 4) .nil)) (.ix (.var 2) (.var 6)))) (.cons (.ret (.cst (.bl WA))) .nil) .nil) (.cons (.set (.nm 5) (.call (O "_law_gone_on") (.cons (.var 4) .nil))) (.cons (.iff (.ex (.cmp .Lt (.var 6) (.bin .Sub (.blt .len (.cons (.var 2) .nil)) (.cst (.int 1))))) (.cons (.iff (.ex (.cmp .NotEq (.ix (.var 5) (.cst (.int 0))) (.cst (.str (O "loud"))))) (.cons (.ret (.cst (.bl WA))) .nil) .nil) (.cons (.set (.nm 4) (.ix (.var 5) (.cst (.int 1)))) .nil)) .nil) .nil))))
noncomputable def ZeE:Sx:=(.iff (.ors (.cons (.ex (.cmp .Eq (.var 3) (.cst (.str (O "value"))))) (.one (.ex (.cmp .Eq (.var 3) (.cst (.str (O "stuck")))))))) (.cons (.ret (.cmp .Eq (.var 5) (.tupl (.cons (.var 3) .nil)))) .nil) .nil)
noncomputable def Zfz:Sx:=(.ret (.ands (.cons (.cmp .Eq (.ix (.var 5) (.cst (.int 0))) (.cst (.str (O "loud")))) (.cons (.ors (.cons (.cmp .Eq (.var 3) (.cst (.str (O "open")))) (.cons (.cmp .Is (.call (O "_law_read") (.cons (.ix (.var 5) (.cst (.int 1))) .nil)) (.cst .non)) .nil))) .nil))))
noncomputable def Zv7:Sxs:=(.cons Zis (.cons ZfB (.cons Zir (.cons Ziq (.cons ZfA (.cons ZeE (.cons Zfz .nil)))))))
noncomputable def Zhn:Fd:=⟨[(O "_law_script")],[(O "_law_script"),(O "_law_program_here"),(O "_law_terms"),(O "_law_word_of"),(O "_law_state"),(O "_law_answer"),(O "_law_k")],Zv7⟩
structure Lw(P:Pg):Prop where
 d:Dr.Drd P
 t:Tm.Trw P
 cell:P.tb.lookup (O "_law_cell_at")=Wx Gn.ZM
 law_gone_on:P.tb.lookup (O "_law_gone_on")=Wx Zah
 law:P.tb.lookup (O "law")=Wx Zhn
noncomputable def Zxa:Ix:=(.rng (.cst (.int 600)))
noncomputable def ZvC:Sx:=(.set (.nm 2) (.call (O "dump_step") (.cons (.var 0) .nil)))
noncomputable def Zxc:Sx:=(.iff (.ex (.cmp .NotEq (.ix (.var 2) (.cst (.int 0))) (.cst (.str (O "quiet"))))) (.cons (.ret (.var 2)) .nil) .nil)
noncomputable def Zxb:Sx:=(.set (.nm 0) (.ix (.var 2) (.cst (.int 1))))
noncomputable def Zov:Sxs:=(.cons ZvC (.cons Zxc (.cons Zxb .nil)))
noncomputable def Ztx:Ix:=(.rng (.blt .len (.cons (.var 2) .nil)))
noncomputable def ZvD:Sx:=(.iff (.ex (.cmp .NotEq (.call (O "_law_read") (.cons (.var 4) .nil)) (.ix (.var 2) (.var 6)))) (.cons (.ret (.cst (.bl WA))) .nil) .nil)
noncomputable def Zty:Sx:=(.set (.nm 5) (.call (O "_law_gone_on") (.cons (.var 4) .nil)))
noncomputable def Zxd:Sx:=(.iff (.ex (.cmp .Lt (.var 6) (.bin .Sub (.blt .len (.cons (.var 2) .nil)) (.cst (.int 1))))) (.cons (.iff (.ex (.cmp .NotEq (.ix (.var 5) (.cst (.int 0))) (.cst (.str (O "loud"))))) (.cons (.ret (.cst (.bl WA))) .nil) .nil) (.cons (.set (.nm 4) (.ix (.var 5) (.cst (.int 1)))) .nil)) .nil)
noncomputable def Zhj:Sxs:=(.cons ZvD (.cons Zty (.cons Zxd .nil)))
def Zq1:ZfA=.forr (.nm 6) Ztx Zhj:=rfl
end K35L
end
section
namespace K35L
open PySem IV Tm Pw Rr Dr
variable {P:Pg}{h:Hd}{N:Nat}
structure Gon(N:Nat)(t:T)(k:Nat)(s':Dm.Sta):Prop where
 p:Sp N t k (Dm.step s')
 q:∀s2,Dm.step s'≠.quiet s2
noncomputable def wrd:Dm.Ans->Str
 |.quiet _=>O "quiet"
 |.loud _=>O "loud"
 |.value=>O "value"
 |.stuck=>O "stuck"
def ZtI(p:ev U e S h=.ok a.d h):ev U (.ix e (.cst (.int 0))) S h=.ok (.str (wrd a)) h:=by refine(Zr p rfl).trans ?_;cases a<;>rfl
noncomputable def vg(sd:D)(o1 o2:Option D):Ev:=[Wx sd,o1,o2]
theorem ZoA(H:Lw P)(n:Nat)(hN2:N<=45000)(hk:k<=300):∀(ds:List D) (s:Dm.Sta) (Z:Rw.Sta) (o1 o2:Option D),Di N s Z k->(Rw.read Z).size<=120->dl s<ds.length->∃s' S,ZK Wy (.nm 1) (xs2 (P.tbl (n+6)) Zov) ds (vg s.d o1 o2) h=.ok (.rt (Dm.step s').d,S) h/\Gon N (Rw.read Z) k s'
 |[],s,Z,o1,o2,_,_,hl=>by cases hl
 |x::ds,s,Z,o1,o2,d,hz,hl=>by
  have x1:xs1 (P.tbl (n+6)) ZvC (vg s.d (Wx x) o2) h=.ok (.nx,vg s.d (Wx x) (Wx (Dm.step s).d)) h:=Zj (Zl (d.run H.d (n+1) hN2 hz (by lia)) rfl);have t1:tst (P.tbl (n+6)) (.ex (.cmp .NotEq (.ix (.var 2) (.cst (.int 0))) (.cst (.str (O "quiet"))))) (vg s.d (Wx x) (Wx (Dm.step s).d)) h=.ok (!WB (wrd (Dm.step s)=O "quiet")) h:=Zvr (ZtI rfl) rfl;have st:=d.step hz;by_cases hq:∃s2,Dm.step s=.quiet s2
  . obtain⟨s2,hs⟩:=hq;have d2:=Zt2 hs;rw[hs]at st x1 t1;cases st with
    |@quiet _ σ' d' er=>rw[Os]at hl;obtain⟨s',S,e,g⟩:=ZoA H n hN2 hk ds s2 σ' (Wx x) (Wx (Dm.Ans.quiet s2).d) d' (by rw[er];exact hz) (by lia);rw[er]at g;have w:xs2 (P.tbl (n+6)) Zov (vg s.d (Wx x) o2) h=.ok (.nx,vg s2.d (Wx x) (Wx (Dm.Ans.quiet s2).d)) h:=(Za x1).trans ((Za ((Zt (Zm t1 (by simp[wrd]))).trans rfl)).trans rfl);exact⟨s',S,(Zcb rfl w).trans e,g⟩
  . have nq:wrd (Dm.step s)≠O "quiet" := by
     cases hs:Dm.step s with
     |quiet s2=>exact absurd ⟨s2,hs⟩ hq
     |loud s2=>show O "loud" ≠ O "quiet";decide
     |value=>decide
     |stuck=>decide
    have w:xs2 (P.tbl (n+6)) Zov (vg s.d (Wx x) o2) h=.ok (.rt (Dm.step s).d,vg s.d (Wx x) (Wx (Dm.step s).d)) h:=(Za x1).trans (Zf ((Zs (Zm t1 (by simp[nq]))).trans (Zf (Zx rfl))));exact⟨s,_,Zo2 rfl w,st,λs2 e=>hq ⟨s2,e⟩⟩
def ZsG(H:Lw P)(n:Nat)(hN2:N<=45000)(hk:k<=300)(d:Di N s Z k)(hz:(Rw.read Z).size<=120)(h:Hd):∃s',run P (n+7) (O "_law_gone_on") [s.d] h=.ok (Dm.step s').d h/\Gon N (Rw.read Z) k s':=by have m:=Zv1 d hz;obtain⟨s',S,e,g⟩:=ZoA H n (h:=h) hN2 hk (ZG 0 600) s Z Wy Wy d hz (by rw[ZG,Yu,List.length_range];lia);refine⟨s',?_,g⟩;rw[Zc H.law_gone_on (by rfl)];have ei:evi (P.tbl (n+6)) Zxa (vg s.d Wy Wy) h=.ok ⟨Wy,ZG 0 600⟩ h:=rfl;have x1:xs1 (P.tbl (n+6)) ZcZ (vg s.d Wy Wy) h=.ok (.rt (Dm.step s').d,S) h:=(Zca ei).trans e;exact congrArg Zh (Zf (r:=tlS Zd2) x1)
def ZxA(N:Nat)(w:Str)(a:Dm.Ans):Prop:=(w=O "value" /\ a=.value)\/(w=O "stuck" /\ a=.stuck)\/∃s Z k,a=.loud s/\Di N s Z k/\(w=O "open" \/ (w=O "wide" /\ 120<(Rw.read Z).size))
def Zew(g:Gon N t k s'):(Dm.step s'=.value/\isV t=Wz)\/(Dm.step s'=.stuck/\isV t=WA/\next t=Wy)\/∃s2 σ2,Dm.step s'=.loud s2/\isV t=WA/\next t=Wx (Rw.read σ2)/\Di N s2 σ2 (k+1):=by
 have p:=g.p;have q:=g.q;generalize Dm.step s'=a at p q;cases p with
 |quiet d er=>exact absurd rfl (q _)
 |loud d nv nx=>exact .inr (.inr ⟨_,_,rfl,nv,nx,d⟩)
 |value v=>exact .inl ⟨rfl,v⟩
 |stuck nv nx=>exact .inr (.inl ⟨rfl,nv,nx⟩)
noncomputable def vl(ro tp:D)(rk:Nat)(w sd:D)(o5 o6:Option D):Ev:=[Wx ro,Wx tp,Wx (.ref rk),Wx w,Wx sd,o6,o5]
section
variable {ro tp w:D}{rk:Nat}{ts:List T}
def Znr(H:Lw P)(n:Nat)(hN:1<=N)(hN2:N<=45000)(hk3:k<=300)(d:Di N s Z k)(hz:(Rw.read Z).size<=120)(hk:h[rk]? = Wx (.lst (ts.map T.d)))(hi:ts[i]? = Wx (Rw.read Z))(o6:Option D):∃g s',Gon N (Rw.read Z) k s' /\
 (∀r,xs2 (P.tbl (n+7)) (.cons ZvD (.cons Zty r)) (vl ro tp rk w s.d (Wx (.int (i:Nat))) o6) h=xs2 (P.tbl (n+7)) r (vl ro tp rk w s.d (Wx (.int (i:Nat))) (Wx (Dm.step s').d)) (h++g)) /\
 tst (P.tbl (n+7)) (.ex (.cmp .Lt (.var 6) (.bin .Sub (.blt .len (.cons (.var 2) .nil)) (.cst (.int 1))))) (vl ro tp rk w s.d (Wx (.int (i:Nat))) (Wx (Dm.step s').d)) (h++g)=.ok (WB (i+1<ts.length)) (h++g):=by
 obtain⟨g,e1⟩:=d.lread H.d n hN hN2 h;obtain⟨s',e2,gon⟩:=ZsG H n hN2 hk3 d hz (h++g);rw[rdo,if_pos hz]at e1;have kg:(h++g)[rk]? = Wx (.lst (ts.map T.d)):=keep hk;have ix:ev (P.tbl (n+7)) (.ix (.var 2) (.var 6)) (vl ro tp rk w s.d (Wx (.int (i:Nat))) o6) (h++g)=.ok (Rw.read Z).d (h++g):=by refine(Zr (x:=.ref rk) (y:=.int (i:Nat)) rfl rfl).trans ?_;rw[ZS kg,IV.Zb2,On,hi];rfl
 have t1:tst (P.tbl (n+7)) (.ex (.cmp .NotEq (.call (O "_law_read") (.cons (.var 4) .nil)) (.ix (.var 2) (.var 6)))) (vl ro tp rk w s.d (Wx (.int (i:Nat))) o6) h=.ok WA (h++g):=Zc1 (b:=false) ((Zw (Zl e1 rfl) ix).trans (Zsz Wz _ hz _));have x2:xs1 (P.tbl (n+7)) Zty (vl ro tp rk w s.d (Wx (.int (i:Nat))) o6) (h++g)=.ok (.nx,vl ro tp rk w s.d (Wx (.int (i:Nat))) (Wx (Dm.step s').d)) (h++g):=Zj (Zl e2 rfl);refine⟨g,s',gon,λr=>(Za ((Zt t1).trans rfl)).trans (Za x2),?_⟩;have el:ev (P.tbl (n+7)) (.blt .len (.cons (.var 2) .nil)) (vl ro tp rk w s.d (Wx (.int (i:Nat))) (Wx (Dm.step s').d)) (h++g)=.ok (.int (ts.length:Int)) (h++g):=(Zpc (Zb rfl rfl) (ZlR kg)).trans (by rw[Yu]);have es:ev (P.tbl (n+7)) (.bin .Sub (.blt .len (.cons (.var 2) .nil)) (.cst (.int 1))) (vl ro tp rk w s.d (Wx (.int (i:Nat))) (Wx (Dm.step s').d)) (h++g)=.ok (.int ((ts.length:Int) - 1)) (h++g):=(Zk el rfl).trans rfl;refine Zm (Ztp rfl es) ?_;rw[Bool.eq_iff_iff,decide_eq_true_iff,decide_eq_true_iff]
 lia
def Zns(H:Lw P)(n:Nat)(hN:1<=N)(hN2:N<=45000)(hk3:k<=300)(d:Di N s Z k)(hz:(Rw.read Z).size<=120)(hk:h[rk]? = Wx (.lst (ts.map T.d)))(hi:ts[i]? = Wx (Rw.read Z))(hl:i+1=ts.length)(o5 o6:Option D):∃g s',Gon N (Rw.read Z) k s'/\ZK Wy (.nm 6) (xs2 (P.tbl (n+7)) Zhj) [.int (i:Nat)] (vl ro tp rk w s.d o5 o6) h=.ok (.nx,vl ro tp rk w s.d (Wx (.int (i:Nat))) (Wx (Dm.step s').d)) (h++g):=by obtain⟨g,s',gon,e,t⟩:=Znr H n hN hN2 (ro:=ro) (tp:=tp) (w:=w) hk3 d hz hk hi o6;have x:xs2 (P.tbl (n+7)) Zhj (vl ro tp rk w s.d (Wx (.int (i:Nat))) o6) h=.ok (.nx,vl ro tp rk w s.d (Wx (.int (i:Nat))) (Wx (Dm.step s').d)) (h++g):=(e _).trans ((Za ((Zt (Zm t (decide_eq_false (by lia)))).trans rfl)).trans rfl);exact⟨g,s',gon,(Zcb rfl x).trans rfl⟩
def Zie(h:ts.drop i=x::r):ts[i]? = Wx x:=by
 have q:(ts.drop i)[0]? = Wx x:=by rw[h];rfl
 simpa using q
def ZjA(h:ts.drop i=[x]):i+1=ts.length:=by
 have q:(ts.drop i).length=1:=by rw[h];rfl
 rw[List.length_drop]at q
 lia
def Znk(i:Nat):ZG (i:Int) 1=[.int (i:Nat)]:=by simp[ZG]
def ZpI(i k:Nat):ZG (i:Int) (k+1)=.int (i:Nat)::ZG ((i+1:Nat):Int) k:=by
 unfold ZG;rw[List.range_succ_eq_map,Op,List.map_map];refine congr (congrArg _ (by simp)) (List.map_congr_left λa _=>?_);simp only[Function.comp_apply];congr 1
 lia
def ZvH(H:Lw P)(n:Nat)(hN:1<=N)(hN2:N<=45000):∀(m:Nat) (t:T) (s:Dm.Sta) (Z:Rw.Sta) (k i:Nat) (h:Hd) (o5 o6:Option D),k+m<=300->Gn.Cl [] t->t.size<=120->Rw.read Z=t->Di N s Z k->h[rk]? = Wx (.lst (ts.map T.d))->ts.drop i=(row m t).1 ->
 ∃a sd o5' g,ZK Wy (.nm 6) (xs2 (P.tbl (n+7)) Zhj) (ZG (i:Int) (row m t).1.length) (vl ro tp rk w s.d o5 o6) h=.ok (.nx,vl ro tp rk w sd o5' (Wx (Dm.Ans.d a))) (h++g)/\ZxA N (row m t).2 a:=by
 intro m;induction m with
 |zero=>
  intro t s Z k i h o5 o6 km c hz rt d hk hd;subst rt;have hi:=Zie (show ts.drop i=[Rw.read Z]from hd);have hl:=ZjA (show ts.drop i=[Rw.read Z]from hd);obtain⟨g,s',gon,e⟩:=Zns H n hN hN2 (ro:=ro) (tp:=tp) (w:=w) (by lia) d hz hk hi hl o5 o6;refine⟨Dm.step s',s.d,_,g,by rw[show(row 0 (Rw.read Z)).1.length=1 from rfl,Znk];exact e,?_⟩;rcases Zew gon with ⟨z,v⟩|⟨z,v,q⟩|⟨s2,σ2,z,v,q,d2⟩
  . exact .inl ⟨by rw[row];simp only[v,if_true],z⟩
  . exact .inr (.inl ⟨by rw[row];simp only[v,q];rfl,z⟩)
  . exact .inr (.inr ⟨s2,σ2,_,z,d2,.inl (by rw[row];simp only[v,q];rfl)⟩)
 |succ m ih=>
  intro t s Z k i h o5 o6 km c hz rt d hk hd;subst rt;have last:(row (m+1) (Rw.read Z)).1=[Rw.read Z]->∃a sd o5' g,ZK Wy (.nm 6) (xs2 (P.tbl (n+7)) Zhj) (ZG (i:Int) (row (m+1) (Rw.read Z)).1.length) (vl ro tp rk w s.d o5 o6) h=.ok (.nx,vl ro tp rk w sd o5' (Wx (Dm.Ans.d a))) (h++g)/\∃s',a=Dm.step s'/\Gon N (Rw.read Z) k s':=λone=>by rw[one]at hd ⊢;have hi:=Zie hd;have hl:=ZjA hd;obtain⟨g,s',gon,e⟩:=Zns H n hN hN2 (ro:=ro) (tp:=tp) (w:=w) (by lia) d hz hk hi hl o5 o6;exact⟨Dm.step s',s.d,_,g,by rw[show [Rw.read Z].length=1 from rfl,Znk];exact e,s',rfl,gon⟩
  cases nv:isV (Rw.read Z)with
  |true=>
   have er:row (m+1) (Rw.read Z)=([Rw.read Z],O "value"):=by rw[row];simp only[nv,if_true]
   obtain⟨a,sd,o5',g,e,s',rfl,gon⟩:=last (by rw[er]);refine⟨_,sd,o5',g,e,?_⟩;rw[er];rcases Zew gon with ⟨z,v⟩|⟨z,v,q⟩|⟨s2,σ2,z,v,q,d2⟩
   . exact .inl ⟨rfl,z⟩
   . rw[nv]at v;cases v
   . rw[nv]at v;cases v
  |false=>
   cases hn:next (Rw.read Z)with
   |none=>
    have er:row (m+1) (Rw.read Z)=([Rw.read Z],O "stuck"):=by rw[row];simp only[nv,hn];rfl
    obtain⟨a,sd,o5',g,e,s',rfl,gon⟩:=last (by rw[er]);refine⟨_,sd,o5',g,e,?_⟩;rw[er];rcases Zew gon with ⟨z,v⟩|⟨z,v,q⟩|⟨s2,σ2,z,v,q,d2⟩
    . rw[nv]at v;cases v
    . exact .inr (.inl ⟨rfl,z⟩)
    . rw[hn]at q;cases q
   |some u=>
    by_cases hu:120<u.size
    . have er:row (m+1) (Rw.read Z)=([Rw.read Z],O "wide"):=by rw[row];simp only[nv,hn,hu,if_true];rfl
      obtain⟨a,sd,o5',g,e,s',rfl,gon⟩:=last (by rw[er]);refine⟨_,sd,o5',g,e,?_⟩;rw[er];rcases Zew gon with ⟨z,v⟩|⟨z,v,q⟩|⟨s2,σ2,z,v,q,d2⟩
      . rw[nv]at v;cases v
      . rw[hn]at q;cases q
      . rw[hn]at q;cases q;exact .inr (.inr ⟨s2,σ2,_,z,d2,.inr ⟨rfl,hu⟩⟩)
    . have er:row (m+1) (Rw.read Z)=(Rw.read Z::(row m u).1,(row m u).2):=by rw[row];simp only[nv,hn,hu,if_false];rfl
      rw[er]at hd ⊢;obtain⟨⟨r,rr⟩⟩:Nonempty {r:List T // (row m u).1=u::r}:=by
       cases m with
       |zero=>exact⟨⟨[],rfl⟩⟩
       |succ m=>rw[row];split;exact⟨⟨[],rfl⟩⟩;split;exact⟨⟨[],rfl⟩⟩;split;exact⟨⟨[],rfl⟩⟩;exact⟨⟨_,rfl⟩⟩
      have hi:=Zie hd;have hd1:ts.drop (i+1)=(row m u).1:=by rw[<- List.drop_drop,hd];rfl
      have hl:i+1<ts.length:=by
       have:=congrArg List.length hd1;rw[rr,List.length_drop,Os]at this
       lia
      obtain⟨g,s',gon,e,t⟩:=Znr H n hN hN2 (ro:=ro) (tp:=tp) (w:=w) (by lia) d hz hk hi o6;rcases Zew gon with ⟨z,v⟩|⟨z,v,q⟩|⟨s2,σ2,z,v,q,d2⟩
      . rw[nv]at v;cases v
      . rw[hn]at q;cases q
      . rw[hn]at q;cases q;rw[z]at e t;obtain⟨a,sd,o5',g2,e2,en⟩:=ih (Rw.read σ2) s2 σ2 (k+1) (i+1) (h++g) (Wx (.int (i:Nat))) (Wx (Dm.Ans.loud s2).d) (by lia) (Zi4 nv c hz hn).1 (by lia) rfl d2 (keep hk) hd1;refine⟨a,sd,o5',g++g2,?_,en⟩;have x:xs2 (P.tbl (n+7)) Zhj (vl ro tp rk w s.d (Wx (.int (i:Nat))) o6) h=.ok (.nx,vl ro tp rk w s2.d (Wx (.int (i:Nat))) (Wx (Dm.Ans.loud s2).d)) (h++g):=(e _).trans ((Za ((Zs (Zm t (decide_eq_true hl))).trans ((Za ((Zt (Zm (Zvr rfl rfl) (by decide))).trans rfl)).trans rfl))).trans rfl);rw[Os,ZpI,<- Oz];exact(Zcb rfl x).trans e2
end
section
variable {ro tp:D}{rk:Nat}{sd:D}{o5:Option D}
def ZvZ(p:ev U a S h=.ok (.str x) h)(q:ev U b S h=.ok (.str y) h):ev U (.cmp .Eq a b) S h=.ok (.bl (WB (x=y))) h:=(Zw p q).trans (by rw[Zkn,Zgb];rfl)
def Znt(n:Nat){w:Str}{a:Dm.Ans}(hw:w=O "value" \/ w=O "stuck")(ha:a.d=.tup [.str w]):xs1 (P.tbl n) ZeE (vl ro tp rk (.str w) sd o5 (Wx a.d)) h=.ok (.rt (.bl Wz),vl ro tp rk (.str w) sd o5 (Wx a.d)) h:=by
 have t:tst (P.tbl n) (.ors (.cons (.ex (.cmp .Eq (.var 3) (.cst (.str (O "value"))))) (.one (.ex (.cmp .Eq (.var 3) (.cst (.str (O "stuck")))))))) (vl ro tp rk (.str w) sd o5 (Wx a.d)) h=.ok Wz h:=by
  rcases hw with rfl|rfl
  . exact Zs7 (Zm (Zak rfl rfl) (by decide))
  . exact ZmD (Zm (Zak rfl rfl) (by decide)) (Zm (Zak rfl rfl) (by decide))
 refine(Zs t).trans (Zf (Zx ((Zw (x:=a.d) (y:=.tup [.str w]) rfl (ZV (Zb rfl rfl) (by simp))).trans ?_)));rw[ha];exact Zhg (n:=false) (d:=.tup [.str w]) rfl (by simp[D.dp,D.dps])
def Zsm(H:Lw P)(n:Nat)(hN:1<=N)(hN2:N<=45000){w:Str}{s:Dm.Sta}{Z:Rw.Sta}{k:Nat}(d:Di N s Z k)(hw:w=O "open" \/ (w=O "wide" /\ 120<(Rw.read Z).size))(h:Hd):∃g,xs2 (P.tbl (n+7)) (.cons ZeE (.cons Zfz .nil)) (vl ro tp rk (.str w) sd o5 (Wx (Dm.Ans.loud s).d)) h=.ok (.rt (.bl Wz),vl ro tp rk (.str w) sd o5 (Wx (Dm.Ans.loud s).d)) (h++g):=by
 obtain⟨g,e⟩:=d.lread H.d n hN hN2 h;have t:tst (P.tbl (n+7)) (.ors (.cons (.ex (.cmp .Eq (.var 3) (.cst (.str (O "value"))))) (.one (.ex (.cmp .Eq (.var 3) (.cst (.str (O "stuck")))))))) (vl ro tp rk (.str w) sd o5 (Wx (Dm.Ans.loud s).d)) h=.ok WA h:=by rcases hw with rfl|⟨rfl,_⟩<;>exact ZmD (Zm (Zak rfl rfl) (by decide)) (Zm (Zak rfl rfl) (by decide))
 have e1:ev (P.tbl (n+7)) (.cmp .Eq (.ix (.var 5) (.cst (.int 0))) (.cst (.str (O "loud")))) (vl ro tp rk (.str w) sd o5 (Wx (Dm.Ans.loud s).d)) h=.ok (.bl Wz) h:=(ZvZ rfl rfl).trans (by rw[decide_eq_true rfl]);have e2:ev (P.tbl (n+7)) (.cmp .Eq (.var 3) (.cst (.str (O "open")))) (vl ro tp rk (.str w) sd o5 (Wx (Dm.Ans.loud s).d)) h=.ok (.bl (WB (w=O "open"))) h:=ZvZ rfl rfl;have fin:∀g',ev (P.tbl (n+7)) (.ors (.cons (.cmp .Eq (.var 3) (.cst (.str (O "open")))) (.cons (.cmp .Is (.call (O "_law_read") (.cons (.ix (.var 5) (.cst (.int 1))) .nil)) (.cst .non)) .nil))) (vl ro tp rk (.str w) sd o5 (Wx (Dm.Ans.loud s).d)) h=.ok (.bl Wz) (h++g')->xs2 (P.tbl (n+7)) (.cons ZeE (.cons Zfz .nil)) (vl ro tp rk (.str w) sd o5 (Wx (Dm.Ans.loud s).d)) h=.ok (.rt (.bl Wz),vl ro tp rk (.str w) sd o5 (Wx (Dm.Ans.loud s).d)) (h++g'):=λg' q=>by refine(Za ((Zt t).trans rfl)).trans (Zf (Zx ?_));rw[Zrj,Zm3,e1];exact q
 rcases hw with rfl|⟨rfl,lt⟩
 . refine⟨[],fin [] ?_⟩;rw[Zo8,Zjx,e2,decide_eq_true rfl,Yt];rfl
 . refine⟨g,fin g ?_⟩;rw[Zo8,Zjx,e2,decide_eq_false (by decide)];rw[rdo,if_neg (by lia)]at e;exact(Zw (Zl e rfl) rfl).trans (by rw[Zkm];simp)
end
theorem ZlB:∀(m:Nat) (t:T),(row m t).1.length<=m+1
 |0,t=>by simp[row]
 |m+1,t=>by
  rw[row];split
  . simp
  . split
    . simp
    . split
      . simp
      . rename_i u _ _;have:=ZlB m u;simp only[Os];lia
def ZuW(H:Lw P)(zs:List Int)(hz:zs.length<=63):∃h',run P (250+1) (O "law") [.ro (zs.map .int)] []=.ok (.bl Wz) h':=by
 obtain⟨t,h1,e1,ct,st,dt,_,_⟩:=Gn.Zmr H.d.m.toMkr (N:=249) (by lia) zs 1 [] (by lia);obtain⟨v,e2⟩:=ZsI H.cell 249 (h:=h1) zs;have e3:=Gn.ZhL H.d.m.toMkr 249 v 1 h1 (by decide);obtain⟨M,hM⟩:∃M:Nat,Gn.mixed v 1 % 25=(M:Int):=⟨(Gn.mixed v 1 % 25).toNat,by have:=Int.emod_nonneg (Gn.mixed v 1) (b:=25) (by decide);lia⟩
 have hM2:M<=25:=by have:=Int.emod_lt_of_pos (Gn.mixed v 1) (b:=25) (by decide);lia
 have m1:opB .Mod (.int (Gn.mixed v 1)) (.int 25) h1=.ok (.int (M:Int)) h1:=(ZR (by decide)).trans (by rw[hM]);obtain⟨g1,e4⟩:=ZuU H.t 242 t M (by lia) ct (by lia) h1;have rt:Rw.read (Rw.Sta.go t .nil [])=t:=Zbv t (λx=>rfl);have rl:=ZlB M t;generalize D.ro (zs.map .int)=ro at *;generalize hh2:h1++DO.lst ((row M t).1.map T.d)::g1=h2 at e4;have k2:h2[h1.length]? = Wx (.lst ((row M t).1.map T.d)):=by rw[<- hh2];simp
 have eb:run P 250 (O "dump_begun") [t.d] h2=.ok (Dm.Sta.d ⟨[],.nil,[.ex t],[]⟩) h2:=by rw[Zc H.d.m.dump_begun (by rfl)];exact rfl
 obtain⟨a,sd,o5,g,e5,en⟩:=ZvH H 243 (ro:=ro) (tp:=t.d) (w:=.str (row M t).2) (rk:=h1.length) (ts:=(row M t).1) (N:=t.size) (Zac t) (by lia) M t ⟨[],.nil,[.ex t],[]⟩ (.go t .nil []) 0 0 h2 Wy (Wx (.tup [.str (O "none")])) (by lia) ct (by lia) rt (Di.begin t ct) k2 rfl;have x1:xs1 (P.tbl 250) Zis [Wx ro,Wy,Wy,Wy,Wy,Wy,Wy] []=.ok (.nx,[Wx ro,Wx t.d,Wy,Wy,Wy,Wy,Wy]) h1:=Zj (Zl e1 rfl);have x2:xs1 (P.tbl 250) ZfB [Wx ro,Wx t.d,Wy,Wy,Wy,Wy,Wy] h1=.ok (.nx,[Wx ro,Wx t.d,Wx (.ref h1.length),Wx (.str (row M t).2),Wy,Wy,Wy]) h2:=by have q:ev (P.tbl 250) (.call (O "row_of") (.cons (.var 1) (.cons (.bin .Mod (.call (O "_law_mixed") (.cons (.call (O "_law_cell_at") (.cons (.var 0) (.cons (.cst (.int 0)) .nil))) (.cons (.cst (.int 1)) .nil))) (.cst (.int 25))) .nil))) [Wx ro,Wx t.d,Wy,Wy,Wy,Wy,Wy] h1=.ok (.tup [.ref h1.length,.str (row M t).2]) h2:=Zl e4 (Zb rfl (Zb ((Zk (Zl e3 (Zb (Zl e2 rfl) rfl)) rfl).trans m1) rfl));rw[ZfB,Zef,q];rfl
 have x3:xs1 (P.tbl 250) Zir [Wx ro,Wx t.d,Wx (.ref h1.length),Wx (.str (row M t).2),Wy,Wy,Wy] h2=.ok (.nx,vl ro t.d h1.length (.str (row M t).2) (Dm.Sta.d ⟨[],.nil,[.ex t],[]⟩) Wy Wy) h2:=Zj (Zl eb rfl);have x4:xs1 (P.tbl 250) Ziq (vl ro t.d h1.length (.str (row M t).2) (Dm.Sta.d ⟨[],.nil,[.ex t],[]⟩) Wy Wy) h2=.ok (.nx,vl ro t.d h1.length (.str (row M t).2) (Dm.Sta.d ⟨[],.nil,[.ex t],[]⟩) Wy (Wx (.tup [.str (O "none")]))) h2:=rfl;have ei:evi (P.tbl 250) Ztx (vl ro t.d h1.length (.str (row M t).2) (Dm.Sta.d ⟨[],.nil,[.ex t],[]⟩) Wy (Wx (.tup [.str (O "none")]))) h2=.ok ⟨Wy,ZG 0 (row M t).1.length⟩ h2:=by
  have q:ev (P.tbl 250) (.blt .len (.cons (.var 2) .nil)) (vl ro t.d h1.length (.str (row M t).2) (Dm.Sta.d ⟨[],.nil,[.ex t],[]⟩) Wy (Wx (.tup [.str (O "none")]))) h2=.ok (.int ((row M t).1.length:Nat)) h2:=(Zpc (Zb rfl rfl) (ZlR k2)).trans (by rw[Yu]);have s62:Zap ((row M t).1.length:Nat)=Wz:=by simp[Zap];lia
  rw[Ztx,Zl2,q,Zp];simp only[s62,if_true,Int.toNat_natCast]
 have x5:xs1 (P.tbl 250) ZfA (vl ro t.d h1.length (.str (row M t).2) (Dm.Sta.d ⟨[],.nil,[.ex t],[]⟩) Wy (Wx (.tup [.str (O "none")]))) h2=.ok (.nx,vl ro t.d h1.length (.str (row M t).2) sd o5 (Wx a.d)) (h2++g):=by rw[Zq1];exact(Zca ei).trans e5
 rw[Zc H.law (by rfl)];show ∃h',Zh (xs2 (P.tbl 250) (.cons Zis (.cons ZfB (.cons Zir (.cons Ziq (.cons ZfA (.cons ZeE (.cons Zfz .nil))))))) [Wx ro,Wy,Wy,Wy,Wy,Wy,Wy] [])=_;rw[Za x1,Za x2,Za x3,Za x4,Za x5];rcases en with ⟨ew,rfl⟩|⟨ew,rfl⟩|⟨s,Z,k,rfl,d,hw⟩
 . exact⟨h2++g,by rw[Zf (Znt 250 (.inl ew) (by rw[ew];rfl))];rfl⟩
 . exact⟨h2++g,by rw[Zf (Znt 250 (.inr ew) (by rw[ew];rfl))];rfl⟩
 . obtain⟨g2,e6⟩:=Zsm H 243 (ro:=ro) (tp:=t.d) (rk:=h1.length) (sd:=sd) (o5:=o5) (Zac t) (by lia) d hw (h2++g);exact⟨h2++g++g2,by rw[e6];rfl⟩
end K35L
end
section
namespace K35
open PySem L2 IV PyProof.Rows
noncomputable abbrev Zaj:Fd:=Tm.Zaj
noncomputable abbrev ZbD:Fd:=Gn.ZbD
noncomputable abbrev ZbG:Fd:=Tm.ZbG
noncomputable abbrev Zai:Fd:=Tm.Zai
noncomputable abbrev ZdH:Fd:=Tm.ZdH
noncomputable abbrev ZbC:Fd:=Gn.ZbC
noncomputable abbrev Zbu:Fd:=Tm.Zbu
noncomputable abbrev Zaw:Fd:=Rw.Zaw
noncomputable abbrev Zbz:Fd:=Rw.Zbz
noncomputable abbrev Zcu:Fd:=Rw.Zcu
noncomputable abbrev Zct:Fd:=Rw.Zct
noncomputable abbrev ZY:Fd:=Rw.ZY
noncomputable abbrev Zdj:Fd:=Tm.Zdj
noncomputable abbrev Zat:Fd:=Tm.Zat
noncomputable abbrev Zcq:Fd:=Tm.Zcq
noncomputable abbrev Zav:Fd:=Tm.Zav
noncomputable abbrev Zdi:Fd:=Tm.Zdi
noncomputable abbrev ZC:Fd:=Tm.ZC
noncomputable abbrev ZaL:Fd:=Tm.ZaL
noncomputable abbrev Zby:Fd:=Tm.Zby
noncomputable abbrev Zdk:Fd:=Tm.Zdk
noncomputable abbrev ZaN:Fd:=Rw.ZaN
noncomputable abbrev Za6:Fd:=Rw.Za6
noncomputable abbrev Zdl:Fd:=Tm.Zdl
noncomputable abbrev ZbB:Fd:=Tm.ZbB
noncomputable abbrev Zcr:Fd:=Tm.Zcr
noncomputable abbrev Zdh:Fd:=Tm.Zdh
noncomputable abbrev ZaM:Fd:=Dm.ZaM
noncomputable abbrev Za7:Fd:=Dm.Za7
noncomputable abbrev Zae:Fd:=Dm.Zae
noncomputable abbrev Zaf:Fd:=Dm.Zaf
noncomputable abbrev Zcv:Fd:=Dm.Zcv
noncomputable abbrev Zcs:Fd:=Dm.Zcs
noncomputable abbrev ZbA:Fd:=Dm.ZbA
noncomputable abbrev Za8:Fd:=Dm.Za8
noncomputable abbrev Zba:Fd:=Dm.Zba
noncomputable abbrev ZbH:Fd:=Dr.ZbH
noncomputable abbrev ZaJ:Fd:=Dr.ZaJ
noncomputable abbrev Zbb:Fd:=Dr.Zbb
noncomputable abbrev ZM:Fd:=Gn.ZM
noncomputable abbrev ZaC:Fd:=Gn.ZaC
noncomputable abbrev ZbF:Fd:=Gn.ZbF
noncomputable abbrev ZaB:Fd:=Gn.ZaB
noncomputable abbrev ZaA:Fd:=Gn.ZaA
noncomputable abbrev Za9:Fd:=Gn.Za9
noncomputable abbrev Z3:Fd:=Gn.Z3
noncomputable abbrev ZaK:Fd:=Gn.ZaK
noncomputable abbrev ZaW:Fd:=Gn.ZaW
noncomputable abbrev Z2:Fd:=Gn.Z2
noncomputable abbrev Zau:Fd:=Gn.Zau
noncomputable abbrev Zag:Fd:=Gn.Zag
noncomputable abbrev ZbE:Fd:=Dr.ZbE
noncomputable abbrev Zah:Fd:=K35L.Zah
noncomputable abbrev Zhn:Fd:=K35L.Zhn
noncomputable abbrev ZT:Fd:=Tm.ZT
noncomputable def ZeX:Sxs:=(.cons (.iff (.ex (.cmp .Eq (.att [(O "Pen")] (.var 0) (O "used")) (.att [(O "Pen")] (.var 0) (O "most")))) (.cons (.rai (O "Wide") (.cst (.str (O "more places than an expression that is told may have")))) .nil) .nil) (.cons (.auga [(O "Pen")] (.var 0) (O "used") (.cst (.int 1))) .nil))
noncomputable def Zcw:Fd:=⟨[(O "self")],[(O "self")],ZeX⟩
noncomputable abbrev ZaO:Fd:=Pw.ZaO
noncomputable abbrev ZaP:Fd:=Tm.ZaP
noncomputable abbrev ZbI:Fd:=Pw.ZbI
noncomputable def tb:List (Str×Fd):=[((O "bound_names"),Zaj),((O "parts_of"),ZbD),((O "front_of"),ZbG),((O "count_parts"),Zai),((O "built"),ZdH),((O "places"),ZbC),((O "is_wide"),Zbu),((O "bound_to"),Zaw),((O "thing_of"),Zbz),((O "body_of"),Zcu),((O "entered"),Zct),((O "loud_or_stuck"),ZY),((O "opened"),Zdj),((O "meant_by"),Zat),((O "within"),Zcq),((O "is_value"),Zav),((O "put_in"),Zdi),((O "parts_first"),ZC),((O "first_open"),ZaL),((O "way_down"),Zby),((O "called"),Zdk),((O "chosen"),ZaN),((O "worked"),Za6),((O "become"),Zdl),((O "put_back"),ZbB),((O "stepped"),Zcr),((O "row_of"),Zdh),((O "dump_begun"),ZaM),((O "taken_off"),Za7),((O "taken_apart"),Zae),((O "quiet_state"),Zaf),((O "applied"),Zcv),((O "gone_on"),Zcs),((O "reckoned"),ZbA),((O "loud_step"),Za8),((O "dump_step"),Zba),((O "do_order"),ZbH),((O "level_read"),ZaJ),((O "dump_read"),Zbb),((O "_law_cell_at"),ZM),((O "_law_mixed"),ZaC),((O "_law_next"),ZbF),((O "_law_names"),ZaB),((O "_law_there"),ZaA),((O "_law_plain"),Za9),((O "_law_function"),Z3),((O "_law_number"),ZaK),((O "_law_any"),ZaW),((O "_law_width"),Z2),((O "_law_deep"),Zau),((O "_law_program"),Zag),((O "_law_read"),ZbE),((O "_law_gone_on"),Zah),((O "law"),Zhn)]
noncomputable def ms:List (Str×Fd):=[(mnm (O "Pen") (O "__init__"),ZT),(mnm (O "Pen") (O "take_place"),Zcw),(mnm (O "Pen") (O "joined"),ZaO),(mnm (O "Pen") (O "filled"),ZaP),(mnm (O "Pen") (O "told"),ZbI)]
noncomputable def cG:List (Str×D):=[((O "WIDEST"),(.int 120)),((O "AT_ONCE"),(.tup [(.str (O "num")),(.str (O "name")),(.str (O "fn")),(.str (O "rec"))])),((O "VALUES"),(.tup [(.str (O "num")),(.str (O "fn")),(.str (O "rec"))])),((O "BEYOND"),(.int 1000000)),((O "ORDERS"),(.tup [(.str (O "apply")),(.str (O "work")),(.str (O "choose"))])),((O "FORMS"),.kd (O "FORMS"))]
noncomputable def cD:List (Str×List (Key×D)):=[((O "FORMS"),[(.inr (O "fn"),(.tup [(.int 1),(.int 1)])),(.inr (O "rec"),(.tup [(.int 2),(.int 1)])),(.inr (O "call"),(.tup [(.int 0),(.int 2)])),(.inr (O "if"),(.tup [(.int 0),(.int 3)])),(.inr (O "+"),(.tup [(.int 0),(.int 2)])),(.inr (O "-"),(.tup [(.int 0),(.int 2)])),(.inr (O "*"),(.tup [(.int 0),(.int 2)])),(.inr (O "<"),(.tup [(.int 0),(.int 2)]))])]
noncomputable def pg:Pg:=⟨tb,λx=>cG.lookup x,λx=>cD.lookup x,1000000,ms⟩
noncomputable def kl:Kl:=⟨[(O "Pen")],[(O "most"),(O "used")],[((O "Pen"),(O "take_place")),((O "Pen"),(O "joined")),((O "Pen"),(O "filled")),((O "Pen"),(O "told"))],[(O "Pen")],[(O "Wide")]⟩
noncomputable def top(i:Nat):Stmt:=PySem.Challenge.pw_samestride_k35_whole_dump_in_step.main.body.getD i (.Pass ⟨0,0,0,0⟩)
noncomputable def fs:List Str:=tb.map (·.1)
local macro_rules|`(tactic| wtm_at "chk")=>`(tactic| exact⟨by constructor<;>decide +kernel,λ_ _ _ _ _ _ us hl=>by
 first
 |(have e:=Zut (show us.length=0 from hl);subst e;rfl)
 |(obtain⟨a0,e⟩:=Zus (show us.length=1 from hl);subst e;rfl)
 |(obtain⟨a0,a1,e⟩:=Zur (show us.length=2 from hl);subst e;rfl)
 |(obtain⟨a0,a1,a2,e⟩:=Zuq (show us.length=3 from hl);subst e;rfl)
 |(obtain⟨a0,a1,a2,a3,e⟩:=Zup (show us.length=4 from hl);subst e;rfl)
 |(obtain⟨a0,a1,a2,a3,a4,e⟩:=Zuo (show us.length=5 from hl);subst e;rfl)
 |(obtain⟨a0,a1,a2,a3,a4,a5,e⟩:=Zwu (show us.length=6 from hl);subst e;rfl)
 |(obtain⟨a0,a1,a2,a3,a4,a5,a6,e⟩:=us_7 (show us.length=7 from hl);subst e;rfl),by decide +kernel⟩)
abbrev Ck(n:String)(f:Fd)(s:Stmt):Prop:=Chk kl fs (O n) (O n) f s
noncomputable abbrev ZdT:=top 6
def ZgR:Ck "bound_names" Zaj ZdT:=by wtm_at "chk"
noncomputable abbrev ZfT:=top 7
def ZkG:Ck "parts_of" ZbD ZfT:=by wtm_at "chk"
noncomputable abbrev ZfZ:=top 8
def ZkM:Ck "front_of" ZbG ZfZ:=by wtm_at "chk"
noncomputable abbrev ZdS:=top 9
def ZgQ:Ck "count_parts" Zai ZdS:=by wtm_at "chk"
noncomputable abbrev ZlA:=top 10
def Zq4:Ck "built" ZdH ZlA:=by wtm_at "chk"
noncomputable abbrev ZiK:=top 11
def ZoK:Ck "places" ZbC ZiK:=by wtm_at "chk"
noncomputable abbrev Zg5:=top 12
def ZmT:Ck "is_wide" Zbu Zg5:=by wtm_at "chk"
noncomputable abbrev Zf1:=top 15
def ZkO:Ck "bound_to" Zaw Zf1:=by wtm_at "chk"
noncomputable abbrev ZfQ:=top 16
def ZkD:Ck "thing_of" Zbz ZfQ:=by wtm_at "chk"
noncomputable abbrev Zg8:=top 17
def ZmW:Ck "body_of" Zcu Zg8:=by wtm_at "chk"
noncomputable abbrev Zg7:=top 18
def ZmV:Ck "entered" Zct Zg7:=by wtm_at "chk"
noncomputable abbrev ZcS:=top 19
def Zfj:Ck "loud_or_stuck" ZY ZcS:=by wtm_at "chk"
noncomputable abbrev ZiL:=top 20
def ZoL:Ck "opened" Zdj ZiL:=by wtm_at "chk"
noncomputable abbrev ZfU:=top 21
def ZkH:Ck "meant_by" Zat ZfU:=by wtm_at "chk"
noncomputable abbrev ZiH:=top 22
def ZoH:Ck "within" Zcq ZiH:=by wtm_at "chk"
noncomputable abbrev ZfY:=top 27
def ZkL:Ck "is_value" Zav ZfY:=by wtm_at "chk"
noncomputable abbrev ZiJ:=top 28
def ZoJ:Ck "put_in" Zdi ZiJ:=by wtm_at "chk"
noncomputable abbrev ZdO:=top 29
def ZgM:Ck "parts_first" ZC ZdO:=by wtm_at "chk"
noncomputable abbrev Zek:=top 30
def ZhZ:Ck "first_open" ZaL Zek:=by wtm_at "chk"
noncomputable abbrev ZfP:=top 31
def ZkC:Ck "way_down" Zby ZfP:=by wtm_at "chk"
noncomputable abbrev ZiN:=top 32
def ZoN:Ck "called" Zdk ZiN:=by wtm_at "chk"
noncomputable abbrev ZiM:=top 33
def ZoM:Ck "chosen" ZaN ZiM:=by wtm_at "chk"
noncomputable abbrev ZiG:=top 34
def ZoG:Ck "worked" Za6 ZiG:=by wtm_at "chk"
noncomputable abbrev ZiO:=top 35
def ZoO:Ck "become" Zdl ZiO:=by wtm_at "chk"
noncomputable abbrev ZfS:=top 36
def ZkF:Ck "put_back" ZbB ZfS:=by wtm_at "chk"
noncomputable abbrev Zg3:=top 37
def ZmR:Ck "stepped" Zcr Zg3:=by wtm_at "chk"
noncomputable abbrev ZiI:=top 38
def ZoI:Ck "row_of" Zdh ZiI:=by wtm_at "chk"
noncomputable abbrev Zel:=top 41
def Zh0:Ck "dump_begun" ZaM Zel:=by wtm_at "chk"
noncomputable abbrev ZeZ:=top 42
def Zjb:Ck "taken_off" Za7 ZeZ:=by wtm_at "chk"
noncomputable abbrev ZdM:=top 43
def ZgK:Ck "taken_apart" Zae ZdM:=by wtm_at "chk"
noncomputable abbrev ZdN:=top 44
def ZgL:Ck "quiet_state" Zaf ZdN:=by wtm_at "chk"
noncomputable abbrev Zg9:=top 45
def ZmX:Ck "applied" Zcv Zg9:=by wtm_at "chk"
noncomputable abbrev Zg6:=top 46
def ZmU:Ck "gone_on" Zcs Zg6:=by wtm_at "chk"
noncomputable abbrev ZfR:=top 47
def ZkE:Ck "reckoned" ZbA ZfR:=by wtm_at "chk"
noncomputable abbrev Ze0:=top 48
def Zjc:Ck "loud_step" Za8 Ze0:=by wtm_at "chk"
noncomputable abbrev Ze6:=top 49
def Zji:Ck "dump_step" Zba Ze6:=by wtm_at "chk"
noncomputable abbrev Zf0:=top 50
def ZkN:Ck "do_order" ZbH Zf0:=by wtm_at "chk"
noncomputable abbrev Zei:=top 51
def ZhX:Ck "level_read" ZaJ Zei:=by wtm_at "chk"
noncomputable abbrev Ze7:=top 52
def Zjj:Ck "dump_read" Zbb Ze7:=by wtm_at "chk"
noncomputable abbrev ZdR:=top 54
def ZgP:Ck "_law_cell_at" ZM ZdR:=by wtm_at "chk"
noncomputable abbrev Ze5:=top 55
def Zjh:Ck "_law_mixed" ZaC Ze5:=by wtm_at "chk"
noncomputable abbrev ZfW:=top 56
def ZkJ:Ck "_law_next" ZbF ZfW:=by wtm_at "chk"
noncomputable abbrev Ze4:=top 57
def Zjg:Ck "_law_names" ZaB Ze4:=by wtm_at "chk"
noncomputable abbrev Ze2:=top 58
def Zje:Ck "_law_there" ZaA Ze2:=by wtm_at "chk"
noncomputable abbrev Ze3:=top 59
def Zjf:Ck "_law_plain" Za9 Ze3:=by wtm_at "chk"
noncomputable abbrev Zc6:=top 60
def Zgm:Ck "_law_function" Z3 Zc6:=by wtm_at "chk"
noncomputable abbrev Zej:=top 61
def ZhY:Ck "_law_number" ZaK Zej:=by wtm_at "chk"
noncomputable abbrev Zg4:=top 62
def ZmS:Ck "_law_any" ZaW Zg4:=by wtm_at "chk"
noncomputable abbrev Ze1:=top 63
def Zjd:Ck "_law_width" Z2 Ze1:=by wtm_at "chk"
noncomputable abbrev ZfX:=top 64
def ZkK:Ck "_law_deep" Zau ZfX:=by wtm_at "chk"
noncomputable abbrev ZdP:=top 65
def ZgN:Ck "_law_program" Zag ZdP:=by wtm_at "chk"
noncomputable abbrev ZfV:=top 66
def ZkI:Ck "_law_read" ZbE ZfV:=by wtm_at "chk"
noncomputable abbrev ZdQ:=top 67
def ZgO:Ck "_law_gone_on" Zah ZdQ:=by wtm_at "chk"
noncomputable abbrev ZrI:=top 68
def ZvJ:Ck "law" Zhn ZrI:=by wtm_at "chk"
noncomputable abbrev Zc7:Stmt:=inClass (top 23) 0
def Zgn:Chk kl fs (O "__init__") (O "Pen.__init__") ZT Zc7:=by wtm_at "chk"
noncomputable abbrev Zcl:Stmt:=inClass (top 23) 1
def ZeQ:Chk kl fs (O "take_place") (O "Pen.take_place") Zcw Zcl:=by wtm_at "chk"
noncomputable abbrev Zem:Stmt:=inClass (top 23) 2
def Zh1:Chk kl fs (O "joined") (O "Pen.joined") ZaO Zem:=by wtm_at "chk"
noncomputable abbrev Zen:Stmt:=inClass (top 23) 3
def Zh2:Chk kl fs (O "filled") (O "Pen.filled") ZaP Zen:=by wtm_at "chk"
noncomputable abbrev Zf2:Stmt:=inClass (top 23) 4
def ZkP:Chk kl fs (O "told") (O "Pen.told") ZbI Zf2:=by wtm_at "chk"
end K35
end
section
namespace K35
open PySem L2 IV
def ZtA:pg.tb.lookup (O "law")=Wx Zhn:=by kernel_rfl
def mkr:Gn.Mkr pg:=⟨by kernel_rfl,by kernel_rfl,by kernel_rfl,by kernel_rfl,by kernel_rfl,.same (by kernel_rfl),.same (by kernel_rfl),.same (by kernel_rfl),by kernel_rfl,by kernel_rfl,.same (by kernel_rfl)⟩
def tre:Gn.Tre pg:=by
 constructor
 all_goals (first|kernel_rfl|decide)
def wid:Tm.Wid pg:=⟨.str (O "more places than an expression that is told may have"),by kernel_rfl⟩
def trb:Tm.Trb pg:=by
 constructor
 case toTre=>exact tre
 case tk=>obtain⟨m,e⟩:=wid;exact⟨_,e⟩
 all_goals kernel_rfl
def trm:Tm.Trm pg:=by
 constructor;exact trb
 all_goals kernel_rfl
def trw:Tm.Trw pg:=by
 constructor;exact trm
 all_goals kernel_rfl
def pnw:Pw.Pnw pg:=by
 constructor;exact trb;exact wid
 all_goals kernel_rfl
def gen:Gn.Gen pg:=⟨tre,mkr⟩
def thg:Rw.Thg pg:=by
 constructor;exact gen
 all_goals kernel_rfl
def dmp:Dm.Dmp pg:=by
 constructor;exact thg
 all_goals kernel_rfl
def drd:Dr.Drd pg:=by
 constructor;exact dmp;exact pnw
 all_goals kernel_rfl
def lw:K35L.Lw pg:=by
 constructor;exact drd;exact trw
 all_goals kernel_rfl
def runs:∀ns:List Int,ns.length<=63->∃h',run pg (250+1) (O "law") [.ro (ns.map .int)] []=.ok (.bl Wz) h':=λns hl=>K35L.ZuW lw ns hl
end K35
end
section
set_option maxHeartbeats 4000000
namespace K35
open PySem L2 IV PyProof.Rows
theorem md{Pr:Yh}{w:Yg}{K:Yk}{h:YG}{mg:Str->Option Yj}{ca1:Yi}{xa1:Yi}{t1:Tok}{q3:Yi}{r4:Option Yi}{n5:Nat}{v6:Array (Option Yj)}{t8:Tok}{t9:Tok}{t10:Tok}{t11:Tok}{q13:Yi}{r14:Option Yi}{n15:Nat}{v16:Array (Option Yj)}{t18:Tok}{t19:Tok}{t20:Tok}{t22:Tok}{q24:Yi}{r25:Option Yi}{n26:Nat}{v27:Array (Option Yj)}{t29:Tok}{t30:Tok}{t31:Tok}{q33:Yi}{e34:Nat}{j38:Int}{t39:Tok}{q40:Yi}{r41:Option Yi}{n42:Nat}{v43:Array (Option Yj)}{t45:Tok}{t46:Tok}{j47:Int}{t48:Tok}{q49:Yi}{r50:Option Yi}{n51:Nat}{v52:Array (Option Yj)}{t54:Tok}{t55:Tok}{j56:Int}{t57:Tok}{q58:Yi}{r59:Option Yi}{n60:Nat}{v61:Array (Option Yj)}{t63:Tok}{t64:Tok}{j65:Int}{t66:Tok}{q67:Yi}{r68:Option Yi}{n69:Nat}{v70:Array (Option Yj)}{t72:Tok}{t73:Tok}{j74:Int}{t75:Tok}{q76:Yi}{r77:Option Yi}{n78:Nat}{v79:Array (Option Yj)}{t81:Tok}{t82:Tok}{j83:Int}{t84:Tok}{q85:Yi}{r86:Option Yi}{n87:Nat}{v88:Array (Option Yj)}{t90:Tok}{t91:Tok}{j92:Int}{t93:Tok}{q94:Yi}{r95:Option Yi}{n96:Nat}{v97:Array (Option Yj)}{t99:Tok}{t100:Tok}{j101:Int}{t102:Tok}{q103:Yi}{r104:Option Yi}{n105:Nat}{v106:Array (Option Yj)}{t108:Tok}{t109:Tok}(X:K.In h)(G:h.Ns Yd mg)
   (tb0:ZfG K=Wz)
   (d1:ZB K (O "bound_names") ZdT)
   (d2:ZB K (O "parts_of") ZfT)
   (d3:ZB K (O "front_of") ZfZ)
   (d4:ZB K (O "count_parts") ZdS)
   (d5:ZB K (O "built") ZlA)
   (d6:ZB K (O "places") ZiK)
   (d7:ZB K (O "is_wide") Zg5)
   (d8:ZB K (O "bound_to") Zf1)
   (d9:ZB K (O "thing_of") ZfQ)
   (d10:ZB K (O "body_of") Zg8)
   (d11:ZB K (O "entered") Zg7)
   (d12:ZB K (O "loud_or_stuck") ZcS)
   (d13:ZB K (O "opened") ZiL)
   (d14:ZB K (O "meant_by") ZfU)
   (d15:ZB K (O "within") ZiH)
   (d16:ZB K (O "is_value") ZfY)
   (d17:ZB K (O "put_in") ZiJ)
   (d18:ZB K (O "parts_first") ZdO)
   (d19:ZB K (O "first_open") Zek)
   (d20:ZB K (O "way_down") ZfP)
   (d21:ZB K (O "called") ZiN)
   (d22:ZB K (O "chosen") ZiM)
   (d23:ZB K (O "worked") ZiG)
   (d24:ZB K (O "become") ZiO)
   (d25:ZB K (O "put_back") ZfS)
   (d26:ZB K (O "stepped") Zg3)
   (d27:ZB K (O "row_of") ZiI)
   (d28:ZB K (O "dump_begun") Zel)
   (d29:ZB K (O "taken_off") ZeZ)
   (d30:ZB K (O "taken_apart") ZdM)
   (d31:ZB K (O "quiet_state") ZdN)
   (d32:ZB K (O "applied") Zg9)
   (d33:ZB K (O "gone_on") Zg6)
   (d34:ZB K (O "reckoned") ZfR)
   (d35:ZB K (O "loud_step") Ze0)
   (d36:ZB K (O "dump_step") Ze6)
   (d37:ZB K (O "do_order") Zf0)
   (d38:ZB K (O "level_read") Zei)
   (d39:ZB K (O "dump_read") Ze7)
   (d40:ZB K (O "_law_cell_at") ZdR)
   (d41:ZB K (O "_law_mixed") Ze5)
   (d42:ZB K (O "_law_next") ZfW)
   (d43:ZB K (O "_law_names") Ze4)
   (d44:ZB K (O "_law_there") Ze2)
   (d45:ZB K (O "_law_plain") Ze3)
   (d46:ZB K (O "_law_function") Zc6)
   (d47:ZB K (O "_law_number") Zej)
   (d48:ZB K (O "_law_any") Zg4)
   (d49:ZB K (O "_law_width") Ze1)
   (d50:ZB K (O "_law_deep") ZfX)
   (d51:ZB K (O "_law_program") ZdP)
   (d52:ZB K (O "_law_read") ZfV)
   (d53:ZB K (O "_law_gone_on") ZdQ)
   (d54:ZB K (O "law") ZrI)
   (y1a:Yl K Yd (O "Pen")=Wx (Wx (.ref ca1))) (y1b:PySem.W.plainGet K ca1 Str.empty=Wz) (y1c:PySem.W.hasDictIn K ca1=Wz) (y1d:PySem.W.plainOver K ca1=Wz) (y1e:YJ K (.ref ca1) "__setattr__" = Wx (Wx (.builtin "object.__setattr__")))
   (y1n1:YJ K (.ref ca1) (O "most")=Wx Wy)
   (y1n2:YJ K (.ref ca1) (O "used")=Wx Wy)
   (y1m:PySem.W.makesIn K ca1=Wz) (y1k:Wh K (.ref ca1)=Wz)
   (u1:Zll K ca1 (O "__init__") (O "Pen.__init__") Zc7)
   (u2:Zll K ca1 (O "take_place") (O "Pen.take_place") Zcl)
   (u3:Zll K ca1 (O "joined") (O "Pen.joined") Zem)
   (u4:Zll K ca1 (O "filled") (O "Pen.filled") Zen)
   (u5:Zll K ca1 (O "told") (O "Pen.told") Zf2)
   (o1a:Yl K Yd (O "Wide")=Wx (Wx (.ref xa1))) (o1b:PySem.W.typeIn K (.ref xa1)=Wx (.type "type")) (o1c:PySem.W.isClsIn K xa1=Wz) (o1d:YV K (.ref xa1) (.type "BaseException")=Wx Wz) (o1e:PySem.W.excIn K xa1 [.type "ValueError",.type "Exception",.type "BaseException",.type "object"] "ValueError.__new__" = Wz) (o1f:YV K (.ref xa1) (.ref xa1)=Wx Wz)
   (z1:Yl K Yd (O "len")=Wx Wy)
   (z2:Yl K Yd (O "isinstance")=Wx Wy)
   (z3:Yl K Yd (O "int")=Wx Wy)
   (z4:Yl K Yd (O "tuple")=Wx Wy)
   (z5:Yl K Yd (O "list")=Wx Wy)
   (z6:Yl K Yd (O "sum")=Wx Wy)
   (z7:Yl K Yd (O "all")=Wx Wy)
   (z8:Yl K Yd (O "sorted")=Wx Wy)
   (z9:Yl K Yd (O "range")=Wx Wy)
   (z10:Yl K Yd (O "enumerate")=Wx Wy)
   (z11:Yl K Yd (O "reversed")=Wx Wy)
   (z12:Yl K Yd (O "str")=Wx Wy)
   (z13:Yl K Yd (O "bool")=Wx Wy)
   (z14:Yl K Yd (O "max")=Wx Wy)
   (g2:Yl K Yd (O "WIDEST")=Wx (Wx (.int 120 t1)))
   (h7:K.lookup q3=Wx ⟨.type "tuple",r4,.seq #[.str (O "num") t8,.str (O "name") t9,.str (O "fn") t10,.str (O "rec") t11] n5,v6⟩)
   (g12:Yl K Yd (O "AT_ONCE")=Wx (Wx (.ref q3)))
   (h17:K.lookup q13=Wx ⟨.type "tuple",r14,.seq #[.str (O "num") t18,.str (O "fn") t19,.str (O "rec") t20] n15,v16⟩)
   (g21:Yl K Yd (O "VALUES")=Wx (Wx (.ref q13)))
   (g23:Yl K Yd (O "BEYOND")=Wx (Wx (.int 1000000 t22)))
   (h28:K.lookup q24=Wx ⟨.type "tuple",r25,.seq #[.str (O "apply") t29,.str (O "work") t30,.str (O "choose") t31] n26,v27⟩)
   (g32:Yl K Yd (O "ORDERS")=Wx (Wx (.ref q24)))
   (h44:K.lookup q40=Wx ⟨.type "tuple",r41,.seq #[.int 1 t45,.int 1 t46] n42,v43⟩)
   (h53:K.lookup q49=Wx ⟨.type "tuple",r50,.seq #[.int 2 t54,.int 1 t55] n51,v52⟩)
   (h62:K.lookup q58=Wx ⟨.type "tuple",r59,.seq #[.int 0 t63,.int 2 t64] n60,v61⟩)
   (h71:K.lookup q67=Wx ⟨.type "tuple",r68,.seq #[.int 0 t72,.int 3 t73] n69,v70⟩)
   (h80:K.lookup q76=Wx ⟨.type "tuple",r77,.seq #[.int 0 t81,.int 2 t82] n78,v79⟩)
   (h89:K.lookup q85=Wx ⟨.type "tuple",r86,.seq #[.int 0 t90,.int 2 t91] n87,v88⟩)
   (h98:K.lookup q94=Wx ⟨.type "tuple",r95,.seq #[.int 0 t99,.int 2 t100] n96,v97⟩)
   (h107:K.lookup q103=Wx ⟨.type "tuple",r104,.seq #[.int 0 t108,.int 2 t109] n105,v106⟩)
   (g35:Yl K Yd (O "FORMS")=Wx (Wx (.ref q33)))
   (h36:K.lookup q33=Wx ⟨.type "dict",Wy,.dict #[⟨j38,.str (O "fn") t39,.ref q40⟩,⟨j47,.str (O "rec") t48,.ref q49⟩,⟨j56,.str (O "call") t57,.ref q58⟩,⟨j65,.str (O "if") t66,.ref q67⟩,⟨j74,.str (O "+") t75,.ref q76⟩,⟨j83,.str (O "-") t84,.ref q85⟩,⟨j92,.str (O "*") t93,.ref q94⟩,⟨j101,.str (O "<") t102,.ref q103⟩] e34,#[]⟩)
   (x110:j38=hashStr w (O "fn"))
   (x111:j47=hashStr w (O "rec"))
   (x112:j56=hashStr w (O "call"))
   (x113:j65=hashStr w (O "if"))
   (x114:j74=hashStr w (O "+"))
   (x115:j83=hashStr w (O "-"))
   (x116:j92=hashStr w (O "*"))
   (x117:j101=hashStr w (O "<"))
   (w37:(q33==Ye)=WA):Md Pr w K mg pg kl:=by
 have D_FORMS:∃ a kvs',mg (O "FORMS")=Wx (.ref a)/\DkK Pr w K a kvs'/\∀ H B,RKs ⟨K,mg⟩ H B (cD.lookup (O "FORMS") |>.getD []) kvs':=by
   refine ⟨q33,[(YE (O "fn"),(.ref q40)),(YE (O "rec"),(.ref q49)),(YE (O "call"),(.ref q58)),(YE (O "if"),(.ref q67)),(YE (O "+"),(.ref q76)),(YE (O "-"),(.ref q85)),(YE (O "*"),(.ref q94)),(YE (O "<"),(.ref q103))],YO X G g35,⟨_,_,_,[(YE (O "fn"),.ref q40),(YE (O "rec"),.ref q49),(YE (O "call"),.ref q58),(YE (O "if"),.ref q67),(YE (O "+"),.ref q76),(YE (O "-"),.ref q85),(YE (O "*"),.ref q94),(YE (O "<"),.ref q103)],h36,⟨rfl,rfl,rfl⟩,rfl,?_,(.cons (Zv (O "fn") t39) rfl (.cons (Zv (O "rec") t48) rfl (.cons (Zv (O "call") t57) rfl (.cons (Zv (O "if") t66) rfl (.cons (Zv (O "+") t75) rfl (.cons (Zv (O "-") t84) rfl (.cons (Zv (O "*") t93) rfl (.cons (Zv (O "<") t102) rfl .nil)))))))),(by show ([YE (O "fn"),YE (O "rec"),YE (O "call"),YE (O "if"),YE (O "+"),YE (O "-"),YE (O "*"),YE (O "<")]:List Key).Nodup;decide +kernel),(.cons ⟨rfl,Z1⟩ (.cons ⟨rfl,Z1⟩ (.cons ⟨rfl,Z1⟩ (.cons ⟨rfl,Z1⟩ (.cons ⟨rfl,Z1⟩ (.cons ⟨rfl,Z1⟩ (.cons ⟨rfl,Z1⟩ (.cons ⟨rfl,Z1⟩ .nil)))))))),(by show 8<=sizeLine;decide),w37⟩,fun _ _=>(.cons (.tup (Zc5 (vs:=[(.int 1),(.int 1)]) h44 (by show 2<=sizeLine;decide) (.cons Zy (.cons Zy .nil))) (.cons (.int _) (.cons (.int _) .nil))) (.cons (.tup (Zc5 (vs:=[(.int 2),(.int 1)]) h53 (by show 2<=sizeLine;decide) (.cons Zy (.cons Zy .nil))) (.cons (.int _) (.cons (.int _) .nil))) (.cons (.tup (Zc5 (vs:=[(.int 0),(.int 2)]) h62 (by show 2<=sizeLine;decide) (.cons Zy (.cons Zy .nil))) (.cons (.int _) (.cons (.int _) .nil))) (.cons (.tup (Zc5 (vs:=[(.int 0),(.int 3)]) h71 (by show 2<=sizeLine;decide) (.cons Zy (.cons Zy .nil))) (.cons (.int _) (.cons (.int _) .nil))) (.cons (.tup (Zc5 (vs:=[(.int 0),(.int 2)]) h80 (by show 2<=sizeLine;decide) (.cons Zy (.cons Zy .nil))) (.cons (.int _) (.cons (.int _) .nil))) (.cons (.tup (Zc5 (vs:=[(.int 0),(.int 2)]) h89 (by show 2<=sizeLine;decide) (.cons Zy (.cons Zy .nil))) (.cons (.int _) (.cons (.int _) .nil))) (.cons (.tup (Zc5 (vs:=[(.int 0),(.int 2)]) h98 (by show 2<=sizeLine;decide) (.cons Zy (.cons Zy .nil))) (.cons (.int _) (.cons (.int _) .nil))) (.cons (.tup (Zc5 (vs:=[(.int 0),(.int 2)]) h107 (by show 2<=sizeLine;decide) (.cons Zy (.cons Zy .nil))) (.cons (.int _) (.cons (.int _) .nil))) .nil))))))))⟩;exact (by
       intro e he;simp only [List.mem_toArray,O3,List.not_mem_nil,or_false] at he;rcases he with rfl|rfl|rfl|rfl|rfl|rfl|rfl|rfl
       . exact ⟨YE (O "fn"),Zv (O "fn") t39,x110⟩
       . exact ⟨YE (O "rec"),Zv (O "rec") t48,x111⟩
       . exact ⟨YE (O "call"),Zv (O "call") t57,x112⟩
       . exact ⟨YE (O "if"),Zv (O "if") t66,x113⟩
       . exact ⟨YE (O "+"),Zv (O "+") t75,x114⟩
       . exact ⟨YE (O "-"),Zv (O "-") t84,x115⟩
       . exact ⟨YE (O "*"),Zv (O "*") t93,x116⟩
       . exact ⟨YE (O "<"),Zv (O "<") t102,x117⟩
     )
 refine ⟨tb0,fun x kvs hx=>?_,fun x d hx=>?_,?_,fun x fd hx=>?_,?_,?_,?_,?_⟩
 . have hm:(x,kvs)∈cD:=lookup_mem hx;have e:(x,kvs)=((O "FORMS"),(cD.lookup (O "FORMS") |>.getD [])):=by
     simp only [cD,O3,List.not_mem_nil,or_false] at hm;exact hm
   cases e;exact D_FORMS
 . have hm:(x,d)∈cG:=lookup_mem hx;have all:All (fun p:Str×D=>∃ v u,mg p.1=Wx u/\RelV v u/\∀ H B,RD ⟨K,mg⟩ H B p.2 v) cG:=⟨⟨(.int 120),_,YO X G g2,Zy,fun _ _=>(.int _)⟩,⟨(.ref q3),_,YO X G g12,Z1,fun _ _=>(.tup (Zc5 (vs:=[(.str (O "num")),(.str (O "name")),(.str (O "fn")),(.str (O "rec"))]) h7 (by show 4<=sizeLine;decide) (.cons Zad (.cons Zad (.cons Zad (.cons Zad .nil))))) (.cons (.str _ (by decide +kernel)) (.cons (.str _ (by decide +kernel)) (.cons (.str _ (by decide +kernel)) (.cons (.str _ (by decide +kernel)) .nil)))))⟩,⟨(.ref q13),_,YO X G g21,Z1,fun _ _=>(.tup (Zc5 (vs:=[(.str (O "num")),(.str (O "fn")),(.str (O "rec"))]) h17 (by show 3<=sizeLine;decide) (.cons Zad (.cons Zad (.cons Zad .nil)))) (.cons (.str _ (by decide +kernel)) (.cons (.str _ (by decide +kernel)) (.cons (.str _ (by decide +kernel)) .nil))))⟩,⟨(.int 1000000),_,YO X G g23,Zy,fun _ _=>(.int _)⟩,⟨(.ref q24),_,YO X G g32,Z1,fun _ _=>(.tup (Zc5 (vs:=[(.str (O "apply")),(.str (O "work")),(.str (O "choose"))]) h28 (by show 3<=sizeLine;decide) (.cons Zad (.cons Zad (.cons Zad .nil)))) (.cons (.str _ (by decide +kernel)) (.cons (.str _ (by decide +kernel)) (.cons (.str _ (by decide +kernel)) .nil))))⟩,⟨.ref q33,_,YO X G g35,rfl,fun _ _=>.kd (YO X G g35)⟩,trivial⟩;exact all.mem _ hm
 . have all:All (fun x:Str=>mg x=Wy) ["len", "isinstance", "int", "tuple", "list", "sum", "all", "sorted", "range", "enumerate", "reversed", "str", "bool", "max"]:=⟨Ym X G z1,Ym X G z2,Ym X G z3,Ym X G z4,Ym X G z5,Ym X G z6,Ym X G z7,Ym X G z8,Ym X G z9,Ym X G z10,Ym X G z11,Ym X G z12,Ym X G z13,Ym X G z14,trivial⟩
   exact all.mem
 . have hm:(x,fd)∈tb:=lookup_mem hx;have all:All (fun p:Str×Fd=>∃ st f fdd,DefOk K mg kl fs p.1 p.2 st f fdd) tb:=⟨Ze X G d1 ZgR,Ze X G d2 ZkG,Ze X G d3 ZkM,Ze X G d4 ZgQ,Ze X G d5 Zq4,Ze X G d6 ZoK,Ze X G d7 ZmT,Ze X G d8 ZkO,Ze X G d9 ZkD,Ze X G d10 ZmW,Ze X G d11 ZmV,Ze X G d12 Zfj,Ze X G d13 ZoL,Ze X G d14 ZkH,Ze X G d15 ZoH,Ze X G d16 ZkL,Ze X G d17 ZoJ,Ze X G d18 ZgM,Ze X G d19 ZhZ,Ze X G d20 ZkC,Ze X G d21 ZoN,Ze X G d22 ZoM,Ze X G d23 ZoG,Ze X G d24 ZoO,Ze X G d25 ZkF,Ze X G d26 ZmR,Ze X G d27 ZoI,Ze X G d28 Zh0,Ze X G d29 Zjb,Ze X G d30 ZgK,Ze X G d31 ZgL,Ze X G d32 ZmX,Ze X G d33 ZmU,Ze X G d34 ZkE,Ze X G d35 Zjc,Ze X G d36 Zji,Ze X G d37 ZkN,Ze X G d38 ZhX,Ze X G d39 Zjj,Ze X G d40 ZgP,Ze X G d41 Zjh,Ze X G d42 ZkJ,Ze X G d43 Zjg,Ze X G d44 Zje,Ze X G d45 Zjf,Ze X G d46 Zgm,Ze X G d47 ZhY,Ze X G d48 ZmS,Ze X G d49 Zjd,Ze X G d50 ZkK,Ze X G d51 ZgN,Ze X G d52 ZkI,Ze X G d53 ZgO,Ze X G d54 ZvJ,trivial⟩
   exact all.mem _ hm
 . have all:All (fun C=>∃ a,mg C=Wx (.ref a)/\Cls K a/\∀ f∈kl.ats,ZaV K a f) kl.cs:=⟨⟨ca1,YO X G y1a,⟨y1b,y1c,y1d,y1e⟩,(show All (fun f=>ZaV K ca1 f) kl.ats from ⟨y1n1,y1n2,trivial⟩).mem⟩,trivial⟩
   exact all.mem
 . have all:All (fun p:Str×Str=>∃ a f fdd fd st q,mg p.1=Wx (.ref a)/\Cls K a/\Meth K a p.2 f/\pg.look (mnm p.1 p.2)=Wx fd/\BodyOk K kl (pg.tb.map (·.1)) p.2 q fd st f fdd) kl.ms:=⟨Zfw X G y1a ⟨y1b,y1c,y1d,y1e⟩ u2 ZeQ (by kernel_rfl),Zfw X G y1a ⟨y1b,y1c,y1d,y1e⟩ u3 Zh1 (by kernel_rfl),Zfw X G y1a ⟨y1b,y1c,y1d,y1e⟩ u4 Zh2 (by kernel_rfl),Zfw X G y1a ⟨y1b,y1c,y1d,y1e⟩ u5 ZkP (by kernel_rfl),trivial⟩
   exact all.mem
 . have all:All (fun C:Str=>∃ a f fdd fd st q,mg C=Wx (.ref a)/\Mk K a f/\pg.look (mnm C (O "__init__"))=Wx fd/\BodyOk K kl (pg.tb.map (·.1)) (O "__init__") q fd st f fdd) kl.is:=⟨Ztm X G y1a y1m y1k u1 Zgn (by kernel_rfl),trivial⟩
   exact all.mem
 . have all:All (fun C:Str=>∃ a,mg C=Wx (.ref a)/\XOk K a) kl.xs:=⟨⟨xa1,YO X G o1a,⟨⟨o1b,L2.isSome_of o1c,o1d⟩,o1e,o1f⟩⟩,trivial⟩
   exact all.mem
end K35
end
section
set_option maxHeartbeats 4000000
open PySem PySem.W PyProof.Rows
local macro_rules|`(tactic| wtm_at "dg")=>`(tactic| (refine' ⟨_,_,?na,L2.ZoZ ?l ?c ?k⟩;(case na=>k_is);(case l=>k_is);(case c=>k_is);(case k=>k_is)))
local macro_rules|`(tactic| wtm_at "mg")=>`(tactic| (refine' ⟨_,_,?na,?f,?k,L2.ZoZ ?l ?c ?kk⟩;(case na=>k_is);(case f=>k_is);(case l=>k_is);(case c=>k_is);(case k=>k_is);(case kk=>k_is)))
set_option maxRecDepth 100000 in
set_option maxHeartbeats 0 in
theorem PySem.Challenge.cw_samestride_k35_whole_dump_in_step_holds : PySem.Challenge.rw_samestride_k35_whole_dump_in_step.Holds := by
 refine K35hd ?_
 k_fill
 refine IV.Zun (l:=PySem.Challenge.rw_samestride_k35_whole_dump_in_step) (P:=K35.pg) 250 rfl rfl rfl ⟨rfl,by decide,by decide⟩ (kl:=K35.kl) (λw h Y=>PySem.W.kIn_of Y) K35.ZtA rfl K35.runs ?MM0
 case MM0=>
  intro w mg h KX G;refine' K35.md KX G ?tb0 ?d1 ?d2 ?d3 ?d4 ?d5 ?d6 ?d7 ?d8 ?d9 ?d10 ?d11 ?d12 ?d13 ?d14 ?d15 ?d16 ?d17 ?d18 ?d19 ?d20 ?d21 ?d22 ?d23 ?d24 ?d25 ?d26 ?d27 ?d28 ?d29 ?d30 ?d31 ?d32 ?d33 ?d34 ?d35 ?d36 ?d37 ?d38 ?d39 ?d40 ?d41 ?d42 ?d43 ?d44 ?d45 ?d46 ?d47 ?d48 ?d49 ?d50 ?d51 ?d52 ?d53 ?d54 ?y1a ?y1b ?y1c ?y1d ?y1e ?y1n1 ?y1n2 ?y1m ?y1k ?u1 ?u2 ?u3 ?u4 ?u5 ?o1a ?o1b ?o1c ?o1d ?o1e ?o1f ?z1 ?z2 ?z3 ?z4 ?z5 ?z6 ?z7 ?z8 ?z9 ?z10 ?z11 ?z12 ?z13 ?z14 ?g2 ?h7 ?g12 ?h17 ?g21 ?g23 ?h28 ?g32 ?h44 ?h53 ?h62 ?h71 ?h80 ?h89 ?h98 ?h107 ?g35 ?h36 ?x110 ?x111 ?x112 ?x113 ?x114 ?x115 ?x116 ?x117 ?w37
  (case tb0=>(first|k_is|kernel_rfl|decide +kernel))
  (case y1a=>k_is)
  (case y1b=>k_is)
  (case y1c=>k_is)
  (case y1d=>k_is)
  (case y1e=>k_is)
  (case y1n1=>k_is)
  (case y1n2=>k_is)
  (case y1m=>k_is)
  (case y1k=>k_is)
  (case u1=>wtm_at "mg")
  (case u2=>wtm_at "mg")
  (case u3=>wtm_at "mg")
  (case u4=>wtm_at "mg")
  (case u5=>wtm_at "mg")
  (case o1a=>k_is)
  (case o1b=>k_is)
  (case o1c=>k_is)
  (case o1d=>k_is)
  (case o1e=>k_exc)
  (case o1f=>k_is)
  (case d1=>wtm_at "dg")
  (case d2=>wtm_at "dg")
  (case d3=>wtm_at "dg")
  (case d4=>wtm_at "dg")
  (case d5=>wtm_at "dg")
  (case d6=>wtm_at "dg")
  (case d7=>wtm_at "dg")
  (case d8=>wtm_at "dg")
  (case d9=>wtm_at "dg")
  (case d10=>wtm_at "dg")
  (case d11=>wtm_at "dg")
  (case d12=>wtm_at "dg")
  (case d13=>wtm_at "dg")
  (case d14=>wtm_at "dg")
  (case d15=>wtm_at "dg")
  (case d16=>wtm_at "dg")
  (case d17=>wtm_at "dg")
  (case d18=>wtm_at "dg")
  (case d19=>wtm_at "dg")
  (case d20=>wtm_at "dg")
  (case d21=>wtm_at "dg")
  (case d22=>wtm_at "dg")
  (case d23=>wtm_at "dg")
  (case d24=>wtm_at "dg")
  (case d25=>wtm_at "dg")
  (case d26=>wtm_at "dg")
  (case d27=>wtm_at "dg")
  (case d28=>wtm_at "dg")
  (case d29=>wtm_at "dg")
  (case d30=>wtm_at "dg")
  (case d31=>wtm_at "dg")
  (case d32=>wtm_at "dg")
  (case d33=>wtm_at "dg")
  (case d34=>wtm_at "dg")
  (case d35=>wtm_at "dg")
  (case d36=>wtm_at "dg")
  (case d37=>wtm_at "dg")
  (case d38=>wtm_at "dg")
  (case d39=>wtm_at "dg")
  (case d40=>wtm_at "dg")
  (case d41=>wtm_at "dg")
  (case d42=>wtm_at "dg")
  (case d43=>wtm_at "dg")
  (case d44=>wtm_at "dg")
  (case d45=>wtm_at "dg")
  (case d46=>wtm_at "dg")
  (case d47=>wtm_at "dg")
  (case d48=>wtm_at "dg")
  (case d49=>wtm_at "dg")
  (case d50=>wtm_at "dg")
  (case d51=>wtm_at "dg")
  (case d52=>wtm_at "dg")
  (case d53=>wtm_at "dg")
  (case d54=>wtm_at "dg")
  (case z1=>k_is)
  (case z2=>k_is)
  (case z3=>k_is)
  (case z4=>k_is)
  (case z5=>k_is)
  (case z6=>k_is)
  (case z7=>k_is)
  (case z8=>k_is)
  (case z9=>k_is)
  (case z10=>k_is)
  (case z11=>k_is)
  (case z12=>k_is)
  (case z13=>k_is)
  (case z14=>k_is)
  (case g2=>k_is)
  (case g12=>k_is)
  (case h7=>k_is)
  (case g21=>k_is)
  (case h17=>k_is)
  (case g23=>k_is)
  (case g32=>k_is)
  (case h28=>k_is)
  (case g35=>k_is)
  (case h36=>k_is)
  (case h44=>k_is)
  (case h53=>k_is)
  (case h62=>k_is)
  (case h71=>k_is)
  (case h80=>k_is)
  (case h89=>k_is)
  (case h98=>k_is)
  (case h107=>k_is)
  (case x110=>(first|rfl|k_is|fail))
  (case x111=>(first|rfl|k_is|fail))
  (case x112=>(first|rfl|k_is|fail))
  (case x113=>(first|rfl|k_is|fail))
  (case x114=>(first|rfl|k_is|fail))
  (case x115=>(first|rfl|k_is|fail))
  (case x116=>(first|rfl|k_is|fail))
  (case x117=>(first|rfl|k_is|fail))
  (case w37=>rfl)
end
